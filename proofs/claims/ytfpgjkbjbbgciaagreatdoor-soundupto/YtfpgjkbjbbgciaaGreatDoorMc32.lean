import Derived.Test.YtfpgjkbjbbgciaaGreatDoorMc30
import Derived.Test.YtfpgjkbjbbgciaaGreatDoorMc31
set_option maxRecDepth 100000
set_option maxHeartbeats 8000000
namespace Go.Proofs.YtfpgjkbjbbgciaaGreatDoor
open Go.RowKit Sp
def ziC (w : World) (mm : Mc) : Ending → World → Prop:=fun e w' => ∃ ao no co,e = .returned (.agg (zbA mm (.slice ao no co) mm.line).toArray) ∧ w'.ownsRow w.heap.size 2 1 (.slice ao no co) mm.out.length (i64s mm.out) ∧ Below w.heap.size w w'
theorem zkK (L : List Said) (w : World) (b g cap2 : Nat) (m : Mc) (bv iv ov : Value) (R : RefAt w b g cap2 L m bv iv ov) (hn : L.length ≤ 300) (A : AtOk L m) :
  ∃ ao no co,ov = .slice ao no co ∧ Calls Tryz.prog 56 #[.pointer (some ⟨b,0,none⟩)] w fun e w' => e = .returned (.agg (zbA m (.slice ao no co) m.line).toArray) ∧ Below w.heap.size w w':=by
 obtain ⟨ao,co,rfl⟩:=zc4 R.out
 refine ⟨ao,_,co,rfl,?_⟩
 have hr:=R.mem.range
 have hl:=zcM m (.slice ao m.out.length co) 0
 have h28:=zrk m (.slice ao m.out.length co) 0
 have h29:=zrl m (.slice ao m.out.length co) 0
 have ho:=zcN m ao m.out.length co 0
 have cA:=R.mem.cAt
 rcases A with ⟨h | h,ha⟩ | ⟨hf,k,hk,hlt,_⟩
 ·rw [show m.line = 0 by unfold Mc.line; rw [if_pos (.inl h)]]
  rw [ha] at cA
  exact zoT w b _ _ m.fin hl ho hr h28 h29 cA h (zfZ _ _ _ _) (zcN _ _ _ _ _)
 ·rw [show m.line = 0 by unfold Mc.line; rw [if_pos (.inr h)]]
  rw [ha] at cA
  exact zoU w b _ _ m.fin hl ho hr h28 h29 cA h (zfZ _ _ _ _) (zcN _ _ _ _ _)
 ·rw [show m.line = (k : Int) + 1 by unfold Mc.line; rw [if_neg (by omega),hk]]
  rw [hk] at cA
  exact zrq w b k _ _ m.fin hl ho hr h28 h29 cA (by omega) (by rcases hf with h | h | h <;> rw [h] <;> rfl) (by rcases hf with h | h | h <;> rw [h] <;> rfl) (zfZ _ _ _ _) (zcN _ _ _ _ _)
def stepsAt (w : World) (b : Nat) : Nat:=match w.cell? ⟨b,4,none⟩ with | some (.int _ s) => s.toNat | _ => 0
theorem RefM.stepsAt {w : World} {b : Nat} {lv bv iv ov : Value} {m : Mc} (h : RefM w b lv bv iv ov m) : Go.Proofs.YtfpgjkbjbbgciaaGreatDoor.stepsAt w b = m.steps.toNat:=by unfold Go.Proofs.YtfpgjkbjbbgciaaGreatDoor.stepsAt; rw [h.cS]
structure RunAt (L : List Said) (n g cap2 b : Nat) (w0 wr : World) (FIN m : Mc) (bv iv ov : Value) : Prop where
 ref : RefAt wr b g cap2 L m bv iv ov
 inv : m.fin = 0 → InvR L m
 fin : m.fin = 0 ∨ m.fin = 1 ∨ m.fin = 2
 ok : AtOk L m
 st0 : 0 ≤ m.steps
 st1 : m.steps ≤ (n : Int)
 inp : m.inp.length ≤ 1048576
 run : FIN = runS (zb9 L) (n - m.steps.toNat) m
 low : Below w0.heap.size w0 wr
theorem RunAt.round {L : List Said} {n g cap2 b : Nat} {w0 wr : World} {FIN m : Mc} {bv iv ov : Value} (Z : RunAt L n g cap2 b w0 wr FIN m bv iv ov) (G : Good L) (hL : LinesIn w0 g L) (hb : w0.heap.size ≤ b) (hn : n ≤ 100000) (hlt : m.steps < (n : Int)) :
  (Calls Tryz.prog 55 #[.pointer (some ⟨b,0,none⟩)] wr fun e w' => e = .returned (.bool true) ∧ ∃ m2 bv' iv' ov',RunAt L n g cap2 b w0 w' FIN m2 bv' iv' ov' ∧ m2.steps = m.steps + 1) ∨
  (Calls Tryz.prog 55 #[.pointer (some ⟨b,0,none⟩)] wr fun e w' => e = .returned (.bool false) ∧ ∃ bv' iv' ov',RefAt w' b g cap2 L FIN bv' iv' ov' ∧ AtOk L FIN ∧ Below w0.heap.size w0 w'):=by
 by_cases h0 : m.fin = 0
 ·have hI:=Z.inv h0
  obtain ⟨hc,hinv⟩:=zri G Z.ref hI h0 hL Z.low hb (by omega) Z.inp
  obtain ⟨hA,hS,hin⟩:=zv9 hI h0 hinv
  have hrun : FIN = runS (zb9 L) (n - m.steps.toNat - 1) (zb9 L m):=by
   rw [Z.run,show n - m.steps.toNat = (n - m.steps.toNat - 1) + 1 by have:=Z.st0; omega,zcj _ _ _ h0]
   rfl
  rcases hS with ⟨hf,hs⟩ | ⟨hf,hs⟩
  ·right
   refine hc.mono ?_
   rintro e w' ⟨h1,bv',iv',ov',hR,hB⟩
   have hF : FIN = zb9 L m:=by rw [hrun,zcY _ _ _ (by omega)]
   refine ⟨by rw [h1,show decide (¬ ((zb9 L m).fin = 3 ∨ (zb9 L m).fin = 4)) = false by simp; omega],bv',iv',ov',by rw [hF]; exact hR,by rw [hF]; exact hA,Z.low.trans (hB.mono hb)⟩
  ·left
   refine hc.mono ?_
   rintro e w' ⟨h1,bv',iv',ov',hR,hB⟩
   refine ⟨by rw [h1,show decide (¬ ((zb9 L m).fin = 3 ∨ (zb9 L m).fin = 4)) = true by simp; omega],zb9 L m,bv',iv',ov',⟨hR,hinv,hf,hA,by have:=Z.st0; omega,by omega,by have:=Z.inp; omega,?_,Z.low.trans (hB.mono hb)⟩,hs⟩
   rw [hrun,hs]
   congr 1
   have:=Z.st0
   omega
 ·right
  refine (zoS wr b _ bv iv ov m Z.ref.mem (by simpa using h0)).mono ?_
  rintro e w' ⟨h1,rfl⟩
  have hF : FIN = m:=by rw [Z.run,zcY _ _ _ h0]
  exact ⟨h1,bv,iv,ov,by rw [hF]; exact Z.ref,by rw [hF]; exact Z.ok,Z.low⟩
theorem zhv {w w' : World} {B b o n : Nat} (h : w.there b o n) (hb : Below B w w') (hB : b < B) : w'.there b o n:=fun j hj => by
 obtain ⟨h1,h2⟩:=h j hj
 exact ⟨by rw [hb.cell (p:=⟨b,o + j,none⟩) hB]; exact h1,by rw [World.frozen?_of_block (w:=w) (hb.block b hB)]; exact h2⟩
theorem zfb {W1 w3 w4 : World} {r : Nat} (ht1 : W1.there r 0 30) (hs1 : W1.heap.size = r + 1) (hb3 : Below W1.heap.size W1 w3) (hb4 : Below w3.heap.size w3 w4) (ds : List Value) (hl : ds.length = 30) : w4.there r 0 ds.toArray.size:=by
 rw [show ds.toArray.size = 30 by simp [hl]]
 have h3:=zhv ht1 hb3 (by omega)
 exact zhv h3 hb4 (by have:=hb3.size; omega)
theorem zga (ds : List Value) (hl : ds.length = 30) : (Tryz.prog.info? 34).map (·.size) = some ds.toArray.size:=by rw [show ds.toArray.size = 30 by simp [hl]]; exact Tryz.info34
theorem ziD {w W1 w3 w4 : World} {g cap2 : Nat} {L : List Said} {FIN : Mc} {bv iv : Value} {ao : Option Addr} {no co : Nat} {act : Act} (ht1 : W1.there w.heap.size 0 30) (hs1 : W1.heap.size = w.heap.size + 1) (hb1 : Below w.heap.size w W1) (hb3 : Below W1.heap.size W1 w3) (R3 : RefAt w3 (w.heap.size + 1) g cap2 L FIN bv iv (.slice ao no co)) (hb4 : Below w3.heap.size w3 w4)
  (hp : act.tmps.getD 6 undef = .pointer (some ⟨w.heap.size,0,none⟩)) (hd : act.defers = []) :
  bodyPost Tryz.prog Tryz.f24 (ziC w FIN) .ret act (w4.setCells w.heap.size 0 (zbA FIN (.slice ao no co) FIN.line)):=by
 have hl:=zcM FIN (.slice ao no co) FIN.line
 have ht4:=zfb ht1 hs1 hb3 hb4 _ hl
 generalize hds : zbA FIN (.slice ao no co) FIN.line = ds at hl ht4
 have hu34 : Tryz.prog.underlying 34 = some (.struct _):=Tryz.underlying34
 have hr:=World.rangeAt_setCells_same w4 w.heap.size 0 ds (by rw [show ds.length = ds.toArray.size by simp]; exact ht4)
 have hres:=run_loadVar_mid (w4.setCells w.heap.size 0 ds) w.heap.size 0 34 ds _ hr hu34 rfl (by rw [hl]; exact Tryz.info34)
 have hb14 : Below w.heap.size w w4:=(hb1.trans (hb3.mono (by omega))).trans (hb4.mono (by have:=hb3.size; omega))
 refine bodyPost_ret (v:=.agg ds.toArray) (zca Tryz.results24 _ ⟨w.heap.size,0,none⟩ hp hres) hd ⟨ao,no,co,by rw [hds],?_,zbd ds 0 hb14 (Nat.le_refl _)⟩
 have ho:=zci R3.out hb4 (Nat.le_refl _)
 have ho2 : (w4.setCells w.heap.size 0 ds).ownsRow (w.heap.size + 1 + 1) 2 1 (.slice ao no co) FIN.out.length (i64s FIN.out):=zaB ho (fun q hq => zeK ds w4 _ _ _ (by have:=(ho.lt q hq).1; omega))
 exact zcR ho2 (by omega)
theorem zoV (w : World) (g cap2 n icap : Nat) (ao : Option Addr) (L : List Said) (inp : List Int) (G : Good L) (hL : LinesIn w g L) (hiv : SlB w w.heap.size (.slice ao inp.length icap) inp) (hin : inp.length ≤ 1048576) (hn : n ≤ 100000) :
  Calls Tryz.prog 24 #[.slice (some ⟨g,0,none⟩) L.length cap2,.slice ao inp.length icap,.int .i64 (n : Int)] w (ziC w (runS (zb9 L) n (zdB L inp))):=by
 obtain ⟨p,hp,h2,hz⟩:=G.head
 have e1 : zcp L 0 = p:=zfY L 0 p hp h2 (by omega) (fun j h _ hb => hz j h hb)
 have hb1 : Below w.heap.size w (w.alloc Z34):=(Below.refl _ _).alloc (Nat.le_refl _) _
 have hs1 : (w.alloc Z34).heap.size = w.heap.size + 1:=by simp
 have ht1:=zeq w
 have hbeg:=zrj (w.alloc Z34) g cap2 p icap ao L inp (hL.below hb1) G.few hp h2 hz (zac L (p + 1)) rfl (by
  obtain ⟨ao',cap',q1,q2,q3⟩:=hiv
  refine ⟨ao',cap',q1,q2,fun hp => ?_⟩
  obtain ⟨ig,io,r1,r2,r3,r4⟩:=q3 hp
  exact ⟨ig,io,r1,by omega,by omega,fun j hj => (hb1.cell (p:=⟨ig,io + j,none⟩) r3).trans (r4 j hj)⟩)
 have hI:=zrp G inp
 have em : zdB L inp = ⟨zac L (p + 1),[],inp,0,fun _ => 0,fun _ => 0,[],1,1,0⟩:=by unfold zdB; rw [e1]
 rw [em] at hI ⊢
 generalize hm0 : (⟨zac L (p + 1),[],inp,0,fun _ => 0,fun _ => 0,[],1,1,0⟩ : Mc) = m0 at hbeg hI ⊢
 have f0 : m0.fin = 0 ∧ m0.steps = 0 ∧ m0.inp = inp:=by rw [← hm0]; exact ⟨rfl,rfl,rfl⟩
 obtain ⟨f1,f2,f3⟩:=f0
 generalize hF : runS (zb9 L) n m0 = FIN
 have HF : Hid (FIN = runS (zb9 L) n m0):=hF.symm
 clear hF hm0 em e1
 have hu34 : Tryz.prog.underlying 34 = some (.struct _):=Tryz.underlying34
 rw [hs1] at hbeg
 clear hiv
 go_enter Tryz.func24,Tryz.ntmps24
 go_wp2_with (first | (go_at_call 54; refine hbeg.mono ?_; rintro e W2 ⟨rfl,hR,hb2⟩))
 have hL1:=hL.below hb1
 clear hbeg hL
 generalize w.alloc Z34 = W1 at hb1 hs1 ht1 hb2 hL1
 go_loopw [8] (fun _ wr => ∃ (m : Mc) (bv iv ov : Value),RunAt L n g cap2 (w.heap.size + 1) W1 wr FIN m bv iv ov) (fun _ wr => n - stepsAt wr (w.heap.size + 1))
 case atStart => exact ⟨m0,_,_,_,⟨hR,fun _ => hI,.inl f1,.inr ⟨.inl f1,hI.at_⟩,by omega,by omega,by rw [f3]; exact hin,by rw [f2]; exact HF.out,by rw [hs1]; exact hb2⟩⟩
 case round =>
  obtain ⟨m,bv,iv,ov,Z⟩:=hrel
  have cS:=Z.ref.mem.cS
  clear hR hb2 HF hI f1 f2 f3
  by_cases hlt : m.steps < (n : Int)
  ·rcases Z.round G hL1 (by omega) hn hlt with hc | hc
   ·go_wp2_with (first | (go_at_call 55; refine hc.mono ?_; rintro e w3 ⟨rfl,m2,bv',iv',ov',Z2,hs⟩))
    have q1:=Z2.ref.mem.stepsAt
    have q2:=Z.ref.mem.stepsAt
    have q3:=Z.st0
    go_roundw
    case rel => exact ⟨m2,bv',iv',ov',Z2⟩
    case measure => rw [q1,q2]; omega
   ·go_wp2_with (first | (go_at_call 55; refine hc.mono ?_; rintro e w3 ⟨rfl,bv',iv',ov',R3,A3,hb3⟩; obtain ⟨ao',no',co',rfl,hst⟩:=zkK L w3 (w.heap.size + 1) g cap2 FIN bv' iv' ov' R3 G.few A3) | (go_at_call 56; refine hst.mono ?_; rintro e w4 ⟨rfl,hb4⟩; have ht4:=zfb ht1 hs1 hb3 hb4 _ (zcM FIN (.slice ao' no' co') FIN.line)) | (refine wpList_store_mid rfl 34 _ _ rfl w.heap.size 0 (zbA FIN (.slice ao' no' co') FIN.line).toArray rfl rfl ht4 (zga _ (zcM _ _ _)) (zcN _ _ _ _ _) ?_))
    exact ziD ht1 hs1 hb1 hb3 R3 hb4 rfl rfl
  ·have hF : FIN = m:=by
    rw [Z.run,show n - m.steps.toNat = 0 by have:=Z.st1; omega]; rfl
   subst hF
   have R3:=Z.ref
   have A3:=Z.ok
   have hb3:=Z.low
   obtain ⟨ao',no',co',rfl,hst⟩:=zkK L wr (w.heap.size + 1) g cap2 FIN bv iv ov R3 G.few A3
   go_wp2_with (first | (go_at_call 56; refine hst.mono ?_; rintro e w4 ⟨rfl,hb4⟩; have ht4:=zfb ht1 hs1 hb3 hb4 _ (zcM FIN (.slice ao' no' co') FIN.line)) | (refine wpList_store_mid rfl 34 _ _ rfl w.heap.size 0 (zbA FIN (.slice ao' no' co') FIN.line).toArray rfl rfl ht4 (zga _ (zcM _ _ _)) (zcN _ _ _ _ _) ?_))
   exact ziD ht1 hs1 hb1 hb3 R3 hb4 rfl rfl
structure Told where
 m : Mc
 at_ : Int
 err : Int
 line : Int
theorem SlB.mono {w w' : World} {v : Value} {l : List Int} (h : SlB w w.heap.size v l) (hb : Below w.heap.size w w') : SlB w' w'.heap.size v l:=by
 obtain ⟨ao,cap,h1,h2,h3⟩:=h
 refine ⟨ao,cap,h1,h2,fun hp => ?_⟩
 obtain ⟨g,o,e,hg,hg2,hc⟩:=h3 hp
 have:=hb.size
 exact ⟨g,o,e,by omega,by omega,fun j hj => (hb.cell (p:=⟨g,o + j,none⟩) hg).trans (hc j hj)⟩
theorem zj2 (L : List Said) (q j : Nat) (c : Int × Int) (hc : ¬ c = (0,0) → ¬ c.1 = 0) : ¬ pass L q j c = (0,0) → ¬ (pass L q j c).1 = 0:=by
 by_cases h : j < L.length
 ·cases hb : badB L q j with
  | true => rw [zdf L q j c h hb]; intro _; show ¬ (3 + (q : Int)) = 0; omega
  | false => rw [zbP L q j c h hb]; exact zj2 L q (j + 1) c hc
 ·rw [zdt L q j c h]; exact hc
termination_by L.length - j
theorem znz (L : List Said) (i : Nat) : ¬ zba L i = (0,0) → ¬ (zba L i).1 = 0:=by
 by_cases h : i < L.length
 ·by_cases h1 : L[i].kind = 0
  ·rw [ze4 L i h h1]; exact znz L (i + 1)
  ·by_cases h2 : L[i].kind = 102
   ·rw [zfr L i h h1 h2]
    exact zj2 L 0 0 _ (zj2 L 1 0 _ (zj2 L 2 0 _ (fun h => absurd rfl h)))
   ·rw [zfs L i h h1 h2]; intro _; show ¬ (2 : Int) = 0; decide
 ·rw [zdL L i h]; intro _; decide
termination_by L.length - i
theorem zuJ (A : List ByteArray) (i : Nat) : ¬ zb1 A i = (0,0) → ¬ (zb1 A i).1 = 0:=by
 by_cases h : i < A.length
 ·cases h1 : (say A[i]).ok with
  | true => rw [ze5 A i h h1]; exact zuJ A (i + 1)
  | false => rw [zd7 A i h h1]; intro _; show ¬ (1 : Int) = 0; decide
 ·rw [zft A i h]; exact znz _ 0
termination_by A.length - i
theorem zvA {s : ByteArray} (h : ¬ zbN s = (0,0)) : ((zbN s).1 != 0) = true:=by
 rw [bne_iff_ne]
 revert h
 unfold zbN
 split
 ·intro _; decide
 ·exact zuJ _ 0
def InC (N : Nat) (z : Int) : Prop:=∃ k : Nat,z = (k : Int) ∧ k < N
def ztI (N p : Nat) : Ins → Prop
 | .jump to => InC N to
 | .less _ _ to => InC N to ∧ p + 1 < N
 | .same _ _ to => InC N to ∧ p + 1 < N
 | .call to => InC N to ∧ p + 1 < N
 | .back => True
 | .stop => True
 | _ => p + 1 < N
structure InvD (N : Nat) (m : Mc) : Prop where
 at_ : InC N m.at'
 backs : ∀ z ∈ m.backs,InC N z
 frames : m.frames = if m.fin = 2 then 0 else (m.backs.length : Int) + 1
 few : m.backs.length ≤ 15
 peak : ∃ p : Nat,m.peak = (p : Int) ∧ p ≤ 16
 steps : 0 ≤ m.steps
 out : (m.out.length : Int) ≤ m.steps
theorem InvD.inv {N : Nat} {m : Mc} (I : InvD N m) (hN : N ≤ 300) (h : m.fin = 0) : InvC m:=by
 obtain ⟨k,hk,hlt⟩:=I.at_
 have hf:=I.frames
 rw [if_neg (by omega)] at hf
 exact ⟨by omega,by omega,hf,I.few,I.peak,I.steps,I.out⟩
theorem InvD.goes {N : Nat} {m m1 : Mc} {z : Int} (I : InvD N m) (h : InC N z) (e1 : m1.backs = m.backs) (e2 : m1.frames = m.frames) (e3 : m1.peak = m.peak) (e4 : m1.steps = m.steps) (e5 : m1.out.length ≤ m.out.length + 1) (e6 : m1.fin = m.fin) : InvD N (m1.goes z):=by
 have hs:=I.steps
 have ho:=I.out
 refine ⟨h,?_,?_,?_,?_,?_,?_⟩
 ·show ∀ z ∈ m1.backs,_; rw [e1]; exact I.backs
 ·show m1.frames = if m1.fin = 2 then 0 else (m1.backs.length : Int) + 1; rw [e1,e2,e6]; exact I.frames
 ·show m1.backs.length ≤ 15; rw [e1]; exact I.few
 ·show ∃ p : Nat,m1.peak = (p : Int) ∧ p ≤ 16; rw [e3]; exact I.peak
 ·show 0 ≤ m1.steps + 1; omega
 ·show (m1.out.length : Int) ≤ m1.steps + 1; omega
theorem InvD.fault {N : Nat} {m : Mc} {x : Int} (I : InvD N m) (h : m.fin = 0) (hx : ¬ x = 2) : InvD N { m with fin:=x }:=by
 have hf:=I.frames
 rw [if_neg (by omega)] at hf
 exact ⟨I.at_,I.backs,by show m.frames = if x = 2 then 0 else (m.backs.length : Int) + 1; rw [if_neg hx]; exact hf,I.few,I.peak,I.steps,I.out⟩
theorem InvD.step {N p : Nat} {m : Mc} {i : Ins} (I : InvD N m) (hfin : m.fin = 0) (hp : m.at' = (p : Int)) (hl : ztI N p i) : InvD N (zbl i m):=by
 have hnx : p + 1 < N → InC N (m.at' + 1):=fun h => ⟨p + 1,by omega,h⟩
 have hf:=I.frames
 rw [if_neg (by omega)] at hf
 cases i with
 | set r k => rw [zai (.inl rfl) hfin]; exact I.goes (hnx hl) rfl rfl rfl rfl (Nat.le_succ _) rfl
 | mov r s => rw [zai (.inl rfl) hfin]; exact I.goes (hnx hl) rfl rfl rfl rfl (Nat.le_succ _) rfl
 | alu o r s t => rw [zai (.inl rfl) hfin]; exact I.goes (hnx hl) rfl rfl rfl rfl (Nat.le_succ _) rfl
 | inc r k => rw [zai (.inl rfl) hfin]; exact I.goes (hnx hl) rfl rfl rfl rfl (Nat.le_succ _) rfl
 | load r s =>
  by_cases hn : m.regs s < 0 ∨ 15 < m.regs s
  ·have e1 : exec (.load r s) (m.at' + 1) m = { m with fin:=3 }:=if_pos hn
   rw [zai (.inr (by rw [e1]; show (2 : Int) < 3; decide)) hfin,e1]
   exact I.fault hfin (by decide)
  ·have e1 : exec (.load r s) (m.at' + 1) m = { m with regs:=upd m.regs r (m.cells (m.regs s).toNat) }.goes (m.at' + 1):=if_neg hn
   rw [zai (.inl (by rw [e1]; rfl)) hfin,e1]
   exact I.goes (hnx hl) rfl rfl rfl rfl (Nat.le_succ _) rfl
 | store r s =>
  by_cases hn : m.regs r < 0 ∨ 15 < m.regs r
  ·have e1 : exec (.store r s) (m.at' + 1) m = { m with fin:=3 }:=if_pos hn
   rw [zai (.inr (by rw [e1]; show (2 : Int) < 3; decide)) hfin,e1]
   exact I.fault hfin (by decide)
  ·have e1 : exec (.store r s) (m.at' + 1) m = { m with cells:=upd m.cells (m.regs r).toNat (m.regs s) }.goes (m.at' + 1):=if_neg hn
   rw [zai (.inl (by rw [e1]; rfl)) hfin,e1]
   exact I.goes (hnx hl) rfl rfl rfl rfl (Nat.le_succ _) rfl
 | read r => rw [zai (.inl rfl) hfin]; exact I.goes (hnx hl) rfl rfl rfl rfl (Nat.le_succ _) rfl
 | write r => rw [zai (.inl rfl) hfin]; exact I.goes (hnx hl) rfl rfl rfl rfl (by show (m.out ++ [_]).length ≤ _; simp) rfl
 | jump to => rw [zai (.inl rfl) hfin]; exact I.goes hl rfl rfl rfl rfl (Nat.le_succ _) rfl
 | less r s to =>
  rw [zai (.inl rfl) hfin]
  refine I.goes (m1:=m) ?_ rfl rfl rfl rfl (Nat.le_succ _) rfl
  split
  ·exact hl.1
  ·exact hnx hl.2
 | same r s to =>
  rw [zai (.inl rfl) hfin]
  refine I.goes (m1:=m) ?_ rfl rfl rfl rfl (Nat.le_succ _) rfl
  split
  ·exact hl.1
  ·exact hnx hl.2
 | call to =>
  by_cases h16 : m.frames = 16
  ·have e1 : exec (.call to) (m.at' + 1) m = { m with fin:=4 }:=if_pos h16
   rw [zai (.inr (by rw [e1]; show (2 : Int) < 4; decide)) hfin,e1]
   exact I.fault hfin (by decide)
  ·have e1 : exec (.call to) (m.at' + 1) m = { m with backs:=m.backs ++ [m.at' + 1],frames:=m.frames + 1,peak:=max m.peak (m.frames + 1) }.goes to:=if_neg h16
   rw [zai (.inl (by rw [e1]; rfl)) hfin,e1]
   have hs:=I.steps
   have ho:=I.out
   have hw:=I.few
   obtain ⟨pk,hpk,hpk1⟩:=I.peak
   refine ⟨hl.1,?_,?_,?_,?_,?_,?_⟩
   ·show ∀ z ∈ m.backs ++ [m.at' + 1],_
    intro z hz
    rw [List.mem_append,List.mem_singleton] at hz
    rcases hz with hz | rfl
    ·exact I.backs z hz
    ·exact hnx hl.2
   ·show m.frames + 1 = if m.fin = 2 then 0 else ((m.backs ++ [m.at' + 1]).length : Int) + 1
    rw [if_neg (by omega),hf]; simp
   ·show (m.backs ++ [m.at' + 1]).length ≤ 15
    simp; omega
   ·show ∃ q : Nat,max m.peak (m.frames + 1) = (q : Int) ∧ q ≤ 16
    exact ⟨max pk (m.backs.length + 2),by rw [hpk,hf]; omega,by omega⟩
   ·show 0 ≤ m.steps + 1; omega
   ·show (m.out.length : Int) ≤ m.steps + 1; omega
 | back =>
  have hs:=I.steps
  have ho:=I.out
  by_cases h1 : m.frames = 1
  ·have e0 : exec .back (m.at' + 1) m = { m with frames:=0,fin:=2 }.goes (-1):=if_pos h1
   have e1 : zbl .back m = { m with steps:=m.steps + 1,frames:=0,fin:=2 }:=by
    unfold zbl; rw [e0,if_pos (.inr rfl)]; rfl
   rw [e1]
   exact ⟨I.at_,I.backs,by show (0 : Int) = if (2 : Int) = 2 then 0 else _; rw [if_pos rfl],I.few,I.peak,by show 0 ≤ m.steps + 1; omega,by show (m.out.length : Int) ≤ m.steps + 1; omega⟩
  ·have e0 : exec .back (m.at' + 1) m = { m with frames:=m.frames - 1,backs:=m.backs.dropLast }.goes (m.backs.getLastD 0):=if_neg h1
   rw [zai (.inl (by rw [e0]; rfl)) hfin,e0]
   obtain ⟨J,x,hJ⟩ : ∃ I x,m.backs = I ++ [x]:=by
    rcases List.eq_nil_or_concat m.backs with h | ⟨I,x,h⟩
    ·rw [h] at hf; simp at hf; omega
    ·exact ⟨I,x,by rw [h,List.concat_eq_append]⟩
   have hb:=I.backs
   have hw:=I.few
   rw [hJ] at hb hw hf
   simp at hw hf
   refine ⟨?_,?_,?_,?_,I.peak,?_,?_⟩
   ·show InC N (m.backs.getLastD 0)
    rw [hJ]; simp
    exact hb x (by simp)
   ·show ∀ z ∈ m.backs.dropLast,_
    rw [hJ]; simp
    intro z hz
    exact hb z (by simp [hz])
   ·show m.frames - 1 = if m.fin = 2 then 0 else (m.backs.dropLast.length : Int) + 1
    rw [if_neg (by omega),hJ]; simp; omega
   ·show m.backs.dropLast.length ≤ 15
    rw [hJ]; simp; omega
   ·show 0 ≤ m.steps + 1; omega
   ·show (m.out.length : Int) ≤ m.steps + 1; omega
 | stop =>
  have hs:=I.steps
  have ho:=I.out
  have e1 : zbl .stop m = { m with steps:=m.steps + 1,fin:=1 }:=by
   unfold zbl; rw [show exec .stop (m.at' + 1) m = { m with fin:=1 }.goes (-1) from rfl,if_pos (.inl rfl)]; rfl
  rw [e1]
  exact ⟨I.at_,I.backs,by show m.frames = if (1 : Int) = 2 then 0 else _; rw [if_neg (by decide)]; exact hf,I.few,I.peak,by show 0 ≤ m.steps + 1; omega,by show (m.out.length : Int) ≤ m.steps + 1; omega⟩
theorem zmo (i : Ins) (m : Mc) (h : m.fin = 0) :
  (((zbl i m).fin = 0 ∨ (zbl i m).fin = 1 ∨ (zbl i m).fin = 2) ∧ (zbl i m).steps = m.steps + 1 ∨ ((zbl i m).fin = 3 ∨ (zbl i m).fin = 4) ∧ (zbl i m).steps = m.steps) ∧ (zbl i m).inp.length ≤ m.inp.length:=by
 obtain ⟨F,hi⟩:=ziB i (m.at' + 1) m h
 unfold zbl
 rcases F with ⟨h1,h2⟩ | ⟨h1,_,h2⟩ | ⟨h1,_,h2⟩
 ·rw [if_neg (by omega)]; exact ⟨.inl ⟨.inl h1,h2⟩,hi⟩
 ·rw [if_pos h1]; exact ⟨.inl ⟨.inr h1,h2⟩,hi⟩
 ·rw [if_neg (by omega)]; exact ⟨.inr ⟨h1,h2⟩,hi⟩
def CodeIn (w : World) (g : Nat) (C : List (Ins × Int)) : Prop:=∀ j (h : j < C.length),w.cell? ⟨g,j * 2,none⟩ = some (.iface (insT C[j].1) (.agg (insA C[j].1))) ∧ w.cell? ⟨g,j * 2 + 1,none⟩ = some (.int .i64 C[j].2)
structure CodeOk (C : List (Ins × Int)) : Prop where
 some_ : 0 < C.length
 few : C.length ≤ 300
 ok : ∀ j (h : j < C.length),zkJ C[j].1
 leads : ∀ j (h : j < C.length),ztI C.length j C[j].1
def zdh (C : List (Ins × Int)) (m : Mc) : Mc:=match C[m.at'.toNat]? with | none => m | some q => zbl q.1 m
theorem zj3 {C : List (Ins × Int)} {m : Mc} {k : Nat} (hk : m.at' = (k : Int)) (h : k < C.length) : zdh C m = zbl C[k].1 m:=by
 unfold zdh; rw [hk,Int.toNat_natCast,List.getElem?_eq_getElem h]
def zcw (inp : List Int) : Mc:=⟨0,[],inp,0,fun _ => 0,fun _ => 0,[],1,1,0⟩
theorem CodeIn.below {w w' : World} {g B : Nat} {C : List (Ins × Int)} (h : CodeIn w g C) (hb : Below B w w') (hg : g < B) : CodeIn w' g C:=fun j hj => ⟨(hb.cell (p:=⟨g,j * 2,none⟩) hg).trans (h j hj).1,(hb.cell (p:=⟨g,j * 2 + 1,none⟩) hg).trans (h j hj).2⟩
theorem ziE {C : List (Ins × Int)} (K : CodeOk C) (inp : List Int) : InvD C.length (zcw inp) :=
 ⟨⟨0,rfl,K.some_⟩,by simp [zcw],rfl,by simp [zcw],⟨1,rfl,by omega⟩,Int.le_refl _,Int.le_refl _⟩
end Go.Proofs.YtfpgjkbjbbgciaaGreatDoor
