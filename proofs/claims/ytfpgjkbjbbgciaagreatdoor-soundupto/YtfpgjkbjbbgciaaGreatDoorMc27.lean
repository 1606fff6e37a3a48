import Derived.Test.YtfpgjkbjbbgciaaGreatDoorMc25
set_option maxRecDepth 100000
set_option maxHeartbeats 8000000
namespace Go.Proofs.YtfpgjkbjbbgciaaGreatDoor
open Go.RowKit Sp
def SlB (w : World) (b : Nat) (v : Value) (l : List Int) : Prop:=∃ ao cap,v = .slice ao l.length cap ∧ l.length ≤ cap ∧ (0 < l.length → ∃ g o,ao = some ⟨g,o,none⟩ ∧ g < b ∧ g < w.heap.size ∧ ∀ j (h : j < l.length),w.cell? ⟨g,o + j,none⟩ = some (.int .i64 l[j]))
theorem SlB.below {w w' : World} {b : Nat} {v : Value} {l : List Int} (h : SlB w b v l) (hb : Below b w w') : SlB w' b v l:=by
 obtain ⟨ao,cap,h1,h2,h3⟩:=h
 refine ⟨ao,cap,h1,h2,fun hp => ?_⟩
 obtain ⟨g,o,e,hg,hg2,hc⟩:=h3 hp
 exact ⟨g,o,e,hg,Nat.lt_of_lt_of_le hg2 hb.size,fun j hj => (hb.cell (p:=⟨g,o + j,none⟩) hg).trans (hc j hj)⟩
theorem LinesIn.below {w w' : World} {g : Nat} {L : List Said} (h : LinesIn w g L) (hb : Below w.heap.size w w') : LinesIn w' g L:=by
 have c : ∀ p u,w.cell? p = some u → w'.cell? p = some u:=fun p u hp => (hb.cell (World.block_lt_of_cell? w p hp)).trans hp
 refine ⟨fun i hi => c _ _ (h.kind i hi),fun i hi hp => ?_,h.wf⟩
 obtain ⟨b,k,h1,h2⟩:=h.words i hi hp
 exact ⟨b,k,c _ _ h1,fun j hj => c _ _ (h2 j hj)⟩
structure RefAt (w : World) (b g cap2 : Nat) (L : List Said) (m : Mc) (bv iv ov : Value) : Prop where
 mem : RefM w b (.slice (some ⟨g,0,none⟩) L.length cap2) bv iv ov m
 backs : w.ownsRow (b + 1) 3 1 bv m.backs.length (i64s m.backs)
 out : w.ownsRow (b + 1) 2 1 ov m.out.length (i64s m.out)
 inp : SlB w b iv m.inp
theorem zcq {w : World} {b : Nat} {e : TypeId} {size n : Nat} {v : Value} {xs : List Value} (h : w.ownsRow (b + 1) e size v n xs) : v.ownBlock ≠ some b:=fun hb => by have:=(h.lt b hb).1; omega
theorem zfa {w w' : World} {b : Nat} (hb : b < w.heap.size) (hg : w.grownBy w' (some b)) : Below b w w':=(Below.refl b w).grown hg (by omega) (fun j hj => by cases hj; exact Nat.le_refl _)
theorem RefAt.same {w w' : World} {b g cap2 : Nat} {L : List Said} {m m2 : Mc} {bv iv ov : Value} (h : RefAt w b g cap2 L m bv iv ov) (hM : RefM w' b (.slice (some ⟨g,0,none⟩) L.length cap2) bv iv ov m2) (hg : w.grownBy w' (some b)) (e1 : m2.backs = m.backs) (e2 : m2.out = m.out) (e3 : m2.inp = m.inp) :
  RefAt w' b g cap2 L m2 bv iv ov ∧ Below b w w':=by
 have hb:=zfa h.mem.lt hg
 refine ⟨⟨hM,?_,?_,?_⟩,hb⟩
 ·rw [e1]; exact h.backs.kept hg (.inr (zcq h.backs))
 ·rw [e2]; exact h.out.kept hg (.inr (zcq h.out))
 ·rw [e3]; exact h.inp.below hb
def zaU (w : World) (b g cap2 : Nat) (L : List Said) (m2 : Mc) : Ending → World → Prop:=fun e w' =>
 e = .returned (.bool (decide (¬ (m2.fin = 3 ∨ m2.fin = 4)))) ∧ ∃ bv iv ov,RefAt w' b g cap2 L m2 bv iv ov ∧ Below b w w'
structure RStep (w : World) (b wb wc g cap2 k : Nat) (L : List Said) (m : Mc) (bv iv ov : Value) (l : List ByteArray) (next : Int) : Prop where
 ref : RefAt w b g cap2 L m bv iv ov
 fin : m.fin = 0
 at_ : m.at' = (k : Int)
 lt : k < L.length
 few : L.length ≤ 300
 lines : LinesIn w g L
 low : ∀ W,Below b w W → LinesIn W g L
 wd : w.cell? ⟨g,k * 2 + 1,none⟩ = some (.slice (some ⟨wb,0,none⟩) l.length wc)
 words : WdIn w wb l
 apart : ¬ wb = b
 sizes : ∀ x ∈ l,x.size ≤ 1048576
 next_ : zac L (k + 1) = next
 st0 : 0 ≤ m.steps
 st1 : m.steps ≤ 100000
theorem WdIn.drewN {w : World} {wb : Nat} {l : List ByteArray} (h : WdIn w wb l) (n : Nat) : WdIn (w.drewN n) wb l:=h
theorem zb5 {w w' : World} {n : Nat} {r : Option Nat} (h : (w.drewN n).grownBy w' r) : w.grownBy w' r:=⟨h.os,h.tape,h.output,h.size,h.block⟩
theorem RStep.does {w : World} {b wb wc g cap2 k : Nat} {L : List Said} {m m1 : Mc} {bv iv ov : Value} {l : List ByteArray} {next : Int} (S : RStep w b wb wc g cap2 k L m bv iv ov l next)
  (hmv : ∀ n,Calls Tryz.prog 89 #[.pointer (some ⟨b,0,none⟩),.slice (some ⟨wb,0,none⟩) l.length wc,.int .i64 next] (w.drewN n) fun e w' => e = .returned (.tuple #[.int .i64 next,.bool false]) ∧ w' = w.drewN n)
  (hdo : ∀ n,Calls Tryz.prog 90 #[.pointer (some ⟨b,0,none⟩),.slice (some ⟨wb,0,none⟩) l.length wc] (w.drewN n) fun e w' => e = .returned (.tuple #[]) ∧ RefM w' b (.slice (some ⟨g,0,none⟩) L.length cap2) bv iv ov m1 ∧ (w.drewN n).grownBy w' (some b))
  (hf : m1.fin = 0) (hs : m1.steps = m.steps) (e1 : m1.backs = m.backs) (e2 : m1.out = m.out) (e3 : m1.inp = m.inp) :
  Calls Tryz.prog 55 #[.pointer (some ⟨b,0,none⟩)] w (zaU w b g cap2 L (m1.goes next)):=by
 have S0:=S.st0
 have S1:=S.st1
 refine (zht w b wb wc l.length g cap2 k bv iv ov L m m1 S.ref.mem S.fin S.at_ S.lt S.few S.lines S.wd next S.next_ (fun w1 bv' iv' ov' => w.grownBy w1 (some b) ∧ bv' = bv ∧ iv' = iv ∧ ov' = ov) 0 hmv
  (fun n => (hdo n).mono ?_) hf rfl rfl (by rw [hs]; omega)).mono ?_
 ·rintro e w' ⟨h1,h2,h3⟩
  exact ⟨h1,bv,iv,ov,h2,zb5 h3,rfl,rfl,rfl⟩
 ·rintro e w' ⟨rfl,w1,bv',iv',ov',hM,⟨hg,rfl,rfl,rfl⟩,hg2⟩
  obtain ⟨q1,q2⟩:=S.ref.same hM (zau hg hg2) e1 e2 e3
  refine ⟨?_,_,_,_,q1,q2⟩
  show _ = Ending.returned (.bool (decide (¬ (m1.fin = 3 ∨ m1.fin = 4))))
  rw [hf]; rfl
theorem RStep.stuck {w : World} {b wb wc g cap2 k : Nat} {L : List Said} {m m1 : Mc} {bv iv ov : Value} {l : List ByteArray} {next : Int} (S : RStep w b wb wc g cap2 k L m bv iv ov l next)
  (hmv : ∀ n,Calls Tryz.prog 89 #[.pointer (some ⟨b,0,none⟩),.slice (some ⟨wb,0,none⟩) l.length wc,.int .i64 next] (w.drewN n) fun e w' => e = .returned (.tuple #[.int .i64 next,.bool false]) ∧ w' = w.drewN n)
  (hdo : ∀ n,Calls Tryz.prog 90 #[.pointer (some ⟨b,0,none⟩),.slice (some ⟨wb,0,none⟩) l.length wc] (w.drewN n) fun e w' => e = .returned (.tuple #[]) ∧ RefM w' b (.slice (some ⟨g,0,none⟩) L.length cap2) bv iv ov m1 ∧ (w.drewN n).grownBy w' (some b))
  (hf : m1.fin = 3) (e1 : m1.backs = m.backs) (e2 : m1.out = m.out) (e3 : m1.inp = m.inp) :
  Calls Tryz.prog 55 #[.pointer (some ⟨b,0,none⟩)] w (zaU w b g cap2 L m1):=by
 refine (zoP w b wb wc l.length g cap2 k bv iv ov L m m1 S.ref.mem S.fin S.at_ S.lt S.few S.lines S.wd next S.next_ (fun w1 bv' iv' ov' => w.grownBy w1 (some b) ∧ bv' = bv ∧ iv' = iv ∧ ov' = ov) hmv
  (fun n => (hdo n).mono ?_) hf).mono ?_
 ·rintro e w' ⟨h1,h2,h3⟩
  exact ⟨h1,bv,iv,ov,h2,zb5 h3,rfl,rfl,rfl⟩
 ·rintro e w' ⟨rfl,bv',iv',ov',hM,hg,rfl,rfl,rfl⟩
  obtain ⟨q1,q2⟩:=S.ref.same hM hg e1 e2 e3
  refine ⟨?_,_,_,_,q1,q2⟩
  rw [hf]; rfl
theorem RStep.moves {w : World} {b wb wc g cap2 k : Nat} {L : List Said} {m m1 : Mc} {bv iv ov : Value} {l : List ByteArray} {next : Int} (S : RStep w b wb wc g cap2 k L m bv iv ov l next) (to z : Int)
  (hmv : ∀ n,Calls Tryz.prog 89 #[.pointer (some ⟨b,0,none⟩),.slice (some ⟨wb,0,none⟩) l.length wc,.int .i64 next] (w.drewN n) fun e w' => e = .returned (.tuple #[.int .i64 to,.bool true]) ∧ RefM w' b (.slice (some ⟨g,0,none⟩) L.length cap2) bv iv ov m1 ∧ (w.drewN n).grownBy w' (some b))
  (hf : m1.fin = z) (hz : z = 0 ∨ z = 1 ∨ z = 2) (hs : m1.steps = m.steps) (e1 : m1.backs = m.backs) (e2 : m1.out = m.out) (e3 : m1.inp = m.inp) :
  Calls Tryz.prog 55 #[.pointer (some ⟨b,0,none⟩)] w (zaU w b g cap2 L (m1.goes to)):=by
 have S0:=S.st0
 have S1:=S.st1
 refine (zfX w b wb wc l.length g cap2 k bv iv ov L m m1 S.ref.mem S.fin S.at_ S.lt S.few S.lines S.wd next S.next_ (fun w1 bv' iv' ov' => w.grownBy w1 (some b) ∧ bv' = bv ∧ iv' = iv ∧ ov' = ov) to z
  (fun n => (hmv n).mono ?_) hf (by rcases hz with rfl | rfl | rfl <;> rfl) (by rcases hz with rfl | rfl | rfl <;> rfl) (by rw [hs]; omega)).mono ?_
 ·rintro e w' ⟨h1,h2,h3⟩
  exact ⟨h1,bv,iv,ov,h2,zb5 h3,rfl,rfl,rfl⟩
 ·rintro e w' ⟨rfl,w1,bv',iv',ov',hM,⟨hg,rfl,rfl,rfl⟩,hg2⟩
  obtain ⟨q1,q2⟩:=S.ref.same hM (zau hg hg2) e1 e2 e3
  refine ⟨?_,_,_,_,q1,q2⟩
  show _ = Ending.returned (.bool (decide (¬ (m1.fin = 3 ∨ m1.fin = 4))))
  rw [hf]
  rcases hz with rfl | rfl | rfl <;> rfl
theorem ztA (w : World) (b wb cap r s t : Nat) (lv bv iv ov : Value) (m : Mc) (x1 x2 x3 : ByteArray) (h : RefM w b lv bv iv ov m) (hw : WdIn w wb [⟨#[97,100,100]⟩,x1,x2,x3]) (_hne : ¬ wb = b) (hr : r < 8) (hreg : reg x1 = (r : Int)) (hs : s < 8) (hreg2 : reg x2 = (s : Int)) (ht : t < 8) (hreg3 : reg x3 = (t : Int)) (hx1 : x1.size ≤ 1048576) (hx2 : x2.size ≤ 1048576) (hx3 : x3.size ≤ 1048576) :
  Calls Tryz.prog 90 #[.pointer (some ⟨b,0,none⟩),.slice (some ⟨wb,0,none⟩) 4 cap] w fun e w' => e = .returned (.tuple #[]) ∧ RefM w' b lv bv iv ov { m with regs:=upd m.regs r (zbv 0 (m.regs s) (m.regs t)) } ∧ w.grownBy w' (some b):=by
 have c0:=hw 0 (by simp)
 have c1:=hw 1 (by simp)
 have c2:=hw 2 (by simp)
 have c3:=hw 3 (by simp)
 simp only [List.getElem_cons_zero,List.getElem_cons_succ] at c0 c1 c2 c3
 have hcr:=h.cR r hr
 have hfz:=h.fz (5 + r)
 have hr0 : (0 : Int) ≤ (r : Int):=by omega
 have hr8 : (r : Int) < 8:=by omega
 have g1:=zal x1 r hreg hx1
 have hcs:=h.cR s hs
 have hs0 : (0 : Int) ≤ (s : Int):=by omega
 have hs8 : (s : Int) < 8:=by omega
 have hct:=h.cR t ht
 have ht0 : (0 : Int) ≤ (t : Int):=by omega
 have ht8 : (t : Int) < 8:=by omega
 have g2:=zal x2 s hreg2 hx2
 have g3:=zal x3 t hreg3 hx3
 have g4:=fun W => zoI (m.regs s) (m.regs t) W
 generalize zbv 0 (m.regs s) (m.regs t) = v at g4 ⊢
 go_enter Tryz.func90,Tryz.ntmps90
 go_wp2_with (first | (go_at_call 75; refine (g1 _).mono ?_; rintro e wx ⟨rfl,hww⟩; have hw2:=hww.symm; subst hw2))
 refine zdg 30 (by kernel_rfl) (by kernel_rfl) ?_
 simp only [List.take_succ_cons,List.take_zero,List.drop_succ_cons,List.drop_zero]
 repeat (go_big_quiet_step (first | (go_at_call 111; exact Calls.quiet_of_same (g4 _)) | (go_at_call_of 75 (Value.string x2); exact Calls.quiet_of_same (g2 _)) | (go_at_call_of 75 (Value.string x3); exact Calls.quiet_of_same (g3 _))))
 refine wpQuiet_nil ?_
 rintro _ ⟨nq,rfl⟩
 go_wp2
 go_end0
 exact ⟨rfl,(h.drewN nq).setR r hr _,zae (zbf _ _)⟩
theorem ztB (w : World) (b wb cap r s t : Nat) (lv bv iv ov : Value) (m : Mc) (x1 x2 x3 : ByteArray) (h : RefM w b lv bv iv ov m) (hw : WdIn w wb [⟨#[115,117,98]⟩,x1,x2,x3]) (_hne : ¬ wb = b) (hr : r < 8) (hreg : reg x1 = (r : Int)) (hs : s < 8) (hreg2 : reg x2 = (s : Int)) (ht : t < 8) (hreg3 : reg x3 = (t : Int)) (hx1 : x1.size ≤ 1048576) (hx2 : x2.size ≤ 1048576) (hx3 : x3.size ≤ 1048576) :
  Calls Tryz.prog 90 #[.pointer (some ⟨b,0,none⟩),.slice (some ⟨wb,0,none⟩) 4 cap] w fun e w' => e = .returned (.tuple #[]) ∧ RefM w' b lv bv iv ov { m with regs:=upd m.regs r (zbv 1 (m.regs s) (m.regs t)) } ∧ w.grownBy w' (some b):=by
 have c0:=hw 0 (by simp)
 have c1:=hw 1 (by simp)
 have c2:=hw 2 (by simp)
 have c3:=hw 3 (by simp)
 simp only [List.getElem_cons_zero,List.getElem_cons_succ] at c0 c1 c2 c3
 have hcr:=h.cR r hr
 have hfz:=h.fz (5 + r)
 have hr0 : (0 : Int) ≤ (r : Int):=by omega
 have hr8 : (r : Int) < 8:=by omega
 have g1:=zal x1 r hreg hx1
 have hcs:=h.cR s hs
 have hs0 : (0 : Int) ≤ (s : Int):=by omega
 have hs8 : (s : Int) < 8:=by omega
 have hct:=h.cR t ht
 have ht0 : (0 : Int) ≤ (t : Int):=by omega
 have ht8 : (t : Int) < 8:=by omega
 have g2:=zal x2 s hreg2 hx2
 have g3:=zal x3 t hreg3 hx3
 have g4:=fun W => zoJ (m.regs s) (m.regs t) W
 generalize zbv 1 (m.regs s) (m.regs t) = v at g4 ⊢
 go_enter Tryz.func90,Tryz.ntmps90
 go_wp2_with (first | (go_at_call 75; refine (g1 _).mono ?_; rintro e wx ⟨rfl,hww⟩; have hw2:=hww.symm; subst hw2))
 refine zdg 30 (by kernel_rfl) (by kernel_rfl) ?_
 simp only [List.take_succ_cons,List.take_zero,List.drop_succ_cons,List.drop_zero]
 repeat (go_big_quiet_step (first | (go_at_call 111; exact Calls.quiet_of_same (g4 _)) | (go_at_call_of 75 (Value.string x2); exact Calls.quiet_of_same (g2 _)) | (go_at_call_of 75 (Value.string x3); exact Calls.quiet_of_same (g3 _))))
 refine wpQuiet_nil ?_
 rintro _ ⟨nq,rfl⟩
 go_wp2
 go_end0
 exact ⟨rfl,(h.drewN nq).setR r hr _,zae (zbf _ _)⟩
theorem zhr (w : World) (b wb cap k : Nat) (lv bv iv ov : Value) (m : Mc) (x : ByteArray) (next : Int) (h : RefM w b lv bv iv ov m) (hat : m.at' = (k : Int)) (hw : WdIn w wb [⟨#[99,97,108,108]⟩,x]) (hf : m.frames = 16) :
  Calls Tryz.prog 89 #[.pointer (some ⟨b,0,none⟩),.slice (some ⟨wb,0,none⟩) 2 cap,.int .i64 next] w fun e w' => e = .returned (.tuple #[.int .i64 (k : Int),.bool true]) ∧ RefM w' b lv bv iv ov { m with fin:=4 } ∧ w.grownBy w' (some b):=by
 have c0:=hw 0 (by simp)
 have c1:=hw 1 (by simp)
 simp only [List.getElem_cons_zero,List.getElem_cons_succ] at c0 c1
 have hca:=h.cAt
 rw [hat] at hca
 have hcf:=h.cF
 rw [hf] at hcf
 have hce:=h.cE
 have hfe:=h.fz 33
 go_enter Tryz.func89,Tryz.ntmps89
 go_wp2
 go_ret2
 exact ⟨rfl,h.setE 4,zae (Below.refl _ _)⟩
theorem zid (w : World) (b wb cap : Nat) (lv bv iv ov : Value) (m : Mc) (next : Int) (h : RefM w b lv bv iv ov m) (hw : WdIn w wb [⟨#[98,97,99,107]⟩]) (hf : m.frames = 1) :
  Calls Tryz.prog 89 #[.pointer (some ⟨b,0,none⟩),.slice (some ⟨wb,0,none⟩) 1 cap,.int .i64 next] w fun e w' => e = .returned (.tuple #[.int .i64 (-1),.bool true]) ∧ RefM w' b lv bv iv ov { m with frames:=0,fin:=2 } ∧ w.grownBy w' (some b):=by
 have c0:=hw 0 (by simp)
 simp only [List.getElem_cons_zero] at c0
 have hcf:=h.cF
 rw [hf] at hcf
 have hff:=h.fz 30
 have hce:=h.cE
 have hfe:=h.fz 33
 go_enter Tryz.func89,Tryz.ntmps89
 go_wp2
 go_ret2
 exact ⟨rfl,(h.setF 0).setE 2,zau (zae (Below.refl _ _)) (zae (Below.refl _ _))⟩
theorem zju (w : World) (b wb cap g c n f : Nat) (lv bv iv ov : Value) (m : Mc) (next to : Int) (l : List Int) (h : RefM w b lv bv iv ov m) (hw : WdIn w wb [⟨#[98,97,99,107]⟩]) (hf : m.frames = (f : Int) + 1) (hf0 : 0 < f) (hf1 : f ≤ 16) (hbv : bv = .slice (some ⟨g,0,none⟩) (n + 1) c) (hcg : w.cell? ⟨g,n,none⟩ = some (.int .i64 to)) (hgb : ¬ g = b) (hn : n ≤ 16) (hc : n + 1 ≤ c) :
  Calls Tryz.prog 89 #[.pointer (some ⟨b,0,none⟩),.slice (some ⟨wb,0,none⟩) 1 cap,.int .i64 next] w fun e w' => e = .returned (.tuple #[.int .i64 to,.bool true]) ∧ RefM w' b lv (.slice (some ⟨g,0,none⟩) n c) iv ov { m with frames:=m.frames - 1,backs:=l } ∧ w.grownBy w' (some b):=by
 have c0:=hw 0 (by simp)
 simp only [List.getElem_cons_zero] at c0
 have hcf:=h.cF
 rw [hf] at hcf
 have hff:=h.fz 30
 have hcb:=h.cB
 rw [hbv] at hcb
 have hfb:=h.fz 2
 have hbg : ¬ b = g:=fun e => hgb e.symm
 have hz : ((f : Int) == 0) = false:=by simp; omega
 have hw1 : IntKind.i64.wrap (f : Int) = (f : Int):=zcL _ (by omega) (by omega)
 have hw2 : IntKind.i64.wrap (n : Int) = (n : Int):=zcL _ (by omega) (by omega)
 have hn0 : (0 : Int) ≤ (n : Int):=by omega
 have hn1 : (n : Int) < (n : Int) + 1:=by omega
 have h1:=h.setF (f : Int)
 have hg1 : w.grownBy (w.setCell ⟨b,30,none⟩ (.int .i64 (f : Int))) (some b):=zae (Below.refl _ _)
 go_enter Tryz.func89,Tryz.ntmps89
 go_wp2_with fail
 have hcg1 : (w.setCell ⟨b,30,none⟩ (.int .i64 (f : Int))).cell? ⟨g,n,none⟩ = some (.int .i64 to):=(hg1.cell_far ⟨g,n,none⟩ (World.block_lt_of_cell? w _ hcg) (by simpa using hgb)).trans hcg
 clear hcf hff hcb hfb hcg c0 hw
 generalize w.setCell ⟨b,30,none⟩ (.int .i64 (f : Int)) = w1 at h1 hg1 hcg1 ⊢
 have hcb:=h1.cB
 rw [hbv] at hcb
 go_quiet (fail)
 replace h1:=h1.drewN nq
 replace hg1 : w.grownBy (w1.drewN nq) (some b):=⟨hg1.os,hg1.tape,hg1.output,hg1.size,hg1.block⟩
 clear hcb hcg1
 generalize w1.drewN nq = w2 at h1 hg1 ⊢
 have hcb:=h1.cB
 rw [hbv] at hcb
 have hfb:=h1.fz 2
 go_wp2_with fail
 refine zdg 14 (by kernel_rfl) (by kernel_rfl) ?_
 simp only [List.take_succ_cons,List.take_zero,List.drop_succ_cons,List.drop_zero]
 repeat (go_big_quiet_step (fail))
 refine wpQuiet_nil ?_
 rintro _ ⟨nr,rfl⟩
 go_wp2
 go_ret2
 have hR:=(h1.drewN nr).setB (.slice (some ⟨g,0,none⟩) n c) l
 have e : m.frames - 1 = (f : Int):=by omega
 rw [e]
 exact ⟨rfl,hR,zau hg1 (zae (zbf _ _))⟩
end Go.Proofs.YtfpgjkbjbbgciaaGreatDoor
