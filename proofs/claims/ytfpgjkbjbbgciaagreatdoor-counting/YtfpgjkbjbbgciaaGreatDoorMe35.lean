import Derived.Test.YtfpgjkbjbbgciaaGreatDoorMe34
set_option maxRecDepth 100000
set_option maxHeartbeats 8000000
namespace Go.Proofs.YtfpgjkbjbbgciaaGreatDoor
open Go.RowKit Sp
theorem zrm (v : Value) (w : World) : (method 422 171 v "Do").run Tryz.prog w = .ok (232,v) w:=by kernel_rfl
theorem zoP (args : Array Value) (w : World) : (callFunc 232 args).run Tryz.prog w = .ok (.enter 232 args) w:=by kernel_rfl
theorem zrn (v : Value) (w : World) : (method 422 172 v "Do").run Tryz.prog w = .ok (239,v) w:=by kernel_rfl
theorem zoQ (args : Array Value) (w : World) : (callFunc 239 args).run Tryz.prog w = .ok (.enter 239 args) w:=by kernel_rfl
theorem zro (v : Value) (w : World) : (method 422 173 v "Do").run Tryz.prog w = .ok (243,v) w:=by kernel_rfl
theorem zoR (args : Array Value) (w : World) : (callFunc 243 args).run Tryz.prog w = .ok (.enter 243 args) w:=by kernel_rfl
theorem ztF (i : Ins) (hi : zg2 i) (w : World) : (method 422 (insT i) (.agg (insA i)) "Do").run Tryz.prog w = .ok (insF i,.agg (insA i)) w:=by
 cases i with
 | alu o r s t =>
  have ho:=hi.1
  clear hi
  rcases (by omega : o = 0 ∨ o = 1 ∨ o = 2) with rfl | rfl | rfl
  ·exact zrm _ w
  ·exact zrn _ w
  ·exact zro _ w
 | _ => kernel_rfl
theorem zrp (i : Ins) (hi : zg2 i) (args : Array Value) (w : World) : (callFunc (insF i) args).run Tryz.prog w = .ok (.enter (insF i) args) w:=by
 cases i with
 | alu o r s t =>
  have ho:=hi.1
  clear hi
  rcases (by omega : o = 0 ∨ o = 1 ∨ o = 2) with rfl | rfl | rfl
  ·exact zoP args w
  ·exact zoQ args w
  ·exact zoR args w
 | _ => kernel_rfl
def stepsC (w : World) (b : Nat) : Nat:=match w.cell? ⟨b,28,none⟩ with | some (.int _ s) => s.toNat | _ => 0
theorem MchM.stepsC {w : World} {b : Nat} {bv iv ov : Value} {m : Mc} (h : MchM w b bv iv ov m) : Go.Proofs.YtfpgjkbjbbgciaaGreatDoor.stepsC w b = m.steps.toNat:=by unfold Go.Proofs.YtfpgjkbjbbgciaaGreatDoor.stepsC; rw [h.cS]
def finC (w : World) (b : Nat) : Nat:=match w.cell? ⟨b,30,none⟩ with | some (.int _ s) => (if s = 0 then 1 else 0) | _ => 0
theorem MchM.finC {w : World} {b : Nat} {bv iv ov : Value} {m : Mc} (h : MchM w b bv iv ov m) : Go.Proofs.YtfpgjkbjbbgciaaGreatDoor.finC w b = if m.fin = 0 then 1 else 0:=by unfold Go.Proofs.YtfpgjkbjbbgciaaGreatDoor.finC; rw [h.cE]
structure CRun (C : List (Ins × Int)) (n g b : Nat) (w0 wr : World) (FIN m : Mc) (bv iv ov : Value) : Prop where
 mch : MchAt wr b m bv iv ov
 inv : InvD C.length m
 st1 : m.steps ≤ (n : Int)
 inp : m.inp.length ≤ 9223372036854775807
 run : FIN = runS (zck C) (n - m.steps.toNat) m
 low : Below w0.heap.size w0 wr
theorem CRun.step {C : List (Ins × Int)} {n g b k : Nat} {w0 wr w' : World} {FIN m : Mc} {bv iv ov bv' iv' ov' : Value} (Z : CRun C n g b w0 wr FIN m bv iv ov) (K : CodeOk C) (h0 : m.fin = 0) (hlt : m.steps < (n : Int)) (hk : m.at' = (k : Int)) (hkl : k < C.length) (hb : w0.heap.size ≤ b) (M2 : MchAt w' b (zaM C[k].1 m) bv' iv' ov') (hB : Below b wr w') :
  CRun C n g b w0 w' FIN (zaM C[k].1 m) bv' iv' ov' ∧ (n - (zaM C[k].1 m).steps.toNat) * 2 + (if (zaM C[k].1 m).fin = 0 then 1 else 0) < (n - m.steps.toNat) * 2 + (if m.fin = 0 then 1 else 0):=by
 have q0:=Z.inv.steps
 obtain ⟨hF,hi⟩:=zhu C[k].1 m h0
 have hinp:=Z.inp
 have hrun : FIN = runS (zck C) (n - m.steps.toNat - 1) (zaM C[k].1 m):=by
  rw [Z.run,show n - m.steps.toNat = (n - m.steps.toNat - 1) + 1 by omega,zay _ _ _ h0,zgB hk hkl]
  rfl
 rw [if_pos h0]
 rcases hF with ⟨hf,hs⟩ | ⟨hf,hs⟩
 ·refine ⟨⟨M2,Z.inv.step h0 hk (K.leads k hkl),by omega,by omega,?_,Z.low.trans (hB.mono hb)⟩,by rw [hs]; split <;> omega⟩
  rw [hrun,hs]
  congr 1
  omega
 ·refine ⟨⟨M2,Z.inv.step h0 hk (K.leads k hkl),by omega,by omega,?_,Z.low.trans (hB.mono hb)⟩,by rw [hs,if_neg (by omega)]; omega⟩
  rw [hrun,zbQ _ _ _ (by omega),zbQ _ _ _ (by omega)]
theorem MchM.below {w w' : World} {b B : Nat} {bv iv ov : Value} {m : Mc} (h : MchM w b bv iv ov m) (hb : Below B w w') (hB : b < B) : MchM w' b bv iv ov m:=h.of_block (hb.block b hB)
def zn8 (w : World) (C : List (Ins × Int)) (FIN : Mc) : Ending → World → Prop:=fun e w' => ∃ ao no co,e = .returned (.agg (zak FIN (.slice ao no co) (zfQ C FIN)).toArray) ∧ w'.ownsRow w.heap.size 2 1 (.slice ao no co) FIN.out.length (i64s FIN.out) ∧ Below w.heap.size w w'
theorem zju {w w7 : World} {C : List (Ins × Int)} {FIN : Mc} {ao : Option Addr} {no co : Nat} {act : Act} (ds : List Value) (hds : zak FIN (.slice ao no co) (zfQ C FIN) = ds) (ht : w7.there w.heap.size 0 ds.toArray.size) (hb : Below w.heap.size w w7) (how : w7.ownsRow (w.heap.size + 1) 2 1 (.slice ao no co) FIN.out.length (i64s FIN.out))
  (hp : act.tmps.getD 6 undef = .pointer (some ⟨w.heap.size,0,none⟩)) (hd : act.defers = []) :
  bodyPost Tryz.prog Tryz.f53 (zn8 w C FIN) .ret act (w7.setCells w.heap.size 0 ds):=by
 have hl : ds.length = 30:=by rw [← hds]; exact zaE _ _ _
 have hu34 : Tryz.prog.underlying 34 = some (.struct _):=Tryz.underlying34
 have hr:=World.rangeAt_setCells_same w7 w.heap.size 0 ds (by rw [show ds.length = ds.toArray.size by simp]; exact ht)
 have hres:=run_loadVar_mid (w7.setCells w.heap.size 0 ds) w.heap.size 0 34 ds _ hr hu34 rfl (by rw [hl]; exact Tryz.info34)
 refine bodyPost_ret (v:=.agg ds.toArray) (zcM Tryz.results53 _ ⟨w.heap.size,0,none⟩ hp hres) hd ⟨ao,no,co,by rw [hds],?_,zam ds 0 hb (Nat.le_refl _)⟩
 have ho2 : (w7.setCells w.heap.size 0 ds).ownsRow (w.heap.size + 1) 2 1 (.slice ao no co) FIN.out.length (i64s FIN.out):=zaq how (fun q hq => za8 ds w7 _ _ _ (by have:=(how.lt q hq).1; omega))
 exact zb5 ho2 (by omega)
theorem zn9 (w : World) (g cap n icap : Nat) (ao : Option Addr) (C : List (Ins × Int)) (inp : List Int) (K : CodeOk C) (hC : CodeIn w g C) (hg : g < w.heap.size) (hiv : SlB w w.heap.size (.slice ao inp.length icap) inp) (hin : inp.length ≤ 9223372036854775807) (hn : n ≤ 100000) (FIN : Mc) (hF : runS (zck C) n (zbe inp) = FIN) :
  Calls Tryz.prog 53 #[.slice (some ⟨g,0,none⟩) C.length cap,.slice ao inp.length icap,.int .i64 (n : Int)] w (zn8 w C FIN):=by
 have hb1 : Below w.heap.size w (w.alloc Z34):=(Below.refl _ _).alloc (Nat.le_refl _) _
 have hs1 : (w.alloc Z34).heap.size = w.heap.size + 1:=by simp
 have ht1:=zdX w
 have hnew:=ztE (w.alloc Z34) ao icap inp (hiv.mono hb1)
 have hI:=zdv K inp
 have HF : Hid (FIN = runS (zck C) n (zbe inp)):=hF.symm
 clear hF
 have f1 : (zbe inp).steps = 0:=rfl
 have f2 : (zbe inp).inp = inp:=rfl
 have hf:=K.few
 generalize zbe inp = m0 at hnew hI HF f1 f2
 rw [hs1] at hnew
 have hC1:=hC.below hb1 hg
 clear hiv hC
 go_enter Tryz.func53,Tryz.ntmps53
 go_wp2_with (first | (go_at_call 82; refine hnew.mono ?_; rintro e W2 ⟨rfl,⟨bv0,iv0,ov0,hM0⟩,hb2⟩))
 clear hnew
 generalize w.alloc Z34 = W1 at hb1 hs1 ht1 hb2 hC1
 go_loopw [11] (fun _ wr => ∃ (m : Mc) (bv iv ov : Value),CRun C n g (w.heap.size + 1) W1 wr FIN m bv iv ov) (fun _ wr => (n - stepsC wr (w.heap.size + 1)) * 2 + finC wr (w.heap.size + 1))
 case atStart => exact ⟨m0,_,_,_,⟨hM0,hI,by omega,by rw [f2]; exact hin,by rw [f1]; exact HF.out,by rw [hs1]; exact hb2⟩⟩
 case round =>
  obtain ⟨m,bv,iv,ov,Z⟩:=hrel
  have cS:=Z.mch.mem.cS
  clear hM0 hb2 HF hI f1 f2
  have q0:=Z.inv.steps
  have g1:=zqR wr (w.heap.size + 1) bv iv ov m Z.mch.mem
  have g2:=zo8 wr (w.heap.size + 1) bv iv ov m Z.mch.mem
  by_cases hgo : m.fin = 0 ∧ m.steps < (n : Int)
  ·obtain ⟨h0,hlt⟩:=hgo
   obtain ⟨k,hk,hkl⟩:=Z.inv.at_
   have g3:=zhr wr (w.heap.size + 1) bv iv ov m Z.mch.mem
   rw [hk] at g3
   rw [show (m.fin == 0) = true by simp [h0]] at g1
   obtain ⟨hcell,_⟩:=(hC1.below Z.low (by omega)) k hkl
   have hdo:=zw3 C[k].1 (K.ok k hkl) Z.mch (Z.inv.inv hf h0) h0 (by omega) Z.inp
   have hmeth:=ztF C[k].1 (K.ok k hkl)
   have hcf:=zrp C[k].1 (K.ok k hkl)
   generalize hins : C[k].1 = i at hcell hdo hmeth hcf
   generalize insF i = F at hdo hmeth hcf
   have hk0 : (0 : Int) ≤ (k : Int):=by omega
   have hk1 : (k : Int) < (C.length : Int):=by omega
   go_wp2_with (first | (go_at_call 83; refine g1.mono ?_; rintro e wx ⟨rfl,hww⟩; have hw2:=hww.symm; subst hw2) | (go_at_call 84; refine g2.mono ?_; rintro e wx ⟨rfl,hww⟩; have hw2:=hww.symm; subst hw2) | (go_at_call 85; refine g3.mono ?_; rintro e wx ⟨rfl,hww⟩; have hw2:=hww.symm; subst hw2))
   refine hdo.mono ?_
   rintro e w3 ⟨rfl,bv',iv',ov',M2,hB⟩
   dsimp only
   rw [← hins] at M2
   obtain ⟨Z2,hms⟩:=Z.step K h0 hlt hk hkl (by omega) M2 hB
   have q1:=Z2.mch.mem.stepsC
   have q2:=Z.mch.mem.stepsC
   have q3:=Z2.mch.mem.finC
   have q4:=Z.mch.mem.finC
   go_wp2
   go_roundw
   case rel => exact ⟨_,bv',iv',ov',Z2⟩
   case measure => rw [q1,q2,q3,q4]; exact hms
  ·have hF : FIN = m:=by
    by_cases h0 : m.fin = 0
    ·rw [Z.run,show n - m.steps.toNat = 0 by have:=Z.st1; omega]; rfl
    ·rw [Z.run,zbQ _ _ _ h0]
   subst hF
   have M3:=Z.mch
   obtain ⟨ao',co',rfl⟩:=zb8 M3.out
   have hst:=zoI wr (w.heap.size + 1) bv iv ao' _ co' FIN M3 Z.inv.frames Z.inv.few
   generalize hno : FIN.out.length = no' at hst
   have hl:=zaE FIN (.slice ao' no' co') 0
   have h1:=zaO FIN ao' no' co' 0
   obtain ⟨ln,hlnq⟩ : ∃ ln,zfQ C FIN = ln:=⟨_,rfl⟩
   have HLN : Hid (zfQ C FIN = ln):=hlnq
   clear hlnq
   have hset:=zo6 FIN (.slice ao' no' co') 0 (ln)
   generalize hds : zak FIN (.slice ao' no' co') 0 = ds at hst hl h1 hset
   have hi:=zaU ds hl
   have hout:=M3.out
   rw [hno] at hout
   have hl2':=zaE FIN (.slice ao' no' co') (ln)
   have h12:=zaO FIN ao' no' co' (ln)
   generalize hds2 : zak FIN (.slice ao' no' co') (ln) = ds2 at hset hl2' h12
   have hi2:=zaU ds2 hl2'
   have hid2 : (Tryz.prog.info? 34).map (·.size) = some ds2.length:=by rw [hl2']; exact Tryz.info34
   have hu34 : Tryz.prog.underlying 34 = some (.struct _):=Tryz.underlying34
   obtain ⟨k,hk,hkl⟩:=Z.inv.at_
   have hk0 : (0 : Int) ≤ (k : Int):=by omega
   have hk1 : (k : Int) < (C.length : Int):=by omega
   by_cases h0 : FIN.fin = 0
   ·rw [show (FIN.fin == 0) = true by simp [h0]] at g1
    have hlt : decide (FIN.steps < (n : Int)) = false:=by simp; omega
    have hfin : decide (FIN.fin = 1 ∨ FIN.fin = 2) = false:=by simp [h0]
    have HLI : Hid (ln = C[k].2):=by rw [← HLN.out]; show zfQ C FIN = C[k].2; unfold zfQ; rw [if_neg (by omega),hk,Int.toNat_natCast,List.getElem?_eq_getElem hkl]; rfl
    go_wp2_with (first | (go_at_call 83; refine g1.mono ?_; rintro e wx ⟨rfl,hww⟩; have hw2:=hww.symm; subst hw2) | (go_at_call 84; refine g2.mono ?_; rintro e wx ⟨rfl,hww⟩; have hw2:=hww.symm; subst hw2))
    refine hst.mono ?_
    rintro e w4 ⟨rfl,hb4⟩
    dsimp only
    have ht5:=zcN (W1:=w4) rfl ds hl
    have hM4:=M3.mem.below hb4 M3.mem.lt
    have hsz4:=hb4.size
    have hszr:=M3.mem.lt
    have hB5 : Below w4.heap.size w4 ((w4.alloc Z34).setCells w4.heap.size 0 ds.toArray.toList):=zam _ 0 ((Below.refl w4.heap.size w4).alloc (Nat.le_refl _) _) (Nat.le_refl _)
    have hM5:=hM4.below hB5 (by omega)
    have g5:=zdA _ _ _ _ _ _ hM5
    rw [hfin] at g5
    have hr5 : ((w4.alloc Z34).setCells w4.heap.size 0 ds.toArray.toList).rangeAt w4.heap.size 0 ds:=by rw [show ds.toArray.toList = ds by simp]; exact World.rangeAt_setCells_same _ _ _ _ (by rw [show ds.length = ds.toArray.size by simp]; exact ht5)
    have hlow5 : Below w.heap.size w ((w4.alloc Z34).setCells w4.heap.size 0 ds.toArray.toList):=(hb1.trans (Z.low.mono (by omega))).trans ((hb4.mono (by omega)).trans (hB5.mono (by omega)))
    have hthere5 : ((w4.alloc Z34).setCells w4.heap.size 0 ds.toArray.toList).there w.heap.size 0 30:=zas (zas (zas ht1 Z.low (by omega)) hb4 (by omega)) hB5 (by omega)
    have how4:=zbx hout hb4 (Nat.le_refl _)
    have how4':=zbx how4 hB5 (Nat.le_refl _)
    have how5 : ((w4.alloc Z34).setCells w4.heap.size 0 ds.toArray.toList).ownsRow (w.heap.size + 1) 2 1 (.slice ao' no' co') FIN.out.length (i64s FIN.out):=by rw [hno]; exact zb5 how4' (by omega)
    have hC5:=((hC1.below Z.low (by omega)).below hb4 (by omega)).below hB5 (by omega)
    go_wp2_with (first | (refine wpList_store_mid rfl 34 _ _ rfl w4.heap.size 0 ds.toArray rfl rfl ht5 hi h1 ?_) | (go_at_call 87; refine g5.mono ?_; rintro e wx ⟨rfl,hww⟩; have hw2:=hww.symm; subst hw2; refine Hid.out ?_))
    unfold Hid
    have h28 : ds[28]? = some (.int .i64 0):=by rw [← hds]; exact zho _ _ _
    have hc28:=hr5 28 _ h28
    have hln:=hC5 k hkl
    have hl2:=hln.2
    rw [← HLI.out] at hl2
    have g6:=zhr _ _ _ _ _ _ hM5
    rw [hk] at g6
    have hf28 : ((w4.alloc Z34).setCells w4.heap.size 0 ds.toArray.toList).frozen? ⟨w4.heap.size,28,none⟩ = false:=(World.there_setCells ht5 _ _ _ 28 (by simp [hl])).2
    have hr6:=zkp (n:=28) (v:=.int .i64 (ln)) hr5 hc28
    rw [hset] at hr6
    have ht6 : (((w4.alloc Z34).setCells w4.heap.size 0 ds.toArray.toList).setCell ⟨w4.heap.size,0 + 28,none⟩ (.int .i64 (ln))).there w.heap.size 0 ds2.toArray.size:=by rw [show ds2.toArray.size = 30 by simp [hl2']]; exact zhp hthere5 _ _
    have how6 : (((w4.alloc Z34).setCells w4.heap.size 0 ds.toArray.toList).setCell ⟨w4.heap.size,0 + 28,none⟩ (.int .i64 (ln))).ownsRow (w.heap.size + 1) 2 1 (.slice ao' no' co') FIN.out.length (i64s FIN.out):=zaq how5 (fun q hq => Below.heap_setCell _ _ _ _ (fun e => by have h9:=(hout.lt q hq).2; simp only at e; omega))
    have hlow6:=hlow5.setCell (p:=⟨w4.heap.size,0 + 28,none⟩) (by show w.heap.size ≤ w4.heap.size; omega) (.int .i64 (ln))
    clear hln hC5
    simp only [Nat.zero_add] at hr6 ht6 how6 hlow6 hf28 hc28 hl2 g6
    repeat (first
     | (go_at_call 85; refine g6.mono ?_; rintro e wx ⟨rfl,rfl⟩; dsimp only)
     | (refine wpList_load_mid rfl 34 _ rfl w4.heap.size 0 rfl ds2 _ hr6 hu34 rfl hid2 ?_)
     | (refine wpList_store_mid rfl 34 _ _ rfl w.heap.size 0 ds2.toArray rfl rfl ht6 hi2 h12 ?_)
     | go_values | go_skip | go_guarded | go_step | go_upon | go_back)
    exact zju ds2 (by rw [HLN.out]; exact hds2) ht6 hlow6 how6 rfl rfl
   ·rw [show (FIN.fin == 0) = false by simp [h0]] at g1
    by_cases hff : FIN.fin = 1 ∨ FIN.fin = 2
    ·have hfin : decide (FIN.fin = 1 ∨ FIN.fin = 2) = true:=by simpa using hff
     have hln0 : ln = 0:=by rw [← HLN.out]; unfold zfQ; rw [if_pos hff]
     subst hln0
     have hdd : ds = ds2:=by rw [← hds2,← hds]
     subst hdd
     go_wp2_with (first | (go_at_call 83; refine g1.mono ?_; rintro e wx ⟨rfl,hww⟩; have hw2:=hww.symm; subst hw2) | (go_at_call 84; refine g2.mono ?_; rintro e wx ⟨rfl,hww⟩; have hw2:=hww.symm; subst hw2))
     refine hst.mono ?_
     rintro e w4 ⟨rfl,hb4⟩
     dsimp only
     have ht5:=zcN (W1:=w4) rfl ds hl
     have hM4:=M3.mem.below hb4 M3.mem.lt
     have hsz4:=hb4.size
     have hszr:=M3.mem.lt
     have hB5 : Below w4.heap.size w4 ((w4.alloc Z34).setCells w4.heap.size 0 ds.toArray.toList):=zam _ 0 ((Below.refl w4.heap.size w4).alloc (Nat.le_refl _) _) (Nat.le_refl _)
     have hM5:=hM4.below hB5 (by omega)
     have g5:=zdA _ _ _ _ _ _ hM5
     rw [hfin] at g5
     have hr5 : ((w4.alloc Z34).setCells w4.heap.size 0 ds.toArray.toList).rangeAt w4.heap.size 0 ds:=by rw [show ds.toArray.toList = ds by simp]; exact World.rangeAt_setCells_same _ _ _ _ (by rw [show ds.length = ds.toArray.size by simp]; exact ht5)
     have hlow5 : Below w.heap.size w ((w4.alloc Z34).setCells w4.heap.size 0 ds.toArray.toList):=(hb1.trans (Z.low.mono (by omega))).trans ((hb4.mono (by omega)).trans (hB5.mono (by omega)))
     have hthere5 : ((w4.alloc Z34).setCells w4.heap.size 0 ds.toArray.toList).there w.heap.size 0 30:=zas (zas (zas ht1 Z.low (by omega)) hb4 (by omega)) hB5 (by omega)
     have how4:=zbx hout hb4 (Nat.le_refl _)
     have how4':=zbx how4 hB5 (Nat.le_refl _)
     have how5 : ((w4.alloc Z34).setCells w4.heap.size 0 ds.toArray.toList).ownsRow (w.heap.size + 1) 2 1 (.slice ao' no' co') FIN.out.length (i64s FIN.out):=by rw [hno]; exact zb5 how4' (by omega)
     have hC5:=((hC1.below Z.low (by omega)).below hb4 (by omega)).below hB5 (by omega)
     go_wp2_with (first | (refine wpList_store_mid rfl 34 _ _ rfl w4.heap.size 0 ds.toArray rfl rfl ht5 hi h1 ?_) | (go_at_call 87; refine g5.mono ?_; rintro e wx ⟨rfl,hww⟩; have hw2:=hww.symm; subst hw2; refine Hid.out ?_))
     unfold Hid
     have ht6 : ((w4.alloc Z34).setCells w4.heap.size 0 ds.toArray.toList).there w.heap.size 0 ds.toArray.size:=by rw [show ds.toArray.size = 30 by simp [hl2']]; exact hthere5
     simp only at hr5 ht6 how5 hlow5
     repeat (first
      | (refine wpList_load_mid rfl 34 _ rfl w4.heap.size 0 rfl ds _ hr5 hu34 rfl hid2 ?_)
      | (refine wpList_store_mid rfl 34 _ _ rfl w.heap.size 0 ds.toArray rfl rfl ht6 hi2 h12 ?_)
      | go_values | go_skip | go_guarded | go_step | go_upon | go_back)
     exact zju ds (by rw [HLN.out]; exact hds) ht6 hlow5 how5 rfl rfl
    ·have hfin : decide (FIN.fin = 1 ∨ FIN.fin = 2) = false:=by simpa using hff
     have HLI : Hid (ln = C[k].2):=by rw [← HLN.out]; show zfQ C FIN = C[k].2; unfold zfQ; rw [if_neg hff,hk,Int.toNat_natCast,List.getElem?_eq_getElem hkl]; rfl
     go_wp2_with (first | (go_at_call 83; refine g1.mono ?_; rintro e wx ⟨rfl,hww⟩; have hw2:=hww.symm; subst hw2) | (go_at_call 84; refine g2.mono ?_; rintro e wx ⟨rfl,hww⟩; have hw2:=hww.symm; subst hw2))
     refine hst.mono ?_
     rintro e w4 ⟨rfl,hb4⟩
     dsimp only
     have ht5:=zcN (W1:=w4) rfl ds hl
     have hM4:=M3.mem.below hb4 M3.mem.lt
     have hsz4:=hb4.size
     have hszr:=M3.mem.lt
     have hB5 : Below w4.heap.size w4 ((w4.alloc Z34).setCells w4.heap.size 0 ds.toArray.toList):=zam _ 0 ((Below.refl w4.heap.size w4).alloc (Nat.le_refl _) _) (Nat.le_refl _)
     have hM5:=hM4.below hB5 (by omega)
     have g5:=zdA _ _ _ _ _ _ hM5
     rw [hfin] at g5
     have hr5 : ((w4.alloc Z34).setCells w4.heap.size 0 ds.toArray.toList).rangeAt w4.heap.size 0 ds:=by rw [show ds.toArray.toList = ds by simp]; exact World.rangeAt_setCells_same _ _ _ _ (by rw [show ds.length = ds.toArray.size by simp]; exact ht5)
     have hlow5 : Below w.heap.size w ((w4.alloc Z34).setCells w4.heap.size 0 ds.toArray.toList):=(hb1.trans (Z.low.mono (by omega))).trans ((hb4.mono (by omega)).trans (hB5.mono (by omega)))
     have hthere5 : ((w4.alloc Z34).setCells w4.heap.size 0 ds.toArray.toList).there w.heap.size 0 30:=zas (zas (zas ht1 Z.low (by omega)) hb4 (by omega)) hB5 (by omega)
     have how4:=zbx hout hb4 (Nat.le_refl _)
     have how4':=zbx how4 hB5 (Nat.le_refl _)
     have how5 : ((w4.alloc Z34).setCells w4.heap.size 0 ds.toArray.toList).ownsRow (w.heap.size + 1) 2 1 (.slice ao' no' co') FIN.out.length (i64s FIN.out):=by rw [hno]; exact zb5 how4' (by omega)
     have hC5:=((hC1.below Z.low (by omega)).below hb4 (by omega)).below hB5 (by omega)
     go_wp2_with (first | (refine wpList_store_mid rfl 34 _ _ rfl w4.heap.size 0 ds.toArray rfl rfl ht5 hi h1 ?_) | (go_at_call 87; refine g5.mono ?_; rintro e wx ⟨rfl,hww⟩; have hw2:=hww.symm; subst hw2; refine Hid.out ?_))
     unfold Hid
     have h28 : ds[28]? = some (.int .i64 0):=by rw [← hds]; exact zho _ _ _
     have hc28:=hr5 28 _ h28
     have hln:=hC5 k hkl
     have hl2:=hln.2
     rw [← HLI.out] at hl2
     have g6:=zhr _ _ _ _ _ _ hM5
     rw [hk] at g6
     have hf28 : ((w4.alloc Z34).setCells w4.heap.size 0 ds.toArray.toList).frozen? ⟨w4.heap.size,28,none⟩ = false:=(World.there_setCells ht5 _ _ _ 28 (by simp [hl])).2
     have hr6:=zkp (n:=28) (v:=.int .i64 (ln)) hr5 hc28
     rw [hset] at hr6
     have ht6 : (((w4.alloc Z34).setCells w4.heap.size 0 ds.toArray.toList).setCell ⟨w4.heap.size,0 + 28,none⟩ (.int .i64 (ln))).there w.heap.size 0 ds2.toArray.size:=by rw [show ds2.toArray.size = 30 by simp [hl2']]; exact zhp hthere5 _ _
     have how6 : (((w4.alloc Z34).setCells w4.heap.size 0 ds.toArray.toList).setCell ⟨w4.heap.size,0 + 28,none⟩ (.int .i64 (ln))).ownsRow (w.heap.size + 1) 2 1 (.slice ao' no' co') FIN.out.length (i64s FIN.out):=zaq how5 (fun q hq => Below.heap_setCell _ _ _ _ (fun e => by have h9:=(hout.lt q hq).2; simp only at e; omega))
     have hlow6:=hlow5.setCell (p:=⟨w4.heap.size,0 + 28,none⟩) (by show w.heap.size ≤ w4.heap.size; omega) (.int .i64 (ln))
     clear hln hC5
     simp only [Nat.zero_add] at hr6 ht6 how6 hlow6 hf28 hc28 hl2 g6
     repeat (first
      | (go_at_call 85; refine g6.mono ?_; rintro e wx ⟨rfl,rfl⟩; dsimp only)
      | (refine wpList_load_mid rfl 34 _ rfl w4.heap.size 0 rfl ds2 _ hr6 hu34 rfl hid2 ?_)
      | (refine wpList_store_mid rfl 34 _ _ rfl w.heap.size 0 ds2.toArray rfl rfl ht6 hi2 h12 ?_)
      | go_values | go_skip | go_guarded | go_step | go_upon | go_back)
     exact zju ds2 (by rw [HLN.out]; exact hds2) ht6 hlow6 how6 rfl rfl
structure TrIn (w : World) (pt ps pi pr : Nat) (s : ByteArray) (iv : Value) (n : Int) : Prop where
 text : w.cell? ⟨pt,0,none⟩ = some (.string s)
 steps : w.cell? ⟨ps,0,none⟩ = some (.int .i64 n)
 inp : w.cell? ⟨pi,0,none⟩ = some iv
 state : w.there pr 0 30
 ne : ¬ ps = pr ∧ ¬ pi = pr
abbrev zkE (pt ps pi pr : Nat) : Array Value:=#[.pointer (some ⟨pt,0,none⟩),.pointer (some ⟨ps,0,none⟩),.pointer (some ⟨pi,0,none⟩),.pointer (some ⟨pr,0,none⟩)]
theorem ztG (w : World) (hw : LibW w) (pt ps pi pr : Nat) (s : ByteArray) (iv : Value) (n : Int) (T : TrIn w pt ps pi pr s iv n) (R : Int × Int) (hR : ¬ R = (0,0)) (h : zbJ s R) :
  Calls Tryz.prog 50 (zkE pt ps pi pr) w fun e w' => e = zah R.1 R.2 ∧ Below w.heap.size w w':=by
 have hc:=(h w hw).mono (R':=fun e w' => e = zah R.1 R.2 ∧ Below w.heap.size w w') (by
  rintro e w' ⟨hb,⟨h,_⟩ | ⟨_,h⟩⟩
  ·exact absurd h hR
  ·exact ⟨h,hb⟩)
 obtain ⟨t1,t2,t3,t4,t5⟩:=T
 go_enter Tryz.func50,Tryz.ntmps50
 go_wp2_with (go_at_call 44; refine hc.mono ?_; rintro e w1 ⟨rfl,hb⟩)
 exact ⟨rfl,rfl,hb⟩
def zh0 (s : ByteArray) (L : List Said) : Prop:=∀ w,LibW w → Calls Tryz.prog 44 #[.string s] w fun e w' => Below w.heap.size w w' ∧ ∃ pm ao m cap F,e = .returned (.agg #[.slice ao m cap,.map (some pm)]) ∧ PIn w.heap.size w' pm (.slice ao m cap) F ∧ Right L F ∧ F.length ≤ 300 ∧ (∀ f ∈ F,f.its.length ≤ 300 ∧ ∀ i ∈ f.its,ItOk i)
theorem zrq (w : World) (hw : LibW w) (pt ps pi pr : Nat) (s : ByteArray) (iv : Value) (n : Int) (T : TrIn w pt ps pi pr s iv n) (L : List Said) (h : zh0 s L) (hn : n < 0 ∨ 100000 < n) :
  Calls Tryz.prog 50 (zkE pt ps pi pr) w fun e w' => e = zah 7 0 ∧ Below w.heap.size w w':=by
 have hc:=h w hw
 have hst:=fun W => zoS n W hn
 obtain ⟨t1,t2,t3,t4,t5⟩:=T
 have hlt : ps < w.heap.size:=World.block_lt_of_cell? w _ t2
 clear hn
 go_enter Tryz.func50,Tryz.ntmps50
 go_wp2_with (first | (go_at_call 44; refine hc.mono ?_; rintro e w1 ⟨hb,pm,ao,m,cap,F,rfl,_⟩; have t2':=(hb.cell (p:=⟨ps,0,none⟩) hlt).trans t2; have hlt1 : ps < w1.heap.size:=Nat.lt_of_lt_of_le hlt hb.size; have hne1 : ¬ ps = w1.heap.size:=Nat.ne_of_lt hlt1; have hne2 : ¬ w1.heap.size = ps:=Nat.ne_of_gt hlt1) | (go_at_call 51; refine (hst _).mono ?_; rintro e w2 ⟨rfl,hww⟩; have h2:=hww.symm; subst h2))
 exact ⟨rfl,rfl,hb.alloc hb.size _⟩
theorem ziH {W W' : World} {pb pi ps pr : Nat} {v0 v1 v2 v3 : Value} (hb : Below W.heap.size W W') (h : W.cell? ⟨pb,0,none⟩ = some v0 ∧ W.cell? ⟨pb,1,none⟩ = some v1 ∧ W.cell? ⟨pi,0,none⟩ = some v2 ∧ W.cell? ⟨ps,0,none⟩ = some v3 ∧ W.there pr 0 30) :
  W'.cell? ⟨pb,0,none⟩ = some v0 ∧ W'.cell? ⟨pb,1,none⟩ = some v1 ∧ W'.cell? ⟨pi,0,none⟩ = some v2 ∧ W'.cell? ⟨ps,0,none⟩ = some v3 ∧ W'.there pr 0 30:=by
 obtain ⟨h0,h1,h2,h3,h4⟩:=h
 refine ⟨zap hb h0,zap hb h1,zap hb h2,zap hb h3,zas h4 hb ?_⟩
 obtain ⟨u,hu⟩:=Option.isSome_iff_exists.1 (h4 0 (by omega)).1
 exact World.block_lt_of_cell? W _ hu
theorem ztH {W : World} {pb pi ps pr : Nat} {v0 v1 v2 v3 : Value} (ds : List Value) (n0 : ¬ pb = pr) (n1 : ¬ pi = pr) (n2 : ¬ ps = pr) (h : W.cell? ⟨pb,0,none⟩ = some v0 ∧ W.cell? ⟨pb,1,none⟩ = some v1 ∧ W.cell? ⟨pi,0,none⟩ = some v2 ∧ W.cell? ⟨ps,0,none⟩ = some v3 ∧ W.there pr 0 30) :
  (W.setCells pr 0 ds).cell? ⟨pb,0,none⟩ = some v0 ∧ (W.setCells pr 0 ds).cell? ⟨pb,1,none⟩ = some v1 ∧ (W.setCells pr 0 ds).cell? ⟨pi,0,none⟩ = some v2 ∧ (W.setCells pr 0 ds).cell? ⟨ps,0,none⟩ = some v3 ∧ (W.setCells pr 0 ds).there pr 0 30:=by
 obtain ⟨h0,h1,h2,h3,h4⟩:=h
 refine ⟨?_,?_,?_,?_,World.there_setCells h4 _ _ _⟩
 ·rw [World.cell?_of_block (w:=W) (za8 ds W pr 0 pb n0)]; exact h0
 ·rw [World.cell?_of_block (w:=W) (za8 ds W pr 0 pb n0)]; exact h1
 ·rw [World.cell?_of_block (w:=W) (za8 ds W pr 0 pi n1)]; exact h2
 ·rw [World.cell?_of_block (w:=W) (za8 ds W pr 0 ps n2)]; exact h3
theorem zrr (ds : List Value) (w : World) (b : Nat) (ht : w.there b 0 ds.length) (h1 : ds.toArray.all (·.oneCell') = true) : (storeCells ⟨b,0,none⟩ ds).run Tryz.prog w = .ok () (w.setCells b 0 ds):=by
 have:=run_storeCells_cells (P:=Tryz.prog) b 0 ds 0 w (fun j hj => by simpa using (ht j hj).1) (fun j hj => by simpa using (ht j hj).2) (fun v hv => (Array.all_eq_true_iff_forall_mem.1 h1) v (by simpa using hv))
 simpa using this
def zkF (w : World) (pr : Nat) (m : Mc) (line : Int) (w' : World) : Prop:=∃ w1 ao no co,w' = w1.setCells pr 0 (zak m (.slice ao no co) line) ∧ Below w.heap.size w w1 ∧ w1.ownsRow w.heap.size 2 1 (.slice ao no co) m.out.length (i64s m.out)
theorem ztI (w : World) (hw : LibW w) (pt ps pi pr : Nat) (s : ByteArray) (ao : Option Addr) (icap n : Nat) (inp : List Int) (T : TrIn w pt ps pi pr s (.slice ao inp.length icap) (n : Int)) (L : List Said) (h : zh0 s L) (hn : n ≤ 100000)
  (hiv : SlB w w.heap.size (.slice ao inp.length icap) inp) (hin : inp.length ≤ 9223372036854775807) (FIN : Mc) (hF : runS (zbc L) n (zbl L inp) = FIN) :
  Calls Tryz.prog 50 (zkE pt ps pi pr) w fun e w' => e = .returned (.tuple #[]) ∧ zkF w pr FIN FIN.line w':=by
 have hc:=h w hw
 have hst:=fun W => zmh (n : Int) W (by omega) (by omega)
 obtain ⟨t1,t2,t3,t4,t5⟩:=T
 have hlt : ps < w.heap.size:=World.block_lt_of_cell? w _ t2
 have hlti : pi < w.heap.size:=World.block_lt_of_cell? w _ t3
 go_enter Tryz.func50,Tryz.ntmps50
 go_wp2_with (first | (go_at_call 44; refine hc.mono ?_; rintro e w1 ⟨hb,pm,vo,m,cap,F,rfl,hP,hR,hFn,hFi⟩; have t2':=(hb.cell (p:=⟨ps,0,none⟩) hlt).trans t2; have hlt1 : ps < w1.heap.size:=Nat.lt_of_lt_of_le hlt hb.size; have hne1 : ¬ ps = w1.heap.size:=Nat.ne_of_lt hlt1; have hne2 : ¬ w1.heap.size = ps:=Nat.ne_of_gt hlt1) | (go_at_call 51; refine (hst _).mono ?_; rintro e w2 ⟨rfl,hww⟩; have h2:=hww.symm; subst h2))
 have hb1 : Below w.heap.size w (w1.alloc (.cells #[.slice vo m cap,.map (some pm)] 83)):=hb.alloc hb.size _
 have hP1:=hP.alloc (.cells #[.slice vo m cap,.map (some pm)] 83)
 have hsz1 : (w1.alloc (.cells #[.slice vo m cap,.map (some pm)] 83)).heap.size = w1.heap.size + 1:=by simp
 have hprl : pr < w.heap.size:=by
  obtain ⟨u,hu⟩:=Option.isSome_iff_exists.1 (t4 0 (by omega)).1
  exact World.block_lt_of_cell? w _ hu
 have H1 : (w1.alloc (.cells #[.slice vo m cap,.map (some pm)] 83)).cell? ⟨w1.heap.size,0,none⟩ = some (.slice vo m cap) ∧ (w1.alloc (.cells #[.slice vo m cap,.map (some pm)] 83)).cell? ⟨w1.heap.size,1,none⟩ = some (.map (some pm)) ∧ (w1.alloc (.cells #[.slice vo m cap,.map (some pm)] 83)).cell? ⟨pi,0,none⟩ = some (.slice ao inp.length icap) ∧ (w1.alloc (.cells #[.slice vo m cap,.map (some pm)] 83)).cell? ⟨ps,0,none⟩ = some (.int .i64 (n : Int)) ∧ (w1.alloc (.cells #[.slice vo m cap,.map (some pm)] 83)).there pr 0 30 :=
  ⟨World.cell?_alloc_new (w:=w1) #[.slice vo m cap,.map (some pm)] 83 0,World.cell?_alloc_new (w:=w1) #[.slice vo m cap,.map (some pm)] 83 1,zap hb1 t3,zap hb1 t2,zas t4 hb1 hprl⟩
 have hnb : ¬ w1.heap.size = pr:=by have:=hb.size; omega
 generalize w1.alloc (.cells #[.slice vo m cap,.map (some pm)] 83) = W1 at hb1 hP1 hsz1 H1
 have hiv1:=hiv.mono hb1
 have hcof:=zmg hR W1.drew w.heap.size pm _ (hP1.below ((Below.refl _ _).drew)) hFn hFi
 obtain ⟨hsim,hinv⟩:=zmd hR.sim hR.codeOk n (zdv hR.codeOk inp)
 rw [← hR.begin,hF] at hsim
 generalize hFC : runS (zck (zao F)) n (zbe inp) = FC at hsim hinv
 have hline:=znp hR.sim hinv
 rw [← hsim] at hline
 have hout : FC.out = FIN.out:=by rw [hsim]; rfl
 have hstl : ∀ ov,zak FC ov (zfQ (zao F) FC) = zak FIN ov FIN.line:=fun ov => by rw [hline,hsim]; rfl
 have hu34 : Tryz.prog.underlying 34 = some (.struct _):=Tryz.underlying34
 clear hc hst t2' hP
 go_region_held3 (fun W => W.cell? ⟨w1.heap.size,0,none⟩ = some (.slice vo m cap) ∧ W.cell? ⟨w1.heap.size,1,none⟩ = some (.map (some pm)) ∧ W.cell? ⟨pi,0,none⟩ = some (.slice ao inp.length icap) ∧ W.cell? ⟨ps,0,none⟩ = some (.int .i64 (n : Int)) ∧ W.there pr 0 30)
  (first
    | exact H1
    | exact H5
    | exact H6
    | exact H7)
  (first
    | (go_at_call 52; refine hcof.mono ?_; rintro e w5 ⟨g,cap2,rfl,hg,hgl,hC,hb5⟩; have H5:=ziH hb5 H1)
    | (go_at_call 53; refine (zn9 w5 g cap2 n icap ao (zao F) inp hR.codeOk hC hgl (SlB.mono (w:=W1.drew) hiv1 hb5) hin hn FC hFC).mono ?_; rintro e w6 ⟨oo,no,co,rfl,hrow,hb6⟩; have H6:=ziH hb6 H5; rw [hstl]; have hl:=zaE FIN (.slice oo no co) FIN.line; have h1:=zaO FIN oo no co FIN.line; generalize hds : zak FIN (.slice oo no co) FIN.line = ds at hl h1; have H7:=ztH ds hnb t5.2 t5.1 H6; have hi : (Tryz.prog.info? 34).map (·.size) = some ds.length:=(by rw [hl]; exact Tryz.info34); have hsto:=zrr ds w6 pr (by rw [hl]; exact H6.2.2.2.2) h1)
    | (simp only [hsto]; simp only [Oper.upon]))
 have hb15 : Below w.heap.size w w5:=hb1.drew.trans (hb5.mono hb1.drew.size)
 have hb16:=hb15.trans (hb6.mono hb15.size)
 rw [hout] at hrow
 go_end0
 exact ⟨rfl,w6,oo,no,co,by rw [hds],hb16,zb5 hrow hb15.size⟩
theorem zfv {fn : Func} {a b c : Tmp} {w X : World} {T : Told} {ao : Option Addr} {no co : Nat} {act : Act} (pr : Nat) (hpr : w.heap.size ≤ pr) (hr3 : fn.results = #[.cell a 34,.tmp b,.tmp c]) (ds : List Value) (hds : zak T.m (.slice ao no co) T.at_ = ds) (ht : X.there pr 0 ds.toArray.size) (hb : Below w.heap.size w X) (how : X.ownsRow w.heap.size 2 1 (.slice ao no co) T.m.out.length (i64s T.m.out))
  (hne : ∀ q,(Value.slice ao no co).ownBlock = some q → ¬ q = pr)
  (hp : act.tmps.getD a undef = .pointer (some ⟨pr,0,none⟩)) (h1 : act.tmps.getD b undef = .int .i64 T.err) (h2 : act.tmps.getD c undef = .int .i64 T.line) (hd : act.defers = []) :
  bodyPost Tryz.prog fn (zbz w T) .ret act (X.setCells pr 0 ds):=by
 have hl : ds.length = 30:=by rw [← hds]; exact zaE _ _ _
 have hu34 : Tryz.prog.underlying 34 = some (.struct _):=Tryz.underlying34
 have hr:=World.rangeAt_setCells_same X pr 0 ds (by rw [show ds.length = ds.toArray.size by simp]; exact ht)
 have hres:=run_loadVar_mid (X.setCells pr 0 ds) pr 0 34 ds _ hr hu34 rfl (by rw [hl]; exact Tryz.info34)
 have hr2:=zjn hr3 act.tmps ⟨pr,0,none⟩ hp hres
 rw [h1,h2] at hr2
 refine bodyPost_ret hr2 hd ⟨ao,no,co,by rw [hds],?_,zam ds 0 hb hpr⟩
 exact zaq how (fun q hq => za8 ds X _ _ _ (hne q hq))
abbrev TrW (w : World) (s : ByteArray) (iv : Value) (n : Int) : World:=(((w.alloc (.cells #[.string s] 9)).alloc (.cells #[iv] 29)).alloc (.cells #[.int .i64 n] 3)).alloc Z34
theorem znA (w : World) (s : ByteArray) (iv : Value) (n : Int) : (TrW w s iv n).heap.size = w.heap.size + 1 + 1 + 1 + 1:=by simp
theorem zh1 (w : World) (s : ByteArray) (iv : Value) (n : Int) : Below w.heap.size w (TrW w s iv n):=((((Below.refl _ _).alloc (Nat.le_refl _) _).alloc (by simp) _).alloc (by simp; omega) _).alloc (by simp; omega) _
theorem zrs (w : World) (s : ByteArray) (iv : Value) (n : Int) : TrIn (TrW w s iv n) w.heap.size (w.heap.size + 1 + 1) (w.heap.size + 1) (w.heap.size + 1 + 1 + 1) s iv n:=by
 have b1 : Below (w.alloc (.cells #[.string s] 9)).heap.size (w.alloc (.cells #[.string s] 9)) (TrW w s iv n):=(((Below.refl _ _).alloc (Nat.le_refl _) _).alloc (by simp) _).alloc (by simp) _
 have b2 : Below ((w.alloc (.cells #[.string s] 9)).alloc (.cells #[iv] 29)).heap.size ((w.alloc (.cells #[.string s] 9)).alloc (.cells #[iv] 29)) (TrW w s iv n):=((Below.refl _ _).alloc (Nat.le_refl _) _).alloc (by simp) _
 have b3 : Below (((w.alloc (.cells #[.string s] 9)).alloc (.cells #[iv] 29)).alloc (.cells #[.int .i64 n] 3)).heap.size (((w.alloc (.cells #[.string s] 9)).alloc (.cells #[iv] 29)).alloc (.cells #[.int .i64 n] 3)) (TrW w s iv n):=(Below.refl _ _).alloc (Nat.le_refl _) _
 have c1:=World.cell?_alloc_new (w:=w) #[.string s] 9 0
 have c2:=World.cell?_alloc_new (w:=w.alloc (.cells #[.string s] 9)) #[iv] 29 0
 have c3:=World.cell?_alloc_new (w:=(w.alloc (.cells #[.string s] 9)).alloc (.cells #[iv] 29)) #[.int .i64 n] 3 0
 rw [show (w.alloc (.cells #[.string s] 9)).heap.size = w.heap.size + 1 by simp] at c2
 rw [show ((w.alloc (.cells #[.string s] 9)).alloc (.cells #[iv] 29)).heap.size = w.heap.size + 1 + 1 by simp] at c3
 refine ⟨zap b1 c1,zap b3 c3,zap b2 c2,?_,by omega,by omega⟩
 have:=zdX (((w.alloc (.cells #[.string s] 9)).alloc (.cells #[iv] 29)).alloc (.cells #[.int .i64 n] 3))
 rwa [show (((w.alloc (.cells #[.string s] 9)).alloc (.cells #[iv] 29)).alloc (.cells #[.int .i64 n] 3)).heap.size = w.heap.size + 1 + 1 + 1 by simp] at this
theorem ztJ (w : World) (s : ByteArray) (iv : Value) (n : Int) : (TrW w s iv n).rangeAt (w.heap.size + 1 + 1 + 1) 0 (zak zbE (.slice none 0 0) 0):=by
 rw [zw4]
 have:=zdu (((w.alloc (.cells #[.string s] 9)).alloc (.cells #[iv] 29)).alloc (.cells #[.int .i64 n] 3)) [.int .i64 0,.int .i64 0,.int .i64 0,.int .i64 0,.int .i64 0,.int .i64 0,.int .i64 0,.int .i64 0,.int .i64 0,.int .i64 0,.int .i64 0,.int .i64 0,.int .i64 0,.int .i64 0,.int .i64 0,.int .i64 0,.int .i64 0,.int .i64 0,.int .i64 0,.int .i64 0,.int .i64 0,.int .i64 0,.int .i64 0,.int .i64 0,.int .i64 0,.slice none 0 0,.int .i64 0,.int .i64 0,.int .i64 0,.int .i64 0] 34
 rwa [show (((w.alloc (.cells #[.string s] 9)).alloc (.cells #[iv] 29)).alloc (.cells #[.int .i64 n] 3)).heap.size = w.heap.size + 1 + 1 + 1 by simp] at this
theorem zcP (w : World) : Below w.heap.size w (OutW w):=((Below.refl _ _).alloc (Nat.le_refl _) _).alloc (by simp) _
theorem TrIn.below {w w' : World} {pt ps pi pr : Nat} {s : ByteArray} {iv : Value} {n : Int} (T : TrIn w pt ps pi pr s iv n) (hb : Below w.heap.size w w') : TrIn w' pt ps pi pr s iv n:=by
 obtain ⟨t1,t2,t3,t4,t5⟩:=T
 refine ⟨zap hb t1,zap hb t2,zap hb t3,zas t4 hb ?_,t5⟩
 obtain ⟨u,hu⟩:=Option.isSome_iff_exists.1 (t4 0 (by omega)).1
 exact World.block_lt_of_cell? w _ hu
theorem zeT {w w' : World} {B b o : Nat} {cs : List Value} (h : w.rangeAt b o cs) (hb : Below B w w') (hB : b < B) : w'.rangeAt b o cs:=fun j u hj => (hb.cell (p:=⟨b,o + j,none⟩) hB).trans (h j u hj)
theorem ze6 (w : World) (s : ByteArray) (ao : Option Addr) (m icap : Nat) (n er ln : Int)
  (hcall : Calls Tryz.prog 50 (zkE w.heap.size (w.heap.size + 1 + 1) (w.heap.size + 1) (w.heap.size + 1 + 1 + 1)) (OutW (TrW w s (.slice ao m icap) n)) fun e w' => e = zah er ln ∧ Below (OutW (TrW w s (.slice ao m icap) n)).heap.size (OutW (TrW w s (.slice ao m icap) n)) w') :
  Calls Tryz.prog 18 #[.string s,.slice ao m icap,.int .i64 n] w (zbz w ⟨zbE,0,er,ln⟩):=by
 have hmf : ∀ (fn : Go.Fn) (first cap : Array Value) (w : World),(Instr.makeFunc fn first cap).run Tryz.prog w = .ok (.func fn first cap) w:=fun _ _ _ _ => rfl
 have hout:=zcV 50 _ (TrW w s (.slice ao m icap) n) er ln (fun W => by kernel_rfl) hcall
 have hz:=ztJ w s (.slice ao m icap) n
 have hsz:=znA w s (.slice ao m icap) n
 have hbw:=zh1 w s (.slice ao m icap) n
 have hth:=(zrs w s (.slice ao m icap) n).state
 go_enter Tryz.func18,Tryz.ntmps18
 go_wp2_with (first | (go_at_call 42; refine hout.mono ?_; rintro e w5 ⟨rfl,hb5⟩; refine Hid.out ?_))
 unfold Hid
 have hr:=zeT hz hb5 (by rw [hsz]; omega)
 have hth5:=zas hth hb5 (by rw [hsz]; omega)
 have hb05 : Below w.heap.size w w5:=hbw.trans (hb5.mono hbw.size)
 have hl:=zaE zbE (.slice none 0 0) 0
 have h1:=zaO zbE none 0 0 0
 generalize hds : zak zbE (.slice none 0 0) 0 = ds at hr hl h1
 have hi:=zaU ds hl
 have hid : (Tryz.prog.info? 34).map (·.size) = some ds.length:=by rw [hl]; exact Tryz.info34
 have hu34 : Tryz.prog.underlying 34 = some (.struct _):=Tryz.underlying34
 have ht : w5.there (w.heap.size + 1 + 1 + 1) 0 ds.toArray.size:=by rw [show ds.toArray.size = 30 by simp [hl]]; exact hth5
 clear hz hout
 repeat (first
  | (refine wpList_load_mid rfl 34 _ rfl (w.heap.size + 1 + 1 + 1) 0 rfl ds _ hr hu34 rfl hid ?_)
  | (refine wpList_store_mid rfl 34 _ _ rfl (w.heap.size + 1 + 1 + 1) 0 ds.toArray rfl rfl ht hi h1 ?_)
  | go_values | go_skip | go_guarded | go_step | go_upon | go_back)
 exact zfv (T:=⟨zbE,0,er,ln⟩) (w.heap.size + 1 + 1 + 1) (by omega) Tryz.results18 ds hds ht hb05 (World.ownsRow_nil _ _ _ _) (by simp [Value.ownBlock]) rfl rfl rfl rfl
theorem zh2 {w w' : World} {b o : Nat} {cs : List Value} (h : w.rangeAt b o cs) (e : w'.heap[b]? = w.heap[b]?) : w'.rangeAt b o cs:=fun j u hj => (World.cell?_of_block (w:=w) (a:=⟨b,o + j,none⟩) e).trans (h j u hj)
theorem zh3 {w w' : World} {b o n : Nat} (h : w.there b o n) (e : w'.heap[b]? = w.heap[b]?) : w'.there b o n:=fun j hj => by
 obtain ⟨h1,h2⟩:=h j hj
 exact ⟨by rw [World.cell?_of_block (w:=w) (a:=⟨b,o + j,none⟩) e]; exact h1,by rw [World.frozen?_of_block (w:=w) (a:=⟨b,o + j,none⟩) e]; exact h2⟩
theorem ziI {W w1 : World} {pr : Nat} {m : Mc} {line : Int} (hpr : pr < W.heap.size) (h : zkF (OutW W) pr m line w1) :
  w1.cell? ⟨W.heap.size,0,none⟩ = some (.int .i64 0) ∧ w1.cell? ⟨W.heap.size + 1,0,none⟩ = some (.int .i64 0) ∧ w1.frozen? ⟨W.heap.size,0,none⟩ = false ∧ w1.frozen? ⟨W.heap.size + 1,0,none⟩ = false:=by
 obtain ⟨wz,ao,no,co,rfl,hb,_⟩:=h
 have hs : (OutW W).heap.size = W.heap.size + 1 + 1:=by simp
 have e0 : (wz.setCells pr 0 (zak m (.slice ao no co) line)).heap[W.heap.size]? = (OutW W).heap[W.heap.size]?:=(za8 _ wz pr 0 _ (by omega)).trans (hb.block _ (by omega))
 have e1 : (wz.setCells pr 0 (zak m (.slice ao no co) line)).heap[W.heap.size + 1]? = (OutW W).heap[W.heap.size + 1]?:=(za8 _ wz pr 0 _ (by omega)).trans (hb.block _ (by omega))
 refine ⟨?_,?_,?_,?_⟩
 ·rw [World.cell?_of_block (w:=OutW W) (a:=⟨W.heap.size,0,none⟩) e0]; simp [OutW]
 ·rw [World.cell?_of_block (w:=OutW W) (a:=⟨W.heap.size + 1,0,none⟩) e1]; simp [OutW]
 ·rw [World.frozen?_of_block (w:=OutW W) (a:=⟨W.heap.size,0,none⟩) e0]; simp [OutW]
 ·rw [World.frozen?_of_block (w:=OutW W) (a:=⟨W.heap.size + 1,0,none⟩) e1]; simp [OutW]
theorem zrt (w : World) (s : ByteArray) (ao : Option Addr) (m icap : Nat) (n : Int) (FIN : Mc)
  (hcall : Calls Tryz.prog 50 (zkE w.heap.size (w.heap.size + 1 + 1) (w.heap.size + 1) (w.heap.size + 1 + 1 + 1)) (OutW (TrW w s (.slice ao m icap) n)) fun e w' => e = .returned (.tuple #[]) ∧ zkF (OutW (TrW w s (.slice ao m icap) n)) (w.heap.size + 1 + 1 + 1) FIN FIN.line w') :
  Calls Tryz.prog 18 #[.string s,.slice ao m icap,.int .i64 n] w (zbz w ⟨FIN,FIN.line,0,0⟩):=by
 have hmf : ∀ (fn : Go.Fn) (first cap : Array Value) (w : World),(Instr.makeFunc fn first cap).run Tryz.prog w = .ok (.func fn first cap) w:=fun _ _ _ _ => rfl
 have hsz:=znA w s (.slice ao m icap) n
 have hout:=zeS 50 _ (TrW w s (.slice ao m icap) n) _ (fun W => by kernel_rfl) hcall (fun w1 h => ziI (by rw [hsz]; omega) h)
 have hbw:=zh1 w s (.slice ao m icap) n
 have hth:=(zrs w s (.slice ao m icap) n).state
 have hbo:=zcP (TrW w s (.slice ao m icap) n)
 have hso : (OutW (TrW w s (.slice ao m icap) n)).heap.size = w.heap.size + 1 + 1 + 1 + 1 + 1 + 1:=by simp
 go_enter Tryz.func18,Tryz.ntmps18
 go_wp2_with (first | (go_at_call 42; refine hout.mono ?_; rintro e w5 ⟨rfl,w1,hq,hw5⟩; have HW5 : Hid _:=hw5; clear hw5; refine Hid.out ?_))
 have hw5:=HW5.out
 clear HW5
 unfold Hid
 obtain ⟨wz,oo,no,co,rfl,hbz,hrow⟩:=hq
 have hl:=zaE FIN (.slice oo no co) FIN.line
 have h1:=zaO FIN oo no co FIN.line
 generalize hds : zak FIN (.slice oo no co) FIN.line = ds at hw5 hl h1
 have hthz:=zas (zas hth hbo (by rw [hsz]; omega)) hbz (by rw [hso]; omega)
 have hrz:=World.rangeAt_setCells_same wz (w.heap.size + 1 + 1 + 1) 0 ds (by rw [hl]; exact hthz)
 have hthz2:=World.there_setCells hthz (w.heap.size + 1 + 1 + 1) 0 ds
 have hbz2 : Below w.heap.size w (wz.setCells (w.heap.size + 1 + 1 + 1) 0 ds):=zam ds 0 (hbw.trans ((hbo.mono hbw.size).trans (hbz.mono (by rw [hso]; omega)))) (by omega)
 have hrow2 : (wz.setCells (w.heap.size + 1 + 1 + 1) 0 ds).ownsRow (OutW (TrW w s (.slice ao m icap) n)).heap.size 2 1 (.slice oo no co) FIN.out.length (i64s FIN.out):=zaq hrow (fun q hq => za8 ds wz _ _ _ (by have:=(hrow.lt q hq).1; omega))
 generalize wz.setCells (w.heap.size + 1 + 1 + 1) 0 ds = X at hw5 hrz hthz2 hbz2 hrow2
 have eb : ∀ b,¬ b = (TrW w s (.slice ao m icap) n).heap.size → ¬ b = (TrW w s (.slice ao m icap) n).heap.size + 1 → w5.heap[b]? = X.heap[b]?:=fun b n0 n1 => by
  rw [hw5,Below.heap_setCell _ _ _ _ (by exact n1),Below.heap_setCell _ _ _ _ (by exact n0)]
 have hr:=zh2 hrz (eb _ (by omega) (by omega))
 have hth5:=zh3 hthz2 (eb _ (by omega) (by omega))
 have hb05 : Below w.heap.size w w5:=by
  rw [hw5]
  exact (hbz2.setCell (p:=⟨(TrW w s (.slice ao m icap) n).heap.size,0,none⟩) (by show w.heap.size ≤ (TrW w s (.slice ao m icap) n).heap.size; omega) _).setCell (p:=⟨(TrW w s (.slice ao m icap) n).heap.size + 1,0,none⟩) (by show w.heap.size ≤ (TrW w s (.slice ao m icap) n).heap.size + 1; omega) _
 have hrow5 : w5.ownsRow (OutW (TrW w s (.slice ao m icap) n)).heap.size 2 1 (.slice oo no co) FIN.out.length (i64s FIN.out):=zaq hrow2 (fun q hq => eb q (by have:=(hrow2.lt q hq).1; omega) (by have:=(hrow2.lt q hq).1; omega))
 have hi:=zaU ds hl
 have hid : (Tryz.prog.info? 34).map (·.size) = some ds.length:=by rw [hl]; exact Tryz.info34
 have hu34 : Tryz.prog.underlying 34 = some (.struct _):=Tryz.underlying34
 have ht : w5.there (w.heap.size + 1 + 1 + 1) 0 ds.toArray.size:=by rw [show ds.toArray.size = 30 by simp [hl]]; exact hth5
 clear hout hw5 eb hrz hthz2 hrow2 hbz2 hrow hbz hthz
 repeat (first
  | (refine wpList_load_mid rfl 34 _ rfl (w.heap.size + 1 + 1 + 1) 0 rfl ds _ hr hu34 rfl hid ?_)
  | (refine wpList_store_mid rfl 34 _ _ rfl (w.heap.size + 1 + 1 + 1) 0 ds.toArray rfl rfl ht hi h1 ?_)
  | go_values | go_skip | go_guarded | go_step | go_upon | go_back)
 exact zfv (T:=⟨FIN,FIN.line,0,0⟩) (w.heap.size + 1 + 1 + 1) (by omega) Tryz.results18 ds hds ht hb05 (zb5 hrow5 (by omega)) (fun q hq => by have:=(hrow5.lt q hq).1; omega) rfl rfl rfl rfl
end Go.Proofs.YtfpgjkbjbbgciaaGreatDoor
