import Derived.Test.YtfpgjkbjbbgciaaGreatDoorMf36
set_option maxRecDepth 100000
set_option maxHeartbeats 8000000
namespace Go.Proofs.YtfpgjkbjbbgciaaGreatDoor
open Go.RowKit Sp
theorem zn3 (v : Value) (w : World) : (method 422 171 v "Do").run Tryz.prog w = .ok (232,v) w:=by kernel_rfl
theorem zlT (args : Array Value) (w : World) : (callFunc 232 args).run Tryz.prog w = .ok (.enter 232 args) w:=by kernel_rfl
theorem zn4 (v : Value) (w : World) : (method 422 172 v "Do").run Tryz.prog w = .ok (239,v) w:=by kernel_rfl
theorem zlU (args : Array Value) (w : World) : (callFunc 239 args).run Tryz.prog w = .ok (.enter 239 args) w:=by kernel_rfl
theorem zn5 (v : Value) (w : World) : (method 422 173 v "Do").run Tryz.prog w = .ok (243,v) w:=by kernel_rfl
theorem zlV (args : Array Value) (w : World) : (callFunc 243 args).run Tryz.prog w = .ok (.enter 243 args) w:=by kernel_rfl
theorem zp4 (i : Ins) (hi : zlO i) (w : World) : (method 422 (insT i) (.agg (insA i)) "Do").run Tryz.prog w = .ok (insF i,.agg (insA i)) w:=by
 cases i with
 | alu o r s t =>
  have ho:=hi.1
  clear hi
  rcases (by omega : o = 0 ∨ o = 1 ∨ o = 2) with rfl | rfl | rfl
  ·exact zn3 _ w
  ·exact zn4 _ w
  ·exact zn5 _ w
 | _ => kernel_rfl
theorem zn6 (i : Ins) (hi : zlO i) (args : Array Value) (w : World) : (callFunc (insF i) args).run Tryz.prog w = .ok (.enter (insF i) args) w:=by
 cases i with
 | alu o r s t =>
  have ho:=hi.1
  clear hi
  rcases (by omega : o = 0 ∨ o = 1 ∨ o = 2) with rfl | rfl | rfl
  ·exact zlT args w
  ·exact zlU args w
  ·exact zlV args w
 | _ => kernel_rfl
def stepsC (w : World) (b : Nat) : Nat:=match w.cell? ⟨b,28,none⟩ with | some (.int _ s) => s.toNat | _ => 0
theorem MchM.stepsC {w : World} {b : Nat} {bv iv ov : Value} {m : Mc} (h : MchM w b bv iv ov m) : Go.Proofs.YtfpgjkbjbbgciaaGreatDoor.stepsC w b = m.steps.toNat:=by unfold Go.Proofs.YtfpgjkbjbbgciaaGreatDoor.stepsC; rw [h.cS]
def finC (w : World) (b : Nat) : Nat:=match w.cell? ⟨b,30,none⟩ with | some (.int _ s) => (if s = 0 then 1 else 0) | _ => 0
theorem MchM.finC {w : World} {b : Nat} {bv iv ov : Value} {m : Mc} (h : MchM w b bv iv ov m) : Go.Proofs.YtfpgjkbjbbgciaaGreatDoor.finC w b = if m.fin = 0 then 1 else 0:=by unfold Go.Proofs.YtfpgjkbjbbgciaaGreatDoor.finC; rw [h.cE]
structure CRun (C : List (Ins × Int)) (n g b : Nat) (w0 wr : World) (FIN m : Mc) (bv iv ov : Value) : Prop where
 mch : MchAt wr b m bv iv ov
 inv : InvD C.length m
 st1 : m.steps ≤ (n : Int)
 inp : m.inp.length ≤ 9223372036854775807
 run : FIN = runS (zcI C) (n - m.steps.toNat) m
 low : Below w0.heap.size w0 wr
theorem CRun.step {C : List (Ins × Int)} {n g b k : Nat} {w0 wr w' : World} {FIN m : Mc} {bv iv ov bv' iv' ov' : Value} (Z : CRun C n g b w0 wr FIN m bv iv ov) (K : CodeOk C) (h0 : m.fin = 0) (hlt : m.steps < (n : Int)) (hk : m.at' = (k : Int)) (hkl : k < C.length) (hb : w0.heap.size ≤ b) (M2 : MchAt w' b (zbo C[k].1 m) bv' iv' ov') (hB : Below b wr w') :
  CRun C n g b w0 w' FIN (zbo C[k].1 m) bv' iv' ov' ∧ (n - (zbo C[k].1 m).steps.toNat) * 2 + (if (zbo C[k].1 m).fin = 0 then 1 else 0) < (n - m.steps.toNat) * 2 + (if m.fin = 0 then 1 else 0):=by
 have q0:=Z.inv.steps
 obtain ⟨hF,hi⟩:=zgi C[k].1 m h0
 have hinp:=Z.inp
 have hrun : FIN = runS (zcI C) (n - m.steps.toNat - 1) (zbo C[k].1 m):=by
  rw [Z.run,show n - m.steps.toNat = (n - m.steps.toNat - 1) + 1 by omega,zcm _ _ _ h0,zfw hk hkl]
  rfl
 rw [if_pos h0]
 rcases hF with ⟨hf,hs⟩ | ⟨hf,hs⟩
 ·refine ⟨⟨M2,Z.inv.step h0 hk (K.leads k hkl),by omega,by omega,?_,Z.low.trans (hB.mono hb)⟩,by rw [hs]; split <;> omega⟩
  rw [hrun,hs]
  congr 1
  omega
 ·refine ⟨⟨M2,Z.inv.step h0 hk (K.leads k hkl),by omega,by omega,?_,Z.low.trans (hB.mono hb)⟩,by rw [hs,if_neg (by omega)]; omega⟩
  rw [hrun,zbb _ _ _ (by omega),zbb _ _ _ (by omega)]
theorem MchM.below {w w' : World} {b B : Nat} {bv iv ov : Value} {m : Mc} (h : MchM w b bv iv ov m) (hb : Below B w w') (hB : b < B) : MchM w' b bv iv ov m:=h.of_block (hb.block b hB)
def zk5 (w : World) (C : List (Ins × Int)) (FIN : Mc) : Ending → World → Prop:=fun e w' => ∃ ao no co,e = .returned (.agg (zai FIN (.slice ao no co) (zeL C FIN)).toArray) ∧ w'.ownsRow w.heap.size 2 1 (.slice ao no co) FIN.out.length (i64s FIN.out) ∧ Below w.heap.size w w'
theorem zhs {w w7 : World} {C : List (Ins × Int)} {FIN : Mc} {ao : Option Addr} {no co : Nat} {act : Act} (ds : List Value) (hds : zai FIN (.slice ao no co) (zeL C FIN) = ds) (ht : w7.there w.heap.size 0 ds.toArray.size) (hb : Below w.heap.size w w7) (how : w7.ownsRow (w.heap.size + 1) 2 1 (.slice ao no co) FIN.out.length (i64s FIN.out))
  (hp : act.tmps.getD 6 undef = .pointer (some ⟨w.heap.size,0,none⟩)) (hd : act.defers = []) :
  bodyPost Tryz.prog Tryz.f53 (zk5 w C FIN) .ret act (w7.setCells w.heap.size 0 ds):=by
 have hl : ds.length = 30:=by rw [← hds]; exact zaK _ _ _
 have hu34 : Tryz.prog.underlying 34 = some (.struct _):=Tryz.underlying34
 have hr:=World.rangeAt_setCells_same w7 w.heap.size 0 ds (by rw [show ds.length = ds.toArray.size by simp]; exact ht)
 have hres:=run_loadVar_mid (w7.setCells w.heap.size 0 ds) w.heap.size 0 34 ds _ hr hu34 rfl (by rw [hl]; exact Tryz.info34)
 refine bodyPost_ret (v:=.agg ds.toArray) (zcH Tryz.results53 _ ⟨w.heap.size,0,none⟩ hp hres) hd ⟨ao,no,co,by rw [hds],?_,za6 ds 0 hb (Nat.le_refl _)⟩
 have ho2 : (w7.setCells w.heap.size 0 ds).ownsRow (w.heap.size + 1) 2 1 (.slice ao no co) FIN.out.length (i64s FIN.out):=zad how (fun q hq => za0 ds w7 _ _ _ (by have:=(how.lt q hq).1; omega))
 exact zbu ho2 (by omega)
theorem zp5 (w : World) (g cap n icap : Nat) (ao : Option Addr) (C : List (Ins × Int)) (inp : List Int) (K : CodeOk C) (hC : CodeIn w g C) (hg : g < w.heap.size) (hiv : SlB w w.heap.size (.slice ao inp.length icap) inp) (hin : inp.length ≤ 9223372036854775807) (hn : n ≤ 100000) (FIN : Mc) (hF : runS (zcI C) n (zbH inp) = FIN) :
  Calls Tryz.prog 53 #[.slice (some ⟨g,0,none⟩) C.length cap,.slice ao inp.length icap,.int .i64 (n : Int)] w (zk5 w C FIN):=by
 have hb1 : Below w.heap.size w (w.alloc Z34):=(Below.refl _ _).alloc (Nat.le_refl _) _
 have hs1 : (w.alloc Z34).heap.size = w.heap.size + 1:=by simp
 have ht1:=zeu w
 have hnew:=zp3 (w.alloc Z34) ao icap inp (hiv.mono hb1)
 have hI:=zeM K inp
 have HF : Hid (FIN = runS (zcI C) n (zbH inp)):=hF.symm
 clear hF
 have f1 : (zbH inp).steps = 0:=rfl
 have f2 : (zbH inp).inp = inp:=rfl
 have hf:=K.few
 generalize zbH inp = m0 at hnew hI HF f1 f2
 rw [hs1] at hnew
 have hC1:=hC.below hb1 hg
 clear hiv hC
 go_enter Tryz.func53,Tryz.ntmps53
 go_wp2_with (first | (go_at_call 82; refine hnew.mono ?_; rintro e W2 ⟨rfl,⟨bv0,iv0,ov0,hM0⟩,hb2⟩))
 clear hnew
 generalize w.alloc Z34 = W1 at hb1 hs1 ht1 hb2 hC1
 go_loopw [11] (fun _ wr => ∃ (m : Mc) (bv iv ov : Value),CRun C n g (w.heap.size + 1) W1 wr FIN m bv iv ov) (fun _ wr => (n - stepsC wr (w.heap.size + 1)) * 2 + finC wr (w.heap.size + 1))
 case atStart => exact ⟨m0,_,_,_,⟨hM0,hI,by omega,by rw [f2]; exact hin,by rw [f1]; exact HF.out,by rw [hs1]; exact hb2⟩⟩
 case round =>
  obtain ⟨m,bv,iv,ov,Z⟩:=hrel
  have cS:=Z.mch.mem.cS
  clear hM0 hb2 HF hI f1 f2
  have q0:=Z.inv.steps
  have g1:=zn0 wr (w.heap.size + 1) bv iv ov m Z.mch.mem
  have g2:=zlF wr (w.heap.size + 1) bv iv ov m Z.mch.mem
  by_cases hgo : m.fin = 0 ∧ m.steps < (n : Int)
  ·obtain ⟨h0,hlt⟩:=hgo
   obtain ⟨k,hk,hkl⟩:=Z.inv.at_
   have g3:=zgd wr (w.heap.size + 1) bv iv ov m Z.mch.mem
   rw [hk] at g3
   rw [show (m.fin == 0) = true by simp [h0]] at g1
   obtain ⟨hcell,_⟩:=(hC1.below Z.low (by omega)) k hkl
   have hdo:=zrO C[k].1 (K.ok k hkl) Z.mch (Z.inv.inv hf h0) h0 (by omega) Z.inp
   have hmeth:=zp4 C[k].1 (K.ok k hkl)
   have hcf:=zn6 C[k].1 (K.ok k hkl)
   generalize hins : C[k].1 = i at hcell hdo hmeth hcf
   generalize insF i = F at hdo hmeth hcf
   have hk0 : (0 : Int) ≤ (k : Int):=by omega
   have hk1 : (k : Int) < (C.length : Int):=by omega
   go_wp2_with (first | (go_at_call 83; refine g1.mono ?_; rintro e wx ⟨rfl,hww⟩; have hw2:=hww.symm; subst hw2) | (go_at_call 84; refine g2.mono ?_; rintro e wx ⟨rfl,hww⟩; have hw2:=hww.symm; subst hw2) | (go_at_call 85; refine g3.mono ?_; rintro e wx ⟨rfl,hww⟩; have hw2:=hww.symm; subst hw2))
   refine hdo.mono ?_
   rintro e w3 ⟨rfl,bv',iv',ov',M2,hB⟩
   dsimp only
   rw [← hins] at M2
   obtain ⟨Z2,hms⟩:=Z.step K h0 hlt hk hkl (by omega) M2 hB
   have q1:=Z2.mch.mem.stepsC
   have q2:=Z.mch.mem.stepsC
   have q3:=Z2.mch.mem.finC
   have q4:=Z.mch.mem.finC
   go_wp2
   go_roundw
   case rel => exact ⟨_,bv',iv',ov',Z2⟩
   case measure => rw [q1,q2,q3,q4]; exact hms
  ·have hF : FIN = m:=by
    by_cases h0 : m.fin = 0
    ·rw [Z.run,show n - m.steps.toNat = 0 by have:=Z.st1; omega]; rfl
    ·rw [Z.run,zbb _ _ _ h0]
   subst hF
   have M3:=Z.mch
   obtain ⟨ao',co',rfl⟩:=za9 M3.out
   have hst:=zlR wr (w.heap.size + 1) bv iv ao' _ co' FIN M3 Z.inv.frames Z.inv.few
   generalize hno : FIN.out.length = no' at hst
   have hl:=zaK FIN (.slice ao' no' co') 0
   have h1:=zbi FIN ao' no' co' 0
   obtain ⟨ln,hlnq⟩ : ∃ ln,zeL C FIN = ln:=⟨_,rfl⟩
   have HLN : Hid (zeL C FIN = ln):=hlnq
   clear hlnq
   have hset:=zlP FIN (.slice ao' no' co') 0 (ln)
   generalize hds : zai FIN (.slice ao' no' co') 0 = ds at hst hl h1 hset
   have hi:=zby ds hl
   have hout:=M3.out
   rw [hno] at hout
   have hl2':=zaK FIN (.slice ao' no' co') (ln)
   have h12:=zbi FIN ao' no' co' (ln)
   generalize hds2 : zai FIN (.slice ao' no' co') (ln) = ds2 at hset hl2' h12
   have hi2:=zby ds2 hl2'
   have hid2 : (Tryz.prog.info? 34).map (·.size) = some ds2.length:=by rw [hl2']; exact Tryz.info34
   have hu34 : Tryz.prog.underlying 34 = some (.struct _):=Tryz.underlying34
   obtain ⟨k,hk,hkl⟩:=Z.inv.at_
   have hk0 : (0 : Int) ≤ (k : Int):=by omega
   have hk1 : (k : Int) < (C.length : Int):=by omega
   by_cases h0 : FIN.fin = 0
   ·rw [show (FIN.fin == 0) = true by simp [h0]] at g1
    have hlt : decide (FIN.steps < (n : Int)) = false:=by simp; omega
    have hfin : decide (FIN.fin = 1 ∨ FIN.fin = 2) = false:=by simp [h0]
    have HLI : Hid (ln = C[k].2):=by rw [← HLN.out]; show zeL C FIN = C[k].2; unfold zeL; rw [if_neg (by omega),hk,Int.toNat_natCast,List.getElem?_eq_getElem hkl]; rfl
    go_wp2_with (first | (go_at_call 83; refine g1.mono ?_; rintro e wx ⟨rfl,hww⟩; have hw2:=hww.symm; subst hw2) | (go_at_call 84; refine g2.mono ?_; rintro e wx ⟨rfl,hww⟩; have hw2:=hww.symm; subst hw2))
    refine hst.mono ?_
    rintro e w4 ⟨rfl,hb4⟩
    dsimp only
    have ht5:=zcx (W1:=w4) rfl ds hl
    have hM4:=M3.mem.below hb4 M3.mem.lt
    have hsz4:=hb4.size
    have hszr:=M3.mem.lt
    have hB5 : Below w4.heap.size w4 ((w4.alloc Z34).setCells w4.heap.size 0 ds.toArray.toList):=za6 _ 0 ((Below.refl w4.heap.size w4).alloc (Nat.le_refl _) _) (Nat.le_refl _)
    have hM5:=hM4.below hB5 (by omega)
    have g5:=zcG _ _ _ _ _ _ hM5
    rw [hfin] at g5
    have hr5 : ((w4.alloc Z34).setCells w4.heap.size 0 ds.toArray.toList).rangeAt w4.heap.size 0 ds:=by rw [show ds.toArray.toList = ds by simp]; exact World.rangeAt_setCells_same _ _ _ _ (by rw [show ds.length = ds.toArray.size by simp]; exact ht5)
    have hlow5 : Below w.heap.size w ((w4.alloc Z34).setCells w4.heap.size 0 ds.toArray.toList):=(hb1.trans (Z.low.mono (by omega))).trans ((hb4.mono (by omega)).trans (hB5.mono (by omega)))
    have hthere5 : ((w4.alloc Z34).setCells w4.heap.size 0 ds.toArray.toList).there w.heap.size 0 30:=zaw (zaw (zaw ht1 Z.low (by omega)) hb4 (by omega)) hB5 (by omega)
    have how4:=zaS hout hb4 (Nat.le_refl _)
    have how4':=zaS how4 hB5 (Nat.le_refl _)
    have how5 : ((w4.alloc Z34).setCells w4.heap.size 0 ds.toArray.toList).ownsRow (w.heap.size + 1) 2 1 (.slice ao' no' co') FIN.out.length (i64s FIN.out):=by rw [hno]; exact zbu how4' (by omega)
    have hC5:=((hC1.below Z.low (by omega)).below hb4 (by omega)).below hB5 (by omega)
    go_wp2_with (first | (refine wpList_store_mid rfl 34 _ _ rfl w4.heap.size 0 ds.toArray rfl rfl ht5 hi h1 ?_) | (go_at_call 87; refine g5.mono ?_; rintro e wx ⟨rfl,hww⟩; have hw2:=hww.symm; subst hw2; refine Hid.out ?_))
    unfold Hid
    have h28 : ds[28]? = some (.int .i64 0):=by rw [← hds]; exact zgg _ _ _
    have hc28:=hr5 28 _ h28
    have hln:=hC5 k hkl
    have hl2:=hln.2
    rw [← HLI.out] at hl2
    have g6:=zgd _ _ _ _ _ _ hM5
    rw [hk] at g6
    have hf28 : ((w4.alloc Z34).setCells w4.heap.size 0 ds.toArray.toList).frozen? ⟨w4.heap.size,28,none⟩ = false:=(World.there_setCells ht5 _ _ _ 28 (by simp [hl])).2
    have hr6:=zir (n:=28) (v:=.int .i64 (ln)) hr5 hc28
    rw [hset] at hr6
    have ht6 : (((w4.alloc Z34).setCells w4.heap.size 0 ds.toArray.toList).setCell ⟨w4.heap.size,0 + 28,none⟩ (.int .i64 (ln))).there w.heap.size 0 ds2.toArray.size:=by rw [show ds2.toArray.size = 30 by simp [hl2']]; exact zgh hthere5 _ _
    have how6 : (((w4.alloc Z34).setCells w4.heap.size 0 ds.toArray.toList).setCell ⟨w4.heap.size,0 + 28,none⟩ (.int .i64 (ln))).ownsRow (w.heap.size + 1) 2 1 (.slice ao' no' co') FIN.out.length (i64s FIN.out):=zad how5 (fun q hq => Below.heap_setCell _ _ _ _ (fun e => by have h9:=(hout.lt q hq).2; simp only at e; omega))
    have hlow6:=hlow5.setCell (p:=⟨w4.heap.size,0 + 28,none⟩) (by show w.heap.size ≤ w4.heap.size; omega) (.int .i64 (ln))
    clear hln hC5
    simp only [Nat.zero_add] at hr6 ht6 how6 hlow6 hf28 hc28 hl2 g6
    repeat (first
     | (go_at_call 85; refine g6.mono ?_; rintro e wx ⟨rfl,rfl⟩; dsimp only)
     | (refine wpList_load_mid rfl 34 _ rfl w4.heap.size 0 rfl ds2 _ hr6 hu34 rfl hid2 ?_)
     | (refine wpList_store_mid rfl 34 _ _ rfl w.heap.size 0 ds2.toArray rfl rfl ht6 hi2 h12 ?_)
     | go_values | go_skip | go_guarded | go_step | go_upon | go_back)
    exact zhs ds2 (by rw [HLN.out]; exact hds2) ht6 hlow6 how6 rfl rfl
   ·rw [show (FIN.fin == 0) = false by simp [h0]] at g1
    by_cases hff : FIN.fin = 1 ∨ FIN.fin = 2
    ·have hfin : decide (FIN.fin = 1 ∨ FIN.fin = 2) = true:=by simpa using hff
     have hln0 : ln = 0:=by rw [← HLN.out]; unfold zeL; rw [if_pos hff]
     subst hln0
     have hdd : ds = ds2:=by rw [← hds2,← hds]
     subst hdd
     go_wp2_with (first | (go_at_call 83; refine g1.mono ?_; rintro e wx ⟨rfl,hww⟩; have hw2:=hww.symm; subst hw2) | (go_at_call 84; refine g2.mono ?_; rintro e wx ⟨rfl,hww⟩; have hw2:=hww.symm; subst hw2))
     refine hst.mono ?_
     rintro e w4 ⟨rfl,hb4⟩
     dsimp only
     have ht5:=zcx (W1:=w4) rfl ds hl
     have hM4:=M3.mem.below hb4 M3.mem.lt
     have hsz4:=hb4.size
     have hszr:=M3.mem.lt
     have hB5 : Below w4.heap.size w4 ((w4.alloc Z34).setCells w4.heap.size 0 ds.toArray.toList):=za6 _ 0 ((Below.refl w4.heap.size w4).alloc (Nat.le_refl _) _) (Nat.le_refl _)
     have hM5:=hM4.below hB5 (by omega)
     have g5:=zcG _ _ _ _ _ _ hM5
     rw [hfin] at g5
     have hr5 : ((w4.alloc Z34).setCells w4.heap.size 0 ds.toArray.toList).rangeAt w4.heap.size 0 ds:=by rw [show ds.toArray.toList = ds by simp]; exact World.rangeAt_setCells_same _ _ _ _ (by rw [show ds.length = ds.toArray.size by simp]; exact ht5)
     have hlow5 : Below w.heap.size w ((w4.alloc Z34).setCells w4.heap.size 0 ds.toArray.toList):=(hb1.trans (Z.low.mono (by omega))).trans ((hb4.mono (by omega)).trans (hB5.mono (by omega)))
     have hthere5 : ((w4.alloc Z34).setCells w4.heap.size 0 ds.toArray.toList).there w.heap.size 0 30:=zaw (zaw (zaw ht1 Z.low (by omega)) hb4 (by omega)) hB5 (by omega)
     have how4:=zaS hout hb4 (Nat.le_refl _)
     have how4':=zaS how4 hB5 (Nat.le_refl _)
     have how5 : ((w4.alloc Z34).setCells w4.heap.size 0 ds.toArray.toList).ownsRow (w.heap.size + 1) 2 1 (.slice ao' no' co') FIN.out.length (i64s FIN.out):=by rw [hno]; exact zbu how4' (by omega)
     have hC5:=((hC1.below Z.low (by omega)).below hb4 (by omega)).below hB5 (by omega)
     go_wp2_with (first | (refine wpList_store_mid rfl 34 _ _ rfl w4.heap.size 0 ds.toArray rfl rfl ht5 hi h1 ?_) | (go_at_call 87; refine g5.mono ?_; rintro e wx ⟨rfl,hww⟩; have hw2:=hww.symm; subst hw2; refine Hid.out ?_))
     unfold Hid
     have ht6 : ((w4.alloc Z34).setCells w4.heap.size 0 ds.toArray.toList).there w.heap.size 0 ds.toArray.size:=by rw [show ds.toArray.size = 30 by simp [hl2']]; exact hthere5
     simp only at hr5 ht6 how5 hlow5
     repeat (first
      | (refine wpList_load_mid rfl 34 _ rfl w4.heap.size 0 rfl ds _ hr5 hu34 rfl hid2 ?_)
      | (refine wpList_store_mid rfl 34 _ _ rfl w.heap.size 0 ds.toArray rfl rfl ht6 hi2 h12 ?_)
      | go_values | go_skip | go_guarded | go_step | go_upon | go_back)
     exact zhs ds (by rw [HLN.out]; exact hds) ht6 hlow5 how5 rfl rfl
    ·have hfin : decide (FIN.fin = 1 ∨ FIN.fin = 2) = false:=by simpa using hff
     have HLI : Hid (ln = C[k].2):=by rw [← HLN.out]; show zeL C FIN = C[k].2; unfold zeL; rw [if_neg hff,hk,Int.toNat_natCast,List.getElem?_eq_getElem hkl]; rfl
     go_wp2_with (first | (go_at_call 83; refine g1.mono ?_; rintro e wx ⟨rfl,hww⟩; have hw2:=hww.symm; subst hw2) | (go_at_call 84; refine g2.mono ?_; rintro e wx ⟨rfl,hww⟩; have hw2:=hww.symm; subst hw2))
     refine hst.mono ?_
     rintro e w4 ⟨rfl,hb4⟩
     dsimp only
     have ht5:=zcx (W1:=w4) rfl ds hl
     have hM4:=M3.mem.below hb4 M3.mem.lt
     have hsz4:=hb4.size
     have hszr:=M3.mem.lt
     have hB5 : Below w4.heap.size w4 ((w4.alloc Z34).setCells w4.heap.size 0 ds.toArray.toList):=za6 _ 0 ((Below.refl w4.heap.size w4).alloc (Nat.le_refl _) _) (Nat.le_refl _)
     have hM5:=hM4.below hB5 (by omega)
     have g5:=zcG _ _ _ _ _ _ hM5
     rw [hfin] at g5
     have hr5 : ((w4.alloc Z34).setCells w4.heap.size 0 ds.toArray.toList).rangeAt w4.heap.size 0 ds:=by rw [show ds.toArray.toList = ds by simp]; exact World.rangeAt_setCells_same _ _ _ _ (by rw [show ds.length = ds.toArray.size by simp]; exact ht5)
     have hlow5 : Below w.heap.size w ((w4.alloc Z34).setCells w4.heap.size 0 ds.toArray.toList):=(hb1.trans (Z.low.mono (by omega))).trans ((hb4.mono (by omega)).trans (hB5.mono (by omega)))
     have hthere5 : ((w4.alloc Z34).setCells w4.heap.size 0 ds.toArray.toList).there w.heap.size 0 30:=zaw (zaw (zaw ht1 Z.low (by omega)) hb4 (by omega)) hB5 (by omega)
     have how4:=zaS hout hb4 (Nat.le_refl _)
     have how4':=zaS how4 hB5 (Nat.le_refl _)
     have how5 : ((w4.alloc Z34).setCells w4.heap.size 0 ds.toArray.toList).ownsRow (w.heap.size + 1) 2 1 (.slice ao' no' co') FIN.out.length (i64s FIN.out):=by rw [hno]; exact zbu how4' (by omega)
     have hC5:=((hC1.below Z.low (by omega)).below hb4 (by omega)).below hB5 (by omega)
     go_wp2_with (first | (refine wpList_store_mid rfl 34 _ _ rfl w4.heap.size 0 ds.toArray rfl rfl ht5 hi h1 ?_) | (go_at_call 87; refine g5.mono ?_; rintro e wx ⟨rfl,hww⟩; have hw2:=hww.symm; subst hw2; refine Hid.out ?_))
     unfold Hid
     have h28 : ds[28]? = some (.int .i64 0):=by rw [← hds]; exact zgg _ _ _
     have hc28:=hr5 28 _ h28
     have hln:=hC5 k hkl
     have hl2:=hln.2
     rw [← HLI.out] at hl2
     have g6:=zgd _ _ _ _ _ _ hM5
     rw [hk] at g6
     have hf28 : ((w4.alloc Z34).setCells w4.heap.size 0 ds.toArray.toList).frozen? ⟨w4.heap.size,28,none⟩ = false:=(World.there_setCells ht5 _ _ _ 28 (by simp [hl])).2
     have hr6:=zir (n:=28) (v:=.int .i64 (ln)) hr5 hc28
     rw [hset] at hr6
     have ht6 : (((w4.alloc Z34).setCells w4.heap.size 0 ds.toArray.toList).setCell ⟨w4.heap.size,0 + 28,none⟩ (.int .i64 (ln))).there w.heap.size 0 ds2.toArray.size:=by rw [show ds2.toArray.size = 30 by simp [hl2']]; exact zgh hthere5 _ _
     have how6 : (((w4.alloc Z34).setCells w4.heap.size 0 ds.toArray.toList).setCell ⟨w4.heap.size,0 + 28,none⟩ (.int .i64 (ln))).ownsRow (w.heap.size + 1) 2 1 (.slice ao' no' co') FIN.out.length (i64s FIN.out):=zad how5 (fun q hq => Below.heap_setCell _ _ _ _ (fun e => by have h9:=(hout.lt q hq).2; simp only at e; omega))
     have hlow6:=hlow5.setCell (p:=⟨w4.heap.size,0 + 28,none⟩) (by show w.heap.size ≤ w4.heap.size; omega) (.int .i64 (ln))
     clear hln hC5
     simp only [Nat.zero_add] at hr6 ht6 how6 hlow6 hf28 hc28 hl2 g6
     repeat (first
      | (go_at_call 85; refine g6.mono ?_; rintro e wx ⟨rfl,rfl⟩; dsimp only)
      | (refine wpList_load_mid rfl 34 _ rfl w4.heap.size 0 rfl ds2 _ hr6 hu34 rfl hid2 ?_)
      | (refine wpList_store_mid rfl 34 _ _ rfl w.heap.size 0 ds2.toArray rfl rfl ht6 hi2 h12 ?_)
      | go_values | go_skip | go_guarded | go_step | go_upon | go_back)
     exact zhs ds2 (by rw [HLN.out]; exact hds2) ht6 hlow6 how6 rfl rfl
end Go.Proofs.YtfpgjkbjbbgciaaGreatDoor
