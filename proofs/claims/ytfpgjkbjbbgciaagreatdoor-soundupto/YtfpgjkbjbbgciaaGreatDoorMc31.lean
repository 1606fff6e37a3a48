import Derived.Test.YtfpgjkbjbbgciaaGreatDoorMc29
set_option maxRecDepth 100000
set_option maxHeartbeats 8000000
namespace Go.Proofs.YtfpgjkbjbbgciaaGreatDoor
open Go.RowKit Sp
theorem zmn (L : List Said) (i : Nat) (h : i < L.length) (h2 : L[i].kind = 102) : zcp L i = i:=by rw [zcp,dif_pos h,if_pos h2]
theorem zoQ (L : List Said) (i : Nat) (h : i < L.length) (h2 : ¬ L[i].kind = 102) : zcp L i = zcp L (i + 1):=by rw [zcp,dif_pos h,if_neg h2]
theorem zfY (L : List Said) (i p : Nat) (hp : p < L.length) (h2 : L[p].kind = 102) (hip : i ≤ p) (hz : ∀ j (h : j < L.length),i ≤ j → j < p → L[j].kind = 0) : zcp L i = p:=by
 by_cases e : i = p
 ·subst e; exact zmn L i hp h2
 ·have h0:=hz i (by omega) (by omega) (by omega)
  rw [zoQ L i (by omega) (by omega)]
  exact zfY L (i + 1) p hp h2 (by omega) (fun j h ha hb => hz j h (by omega) hb)
termination_by p - i
theorem zv8 (w : World) (lv iv : Value) (to : Int) (inp : List Int) : RefM (w.alloc (.cells #[lv,.int .i64 to,.slice none 0 0,iv,.int .i64 0,.int .i64 0,.int .i64 0,.int .i64 0,.int .i64 0,.int .i64 0,.int .i64 0,.int .i64 0,.int .i64 0,.int .i64 0,.int .i64 0,.int .i64 0,.int .i64 0,.int .i64 0,.int .i64 0,.int .i64 0,.int .i64 0,.int .i64 0,.int .i64 0,.int .i64 0,.int .i64 0,.int .i64 0,.int .i64 0,.int .i64 0,.int .i64 0,.slice none 0 0,.int .i64 1,.int .i64 1,.int .i64 0,.int .i64 0] 99)) w.heap.size lv (.slice none 0 0) iv (.slice none 0 0) ⟨to,[],inp,0,fun _ => 0,fun _ => 0,[],1,1,0⟩:=by
 have h:=World.cell?_alloc_new (w:=w) #[lv,.int .i64 to,.slice none 0 0,iv,.int .i64 0,.int .i64 0,.int .i64 0,.int .i64 0,.int .i64 0,.int .i64 0,.int .i64 0,.int .i64 0,.int .i64 0,.int .i64 0,.int .i64 0,.int .i64 0,.int .i64 0,.int .i64 0,.int .i64 0,.int .i64 0,.int .i64 0,.int .i64 0,.int .i64 0,.int .i64 0,.int .i64 0,.int .i64 0,.int .i64 0,.int .i64 0,.int .i64 0,.slice none 0 0,.int .i64 1,.int .i64 1,.int .i64 0,.int .i64 0] 99
 refine ⟨h 0,h 1,h 2,h 3,h 4,fun i hi => ?_,fun i hi => ?_,h 29,h 30,h 31,h 32,h 33,fun o => zjk w _ _ o⟩
 ·have : i = 0 ∨ i = 1 ∨ i = 2 ∨ i = 3 ∨ i = 4 ∨ i = 5 ∨ i = 6 ∨ i = 7:=by omega
  rcases this with rfl | rfl | rfl | rfl | rfl | rfl | rfl | rfl
  ·exact h 5
  ·exact h 6
  ·exact h 7
  ·exact h 8
  ·exact h 9
  ·exact h 10
  ·exact h 11
  ·exact h 12
 ·have : i = 0 ∨ i = 1 ∨ i = 2 ∨ i = 3 ∨ i = 4 ∨ i = 5 ∨ i = 6 ∨ i = 7 ∨ i = 8 ∨ i = 9 ∨ i = 10 ∨ i = 11 ∨ i = 12 ∨ i = 13 ∨ i = 14 ∨ i = 15:=by omega
  rcases this with rfl | rfl | rfl | rfl | rfl | rfl | rfl | rfl | rfl | rfl | rfl | rfl | rfl | rfl | rfl | rfl
  ·exact h 13
  ·exact h 14
  ·exact h 15
  ·exact h 16
  ·exact h 17
  ·exact h 18
  ·exact h 19
  ·exact h 20
  ·exact h 21
  ·exact h 22
  ·exact h 23
  ·exact h 24
  ·exact h 25
  ·exact h 26
  ·exact h 27
  ·exact h 28
theorem zrj (w : World) (g cap2 p icap : Nat) (ao : Option Addr) (L : List Said) (inp : List Int) (hL : LinesIn w g L) (hn : L.length ≤ 300) (hp : p < L.length) (h2 : L[p].kind = 102) (hz : ∀ j (h : j < L.length),j < p → L[j].kind = 0) (to : Int) (hto : zac L (p + 1) = to) (hiv : SlB w w.heap.size (.slice ao inp.length icap) inp) :
  Calls Tryz.prog 54 #[.slice (some ⟨g,0,none⟩) L.length cap2,.slice ao inp.length icap] w fun e w' => e = .returned (.pointer (some ⟨w.heap.size,0,none⟩)) ∧ RefAt w' w.heap.size g cap2 L ⟨to,[],inp,0,fun _ => 0,fun _ => 0,[],1,1,0⟩ (.slice none 0 0) (.slice ao inp.length icap) (.slice none 0 0) ∧ Below w.heap.size w w':=by
 have g1 : ∀ W,LinesIn W g L → Calls Tryz.prog 88 #[.slice (some ⟨g,0,none⟩) L.length cap2,.int .i64 ((p : Int) + 1)] W fun e w' => e = .returned (.int .i64 to) ∧ w' = W:=fun W hW => by
  have:=zcS L g cap2 (p + 1) W hW (by omega) (by omega)
  rw [hto] at this
  simpa using this
 have hp0 : (0 : Int) ≤ (p : Int):=by omega
 have hp1 : (p : Int) < (L.length : Int):=by omega
 go_enter Tryz.func54,Tryz.ntmps54
 go_wp2
 go_loop [5] (fun t => ∃ j : Nat,j ≤ p ∧ t = .int .i64 (j : Int)) (fun t => p - (intOf t).toNat)
 case atStart => exact ⟨0,by omega,rfl⟩
 case round =>
  obtain ⟨j,hj,rfl⟩:=hrel
  have hjl : j < L.length:=by omega
  have hc:=hL.kind j hjl
  have hb:=zdw (hL.wf j hjl)
  by_cases e : j = p
  ·subst e
   have h102 : (L[j].kind != 102) = false:=by simp [h2]
   go_wp2_with (first | (go_at_call 88; refine (g1 _ hL).mono ?_; rintro e wx ⟨rfl,hww⟩; have hw2:=hww.symm; subst hw2))
   go_ret
   have hb : Below w.heap.size w (w.alloc (.cells #[.slice (some ⟨g,0,none⟩) L.length cap2,.int .i64 to,.slice none 0 0,.slice ao inp.length icap,.int .i64 0,.int .i64 0,.int .i64 0,.int .i64 0,.int .i64 0,.int .i64 0,.int .i64 0,.int .i64 0,.int .i64 0,.int .i64 0,.int .i64 0,.int .i64 0,.int .i64 0,.int .i64 0,.int .i64 0,.int .i64 0,.int .i64 0,.int .i64 0,.int .i64 0,.int .i64 0,.int .i64 0,.int .i64 0,.int .i64 0,.int .i64 0,.int .i64 0,.slice none 0 0,.int .i64 1,.int .i64 1,.int .i64 0,.int .i64 0] 99)):=(Below.refl _ _).alloc (Nat.le_refl _) _
   exact ⟨rfl,⟨zv8 w _ _ to inp,World.ownsRow_nil _ _ _ _,World.ownsRow_nil _ _ _ _,hiv.below hb⟩,hb⟩
  ·have h0:=hz j hjl (by omega)
   have h102 : (L[j].kind != 102) = true:=by simp [h0]
   go_wp2
   go_round
   case rel => exact ⟨j + 1,by omega,by go_num⟩
   case measure => simp [intOf]; omega
theorem ziB (i : Ins) (next : Int) (m : Mc) (h : m.fin = 0) :
  (((exec i next m).fin = 0 ∧ (exec i next m).steps = m.steps + 1) ∨ (((exec i next m).fin = 1 ∨ (exec i next m).fin = 2) ∧ (exec i next m).at' = -1 ∧ (exec i next m).steps = m.steps + 1) ∨ (((exec i next m).fin = 3 ∨ (exec i next m).fin = 4) ∧ (exec i next m).at' = m.at' ∧ (exec i next m).steps = m.steps)) ∧ (exec i next m).inp.length ≤ m.inp.length:=by
 cases i with
 | load r s =>
  simp only [exec]
  split
  ·exact ⟨.inr (.inr ⟨.inl rfl,rfl,rfl⟩),Nat.le_refl _⟩
  ·exact ⟨.inl ⟨h,rfl⟩,Nat.le_refl _⟩
 | store r s =>
  simp only [exec]
  split
  ·exact ⟨.inr (.inr ⟨.inl rfl,rfl,rfl⟩),Nat.le_refl _⟩
  ·exact ⟨.inl ⟨h,rfl⟩,Nat.le_refl _⟩
 | call to =>
  simp only [exec]
  split
  ·exact ⟨.inr (.inr ⟨.inr rfl,rfl,rfl⟩),Nat.le_refl _⟩
  ·exact ⟨.inl ⟨h,rfl⟩,Nat.le_refl _⟩
 | back =>
  simp only [exec]
  split
  ·exact ⟨.inr (.inl ⟨.inr rfl,rfl,rfl⟩),Nat.le_refl _⟩
  ·exact ⟨.inl ⟨h,rfl⟩,Nat.le_refl _⟩
 | stop => exact ⟨.inr (.inl ⟨.inl rfl,rfl,rfl⟩),Nat.le_refl _⟩
 | read r =>
  refine ⟨.inl ⟨h,rfl⟩,?_⟩
  show m.inp.tail.length ≤ _
  simp
 | set r k => exact ⟨.inl ⟨h,rfl⟩,Nat.le_refl _⟩
 | mov r s => exact ⟨.inl ⟨h,rfl⟩,Nat.le_refl _⟩
 | alu o r s t => exact ⟨.inl ⟨h,rfl⟩,Nat.le_refl _⟩
 | inc r k => exact ⟨.inl ⟨h,rfl⟩,Nat.le_refl _⟩
 | write r => exact ⟨.inl ⟨h,rfl⟩,Nat.le_refl _⟩
 | jump to => exact ⟨.inl ⟨h,rfl⟩,Nat.le_refl _⟩
 | less r s to => exact ⟨.inl ⟨h,rfl⟩,Nat.le_refl _⟩
 | same r s to => exact ⟨.inl ⟨h,rfl⟩,Nat.le_refl _⟩
def AtOk (L : List Said) (m : Mc) : Prop:=((m.fin = 1 ∨ m.fin = 2) ∧ m.at' = -1) ∨ ((m.fin = 0 ∨ m.fin = 3 ∨ m.fin = 4) ∧ zdd L m.at')
theorem ztH {L : List Said} {m : Mc} (h : zdd L m.at') : ∃ i next,zb9 L m = exec i next m:=by
 obtain ⟨k,hk,hlt,_⟩:=h
 refine ⟨insQ L k L[k],zac L (k + 1),?_⟩
 unfold zb9
 rw [hk,Int.toNat_natCast,List.getElem?_eq_getElem hlt]
theorem zv9 {L : List Said} {m : Mc} (I : InvR L m) (h : m.fin = 0) (hI : (zb9 L m).fin = 0 → InvR L (zb9 L m)) :
  AtOk L (zb9 L m) ∧ (((zb9 L m).fin = 3 ∨ (zb9 L m).fin = 4) ∧ (zb9 L m).steps = m.steps ∨ ((zb9 L m).fin = 0 ∨ (zb9 L m).fin = 1 ∨ (zb9 L m).fin = 2) ∧ (zb9 L m).steps = m.steps + 1) ∧ (zb9 L m).inp.length ≤ m.inp.length:=by
 obtain ⟨i,next,e⟩:=ztH I.at_
 have F:=ziB i next m h
 rw [← e] at F
 obtain ⟨F,hin⟩:=F
 refine ⟨?_,?_,hin⟩
 ·rcases F with ⟨h1,_⟩ | ⟨h1,h2,_⟩ | ⟨h1,h2,_⟩
  ·exact .inr ⟨.inl h1,(hI h1).at_⟩
  ·exact .inl ⟨h1,h2⟩
  ·exact .inr ⟨.inr h1,by rw [h2]; exact I.at_⟩
 ·rcases F with ⟨h1,h2⟩ | ⟨h1,_,h2⟩ | ⟨h1,_,h2⟩
  ·exact .inr ⟨.inl h1,h2⟩
  ·exact .inr ⟨.inr h1,h2⟩
  ·exact .inl ⟨h1,h2⟩
theorem zoS (w : World) (b : Nat) (lv bv iv ov : Value) (m : Mc) (h : RefM w b lv bv iv ov m) (hz : (m.fin != 0) = true) :
  Calls Tryz.prog 55 #[.pointer (some ⟨b,0,none⟩)] w fun e w' => e = .returned (.bool false) ∧ w' = w:=by
 have cE:=h.cE
 generalize m.fin = z at cE hz
 go_enter Tryz.func55,Tryz.ntmps55
 go_wp2
 go_ret
 exact ⟨rfl,rfl⟩
theorem zrp {L : List Said} (G : Good L) (inp : List Int) : InvR L (zdB L inp):=by
 obtain ⟨p,hp,h2,hz⟩:=G.head
 have e : zcp L 0 = p:=zfY L 0 p hp h2 (by omega) (fun j h _ hb => hz j h hb)
 refine ⟨?_,by simp [zdB],rfl,by simp [zdB],⟨1,rfl,by omega⟩,Int.le_refl _,Int.le_refl _⟩
 show zdd L (zac L (zcp L 0 + 1))
 rw [e]
 exact G.fn p hp h2
theorem zf6 {W1 : World} {n : Nat} (hs1 : W1.heap.size = n) (cs : List Value) (hlen : cs.length = 30) : (W1.alloc Z34).there n 0 cs.toArray.size:=by
 rw [show cs.toArray.size = 30 by simp [hlen],← hs1]
 exact zeq W1
theorem zj1 {w W1 : World} {b : Nat} {x : Value} (hs1 : W1.heap.size = w.heap.size + 1) (cs : List Value) (hlen : cs.length = 30) (ca1 : W1.cell? ⟨b,1,none⟩ = some x) (ht1 : W1.there w.heap.size 0 30) (hb1 : Below w.heap.size w W1) (lg : b < w.heap.size) :
  ((W1.alloc Z34).setCells (w.heap.size + 1) 0 cs.toArray.toList).rangeAt (w.heap.size + 1) 0 cs ∧ ((W1.alloc Z34).setCells (w.heap.size + 1) 0 cs.toArray.toList).there (w.heap.size + 1) 0 30 ∧ ((W1.alloc Z34).setCells (w.heap.size + 1) 0 cs.toArray.toList).there w.heap.size 0 30 ∧
    ((W1.alloc Z34).setCells (w.heap.size + 1) 0 cs.toArray.toList).cell? ⟨b,1,none⟩ = some x ∧ ((W1.alloc Z34).setCells (w.heap.size + 1) 0 cs.toArray.toList).heap.size = w.heap.size + 2 ∧ Below w.heap.size w ((W1.alloc Z34).setCells (w.heap.size + 1) 0 cs.toArray.toList):=by
 have e : cs.toArray.toList = cs:=by simp
 rw [e]
 have t2:=zf6 hs1 cs hlen
 rw [show cs.toArray.size = cs.length by simp] at t2
 refine ⟨World.rangeAt_setCells_same _ _ _ _ t2,?_,World.there_setCells (World.there_alloc ht1 _) _ _ _,?_,?_,?_⟩
 ·rw [hlen] at t2; exact World.there_setCells t2 _ _ _
 ·rw [World.cell?_setCells_out _ _ _ _ _ (fun h => by simp at h; omega),World.cell?_alloc_lt _ _ _ (by show b < W1.heap.size; omega)]
  exact ca1
 ·rw [zj0]; simp; omega
 ·exact zbd _ _ (hb1.alloc (by omega) _) (by omega)
theorem zrq (w : World) (b k : Nat) (cs ds : List Value) (z : Int) (hlen : cs.length = 30) (hone : cs.toArray.all (·.oneCell') = true) (hc : w.rangeAt b 4 cs) (h28 : cs[28]? = some (.int .i64 0)) (h29 : cs[29]? = some (.int .i64 z)) (cAt : w.cell? ⟨b,1,none⟩ = some (.int .i64 (k : Int))) (hk : k ≤ 1000) (h1 : (z == 1) = false) (h2 : (z == 2) = false) (hds : cs.set 28 (.int .i64 ((k : Int) + 1)) = ds) (hone2 : ds.toArray.all (·.oneCell') = true) :
  Calls Tryz.prog 56 #[.pointer (some ⟨b,0,none⟩)] w fun e w' => e = .returned (.agg ds.toArray) ∧ Below w.heap.size w w':=by
 have lg : b < w.heap.size:=World.block_lt_of_cell? w _ cAt
 have hdl : ds.length = 30:=by rw [← hds,List.length_set]; exact hlen
 have hc1:=World.rangeAt_alloc hc Z34
 have ca1 : (w.alloc Z34).cell? ⟨b,1,none⟩ = some (.int .i64 (k : Int)):=(World.cell?_alloc_lt w _ _ lg).trans cAt
 have ht1:=zeq w
 have hs1 : (w.alloc Z34).heap.size = w.heap.size + 1:=by simp
 have hb1 : Below w.heap.size w (w.alloc Z34):=(Below.refl _ _).alloc (Nat.le_refl _) _
 have hu34 : Tryz.prog.underlying 34 = some (.struct _):=Tryz.underlying34
 have hi34 : (Tryz.prog.info? 34).map (·.size) = some cs.length:=by rw [hlen]; exact Tryz.info34
 have hi34a : (Tryz.prog.info? 34).map (·.size) = some cs.toArray.size:=by rw [show cs.toArray.size = 30 by simp [hlen]]; exact Tryz.info34
 have hi34d : (Tryz.prog.info? 34).map (·.size) = some ds.length:=by rw [hdl]; exact Tryz.info34
 have hi34e : (Tryz.prog.info? 34).map (·.size) = some ds.toArray.size:=by rw [show ds.toArray.size = 30 by simp [hdl]]; exact Tryz.info34
 have hTd : ∀ W : World,W.there w.heap.size 0 30 → W.there w.heap.size 0 ds.toArray.size:=fun W h => by rw [show ds.toArray.size = 30 by simp [hdl]]; exact h
 have hRd : ∀ W : World,W.rangeAt (w.heap.size + 1) 0 cs → W.cell? ⟨w.heap.size + 1,28,none⟩ = some (.int .i64 0) → (W.setCell ⟨w.heap.size + 1,28,none⟩ (.int .i64 ((k : Int) + 1))).rangeAt (w.heap.size + 1) 0 ds:=fun W h hq => by
  rw [← hds]
  have:=zep (v:=.int .i64 ((k : Int) + 1)) h (n:=28) (u:=.int .i64 0) (by simpa using hq)
  simpa using this
 clear hc cAt
 go_enter Tryz.func56,Tryz.ntmps56
 go_wp2_with (first
  | (refine wpList_load_mid rfl 34 _ rfl b 4 rfl cs _ hc1 hu34 rfl hi34 ?_; generalize w.alloc Z34 = W1 at hc1 ca1 ht1 hs1 hb1 ⊢; have ht2:=zf6 hs1 cs hlen)
  | (refine wpList_store_mid rfl 34 _ _ rfl (w.heap.size + 1) 0 cs.toArray rfl rfl ht2 hi34a hone ?_; obtain ⟨R2,T2,T1,ca2,hs2,hb2⟩:=zj1 hs1 cs hlen ca1 ht1 hb1 lg; generalize (W1.alloc Z34).setCells (w.heap.size + 1) 0 cs.toArray.toList = W2 at R2 T2 T1 ca2 hs2 hb2 ⊢; clear hc1 ca1 ht1 hs1 hb1 ht2; have q28:=R2 28 _ h28; have q29:=R2 29 _ h29; have f28:=(T2 28 (by omega)).2; simp only [Nat.zero_add] at q28 q29 f28; have R3:=hRd W2 R2 q28; have T3:=hTd _ (zdC T1 ⟨w.heap.size + 1,28,none⟩ (.int .i64 ((k : Int) + 1)));  have hb3:=hb2.setCell (p:=⟨w.heap.size + 1,28,none⟩) (Nat.le_succ _) (.int .i64 ((k : Int) + 1)))
  | (refine wpList_load_mid rfl 34 _ rfl (w.heap.size + 1) 0 rfl ds _ R3 hu34 rfl hi34d ?_)
  | (refine wpList_store_mid rfl 34 _ _ rfl w.heap.size 0 ds.toArray rfl rfl T3 hi34e hone2 ?_))
 have hr:=World.rangeAt_setCells_same (W2.setCell ⟨w.heap.size + 1,28,none⟩ (.int .i64 ((k : Int) + 1))) w.heap.size 0 ds (by rw [show ds.length = ds.toArray.size by simp]; exact T3)
 have hb4:=zbd ds (b:=w.heap.size) 0 hb3 (Nat.le_refl _)
 generalize (W2.setCell ⟨w.heap.size + 1,28,none⟩ (.int .i64 ((k : Int) + 1))).setCells w.heap.size 0 ds = W4 at hr hb4 ⊢
 have hres:=run_loadVar_mid W4 w.heap.size 0 34 ds _ hr hu34 rfl hi34d
 refine bodyPost_ret (v:=.agg ds.toArray) (zca Tryz.results56 _ ⟨w.heap.size,0,none⟩ rfl hres) rfl ⟨rfl,hb4⟩
theorem zoT (w : World) (b : Nat) (cs ds : List Value) (z : Int) (hlen : cs.length = 30) (hone : cs.toArray.all (·.oneCell') = true) (hc : w.rangeAt b 4 cs) (h28 : cs[28]? = some (.int .i64 0)) (h29 : cs[29]? = some (.int .i64 z)) (cAt : w.cell? ⟨b,1,none⟩ = some (.int .i64 (-1))) (hz : z = 1) (hds : cs.set 28 (.int .i64 0) = ds) (hone2 : ds.toArray.all (·.oneCell') = true) :
  Calls Tryz.prog 56 #[.pointer (some ⟨b,0,none⟩)] w fun e w' => e = .returned (.agg ds.toArray) ∧ Below w.heap.size w w':=by
 subst hz
 have lg : b < w.heap.size:=World.block_lt_of_cell? w _ cAt
 have hdl : ds.length = 30:=by rw [← hds,List.length_set]; exact hlen
 have hc1:=World.rangeAt_alloc hc Z34
 have ca1 : (w.alloc Z34).cell? ⟨b,1,none⟩ = some (.int .i64 (-1)):=(World.cell?_alloc_lt w _ _ lg).trans cAt
 have ht1:=zeq w
 have hs1 : (w.alloc Z34).heap.size = w.heap.size + 1:=by simp
 have hb1 : Below w.heap.size w (w.alloc Z34):=(Below.refl _ _).alloc (Nat.le_refl _) _
 have hu34 : Tryz.prog.underlying 34 = some (.struct _):=Tryz.underlying34
 have hi34 : (Tryz.prog.info? 34).map (·.size) = some cs.length:=by rw [hlen]; exact Tryz.info34
 have hi34a : (Tryz.prog.info? 34).map (·.size) = some cs.toArray.size:=by rw [show cs.toArray.size = 30 by simp [hlen]]; exact Tryz.info34
 have hi34d : (Tryz.prog.info? 34).map (·.size) = some ds.length:=by rw [hdl]; exact Tryz.info34
 have hi34e : (Tryz.prog.info? 34).map (·.size) = some ds.toArray.size:=by rw [show ds.toArray.size = 30 by simp [hdl]]; exact Tryz.info34
 have hTd : ∀ W : World,W.there w.heap.size 0 30 → W.there w.heap.size 0 ds.toArray.size:=fun W h => by rw [show ds.toArray.size = 30 by simp [hdl]]; exact h
 have hRd : ∀ W : World,W.rangeAt (w.heap.size + 1) 0 cs → W.cell? ⟨w.heap.size + 1,28,none⟩ = some (.int .i64 0) → (W.setCell ⟨w.heap.size + 1,28,none⟩ (.int .i64 0)).rangeAt (w.heap.size + 1) 0 ds:=fun W h hq => by
  rw [← hds]
  have:=zep (v:=.int .i64 0) h (n:=28) (u:=.int .i64 0) (by simpa using hq)
  simpa using this
 have hRe : ∀ W : World,W.rangeAt (w.heap.size + 1) 0 ds → W.cell? ⟨w.heap.size + 1,28,none⟩ = some (.int .i64 0) → (W.setCell ⟨w.heap.size + 1,28,none⟩ (.int .i64 0)).rangeAt (w.heap.size + 1) 0 ds:=fun W h hq => by
  have:=zep (v:=.int .i64 0) h (n:=28) (u:=.int .i64 0) (by simpa using hq)
  have e : ds.set 28 (.int .i64 0) = ds:=by rw [← hds,List.set_set]
  rw [e] at this
  simpa using this
 clear hc cAt
 go_enter Tryz.func56,Tryz.ntmps56
 go_wp2_with (first
  | (refine wpList_load_mid rfl 34 _ rfl b 4 rfl cs _ hc1 hu34 rfl hi34 ?_; generalize w.alloc Z34 = W1 at hc1 ca1 ht1 hs1 hb1 ⊢; have ht2:=zf6 hs1 cs hlen)
  | (refine wpList_store_mid rfl 34 _ _ rfl (w.heap.size + 1) 0 cs.toArray rfl rfl ht2 hi34a hone ?_; obtain ⟨R2,T2,T1,ca2,hs2,hb2⟩:=zj1 hs1 cs hlen ca1 ht1 hb1 lg; generalize (W1.alloc Z34).setCells (w.heap.size + 1) 0 cs.toArray.toList = W2 at R2 T2 T1 ca2 hs2 hb2 ⊢; clear hc1 ca1 ht1 hs1 hb1 ht2; have q28:=R2 28 _ h28; have q29:=R2 29 _ h29; have f28:=(T2 28 (by omega)).2; simp only [Nat.zero_add] at q28 q29 f28; have R30:=hRd W2 R2 q28; have R3:=hRe _ R30 (World.cell?_setCell_same W2 _ _ q28); have T3:=hTd _ (zdC (zdC T1 ⟨w.heap.size + 1,28,none⟩ (.int .i64 0)) ⟨w.heap.size + 1,28,none⟩ (.int .i64 0));  have hb3:=(hb2.setCell (p:=⟨w.heap.size + 1,28,none⟩) (Nat.le_succ _) (.int .i64 0)).setCell (p:=⟨w.heap.size + 1,28,none⟩) (Nat.le_succ _) (.int .i64 0))
  | (refine wpList_load_mid rfl 34 _ rfl (w.heap.size + 1) 0 rfl ds _ R3 hu34 rfl hi34d ?_)
  | (refine wpList_store_mid rfl 34 _ _ rfl w.heap.size 0 ds.toArray rfl rfl T3 hi34e hone2 ?_))
 have hr:=World.rangeAt_setCells_same ((W2.setCell ⟨w.heap.size + 1,28,none⟩ (.int .i64 0)).setCell ⟨w.heap.size + 1,28,none⟩ (.int .i64 0)) w.heap.size 0 ds (by rw [show ds.length = ds.toArray.size by simp]; exact T3)
 have hb4:=zbd ds (b:=w.heap.size) 0 hb3 (Nat.le_refl _)
 generalize ((W2.setCell ⟨w.heap.size + 1,28,none⟩ (.int .i64 0)).setCell ⟨w.heap.size + 1,28,none⟩ (.int .i64 0)).setCells w.heap.size 0 ds = W4 at hr hb4 ⊢
 have hres:=run_loadVar_mid W4 w.heap.size 0 34 ds _ hr hu34 rfl hi34d
 refine bodyPost_ret (v:=.agg ds.toArray) (zca Tryz.results56 _ ⟨w.heap.size,0,none⟩ rfl hres) rfl ⟨rfl,hb4⟩
theorem zoU (w : World) (b : Nat) (cs ds : List Value) (z : Int) (hlen : cs.length = 30) (hone : cs.toArray.all (·.oneCell') = true) (hc : w.rangeAt b 4 cs) (h28 : cs[28]? = some (.int .i64 0)) (h29 : cs[29]? = some (.int .i64 z)) (cAt : w.cell? ⟨b,1,none⟩ = some (.int .i64 (-1))) (hz : z = 2) (hds : cs.set 28 (.int .i64 0) = ds) (hone2 : ds.toArray.all (·.oneCell') = true) :
  Calls Tryz.prog 56 #[.pointer (some ⟨b,0,none⟩)] w fun e w' => e = .returned (.agg ds.toArray) ∧ Below w.heap.size w w':=by
 subst hz
 have lg : b < w.heap.size:=World.block_lt_of_cell? w _ cAt
 have hdl : ds.length = 30:=by rw [← hds,List.length_set]; exact hlen
 have hc1:=World.rangeAt_alloc hc Z34
 have ca1 : (w.alloc Z34).cell? ⟨b,1,none⟩ = some (.int .i64 (-1)):=(World.cell?_alloc_lt w _ _ lg).trans cAt
 have ht1:=zeq w
 have hs1 : (w.alloc Z34).heap.size = w.heap.size + 1:=by simp
 have hb1 : Below w.heap.size w (w.alloc Z34):=(Below.refl _ _).alloc (Nat.le_refl _) _
 have hu34 : Tryz.prog.underlying 34 = some (.struct _):=Tryz.underlying34
 have hi34 : (Tryz.prog.info? 34).map (·.size) = some cs.length:=by rw [hlen]; exact Tryz.info34
 have hi34a : (Tryz.prog.info? 34).map (·.size) = some cs.toArray.size:=by rw [show cs.toArray.size = 30 by simp [hlen]]; exact Tryz.info34
 have hi34d : (Tryz.prog.info? 34).map (·.size) = some ds.length:=by rw [hdl]; exact Tryz.info34
 have hi34e : (Tryz.prog.info? 34).map (·.size) = some ds.toArray.size:=by rw [show ds.toArray.size = 30 by simp [hdl]]; exact Tryz.info34
 have hTd : ∀ W : World,W.there w.heap.size 0 30 → W.there w.heap.size 0 ds.toArray.size:=fun W h => by rw [show ds.toArray.size = 30 by simp [hdl]]; exact h
 have hRd : ∀ W : World,W.rangeAt (w.heap.size + 1) 0 cs → W.cell? ⟨w.heap.size + 1,28,none⟩ = some (.int .i64 0) → (W.setCell ⟨w.heap.size + 1,28,none⟩ (.int .i64 0)).rangeAt (w.heap.size + 1) 0 ds:=fun W h hq => by
  rw [← hds]
  have:=zep (v:=.int .i64 0) h (n:=28) (u:=.int .i64 0) (by simpa using hq)
  simpa using this
 have hRe : ∀ W : World,W.rangeAt (w.heap.size + 1) 0 ds → W.cell? ⟨w.heap.size + 1,28,none⟩ = some (.int .i64 0) → (W.setCell ⟨w.heap.size + 1,28,none⟩ (.int .i64 0)).rangeAt (w.heap.size + 1) 0 ds:=fun W h hq => by
  have:=zep (v:=.int .i64 0) h (n:=28) (u:=.int .i64 0) (by simpa using hq)
  have e : ds.set 28 (.int .i64 0) = ds:=by rw [← hds,List.set_set]
  rw [e] at this
  simpa using this
 clear hc cAt
 go_enter Tryz.func56,Tryz.ntmps56
 go_wp2_with (first
  | (refine wpList_load_mid rfl 34 _ rfl b 4 rfl cs _ hc1 hu34 rfl hi34 ?_; generalize w.alloc Z34 = W1 at hc1 ca1 ht1 hs1 hb1 ⊢; have ht2:=zf6 hs1 cs hlen)
  | (refine wpList_store_mid rfl 34 _ _ rfl (w.heap.size + 1) 0 cs.toArray rfl rfl ht2 hi34a hone ?_; obtain ⟨R2,T2,T1,ca2,hs2,hb2⟩:=zj1 hs1 cs hlen ca1 ht1 hb1 lg; generalize (W1.alloc Z34).setCells (w.heap.size + 1) 0 cs.toArray.toList = W2 at R2 T2 T1 ca2 hs2 hb2 ⊢; clear hc1 ca1 ht1 hs1 hb1 ht2; have q28:=R2 28 _ h28; have q29:=R2 29 _ h29; have f28:=(T2 28 (by omega)).2; simp only [Nat.zero_add] at q28 q29 f28; have R30:=hRd W2 R2 q28; have R3:=hRe _ R30 (World.cell?_setCell_same W2 _ _ q28); have T3:=hTd _ (zdC (zdC T1 ⟨w.heap.size + 1,28,none⟩ (.int .i64 0)) ⟨w.heap.size + 1,28,none⟩ (.int .i64 0));  have hb3:=(hb2.setCell (p:=⟨w.heap.size + 1,28,none⟩) (Nat.le_succ _) (.int .i64 0)).setCell (p:=⟨w.heap.size + 1,28,none⟩) (Nat.le_succ _) (.int .i64 0))
  | (refine wpList_load_mid rfl 34 _ rfl (w.heap.size + 1) 0 rfl ds _ R3 hu34 rfl hi34d ?_)
  | (refine wpList_store_mid rfl 34 _ _ rfl w.heap.size 0 ds.toArray rfl rfl T3 hi34e hone2 ?_))
 have hr:=World.rangeAt_setCells_same ((W2.setCell ⟨w.heap.size + 1,28,none⟩ (.int .i64 0)).setCell ⟨w.heap.size + 1,28,none⟩ (.int .i64 0)) w.heap.size 0 ds (by rw [show ds.length = ds.toArray.size by simp]; exact T3)
 have hb4:=zbd ds (b:=w.heap.size) 0 hb3 (Nat.le_refl _)
 generalize ((W2.setCell ⟨w.heap.size + 1,28,none⟩ (.int .i64 0)).setCell ⟨w.heap.size + 1,28,none⟩ (.int .i64 0)).setCells w.heap.size 0 ds = W4 at hr hb4 ⊢
 have hres:=run_loadVar_mid W4 w.heap.size 0 34 ds _ hr hu34 rfl hi34d
 refine bodyPost_ret (v:=.agg ds.toArray) (zca Tryz.results56 _ ⟨w.heap.size,0,none⟩ rfl hres) rfl ⟨rfl,hb4⟩
end Go.Proofs.YtfpgjkbjbbgciaaGreatDoor
