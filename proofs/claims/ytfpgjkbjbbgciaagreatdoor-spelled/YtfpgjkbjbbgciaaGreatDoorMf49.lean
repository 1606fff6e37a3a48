import Derived.Test.YtfpgjkbjbbgciaaGreatDoorMf42
import Derived.Test.YtfpgjkbjbbgciaaGreatDoorMf48
set_option maxRecDepth 100000
set_option maxHeartbeats 8000000
namespace Go.Proofs.YtfpgjkbjbbgciaaGreatDoor
open Go.RowKit Sp
theorem SlN.front {w : World} {ao : Option Addr} {n c : Nat} {l t : List Int} (h : SlN w (.slice ao n c) (l ++ t)) : SlN w (.slice ao l.length c) l:=by
 obtain ⟨a2,c2,e,h⟩:=h
 simp only [Value.slice.injEq] at e
 obtain ⟨rfl,rfl,rfl⟩:=e
 refine ⟨_,_,rfl,fun hp => ?_⟩
 obtain ⟨g,o,e,hc⟩:=h (by rw [List.length_append]; omega)
 refine ⟨g,o,e,fun j hj => ?_⟩
 rw [hc j (by rw [List.length_append]; omega),List.getElem_append_left hj]
def zeb (w : World) (ds : List Value) : World:=(w.alloc Z34).setCells w.heap.size 0 ds.toArray.toList
theorem zbr (w : World) (ds : List Value) : Below w.heap.size w (zeb w ds):=za6 _ 0 ((Below.refl w.heap.size w).alloc (Nat.le_refl _) _) (Nat.le_refl _)
theorem zmq (w : World) (ds : List Value) : (zeb w ds).heap.size = w.heap.size + 1:=by unfold zeb; rw [zev]; simp
theorem zf2 {w : World} {ds : List Value} (hln : ds.length = 30) : (zeb w ds).rangeAt w.heap.size 0 ds:=by
 have ht:=zcx (W1:=w) rfl ds hln
 unfold zeb
 rw [show ds.toArray.toList = ds by simp]
 exact World.rangeAt_setCells_same _ _ _ _ (by rw [show ds.length = ds.toArray.size by simp]; exact ht)
theorem zs0 (m : Mc) (ov : Value) (line : Int) : (zai m ov line)[0]? = some (.int .i64 m.steps):=by simp [zai]
theorem zse (m : Mc) (ov : Value) (line : Int) : (zai m ov line)[25]? = some ov:=by simp [zai]
theorem zsf (m : Mc) (ov : Value) (line : Int) : (zai m ov line)[27]? = some (.int .i64 m.peak):=by simp [zai]
theorem zsg (m : Mc) (ov : Value) (line : Int) : (zai m ov line)[29]? = some (.int .i64 m.fin):=by simp [zai]
structure StIn (w : World) (b : Nat) (m : Mc) (v : Value) (at_ : Int) : Prop where
 c0 : w.cell? ⟨b,0,none⟩ = some (.int .i64 m.steps)
 c25 : w.cell? ⟨b,25,none⟩ = some v
 c27 : w.cell? ⟨b,27,none⟩ = some (.int .i64 m.peak)
 c28 : w.cell? ⟨b,28,none⟩ = some (.int .i64 at_)
 c29 : w.cell? ⟨b,29,none⟩ = some (.int .i64 m.fin)
theorem StIn.new {w : World} {m : Mc} {v : Value} {at_ : Int} {b : Nat} (h : w.rangeAt b 0 (zai m v at_)) : StIn w b m v at_:=by
 have c0:=h 0 _ (zs0 m v at_)
 have c25:=h 25 _ (zse m v at_)
 have c27:=h 27 _ (zsf m v at_)
 have c28:=h 28 _ (zgg m v at_)
 have c29:=h 29 _ (zsg m v at_)
 rw [Nat.zero_add] at c0 c25 c27 c28 c29
 exact ⟨c0,c25,c27,c28,c29⟩
theorem StIn.below {w w' : World} {m : Mc} {v : Value} {at_ : Int} {b : Nat} (h : StIn w b m v at_) (hb : Below w.heap.size w w') : StIn w' b m v at_:=⟨still hb h.c0,still hb h.c25,still hb h.c27,still hb h.c28,still hb h.c29⟩
theorem zs1 (cv iv : Value) (inp : List Int) (n more : Int) (a b : Nat) (ha : a < 3000) (hb : b < 3000) (w : World) (hw : LibW w)
  (hcnt : Calls Tryz.prog 31 #[cv] w (zkc w))
  (hp1 : ∀ W,Calls Tryz.prog 37 #[.int .i64 n,.int .i64 3000] W fun e w' => e = .returned (.int .i64 (a : Int)) ∧ w' = W)
  (hp2 : ∀ W,Calls Tryz.prog 37 #[.int .i64 more,.int .i64 3000] W fun e w' => e = .returned (.int .i64 (b : Int)) ∧ w' = W)
  (htr : ∀ (s : ByteArray) (W : World) (k : Int),LibW W → Below w.heap.size w W → s.size ≤ 5400000 → Calls Tryz.prog 18 #[.string s,iv,.int .i64 k] W (zdc W (zew s inp k))) :
  Calls Tryz.prog 12 #[cv,iv,.int .i64 n,.int .i64 more] w fun e w' => e = .returned (.bool true) ∧ Below w.heap.size w w':=by
 go_enter Tryz.func12,Tryz.ntmps12
 go_wp2_with (first
  | (go_at_call 31; (with_reducible refine hcnt.mono ?_); rintro e w1 ⟨G,x,y,z,rfl,hG,hG0,hGl,hGs,hb1⟩; refine Hid.out ?_))
 unfold Hid
 have hR:=hG.read hG0 (by omega)
 generalize ba (zdh G) = s at hGs hR ⊢
 clear hG hG0 hGl hcnt
 have hf:=fun W => zqc s W (by omega)
 unfold zrk at hf
 by_cases hlong : 4000 < s.size ∨ 300 < (lines s).length
 ·rw [if_pos hlong] at hR
  rw [decide_eq_false (fun x => x hlong)] at hf
  have ht : ∀ k,zew s inp k = ⟨zbD,0,6,0⟩:=fun k => by unfold zew; rw [hR,if_pos (by decide)]
  have ht1:=htr s w1 (a : Int) (hw.below hb1) hb1 hGs
  rw [ht] at ht1
  clear hlong hR
  go_wp2_with (first
   | (go_at_call 37; (first | (with_reducible refine (hp1 _).mono ?_) | (with_reducible refine (hp2 _).mono ?_)); rintro e wx ⟨rfl,hwx⟩; subst hwx)
   | (go_at_call 18; refine Hid.out ?_))
  unfold Hid
  refine ht1.mono ?_
  rintro e w2 ⟨oo,no,co,rfl,_,hb2⟩
  dsimp only
  have hB2:=hb1.trans (hb2.mono hb1.size)
  have hln:=zaK zbD (.slice oo no co) 0
  have h1:=zbi zbD oo no co 0
  have hr3:=zf2 (w:=w2) hln
  have S3:=StIn.new hr3
  have hB3:=hB2.trans ((zbr w2 (zai zbD (.slice oo no co) 0)).mono hB2.size)
  generalize zai zbD (.slice oo no co) 0 = ds at hln h1 hr3 S3 hB3
  have hi:=zby ds hln
  have ht3:=zcx (W1:=w2) rfl ds hln
  have ht4:=htr s (zeb w2 ds) ((a : Int) + (b : Int)) (hw.below hB3) hB3 hGs
  rw [ht] at ht4
  generalize hw3 : zeb w2 ds = w3 at hr3 S3 hB3 ht4
  unfold zeb at hw3
  clear hr3 htr hp1 hp2 ht
  go_wp2_with (first
   | (refine wpList_store_mid rfl 34 _ _ rfl w2.heap.size 0 ds.toArray rfl rfl ht3 hi h1 ?_; rw [hw3])
   | (go_at_call 18; refine Hid.out ?_))
  unfold Hid
  refine ht4.mono ?_
  rintro e w4 ⟨o2,n2,c2,rfl,_,hb4⟩
  dsimp only
  replace S3:=S3.below hb4
  have hB4:=hB3.trans (hb4.mono hB3.size)
  have hln2:=zaK zbD (.slice o2 n2 c2) 0
  have h12:=zbi zbD o2 n2 c2 0
  have hr5:=zf2 (w:=w4) hln2
  have S5:=StIn.new hr5
  replace S3:=S3.below (zbr w4 (zai zbD (.slice o2 n2 c2) 0))
  have hB5:=hB4.trans ((zbr w4 (zai zbD (.slice o2 n2 c2) 0)).mono hB4.size)
  generalize zai zbD (.slice o2 n2 c2) 0 = ds2 at hln2 h12 hr5 S5 S3 hB5
  have hi2:=zby ds2 hln2
  have ht5:=zcx (W1:=w4) rfl ds2 hln2
  generalize hw5 : zeb w4 ds2 = w5 at hr5 S5 S3 hB5
  unfold zeb at hw5
  have s0 : w5.cell? ⟨w2.heap.size,0,none⟩ = some (.int .i64 0):=S3.c0
  have t0 : w5.cell? ⟨w4.heap.size,0,none⟩ = some (.int .i64 0):=S5.c0
  clear hr5 S3 S5 ht4 ht1
  go_wp2_with (first
   | (refine wpList_store_mid rfl 34 _ _ rfl w4.heap.size 0 ds2.toArray rfl rfl ht5 hi2 h12 ?_; rw [hw5])
   | (go_at_call 33; (with_reducible refine (hf _).mono ?_); rintro e wz ⟨rfl,hwz⟩; subst hwz))
  go_ret
  exact ⟨rfl,hB5⟩
 ·rw [if_neg hlong] at hR
  rw [decide_eq_true hlong] at hf
  obtain ⟨F,hF⟩:=zjW s hR
  have K:=zqa hF inp a b
  have hS : zew s inp (a : Int) = ⟨runS (zbW ((lines s).map say)) a (zb9 ((lines s).map say) inp),(runS (zbW ((lines s).map say)) a (zb9 ((lines s).map say) inp)).line,0,0⟩:=by
   unfold zew
   rw [if_neg (by simp [hR]),if_neg (by omega),Int.toNat_natCast]
  have hT : zew s inp ((a : Int) + (b : Int)) = ⟨runS (zbW ((lines s).map say)) (a + b) (zb9 ((lines s).map say) inp),(runS (zbW ((lines s).map say)) (a + b) (zb9 ((lines s).map say) inp)).line,0,0⟩:=by
   unfold zew
   rw [if_neg (by simp [hR]),if_neg (by omega),show ((a : Int) + (b : Int)).toNat = a + b by omega]
  generalize runS (zbW ((lines s).map say)) a (zb9 ((lines s).map say) inp) = S at K hS
  generalize runS (zbW ((lines s).map say)) (a + b) (zb9 ((lines s).map say) inp) = T at K hT
  clear hF hlong hR F
  have ht1:=htr s w1 (a : Int) (hw.below hb1) hb1 hGs
  rw [hS] at ht1
  go_wp2_with (first
   | (go_at_call 37; (first | (with_reducible refine (hp1 _).mono ?_) | (with_reducible refine (hp2 _).mono ?_)); rintro e wx ⟨rfl,hwx⟩; subst hwx)
   | (go_at_call 18; refine Hid.out ?_))
  unfold Hid
  refine ht1.mono ?_
  rintro e w2 ⟨oo,no,co,rfl,hrow2,hb2⟩
  dsimp only at hrow2 ⊢
  have hB2:=hb1.trans (hb2.mono hb1.size)
  have hln:=zaK S (.slice oo no co) S.line
  have h1:=zbi S oo no co S.line
  have hr3:=zf2 (w:=w2) hln
  have S3:=StIn.new hr3
  have N2:=SlN.of_row (_n:=0) hrow2
  have N3:=N2.below (zbr w2 (zai S (.slice oo no co) S.line))
  have hB3:=hB2.trans ((zbr w2 (zai S (.slice oo no co) S.line)).mono hB2.size)
  have z3:=zmq w2 (zai S (.slice oo no co) S.line)
  have e1 : no = S.out.length:=by
   obtain ⟨oa,ca,e1,_,_,_⟩:=zez hrow2
   simp only [Value.slice.injEq] at e1
   exact e1.2.1
  subst e1
  generalize hds : zai S (.slice oo S.out.length co) S.line = ds at hln h1 hr3 S3 N3 hB3 z3
  have hi:=zby ds hln
  have ht3:=zcx (W1:=w2) rfl ds hln
  have ht4:=htr s (zeb w2 ds) ((a : Int) + (b : Int)) (hw.below hB3) hB3 hGs
  rw [hT] at ht4
  generalize hw3 : zeb w2 ds = w3 at hr3 S3 N3 hB3 ht4 z3
  unfold zeb at hw3
  clear htr hp1 hp2 ht1 hrow2 N2 hS hT
  go_wp2_with (first
   | (refine wpList_store_mid rfl 34 _ _ rfl w2.heap.size 0 ds.toArray rfl rfl ht3 hi h1 ?_; rw [hw3])
   | (go_at_call 18; refine Hid.out ?_))
  unfold Hid
  refine ht4.mono ?_
  rintro e w4 ⟨o2,n2,c2,rfl,hrow4,hb4⟩
  dsimp only at hrow4 ⊢
  have hB4:=hB3.trans (hb4.mono hB3.size)
  have hln2:=zaK T (.slice o2 n2 c2) T.line
  have h12:=zbi T o2 n2 c2 T.line
  have hr5:=zf2 (w:=w4) hln2
  have S5:=StIn.new hr5
  have hb35:=hb4.trans ((zbr w4 (zai T (.slice o2 n2 c2) T.line)).mono hb4.size)
  have M5:=(SlN.of_row (_n:=0) hrow4).below (zbr w4 (zai T (.slice o2 n2 c2) T.line))
  have hB5:=hB4.trans ((zbr w4 (zai T (.slice o2 n2 c2) T.line)).mono hB4.size)
  have e2 : n2 = T.out.length ∧ T.out.length ≤ c2:=by
   obtain ⟨oa,ca,e2,hcap,_,_⟩:=zez hrow4
   simp only [Value.slice.injEq] at e2
   exact ⟨e2.2.1,by omega⟩
  obtain ⟨e2,hcap⟩:=e2
  subst e2
  generalize hds2 : zai T (.slice o2 T.out.length c2) T.line = ds2 at hln2 h12 hr5 S5 hb35 M5 hB5
  have hi2:=zby ds2 hln2
  have ht5:=zcx (W1:=w4) rfl ds2 hln2
  generalize hw5 : zeb w4 ds2 = w5 at hr5 S5 hb35 M5 hB5
  unfold zeb at hw5
  have N5:=N3.below hb35
  have Q5:=S3.below hb35
  obtain ⟨s0,s25,s27,s28,s29⟩:=Q5
  obtain ⟨t0,t25,t27,t28,t29⟩:=S5
  clear S3 N3 ht4
  obtain ⟨⟨k1,k2⟩,⟨k3,k4⟩,⟨tl,k5⟩,k6,k7,k8,k9⟩:=K
  have k10 : S.out.length ≤ T.out.length:=by rw [k5,List.length_append]; omega
  have k11 : T.out.length ≤ 100000:=by omega
  rw [k5] at M5
  have P5:=M5.front
  have hnum:=ze2 w5.drew _ _ S.out N5 P5 (by omega)
  have u1 : (0 : Int) ≤ (S.out.length : Int):=by omega
  have u2 : (S.out.length : Int) ≤ (c2 : Int):=by omega
  have u3 : S.out.length ≤ c2:=by omega
  have H1 : w5.drew.cell? ⟨w2.heap.size,25,none⟩ = some (.slice oo S.out.length co) ∧ w5.drew.cell? ⟨w4.heap.size,25,none⟩ = some (.slice o2 T.out.length c2):=⟨s25,t25⟩
  go_wp2_with (first
   | (refine wpList_store_mid rfl 34 _ _ rfl w4.heap.size 0 ds2.toArray rfl rfl ht5 hi2 h12 ?_; rw [hw5])
   | (go_at_call 33; (with_reducible refine (hf _).mono ?_); rintro e wz ⟨rfl,hwz⟩; subst hwz))
  go_region_held3 (fun W => W.cell? ⟨w2.heap.size,25,none⟩ = some (.slice oo S.out.length co) ∧ W.cell? ⟨w4.heap.size,25,none⟩ = some (.slice o2 T.out.length c2))
   (first | exact H2 | exact H1)
   (first | (go_at_call 39; (with_reducible refine hnum.mono ?_); rintro e w6 ⟨rfl,nq,hw6⟩; subst hw6; have H2 : (wz.drew.drewN nq).cell? ⟨w2.heap.size,25,none⟩ = some (.slice oo S.out.length co) ∧ (wz.drew.drewN nq).cell? ⟨w4.heap.size,25,none⟩ = some (.slice o2 T.out.length c2):=⟨s25,t25⟩) | (simp only; simp only [Oper.upon]))
  have hq : Below wz.heap.size wz (wz.drewN (1 + nq)):=⟨rfl,rfl,rfl,Nat.le_refl _,fun _ _ => rfl⟩
  have hB6:=hB5.trans (hq.mono hB5.size)
  replace s0:=still hq s0
  replace s28:=still hq s28
  replace s29:=still hq s29
  replace t0:=still hq t0
  replace N5:=N5.below hq
  replace M5:=M5.below hq
  have R3:=zcL (zcL hr3 hb35 (by rw [z3]; omega)) hq (Nat.lt_of_lt_of_le (by rw [z3]; omega) hb35.size)
  have R5:=zcL hr5 hq (show w4.heap.size < wz.heap.size by rw [← hw5,zev]; simp)
  clear hnum H1 H2 P5 s25 t25 s27 t27 t28 hr3 hr5
  generalize wz.drewN (1 + nq) = w6 at hB6 s0 s28 s29 t0 N5 M5 R3 R5 ⊢
  by_cases hfin : S.fin = 0
  ·obtain ⟨j1,j2,j3⟩:=k8 hfin
   rw [hfin] at s29
   rw [j1] at s0 j3
   have hj2 : decide (0 < S.line) = true:=by simpa using j2
   have hj3 : decide ((a : Int) ≤ T.steps) = true:=by simpa using j3
   clear k7 k8 k5 hds hds2
   go_wp2
   go_ret
   exact ⟨rfl,hB6⟩
  ·have hTS:=k7 hfin
   subst hTS
   have hid : (Tryz.prog.info? 34).map (·.size) = some ds.length:=by rw [hln]; exact Tryz.info34
   have hid2 : (Tryz.prog.info? 34).map (·.size) = some ds2.length:=by rw [hln2]; exact Tryz.info34
   have hu34 : Tryz.prog.underlying 34 = some (.struct _):=Tryz.underlying34
   rw [← k5] at M5
   clear k5 k7 k8 k9
   have hss:=zkd w6 T oo o2 T.out.length T.out.length co c2 T.line N5 M5 (by omega)
   rw [hds,hds2] at hss
   clear hds hds2
   have hfd : (T.fin == 0) = false:=by simpa using hfin
   go_wp2_with (first
    | (refine wpList_load_mid rfl 34 _ rfl w2.heap.size 0 rfl ds _ R3 hu34 rfl hid ?_)
    | (refine wpList_load_mid rfl 34 _ rfl w4.heap.size 0 rfl ds2 _ R5 hu34 rfl hid2 ?_)
    | (go_at_call 35; refine Hid.out ?_))
   unfold Hid
   refine hss.mono ?_
   rintro e w8 ⟨rfl,hb8⟩
   dsimp only
   go_wp2
   go_ret
   exact ⟨rfl,hB6.trans (hb8.mono hB6.size)⟩
end Go.Proofs.YtfpgjkbjbbgciaaGreatDoor
