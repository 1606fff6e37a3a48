import Derived.Test.YtfpgjkbjbbgciaaGreatDoorMe49
set_option maxRecDepth 100000
set_option maxHeartbeats 8000000
namespace Go.Proofs.YtfpgjkbjbbgciaaGreatDoor
open Go.RowKit Sp
theorem zlt (s : ByteArray) (w : World) (hw : LibW w) (iv : Value) (er ln : Int) (her : ¬ er = 0)
  (hlet : ∀ W,LibW W → Calls Tryz.prog 34 #[.string s] W fun e w' => e = .returned (.tuple #[.agg #[.int .i64 0,.int .i64 0],.bool false]) ∧ Below W.heap.size W w')
  (hrun : ∀ W,LibW W → Below w.heap.size w W → Calls Tryz.prog 25 #[.string s,iv] W (zbz W ⟨zbE,0,er,ln⟩)) :
  Calls Tryz.prog 9 #[.string s,iv] w fun e w' => e = .returned (.bool true) ∧ Below w.heap.size w w':=by
 have haw:=zib w hw
 go_enter Tryz.func9,Tryz.ntmps9
 go_wp2_with (first
  | (go_at_call 30; (with_reducible refine haw.mono ?_); rintro e w1 ⟨rfl,hb1⟩; have hl1:=hlet w1 (hw.below hb1))
  | (go_at_call 34; (with_reducible refine hl1.mono ?_); rintro e w2 ⟨rfl,hb2⟩; have hB2:=hb1.trans (hb2.mono hb1.size); have hB3:=hB2.alloc hB2.size (.cells #[.int .i64 0,.int .i64 0] 42); have hr3:=hrun _ (hw.below hB3) hB3)
  | (go_at_call 25; refine Hid.out ?_))
 unfold Hid
 refine hr3.mono ?_
 rintro e w4 ⟨oo,no,co,rfl,_,hb4⟩
 dsimp only
 have hB4:=hB3.trans (hb4.mono hB3.size)
 have hln:=zaE zbE (.slice oo no co) 0
 have h1:=zaO zbE oo no co 0
 have h0 : (zak zbE (.slice oo no co) 0)[0]? = some (.int .i64 0):=zde _ _ _
 have h29 : (zak zbE (.slice oo no co) 0)[29]? = some (.int .i64 0):=zd0 _ _ _
 generalize zak zbE (.slice oo no co) 0 = ds at hln h1 h0 h29
 have hi:=zaU ds hln
 have ht3:=zcN (W1:=w4) rfl ds hln
 have hB5 : Below w4.heap.size w4 ((w4.alloc Z34).setCells w4.heap.size 0 ds.toArray.toList):=zam _ 0 ((Below.refl w4.heap.size w4).alloc (Nat.le_refl _) _) (Nat.le_refl _)
 have hr5 : ((w4.alloc Z34).setCells w4.heap.size 0 ds.toArray.toList).rangeAt w4.heap.size 0 ds:=by rw [show ds.toArray.toList = ds by simp]; exact World.rangeAt_setCells_same _ _ _ _ (by rw [show ds.length = ds.toArray.size by simp]; exact ht3)
 have c0:=hr5 0 _ h0
 have c29:=hr5 29 _ h29
 rw [Nat.zero_add] at c0 c29
 have hB6:=hB4.trans (hB5.mono hB4.size)
 generalize hw5 : (w4.alloc Z34).setCells w4.heap.size 0 ds.toArray.toList = w5 at hB5 hr5 c0 c29 hB6
 clear hr5 h0 h29 hr3 hrun hlet haw hl1
 go_wp2_with (first | (refine wpList_store_mid rfl 34 _ _ rfl w4.heap.size 0 ds.toArray rfl rfl ht3 hi h1 ?_; rw [hw5]))
 go_ret
 exact ⟨by simp [go_sem,her],hB6⟩
theorem zu2 (s : ByteArray) (w : World) (hw : LibW w) (iv : Value) (bs bf : Int) (b1 : 1 ≤ bs) (b2 : bs ≤ 100000) (FIN : Mc) (hf : FIN.fin = 1 ∨ FIN.fin = 2) (hpk : FIN.peak ≤ bf) (hout : FIN.out.length ≤ 1048577)
  (hlet : ∀ W,LibW W → Calls Tryz.prog 34 #[.string s] W fun e w' => e = .returned (.tuple #[.agg #[.int .i64 bs,.int .i64 bf],.bool true]) ∧ Below W.heap.size W w')
  (htr : ∀ W,LibW W → Below w.heap.size w W → Calls Tryz.prog 18 #[.string s,iv,.int .i64 bs] W (zbz W ⟨FIN,FIN.line,0,0⟩))
  (hrun : ∀ W,LibW W → Below w.heap.size w W → Calls Tryz.prog 25 #[.string s,iv] W (zbz W ⟨FIN,FIN.line,0,0⟩)) :
  Calls Tryz.prog 9 #[.string s,iv] w fun e w' => e = .returned (.bool true) ∧ Below w.heap.size w w':=by
 have haw:=zib w hw
 go_enter Tryz.func9,Tryz.ntmps9
 go_wp2_with (first
  | (go_at_call 30; (with_reducible refine haw.mono ?_); rintro e w1 ⟨rfl,hb1⟩; have hl1:=hlet w1 (hw.below hb1))
  | (go_at_call 34; (with_reducible refine hl1.mono ?_); rintro e w2 ⟨rfl,hb2⟩; have hB2:=hb1.trans (hb2.mono hb1.size); have hB3:=hB2.alloc hB2.size (.cells #[.int .i64 bs,.int .i64 bf] 42); have hr3:=htr _ (hw.below hB3) hB3)
  | (go_at_call 18; refine Hid.out ?_))
 unfold Hid
 have q6 : (w2.alloc (.cells #[.int .i64 bs,.int .i64 bf] 42)).cell? ⟨w2.heap.size,1,none⟩ = some (.int .i64 bf):=World.cell?_alloc_new (w:=w2) #[.int .i64 bs,.int .i64 bf] 42 1
 refine hr3.mono ?_
 rintro e w4 ⟨oo,no,co,rfl,hrow4,hb4⟩
 dsimp only
 have q64:=zap hb4 q6
 have hB4:=hB3.trans (hb4.mono hB3.size)
 have hln:=zaE FIN (.slice oo no co) FIN.line
 have h1:=zaO FIN oo no co FIN.line
 have h27:=zlr FIN (.slice oo no co) FIN.line
 have h29:=zd0 FIN (.slice oo no co) FIN.line
 have hN4:=SlN.of_row (_n:=0) hrow4
 generalize hds : zak FIN (.slice oo no co) FIN.line = ds at hln h1 h27 h29
 have hi:=zaU ds hln
 have hid : (Tryz.prog.info? 34).map (·.size) = some ds.length:=by rw [hln]; exact Tryz.info34
 have ht4:=zcN (W1:=w4) rfl ds hln
 have hB5 : Below w4.heap.size w4 ((w4.alloc Z34).setCells w4.heap.size 0 ds.toArray.toList):=zam _ 0 ((Below.refl w4.heap.size w4).alloc (Nat.le_refl _) _) (Nat.le_refl _)
 have hr5 : ((w4.alloc Z34).setCells w4.heap.size 0 ds.toArray.toList).rangeAt w4.heap.size 0 ds:=by rw [show ds.toArray.toList = ds by simp]; exact World.rangeAt_setCells_same _ _ _ _ (by rw [show ds.length = ds.toArray.size by simp]; exact ht4)
 have hs5 : ((w4.alloc Z34).setCells w4.heap.size 0 ds.toArray.toList).heap.size = w4.heap.size + 1:=by rw [zjo]; simp
 have q65:=zap hB5 q64
 have hN5:=hN4.below hB5
 have hB6:=hB4.trans (hB5.mono hB4.size)
 generalize hw5 : (w4.alloc Z34).setCells w4.heap.size 0 ds.toArray.toList = w5 at hB5 hr5 hs5 q65 hN5 hB6
 have hr6:=hrun w5 (hw.below hB6) hB6
 clear hr3 hrun hlet haw hl1 htr q6 q64 hrow4
 go_wp2_with (first
  | (refine wpList_store_mid rfl 34 _ _ rfl w4.heap.size 0 ds.toArray rfl rfl ht4 hi h1 ?_; rw [hw5])
  | (go_at_call 25; refine Hid.out ?_))
 unfold Hid
 refine hr6.mono ?_
 rintro e w6 ⟨o2,n2,c2,rfl,hrow6,hb6⟩
 dsimp only
 have hl6:=zaE FIN (.slice o2 n2 c2) FIN.line
 have h16:=zaO FIN o2 n2 c2 FIN.line
 have hN6:=SlN.of_row (_n:=0) hrow6
 generalize hds2 : zak FIN (.slice o2 n2 c2) FIN.line = ds2 at hl6 h16
 have hi6:=zaU ds2 hl6
 have hid6 : (Tryz.prog.info? 34).map (·.size) = some ds2.length:=by rw [hl6]; exact Tryz.info34
 have ht6:=zcN (W1:=w6) rfl ds2 hl6
 have hB7 : Below w6.heap.size w6 ((w6.alloc Z34).setCells w6.heap.size 0 ds2.toArray.toList):=zam _ 0 ((Below.refl w6.heap.size w6).alloc (Nat.le_refl _) _) (Nat.le_refl _)
 have hr7b : ((w6.alloc Z34).setCells w6.heap.size 0 ds2.toArray.toList).rangeAt w6.heap.size 0 ds2:=by rw [show ds2.toArray.toList = ds2 by simp]; exact World.rangeAt_setCells_same _ _ _ _ (by rw [show ds2.length = ds2.toArray.size by simp]; exact ht6)
 have hb57:=hb6.trans (hB7.mono hb6.size)
 have hr7:=zeT hr5 hb57 (by omega)
 have hss:=zmF _ FIN oo o2 no n2 co c2 FIN.line (hN5.below hb57) (hN6.below hB7) hout
 rw [hds,hds2] at hss
 have hBw7:=hB6.trans (hb57.mono hB6.size)
 have q67:=zap hb57 q65
 generalize hw7 : (w6.alloc Z34).setCells w6.heap.size 0 ds2.toArray.toList = w7 at hB7 hr7 hr7b hb57 hss hBw7 q67
 have hu34 : Tryz.prog.underlying 34 = some (.struct _):=Tryz.underlying34
 clear hr6 hrow6 q65 hr5
 go_wp2_with (first
  | (refine wpList_store_mid rfl 34 _ _ rfl w6.heap.size 0 ds2.toArray rfl rfl ht6 hi6 h16 ?_; rw [hw7])
  | (refine wpList_load_mid rfl 34 _ rfl w4.heap.size 0 rfl ds _ hr7 hu34 rfl hid ?_)
  | (refine wpList_load_mid rfl 34 _ rfl w6.heap.size 0 rfl ds2 _ hr7b hu34 rfl hid6 ?_)
  | (go_at_call 35; refine Hid.out ?_))
 unfold Hid
 refine hss.mono ?_
 rintro e w8 ⟨rfl,hb8⟩
 dsimp only
 have c27:=hr7 27 _ h27
 have c29:=hr7 29 _ h29
 rw [Nat.zero_add] at c27 c29
 have k27:=zap hb8 c27
 have k29:=zap hb8 c29
 have q68:=zap hb8 q67
 have hBw8:=hBw7.trans (hb8.mono hBw7.size)
 clear hss hr7 hr7b c27 c29 q67 hu34 ht6 ht4 hi hi6
 have hpk2 : decide (FIN.peak ≤ bf) = true:=by simpa using hpk
 rcases hf with e1 | e1
 ·rw [e1] at k29
  go_wp2
  go_ret
  exact ⟨rfl,hBw8⟩
 ·rw [e1] at k29
  go_wp2
  go_ret
  exact ⟨rfl,hBw8⟩
theorem zu3 (s : ByteArray) (w : World) (hw : LibW w) (ao : Option Addr) (icap : Nat) (inp : List Int) (hs : s.size ≤ 9223372036854775807) (hiv : SlB w w.heap.size (.slice ao inp.length icap) inp) (hin : inp.length ≤ 9223372036854775807) (h64 : ∀ x ∈ inp,i64 x) :
  Calls Tryz.prog 9 #[.string s,.slice ao inp.length icap] w fun e w' => e = .returned (.bool true) ∧ Below w.heap.size w w':=by
 obtain ⟨bs,bf,er,ln,hv⟩:=zpH s
 have hlet:=fun b hb W (hW : LibW W) => zsw hv b hb W hW hs
 have hrun:=fun W (hW : LibW W) (hB : Below w.heap.size w W) => zls s W hW hs ao icap inp (hiv.mono hB) hin
 rcases hv with ⟨hn,hr,rfl,rfl⟩ | ⟨hR,hv,rfl,rfl,rfl,rfl⟩ | ⟨hR,hv,rfl,rfl⟩
 ·have hne:=zvw hn
  rw [hr] at hne
  have hne2 : ¬ er = 0:=by simpa using hne
  refine zlt s w hw _ er ln hne2 (hlet false (by simp [hne2])) (fun W hW hB => (hrun W hW hB).mono ?_)
  rintro e w' ⟨T,hT,hp⟩
  rw [hT.out (.inl ⟨hn,hr⟩)] at hp
  exact hp
 ·refine zlt s w hw _ 8 0 (by omega) (hlet false (by decide)) (fun W hW hB => (hrun W hW hB).mono ?_)
  rintro e w' ⟨T,hT,hp⟩
  rw [hT.out (.inr ⟨hR,hv,rfl,rfl⟩)] at hp
  exact hp
 ·obtain ⟨b1,b2,f1,f2⟩:=hv.bound
  obtain ⟨e1,_,e3⟩:=hv.ends inp h64 bs.toNat (by omega)
  refine zu2 s w hw _ bs bf b1 b2 (ranL ((lines s).map say) inp bs) e1 e3 (zu1 _ _ _ b2) (hlet true (by decide)) (fun W hW hB => ?_) (fun W hW hB => (hrun W hW hB).mono ?_)
  ·have:=zfT s W hW ao icap bs inp hs (hiv.mono hB) hin
   unfold zkx at this
   rw [if_neg (by simp [hR]),if_neg (by omega)] at this
   exact this
  ·rintro e w' ⟨T,hT,hp⟩
   rw [hT.inn hR hv] at hp
   exact hp
end Go.Proofs.YtfpgjkbjbbgciaaGreatDoor
namespace Go.Proofs.YtfpgjkbjbbgciaaGreatDoor
open Go.ChangeShapes Go.WideShapes Go.ChangeAt Go.RowKit Sp
open Go.ChangeMaps (open_string shut_string)
theorem zsx (H : Type) (enc : TypeId × Value → H) (W : World) (base : Nat) (args : Array Value) (ds gs : List (DataW H)) (before : List MemPlace)
  (hval : ∀ (j : Nat) t v,Tryz.f9.params[j]? = some t → args[j]? = some v → Value.okWide Tryz.prog W .any base t v)
  (hW : DataW.Whole enc Tryz.prog Tryz.f9.params.toList Rows.endedSpec.vars false W args.toList ds gs before) (hL : laidMetH Tryz.prog Rows.endedRow.laid W) (hsh : W.ShapedOpen Tryz.prog) :
  Calls Tryz.prog 9 args W fun e W' => ∃ v,e = .returned v ∧ Rows.endedSpec.post enc Tryz.prog Tryz.f9 false true false false W args v W':=by
 have hW':=hW
 obtain ⟨p,q,hA0,hV,rfl,hfz,hnd⟩:=hW
 have hA : DataW.TrodAll enc Tryz.prog W 0 (fun _ => true) true Tryz.f9.params.toList args.toList ds p:=hA0
 rw [Tryz.params9] at hA hval
 obtain ⟨v0,v1,d0,d1,p0,p1,rfl,rfl,rfl,h0,h1⟩:=trodAll_two hA
 obtain ⟨rfl,rfl⟩:=trodVars_none hV
 obtain ⟨s,rfl,rfl,rfl,ws⟩:=open_string Tryz.underlying9 (hval 0 9 v0 rfl rfl) h0
 obtain ⟨ao,icap,inp,rfl,hiv,_,h64,hmx,hback⟩:=zmE (hval 1 29 v1 rfl rfl) h1
 clear hA0
 simp only [List.append_nil] at hW'
 refine (zu3 s W (zeI hL hsh) ao icap inp (Nat.le_trans ws (by decide)) hiv hmx h64).mono fun e W' ⟨he,hb⟩ => ?_
 subst he
 refine ⟨_,rfl,_,_,_,[],[] ++ p1,[],hW',?_,?_,?_,hb.frame _,fun h => by cases h⟩
 ·exact trodAll_mk1 (shut_bool Tryz.underlying4 _)
 ·exact trodAll_mk2 (shut_string Tryz.underlying9 ws) (hback W' hb)
 ·rfl
theorem zlu (os : Os) {H : Type} (enc : TypeId × Value → H) :
  (OpenSpec.ofChange Rows.endedSpec).preRow enc Tryz.prog Tryz.f9 Rows.endedRow.domain false Rows.endedRow.laid ((laidWorld os).forCall (fun _ _ => 0) ⟨#[],#[.string ⟨#[]⟩,.slice none 0 0],[]⟩).memory #[.string ⟨#[]⟩,.slice none 0 0]:=by
 exact OpenSpec.preRow_of_B rfl 8 (by kernel_rfl) (by kernel_rfl) (zjC os _)
theorem zvU (os : Os) (started : os.Started) (H : Type) (enc : TypeId × Value → H) (F : Stop.Interp) :
  ReturnsInHanded {} Tryz.checked os 9 .any ((OpenSpec.ofChange Rows.endedSpec).preRow enc Tryz.prog Tryz.f9 Rows.endedRow.domain false Rows.endedRow.laid) (((OpenSpec.ofChange Rows.endedSpec).at F).post enc Tryz.prog Tryz.f9 false true false false):=by
 refine returnsInHanded_of_row (C:=Tryz.checked) (s:=OpenSpec.ofChange Rows.endedSpec) Tryz.own started (by kernel_rfl) Tryz.func9
  (witness_row_atRef (enc:=enc) (C:=Tryz.checked) false (laidWorld os) #[.string ⟨#[]⟩,.slice none 0 0] rfl (by kernel_rfl) (by kernel_rfl) (by kernel_rfl) (zlu os enc)) ?_
 intro W base args ds gs before hval hW x1 x2 x3 hL x4 x5
 exact zsx H enc W base args ds gs before hval hW hL x4
theorem zwI : (Rows.endedRow.inPlace == Tryz.pinned.checked.prog.inPlace 9) = true:=by kernel_rfl
theorem zwJ : (Rows.endedRow.unfollowed == Tryz.pinned.checked.prog.unfollowed 9) = true:=by kernel_rfl
theorem zwK : (Rows.endedRow.recurses == Tryz.pinned.checked.prog.recurses 9) = true:=by kernel_rfl
theorem zwL : (Rows.endedRow.named == Tryz.pinned.checked.prog.varsNamed 9) = true:=by kernel_rfl
theorem zwM : joinedFacts Tryz.pinned.checked.prog 9 Tryz.f9 (OpenSpec.ofChange Rows.endedSpec).bare Rows.endedRow = true:=by
 unfold joinedFacts
 rw [zwI,zwJ,zwK,zwL]
 kernel_rfl
theorem zxd : Rows.EndedSaid :=
 OpenClaim.holds_of_cond 9 Tryz.f9 rfl rfl rfl rfl rfl rfl rfl ⟨rfl,rfl,rfl,rfl,rfl⟩ rfl rfl rfl rfl rfl (by kernel_rfl) Tryz.func9 zwM
  (of_decide_eq_true (by kernel_rfl)) (by unfold Func.isWrapper; first | (rw [if_pos (by decide +kernel)]; kernel_rfl) | (rw [if_neg (by decide +kernel)]; exact ⟨rfl,rfl⟩))
  (fun os started H enc _ F => by rw [OpenClaim.pre_eq_preRow]; exact zvU os started H enc F)
theorem zwN (f : FuncId) (fn : Func) (hf : Tryz.pinned.checked.prog.funcNamed "bounded/boundedkeep.Ended" = some f) (hfn : Tryz.pinned.checked.prog.funcs[f]? = some fn) :
  true = Tryz.pinned.checked.prog.looks [] ∧ ∀ (j : Nat) t,fn.params[j]? = some t → Tryz.pinned.checked.prog.wantsStandIn t = false:=by
 obtain rfl : f = 9:=Option.some.inj ((show Tryz.prog.funcNamed "bounded/boundedkeep.Ended" = some 9 by kernel_rfl).symm.trans hf) |>.symm
 obtain rfl : fn = Tryz.f9:=(Option.some.inj (Tryz.func9.symm.trans hfn)).symm
 refine ⟨by kernel_rfl,fun j t ht => ?_⟩
 rw [Tryz.params9] at ht
 have hm : t = 9 ∨ t = 29:=by simpa using Array.mem_of_getElem? ht
 rcases hm with rfl | rfl
 ·exact (show Tryz.prog.wantsStandIn 9 = false by kernel_rfl)
 ·exact (show Tryz.prog.wantsStandIn 29 = false by kernel_rfl)
theorem ecard : Rows.EndedCardSaid :=
 Claim7.holds_tied_plain_at .later [] _ _ _ _ zxd (fun _ h => by cases h) (by kernel_rfl) (fun _ h => by cases h) ended_row_tie rfl ⟨rfl,rfl⟩ (by kernel_rfl) rfl zwN (by kernel_rfl)
end Go.Proofs.YtfpgjkbjbbgciaaGreatDoor
