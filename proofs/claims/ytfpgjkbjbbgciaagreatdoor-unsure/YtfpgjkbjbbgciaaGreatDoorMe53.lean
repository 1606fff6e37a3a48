import Derived.Test.YtfpgjkbjbbgciaaGreatDoorMe51
import Derived.Test.YtfpgjkbjbbgciaaGreatDoorMe52
set_option maxRecDepth 100000
set_option maxHeartbeats 8000000
namespace Go.Proofs.YtfpgjkbjbbgciaaGreatDoor
open Go.ChangeShapes Go.WideShapes Go.ChangeAt Go.RowKit Sp
theorem zly {H : Type} {enc : TypeId × Value → H} {P : Program} {w : World} {base : Nat} {spare : Nat → Bool} {held : Bool} {t t' t'' t3 t4 : TypeId} {args : Array Value} {ds : List (DataW H)} {ps : List MemPlace} (h : DataW.TrodAll enc P w base spare held [t,t',t'',t3,t4] args.toList ds ps) :
  ∃ v v' v'' v3 v4 d d' d'' d3 d4 p p' p'' p3 p4,args = #[v,v',v'',v3,v4] ∧ ds = [d,d',d'',d3,d4] ∧ ps = p ++ (p' ++ (p'' ++ (p3 ++ p4))) ∧ DataW.Trod enc P w base spare held t v d p ∧ DataW.Trod enc P w base spare held t' v' d' p' ∧ DataW.Trod enc P w base spare held t'' v'' d'' p'' ∧ DataW.Trod enc P w base spare held t3 v3 d3 p3 ∧ DataW.Trod enc P w base spare held t4 v4 d4 p4:=by
 obtain ⟨v,vs,d,ds',p,q,hargs,rfl,rfl,hd,hrest⟩:=trodAll_cons h
 obtain ⟨v',vs',d',ds'',p',q',rfl,rfl,rfl,hd',hrest'⟩:=trodAll_cons hrest
 obtain ⟨v'',vs'',d'',ds''',p'',q'',rfl,rfl,rfl,hd'',hrest''⟩:=trodAll_cons hrest'
 obtain ⟨v3,vs3,d3,ds3,p3,q3,rfl,rfl,rfl,hd3,hrest3⟩:=trodAll_cons hrest''
 obtain ⟨v4,vs4,d4,ds4,p4,q4,rfl,rfl,rfl,hd4,hrest4⟩:=trodAll_cons hrest3
 obtain ⟨rfl,rfl,rfl⟩:=trodAll_nil hrest4
 exact ⟨v,v',v'',v3,v4,d,d',d'',d3,d4,p,p',p'',p3,p4,by cases args; simp_all,rfl,by simp,hd,hd',hd'',hd3,hd4⟩
theorem zmR {H : Type} {enc : TypeId × Value → H} {P : Program} {w : World} {base : Nat} {spare : Nat → Bool} {held : Bool} {t t' t'' t3 t4 : TypeId} {v v' v'' v3 v4 : Value} {d d' d'' d3 d4 : DataW H} {p p' p'' p3 p4 : List MemPlace} (h : DataW.Trod enc P w base spare held t v d p) (h' : DataW.Trod enc P w base spare held t' v' d' p')
  (h'' : DataW.Trod enc P w base spare held t'' v'' d'' p'') (h3 : DataW.Trod enc P w base spare held t3 v3 d3 p3) (h4 : DataW.Trod enc P w base spare held t4 v4 d4 p4) : DataW.TrodAll enc P w base spare held [t,t',t'',t3,t4] [v,v',v'',v3,v4] [d,d',d'',d3,d4] (p ++ (p' ++ (p'' ++ (p3 ++ p4)))) :=
 ⟨p,_,h,⟨p',_,h',trodAll_mk3 h'' h3 h4,rfl⟩,rfl⟩
theorem zpU (H : Type) (enc : TypeId × Value → H) (W : World) (base : Nat) (args : Array Value) (ds gs : List (DataW H)) (before : List MemPlace)
  (hval : ∀ (j : Nat) t v,Tryz.f13.params[j]? = some t → args[j]? = some v → Value.okWide Tryz.prog W .any base t v)
  (hW : DataW.Whole enc Tryz.prog Tryz.f13.params.toList Rows.countingSpec.vars false W args.toList ds gs before) (hL : laidMetH Tryz.prog Rows.countingRow.laid W) (hsh : W.ShapedOpen Tryz.prog) :
  Calls Tryz.prog 13 args W fun e W' => ∃ v,e = .returned v ∧ Rows.countingSpec.post enc Tryz.prog Tryz.f13 false true false false W args v W':=by
 have hW':=hW
 obtain ⟨p,q,hA0,hV,rfl,hfz,hnd⟩:=hW
 have hA : DataW.TrodAll enc Tryz.prog W 0 (fun _ => true) true Tryz.f13.params.toList args.toList ds p:=hA0
 rw [Tryz.params13] at hA hval
 obtain ⟨v0,v1,v2,v3,v4,d0,d1,d2,d3,d4,p0,p1,p2,p3,p4,rfl,rfl,rfl,h0,h1,h2,h3,h4⟩:=zly hA
 obtain ⟨rfl,rfl⟩:=trodVars_none hV
 obtain ⟨a,rfl,rfl,rfl,wa⟩:=open_int Tryz.underlying2 (hval 0 2 v0 rfl rfl) h0
 obtain ⟨b,rfl,rfl,rfl,wb⟩:=open_int Tryz.underlying3 (hval 1 3 v1 rfl rfl) h1
 obtain ⟨c,rfl,rfl,rfl,wc⟩:=open_int Tryz.underlying3 (hval 2 3 v2 rfl rfl) h2
 obtain ⟨r,rfl,rfl,rfl,wr⟩:=open_int Tryz.underlying3 (hval 3 3 v3 rfl rfl) h3
 obtain ⟨n,rfl,rfl,rfl,wn⟩:=open_int Tryz.underlying3 (hval 4 3 v4 rfl rfl) h4
 clear hA0
 simp only [List.append_nil] at hW'
 refine (zsE a b c r n (wf_i64 wa) (wf_i64 wb) (wf_i64 wc) (wf_i64 wr) (wf_i64 wn) W (zeI hL hsh)).mono fun e W' ⟨he,hb⟩ => ?_
 subst he
 refine ⟨_,rfl,_,_,_,[],[] ++ [],[],hW',?_,?_,?_,hb.frame _,fun h => by cases h⟩
 ·exact trodAll_mk1 (shut_bool Tryz.underlying4 _)
 ·exact zmR (shut_int Tryz.underlying2 wa) (shut_int Tryz.underlying3 wb) (shut_int Tryz.underlying3 wc) (shut_int Tryz.underlying3 wr) (shut_int Tryz.underlying3 wn)
 ·rfl
theorem zjG (os : Os) {H : Type} (enc : TypeId × Value → H) :
  (OpenSpec.ofChange Rows.countingSpec).preRow enc Tryz.prog Tryz.f13 Rows.countingRow.domain false Rows.countingRow.laid ((laidWorld os).forCall (fun _ _ => 0) ⟨#[],#[.int .i64 0,.int .i64 0,.int .i64 0,.int .i64 0,.int .i64 0],[]⟩).memory #[.int .i64 0,.int .i64 0,.int .i64 0,.int .i64 0,.int .i64 0] :=
 OpenSpec.preRow_of_B rfl 8 (by kernel_rfl) (by kernel_rfl) (zjC os _)
theorem zuC (os : Os) (started : os.Started) (H : Type) (enc : TypeId × Value → H) (F : Stop.Interp) :
  ReturnsInHanded {} Tryz.checked os 13 .any ((OpenSpec.ofChange Rows.countingSpec).preRow enc Tryz.prog Tryz.f13 Rows.countingRow.domain false Rows.countingRow.laid) (((OpenSpec.ofChange Rows.countingSpec).at F).post enc Tryz.prog Tryz.f13 false true false false):=by
 refine returnsInHanded_of_row (C:=Tryz.checked) (s:=OpenSpec.ofChange Rows.countingSpec) Tryz.own started (by kernel_rfl) Tryz.func13
  (witness_row_atRef (enc:=enc) (C:=Tryz.checked) false (laidWorld os) #[.int .i64 0,.int .i64 0,.int .i64 0,.int .i64 0,.int .i64 0] rfl (by kernel_rfl) (by kernel_rfl) (by kernel_rfl) (zjG os enc)) ?_
 intro W base args ds gs before hval hW x1 x2 x3 hL x4 x5
 exact zpU H enc W base args ds gs before hval hW hL x4
theorem zwe : (Rows.countingRow.inPlace == Tryz.pinned.checked.prog.inPlace 13) = true:=by kernel_rfl
theorem zwf : (Rows.countingRow.unfollowed == Tryz.pinned.checked.prog.unfollowed 13) = true:=by kernel_rfl
theorem zwg : (Rows.countingRow.recurses == Tryz.pinned.checked.prog.recurses 13) = true:=by kernel_rfl
theorem zwh : (Rows.countingRow.named == Tryz.pinned.checked.prog.varsNamed 13) = true:=by kernel_rfl
theorem zwi : joinedFacts Tryz.pinned.checked.prog 13 Tryz.f13 (OpenSpec.ofChange Rows.countingSpec).bare Rows.countingRow = true:=by
 unfold joinedFacts
 rw [zwe,zwf,zwg,zwh]
 kernel_rfl
theorem zwW : Rows.CountingSaid :=
 OpenClaim.holds_of_cond 13 Tryz.f13 rfl rfl rfl rfl rfl rfl rfl ⟨rfl,rfl,rfl,rfl,rfl⟩ rfl rfl rfl rfl rfl (by kernel_rfl) Tryz.func13 zwi
  (of_decide_eq_true (by kernel_rfl)) (by unfold Func.isWrapper; first | (rw [if_pos (by decide +kernel)]; kernel_rfl) | (rw [if_neg (by decide +kernel)]; exact ⟨rfl,rfl⟩))
  (fun os started H enc _ F => by rw [OpenClaim.pre_eq_preRow]; exact zuC os started H enc F)
theorem zwj (f : FuncId) (fn : Func) (hf : Tryz.pinned.checked.prog.funcNamed "bounded/boundedkeep.Counting" = some f) (hfn : Tryz.pinned.checked.prog.funcs[f]? = some fn) :
  true = Tryz.pinned.checked.prog.looks [] ∧ ∀ (j : Nat) t,fn.params[j]? = some t → Tryz.pinned.checked.prog.wantsStandIn t = false:=by
 obtain rfl : f = 13:=Option.some.inj ((show Tryz.prog.funcNamed "bounded/boundedkeep.Counting" = some 13 by kernel_rfl).symm.trans hf) |>.symm
 obtain rfl : fn = Tryz.f13:=(Option.some.inj (Tryz.func13.symm.trans hfn)).symm
 refine ⟨by kernel_rfl,fun j t ht => ?_⟩
 rw [Tryz.params13] at ht
 have hm : t = 2 ∨ t = 3:=by simpa using Array.mem_of_getElem? ht
 rcases hm with rfl | rfl
 ·exact (show Tryz.prog.wantsStandIn 2 = false by kernel_rfl)
 ·exact (show Tryz.prog.wantsStandIn 3 = false by kernel_rfl)
theorem cocard : Rows.CountingCardSaid :=
 Claim7.holds_tied_plain_at .later [] _ _ _ _ zwW (fun _ h => by cases h) (by kernel_rfl) (fun _ h => by cases h) counting_row_tie rfl ⟨rfl,rfl⟩ (by kernel_rfl) rfl zwj (by kernel_rfl)
end Go.Proofs.YtfpgjkbjbbgciaaGreatDoor
namespace Go.Proofs.YtfpgjkbjbbgciaaGreatDoor
theorem three : Rows.EndedCardSaid ∧ Rows.UnsureCardSaid ∧ Rows.CountingCardSaid:=⟨ecard,ucard,cocard⟩
end Go.Proofs.YtfpgjkbjbbgciaaGreatDoor
