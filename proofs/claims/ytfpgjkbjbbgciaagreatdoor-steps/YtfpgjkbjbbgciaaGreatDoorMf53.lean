import Derived.Test.YtfpgjkbjbbgciaaGreatDoorMf49
import Derived.Test.YtfpgjkbjbbgciaaGreatDoorMf52
set_option maxRecDepth 100000
set_option maxHeartbeats 8000000
namespace Go.Proofs.YtfpgjkbjbbgciaaGreatDoor
open Go.RowKit Sp
theorem zs2 : zsb:=fun B w b px cv code S k V M hd hh hl hb hk hc => by
 refine zsl B w b px cv code S k V M hd ?_ ?_ ?_ hk ?_
 ·unfold zg4
  simp only [hh]
  decide
 ·rw [hl]; exact Nat.zero_le _
 ·rw [hb]; exact Nat.zero_le _
 ·rw [hc]; exact Nat.le_refl _
theorem zrv : zox:=fun _B _w _b _px _cv _code _S _k _V M hh hl hk => ziS M 0 (by decide) (hh 0) hl (by omega) (fun _W _k2 _V2 M2 => zh5 M2 0 (by decide) (hh 0) hl)
theorem zkj {w : World} {cv : Value} {code : List Int} (hc : SlB w w.heap.size cv code) (hl : code.length ≤ 9223372036854775807) (hnum : ∀ x ∈ code,i64 x) : Calls Tryz.prog 31 #[cv] w (zkc w):=zmp zs2 zrv hc hl hnum
theorem zo7 (n more : Int) (hn : i64 n) (hm : i64 more) (w : World) (hw : LibW w) {cv : Value} {code : List Int} (hc : SlB w w.heap.size cv code) (hl : code.length ≤ 9223372036854775807) (hnum : ∀ x ∈ code,i64 x) {ao : Option Addr} {icap : Nat} {inp : List Int} (hiv : SlB w w.heap.size (.slice ao inp.length icap) inp) (hin : inp.length ≤ 9223372036854775807) :
  Calls Tryz.prog 12 #[cv,.slice ao inp.length icap,.int .i64 n,.int .i64 more] w fun e w' => e = .returned (.bool true) ∧ Below w.heap.size w w':=by
 have a0 : 0 ≤ zeQ n 3000:=Int.emod_nonneg _ (by omega)
 have a1 : zeQ n 3000 < 3000:=Int.emod_lt_of_pos _ (by omega)
 have b0 : 0 ≤ zeQ more 3000:=Int.emod_nonneg _ (by omega)
 have b1 : zeQ more 3000 < 3000:=Int.emod_lt_of_pos _ (by omega)
 have hp1:=fun W => zfz n 3000 W (by omega) hn
 have hp2:=fun W => zfz more 3000 W (by omega) hm
 obtain ⟨a,ha⟩:=Int.eq_ofNat_of_zero_le a0
 obtain ⟨b,hb⟩:=Int.eq_ofNat_of_zero_le b0
 rw [ha] at hp1 a1
 rw [hb] at hp2 b1
 exact zs1 cv (.slice ao inp.length icap) inp n more a b (by omega) (by omega) w hw (zkj hc hl hnum) hp1 hp2 (fun s W k hW hB hs => zme s W hW ao icap k inp (by omega) (hiv.mono hB) hin)
end Go.Proofs.YtfpgjkbjbbgciaaGreatDoor
namespace Go.Proofs.YtfpgjkbjbbgciaaGreatDoor
open Go.ChangeShapes Go.WideShapes Go.ChangeAt Go.RowKit Sp
theorem zkk {H : Type} {enc : TypeId × Value → H} {W : World} {base : Nat} {v : Value} {d : DataW H} {p : List MemPlace} (hval : Value.okWide Tryz.prog W .any base 59 v) (h : DataW.Trod enc Tryz.prog W 0 (fun _ => true) true 59 v d p) :
  ∃ (ao : Option Addr) (icap : Nat) (inp : List Int),v = .slice ao inp.length icap ∧ SlB W W.heap.size (.slice ao inp.length icap) inp ∧ inp.length ≤ Rows.uptoBulk d ∧ (∀ x ∈ inp,i64 x) ∧ inp.length ≤ 9223372036854775807 ∧
   ∀ W',Below W.heap.size W W' → DataW.Trod enc Tryz.prog W' 0 (fun b => decide (b < W.heap.size)) true 59 v d p:=by
 obtain ⟨a0,len0,cap0,rfl⟩:=okWide_slice Tryz.underlying59 hval
 obtain ⟨fuel,hf⟩:=h
 have hc : Tryz.prog.cellsOf 3 = 1:=by kernel_rfl
 rcases open_ints Tryz.underlying59 Tryz.underlying3 hc hf with ⟨hcs,hx⟩ | ⟨a,len,cap,zs,hcs,_,hle,hmax,hall,hx,hcell,hwf⟩
 ·simp [Value.cells] at hcs
  obtain ⟨rfl,rfl,rfl⟩:=hcs
  simp only [Prod.mk.injEq] at hx
  obtain ⟨rfl,rfl⟩:=hx
  refine ⟨none,0,[],rfl,⟨none,0,rfl,Nat.le_refl _,fun h => by simp at h⟩,Nat.zero_le _,(fun x hx => (by cases hx)),Nat.zero_le _,fun W' _ => ⟨1,?_⟩⟩
  simp [DataW.trod,Value.cells,Tryz.underlying59]
 ·simp [Value.cells] at hcs
  obtain ⟨rfl,rfl,rfl⟩:=hcs
  simp only [Prod.mk.injEq] at hx
  obtain ⟨rfl,rfl⟩:=hx
  simp only [if_true] at hall
  have hlt : (zs.take len0).length = len0:=by rw [List.length_take]; omega
  refine ⟨some a,cap0,zs.take len0,by rw [hlt],⟨some a,cap0,rfl,by omega,fun hp => ?_⟩,?_,fun x hx => ?_,by rw [hlt]; exact Nat.le_trans hle (Nat.le_trans hmax (by decide)),fun W' hb => ⟨2,?_⟩⟩
  ·obtain ⟨b,off,rfl,hat⟩:=ints_at hcell (by omega)
   have hbl : b < W.heap.size:=World.block_lt_of_cell? W _ (hat 0 (by omega))
   refine ⟨b,off,rfl,hbl,hbl,fun j hj => ?_⟩
   rw [hat j (by omega)]
   simp [List.getD,show j < zs.length by omega]
  ·have:=zhc (lits (H:=H) .i64 (zs.take len0)) (lits .i64 (zs.drop len0))
   have hll : (lits (H:=H) .i64 (zs.take len0)).length = (zs.take len0).length:=by simp [lits]
   rw [hll] at this
   exact Nat.le_trans (Nat.le_add_right _ _) this
  ·have:=hwf x (List.mem_of_mem_take hx)
   simp only [Lit.wf,Bool.and_eq_true,decide_eq_true_eq] at this
   exact this
  ·have hz : zs.length = (if decide (a.block < W.heap.size) = true then cap0 else len0):=by
    by_cases h0 : 0 < zs.length
    ·have : a.block < W.heap.size:=by
      have:=World.block_lt_of_cell? W _ (hcell 0 h0)
      simpa [Addr.add] using this
     rw [if_pos (by simpa using this)]; exact hall
    ·split <;> omega
   have:=shut_ints (enc:=enc) (P:=Tryz.prog) (w:=W') (base:=0) (spare:=fun b => decide (b < W.heap.size)) (held:=true) 0 Tryz.underlying59 Tryz.underlying3 hc (Nat.zero_le _) hle hmax hz (fun i hi => still hb (hcell i hi)) hwf
   simpa [Value.cells] using this
theorem ziX {H : Type} {enc : TypeId × Value → H} {P : Program} {w : World} {base : Nat} {spare : Nat → Bool} {held : Bool} {t t' t'' t3 : TypeId} {args : Array Value} {ds : List (DataW H)} {ps : List MemPlace} (h : DataW.TrodAll enc P w base spare held [t,t',t'',t3] args.toList ds ps) :
  ∃ v v' v'' v3 d d' d'' d3 p p' p'' p3,args = #[v,v',v'',v3] ∧ ds = [d,d',d'',d3] ∧ ps = p ++ (p' ++ (p'' ++ p3)) ∧ DataW.Trod enc P w base spare held t v d p ∧ DataW.Trod enc P w base spare held t' v' d' p' ∧ DataW.Trod enc P w base spare held t'' v'' d'' p'' ∧ DataW.Trod enc P w base spare held t3 v3 d3 p3:=by
 obtain ⟨v,vs,d,ds1,p,q,hargs,rfl,rfl,hd,hrest⟩:=trodAll_cons h
 obtain ⟨v',vs1,d',ds2,p',q1,rfl,rfl,rfl,hd',hrest1⟩:=trodAll_cons hrest
 obtain ⟨v'',vs2,d'',ds3,p'',q2,rfl,rfl,rfl,hd'',hrest2⟩:=trodAll_cons hrest1
 obtain ⟨v3,vs3,d3,ds4,p3,q3,rfl,rfl,rfl,hd3,hrest3⟩:=trodAll_cons hrest2
 obtain ⟨rfl,rfl,rfl⟩:=trodAll_nil hrest3
 exact ⟨v,v',v'',v3,d,d',d'',d3,p,p',p'',p3,by cases args; simp_all,rfl,by simp,hd,hd',hd'',hd3⟩
theorem zkl {H : Type} {enc : TypeId × Value → H} {P : Program} {w : World} {base : Nat} {spare : Nat → Bool} {held : Bool} {t t' t'' t3 : TypeId} {v v' v'' v3 : Value} {d d' d'' d3 : DataW H} {p p' p'' p3 : List MemPlace} (h : DataW.Trod enc P w base spare held t v d p) (h' : DataW.Trod enc P w base spare held t' v' d' p')
  (h'' : DataW.Trod enc P w base spare held t'' v'' d'' p'') (h3 : DataW.Trod enc P w base spare held t3 v3 d3 p3) : DataW.TrodAll enc P w base spare held [t,t',t'',t3] [v,v',v'',v3] [d,d',d'',d3] (p ++ (p' ++ (p'' ++ p3))) :=
 ⟨p,_,h,trodAll_mk3 h' h'' h3,rfl⟩
theorem zmx (H : Type) (enc : TypeId × Value → H) (W : World) (base : Nat) (args : Array Value) (ds gs : List (DataW H)) (before : List MemPlace)
  (hval : ∀ (j : Nat) t v,Tryz.f12.params[j]? = some t → args[j]? = some v → Value.okWide Tryz.prog W .any base t v)
  (hW : DataW.Whole enc Tryz.prog Tryz.f12.params.toList Rows.stepsSpec.vars false W args.toList ds gs before) (hL : laidMetH Tryz.prog Rows.stepsRow.laid W) (hsh : W.ShapedOpen Tryz.prog) :
  Calls Tryz.prog 12 args W fun e W' => ∃ v,e = .returned v ∧ Rows.stepsSpec.post enc Tryz.prog Tryz.f12 false true false false W args v W':=by
 have hW':=hW
 obtain ⟨p,q,hA0,hV,rfl,hfz,hnd⟩:=hW
 have hA : DataW.TrodAll enc Tryz.prog W 0 (fun _ => true) true Tryz.f12.params.toList args.toList ds p:=hA0
 rw [Tryz.params12] at hA hval
 obtain ⟨v0,v1,v2,v3,d0,d1,d2,d3,p0,p1,p2,p3,rfl,rfl,rfl,h0,h1,h2,h3⟩:=ziX hA
 obtain ⟨rfl,rfl⟩:=trodVars_none hV
 obtain ⟨co,ccap,code,rfl,hcv,_,c64,cmx,cback⟩:=zkk (hval 0 59 v0 rfl rfl) h0
 obtain ⟨ao,icap,inp,rfl,hiv,_,i64',imx,iback⟩:=zjY (hval 1 29 v1 rfl rfl) h1
 obtain ⟨n,rfl,rfl,rfl,wn⟩:=open_int Tryz.underlying3 (hval 2 3 v2 rfl rfl) h2
 obtain ⟨m,rfl,rfl,rfl,wm⟩:=open_int Tryz.underlying3 (hval 3 3 v3 rfl rfl) h3
 clear hA0
 simp only [List.append_nil] at hW'
 refine (zo7 n m (wf_i64 wn) (wf_i64 wm) W (zjX hL hsh) hcv cmx c64 hiv imx).mono fun e W' ⟨he,hb⟩ => ?_
 subst he
 refine ⟨_,rfl,_,_,_,[],p0 ++ p1,[],hW',?_,?_,?_,hb.frame _,fun h => by cases h⟩
 ·exact trodAll_mk1 (shut_bool Tryz.underlying4 _)
 ·have:=zkl (cback W' hb) (iback W' hb) (shut_int Tryz.underlying3 wn) (shut_int Tryz.underlying3 wm)
  simp only [List.append_nil] at this
  exact this
 ·rfl
theorem zhA (os : Os) {H : Type} (enc : TypeId × Value → H) :
  (OpenSpec.ofChange Rows.stepsSpec).preRow enc Tryz.prog Tryz.f12 Rows.stepsRow.domain false Rows.stepsRow.laid ((laidWorld os).forCall (fun _ _ => 0) ⟨#[],#[.slice none 0 0,.slice none 0 0,.int .i64 0,.int .i64 0],[]⟩).memory #[.slice none 0 0,.slice none 0 0,.int .i64 0,.int .i64 0] :=
 OpenSpec.preRow_of_B rfl 8 (by kernel_rfl) (by kernel_rfl) (zpZ os _)
theorem zqn (os : Os) (started : os.Started) (H : Type) (enc : TypeId × Value → H) (F : Stop.Interp) :
  ReturnsInHanded {} Tryz.checked os 12 .any ((OpenSpec.ofChange Rows.stepsSpec).preRow enc Tryz.prog Tryz.f12 Rows.stepsRow.domain false Rows.stepsRow.laid) (((OpenSpec.ofChange Rows.stepsSpec).at F).post enc Tryz.prog Tryz.f12 false true false false):=by
 refine returnsInHanded_of_row (C:=Tryz.checked) (s:=OpenSpec.ofChange Rows.stepsSpec) Tryz.own started (by kernel_rfl) Tryz.func12
  (witness_row_atRef (enc:=enc) (C:=Tryz.checked) false (laidWorld os) #[.slice none 0 0,.slice none 0 0,.int .i64 0,.int .i64 0] rfl (by kernel_rfl) (by kernel_rfl) (by kernel_rfl) (zhA os enc)) ?_
 intro W base args ds gs before hval hW x1 x2 x3 hL x4 x5
 exact zmx H enc W base args ds gs before hval hW hL x4
theorem zrw : (Rows.stepsRow.inPlace == Tryz.pinned.checked.prog.inPlace 12) = true:=by kernel_rfl
theorem zrx : (Rows.stepsRow.unfollowed == Tryz.pinned.checked.prog.unfollowed 12) = true:=by kernel_rfl
theorem zry : (Rows.stepsRow.recurses == Tryz.pinned.checked.prog.recurses 12) = true:=by kernel_rfl
theorem zrz : (Rows.stepsRow.named == Tryz.pinned.checked.prog.varsNamed 12) = true:=by kernel_rfl
theorem zr0 : joinedFacts Tryz.pinned.checked.prog 12 Tryz.f12 (OpenSpec.ofChange Rows.stepsSpec).bare Rows.stepsRow = true:=by
 unfold joinedFacts
 rw [zrw,zrx,zry,zrz]
 kernel_rfl
theorem zsm : Rows.StepsSaid :=
 OpenClaim.holds_of_cond 12 Tryz.f12 rfl rfl rfl rfl rfl rfl rfl ⟨rfl,rfl,rfl,rfl,rfl⟩ rfl rfl rfl rfl rfl (by kernel_rfl) Tryz.func12 zr0
  (of_decide_eq_true (by kernel_rfl)) (by unfold Func.isWrapper; first | (rw [if_pos (by decide +kernel)]; kernel_rfl) | (rw [if_neg (by decide +kernel)]; exact ⟨rfl,rfl⟩))
  (fun os started H enc _ F => by rw [OpenClaim.pre_eq_preRow]; exact zqn os started H enc F)
theorem zr1 (f : FuncId) (fn : Func) (hf : Tryz.pinned.checked.prog.funcNamed "bounded/boundedkeep.Steps" = some f) (hfn : Tryz.pinned.checked.prog.funcs[f]? = some fn) :
  true = Tryz.pinned.checked.prog.looks [] ∧ ∀ (j : Nat) t,fn.params[j]? = some t → Tryz.pinned.checked.prog.wantsStandIn t = false:=by
 obtain rfl : f = 12:=Option.some.inj ((show Tryz.prog.funcNamed "bounded/boundedkeep.Steps" = some 12 by kernel_rfl).symm.trans hf) |>.symm
 obtain rfl : fn = Tryz.f12:=(Option.some.inj (Tryz.func12.symm.trans hfn)).symm
 refine ⟨by kernel_rfl,fun j t ht => ?_⟩
 rw [Tryz.params12] at ht
 have hm : t = 59 ∨ t = 29 ∨ t = 3:=by simpa using Array.mem_of_getElem? ht
 rcases hm with rfl | rfl | rfl
 ·exact (show Tryz.prog.wantsStandIn 59 = false by kernel_rfl)
 ·exact (show Tryz.prog.wantsStandIn 29 = false by kernel_rfl)
 ·exact (show Tryz.prog.wantsStandIn 3 = false by kernel_rfl)
theorem stcard : Rows.StepsCardSaid :=
 Claim7.holds_tied_plain_at .later [] _ _ _ _ zsm (fun _ h => by cases h) (by kernel_rfl) (fun _ h => by cases h) steps_row_tie rfl ⟨rfl,rfl⟩ (by kernel_rfl) rfl zr1 (by kernel_rfl)
end Go.Proofs.YtfpgjkbjbbgciaaGreatDoor
