import Derived.Test.YtfpgjkbjbbgciaaGreatDoorMd49
import Derived.Test.YtfpgjkbjbbgciaaGreatDoorCards
import Derived.Test.YtfpgjkbjbbgciaaGreatDoorTie
import Derived.Deep.DeepLaidRun
set_option maxRecDepth 100000
set_option maxHeartbeats 8000000
namespace Go.Proofs.YtfpgjkbjbbgciaaGreatDoor
open Go.RowKit Sp
def rs0:Rs:=⟨[],0,0,false⟩
theorem ztO{w w1:World}{g ccap:Nat}{C:List (Ins × Int)}(hK:KnM w1 w.heap.size (.slice none 0 0) kn0)(hb:Below w.heap.size w w1)(hs:w1.heap.size=w.heap.size+1)(hg:g<w.heap.size)(hC:CodeIn w g C):
  ∃ W,((w1.alloc (.cells #[.pointer (some ⟨w.heap.size,0,none⟩)] 197)).alloc (.cells #[.slice (some ⟨g,0,none⟩) C.length ccap,.slice (some ⟨w1.heap.size,0,none⟩) 1 1,.slice none 0 0,.int .i64 0,.int .i64 0,.bool false,.int .i64 0,.int .i64 0,.int .i64 0] 156))=W∧Below w.heap.size w W ∧
   RunI W w.heap.size (w1.heap.size+1) g ccap C W (.slice (some ⟨w1.heap.size,0,none⟩) 1 1) (.slice none 0 0) [⟨w.heap.size,none,0,kn0⟩] rs0 0 0 0:=by
 refine⟨_,rfl,?_,?_⟩
 ·exact(hb.alloc (by omega) _).alloc (by simp;omega) _
 ·have hb1:Below w1.heap.size w1 (w1.alloc (.cells #[.pointer (some ⟨w.heap.size,0,none⟩)] 197)):=(Below.refl _ _).alloc (Nat.le_refl _) _
  have hs2:(w1.alloc (.cells #[.pointer (some ⟨w.heap.size,0,none⟩)] 197)).heap.size=w1.heap.size+1:=by simp
  have hc1:=fun j=>World.cell?_alloc_new (w:=w1) #[.pointer (some ⟨w.heap.size,0,none⟩)] 197 j
  have hh1:=heap_alloc_new w1 (.cells #[.pointer (some ⟨w.heap.size,0,none⟩)] 197)
  generalize w1.alloc (.cells #[.pointer (some ⟨w.heap.size,0,none⟩)] 197)=w2 at hb1 hs2 hc1 hh1 ⊢
  have hc2:=fun j=>World.cell?_alloc_new (w:=w2) #[.slice (some ⟨g,0,none⟩) C.length ccap,.slice (some ⟨w1.heap.size,0,none⟩) 1 1,.slice none 0 0,.int .i64 0,.int .i64 0,.bool false,.int .i64 0,.int .i64 0,.int .i64 0] 156 j
  have hb2:Below w2.heap.size w2 (w2.alloc (.cells #[.slice (some ⟨g,0,none⟩) C.length ccap,.slice (some ⟨w1.heap.size,0,none⟩) 1 1,.slice none 0 0,.int .i64 0,.int .i64 0,.bool false,.int .i64 0,.int .i64 0,.int .i64 0] 156)):=(Below.refl _ _).alloc (Nat.le_refl _) _
  have hs3:(w2.alloc (.cells #[.slice (some ⟨g,0,none⟩) C.length ccap,.slice (some ⟨w1.heap.size,0,none⟩) 1 1,.slice none 0 0,.int .i64 0,.int .i64 0,.bool false,.int .i64 0,.int .i64 0,.int .i64 0] 156)).heap.size=w2.heap.size+1:=by simp
  have hf3:∀ j,(w2.alloc (.cells #[.slice (some ⟨g,0,none⟩) C.length ccap,.slice (some ⟨w1.heap.size,0,none⟩) 1 1,.slice none 0 0,.int .i64 0,.int .i64 0,.bool false,.int .i64 0,.int .i64 0,.int .i64 0] 156)).frozen? ⟨w2.heap.size,j,none⟩=false:=fun j=>by simp
  generalize w2.alloc (.cells #[.slice (some ⟨g,0,none⟩) C.length ccap,.slice (some ⟨w1.heap.size,0,none⟩) 1 1,.slice none 0 0,.int .i64 0,.int .i64 0,.bool false,.int .i64 0,.int .i64 0,.int .i64 0] 156)=W at hc2 hb2 hs3 hf3 ⊢
  have hB:Below w1.heap.size w1 W:=hb1.trans (hb2.mono (by omega))
  have hKW:KnM W w.heap.size (.slice none 0 0) kn0:=hK.below hB (by omega)
  have hwy:WyM W ⟨w.heap.size,none,0,kn0⟩:=⟨⟨⟨Int.le_refl _,by show(0:Int)≤1000;omega⟩,⟨Nat.zero_le _,fun z hz=>(by cases hz)⟩⟩,hKW,zys W⟩
  have hS:w2.heap.size=w1.heap.size+1:=hs2
  rw [hS] at hc2 hf3 hs3
  refine⟨⟨?_,hg,by omega,by omega,⟨⟨by simp [ziH],.inr ⟨w1.heap.size,1,#[.pointer (some ⟨w.heap.size,0,none⟩)],rfl,by omega,(hb2.block _ (by omega)).trans hh1,Nat.le_refl _,by unfold maxLen;omega,rfl,by simp [ziH]⟩⟩,fun x hx=>by rw [List.mem_singleton.1 hx];exact hwy,fun q hq x hx=>?_⟩,fun i h1 h2=>?_,fun h hh=>(by cases hh),?_,fun m hm=>(by cases hm),?_,?_,?_,by simp,fun x hx=>?_,fun m hm=>(by cases hm)⟩,⟨hc2 0,hc2 1,⟨hc2 2,hc2 3,hc2 4,hc2 5⟩,hc2 6,hc2 7,hc2 8,hf3⟩,.zero,Below.refl _ _⟩
  ·exact(hC.below hb hg).below (hB.mono (B':=w.heap.size) (by omega)) hg
  ·rw [List.mem_singleton.1 hx]
   have e:w1.heap.size=q:=by have:some w1.heap.size=some q:=hq;simpa using this
   exact⟨by show ¬w.heap.size=q;omega,fun a ha=>(by cases ha)⟩
  ·simp only [List.length_singleton] at h2;omega
  ·exact World.ownsRow_nil _ _ _ _
  ·intro e
   have e2:w1.heap.size=w1.heap.size+1:=by have:some w1.heap.size=some (w1.heap.size+1):=e;simp at this
   omega
  ·intro e;cases e
  ·intro q _ e;cases e
  ·rw [List.mem_singleton.1 (show x∈[(⟨w.heap.size,none,0,kn0⟩:Wy)] from hx)]
   refine⟨Nat.le_refl _,⟨by show ¬w.heap.size=w1.heap.size+1;omega,fun e=>?_,fun e=>(by cases e)⟩,fun a ha=>(by cases ha)⟩
   have e2:w1.heap.size=w.heap.size:=by have:some w1.heap.size=some w.heap.size:=e;simpa using this
   omega
def zoR(w:World)(g ccap:Nat)(C:List (Ins × Int)):Ending→World→Prop:=fun e w'=>∃ S v mv xs,e=.returned (.pointer (some ⟨S,0,none⟩))∧Below w.heap.size w w'∧RunI w' w.heap.size S g ccap C w' v mv xs rs0 0 0 0
theorem zqW{w:World}{g ccap:Nat}{C:List (Ins × Int)}(hg:g<w.heap.size)(hC:CodeIn w g C):Calls Tryz.prog 91 #[.slice (some ⟨g,0,none⟩) C.length ccap] w (zoR w g ccap C):=by
 have h1:=znB w
 have HM:Hid (∀ w1,KnM w1 w.heap.size (.slice none 0 0) kn0→Below w.heap.size w w1→w1.heap.size=w.heap.size+1→zoR w g ccap C (.returned (.pointer (some ⟨w1.heap.size+1,0,none⟩))) ((w1.alloc (.cells #[.pointer (some ⟨w.heap.size,0,none⟩)] 197)).alloc (.cells #[.slice (some ⟨g,0,none⟩) C.length ccap,.slice (some ⟨w1.heap.size,0,none⟩) 1 1,.slice none 0 0,.int .i64 0,.int .i64 0,.bool false,.int .i64 0,.int .i64 0,.int .i64 0] 156))):=fun w1 a b c=>by
  obtain⟨W,e,h2,h3⟩:=ztO (ccap:=ccap) a b c hg hC
  rw [e]
  exact⟨_,_,_,_,rfl,h2,h3⟩
 go_enter Tryz.func91,Tryz.ntmps91
 go_wp2_with(go_at_call 113;(with_reducible refine h1.mono ?_);rintro e w1 ⟨rfl,hK,hb,hs⟩;have hfin:=HM.out w1 hK hb hs;clear hK hs)
 go_ret
 exact hfin
def ztP(w:World)(C:List (Ins × Int)):Ending→World→Prop:=fun e w'=>Below w.heap.size w w'∧((e=zaj 8 0∧Verd C none)∨∃ bs bf,e=.returned (.agg #[.int .i64 bs,.int .i64 bf])∧Verd C (some (bs,bf)))
theorem zml{w:World}{g ccap:Nat}{C:List (Ins × Int)}(hC:CodeSure C)(hg:g<w.heap.size)(hI:CodeIn w g C):Calls Tryz.prog 58 #[.slice (some ⟨g,0,none⟩) C.length ccap] w (ztP w C):=by
 have hb0:Below w.heap.size w (w.alloc (.cells #[.int .i64 0,.int .i64 0] 42)):=(Below.refl _ _).alloc (Nat.le_refl _) _
 have hs0:(w.alloc (.cells #[.int .i64 0,.int .i64 0] 42)).heap.size=w.heap.size+1:=by simp
 have hc0:=World.cell?_alloc_new (w:=w) #[.int .i64 0,.int .i64 0] 42 0
 have hc1:=World.cell?_alloc_new (w:=w) #[.int .i64 0,.int .i64 0] 42 1
 have hf0:∀ j,(w.alloc (.cells #[.int .i64 0,.int .i64 0] 42)).frozen? ⟨w.heap.size,j,none⟩=false:=fun j=>by simp
 have hbeg:=zqW (ccap:=ccap) (by rw [hs0];omega) (hI.below hb0 hg)
 go_enter Tryz.func58,Tryz.ntmps58
 go_wp2_with(first
  | (go_at_call 91;(with_reducible refine hbeg.mono ?_);rintro e w1 ⟨S,v,mv,xs,rfl,hb1,I⟩;have hrun:=zvV I hC)
  | (go_at_call 92;refine Hid.out ?_))
 unfold Hid
 refine hrun.mono ?_
 rintro e w2 ⟨hb2,hcase⟩
 have hb12:Below (w.heap.size+1) (w.alloc (.cells #[.int .i64 0,.int .i64 0] 42)) w2:=by rw [←hs0];exact hb1.trans hb2
 have hbw:Below w.heap.size w w2:=hb0.trans (hb12.mono (by omega))
 have hSB:=I.so'.SB
 rcases hcase with ⟨rfl,hv⟩|⟨rfl,bs,bf,hv,d7,d8⟩
 ·dsimp only
  exact⟨rfl,hbw,.inl ⟨rfl,hv⟩⟩
 ·dsimp only
  have d0:w2.cell? ⟨w.heap.size,0,none⟩=some (.int .i64 0):=(World.cell?_of_block (a:=⟨w.heap.size,0,none⟩) (hb12.block w.heap.size (by omega))).trans hc0
  have d1:w2.cell? ⟨w.heap.size,1,none⟩=some (.int .i64 0):=(World.cell?_of_block (a:=⟨w.heap.size,1,none⟩) (hb12.block w.heap.size (by omega))).trans hc1
  have z0:w2.frozen? ⟨w.heap.size,0,none⟩=false:=(World.frozen?_of_block (a:=⟨w.heap.size,0,none⟩) (hb12.block w.heap.size (by omega))).trans (hf0 0)
  have z1:w2.frozen? ⟨w.heap.size,1,none⟩=false:=(World.frozen?_of_block (a:=⟨w.heap.size,1,none⟩) (hb12.block w.heap.size (by omega))).trans (hf0 1)
  have HV:Hid (Verd C (some (bs,bf))):=hv
  clear hv hrun I hbeg hb0 hc0 hc1 hf0 hb1 hb2 hb12
  go_wp2
  refine bodyPost_ret (v:=.agg #[.int .i64 bs,.int .i64 bf]) (by simp [results,Tryz.results58,go_sem,d0,d1]) rfl ⟨?_,.inr ⟨bs,bf,rfl,HV.out⟩⟩
  exact(hbw.setCell (p:=⟨w.heap.size,0,none⟩) (Nat.le_refl _) _).setCell (p:=⟨w.heap.size,1,none⟩) (Nat.le_refl _) _
def VerdL(L:List Said)(v:Option (Int × Int)):Prop:=∃ F,Right L F∧Verd (zat F) v
theorem VerdL.unique{L:List Said}{a b:Option (Int × Int)}(ha:VerdL L a)(hb:VerdL L b):a=b:=by
 obtain⟨F,R,h⟩:=ha
 obtain⟨G,R',h'⟩:=hb
 rw [←znD R R'] at h'
 exact h.unique R.sure h'
def zww(w:World)(pr:Nat)(L:List Said):Ending→World→Prop:=fun e w'=>(e=zaj 8 0∧VerdL L none∧Below w.heap.size w w')∨∃ bs bf,e=.returned (.tuple #[])∧VerdL L (some (bs,bf))∧∃ w1,Below w.heap.size w w1∧w'=(w1.setCell ⟨pr,0,none⟩ (.int .i64 bs)).setCell ⟨pr,1,none⟩ (.int .i64 bf)
theorem zvZ(w:World)(hw:LibW w)(pt pr:Nat)(s:ByteArray)(t1:w.cell? ⟨pt,0,none⟩=some (.string s))(R:Int × Int)(hR:¬R=(0,0))(h:zdv s R):
  Calls Tryz.prog 59 #[.pointer (some ⟨pt,0,none⟩),.pointer (some ⟨pr,0,none⟩)] w fun e w'=>e=zaj R.1 R.2∧Below w.heap.size w w':=by
 have hc:=(h w hw).mono (R':=fun e w'=>e=zaj R.1 R.2∧Below w.heap.size w w') (by
  rintro e w' ⟨hb,⟨h,_⟩|⟨_,h⟩⟩
  ·exact absurd h hR
  ·exact⟨h,hb⟩)
 go_enter Tryz.func59,Tryz.ntmps59
 go_wp2_with(go_at_call 44;refine hc.mono ?_;rintro e w1 ⟨rfl,hb⟩)
 exact⟨rfl,rfl,hb⟩
theorem ztS(w:World)(hw:LibW w)(pt pr:Nat)(s:ByteArray)(t1:w.cell? ⟨pt,0,none⟩=some (.string s))(L:List Said)(h:zng s L)(d0:w.cell? ⟨pr,0,none⟩=some (.int .i64 0))(d1:w.cell? ⟨pr,1,none⟩=some (.int .i64 0))(fz:∀ j,w.frozen? ⟨pr,j,none⟩=false):
  Calls Tryz.prog 59 #[.pointer (some ⟨pt,0,none⟩),.pointer (some ⟨pr,0,none⟩)] w (zww w pr L):=by
 have hc:=h w hw
 have hlt:pr<w.heap.size:=World.block_lt_of_cell? w _ d0
 go_enter Tryz.func59,Tryz.ntmps59
 go_wp2_with(first
  | (go_at_call 44;refine hc.mono ?_;rintro e w1 ⟨hb1,pm,ao,m,cap,F,rfl,hP,R,hn,hits⟩;have hof:=zsU R w1 _ pm _ hP hn hits)
  | (go_at_call 52;refine hof.mono ?_;rintro e w2 ⟨g,gcap,rfl,hg1,hg2,hCI,hb2⟩;have hbd:=zml (ccap:=gcap) R.sure hg2 hCI)
  | (go_at_call 58;refine Hid.out ?_))
 unfold Hid
 refine hbd.mono ?_
 rintro e w3 ⟨hb3,hcase⟩
 have hB:Below w.heap.size w w3:=hb1.trans ((hb2.mono hb1.size).trans (hb3.mono (Nat.le_trans hb1.size hb2.size)))
 rcases hcase with ⟨rfl,hv⟩|⟨bs,bf,rfl,hv⟩
 ·dsimp only
  exact⟨rfl,.inl ⟨rfl,⟨F,R,hv⟩,hB⟩⟩
 ·dsimp only
  have e0:w3.cell? ⟨pr,0,none⟩=some (.int .i64 0):=(World.cell?_of_block (a:=⟨pr,0,none⟩) (hB.block pr hlt)).trans d0
  have e1:w3.cell? ⟨pr,1,none⟩=some (.int .i64 0):=(World.cell?_of_block (a:=⟨pr,1,none⟩) (hB.block pr hlt)).trans d1
  have z0:w3.frozen? ⟨pr,0,none⟩=false:=(World.frozen?_of_block (a:=⟨pr,0,none⟩) (hB.block pr hlt)).trans (fz 0)
  have z1:w3.frozen? ⟨pr,1,none⟩=false:=(World.frozen?_of_block (a:=⟨pr,1,none⟩) (hB.block pr hlt)).trans (fz 1)
  have hfin:Hid (zww w pr L (.returned (.tuple #[])) ((w3.setCell ⟨pr,0,none⟩ (.int .i64 bs)).setCell ⟨pr,1,none⟩ (.int .i64 bf))):=.inr ⟨bs,bf,rfl,⟨F,R,hv⟩,w3,hB,rfl⟩
  clear hbd hof hc hv hCI hP
  go_wp2
  exact bodyPost_end (results_none rfl _ _ _) rfl hfin.out
theorem VerdL.bound{L:List Said}{bs bf:Int}(h:VerdL L (some (bs,bf))):1≤bs∧bs≤100000∧1≤bf∧bf≤16:=by
 obtain⟨F,R,hv⟩:=h
 exact hv.bound R.sure
end Go.Proofs.YtfpgjkbjbbgciaaGreatDoor
namespace Go.Proofs.YtfpgjkbjbbgciaaGreatDoor
open Go.ChangeShapes Go.WideShapes Go.ChangeAt Go.RowKit Sp
def zhI:DataW Unit→List Value
 | .agg l=>l.map fun
  | .lit (.int k n)=>Value.int k n
  | _=>Value.int .u8 0
 | _=>[]
noncomputable def laidWorld(os:Os):World :=
 let N:=(World.settled Tryz.prog os).heap.size
 let w0:=World.holding Tryz.prog os ⟨#[
  .cells #[.string ⟨#[105,110,118,97,108,105,100,32,115,121,110,116,97,120]⟩] 269,
  .cells #[.string ⟨#[118,97,108,117,101,32,111,117,116,32,111,102,32,114,97,110,103,101]⟩] 269],#[],[]⟩
 let put (h:Array Obj) (g:Nat) (cs:Array Value):Array Obj:=h.modify g fun
  | .cells _ t frozen=>.cells cs t frozen
  | o=>o
 let h1:=put w0.heap 1 (Lib.firstTab.map fun z=>Value.int .u8 z).toArray
 let h2:=put h1 2 ((List.range 16).flatMap fun i=>[Value.int .u8 (Lib.accLo i),Value.int .u8 (Lib.accHi i)]).toArray
 let h3:=put h2 3 #[.iface 267 (.pointer (some ⟨N,0,none⟩))]
 let h4:=put h3 4 #[.iface 267 (.pointer (some ⟨N+1,0,none⟩))]
 let h5:=put h4 5 (zhI Rows.laid_internal_strconv_uint64pow10).toArray
 let h6:=put h5 6 (zhI Rows.laid_math_bits_deBruijn32tab).toArray
 let h7:=put h6 7 (zhI Rows.laid_math_bits_deBruijn64tab).toArray
 { w0 with heap:=h7 }
theorem zuO(os:Os)(args:Array Value):laidMet Tryz.prog Rows.checksUptoRow.laid ((laidWorld os).forCall (fun _ _=>0) ⟨#[],args,[]⟩).memory :=
 laidMet_of_run3 8 (by kernel_rfl) (by kernel_rfl) (by kernel_rfl)
end Go.Proofs.YtfpgjkbjbbgciaaGreatDoor
namespace Go.Proofs.YtfpgjkbjbbgciaaGreatDoor
open Go.ChangeShapes Go.WideShapes Go.ChangeAt Go.RowKit Sp
open Go.ChangeMaps (open_string shut_string)
theorem Tryz.own:ownKnob Tryz.prog.godebug=none:=by kernel_rfl
theorem gES:Tryz.prog.globalNamed "strconv.ErrSyntax" = some 3:=by kernel_rfl
theorem gER:Tryz.prog.globalNamed "strconv.ErrRange" = some 4:=by kernel_rfl
theorem zxp:(Tryz.prog.globals[3]?).map (·.type)=some 246:=by kernel_rfl
theorem zxq:(Tryz.prog.globals[4]?).map (·.type)=some 246:=by kernel_rfl
theorem star : "*errors.errorString" = "*" ++ "errors.errorString":=by decide
theorem zws (u:TypeId) (h:Tryz.prog.typeName? 3 u=some "*errors.errorString"):u=267 :=
 typeName_ptr_named (nm := "errors.errorString") (by rw [←star];kernel_rfl) (by kernel_rfl) (by decide) u (by rw [←star];exact h)
theorem zoB:Tryz.prog.cellsOf 269=1:=by kernel_rfl
theorem zwt:Tryz.prog.cellsOf 9=1:=by kernel_rfl
theorem znj{W:World}(hL0:laidMetH Tryz.prog Rows.checksUptoRow.laid W)(hsh:W.ShapedOpen Tryz.prog):LibW W:=by
 have hL:laidMet Tryz.prog Rows.checksUptoRow.laid W:=hL0
 have hacc:=Lib.laidMet.reads hL (.tail _ (.tail _ (.tail _ (.head _))))
 have hfst:=Lib.laidMet.reads hL (.tail _ (.tail _ (.tail _ (.tail _ (.tail _ (.tail _ (.head _)))))))
 obtain⟨a0,s0,hv0,-,-,-⟩:=laid_sentinel hL.tail.tail.tail.tail gER zxq Tryz.underlying246 zws Tryz.underlying267 Tryz.underlying269 rfl rfl Tryz.underlying9 zoB zwt
 obtain⟨a1,s1,hv1,-,-,-⟩:=laid_sentinel hL.tail.tail.tail.tail.tail gES zxp Tryz.underlying246 zws Tryz.underlying267 Tryz.underlying269 rfl rfl Tryz.underlying9 zoB zwt
 have hpf:Rows.laid_unicode_utf8_first=Lib.firstData:=Pinned.utf8First_eq
 have hpa:Rows.laid_unicode_utf8_acceptRanges=(Lib.acceptData:DataW Unit):=by kernel_rfl
 rw [hpf] at hfst
 rw [hpa] at hacc
 have htabs:Lib.Utf8Tabs 1 2 W :=
  utf8Tabs_of_reads (ρ:=Tryz.lays197_ren) { Tryz.lays197 with } ⟨by kernel_rfl,by kernel_rfl,by kernel_rfl,by kernel_rfl,by kernel_rfl,by kernel_rfl,by kernel_rfl⟩ hfst hacc
 have hmost:∃ m,W.cell? ⟨0,0,none⟩=some (.int .i64 m):=cell_of_shapedOpen_int (g:=0) (t:=3) (zero:=#[.int .i64 0]) hsh (of_decide_eq_true (by kernel_rfl)) (by kernel_rfl) rfl (by kernel_rfl) (by kernel_rfl) Tryz.underlying3
 have hlast:=Lib.laidMet.reads hL (.tail _ (.head _))
 refine⟨htabs,hmost,⟨_,_,hv1⟩,⟨_,_,hv0⟩,?_⟩
 obtain⟨g,ty,cs,fuel,pp,hg,_,hvar,_⟩:=hlast
 obtain rfl:g=7:=Option.some.inj (hg.symm.trans (show Tryz.prog.globalNamed "math/bits.deBruijn64tab" = some 7 by kernel_rfl))
 unfold World.var? at hvar
 rw [hg] at hvar
 cases hh:W.heap[7]? with
 | none=>simp [hh] at hvar
 | some o=>exact(Array.getElem?_eq_some_iff.1 hh).1
end Go.Proofs.YtfpgjkbjbbgciaaGreatDoor
namespace Go.Proofs.YtfpgjkbjbbgciaaGreatDoor
open Go.RowKit Sp
structure RnIn(w:World)(pt pi pr:Nat)(s:ByteArray)(iv:Value):Prop where
 text:w.cell? ⟨pt,0,none⟩=some (.string s)
 inp:w.cell? ⟨pi,0,none⟩=some iv
 state:w.there pr 0 30
 ne:¬pi=pr
abbrev zoT(pt pi pr:Nat):Array Value:=#[.pointer (some ⟨pt,0,none⟩),.pointer (some ⟨pi,0,none⟩),.pointer (some ⟨pr,0,none⟩)]
theorem zwf(w:World)(hw:LibW w)(pt pi pr:Nat)(s:ByteArray)(iv:Value)(T:RnIn w pt pi pr s iv)(R:Int × Int)(hR:¬R=(0,0))(h:zdv s R):
  Calls Tryz.prog 57 (zoT pt pi pr) w fun e w'=>e=zaj R.1 R.2∧Below w.heap.size w w':=by
 have hc:=(h w hw).mono (R':=fun e w'=>e=zaj R.1 R.2∧Below w.heap.size w w') (by
  rintro e w' ⟨hb,⟨h,_⟩|⟨_,h⟩⟩
  ·exact absurd h hR
  ·exact⟨h,hb⟩)
 have t1:=T.text
 go_enter Tryz.func57,Tryz.ntmps57
 go_wp2_with(go_at_call 44;refine hc.mono ?_;rintro e w1 ⟨rfl,hb⟩)
 exact⟨rfl,rfl,hb⟩
def ranL(L:List Said)(inp:List Int)(bs:Int):Mc:=runS (zbP L) bs.toNat (ze4 L inp)
def zwx(w:World)(pr:Nat)(L:List Said)(inp:List Int):Ending→World→Prop:=fun e w'=>(e=zaj 8 0∧VerdL L none∧Below w.heap.size w w')∨∃ bs bf,e=.returned (.tuple #[])∧VerdL L (some (bs,bf))∧zsV w pr (ranL L inp bs) (ranL L inp bs).line w'
theorem ztU{L:List Said}{F:List FnM}(R:Right L F)(inp:List Int)(n:Nat)(ov:Value):zav (runS (zfT (zat F)) n (zdo inp)) ov (zgX (zat F) (runS (zfT (zat F)) n (zdo inp)))=zav (ranL L inp (n:Int)) ov (ranL L inp (n:Int)).line∧(runS (zfT (zat F)) n (zdo inp)).out=(ranL L inp (n:Int)).out:=by
 obtain⟨hsim,hinv⟩:=zxl R.sim R.codeOk n (zgz R.codeOk inp)
 rw [←R.begin] at hsim
 have hline:=zvs R.sim hinv
 rw [←hsim] at hline
 unfold ranL
 rw [Int.toNat_natCast]
 refine⟨?_,by rw [hsim];rfl⟩
 rw [hline,hsim];rfl
theorem ztV(w:World)(hw:LibW w)(pt pi pr:Nat)(s:ByteArray)(ao:Option Addr)(icap:Nat)(inp:List Int)(T:RnIn w pt pi pr s (.slice ao inp.length icap))(L:List Said)(h:zng s L)(hiv:SlB w w.heap.size (.slice ao inp.length icap) inp)(hin:inp.length≤9223372036854775807):
  Calls Tryz.prog 57 (zoT pt pi pr) w (zwx w pr L inp):=by
 have hc:=h w hw
 obtain⟨t1,t3,t4,t5⟩:=T
 have hlti:pi<w.heap.size:=World.block_lt_of_cell? w _ t3
 have hprl:pr<w.heap.size:=by
  obtain⟨u,hu⟩:=Option.isSome_iff_exists.1 (t4 0 (by omega)).1
  exact World.block_lt_of_cell? w _ hu
 go_enter Tryz.func57,Tryz.ntmps57
 go_wp2_with(first
  | (go_at_call 44;refine hc.mono ?_;rintro e w1 ⟨hb1,pm,vo,m,cap,F,rfl,hP,R,hn,hits⟩;have hof:=zsU R w1 _ pm _ hP hn hits)
  | (go_at_call 52;refine hof.mono ?_;rintro e w2 ⟨g,gcap,rfl,hg1,hg2,hCI,hb2⟩;have hbd:=zml (ccap:=gcap) R.sure hg2 hCI)
  | (go_at_call 58;refine Hid.out ?_))
 unfold Hid
 refine hbd.mono ?_
 rintro e w3 ⟨hb3,hcase⟩
 have hb12:Below w.heap.size w w2:=hb1.trans (hb2.mono hb1.size)
 have hB:Below w.heap.size w w3:=hb12.trans (hb3.mono hb12.size)
 have hCI3:=hCI.below hb3 hg2
 have hg3:g<w3.heap.size:=Nat.lt_of_lt_of_le hg2 hb3.size
 rcases hcase with ⟨rfl,hv⟩|⟨bs,bf,rfl,hv⟩
 ·dsimp only
  exact⟨rfl,.inl ⟨rfl,⟨F,R,hv⟩,hB⟩⟩
 ·dsimp only
  have hbd2:=hv.bound R.sure
  obtain⟨n,rfl⟩:∃ n:Nat,bs=(n:Int):=⟨bs.toNat,by omega⟩
  have hn1:n≤100000:=by omega
  have hb4:Below w.heap.size w (w3.alloc (.cells #[.int .i64 (n:Int),.int .i64 bf] 42)):=hB.alloc hB.size _
  have hb34:Below w3.heap.size w3 (w3.alloc (.cells #[.int .i64 (n:Int),.int .i64 bf] 42)):=(Below.refl _ _).alloc (Nat.le_refl _) _
  have t3':=zaC hb4 t3
  have hrun:=zvg (w3.alloc (.cells #[.int .i64 (n:Int),.int .i64 bf] 42)) g gcap n icap ao (zat F) inp R.codeOk (hCI3.below hb34 hg3) (Nat.lt_of_lt_of_le hg3 hb34.size) (hiv.mono hb4) hin hn1 _ rfl
  have hran:=ztU R inp n
  have t4':=zaA t4 hb4 hprl
  have hpr4:pr<(w3.alloc (.cells #[.int .i64 (n:Int),.int .i64 bf] 42)).heap.size:=Nat.lt_of_lt_of_le hprl hb4.size
  have hu34:Tryz.prog.underlying 34=some (.struct _):=Tryz.underlying34
  clear hbd hof hc hCI hP
  go_wp2_with(first
   | (go_at_call 53;refine hrun.mono ?_;rintro e w6 ⟨oo,no,co,rfl,hrow,hb6⟩;have t6:=zaA t4' hb6 hpr4;rw [(hran _).1];have hl:=zaS (ranL L inp (n:Int)) (.slice oo no co) (ranL L inp (n:Int)).line;have h1:=zbg (ranL L inp (n:Int)) oo no co (ranL L inp (n:Int)).line;generalize hds:zav (ranL L inp (n:Int)) (.slice oo no co) (ranL L inp (n:Int)).line=ds at hl h1;have hi:=zbU ds hl;have ht:w6.there pr 0 ds.toArray.size:=(by rw [show ds.toArray.size=30 by simp [hl]];exact t6))
   | (refine wpList_store_mid rfl 34 _ _ rfl pr 0 ds.toArray rfl rfl ht hi h1 ?_))
  have hb6':=hb4.trans (hb6.mono hb4.size)
  have hfin:Hid (zwx w pr L inp (.returned (.tuple #[])) (w6.setCells pr 0 ds)):=.inr ⟨(n:Int),bf,rfl,⟨F,R,hv⟩,w6,oo,no,co,by rw [hds],hb6',zb7 (by rw [←(hran (.slice oo no co)).2];exact hrow) hb4.size⟩
  exact bodyPost_end (results_none rfl _ _ _) rfl hfin.out
end Go.Proofs.YtfpgjkbjbbgciaaGreatDoor
