import Derived.Test.YtfpgjkbjbbgciaaGreatDoorMj50
import Derived.Test.YtfpgjkbjbbgciaaGreatDoorMj52
import Derived.Carry
import Derived.Deep.Slices
set_option maxRecDepth 100000
set_option maxHeartbeats 8000000
namespace Go.Proofs.YtfpgjkbjbbgciaaGreatDoor
section
open Go.RowKit Sp
theorem RunS.few{s:ByteArray}{inp:List Int}{T:Told}(h:RunS s inp T):T.m.out.length≤1048577:=by
 rcases h with ⟨_,rfl⟩|⟨_,_,rfl⟩|⟨_,bs,bf,a,rfl⟩
 ·exact Nat.zero_le _
 ·exact Nat.zero_le _
 ·exact zpE _ _ _ a.bound.2.1
structure OpOk(w:World)(o:OpD):Prop where
 s:o.s.size≤1048576
 n:o.inp.length≤1048576
 l:SlB w w.heap.size (.slice o.ao o.inp.length o.cap) o.inp
 i:∀ x∈o.inp,i64 x
theorem zrW(o:OpD)(w:World)(hw:LibW w)(h:OpOk w o):qC 27 #[.agg #[.int .i64 o.kind,.int .i64 o.n,.string o.s,.slice o.ao o.inp.length o.cap]] w (zeW w):=by
 obtain⟨kind,n,s,ao,cap,inp⟩:=o;obtain⟨d,b,f,l⟩:=h;show qC 27 #[.agg #[.int .i64 kind,.int .i64 n,.string s,.slice ao inp.length cap]] w (zeW w);by_cases g:kind=1
 ·subst g;exact zyU n s ao cap inp w hw f b (fun W hW=>zyx s (zgm s (Nat.le_trans d (by decide))) W hW d)
 ·by_cases j:kind=2
  ·subst j;exact zyT n s ao cap inp w hw f b (ziw s inp n) (zrb s inp n) (fun W a c hW h=>zra s W hW a c n inp (Nat.le_trans d (by decide)) h (Nat.le_trans b (by decide))) (fun W h=>zqK s W ao cap n inp d h b)
  ·by_cases k:kind=3
   ·subst k;exact zuV n s ao cap inp w hw f b (fun W hW h=>zxi s W hW ao cap inp d h b l)
   ·by_cases i:kind=4
    ·subst i;exact zxl n s ao cap inp w hw f b (fun W hW h=>zxp s W hW ao cap inp d h b) (fun W a c hW h=>(zmU s W hW (Nat.le_trans d (by decide)) a c inp h (Nat.le_trans b (by decide))).mono fun e w' ⟨T,hT,hp⟩=>⟨T,hT.few,hp⟩)
    ·exact zxk n s ao cap inp w hw f b kind g j k i
theorem zxq(so:Option Addr)(scap:Nat)(ops:List OpD)(w:World)(hw:LibW w)(hn:ops.length≤1048576)
  (hso:0<ops.length→∃ g o,so=some ⟨g,o,none⟩∧g<w.heap.size∧∀ k (h:k<ops.length),w.cell? ⟨g,o+k*4,none⟩=some (.int .i64 ops[k].kind)∧w.cell? ⟨g,o+k*4+1,none⟩=some (.int .i64 ops[k].n)∧w.cell? ⟨g,o+k*4+2,none⟩=some (.string ops[k].s)∧w.cell? ⟨g,o+k*4+3,none⟩=some (.slice ops[k].ao ops[k].inp.length ops[k].cap))
  (hops:∀ o∈ops,OpOk w o):qC 7 #[.slice so ops.length scap] w (qR w (.bool true)) :=
 alaw so scap ops w hn hso fun o ho W hB=>zrW o W (hw.below hB) ⟨(hops o ho).s,(hops o ho).n,(hops o ho).l.mono hB,(hops o ho).i⟩
end
section
open Go.ChangeShapes Go.WideShapes Go.ChangeAt Go.RowKit Sp
open Go.ChangeMaps (open_string shut_string)
theorem zxr{H:Type}{l:List (DataW H)}{d:DataW H}(h:d∈l):Rows.uptoBulk d≤Rows.uptoBulkAll l:=by
 induction l with
 | nil=>cases h
 | cons x t ih =>
  rw [Rows.uptoBulkAll];rcases List.mem_cons.1 h with e|e
  ·rw [e];omega
  ·have:=ih e;omega
theorem Tryz.cells55:Tryz.prog.cellsOf 55=4:=by kernel_rfl
theorem zmV{H:Type}{enc:TypeId × Value→H}{W:World}{fuel:Nat}{cs:List Value}{x:DataW H × List MemPlace}(hf:DataW.trod enc Tryz.prog W 0 (fun _=>true) true fuel 29 cs=some x):
  ∃(ao:Option Addr) (icap:Nat) (inp:List Int),cs=[.slice ao inp.length icap]∧SlB W W.heap.size (.slice ao inp.length icap) inp∧inp.length≤Rows.uptoBulk x.1∧(∀ z∈inp,i64 z):=by
 have p:Tryz.prog.cellsOf 2=1:=by kernel_rfl
 rcases open_ints Tryz.underlying29 Tryz.underlying2 p hf with ⟨e,o⟩|⟨a,c,i,d,e,_,hle,hmax,g,o,f,n⟩
 ·exact⟨none,0,[],e,⟨none,0,rfl,Nat.le_refl _,fun h=>by simp at h⟩,Nat.zero_le _,(fun x o=>(by cases o))⟩
 ·simp only [if_true] at g;have hlt:(d.take c).length=c:=by rw [List.length_take];omega
  refine⟨some a,i,d.take c,by rw [hlt];exact e,⟨some a,i,rfl,by omega,fun hp=>?_⟩,?_,fun z hz=>?_⟩
  ·obtain⟨b,m,rfl,l⟩:=ints_at f (by omega);have k:b<W.heap.size:=World.block_lt_of_cell? W _ (l 0 (by omega));refine⟨b,m,rfl,k,k,fun j hj=>?_⟩;rw [l j (by omega)];simp [List.getD,show j<d.length by omega]
  ·rw [o];have:=zjT (lits (H:=H) .i64 (d.take c)) (lits .i64 (d.drop c));have hll:(lits (H:=H) .i64 (d.take c)).length=(d.take c).length:=by simp [lits]
   rw [hll] at this;exact Nat.le_trans (Nat.le_add_right _ _) this
  ·have:=n z (List.mem_of_mem_take hz);simp only [Lit.wf,Bool.and_eq_true,decide_eq_true_eq] at this;exact this
theorem zyV{H:Type}{enc:TypeId × Value→H}{W:World}{fuel:Nat}{cs:List Value}{x:DataW H × List MemPlace}(hf:DataW.trod enc Tryz.prog W 0 (fun _=>true) true fuel 55 cs=some x)(hb:Rows.uptoBulk x.1≤1048576):
  ∃ o:OpD,cs=[.int .i64 o.kind,.int .i64 o.n,.string o.s,.slice o.ao o.inp.length o.cap]∧OpOk W o:=by
 obtain⟨q,k,_,rfl,b,i,a⟩:=DataW.trod_struct Tryz.underlying55 hf;rw [Tryz.cells55] at b
 match q,i,cs,b with
 | [y0,y1,y2,y3],_,[v0,v1,v2,v3],_ =>
  have p:=a 0 _ rfl;have j:=a 1 _ rfl;have m:=a 2 _ rfl;have l:=a 3 _ rfl;obtain⟨kind,f,rfl,_⟩:=DataW.trod_int Tryz.underlying3 (x:=y0) p;obtain⟨n,c,rfl,_⟩:=DataW.trod_int Tryz.underlying3 (x:=y1) j;obtain⟨s,d,rfl,_⟩:=DataW.trod_string Tryz.underlying9 (x:=y2) m;obtain⟨ao,cap,inp,g,r,hi,h⟩:=zmV (x:=y3) l;have k3:Tryz.prog.cellsOf 3=1:=by kernel_rfl
  have k9:Tryz.prog.cellsOf 9=1:=by kernel_rfl
  have k29:Tryz.prog.cellsOf 29=1:=by kernel_rfl
  change List.take (Tryz.prog.cellsOf 3) [v0,v1,v2,v3]=_ at f;change List.take (Tryz.prog.cellsOf 3) [v1,v2,v3]=_ at c;change List.take (Tryz.prog.cellsOf 9) [v2,v3]=_ at d;change List.take (Tryz.prog.cellsOf 29) [v3]=_ at g;rw [k3] at f c;rw [k9] at d;rw [k29] at g;simp only [List.take_succ_cons,List.take_zero,List.cons.injEq,and_true] at f c d g;subst f c d g;refine⟨⟨kind,n,s,ao,cap,inp⟩,rfl,⟨?_,?_,r,h⟩⟩
  ·simp only [List.map_cons,List.map_nil,Rows.uptoBulk,Rows.uptoBulkAll] at hb;have e:s.size=s.data.toList.length:=Array.length_toList.symm;show s.size≤_;omega
  ·simp only [List.map_cons,List.map_nil,Rows.uptoBulk,Rows.uptoBulkAll] at hb;show inp.length≤_;omega
theorem zuZ(H:Type)(enc:TypeId × Value→H)(W:World)(base:Nat)(args:Array Value)(ds gs:List (DataW H))(before:List MemPlace)
  (hval:∀(j:Nat) t v,Tryz.f7.params[j]?=some t→args[j]?=some v→Value.okWide Tryz.prog W .any base t v)
  (hW:DataW.Whole enc Tryz.prog Tryz.f7.params.toList Rows.allSpec.vars false W args.toList ds gs before) (hbulk:Rows.uptoSmall H (ds++gs)=true) (hL:laidMetH Tryz.prog Rows.allUptoRow.laid W) (hsh:W.ShapedOpen Tryz.prog) :
  qC 7 args W fun e W'=>∃ v,e=.returned v∧Rows.allSpec.post enc Tryz.prog Tryz.f7 false true false false W args v W':=by
 have z:=hW;obtain⟨p,q,C,hV,rfl,hfz,hnd⟩:=hW;have Z:DataW.TrodAll enc Tryz.prog W 0 (fun _=>true) true Tryz.f7.params.toList args.toList ds p:=C;rw [Tryz.params7] at Z hval;obtain⟨v0,d0,rfl,rfl,h0⟩:=trodAll_one Z;obtain⟨rfl,rfl⟩:=trodVars_none hV;have R:=h0;have Y:∀ x∈p,x.block<W.heap.size:=fun x N=>z.lt x (List.mem_append_left _ N);have X:Rows.uptoBulk d0≤1048576:=by
  have h:=of_decide_eq_true hbulk;simp only [List.append_nil,Rows.uptoBulkAll] at h;omega
 obtain⟨S,c,u,rfl⟩:=okWide_slice Tryz.underlying50 (hval 0 50 v0 rfl rfl);obtain⟨fuel,hf⟩:=h0;clear C;simp only [List.append_nil] at z;have L:∀(P:Option Addr) (l:Nat) (d:List OpD),(Value.slice S c u)=.slice P d.length l→d.length≤1048576→(0<d.length→∃ g o,P=some ⟨g,o,none⟩∧g<W.heap.size∧∀ k (h:k<d.length),W.cell? ⟨g,o+k*4,none⟩=some (.int .i64 d[k].kind)∧W.cell? ⟨g,o+k*4+1,none⟩=some (.int .i64 d[k].n)∧W.cell? ⟨g,o+k*4+2,none⟩=some (.string d[k].s)∧W.cell? ⟨g,o+k*4+3,none⟩=some (.slice d[k].ao d[k].inp.length d[k].cap))→(∀ o∈d,OpOk W o)→qC 7 #[.slice S c u] W fun e W'=>∃ v,e=.returned v∧Rows.allSpec.post enc Tryz.prog Tryz.f7 false true false false W #[.slice S c u] v W':=by
  intro P l d hv hn U J;rw [hv];refine(zxq P l d W (znO hL hsh) hn U J).mono fun e W' ⟨he,hb⟩=>?_;subst he;rw [←hv];refine⟨_,rfl,_,_,_,[],p,[],z,?_,?_,?_,hb.frame _,fun h=>by cases h⟩
  ·exact trodAll_mk1 (shut_bool Tryz.underlying4 _)
  ·exact trodAll_mk1 (Below.trod (by kernel_rfl) (by kernel_rfl) (of_decide_eq_true (by kernel_rfl)) R hb Y)
  ·rfl
 rcases Go.Deep.open_slice Tryz.underlying50 hf with ⟨r,N⟩|⟨a,len,cap,m,n,D,Pl,r,_,hl,hm,B,N,T⟩
 ·simp [Value.cells] at r;obtain⟨rfl,rfl,rfl⟩:=r;exact L none 0 [] rfl (Nat.zero_le _) (fun h=>absurd h (Nat.lt_irrefl 0)) (fun o G=>by cases G)
 ·simp [Value.cells] at r;obtain⟨rfl,rfl,rfl⟩:=r;simp only [Prod.mk.injEq] at N;obtain⟨rfl,rfl⟩:=N;simp only [if_true] at B;subst B;have V:∀ i,i<c→Rows.uptoBulk (D i)≤1048576:=fun i M=>by
   have E:=zxr (List.mem_map_of_mem (f:=D) (List.mem_range.2 M));rw [Rows.uptoBulk] at X;omega
  have hlen1:c≤1048576:=by
   have E:=zjT ((List.range c).map D) ((List.range (m-c)).map fun j=>D (c+j));simp only [List.length_map,List.length_range] at E;omega
  have I:∀ i,i<c→∃ o:OpD,OpOk W o∧∀ j,j<4→W.cell? (a.add (i*4+j))=o.cells[j]?:=fun i M=>by
   obtain⟨cs',E,h2⟩:=T i (by omega);rw [Tryz.cells55] at E;obtain⟨_,_,y⟩:=World.cells?_some E;obtain⟨o,rfl,G⟩:=zyV h2 (V i M);refine⟨o,G,fun j hj=>?_⟩;have:=y j hj;rw [Go.Deep.add_add] at this;exact this
  have:Inhabited OpD:=⟨⟨0,0,ByteArray.empty,none,0,[]⟩⟩
  obtain⟨q,Q⟩:=Go.Deep.choose_lt I;have hlq:((List.range c).map q).length=c:=by simp
  refine L (some a) m ((List.range c).map q) (by rw [hlq]) (by omega) (fun hp=>?_) (fun o G=>?_)
  ·obtain⟨b,K,O⟩:=a;have A:O=none:=by
    have:=(Q 0 (by omega)).2 0 (by decide);simpa [Addr.add] using World.cell?_spot this
   subst A;have F:∀ k j,k<c→j<4→W.cell? ⟨b,K+k*4+j,none⟩=(q k).cells[j]?:=fun k j hk hj=>by
    have:=(Q k hk).2 j hj;rwa [Go.WideShapes.add_plain,←Nat.add_assoc] at this
   refine⟨b,K,rfl,World.block_lt_of_cell? W _ (F 0 0 (by omega) (by decide)),fun k hk=>?_⟩;have w:k<c:=by omega
   have hqk:((List.range c).map q)[k]=q k:=by simp
   rw [hqk];exact⟨F k 0 w (by decide),F k 1 w (by decide),F k 2 w (by decide),F k 3 w (by decide)⟩
  ·obtain⟨i,M,rfl⟩:=List.mem_map.1 G;exact(Q i (List.mem_range.1 M)).1
theorem zmW(os:Os){H:Type}(enc:TypeId × Value→H):
  (Rows.OpenSpec.upto Rows.allSpec).preRow enc Tryz.prog Tryz.f7 Rows.allUptoRow.domain false Rows.allUptoRow.laid ((laidWorld os).forCall (fun _ _=>0) ⟨#[],#[.slice none 0 0],[]⟩).memory #[.slice none 0 0]:=by
 have b:(DataW.whole enc Tryz.prog ((laidWorld os).forCall (fun _ _=>0) ⟨#[],#[.slice none 0 0],[]⟩).memory Tryz.f7.params.toList Rows.allSpec.vars false #[Value.slice none 0 0].toList 8).map (fun x=>(x.1,x.2.1)) =
   some ([.nil],[]):=by kernel_rfl
 obtain⟨⟨x1,x2,x3⟩,c,a⟩:=Option.map_eq_some_iff.1 b;simp only [Prod.mk.injEq] at a;obtain⟨rfl,rfl⟩:=a;exact OpenSpec.preRow_of_cond 8 c (by kernel_rfl) (fun k hk=>by cases hk;kernel_rfl) (by kernel_rfl) (zvb os _)
theorem zoy(os:Os)(started:os.Started)(H:Type)(enc:TypeId × Value→H)(F:Stop.Interp):
  ReturnsInHanded {} Tryz.checked os 7 .any ((Rows.OpenSpec.upto Rows.allSpec).preRow enc Tryz.prog Tryz.f7 Rows.allUptoRow.domain false Rows.allUptoRow.laid) (((Rows.OpenSpec.upto Rows.allSpec).at F).post enc Tryz.prog Tryz.f7 false true false false):=by
 refine returnsInHanded_of_row (C:=Tryz.checked) (s:=Rows.OpenSpec.upto Rows.allSpec) Tryz.own started (by kernel_rfl) Tryz.func7
  (witness_row_atRef (enc:=enc) (C:=Tryz.checked) false (laidWorld os) #[.slice none 0 0] rfl (by kernel_rfl) (by kernel_rfl) (by kernel_rfl) (zmW os enc)) ?_
 intro W b c g i a d f x1 h x3 j e x5;exact zuZ H enc W b c g i a d f (h _ rfl) j e
theorem zzB:(Rows.allUptoRow.inPlace == Tryz.pinned.checked.prog.inPlace 7)=true:=by kernel_rfl
theorem zzC:(Rows.allUptoRow.unfollowed == Tryz.pinned.checked.prog.unfollowed 7)=true:=by kernel_rfl
theorem zzD:(Rows.allUptoRow.recurses == Tryz.pinned.checked.prog.recurses 7)=true:=by kernel_rfl
theorem zzE:(Rows.allUptoRow.named == Tryz.pinned.checked.prog.varsNamed 7)=true:=by kernel_rfl
theorem zzF:joinedFacts Tryz.pinned.checked.prog 7 Tryz.f7 (Rows.OpenSpec.upto Rows.allSpec).bare Rows.allUptoRow=true:=by
 unfold joinedFacts;rw [zzB,zzC,zzD,zzE];kernel_rfl
theorem zva:Rows.AllUptoSaid :=
 OpenClaim.holds_of_cond 7 Tryz.f7 rfl rfl rfl rfl rfl rfl rfl ⟨rfl,rfl,rfl,rfl,rfl⟩ rfl rfl rfl rfl rfl (by kernel_rfl) Tryz.func7 zzF
  (of_decide_eq_true (by kernel_rfl)) (by unfold Func.isWrapper;first|(rw [if_pos (by decide +kernel)];kernel_rfl)|(rw [if_neg (by decide +kernel)];exact⟨rfl,rfl⟩))
  (fun os started H enc _ F=>by rw [OpenClaim.pre_eq_preRow];exact zoy os started H enc F)
theorem zzG (f:FuncId) (fn:Func) (hf:Tryz.pinned.checked.prog.funcNamed "bounded/boundedlaw.All" = some f) (hfn:Tryz.pinned.checked.prog.funcs[f]?=some fn) :
  true=Tryz.pinned.checked.prog.looks []∧∀(j:Nat) t,fn.params[j]?=some t→Tryz.pinned.checked.prog.wantsStandIn t=false:=by
 obtain rfl:f=7:=Option.some.inj ((show Tryz.prog.funcNamed "bounded/boundedlaw.All" = some 7 by kernel_rfl).symm.trans hf) |>.symm
 obtain rfl:fn=Tryz.f7:=(Option.some.inj (Tryz.func7.symm.trans hfn)).symm;refine⟨by kernel_rfl,fun j t ht=>?_⟩;rw [Tryz.params7] at ht;have hm:t=50:=by simpa using Array.mem_of_getElem? ht
 rw [hm];exact(show Tryz.prog.wantsStandIn 50=false by kernel_rfl)
theorem acardUpto:Rows.AllUptoCardSaid :=
 Claim7.holds_tied_plain_at .later [] _ _ _ _ zva (fun _ h=>by cases h) (by kernel_rfl) (fun _ h=>by cases h) allUpto_row_tie rfl ⟨rfl,rfl⟩ (by kernel_rfl) rfl zzG (by kernel_rfl)
end
end Go.Proofs.YtfpgjkbjbbgciaaGreatDoor
