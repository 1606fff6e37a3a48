import Derived.Test.YtfpgjkbjbbgciaaGreatDoorMk49
import Derived.Test.YtfpgjkbjbbgciaaGreatDoorMk52
set_option maxRecDepth 100000
set_option maxHeartbeats 8000000
namespace Go.Proofs.YtfpgjkbjbbgciaaGreatDoor
section
open Go.RowKit Sp
theorem zAC:zAp:=fun B w b px cv code S k V M hd hh hl hb hk hc=>by
 refine zAy B w b px cv code S k V M hd ?_ ?_ ?_ hk ?_
 ·unfold zjA;simp only [hh];decide
 ·rw [hl];exact Nat.zero_le _
 ·rw [hb];exact Nat.zero_le _
 ·rw [hc];exact Nat.le_refl _
theorem zz5:zvv:=fun _B _w _b _px _cv _code _S _k _V M hh hl hk=>znd M 0 (by decide) (hh 0) hl (by omega) (fun _W _k2 _V2 M2=>zll M2 0 (by decide) (hh 0) hl)
theorem znj{w:World}{cv:Value}{code:List Int}(hc:SlB w w.heap.size cv code)(hl:code.length≤9223372036854775807)(hnum:∀ x∈code,i64 x):Calls Tryz.prog 31 #[cv] w (zlp w):=zss zAC zz5 hc hl hnum
structure CtIn(s:ByteArray)(a b:Int)(inp:List Int)(bs bf:Int)(FIN:Mc):Prop where
 ver:VerS s bs bf 0 0
 run:RunS s inp ⟨FIN,FIN.line,0,0⟩∧∀ T,RunS s inp T→T=⟨FIN,FIN.line,0,0⟩
 b1:1≤bs
 b2:bs≤a+1
 f1:1≤bf
 f2:bf≤b
 fin:FIN.fin=2
 frames:FIN.frames=0
 steps:FIN.steps≤bs
 peak:FIN.peak≤bf
theorem zAD{G:List (List Ln)}{fs:Nat→Fw}{a b c:Int}(hW:Wrote G)(h0:G≠[])(hl:G.length≤18)(Q:CntQ fs G a b c)(hR:zcm (ba (zdK G))=(0,0))(ha:a≤10000)(hc:c≤16)(inp:List Int)(hin:∀ x∈inp,i64 x):∃ bs bf FIN,CtIn (ba (zdK G)) a b inp bs bf FIN:=by
 obtain⟨F,R⟩:=zed _ hR;have g:=hW.lines (by omega);have p:(fs (G.length-1)).wt≤10000:=by have:=Q.wt;omega
 have hpos:0<G.length:=List.length_pos_iff.2 h0;have o:(fs (G.length-1)).fr≤16:=by have:=Q.fr (G.length-1) (by omega);omega
 have h:=R;rw [g] at h;obtain⟨bs,bf,f,k,l,m,n,e⟩:=zsv hW h0 (by omega) Q.wrote h p o;obtain⟨i,j⟩:=e inp hin;rw [←g] at f i j;have d:=f.ends inp hin bs.toNat (by omega);refine⟨bs,bf,ranL ((lines (ba (zdK G))).map say) inp bs,⟨.inr (.inr ⟨hR,f,rfl,rfl⟩),⟨.inr (.inr ⟨hR,bs,bf,f,rfl⟩),fun T hT=>hT.inn hR f⟩,k,by rw [Q.wt];exact l,m,by rw [Q.len];exact n,i,j,d.2.1,d.2.2⟩⟩
theorem zlr(m:Mc)(ov:Value)(line:Int):(zaH m ov line)[26]?=some (.int .i64 m.frames):=by simp [zaH]
theorem zAE(cv iv:Value)(inp:List Int)(w:World)(hw:LibW w)(hin:∀ x∈inp,i64 x)
  (hcnt:∀ W,Below w.heap.size w W→Calls Tryz.prog 31 #[cv] W (zlp W))
  (hrun:∀ s W,LibW W→Below w.heap.size w W→s.size≤9223372036854775807→Calls Tryz.prog 25 #[.string s,iv] W fun e w'=>∃ T,RunS s inp T∧zdk W T e w') :
  Calls Tryz.prog 8 #[cv,iv] w fun e w'=>e=.returned (.bool true)∧Below w.heap.size w w':=by
 have Q:=zuE w hw;go_enter Tryz.func8,Tryz.ntmps8;go_wp2_with(first
  | (go_at_call 30;(with_reducible refine Q.mono ?_);rintro e w1 ⟨rfl,B⟩;have S:=hcnt w1 B)
  | (go_at_call 31;(with_reducible refine S.mono ?_);rintro e w2 ⟨G,fs,a,b,c,rfl,hG,O,P,aa,k,hQ,ha0,ha1,hc0,hc1⟩;have k:=B.trans (k.mono B.size);have o:=hG.read O (Nat.le_trans P (by decide));have y:=fun o ha hc=>zAD hG O P hQ o ha hc inp hin;have hbl:b=(G.length:Int):=hQ.len;generalize ba (zdK G)=s at aa o y ⊢;have R:=zoL s w2 (hw.below k) (by omega) o;have y:=hidK y)
  | (go_at_call 32;refine Hid.out ?_))
 unfold Hid;refine R.mono ?_;rintro e w3 ⟨rfl,ab⟩;dsimp only;have i:=k.trans (ab.mono k.size);have C:=fun W=>zpN s W (by omega);unfold zx0 at C;clear R S hcnt Q;by_cases f:4000<s.size∨300<(lines s).length
 ·rw [decide_eq_false (fun x=>x f)] at C;clear f y o hrun;go_wp2_with(first
   | (go_at_call 33;(with_reducible refine(C _).mono ?_);rintro e wz ⟨rfl,g⟩;subst g))
  go_ret;exact⟨rfl,i⟩
 ·rw [if_neg f] at o;rw [decide_eq_true f] at C;clear f;by_cases hA:10000<a
  ·clear y o hrun;go_wp2_with(first
    | (go_at_call 33;(with_reducible refine(C _).mono ?_);rintro e wz ⟨rfl,g⟩;subst g))
   go_ret;exact⟨rfl,i⟩
  ·by_cases hC:16<c
   ·clear y o hrun;go_wp2_with(first
     | (go_at_call 33;(with_reducible refine(C _).mono ?_);rintro e wz ⟨rfl,g⟩;subst g))
    go_ret;exact⟨rfl,i⟩
   ·obtain⟨n,m,d,I⟩:=(Hid.out2 y) o (by omega) (by omega);have z:=zuD I.ver true (by decide) w3 (hw.below i) (by omega);obtain⟨_,⟨_,hI⟩,i1,i2,i3,i4,i5,i6,i7,i8⟩:=I;have hI:=hidK hI;clear y o;go_wp2_with(first
     | (go_at_call 33;(with_reducible refine(C _).mono ?_);rintro e wz ⟨rfl,g⟩;subst g)
     | (go_at_call 34;refine Hid.out ?_))
    unfold Hid;refine z.mono ?_;rintro e l ⟨rfl,ac⟩;dsimp only;have L:=i.trans (ac.mono i.size);have t:=L.alloc L.size (.cells #[.int .i64 n,.int .i64 m] 42);have U:Calls Tryz.prog 25 #[.string s,iv] (l.alloc (.cells #[.int .i64 n,.int .i64 m] 42)) (zdk (l.alloc (.cells #[.int .i64 n,.int .i64 m] 42)) ⟨d,d.line,0,0⟩):=(hrun s _ (hw.below t) t (by omega)).mono fun e w' ⟨T,hT,hp⟩=>by rw [(Hid.out2 hI) T hT] at hp;exact hp
    have q5:(l.alloc (.cells #[.int .i64 n,.int .i64 m] 42)).cell? ⟨l.heap.size,0,none⟩=some (.int .i64 n):=World.cell?_alloc_new (w:=l) #[.int .i64 n,.int .i64 m] 42 0;have q6:(l.alloc (.cells #[.int .i64 n,.int .i64 m] 42)).cell? ⟨l.heap.size,1,none⟩=some (.int .i64 m):=World.cell?_alloc_new (w:=l) #[.int .i64 n,.int .i64 m] 42 1;have hs2:(l.alloc (.cells #[.int .i64 n,.int .i64 m] 42)).heap.size=l.heap.size+1:=by simp
    clear z hI hrun;have j1:¬2*a+10<n:=by omega
    have j2:¬m<1:=by omega
    have j3:¬b<m:=by omega
    go_wp2_with(first
     | (go_at_call 25;refine Hid.out ?_))
    unfold Hid;refine U.mono ?_;rintro e h ⟨F,E,A,rfl,_,v⟩;dsimp only;have X:=za5 v q5;have Y:=za5 v q6;have M:=t.trans (v.mono t.size);have hlt:l.heap.size<h.heap.size:=Nat.lt_of_lt_of_le (by rw [hs2];omega) v.size;have D:=zbF d (.slice F E A) d.line;have h1:=zcs d F E A d.line;have Z:=zhm d (.slice F E A) d.line;have p:=zlr d (.slice F E A) d.line;have q:=zu9 d (.slice F E A) d.line;have r:=zkl d (.slice F E A) d.line;rw [i5] at r;rw [i6] at p;generalize d.steps=st at Z i7;generalize d.peak=pk at q i8;generalize zaH d (.slice F E A) d.line=ds at D h1 Z p q r;have hi:=zcv ds D;have V:=zfN (W1:=h) rfl ds D;have u:Below h.heap.size h ((h.alloc Z34).setCells h.heap.size 0 ds.toArray.toList):=za8 _ 0 ((Below.refl h.heap.size h).alloc (Nat.le_refl _) _) (Nat.le_refl _);have j:((h.alloc Z34).setCells h.heap.size 0 ds.toArray.toList).rangeAt h.heap.size 0 ds:=by rw [show ds.toArray.toList=ds by simp];exact World.rangeAt_setCells_same _ _ _ _ (by rw [show ds.length=ds.toArray.size by simp];exact V)
    have c0:=j 0 _ Z;have H:=j 26 _ p;have J:=j 27 _ q;have K:=j 29 _ r;rw [Nat.zero_add] at c0 H J K;have ad:=za5 u X;have ae:=za5 u Y;have N:=M.trans (u.mono M.size);generalize hw7:(h.alloc Z34).setCells h.heap.size 0 ds.toArray.toList=w7 at u j c0 H J K ad ae N;clear j Z p q r X Y q5 q6 U;go_wp2_with(first|(refine wpList_store_mid rfl 34 _ _ rfl h.heap.size 0 ds.toArray rfl rfl V hi h1 ?_;rw [hw7]))
    go_ret;exact⟨by first|rfl|simp [go_sem,i7,i8],N⟩
theorem zv7{cv:Value}{code:List Int}{ao:Option Addr}{icap:Nat}{inp:List Int}(w:World)(hw:LibW w)(hc:SlB w w.heap.size cv code)(hl:code.length≤9223372036854775807)(hnum:∀ x∈code,i64 x)(hiv:SlB w w.heap.size (.slice ao inp.length icap) inp)(hil:inp.length≤9223372036854775807)(h64:∀ x∈inp,i64 x):
  Calls Tryz.prog 8 #[cv,.slice ao inp.length icap] w fun e w'=>e=.returned (.bool true)∧Below w.heap.size w w' :=
 zAE cv (.slice ao inp.length icap) inp w hw h64 (fun _ hB=>znj (hc.mono hB) hl hnum) (fun s W hW hB hs=>zmK s W hW hs ao icap inp (hiv.mono hB) hil)
end
section
open Go.ChangeShapes Go.WideShapes Go.ChangeAt Go.RowKit Sp
open Go.ChangeMaps (open_string shut_string)
theorem zoB{H:Type}{enc:TypeId × Value→H}{W:World}{base:Nat}{v:Value}{d:DataW H}{p:List MemPlace}(hval:Value.okWide Tryz.prog W .any base 29 v)(h:DataW.Trod enc Tryz.prog W 0 (fun _=>true) true 29 v d p):
  ∃(ao:Option Addr) (icap:Nat) (inp:List Int),v=.slice ao inp.length icap∧SlB W W.heap.size (.slice ao inp.length icap) inp∧inp.length≤Rows.uptoBulk d∧(∀ x∈inp,i64 x)∧inp.length≤9223372036854775807 ∧
   ∀ W',Below W.heap.size W W'→DataW.Trod enc Tryz.prog W' 0 (fun b=>decide (b<W.heap.size)) true 29 v d p:=by
 obtain⟨a0,c,f,rfl⟩:=okWide_slice Tryz.underlying29 hval;obtain⟨fuel,z⟩:=h;have u:Tryz.prog.cellsOf 2=1:=by kernel_rfl
 rcases open_ints Tryz.underlying29 Tryz.underlying2 u z with ⟨g,k⟩|⟨a,len,cap,l,g,_,q,n,m,k,e,r⟩
 ·simp [Value.cells] at g;obtain⟨rfl,rfl,rfl⟩:=g;simp only [Prod.mk.injEq] at k;obtain⟨rfl,rfl⟩:=k;refine⟨none,0,[],rfl,⟨none,0,rfl,Nat.le_refl _,fun h=>by simp at h⟩,Nat.zero_le _,(fun x k=>(by cases k)),Nat.zero_le _,fun W' _=>⟨1,?_⟩⟩;simp [DataW.trod,Value.cells,Tryz.underlying29]
 ·simp [Value.cells] at g;obtain⟨rfl,rfl,rfl⟩:=g;simp only [Prod.mk.injEq] at k;obtain⟨rfl,rfl⟩:=k;simp only [if_true] at m;have hlt:(l.take c).length=c:=by rw [List.length_take];omega
  refine⟨some a,f,l.take c,by rw [hlt],⟨some a,f,rfl,by omega,fun hp=>?_⟩,?_,fun x k=>?_,by rw [hlt];exact Nat.le_trans q (Nat.le_trans n (by decide)),fun W' hb=>⟨2,?_⟩⟩
  ·obtain⟨b,t,rfl,s⟩:=ints_at e (by omega);have o:b<W.heap.size:=World.block_lt_of_cell? W _ (s 0 (by omega));refine⟨b,t,rfl,o,o,fun j hj=>?_⟩;rw [s j (by omega)];simp [List.getD,show j<l.length by omega]
  ·have:=zjZ (lits (H:=H) .i64 (l.take c)) (lits .i64 (l.drop c));have hll:(lits (H:=H) .i64 (l.take c)).length=(l.take c).length:=by simp [lits]
   rw [hll] at this;exact Nat.le_trans (Nat.le_add_right _ _) this
  ·have:=r x (List.mem_of_mem_take k);simp only [Lit.wf,Bool.and_eq_true,decide_eq_true_eq] at this;exact this
  ·have A:l.length=(if decide (a.block<W.heap.size)=true then f else c):=by
    by_cases y:0<l.length
    ·have:a.block<W.heap.size:=by
      have:=World.block_lt_of_cell? W _ (e 0 y);simpa [Addr.add] using this
     rw [if_pos (by simpa using this)];exact m
    ·split <;> omega
   have:=shut_ints (enc:=enc) (P:=Tryz.prog) (w:=W') (base:=0) (spare:=fun b=>decide (b<W.heap.size)) (held:=true) 0 Tryz.underlying29 Tryz.underlying2 u (Nat.zero_le _) q n A (fun i hi=>za5 hb (e i hi)) r;simpa [Value.cells] using this
end
section
open Go.ChangeShapes Go.WideShapes Go.ChangeAt Go.RowKit Sp
theorem zoX{H:Type}{enc:TypeId × Value→H}{W:World}{base:Nat}{v:Value}{d:DataW H}{p:List MemPlace}(hval:Value.okWide Tryz.prog W .any base 59 v)(h:DataW.Trod enc Tryz.prog W 0 (fun _=>true) true 59 v d p):
  ∃(ao:Option Addr) (icap:Nat) (inp:List Int),v=.slice ao inp.length icap∧SlB W W.heap.size (.slice ao inp.length icap) inp∧inp.length≤Rows.uptoBulk d∧(∀ x∈inp,i64 x)∧inp.length≤9223372036854775807 ∧
   ∀ W',Below W.heap.size W W'→DataW.Trod enc Tryz.prog W' 0 (fun b=>decide (b<W.heap.size)) true 59 v d p:=by
 obtain⟨a0,c,f,rfl⟩:=okWide_slice Tryz.underlying59 hval;obtain⟨fuel,z⟩:=h;have u:Tryz.prog.cellsOf 3=1:=by kernel_rfl
 rcases open_ints Tryz.underlying59 Tryz.underlying3 u z with ⟨g,k⟩|⟨a,len,cap,l,g,_,q,n,m,k,e,r⟩
 ·simp [Value.cells] at g;obtain⟨rfl,rfl,rfl⟩:=g;simp only [Prod.mk.injEq] at k;obtain⟨rfl,rfl⟩:=k;refine⟨none,0,[],rfl,⟨none,0,rfl,Nat.le_refl _,fun h=>by simp at h⟩,Nat.zero_le _,(fun x k=>(by cases k)),Nat.zero_le _,fun W' _=>⟨1,?_⟩⟩;simp [DataW.trod,Value.cells,Tryz.underlying59]
 ·simp [Value.cells] at g;obtain⟨rfl,rfl,rfl⟩:=g;simp only [Prod.mk.injEq] at k;obtain⟨rfl,rfl⟩:=k;simp only [if_true] at m;have hlt:(l.take c).length=c:=by rw [List.length_take];omega
  refine⟨some a,f,l.take c,by rw [hlt],⟨some a,f,rfl,by omega,fun hp=>?_⟩,?_,fun x k=>?_,by rw [hlt];exact Nat.le_trans q (Nat.le_trans n (by decide)),fun W' hb=>⟨2,?_⟩⟩
  ·obtain⟨b,t,rfl,s⟩:=ints_at e (by omega);have o:b<W.heap.size:=World.block_lt_of_cell? W _ (s 0 (by omega));refine⟨b,t,rfl,o,o,fun j hj=>?_⟩;rw [s j (by omega)];simp [List.getD,show j<l.length by omega]
  ·have:=zjZ (lits (H:=H) .i64 (l.take c)) (lits .i64 (l.drop c));have hll:(lits (H:=H) .i64 (l.take c)).length=(l.take c).length:=by simp [lits]
   rw [hll] at this;exact Nat.le_trans (Nat.le_add_right _ _) this
  ·have:=r x (List.mem_of_mem_take k);simp only [Lit.wf,Bool.and_eq_true,decide_eq_true_eq] at this;exact this
  ·have A:l.length=(if decide (a.block<W.heap.size)=true then f else c):=by
    by_cases y:0<l.length
    ·have:a.block<W.heap.size:=by
      have:=World.block_lt_of_cell? W _ (e 0 y);simpa [Addr.add] using this
     rw [if_pos (by simpa using this)];exact m
    ·split <;> omega
   have:=shut_ints (enc:=enc) (P:=Tryz.prog) (w:=W') (base:=0) (spare:=fun b=>decide (b<W.heap.size)) (held:=true) 0 Tryz.underlying59 Tryz.underlying3 u (Nat.zero_le _) q n A (fun i hi=>za5 hb (e i hi)) r;simpa [Value.cells] using this
theorem zsw(H:Type)(enc:TypeId × Value→H)(W:World)(base:Nat)(args:Array Value)(ds gs:List (DataW H))(before:List MemPlace)
  (hval:∀(j:Nat) t v,Tryz.f8.params[j]?=some t→args[j]?=some v→Value.okWide Tryz.prog W .any base t v)
  (hW:DataW.Whole enc Tryz.prog Tryz.f8.params.toList Rows.countedSpec.vars false W args.toList ds gs before) (hL:laidMetH Tryz.prog Rows.countedRow.laid W) (hsh:W.ShapedOpen Tryz.prog) :
  Calls Tryz.prog 8 args W fun e W'=>∃ v,e=.returned v∧Rows.countedSpec.post enc Tryz.prog Tryz.f8 false true false false W args v W':=by
 have d:=hW;obtain⟨p,q,c,s,rfl,hfz,hnd⟩:=hW;have n:DataW.TrodAll enc Tryz.prog W 0 (fun _=>true) true Tryz.f8.params.toList args.toList ds p:=c;rw [Tryz.params8] at n hval;obtain⟨x,y,d0,d1,u,w,rfl,rfl,rfl,o,r⟩:=trodAll_two n;obtain⟨rfl,rfl⟩:=trodVars_none s;obtain⟨co,ccap,code,rfl,k,_,f,g,a⟩:=zoX (hval 0 59 x rfl rfl) o;obtain⟨ao,icap,inp,rfl,l,_,i,m,b⟩:=zoB (hval 1 29 y rfl rfl) r;clear c;simp only [List.append_nil] at d;refine(zv7 W (zod hL hsh) k g f l m i).mono fun e W' ⟨he,hb⟩=>?_;subst he;refine⟨_,rfl,_,_,_,[],u++w,[],d,?_,?_,?_,hb.frame _,fun h=>by cases h⟩
 ·exact trodAll_mk1 (shut_bool Tryz.underlying4 _)
 ·exact trodAll_mk2 (a W' hb) (b W' hb)
 ·rfl
theorem zls(os:Os){H:Type}(enc:TypeId × Value→H):
  (OpenSpec.ofChange Rows.countedSpec).preRow enc Tryz.prog Tryz.f8 Rows.countedRow.domain false Rows.countedRow.laid ((laidWorld os).forCall (fun _ _=>0) ⟨#[],#[.slice none 0 0,.slice none 0 0],[]⟩).memory #[.slice none 0 0,.slice none 0 0] :=
 OpenSpec.preRow_of_B rfl 8 (by kernel_rfl) (by kernel_rfl) (zxp os _)
theorem zxP(os:Os)(started:os.Started)(H:Type)(enc:TypeId × Value→H)(F:Stop.Interp):
  ReturnsInHanded {} Tryz.checked os 8 .any ((OpenSpec.ofChange Rows.countedSpec).preRow enc Tryz.prog Tryz.f8 Rows.countedRow.domain false Rows.countedRow.laid) (((OpenSpec.ofChange Rows.countedSpec).at F).post enc Tryz.prog Tryz.f8 false true false false):=by
 refine returnsInHanded_of_row (C:=Tryz.checked) (s:=OpenSpec.ofChange Rows.countedSpec) Tryz.own started (by kernel_rfl) Tryz.func8
  (witness_row_atRef (enc:=enc) (C:=Tryz.checked) false (laidWorld os) #[.slice none 0 0,.slice none 0 0] rfl (by kernel_rfl) (by kernel_rfl) (by kernel_rfl) (zls os enc)) ?_
 intro W c b e f a d h x1 x2 x3 g i x5;exact zsw H enc W c b e f a d h g i
theorem zzB:(Rows.countedRow.inPlace == Tryz.pinned.checked.prog.inPlace 8)=true:=by kernel_rfl
theorem zzC:(Rows.countedRow.unfollowed == Tryz.pinned.checked.prog.unfollowed 8)=true:=by kernel_rfl
theorem zzD:(Rows.countedRow.recurses == Tryz.pinned.checked.prog.recurses 8)=true:=by kernel_rfl
theorem zzE:(Rows.countedRow.named == Tryz.pinned.checked.prog.varsNamed 8)=true:=by kernel_rfl
theorem zzF:joinedFacts Tryz.pinned.checked.prog 8 Tryz.f8 (OpenSpec.ofChange Rows.countedSpec).bare Rows.countedRow=true:=by
 unfold joinedFacts;rw [zzB,zzC,zzD,zzE];kernel_rfl
theorem zA5:Rows.CountedSaid :=
 OpenClaim.holds_of_cond 8 Tryz.f8 rfl rfl rfl rfl rfl rfl rfl ⟨rfl,rfl,rfl,rfl,rfl⟩ rfl rfl rfl rfl rfl (by kernel_rfl) Tryz.func8 zzF
  (of_decide_eq_true (by kernel_rfl)) (by unfold Func.isWrapper;first|(rw [if_pos (by decide +kernel)];kernel_rfl)|(rw [if_neg (by decide +kernel)];exact⟨rfl,rfl⟩))
  (fun os started H enc _ F=>by rw [OpenClaim.pre_eq_preRow];exact zxP os started H enc F)
theorem zzG (f:FuncId) (fn:Func) (hf:Tryz.pinned.checked.prog.funcNamed "bounded/boundedkeep.Counted" = some f) (hfn:Tryz.pinned.checked.prog.funcs[f]?=some fn) :
  true=Tryz.pinned.checked.prog.looks []∧∀(j:Nat) t,fn.params[j]?=some t→Tryz.pinned.checked.prog.wantsStandIn t=false:=by
 obtain rfl:f=8:=Option.some.inj ((show Tryz.prog.funcNamed "bounded/boundedkeep.Counted" = some 8 by kernel_rfl).symm.trans hf) |>.symm
 obtain rfl:fn=Tryz.f8:=(Option.some.inj (Tryz.func8.symm.trans hfn)).symm;refine⟨by kernel_rfl,fun j t ht=>?_⟩;rw [Tryz.params8] at ht;have a:t=59∨t=29:=by simpa using Array.mem_of_getElem? ht
 rcases a with rfl|rfl
 ·exact(show Tryz.prog.wantsStandIn 59=false by kernel_rfl)
 ·exact(show Tryz.prog.wantsStandIn 29=false by kernel_rfl)
theorem ctcard:Rows.CountedCardSaid :=
 Claim7.holds_tied_plain_at .later [] _ _ _ _ zA5 (fun _ h=>by cases h) (by kernel_rfl) (fun _ h=>by cases h) counted_row_tie rfl ⟨rfl,rfl⟩ (by kernel_rfl) rfl zzG (by kernel_rfl)
end
end Go.Proofs.YtfpgjkbjbbgciaaGreatDoor
