import Derived.Test.YtfpgjkbjbbgciaaGreatDoorMj49
import Derived.Test.YtfpgjkbjbbgciaaGreatDoorMj51
set_option maxRecDepth 100000
set_option maxHeartbeats 8000000
namespace Go.Proofs.YtfpgjkbjbbgciaaGreatDoor
open Go.RowKit Sp
abbrev RnW(w:World)(s:ByteArray)(iv:Value):World:=((w.alloc (.cells #[.string s] 9)).alloc (.cells #[iv] 29)).alloc Z34
theorem zpD(w:World)(s:ByteArray)(iv:Value):(RnW w s iv).heap.size=w.heap.size+1+1+1:=by simp
theorem zjd(w:World)(s:ByteArray)(iv:Value):qB w (RnW w s iv):=(((Below.refl _ _).alloc (Nat.le_refl _) _).alloc (by simp) _).alloc (by simp;omega) _
theorem zuY(w:World)(s:ByteArray)(iv:Value):RnIn (RnW w s iv) w.heap.size (w.heap.size+1) (w.heap.size+1+1) s iv:=by
 have c:Below (w.alloc (.cells #[.string s] 9)).heap.size (w.alloc (.cells #[.string s] 9)) (RnW w s iv):=((Below.refl _ _).alloc (Nat.le_refl _) _).alloc (by simp) _;have d:Below ((w.alloc (.cells #[.string s] 9)).alloc (.cells #[iv] 29)).heap.size ((w.alloc (.cells #[.string s] 9)).alloc (.cells #[iv] 29)) (RnW w s iv):=(Below.refl _ _).alloc (Nat.le_refl _) _;have b:=World.cell?_alloc_new (w:=w) #[.string s] 9 0;have a:=World.cell?_alloc_new (w:=w.alloc (.cells #[.string s] 9)) #[iv] 29 0;rw [show(w.alloc (.cells #[.string s] 9)).heap.size=w.heap.size+1 by simp] at a;refine⟨zap c b,zap d a,?_,by omega⟩;have:=zb8 ((w.alloc (.cells #[.string s] 9)).alloc (.cells #[iv] 29));rwa [show((w.alloc (.cells #[.string s] 9)).alloc (.cells #[iv] 29)).heap.size=w.heap.size+1+1 by simp] at this
theorem zxn(w:World)(s:ByteArray)(iv:Value):(RnW w s iv).rangeAt (w.heap.size+1+1) 0 (zan zbq (.slice none 0 0) 0):=by
 rw [zqH];have:=zee ((w.alloc (.cells #[.string s] 9)).alloc (.cells #[iv] 29)) [.int .i64 0,.int .i64 0,.int .i64 0,.int .i64 0,.int .i64 0,.int .i64 0,.int .i64 0,.int .i64 0,.int .i64 0,.int .i64 0,.int .i64 0,.int .i64 0,.int .i64 0,.int .i64 0,.int .i64 0,.int .i64 0,.int .i64 0,.int .i64 0,.int .i64 0,.int .i64 0,.int .i64 0,.int .i64 0,.int .i64 0,.int .i64 0,.int .i64 0,.slice none 0 0,.int .i64 0,.int .i64 0,.int .i64 0,.int .i64 0] 34;rwa [show((w.alloc (.cells #[.string s] 9)).alloc (.cells #[iv] 29)).heap.size=w.heap.size+1+1 by simp] at this
theorem RnIn.below{w w':World}{pt pi pr:Nat}{s:ByteArray}{iv:Value}(T:RnIn w pt pi pr s iv)(hb:qB w w'):RnIn w' pt pi pr s iv:=by
 obtain⟨b,e,a,d⟩:=T;refine⟨zap hb b,zap hb e,zam a hb ?_,d⟩;obtain⟨u,c⟩:=Option.isSome_iff_exists.1 (a 0 (by omega)).1;exact World.block_lt_of_cell? w _ c
theorem zg1(w:World)(s:ByteArray)(ao:Option Addr)(m icap:Nat)(er ln:Int)
  (hcall:qC 57 (zpC w.heap.size (w.heap.size+1) (w.heap.size+1+1)) (OutW (RnW w s (.slice ao m icap))) fun e w'=>e=zak er ln∧Below (OutW (RnW w s (.slice ao m icap))).heap.size (OutW (RnW w s (.slice ao m icap))) w') :
  qC 25 #[.string s,.slice ao m icap] w (zaT w ⟨zbq,0,er,ln⟩):=by
 have hmf:∀(fn:Go.Fn) (first cap:Array Value) (w:World),(Instr.makeFunc fn first cap).run Tryz.prog w=.ok (.func fn first cap) w:=fun _ _ _ _=>rfl;have a:=zd8 57 _ (RnW w s (.slice ao m icap)) er ln (fun W=>by kernel_rfl) hcall;have p:=zxn w s (.slice ao m icap);have hsz:=zpD w s (.slice ao m icap);have f:=zjd w s (.slice ao m icap);have i:=(zuY w s (.slice ao m icap)).state;go_enter Tryz.func25,Tryz.ntmps25;go_wp2_with(first|(go_at_call 42;refine a.mono ?_;rintro e o ⟨rfl,b⟩;refine Hid.out ?_))
 unfold Hid;have n:=zcG p b (by rw [hsz];omega);have g:=zam i b (by rw [hsz];omega);have c:qB w o:=f.trans (b.mono f.size);have q:=zas zbq (.slice none 0 0) 0;have l:=zaz zbq none 0 0 0;generalize j:zan zbq (.slice none 0 0) 0=ds at n q l;have r:=zbd ds q;have h:(Tryz.prog.info? 34).map (·.size)=some ds.length:=by rw [q];exact Tryz.info34
 have d:Tryz.prog.underlying 34=some (.struct _):=Tryz.underlying34;have k:o.there (w.heap.size+1+1) 0 ds.toArray.size:=by rw [show ds.toArray.size=30 by simp [q]];exact g
 clear p a;repeat(first
  | (refine wpList_load_mid rfl 34 _ rfl (w.heap.size+1+1) 0 rfl ds _ n d rfl h ?_)
  | (refine wpList_store_mid rfl 34 _ _ rfl (w.heap.size+1+1) 0 ds.toArray rfl rfl k r l ?_)
  | go_values|go_skip|go_guarded|go_step|go_upon|go_back)
 exact zgo (T:=⟨zbq,0,er,ln⟩) (w.heap.size+1+1) (by omega) Tryz.results25 ds j k c (World.ownsRow_nil _ _ _ _) (by simp [Value.ownBlock]) rfl rfl rfl rfl
theorem zxo(w:World)(s:ByteArray)(ao:Option Addr)(m icap:Nat)(FIN:Mc)
  (hcall:qC 57 (zpC w.heap.size (w.heap.size+1) (w.heap.size+1+1)) (OutW (RnW w s (.slice ao m icap))) fun e w'=>e=.returned (.tuple #[])∧zmn (OutW (RnW w s (.slice ao m icap))) (w.heap.size+1+1) FIN FIN.line w') :
  qC 25 #[.string s,.slice ao m icap] w (zaT w ⟨FIN,FIN.line,0,0⟩):=by
 have hmf:∀(fn:Go.Fn) (first cap:Array Value) (w:World),(Instr.makeFunc fn first cap).run Tryz.prog w=.ok (.func fn first cap) w:=fun _ _ _ _=>rfl;have hsz:=zpD w s (.slice ao m icap);have l:=zf2 57 _ (RnW w s (.slice ao m icap)) _ (fun W=>by kernel_rfl) hcall (fun M h=>zjS (by rw [hsz];omega) h);have x:=zjd w s (.slice ao m icap);have G:=(zuY w s (.slice ao m icap)).state;have B:=zd6 (RnW w s (.slice ao m icap));have hso:(OutW (RnW w s (.slice ao m icap))).heap.size=w.heap.size+1+1+1+1+1:=by simp
 go_enter Tryz.func25,Tryz.ntmps25;go_wp2_with(first|(go_at_call 42;refine l.mono ?_;rintro e D ⟨rfl,M,k,d⟩;have C:Hid _:=d;clear d;refine Hid.out ?_))
 have d:=C.out;clear C;unfold Hid;obtain⟨u,v,A,r,rfl,n,i⟩:=k;have J:=zas FIN (.slice v A r) FIN.line;have I:=zaz FIN v A r FIN.line;generalize H:zan FIN (.slice v A r) FIN.line=ds at d J I;have g:=zam (zam G B (by rw [hsz];omega)) n (by rw [hso];omega);have o:=World.rangeAt_setCells_same u (w.heap.size+1+1) 0 ds (by rw [J];exact g);have c:=World.there_setCells g (w.heap.size+1+1) 0 ds;have f:qB w (u.setCells (w.heap.size+1+1) 0 ds):=zal ds 0 (x.trans ((B.mono x.size).trans (n.mono (by rw [hso];omega)))) (by omega);have a:(u.setCells (w.heap.size+1+1) 0 ds).ownsRow (OutW (RnW w s (.slice ao m icap))).heap.size 2 1 (.slice v A r) FIN.out.length (i64s FIN.out):=zaj i (fun q k=>za6 ds u _ _ _ (by have:=(i.lt q k).1;omega));generalize u.setCells (w.heap.size+1+1) 0 ds=X at d o c f a;have E:∀ b,¬b=(RnW w s (.slice ao m icap)).heap.size→¬b=(RnW w s (.slice ao m icap)).heap.size+1→D.heap[b]?=X.heap[b]?:=fun b n0 n1=>by
  rw [d,Below.heap_setCell _ _ _ _ (by exact n1),Below.heap_setCell _ _ _ _ (by exact n0)]
 have L:=zi5 o (E _ (by omega) (by omega));have t:=zi6 c (E _ (by omega) (by omega));have y:qB w D:=by
  rw [d];exact(f.setCell (p:=⟨(RnW w s (.slice ao m icap)).heap.size,0,none⟩) (by show w.heap.size≤(RnW w s (.slice ao m icap)).heap.size;omega) _).setCell (p:=⟨(RnW w s (.slice ao m icap)).heap.size+1,0,none⟩) (by show w.heap.size≤(RnW w s (.slice ao m icap)).heap.size+1;omega) _
 have j:D.ownsRow (OutW (RnW w s (.slice ao m icap))).heap.size 2 1 (.slice v A r) FIN.out.length (i64s FIN.out):=zaj a (fun q k=>E q (by have:=(a.lt q k).1;omega) (by have:=(a.lt q k).1;omega));have N:=zbd ds J;have F:(Tryz.prog.info? 34).map (·.size)=some ds.length:=by rw [J];exact Tryz.info34
 have z:Tryz.prog.underlying 34=some (.struct _):=Tryz.underlying34;have K:D.there (w.heap.size+1+1) 0 ds.toArray.size:=by rw [show ds.toArray.size=30 by simp [J]];exact t
 clear l d E o c a f i n g;repeat(first
  | (refine wpList_load_mid rfl 34 _ rfl (w.heap.size+1+1) 0 rfl ds _ L z rfl F ?_)
  | (refine wpList_store_mid rfl 34 _ _ rfl (w.heap.size+1+1) 0 ds.toArray rfl rfl K N I ?_)
  | go_values|go_skip|go_guarded|go_step|go_upon|go_back)
 exact zgo (T:=⟨FIN,FIN.line,0,0⟩) (w.heap.size+1+1) (by omega) Tryz.results25 ds H K y (zbk j (by omega)) (fun q k=>by have:=(j.lt q k).1;omega) rfl rfl rfl rfl
def RunS(s:ByteArray)(inp:List Int)(T:Told):Prop:=(¬zaQ s=(0,0)∧T=⟨zbq,0,(zaQ s).1,(zaQ s).2⟩)∨(zaQ s=(0,0)∧VerdL ((lines s).map say) none∧T=⟨zbq,0,8,0⟩)∨(zaQ s=(0,0)∧∃ bs bf,VerdL ((lines s).map say) (some (bs,bf))∧T=⟨ranL ((lines s).map say) inp bs,(ranL ((lines s).map say) inp bs).line,0,0⟩)
theorem zmU(s:ByteArray)(w:World)(hw:LibW w)(hs:s.size≤9223372036854775807)(ao:Option Addr)(icap:Nat)(inp:List Int)(hiv:SlB w w.heap.size (.slice ao inp.length icap) inp)(hin:inp.length≤9223372036854775807):qC 25 #[.string s,.slice ao inp.length icap] w fun e w'=>∃ T,RunS s inp T∧zaT w T e w':=by
 have j:=zjd w s (.slice ao inp.length icap);have f:=zd6 (RnW w s (.slice ao inp.length icap));have d:qB w (OutW (RnW w s (.slice ao inp.length icap))):=j.trans (f.mono j.size);have i:=hw.below d;have n:=(zuY w s (.slice ao inp.length icap)).below f;by_cases c:zaQ s=(0,0)
 ·have k:=zuX _ i _ _ _ s ao icap inp n _ (zh9 s c) (hiv.mono d) hin;by_cases l:VerdL ((lines s).map say) none
  ·refine(zg1 w s ao inp.length icap 8 0 (k.mono ?_)).mono fun e w' h=>⟨_,.inr (.inl ⟨c,l,rfl⟩),h⟩
   rintro e w' (⟨rfl,_,hb⟩|⟨m,o,_,a,_⟩)
   ·exact⟨rfl,hb⟩
   ·have:=l.unique a;cases this
  ·by_cases g:∃ b,VerdL ((lines s).map say) (some b)
   ·obtain⟨⟨m,o⟩,g⟩:=g;refine(zxo w s ao inp.length icap (ranL ((lines s).map say) inp m) (k.mono ?_)).mono fun e w' h=>⟨_,.inr (.inr ⟨c,m,o,g,rfl⟩),h⟩
    rintro e w' (⟨_,a,_⟩|⟨bs2,bf2,rfl,a,hp⟩)
    ·exact absurd a l
    ·have:=g.unique a;cases this;exact⟨rfl,hp⟩
   ·exfalso;obtain⟨F,R⟩:=ze6 s c;obtain⟨v,a⟩:=zfN R;cases v with
    | none=>exact l a
    | some b=>exact g ⟨b,a⟩
 ·have k:=zxm _ i _ _ _ s _ n (zaQ s) c (zgm s hs);exact(zg1 w s ao inp.length icap _ _ k).mono fun e w' h=>⟨_,.inl ⟨c,rfl⟩,h⟩
def zmQ:ByteArray:=⟨#[102,117,110,99,32,102,10,98,97,99,107]⟩
def zkk:List Said:=(lines zmQ).map say
theorem zkl:zaQ zmQ=(0,0):=by kernel_rfl
theorem zrP:zkk.length=2:=by kernel_rfl
theorem zxf:(zkk[0]?).map (·.kind)=some 102:=by kernel_rfl
theorem zxg:(zkk[1]?).map zeH=some ⟨#[98,97,99,107]⟩:=by kernel_rfl
theorem zrQ:cnt zkk 1=0:=by kernel_rfl
theorem zrR{F:List FnM}(R:Right zkk F):∃ ln,zaw F=[(.back,ln)]:=by
 have g:∀ p (hp:p<(zaw F).length),p=0∧(zaw F)[p].1=.back:=fun p hp=>by
  rw [zeg] at hp;obtain⟨k,f,m,d,o,s,rfl⟩:=zkF F p hp;have r:=zgn F 0 F k f o m d s;rw [Nat.zero_add] at r;have w:(zaw F)[lenF (F.take k)+m]?=some (insM F k d,d.line):=r;obtain⟨j,t,h5,i,hc,_⟩:=R.it_at o s;have l:j=1:=by
   have v:=zrP;have h0:¬j=0:=fun e=>by
    subst e;have:=zxf;rw [List.getElem?_eq_getElem t] at this;simp only [Option.map_some,Option.some.injEq] at this;omega
   omega
  subst l;have hw:d.word=zeH zkk[1]:=congrArg Key.word i;have u:=zxg;rw [List.getElem?_eq_getElem t,Option.map_some,Option.some.injEq] at u;refine⟨by rw [hc];exact zrQ,?_⟩;rw [(List.getElem?_eq_some_iff.1 w).2];show insX d.word d.a d.b d.c d.n _ _=.back;rw [hw,u];exact zi1 _ _ _ _ _ _
 have x:=R.codeOk.some_;have v:(zaw F).length=1:=by
  by_cases h:1<(zaw F).length
  ·have:=(g 1 h).1;omega
  ·omega
 obtain⟨q,hq⟩:=List.length_eq_one_iff.1 v;have:=(g 0 x).2;simp only [hq] at this;refine⟨q.2,?_⟩;rw [hq];have e:q.1=.back:=by simpa using this
 rw [←e]
theorem zrS{ln:Int}:Verd [(.back,ln)] (some (1,1)):=by
 have a:TakeD [kn0] kn0 []:=⟨.one (List.Perm.refl _) (fun y hy=>by cases hy),fun y hy=>by cases hy⟩
 refine⟨⟨[],1,rsk0.see kn0,1,1⟩,.step .zero ⟨kn0,[],[],0,by simp,by show 0<500000;omega,by show 1≤1000;omega,a,by show ¬(0:Int)=100000;omega,?_,rfl,rfl,List.Perm.refl _,rfl,rfl,rfl⟩,rfl,rfl,rfl⟩;show rsk0.endless kn0=some (rsk0.see kn0);exact if_pos rfl
theorem zov:VerdL ((lines zmQ).map say) (some (1,1)):=by
 obtain⟨F,R⟩:=ze6 zmQ zkl;obtain⟨ln,e⟩:=zrR R;exact⟨F,R,by rw [e];exact zrS⟩
theorem zkX(w:World)(hw:LibW w):qC 22 #[] w (qR w (.bool true)):=by
 have c:=zfO w hw (s:=zmQ) (by show 11≤1048576;omega) zkl zov (by omega) (by omega) (by omega) (by omega);have b:qC 23 #[.string ⟨#[102,117,110,99,32,102,10,98,97,99,107]⟩] w fun e w'=>∃ v,e=.returned (.tuple #[.agg #[.int .i64 1,.int .i64 1],v,.bool true,.bool true])∧qB w w':=c.mono fun e w' ⟨v,h1,h2,_⟩=>⟨v,h1,h2⟩
 clear c;go_enter Tryz.func22,Tryz.ntmps22;go_wp2_with(go_at_call 23;(with_reducible refine b.mono ?_);rintro e w1 ⟨v,rfl,a⟩)
 go_ret;exact⟨rfl,a.alloc a.size _⟩
theorem VerdL.ends{L:List Said}{bs bf:Int}(h:VerdL L (some (bs,bf)))(inp:List Int)(hin:∀ x∈inp,i64 x)(N:Nat)(hN:bs≤(N:Int)):
  ((runS (zbz L) N (zc3 L inp)).fin=1∨(runS (zbz L) N (zc3 L inp)).fin=2)∧(runS (zbz L) N (zc3 L inp)).steps≤bs∧(runS (zbz L) N (zc3 L inp)).peak≤bf:=by
 obtain⟨F,R,a⟩:=h;have e:=(znM R.sim R.codeOk N (zef R.codeOk inp)).1;rw [←R.begin inp] at e;rw [e];exact a.ends R.sure inp hin N hN
theorem VerdL.bound{L:List Said}{bs bf:Int}(h:VerdL L (some (bs,bf))):1≤bs∧bs≤100000∧1≤bf∧bf≤16:=by
 obtain⟨F,R,a⟩:=h;exact a.bound R.sure
theorem zuR(m:Mc)(ov:Value)(line:Int):(zan m ov line)[27]?=some (.int .i64 m.peak):=by simp [zan]
theorem zrT(m:Mc)(ov:Value)(line:Int):(zan m ov line)[29]?=some (.int .i64 m.fin):=by simp [zan]
theorem zmR{s:ByteArray}(w:World)(hw:LibW w)(iv:Value)(hv:∀ W,LibW W→qC 23 #[.string s] W (zmP W 0 0 none false ((lines s).map say))):qC 5 #[.string s,iv] w (qR w (.bool true)):=by
 have g:=zkX w hw;go_enter Tryz.func5,Tryz.ntmps5;go_wp2_with(first
  | (go_at_call 22;(with_reducible refine g.mono ?_);rintro e f ⟨rfl,a⟩;have c:=hv f (hw.below a))
  | (go_at_call 23;(with_reducible refine c.mono ?_);rintro e w2 ⟨v,rfl,b,_⟩))
 go_ret;have d:=a.trans (b.mono a.size);exact⟨rfl,d.alloc d.size _⟩
theorem zxh{s:ByteArray}{bs bf:Int}(w:World)(hw:LibW w)(ao:Option Addr)(icap:Nat)(inp:List Int)(hs:s.size≤1048576)(hiv:SlB w w.heap.size (.slice ao inp.length icap) inp)(hin:inp.length≤1048576)(h64:∀ x∈inp,i64 x)(hR:zaQ s=(0,0))(hv:VerdL ((lines s).map say) (some (bs,bf))):
  qC 5 #[.string s,.slice ao inp.length icap] w (qR w (.bool true)):=by
 have R:=zkX w hw;obtain⟨U,Z,V,Y⟩:=hv.bound;obtain⟨n,rfl⟩:=Int.eq_ofNat_of_zero_le (show 0≤bs by omega);have f:=fun W (hW:LibW W)=>zfO (s:=s) W hW hs hR hv U Z V Y;obtain⟨M,_,T⟩:=hv.ends inp h64 n (Int.le_refl _);have G:=ziu s hR;have h:=fun(W:World) (g cap2:Nat) (hL:LinesIn W g ((lines s).map say)) (hb:qB w W)=>zgH W g cap2 n icap ao ((lines s).map say) inp G hL (hiv.mono hb) hin (by omega);generalize runS (zbz ((lines s).map say)) n (zc3 ((lines s).map say) inp)=FIN at M T h;generalize (lines s).map say=L at f h;clear hv G hR hiv;go_enter Tryz.func5,Tryz.ntmps5;go_wp2_with(first
  | (go_at_call 22;(with_reducible refine R.mono ?_);rintro e X ⟨rfl,k⟩;have H:=f X (hw.below k))
  | (go_at_call 23;(with_reducible refine H.mono ?_);rintro e c ⟨v,rfl,I,K⟩;obtain⟨g,A,rfl,B,hg⟩:=K rfl;have d:qB w c:=k.trans (I.mono k.size);have i:qB c (c.alloc (.cells #[.int .i64 (n:Int),.int .i64 bf] 42)):=(Below.refl _ _).alloc (Nat.le_refl _) _;have J:=h _ g A (B.below i) (d.trans (i.mono d.size)))
  | (go_at_call 24;refine Hid.out ?_))
 unfold Hid;have Q:(c.alloc (.cells #[.int .i64 (n:Int),.int .i64 bf] 42)).cell? ⟨c.heap.size,1,none⟩=some (.int .i64 bf):=World.cell?_alloc_new (w:=c) #[.int .i64 (n:Int),.int .i64 bf] 42 1;have hs2:(c.alloc (.cells #[.int .i64 (n:Int),.int .i64 bf] 42)).heap.size=c.heap.size+1:=by simp
 have q:qB w (c.alloc (.cells #[.int .i64 (n:Int),.int .i64 bf] 42)):=d.trans (i.mono d.size);refine J.mono ?_;rintro e b ⟨C,F,z,rfl,_,j⟩;dsimp only;have D:b.cell? ⟨c.heap.size,1,none⟩=some (.int .i64 bf):=(World.cell?_of_block (a:=⟨c.heap.size,1,none⟩) (j.block _ (by show c.heap.size<_;rw [hs2];omega))).trans Q;have m:qB w b:=q.trans (j.mono q.size);have O:c.heap.size<b.heap.size:=Nat.lt_of_lt_of_le (by rw [hs2];omega) j.size;have u:=zas FIN (.slice C F z) FIN.line;have N:=zaz FIN C F z FIN.line;have r:=zuR FIN (.slice C F z) FIN.line;have t:=zrT FIN (.slice C F z) FIN.line;generalize zan FIN (.slice C F z) FIN.line=ds at u N r t;have S:=zbd ds u;have l:=zbS (W1:=b) rfl ds u;have o:qB b ((b.alloc Z34).setCells b.heap.size 0 ds.toArray.toList):=zal _ 0 ((Below.refl b.heap.size b).alloc (Nat.le_refl _) _) (Nat.le_refl _);have p:((b.alloc Z34).setCells b.heap.size 0 ds.toArray.toList).rangeAt b.heap.size 0 ds:=by rw [show ds.toArray.toList=ds by simp];exact World.rangeAt_setCells_same _ _ _ _ (by rw [show ds.length=ds.toArray.size by simp];exact l)
 have P:=p 27 _ r;have y:=p 29 _ t;rw [Nat.zero_add] at P y;have q65:((b.alloc Z34).setCells b.heap.size 0 ds.toArray.toList).cell? ⟨c.heap.size,1,none⟩=some (.int .i64 bf):=(World.cell?_of_block (a:=⟨c.heap.size,1,none⟩) (o.block _ O)).trans D;have E:qB w ((b.alloc Z34).setCells b.heap.size 0 ds.toArray.toList):=m.trans (o.mono m.size);clear p r t D Q J H h f R q m o j k I d i B;have hpk:decide (FIN.peak≤bf)=true:=by simpa using T
 rcases M with M|M
 ·rw [M] at y;go_wp2_with(first|(refine wpList_store_mid rfl 34 _ _ rfl b.heap.size 0 ds.toArray rfl rfl l S N ?_))
  go_ret;exact⟨rfl,E⟩
 ·rw [M] at y;go_wp2_with(first|(refine wpList_store_mid rfl 34 _ _ rfl b.heap.size 0 ds.toArray rfl rfl l S N ?_))
  go_ret;exact⟨rfl,E⟩
theorem zxi(s:ByteArray)(w:World)(hw:LibW w)(ao:Option Addr)(icap:Nat)(inp:List Int)(hs:s.size≤1048576)(hiv:SlB w w.heap.size (.slice ao inp.length icap) inp)(hin:inp.length≤1048576)(h64:∀ x∈inp,i64 x):
  qC 5 #[.string s,.slice ao inp.length icap] w (qR w (.bool true)):=by
 obtain⟨bs,bf,er,ln,h|h|h⟩:=zkj s
 ·exact zmR w hw _ (fun W hW=>zhu W hW hs h.1)
 ·exact zmR w hw _ (fun W hW=>zjc W hW hs h.1 h.2.1)
 ·exact zxh w hw ao icap inp hs hiv hin h64 h.1 h.2.1
theorem RunS.out{s:ByteArray}{inp:List Int}{T:Told}{er ln:Int}(h:RunS s inp T)(hv:(¬zaQ s=(0,0)∧zaQ s=(er,ln))∨(zaQ s=(0,0)∧VerdL ((lines s).map say) none∧er=8∧ln=0)):T=⟨zbq,0,er,ln⟩:=by
 rcases h with ⟨n,rfl⟩|⟨r,v,rfl⟩|⟨r,bs,bf,v,rfl⟩ <;> rcases hv with ⟨a,e⟩|⟨d,b,e1,c⟩
 ·rw [e]
 ·exact absurd d n
 ·exact absurd r a
 ·rw [e1,c]
 ·exact absurd r a
 ·have:=v.unique b;cases this
theorem RunS.inn{s:ByteArray}{inp:List Int}{T:Told}{bs bf:Int}(h:RunS s inp T)(hR:zaQ s=(0,0))(hv:VerdL ((lines s).map say) (some (bs,bf))):T=⟨ranL ((lines s).map say) inp bs,(ranL ((lines s).map say) inp bs).line,0,0⟩:=by
 rcases h with ⟨n,rfl⟩|⟨r,v,rfl⟩|⟨r,bs',bf',v,rfl⟩
 ·exact absurd hR n
 ·have:=v.unique hv;cases this
 ·have:=v.unique hv;cases this;rfl
theorem zpE(L:List Said)(inp:List Int)(bs:Int)(h:bs≤100000):(ranL L inp bs).out.length≤1048577:=by
 have:=zpr L bs.toNat (zc3 L inp);have e:(zc3 L inp).out.length=0:=rfl;show(runS _ _ _).out.length≤_;omega
theorem rlaw(s:ByteArray)(w:World)(hw:LibW w)(ao:Option Addr)(icap:Nat)(inp:List Int)(hiv:SlB w w.heap.size (.slice ao inp.length icap) inp)(hin:inp.length≤1048576)(T:Told)(hout:T.m.out.length≤1048577)(bs bf:Int)(v0:Option Nat)(inB:Bool)(L:List Said)
  (hver:∀ W,LibW W→qC 23 #[.string s] W (zmP W bs bf v0 inB L))
  (hrun:∀ W ao icap,LibW W→SlB W W.heap.size (.slice ao inp.length icap) inp→qC 25 #[.string s,.slice ao inp.length icap] W (zaT W T))
  (hvf:∀ W,LibW W→qC 26 #[.string s] W (zmO W bs bf T.err T.line))
  (hcase:(inB=false∧T.m=zbq∧T.at_=0)∨(inB=true∧v0=some 0∧T.at_=T.m.line∧∀ W g cap,LinesIn W g L→SlB W W.heap.size (.slice ao inp.length icap) inp→qC 24 #[.slice (some ⟨g,0,none⟩) L.length cap,.slice ao inp.length icap,.int .i64 bs] W (zgG W T.m))) :
  qC 6 #[.string s,.slice ao inp.length icap] w (qR w (.bool true)):=by
 have ar:=hver w hw;go_enter Tryz.func6,Tryz.ntmps6;go_wp2_with(first
  | (go_at_call 23;(with_reducible refine ar.mono ?_);rintro e M ⟨v,rfl,ad,aH⟩;have G:qB M (M.alloc (.cells #[.int .i64 bs,.int .i64 bf] 42)):=(Below.refl _ _).alloc (Nat.le_refl _) _;have F:=ad.trans (G.mono ad.size);have X:=zdz _ _ inp (hiv.slN.below F) hin)
  | (go_at_call 17;refine Hid.out ?_))
 unfold Hid;have c1:(M.alloc (.cells #[.int .i64 bs,.int .i64 bf] 42)).cell? ⟨M.heap.size,0,none⟩=some (.int .i64 bs):=World.cell?_alloc_new (w:=M) #[.int .i64 bs,.int .i64 bf] 42 0;have aL:(M.alloc (.cells #[.int .i64 bs,.int .i64 bf] 42)).heap.size=M.heap.size+1:=by simp
 generalize aA:M.alloc (.cells #[.int .i64 bs,.int .i64 bf] 42)=W1 at G F X c1 aL;clear aA;refine X.mono ?_;rintro e w2 ⟨u,rfl,b,H⟩;dsimp only;obtain⟨g,cap,rfl,hg,aM,ag⟩:=zgR b (by omega);have hcap2:inp.length≤cap:=by omega
 have P:=F.trans (H.mono F.size);have ac:=hrun w2 _ cap (hw.below P) (zgQ b aM ag);go_wp2_with(first
  | (go_at_call 25;refine ac.mono ?_;rintro e d ⟨oo,no,co,rfl,B,E⟩;dsimp only;refine Hid.out ?_))
 unfold Hid;have Q:=zas T.m (.slice oo no co) T.at_;have an:=zaz T.m oo no co T.at_;have aC:=SlN.of_row (_n:=0) B;generalize hds:zan T.m (.slice oo no co) T.at_=ds at Q an;have aj:=zbd ds Q;have O:(Tryz.prog.info? 34).map (·.size)=some ds.length:=by rw [Q];exact Tryz.info34
 have S:=zbS (W1:=d) rfl ds Q;have r:qB d ((d.alloc Z34).setCells d.heap.size 0 ds.toArray.toList):=zal _ 0 ((Below.refl d.heap.size d).alloc (Nat.le_refl _) _) (Nat.le_refl _);have ax:((d.alloc Z34).setCells d.heap.size 0 ds.toArray.toList).rangeAt d.heap.size 0 ds:=by rw [show ds.toArray.toList=ds by simp];exact World.rangeAt_setCells_same _ _ _ _ (by rw [show ds.length=ds.toArray.size by simp];exact S)
 have aG:((d.alloc Z34).setCells d.heap.size 0 ds.toArray.toList).heap.size=d.heap.size+1:=by rw [zd0];simp
 have ah:=P.trans (E.mono P.size);have p:=ah.trans (r.mono ah.size);have j:=zdz _ _ inp (hiv.slN.below p) hin;have R:=((SlN.of_row (_n:=0) (by simpa using b):SlN w2 (.slice (some ⟨g,0,none⟩) (inp.length+1) cap) (inp++[-77])).below E).below r;have ai:=aC.below r;have V:=H.trans ((E.mono H.size).trans (r.mono (Nat.le_trans H.size E.size)));generalize hw4:(d.alloc Z34).setCells d.heap.size 0 ds.toArray.toList=w4 at r ax aG p j R ai V;clear X b ac ar;repeat(first
  | (refine wpList_store_mid rfl 34 _ _ rfl d.heap.size 0 ds.toArray rfl rfl S aj an ?_;rw [hw4])
  | (go_at_call 17;refine j.mono ?_;rintro e w5 ⟨u2,rfl,z,Z⟩;dsimp only)
  | (go_at_call 19;refine(zdK w5 _ _ (inp++[-77]) (R.below Z) (SlN.of_row (_n:=0) (by simpa using z)) (by simp;omega)).mono ?_;rintro e w6 ⟨rfl,k6,aJ⟩;dsimp only;refine Hid.out ?_)
  | go_values|go_skip|go_guarded|go_step|go_upon|go_back)
 unfold Hid;have ab:qB w5 w6:=by unfold qB;rw [aJ];exact zaF _ k6
 have n:qB w4 w6:=Z.trans (ab.mono Z.size);have c:qB w w6:=p.trans (n.mono p.size);have az:=V.trans (n.mono V.size);have I:=hvf w6 (hw.below c);clear aJ j R B S aj hrun hvf hver z;go_wp2_with(first
  | (go_at_call 26;refine I.mono ?_;rintro e w7 ⟨rfl,ak⟩)
  | (go_at_call 22;refine Hid.out ?_))
 unfold Hid;have K:qB w7 (w7.alloc (.cells #[.int .i64 bs,.int .i64 bf] 42)):=(Below.refl _ _).alloc (Nat.le_refl _) _;have o:=ak.trans (K.mono ak.size);have J:=c.trans (o.mono c.size);have l:=zkX _ (hw.below J);generalize aD:w7.alloc (.cells #[.int .i64 bs,.int .i64 bf] 42)=W7 at K o J l;clear aD;refine l.mono ?_;rintro e w8 ⟨rfl,aI⟩;dsimp only;have C:=o.trans (aI.mono o.size);have f:=c.trans (C.mono c.size);have t:=n.trans (C.mono n.size);have ae:=az.trans (C.mono az.size);have ay:=zcG ax t (by omega);have av:=ai.below t;have c8:=zap ae c1;have x:Tryz.prog.underlying 34=some (.struct _):=Tryz.underlying34;clear l I;rcases hcase with ⟨rfl,hz1,aF⟩|⟨rfl,aB,aO,au⟩
 ·go_wp2_with(first
   | (refine wpList_load_mid rfl 34 _ rfl d.heap.size 0 rfl ds _ ay x rfl O ?_)
   | (go_at_call 21;refine Hid.out ?_))
  unfold Hid;have i:=zgI w8 T.m oo none no 0 co 0 T.at_ av (by rw [hz1];exact⟨none,0,rfl,fun h=>absurd h (Nat.lt_irrefl 0)⟩) hout;rw [hds,show zan T.m (.slice none 0 0) T.at_=zan zbq (.slice none 0 0) 0 by rw [hz1,aF],zqH] at i;refine i.mono ?_;rintro e q ⟨rfl,D⟩;dsimp only;clear i;go_wp2;go_ret;exact⟨rfl,f.trans (D.mono f.size)⟩
 ·obtain⟨g1,am,rfl,aE,_⟩:=aH aB;have aa:=au w8 g1 am (aE.below (G.trans (ae.mono G.size))) (hiv.mono f);go_wp2_with(first
   | (go_at_call 24;refine Hid.out ?_))
  unfold Hid;refine aa.mono ?_;rintro e q ⟨o2,n2,c2,rfl,Y,D⟩;dsimp only;rw [←aO];have U:=zas T.m (.slice o2 n2 c2) T.at_;have aq:=zaz T.m o2 n2 c2 T.at_;have aN:=SlN.of_row (_n:=0) Y;generalize ap:zan T.m (.slice o2 n2 c2) T.at_=ds2 at U aq;have aK:=zbd ds2 U;have aw:(Tryz.prog.info? 34).map (·.size)=some ds2.length:=by rw [U];exact Tryz.info34
  have af:=zbS (W1:=q) rfl ds2 U;have y:qB q ((q.alloc Z34).setCells q.heap.size 0 ds2.toArray.toList):=zal _ 0 ((Below.refl q.heap.size q).alloc (Nat.le_refl _) _) (Nat.le_refl _);have A:((q.alloc Z34).setCells q.heap.size 0 ds2.toArray.toList).rangeAt q.heap.size 0 ds2:=by rw [show ds2.toArray.toList=ds2 by simp];exact World.rangeAt_setCells_same _ _ _ _ (by rw [show ds2.length=ds2.toArray.size by simp];exact af)
  have a:=D.trans (y.mono D.size);have N:=zcG ay a (by have:=t.size;omega);have i:=zgI _ T.m oo o2 no n2 co c2 T.at_ (av.below a) (aN.below y) hout;rw [hds,ap] at i;have k:=f.trans (a.mono f.size);generalize hw10:(q.alloc Z34).setCells q.heap.size 0 ds2.toArray.toList=w10 at y N A a i k;clear aa au;repeat(first
   | (refine wpList_store_mid rfl 34 _ _ rfl q.heap.size 0 ds2.toArray rfl rfl af aK aq ?_;rw [hw10])
   | (refine wpList_load_mid rfl 34 _ rfl d.heap.size 0 rfl ds _ N x rfl O ?_)
   | (refine wpList_load_mid rfl 34 _ rfl q.heap.size 0 rfl ds2 _ A x rfl aw ?_)
   | (go_at_call 21;refine i.mono ?_;rintro e w11 ⟨rfl,al⟩;dsimp only)
   | go_values|go_skip|go_guarded|go_step|go_upon|go_back)
  go_ret;exact⟨rfl,k.trans (al.mono k.size)⟩
theorem zxp(s:ByteArray)(w:World)(hw:LibW w)(ao:Option Addr)(icap:Nat)(inp:List Int)(hs:s.size≤1048576)(hiv:SlB w w.heap.size (.slice ao inp.length icap) inp)(hin:inp.length≤1048576):
  qC 6 #[.string s,.slice ao inp.length icap] w (qR w (.bool true)):=by
 obtain⟨j,q,r,u,d⟩:=zkj s;have i:=fun W (hW:LibW W)=>zfs d W hW (Nat.le_trans hs (by decide));have b:=fun W ao icap (hW:LibW W) (h:SlB W W.heap.size (.slice ao inp.length icap) inp)=>zmU s W hW (Nat.le_trans hs (by decide)) ao icap inp h (Nat.le_trans hin (by decide));rcases d with ⟨o,v,rfl,rfl⟩|⟨k,d,rfl,rfl,rfl,rfl⟩|⟨k,d,rfl,rfl⟩
 ·refine rlaw s w hw ao icap inp hiv hin ⟨zbq,0,r,u⟩ (by simp [zbq]) 0 0 none false ((lines s).map say) (fun W hW=>zhu W hW hs o) (fun W a c hW h=>(b W a c hW h).mono ?_) i (.inl ⟨rfl,rfl,rfl⟩);rintro e l ⟨T,m,f⟩;rw [m.out (.inl ⟨o,v⟩)] at f;exact f
 ·refine rlaw s w hw ao icap inp hiv hin ⟨zbq,0,8,0⟩ (by simp [zbq]) 0 0 none false ((lines s).map say) (fun W hW=>zjc W hW hs k d) (fun W a c hW h=>(b W a c hW h).mono ?_) i (.inl ⟨rfl,rfl,rfl⟩);rintro e l ⟨T,m,f⟩;rw [m.out (.inr ⟨k,d,rfl,rfl⟩)] at f;exact f
 ·obtain⟨x,n,p,t⟩:=d.bound;refine rlaw s w hw ao icap inp hiv hin ⟨ranL ((lines s).map say) inp j,(ranL ((lines s).map say) inp j).line,0,0⟩ (zpE _ _ _ n) j q (some 0) true ((lines s).map say) (fun W hW=>zfO W hW hs k d x n p t) (fun W a c hW h=>(b W a c hW h).mono ?_) i (.inr ⟨rfl,rfl,rfl,fun W g cap hL h=>?_⟩)
  ·rintro e l ⟨T,m,f⟩;rw [m.inn k d] at f;exact f
  ·have:=zgH W g cap j.toNat icap ao ((lines s).map say) inp (ziu s k) hL h hin (by omega);rwa [show((j.toNat:Nat):Int)=j by omega] at this
end Go.Proofs.YtfpgjkbjbbgciaaGreatDoor
