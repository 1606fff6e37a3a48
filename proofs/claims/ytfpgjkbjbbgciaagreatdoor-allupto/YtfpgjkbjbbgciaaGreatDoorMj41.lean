import Derived.Test.YtfpgjkbjbbgciaaGreatDoorMj37
import Derived.Test.YtfpgjkbjbbgciaaGreatDoorMj39
import Derived.Test.YtfpgjkbjbbgciaaGreatDoorMj40
set_option maxRecDepth 100000
set_option maxHeartbeats 8000000
namespace Go.Proofs.YtfpgjkbjbbgciaaGreatDoor
section
open Go.RowKit Sp
structure TrIn(w:World)(pt ps pi pr:Nat)(s:ByteArray)(iv:Value)(n:Int):Prop where
 text:w.cell? ⟨pt,0,none⟩=some (.string s)
 steps:w.cell? ⟨ps,0,none⟩=some (.int .i64 n)
 inp:w.cell? ⟨pi,0,none⟩=some iv
 state:w.there pr 0 30
 ne:¬ps=pr∧¬pi=pr
abbrev zmm(pt ps pi pr:Nat):Array Value:=#[.pointer (some ⟨pt,0,none⟩),.pointer (some ⟨ps,0,none⟩),.pointer (some ⟨pi,0,none⟩),.pointer (some ⟨pr,0,none⟩)]
theorem zw0(w:World)(hw:LibW w)(pt ps pi pr:Nat)(s:ByteArray)(iv:Value)(n:Int)(T:TrIn w pt ps pi pr s iv n)(R:Int × Int)(hR:¬R=(0,0))(h:zbT s R):
  qC 50 (zmm pt ps pi pr) w fun e w'=>e=zak R.1 R.2∧qB w w':=by
 have b:=(h w hw).mono (R':=fun e w'=>e=zak R.1 R.2∧qB w w') (by
  rintro e w' ⟨a,⟨h,_⟩|⟨_,h⟩⟩
  ·exact absurd h hR
  ·exact⟨h,a⟩)
 obtain⟨t1,t2,t3,t4,t5⟩:=T;go_enter Tryz.func50,Tryz.ntmps50;go_wp2_with(go_at_call 44;refine b.mono ?_;rintro e w1 ⟨rfl,a⟩)
 exact⟨rfl,rfl,a⟩
def zi3(s:ByteArray)(L:List Said):Prop:=∀ w,LibW w→qC 44 #[.string s] w fun e w'=>qB w w'∧∃ pm ao m cap F,e=.returned (.agg #[.slice ao m cap,.map (some pm)])∧PIn w.heap.size w' pm (.slice ao m cap) F∧Right L F∧F.length≤300∧(∀ f∈F,f.its.length≤300∧∀ i∈f.its,ItOk i)
theorem ztO(w:World)(hw:LibW w)(pt ps pi pr:Nat)(s:ByteArray)(iv:Value)(n:Int)(T:TrIn w pt ps pi pr s iv n)(L:List Said)(h:zi3 s L)(hn:n<0∨100000<n):
  qC 50 (zmm pt ps pi pr) w fun e w'=>e=zak 7 0∧qB w w':=by
 have k:=h w hw;have d:=fun W=>zqO n W hn;obtain⟨t1,i,t3,t4,t5⟩:=T;have b:ps<w.heap.size:=World.block_lt_of_cell? w _ i;clear hn;go_enter Tryz.func50,Tryz.ntmps50;go_wp2_with(first|(go_at_call 44;refine k.mono ?_;rintro e g ⟨c,pm,ao,m,cap,F,rfl,_⟩;have t2':=(c.cell (p:=⟨ps,0,none⟩) b).trans i;have a:ps<g.heap.size:=Nat.lt_of_lt_of_le b c.size;have hne1:¬ps=g.heap.size:=Nat.ne_of_lt a;have hne2:¬g.heap.size=ps:=Nat.ne_of_gt a)|(go_at_call 51;refine(d _).mono ?_;rintro e w2 ⟨rfl,f⟩;have j:=f.symm;subst j))
 exact⟨rfl,rfl,c.alloc c.size _⟩
theorem zjR{W W':World}{pb pi ps pr:Nat}{v0 v1 v2 v3:Value}(hb:qB W W')(h:W.cell? ⟨pb,0,none⟩=some v0∧W.cell? ⟨pb,1,none⟩=some v1∧W.cell? ⟨pi,0,none⟩=some v2∧W.cell? ⟨ps,0,none⟩=some v3∧W.there pr 0 30):
  W'.cell? ⟨pb,0,none⟩=some v0∧W'.cell? ⟨pb,1,none⟩=some v1∧W'.cell? ⟨pi,0,none⟩=some v2∧W'.cell? ⟨ps,0,none⟩=some v3∧W'.there pr 0 30:=by
 obtain⟨c,b,d,f,a⟩:=h;refine⟨zap hb c,zap hb b,zap hb d,zap hb f,zam a hb ?_⟩;obtain⟨u,e⟩:=Option.isSome_iff_exists.1 (a 0 (by omega)).1;exact World.block_lt_of_cell? W _ e
theorem zw1{W:World}{pb pi ps pr:Nat}{v0 v1 v2 v3:Value}(ds:List Value)(n0:¬pb=pr)(n1:¬pi=pr)(n2:¬ps=pr)(h:W.cell? ⟨pb,0,none⟩=some v0∧W.cell? ⟨pb,1,none⟩=some v1∧W.cell? ⟨pi,0,none⟩=some v2∧W.cell? ⟨ps,0,none⟩=some v3∧W.there pr 0 30):
  (W.setCells pr 0 ds).cell? ⟨pb,0,none⟩=some v0∧(W.setCells pr 0 ds).cell? ⟨pb,1,none⟩=some v1∧(W.setCells pr 0 ds).cell? ⟨pi,0,none⟩=some v2∧(W.setCells pr 0 ds).cell? ⟨ps,0,none⟩=some v3∧(W.setCells pr 0 ds).there pr 0 30:=by
 obtain⟨c,b,d,e,a⟩:=h;refine⟨?_,?_,?_,?_,World.there_setCells a _ _ _⟩
 ·rw [World.cell?_of_block (w:=W) (za6 ds W pr 0 pb n0)];exact c
 ·rw [World.cell?_of_block (w:=W) (za6 ds W pr 0 pb n0)];exact b
 ·rw [World.cell?_of_block (w:=W) (za6 ds W pr 0 pi n1)];exact d
 ·rw [World.cell?_of_block (w:=W) (za6 ds W pr 0 ps n2)];exact e
theorem ztP(ds:List Value)(w:World)(b:Nat)(ht:w.there b 0 ds.length)(h1:ds.toArray.all (·.oneCell')=true):(storeCells ⟨b,0,none⟩ ds).run Tryz.prog w=.ok () (w.setCells b 0 ds):=by
 have:=run_storeCells_cells (P:=Tryz.prog) b 0 ds 0 w (fun j hj=>by simpa using (ht j hj).1) (fun j hj=>by simpa using (ht j hj).2) (fun v hv=>(Array.all_eq_true_iff_forall_mem.1 h1) v (by simpa using hv));simpa using this
def zmn(w:World)(pr:Nat)(m:Mc)(line:Int)(w':World):Prop:=∃ w1 ao no co,w'=w1.setCells pr 0 (zan m (.slice ao no co) line)∧qB w w1∧w1.ownsRow w.heap.size 2 1 (.slice ao no co) m.out.length (i64s m.out)
theorem zw2(w:World)(hw:LibW w)(pt ps pi pr:Nat)(s:ByteArray)(ao:Option Addr)(icap n:Nat)(inp:List Int)(T:TrIn w pt ps pi pr s (.slice ao inp.length icap) (n:Int))(L:List Said)(h:zi3 s L)(hn:n≤100000)
  (hiv:SlB w w.heap.size (.slice ao inp.length icap) inp) (hin:inp.length≤9223372036854775807) (FIN:Mc) (hF:runS (zbz L) n (zc3 L inp)=FIN) :
  qC 50 (zmm pt ps pi pr) w fun e w'=>e=.returned (.tuple #[])∧zmn w pr FIN FIN.line w':=by
 have Z:=h w hw;have v:=fun W=>znG (n:Int) W (by omega) (by omega);obtain⟨t1,R,t3,t4,t5⟩:=T;have E:ps<w.heap.size:=World.block_lt_of_cell? w _ R;have hlti:pi<w.heap.size:=World.block_lt_of_cell? w _ t3;go_enter Tryz.func50,Tryz.ntmps50;go_wp2_with(first|(go_at_call 44;refine Z.mono ?_;rintro e b ⟨y,d,i,m,a,F,rfl,hP,t,Q,M⟩;have S:=(y.cell (p:=⟨ps,0,none⟩) E).trans R;have l:ps<b.heap.size:=Nat.lt_of_lt_of_le E y.size;have hne1:¬ps=b.heap.size:=Nat.ne_of_lt l;have hne2:¬b.heap.size=ps:=Nat.ne_of_gt l)|(go_at_call 51;refine(v _).mono ?_;rintro e w2 ⟨rfl,O⟩;have h2:=O.symm;subst h2))
 have c:qB w (b.alloc (.cells #[.slice i m a,.map (some d)] 83)):=y.alloc y.size _;have D:=hP.alloc (.cells #[.slice i m a,.map (some d)] 83);have H:(b.alloc (.cells #[.slice i m a,.map (some d)] 83)).heap.size=b.heap.size+1:=by simp
 have A:pr<w.heap.size:=by
  obtain⟨u,hu⟩:=Option.isSome_iff_exists.1 (t4 0 (by omega)).1;exact World.block_lt_of_cell? w _ hu
 have V:(b.alloc (.cells #[.slice i m a,.map (some d)] 83)).cell? ⟨b.heap.size,0,none⟩=some (.slice i m a)∧(b.alloc (.cells #[.slice i m a,.map (some d)] 83)).cell? ⟨b.heap.size,1,none⟩=some (.map (some d))∧(b.alloc (.cells #[.slice i m a,.map (some d)] 83)).cell? ⟨pi,0,none⟩=some (.slice ao inp.length icap)∧(b.alloc (.cells #[.slice i m a,.map (some d)] 83)).cell? ⟨ps,0,none⟩=some (.int .i64 (n:Int))∧(b.alloc (.cells #[.slice i m a,.map (some d)] 83)).there pr 0 30 :=
  ⟨World.cell?_alloc_new (w:=b) #[.slice i m a,.map (some d)] 83 0,World.cell?_alloc_new (w:=b) #[.slice i m a,.map (some d)] 83 1,zap c t3,zap c R,zam t4 c A⟩
 have X:¬b.heap.size=pr:=by have:=y.size;omega
 generalize b.alloc (.cells #[.slice i m a,.map (some d)] 83)=W1 at c D H V;have z:=hiv.mono c;have B:=znN t W1.drew w.heap.size d _ (D.below ((Below.refl _ _).drew)) Q M;obtain⟨f,k⟩:=znM t.sim t.codeOk n (zef t.codeOk inp);rw [←t.begin,hF] at f;generalize N:runS (zcF (zaw F)) n (zb0 inp)=FC at f k;have q:=zpd t.sim k;rw [←f] at q;have hout:FC.out=FIN.out:=by rw [f];rfl
 have hstl:∀ ov,zan FC ov (zgJ (zaw F) FC)=zan FIN ov FIN.line:=fun ov=>by rw [q,f];rfl
 have hu34:Tryz.prog.underlying 34=some (.struct _):=Tryz.underlying34;clear Z v S hP;go_region_held3 (fun W=>W.cell? ⟨b.heap.size,0,none⟩=some (.slice i m a)∧W.cell? ⟨b.heap.size,1,none⟩=some (.map (some d))∧W.cell? ⟨pi,0,none⟩=some (.slice ao inp.length icap)∧W.cell? ⟨ps,0,none⟩=some (.int .i64 (n:Int))∧W.there pr 0 30)
  (first
    | exact V
    | exact H5
    | exact U
    | exact H7)
  (first
    | (go_at_call 52;refine B.mono ?_;rintro e Y ⟨g,x,rfl,hg,P,hC,r⟩;have H5:=zjR r V)
    | (go_at_call 53;refine(zoS Y g x n icap ao (zaw F) inp t.codeOk hC P (SlB.mono (w:=W1.drew) z r) hin hn FC N).mono ?_;rintro e w6 ⟨J,K,I,rfl,o,C⟩;have U:=zjR C H5;rw [hstl];have hl:=zas FIN (.slice J K I) FIN.line;have h1:=zaz FIN J K I FIN.line;generalize hds:zan FIN (.slice J K I) FIN.line=ds at hl h1;have H7:=zw1 ds X t5.2 t5.1 U;have hi:(Tryz.prog.info? 34).map (·.size)=some ds.length:=(by rw [hl];exact Tryz.info34);have hsto:=ztP ds w6 pr (by rw [hl];exact U.2.2.2.2) h1)
    | (simp only [hsto];simp only [Oper.upon]))
 have j:qB w Y:=c.drew.trans (r.mono c.drew.size);have G:=j.trans (C.mono j.size);rw [hout] at o
 go_end0
 exact⟨rfl,w6,J,K,I,by rw [hds],G,zbk o j.size⟩
theorem zgo{fn:Func}{a b c:Tmp}{w X:World}{T:Told}{ao:Option Addr}{no co:Nat}{act:Act}(pr:Nat)(hpr:w.heap.size≤pr)(hr3:fn.results=#[.cell a 34,.tmp b,.tmp c])(ds:List Value)(hds:zan T.m (.slice ao no co) T.at_=ds)(ht:X.there pr 0 ds.toArray.size)(hb:qB w X)(how:X.ownsRow w.heap.size 2 1 (.slice ao no co) T.m.out.length (i64s T.m.out))
  (hne:∀ q,(Value.slice ao no co).ownBlock=some q→¬q=pr)
  (hp:act.tmps.getD a undef=.pointer (some ⟨pr,0,none⟩)) (h1:act.tmps.getD b undef=.int .i64 T.err) (h2:act.tmps.getD c undef=.int .i64 T.line) (hd:act.defers=[]) :
  bodyPost Tryz.prog fn (zaT w T) .ret act (X.setCells pr 0 ds):=by
 have hl:ds.length=30:=by rw [←hds];exact zas _ _ _
 have f:Tryz.prog.underlying 34=some (.struct _):=Tryz.underlying34;have g:=World.rangeAt_setCells_same X pr 0 ds (by rw [show ds.length=ds.toArray.size by simp];exact ht);have d:=run_loadVar_mid (X.setCells pr 0 ds) pr 0 34 ds _ g f rfl (by rw [hl];exact Tryz.info34);have e:=zgf hr3 act.tmps ⟨pr,0,none⟩ hp d;rw [h1,h2] at e;refine bodyPost_ret e hd ⟨ao,no,co,by rw [hds],?_,zal ds 0 hb hpr⟩;exact zaj how (fun q hq=>za6 ds X _ _ _ (hne q hq))
abbrev TrW(w:World)(s:ByteArray)(iv:Value)(n:Int):World:=(((w.alloc (.cells #[.string s] 9)).alloc (.cells #[iv] 29)).alloc (.cells #[.int .i64 n] 3)).alloc Z34
theorem zpq(w:World)(s:ByteArray)(iv:Value)(n:Int):(TrW w s iv n).heap.size=w.heap.size+1+1+1+1:=by simp
theorem zi4(w:World)(s:ByteArray)(iv:Value)(n:Int):qB w (TrW w s iv n):=((((Below.refl _ _).alloc (Nat.le_refl _) _).alloc (by simp) _).alloc (by simp;omega) _).alloc (by simp;omega) _
theorem ztQ(w:World)(s:ByteArray)(iv:Value)(n:Int):TrIn (TrW w s iv n) w.heap.size (w.heap.size+1+1) (w.heap.size+1) (w.heap.size+1+1+1) s iv n:=by
 have f:Below (w.alloc (.cells #[.string s] 9)).heap.size (w.alloc (.cells #[.string s] 9)) (TrW w s iv n):=(((Below.refl _ _).alloc (Nat.le_refl _) _).alloc (by simp) _).alloc (by simp) _;have d:Below ((w.alloc (.cells #[.string s] 9)).alloc (.cells #[iv] 29)).heap.size ((w.alloc (.cells #[.string s] 9)).alloc (.cells #[iv] 29)) (TrW w s iv n):=((Below.refl _ _).alloc (Nat.le_refl _) _).alloc (by simp) _;have e:Below (((w.alloc (.cells #[.string s] 9)).alloc (.cells #[iv] 29)).alloc (.cells #[.int .i64 n] 3)).heap.size (((w.alloc (.cells #[.string s] 9)).alloc (.cells #[iv] 29)).alloc (.cells #[.int .i64 n] 3)) (TrW w s iv n):=(Below.refl _ _).alloc (Nat.le_refl _) _;have c:=World.cell?_alloc_new (w:=w) #[.string s] 9 0;have a:=World.cell?_alloc_new (w:=w.alloc (.cells #[.string s] 9)) #[iv] 29 0;have b:=World.cell?_alloc_new (w:=(w.alloc (.cells #[.string s] 9)).alloc (.cells #[iv] 29)) #[.int .i64 n] 3 0;rw [show(w.alloc (.cells #[.string s] 9)).heap.size=w.heap.size+1 by simp] at a;rw [show((w.alloc (.cells #[.string s] 9)).alloc (.cells #[iv] 29)).heap.size=w.heap.size+1+1 by simp] at b;refine⟨zap f c,zap e b,zap d a,?_,by omega,by omega⟩;have:=zb8 (((w.alloc (.cells #[.string s] 9)).alloc (.cells #[iv] 29)).alloc (.cells #[.int .i64 n] 3));rwa [show(((w.alloc (.cells #[.string s] 9)).alloc (.cells #[iv] 29)).alloc (.cells #[.int .i64 n] 3)).heap.size=w.heap.size+1+1+1 by simp] at this
theorem zw3(w:World)(s:ByteArray)(iv:Value)(n:Int):(TrW w s iv n).rangeAt (w.heap.size+1+1+1) 0 (zan zbq (.slice none 0 0) 0):=by
 rw [zqH];have:=zee (((w.alloc (.cells #[.string s] 9)).alloc (.cells #[iv] 29)).alloc (.cells #[.int .i64 n] 3)) [.int .i64 0,.int .i64 0,.int .i64 0,.int .i64 0,.int .i64 0,.int .i64 0,.int .i64 0,.int .i64 0,.int .i64 0,.int .i64 0,.int .i64 0,.int .i64 0,.int .i64 0,.int .i64 0,.int .i64 0,.int .i64 0,.int .i64 0,.int .i64 0,.int .i64 0,.int .i64 0,.int .i64 0,.int .i64 0,.int .i64 0,.int .i64 0,.int .i64 0,.slice none 0 0,.int .i64 0,.int .i64 0,.int .i64 0,.int .i64 0] 34;rwa [show(((w.alloc (.cells #[.string s] 9)).alloc (.cells #[iv] 29)).alloc (.cells #[.int .i64 n] 3)).heap.size=w.heap.size+1+1+1 by simp] at this
theorem zd6(w:World):qB w (OutW w):=((Below.refl _ _).alloc (Nat.le_refl _) _).alloc (by simp) _
theorem TrIn.below{w w':World}{pt ps pi pr:Nat}{s:ByteArray}{iv:Value}{n:Int}(T:TrIn w pt ps pi pr s iv n)(hb:qB w w'):TrIn w' pt ps pi pr s iv n:=by
 obtain⟨c,b,f,a,e⟩:=T;refine⟨zap hb c,zap hb b,zap hb f,zam a hb ?_,e⟩;obtain⟨u,d⟩:=Option.isSome_iff_exists.1 (a 0 (by omega)).1;exact World.block_lt_of_cell? w _ d
theorem zcG{w w':World}{B b o:Nat}{cs:List Value}(h:w.rangeAt b o cs)(hb:Below B w w')(hB:b<B):w'.rangeAt b o cs:=fun j u hj=>(hb.cell (p:=⟨b,o+j,none⟩) hB).trans (h j u hj)
theorem zfw(w:World)(s:ByteArray)(ao:Option Addr)(m icap:Nat)(n er ln:Int)
  (hcall:qC 50 (zmm w.heap.size (w.heap.size+1+1) (w.heap.size+1) (w.heap.size+1+1+1)) (OutW (TrW w s (.slice ao m icap) n)) fun e w'=>e=zak er ln∧Below (OutW (TrW w s (.slice ao m icap) n)).heap.size (OutW (TrW w s (.slice ao m icap) n)) w') :
  qC 18 #[.string s,.slice ao m icap,.int .i64 n] w (zaT w ⟨zbq,0,er,ln⟩):=by
 have hmf:∀(fn:Go.Fn) (first cap:Array Value) (w:World),(Instr.makeFunc fn first cap).run Tryz.prog w=.ok (.func fn first cap) w:=fun _ _ _ _=>rfl;have a:=zd8 50 _ (TrW w s (.slice ao m icap) n) er ln (fun W=>by kernel_rfl) hcall;have q:=zw3 w s (.slice ao m icap) n;have hsz:=zpq w s (.slice ao m icap) n;have f:=zi4 w s (.slice ao m icap) n;have i:=(ztQ w s (.slice ao m icap) n).state;go_enter Tryz.func18,Tryz.ntmps18;go_wp2_with(first|(go_at_call 42;refine a.mono ?_;rintro e p ⟨rfl,b⟩;refine Hid.out ?_))
 unfold Hid;have o:=zcG q b (by rw [hsz];omega);have g:=zam i b (by rw [hsz];omega);have c:qB w p:=f.trans (b.mono f.size);have r:=zas zbq (.slice none 0 0) 0;have l:=zaz zbq none 0 0 0;generalize j:zan zbq (.slice none 0 0) 0=ds at o r l;have t:=zbd ds r;have h:(Tryz.prog.info? 34).map (·.size)=some ds.length:=by rw [r];exact Tryz.info34
 have d:Tryz.prog.underlying 34=some (.struct _):=Tryz.underlying34;have k:p.there (w.heap.size+1+1+1) 0 ds.toArray.size:=by rw [show ds.toArray.size=30 by simp [r]];exact g
 clear q a;repeat(first
  | (refine wpList_load_mid rfl 34 _ rfl (w.heap.size+1+1+1) 0 rfl ds _ o d rfl h ?_)
  | (refine wpList_store_mid rfl 34 _ _ rfl (w.heap.size+1+1+1) 0 ds.toArray rfl rfl k t l ?_)
  | go_values|go_skip|go_guarded|go_step|go_upon|go_back)
 exact zgo (T:=⟨zbq,0,er,ln⟩) (w.heap.size+1+1+1) (by omega) Tryz.results18 ds j k c (World.ownsRow_nil _ _ _ _) (by simp [Value.ownBlock]) rfl rfl rfl rfl
theorem zi5{w w':World}{b o:Nat}{cs:List Value}(h:w.rangeAt b o cs)(e:w'.heap[b]?=w.heap[b]?):w'.rangeAt b o cs:=fun j u hj=>(World.cell?_of_block (w:=w) (a:=⟨b,o+j,none⟩) e).trans (h j u hj)
theorem zi6{w w':World}{b o n:Nat}(h:w.there b o n)(e:w'.heap[b]?=w.heap[b]?):w'.there b o n:=fun j hj=>by
 obtain⟨h1,h2⟩:=h j hj;exact⟨by rw [World.cell?_of_block (w:=w) (a:=⟨b,o+j,none⟩) e];exact h1,by rw [World.frozen?_of_block (w:=w) (a:=⟨b,o+j,none⟩) e];exact h2⟩
theorem zjS{W w1:World}{pr:Nat}{m:Mc}{line:Int}(hpr:pr<W.heap.size)(h:zmn (OutW W) pr m line w1):
  w1.cell? ⟨W.heap.size,0,none⟩=some (.int .i64 0)∧w1.cell? ⟨W.heap.size+1,0,none⟩=some (.int .i64 0)∧w1.frozen? ⟨W.heap.size,0,none⟩=false∧w1.frozen? ⟨W.heap.size+1,0,none⟩=false:=by
 obtain⟨b,i,e,d,rfl,f,_⟩:=h;have hs:(OutW W).heap.size=W.heap.size+1+1:=by simp
 have g:(b.setCells pr 0 (zan m (.slice i e d) line)).heap[W.heap.size]?=(OutW W).heap[W.heap.size]?:=(za6 _ b pr 0 _ (by omega)).trans (f.block _ (by omega));have c:(b.setCells pr 0 (zan m (.slice i e d) line)).heap[W.heap.size+1]?=(OutW W).heap[W.heap.size+1]?:=(za6 _ b pr 0 _ (by omega)).trans (f.block _ (by omega));refine⟨?_,?_,?_,?_⟩
 ·rw [World.cell?_of_block (w:=OutW W) (a:=⟨W.heap.size,0,none⟩) g];simp [OutW]
 ·rw [World.cell?_of_block (w:=OutW W) (a:=⟨W.heap.size+1,0,none⟩) c];simp [OutW]
 ·rw [World.frozen?_of_block (w:=OutW W) (a:=⟨W.heap.size,0,none⟩) g];simp [OutW]
 ·rw [World.frozen?_of_block (w:=OutW W) (a:=⟨W.heap.size+1,0,none⟩) c];simp [OutW]
theorem ztR(w:World)(s:ByteArray)(ao:Option Addr)(m icap:Nat)(n:Int)(FIN:Mc)
  (hcall:qC 50 (zmm w.heap.size (w.heap.size+1+1) (w.heap.size+1) (w.heap.size+1+1+1)) (OutW (TrW w s (.slice ao m icap) n)) fun e w'=>e=.returned (.tuple #[])∧zmn (OutW (TrW w s (.slice ao m icap) n)) (w.heap.size+1+1+1) FIN FIN.line w') :
  qC 18 #[.string s,.slice ao m icap,.int .i64 n] w (zaT w ⟨FIN,FIN.line,0,0⟩):=by
 have hmf:∀(fn:Go.Fn) (first cap:Array Value) (w:World),(Instr.makeFunc fn first cap).run Tryz.prog w=.ok (.func fn first cap) w:=fun _ _ _ _=>rfl;have hsz:=zpq w s (.slice ao m icap) n;have l:=zf2 50 _ (TrW w s (.slice ao m icap) n) _ (fun W=>by kernel_rfl) hcall (fun N h=>zjS (by rw [hsz];omega) h);have y:=zi4 w s (.slice ao m icap) n;have H:=(ztQ w s (.slice ao m icap) n).state;have C:=zd6 (TrW w s (.slice ao m icap) n);have hso:(OutW (TrW w s (.slice ao m icap) n)).heap.size=w.heap.size+1+1+1+1+1+1:=by simp
 go_enter Tryz.func18,Tryz.ntmps18;go_wp2_with(first|(go_at_call 42;refine l.mono ?_;rintro e E ⟨rfl,N,k,d⟩;have D:Hid _:=d;clear d;refine Hid.out ?_))
 have d:=D.out;clear D;unfold Hid;obtain⟨v,x,B,t,rfl,o,i⟩:=k;have K:=zas FIN (.slice x B t) FIN.line;have J:=zaz FIN x B t FIN.line;generalize I:zan FIN (.slice x B t) FIN.line=ds at d K J;have g:=zam (zam H C (by rw [hsz];omega)) o (by rw [hso];omega);have r:=World.rangeAt_setCells_same v (w.heap.size+1+1+1) 0 ds (by rw [K];exact g);have c:=World.there_setCells g (w.heap.size+1+1+1) 0 ds;have f:qB w (v.setCells (w.heap.size+1+1+1) 0 ds):=zal ds 0 (y.trans ((C.mono y.size).trans (o.mono (by rw [hso];omega)))) (by omega);have a:(v.setCells (w.heap.size+1+1+1) 0 ds).ownsRow (OutW (TrW w s (.slice ao m icap) n)).heap.size 2 1 (.slice x B t) FIN.out.length (i64s FIN.out):=zaj i (fun q k=>za6 ds v _ _ _ (by have:=(i.lt q k).1;omega));generalize v.setCells (w.heap.size+1+1+1) 0 ds=X at d r c f a;have F:∀ b,¬b=(TrW w s (.slice ao m icap) n).heap.size→¬b=(TrW w s (.slice ao m icap) n).heap.size+1→E.heap[b]?=X.heap[b]?:=fun b n0 n1=>by
  rw [d,Below.heap_setCell _ _ _ _ (by exact n1),Below.heap_setCell _ _ _ _ (by exact n0)]
 have M:=zi5 r (F _ (by omega) (by omega));have u:=zi6 c (F _ (by omega) (by omega));have z:qB w E:=by
  rw [d];exact(f.setCell (p:=⟨(TrW w s (.slice ao m icap) n).heap.size,0,none⟩) (by show w.heap.size≤(TrW w s (.slice ao m icap) n).heap.size;omega) _).setCell (p:=⟨(TrW w s (.slice ao m icap) n).heap.size+1,0,none⟩) (by show w.heap.size≤(TrW w s (.slice ao m icap) n).heap.size+1;omega) _
 have j:E.ownsRow (OutW (TrW w s (.slice ao m icap) n)).heap.size 2 1 (.slice x B t) FIN.out.length (i64s FIN.out):=zaj a (fun q k=>F q (by have:=(a.lt q k).1;omega) (by have:=(a.lt q k).1;omega));have O:=zbd ds K;have G:(Tryz.prog.info? 34).map (·.size)=some ds.length:=by rw [K];exact Tryz.info34
 have A:Tryz.prog.underlying 34=some (.struct _):=Tryz.underlying34;have L:E.there (w.heap.size+1+1+1) 0 ds.toArray.size:=by rw [show ds.toArray.size=30 by simp [K]];exact u
 clear l d F r c a f i o g;repeat(first
  | (refine wpList_load_mid rfl 34 _ rfl (w.heap.size+1+1+1) 0 rfl ds _ M A rfl G ?_)
  | (refine wpList_store_mid rfl 34 _ _ rfl (w.heap.size+1+1+1) 0 ds.toArray rfl rfl L O J ?_)
  | go_values|go_skip|go_guarded|go_step|go_upon|go_back)
 exact zgo (T:=⟨FIN,FIN.line,0,0⟩) (w.heap.size+1+1+1) (by omega) Tryz.results18 ds I L z (zbk j (by omega)) (fun q k=>by have:=(j.lt q k).1;omega) rfl rfl rfl rfl
theorem zw4(i:Ins)(nx:Int)(m:Mc):(exec i nx m).out.length≤m.out.length+1:=by
 cases i <;> simp only [exec]
 all_goals(try split)
 all_goals(simp [Mc.goes])
theorem ztS(L:List Said)(m:Mc):(zbz L m).out.length≤m.out.length+1:=by
 unfold zbz;split
 ·omega
 ·exact zw4 _ _ _
theorem zpr(L:List Said)(n:Nat)(m:Mc):(runS (zbz L) n m).out.length≤m.out.length+n:=by
 induction n generalizing m with
 | zero=>exact Nat.le_refl _
 | succ n ih =>
  by_cases h:m.fin=0
  ·rw [zbZ _ _ _ h];have:=ih (zbz L m);have:=ztS L m;omega
  ·rw [zbY _ _ _ h];omega
theorem zrb(s:ByteArray)(inp:List Int)(n:Int):(ziw s inp n).m.out.length≤1048577:=by
 unfold ziw;split
 ·simp [zbq]
 ·split
  ·simp [zbq]
  ·have:=zpr ((lines s).map say) n.toNat (zc3 ((lines s).map say) inp);have e:(zc3 ((lines s).map say) inp).out.length=0:=rfl;show(runS _ _ _).out.length≤_;omega
theorem SlB.slN{w:World}{b:Nat}{v:Value}{l:List Int}(h:SlB w b v l):SlN w v l:=by
 obtain⟨e,c,i,_,f⟩:=h;exact⟨e,c,i,fun hp=>by obtain⟨g,o,a,_,_,d⟩:=f hp;exact⟨g,o,a,d⟩⟩
theorem SlN.below{w w':World}{v:Value}{l:List Int}(h:SlN w v l)(hb:qB w w'):SlN w' v l:=by
 obtain⟨c,b,f,e⟩:=h;exact⟨c,b,f,fun hp=>by obtain⟨g,o,a,d⟩:=e hp;exact⟨g,o,a,fun j hj=>zap hb (d j hj)⟩⟩
theorem zgQ{w:World}{B g cap:Nat}{l:List Int}{x:Int}(h:w.ownsRow B 2 1 (.slice (some ⟨g,0,none⟩) (l.length+1) cap) (l.length+1) (i64s (l++[x])))(hg:g<w.heap.size)(hcap:l.length+1≤cap):SlB w w.heap.size (.slice (some ⟨g,0,none⟩) l.length cap) l:=by
 refine⟨_,cap,rfl,by omega,fun _=>⟨g,0,rfl,hg,hg,fun j hj=>?_⟩⟩;have hlen:(i64s (l++[x])).length=l.length+1:=by simp [i64s]
 rw [Nat.zero_add,World.ownsRow.cellAt h j (by omega)];unfold i64s;rw [List.map_append,List.getElem?_append_left (by simpa using hj)];simp [hj]
theorem zgR{w:World}{B:Nat}{e:TypeId}{n:Nat}{v:Value}{xs:List Value}(h:w.ownsRow B e 1 v n xs)(hn:0<n):∃ g cap,v=.slice (some ⟨g,0,none⟩) n cap∧B≤g∧g<w.heap.size∧n≤cap:=by
 obtain⟨g,cap,rfl,c,b⟩:=h.form hn;refine⟨g,cap,rfl,c,b,?_⟩;rcases h.2 with ⟨a,h0⟩|⟨g',cap',cur,a,_,_,r⟩
 ·omega
 ·simp only [Value.slice.injEq,true_and] at a;have:=r.1;have:=a.2;omega
def zuS(w:World)(ds:List Value):World:=(w.alloc Z34).setCells w.heap.size 0 ds.toArray.toList
theorem zow(w:World)(ds:List Value):qB w (zuS w ds):=zal _ 0 ((Below.refl w.heap.size w).alloc (Nat.le_refl _) _) (Nat.le_refl _)
theorem zxj{w:World}{ds:List Value}(hln:ds.length=30):(zuS w ds).rangeAt w.heap.size 0 ds:=by
 have a:=zbS (W1:=w) rfl ds hln;unfold zuS;rw [show ds.toArray.toList=ds by simp];exact World.rangeAt_setCells_same _ _ _ _ (by rw [show ds.length=ds.toArray.size by simp];exact a)
theorem zx5(m:Mc)(ov:Value)(line:Int):(zan m ov line)[25]?=some ov:=by simp [zan]
end
section
open Sp
theorem It.key_inj{a b:It}(h:a.key=b.key):a=b:=by
 cases a;cases b;simp only [It.key,Key.mk.injEq] at h;obtain⟨e,f,j,c,g,i,d,k⟩:=h;subst e;subst f;subst j;subst c;subst g;subst i;subst d;subst k;rfl
theorem zyO{a b:List It}(h:a.map It.key=b.map It.key):a=b:=by
 induction a generalizing b with
 | nil=>cases b with
  | nil=>rfl
  | cons y t=>simp at h
 | cons x r ih=>cases b with
  | nil=>simp at h
  | cons y t =>
   rw [List.map_cons,List.map_cons,List.cons.injEq] at h;rw [It.key_inj h.1,ih h.2]
def FnM.bare(f:FnM):FnM:=⟨f.name,f.line,f.its,undef,0⟩
theorem zxa{F G:List FnM}(h:F.map FnM.fn=G.map FnM.fn):F.map FnM.bare=G.map FnM.bare:=by
 induction F generalizing G with
 | nil=>cases G with
  | nil=>rfl
  | cons y t=>simp at h
 | cons f r ih=>cases G with
  | nil=>simp at h
  | cons g t =>
   rw [List.map_cons,List.map_cons,List.cons.injEq] at h;rw [List.map_cons,List.map_cons,ih h.2];have d:=h.1;simp only [FnM.fn,Fn.mk.injEq] at d;obtain⟨a,b,c⟩:=d;have:f.bare=g.bare:=by unfold FnM.bare;rw [a,b,zyO c]
   rw [this]
theorem zmM(F:List FnM):lenF (F.map FnM.bare)=lenF F:=by
 unfold lenF;rw [List.map_map];rfl
theorem zor(n:Nat)(F:List FnM):zaW n (F.map FnM.bare)=zaW n F:=by
 induction F generalizing n with
 | nil=>rfl
 | cons f r ih=>rw [List.map_cons,zaW,zaW,ih];rfl
theorem zuN(F:List FnM)(k:Nat)(x:ByteArray):labM (F.map FnM.bare) k x=labM F k x:=by
 unfold labM;rw [←List.map_take,zmM,List.getElem?_map];cases F[k]? <;> rfl
theorem zxb(F:List FnM)(x:ByteArray):fnM (F.map FnM.bare) x=fnM F x:=by
 unfold fnM;rw [show zb3 (F.map FnM.bare)=zb3 F from zor 0 F,←List.map_take,zmM]
theorem zkU(F:List FnM)(k:Nat)(R:List FnM):zcT (F.map FnM.bare) k (R.map FnM.bare)=zcT F k R:=by
 induction R generalizing k with
 | nil=>rfl
 | cons f r ih =>
  rw [List.map_cons,zcT,zcT,ih];congr 1;unfold zfn insM;simp only [zuN,zxb];rfl
theorem ziZ(F:List FnM):zaw (F.map FnM.bare)=zaw F:=zkU F 0 F
theorem zos{L:List Said}{F G:List FnM}(h:Right L F)(h':Right L G):zaw F=zaw G:=by
 rw [←ziZ F,←ziZ G,zxa (h.fns.trans h'.fns.symm)]
theorem zmN(s:ByteArray)(i:Nat)(n u:Int)(h0:least≤n)(h1:n≤0)(h:zcQ s i n=some u):least≤u∧u≤0:=by
 by_cases d:i<s.size
 ·by_cases c:zdo n (bt s i-48)=true
  ·rw [zeC s i n d c] at h;cases h
  ·rw [zdX s i n d c] at h;obtain⟨a,b,_,_⟩:=zvm n _ c h0 h1;exact zmN s (i+1) _ u a b h
 ·rw [zdW s i n d] at h;cases h;exact⟨h0,h1⟩
termination_by s.size-i
theorem zuO(s:ByteArray):i64 (zaI s).1:=by
 have c:∀ m i,i64 (zb5 m (zcQ s i 0)).1:=fun m i=>by
  cases h:zcQ s i 0 with
  | none=>show i64 0;unfold i64;omega
  | some u =>
   obtain⟨a,b⟩:=zmN s i 0 u (by unfold least;omega) (Int.le_refl _) h;unfold least at a;show i64 (if m=true then(u,true) else(if u=least then least else -u,decide (least<u))).1;cases m with
   | true=>show i64 u;unfold i64;omega
   | false =>
    show i64 (if u=least then least else -u);unfold i64 least;split <;> omega
 unfold zaI;split
 ·split
  ·show i64 0;unfold i64;omega
  ·exact c _ _
 ·split
  ·show i64 0;unfold i64;omega
  ·exact c _ _
theorem zrL(s:ByteArray):i64 (zcZ s):=by
 unfold zcZ;split
 ·exact zuO s
 ·unfold i64;omega
theorem zyP(sh:List UInt8)(r:List ByteArray)(k:Nat):i64 (opK sh r k).n:=by
 induction k with
 | zero=>show i64 0;unfold i64;omega
 | succ k ih =>
  show i64 ((opK sh r k).take k _ _).n;unfold Opd.take
  repeat' split
  all_goals first|exact ih|exact zrL _
theorem zyQ(q:Said):i64 (opQ q).n:=by
 unfold opQ;split
 ·exact zyP _ _ _
 ·show i64 0;unfold i64;omega
theorem zyR(w:ByteArray)(a b c n l f:Int)(h:i64 n):zkJ (insX w a b c n l f):=by
 have d:∀(b:Bool) (x y:Ins),zkJ x→zkJ y→zkJ (if b=true then x else y):=fun b x y hx hy=>by
  cases b
  ·exact hy
  ·exact hx
 unfold insX
 repeat' (refine d _ _ _ ?_ ?_)
 all_goals first|exact h|trivial
theorem Right.sure{L:List Said}{F:List FnM}(R:Right L F):CodeSure (zaw F):=by
 refine⟨R.codeOk,fun j hj=>?_⟩;rw [zeg] at hj;obtain⟨k,f,m,d,g,i,rfl⟩:=zkF F j hj;have h:=zgn F 0 F k f g m d i;rw [Nat.zero_add] at h;have l:(zaw F)[lenF (F.take k)+m]?=some (insM F k d,d.line):=h;rw [(List.getElem?_eq_some_iff.1 l).2];obtain⟨j2,hj2,_,e,_⟩:=R.it_at g i;have hn:d.n=(opQ L[j2]).n:=congrArg Key.n e;show zkJ (insX d.word d.a d.b d.c d.n _ _);exact zyR _ _ _ _ _ _ _ (by rw [hn];exact zyQ _)
end
end Go.Proofs.YtfpgjkbjbbgciaaGreatDoor
