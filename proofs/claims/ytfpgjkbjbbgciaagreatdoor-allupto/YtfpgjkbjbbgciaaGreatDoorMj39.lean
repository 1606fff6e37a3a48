import Derived.Test.YtfpgjkbjbbgciaaGreatDoorMj28
import Derived.Test.YtfpgjkbjbbgciaaGreatDoorMj38
set_option maxRecDepth 100000
set_option maxHeartbeats 8000000
namespace Go.Proofs.YtfpgjkbjbbgciaaGreatDoor
open Go.RowKit Sp
def zbA(C:List (Ins × Int)):List Value:=C.flatMap (fun q=>[.iface (insT q.1) (.agg (insA q.1)),.int .i64 q.2])
theorem zjn(C:List (Ins × Int))(q:Ins × Int):zbA (C++[q])=zbA C++[.iface (insT q.1) (.agg (insA q.1)),.int .i64 q.2]:=by simp [zbA]
theorem zhm(C:List (Ins × Int))(k:Nat)(h:k<C.length):(zbA C)[k*2]?=some (.iface (insT C[k].1) (.agg (insA C[k].1)))∧(zbA C)[k*2+1]?=some (.int .i64 C[k].2):=by
 induction C generalizing k with
 | nil=>simp at h
 | cons i l ih =>
  have e:zbA (i :: l)=.iface (insT i.1) (.agg (insA i.1)) :: .int .i64 i.2 :: zbA l:=by simp [zbA]
  rw [e];cases k with
  | zero=>exact⟨rfl,rfl⟩
  | succ k =>
   have:=ih k (by simpa using h);rw [show(k+1)*2=k*2+1+1 by omega];simpa using this
theorem ztN{w:World}{B:Nat}{v:Value}{C:List (Ins × Int)}(h:w.ownsRow B 140 2 v C.length (zbA C))(hp:0<C.length):
  ∃ g cap,v=.slice (some ⟨g,0,none⟩) C.length cap∧B≤g∧g<w.heap.size∧CodeIn w g C:=by
 obtain⟨g,cap,rfl,b,a⟩:=h.form hp;refine⟨g,cap,rfl,b,a,fun j hj=>⟨?_,?_⟩⟩
 ·rw [World.ownsRow.cellAt h (j*2) (by omega),(zhm C j hj).1]
 ·rw [World.ownsRow.cellAt h (j*2+1) (by omega),(zhm C j hj).2]
theorem zwy{α:Type}(C:List α)(p:Nat)(q:α)(h:C[p]?=some q):C.take (p+1)=C.take p++[q]:=by
 rw [List.take_add_one,h];rfl
theorem Tryz.info140:(Tryz.prog.info? 140).map (fun i=>(i.zero,i.size,i.bytes))=some (some (.agg #[.nilIface,.int .i64 0]),2,24):=by kernel_rfl
theorem Tryz.under93:Tryz.prog.underlying 93=some (.slice 140):=by kernel_rfl
def zz1(w:World)(C:List (Ins × Int)):Ending→World→Prop:=fun e w'=>∃ g cap,e=.returned (.slice (some ⟨g,0,none⟩) C.length cap)∧w.heap.size≤g∧g<w'.heap.size∧CodeIn w' g C∧qB w w'
theorem zyw{w:World}{B bg cap:Nat}{F:List FnM}(h:w.ownsRow B 3 1 (.slice (some ⟨bg,0,none⟩) F.length cap) F.length (i64s (begF F)))(k:Nat)(hk:k<F.length):w.cell? ⟨bg,k,none⟩=some (.int .i64 (lenF (F.take k):Int)):=by
 rw [World.ownsRow.cellAt h k (by omega)];simp [begF,hk]
theorem zhn{W W':World}{pb sb:Nat}{v0 v1 v2 v3 v4 v5 v6 v7 v8 v9 v10:Value}(hb:qB W W')(h:W.cell? ⟨pb,0,none⟩=some (v0)∧W.cell? ⟨pb,1,none⟩=some (v1)∧W.cell? ⟨pb,2,none⟩=some (v2)∧W.cell? ⟨sb,0,none⟩=some (v3)∧W.cell? ⟨sb,1,none⟩=some (v4)∧W.cell? ⟨sb,2,none⟩=some (v5)∧W.cell? ⟨sb,3,none⟩=some (v6)∧W.cell? ⟨sb,4,none⟩=some (v7)∧W.cell? ⟨sb,5,none⟩=some (v8)∧W.cell? ⟨sb,6,none⟩=some (v9)∧W.cell? ⟨sb,7,none⟩=some (v10)):
  W'.cell? ⟨pb,0,none⟩=some (v0)∧W'.cell? ⟨pb,1,none⟩=some (v1)∧W'.cell? ⟨pb,2,none⟩=some (v2)∧W'.cell? ⟨sb,0,none⟩=some (v3)∧W'.cell? ⟨sb,1,none⟩=some (v4)∧W'.cell? ⟨sb,2,none⟩=some (v5)∧W'.cell? ⟨sb,3,none⟩=some (v6)∧W'.cell? ⟨sb,4,none⟩=some (v7)∧W'.cell? ⟨sb,5,none⟩=some (v8)∧W'.cell? ⟨sb,6,none⟩=some (v9)∧W'.cell? ⟨sb,7,none⟩=some (v10):=by
 obtain⟨d,c,e,k,b,f,i,g,l,j,a⟩:=h;exact⟨zap hb d,zap hb c,zap hb e,zap hb k,zap hb b,zap hb f,zap hb i,zap hb g,zap hb l,zap hb j,zap hb a⟩
theorem far{w w':World}{row:Option Nat}(hg:w.grownBy w' row){p:Addr}{v:Value}(hne:some p.block≠row)(h:w.cell? p=some v):w'.cell? p=some v:=(hg.cell_far p (World.block_lt_of_cell? w p h) hne).trans h
theorem zml{W W':World}{pb sb:Nat}{v0 v1 v2 v3 v4 v5 v6 v7 v8 v9 v10:Value}{row:Option Nat}(hg:W.grownBy W' row)(n1:some pb≠row)(n2:some sb≠row)(h:W.cell? ⟨pb,0,none⟩=some (v0)∧W.cell? ⟨pb,1,none⟩=some (v1)∧W.cell? ⟨pb,2,none⟩=some (v2)∧W.cell? ⟨sb,0,none⟩=some (v3)∧W.cell? ⟨sb,1,none⟩=some (v4)∧W.cell? ⟨sb,2,none⟩=some (v5)∧W.cell? ⟨sb,3,none⟩=some (v6)∧W.cell? ⟨sb,4,none⟩=some (v7)∧W.cell? ⟨sb,5,none⟩=some (v8)∧W.cell? ⟨sb,6,none⟩=some (v9)∧W.cell? ⟨sb,7,none⟩=some (v10)):
  W'.cell? ⟨pb,0,none⟩=some (v0)∧W'.cell? ⟨pb,1,none⟩=some (v1)∧W'.cell? ⟨pb,2,none⟩=some (v2)∧W'.cell? ⟨sb,0,none⟩=some (v3)∧W'.cell? ⟨sb,1,none⟩=some (v4)∧W'.cell? ⟨sb,2,none⟩=some (v5)∧W'.cell? ⟨sb,3,none⟩=some (v6)∧W'.cell? ⟨sb,4,none⟩=some (v7)∧W'.cell? ⟨sb,5,none⟩=some (v8)∧W'.cell? ⟨sb,6,none⟩=some (v9)∧W'.cell? ⟨sb,7,none⟩=some (v10):=by
 obtain⟨d,c,e,k,b,f,i,g,l,j,a⟩:=h;exact⟨far hg n1 d,far hg n1 c,far hg n1 e,far hg n2 k,far hg n2 b,far hg n2 f,far hg n2 i,far hg n2 g,far hg n2 l,far hg n2 j,far hg n2 a⟩
theorem zwz(a b:Value)(ha:a.oneCell'=true)(hb:b.oneCell'=true):∀ u∈[a,b],u.oneCell'=true:=by
 intro u c;simp at c;rcases c with rfl|rfl
 ·exact ha
 ·exact hb
theorem znN{L:List Said}{F:List FnM}(R:Right L F)(w:World)(B pm:Nat)(v:Value)(h:PIn B w pm v F)(hn:F.length≤300)(hb:∀ f∈F,f.its.length≤300∧∀ i∈f.its,ItOk i):
  qC 52 #[.agg #[v,.map (some pm)]] w (zz1 w (zaw F)):=by
 have hF:=R.some_;have K:=R.codeOk;have ap:=zeg F;have ht:lenF F≤300:=by have:=K.few;omega
 obtain⟨r,d,rfl,aG,hcap,I⟩:=h.fns hF;have s:=zqV (w.alloc (.cells #[.slice (some ⟨r,0,none⟩) F.length d,.map (some pm)] 83)) B pm _ F (h.alloc _) hF hn (fun f hf=>(hb f hf).1) ht;have hsz1:(w.alloc (.cells #[.slice (some ⟨r,0,none⟩) F.length d,.map (some pm)] 83)).heap.size=w.heap.size+1:=by simp
 have V:(w.alloc (.cells #[.slice (some ⟨r,0,none⟩) F.length d,.map (some pm)] 83)).cell? ⟨w.heap.size,0,none⟩=some (.slice (some ⟨r,0,none⟩) F.length d):=World.cell?_alloc_new (w:=w) #[.slice (some ⟨r,0,none⟩) F.length d,.map (some pm)] 83 0;go_enter Tryz.func52,Tryz.ntmps52;go_wp2_with(first|(go_at_call 80;refine s.mono ?_;rintro e l ⟨bs,rfl,X,al⟩;obtain⟨A,C,rfl,hbg,hbgl⟩:=X.form hF;have aP:=(al.cell (p:=⟨w.heap.size,0,none⟩) (by rw [hsz1];exact Nat.lt_succ_self _)).trans V;have ag:w.heap.size<l.heap.size:=Nat.lt_of_lt_of_le (by rw [hsz1];exact Nat.lt_succ_self _) al.size;have hne1:¬w.heap.size=l.heap.size:=Nat.ne_of_lt ag;have hne2:¬l.heap.size=w.heap.size:=Nat.ne_of_gt ag))
 have ah:qB w l:=((Below.refl _ _).alloc (Nat.le_refl _) _).trans (al.mono (by rw [hsz1];omega));have y:qB w (l.alloc (.cells #[.slice (some ⟨r,0,none⟩) F.length d,.map (some pm),.slice (some ⟨A,0,none⟩) F.length C] 128)):=ah.alloc ah.size _;have av:PlIn (l.alloc (.cells #[.slice (some ⟨r,0,none⟩) F.length d,.map (some pm),.slice (some ⟨A,0,none⟩) F.length C] 128)) F r pm A:=by
  have hP:=h.below y;exact⟨hP.labels,hP.places,fun k hk=>zyw (X.alloc _) k hk,fun k hk=>(y.cell (p:=⟨r,k*4+3,none⟩) aG).trans (I k hk).2.2.2⟩
 have p0:(l.alloc (.cells #[.slice (some ⟨r,0,none⟩) F.length d,.map (some pm),.slice (some ⟨A,0,none⟩) F.length C] 128)).cell? ⟨l.heap.size,0,none⟩=some (.slice (some ⟨r,0,none⟩) F.length d):=World.cell?_alloc_new (w:=l) #[.slice (some ⟨r,0,none⟩) F.length d,.map (some pm),.slice (some ⟨A,0,none⟩) F.length C] 128 0;have p1:(l.alloc (.cells #[.slice (some ⟨r,0,none⟩) F.length d,.map (some pm),.slice (some ⟨A,0,none⟩) F.length C] 128)).cell? ⟨l.heap.size,1,none⟩=some (.map (some pm)):=World.cell?_alloc_new (w:=l) #[.slice (some ⟨r,0,none⟩) F.length d,.map (some pm),.slice (some ⟨A,0,none⟩) F.length C] 128 1;have p2:(l.alloc (.cells #[.slice (some ⟨r,0,none⟩) F.length d,.map (some pm),.slice (some ⟨A,0,none⟩) F.length C] 128)).cell? ⟨l.heap.size,2,none⟩=some (.slice (some ⟨A,0,none⟩) F.length C):=World.cell?_alloc_new (w:=l) #[.slice (some ⟨r,0,none⟩) F.length d,.map (some pm),.slice (some ⟨A,0,none⟩) F.length C] 128 2;have aC:(l.alloc (.cells #[.slice (some ⟨r,0,none⟩) F.length d,.map (some pm),.slice (some ⟨A,0,none⟩) F.length C] 128)).heap.size=l.heap.size+1:=by simp
 generalize l.alloc (.cells #[.slice (some ⟨r,0,none⟩) F.length d,.map (some pm),.slice (some ⟨A,0,none⟩) F.length C] 128)=W2 at y av p0 p1 p2 aC;clear s V aP X;obtain⟨i0,aO,aQ,aK,aN⟩:=info_parts Tryz.info140
 go_loopw [14,3] (fun ti tc wr=>∃(k:Nat) (cv:Value),k≤F.length∧ti=.int .i64 (k:Int)∧tc=cv∧wr.ownsRow (l.heap.size+1) 140 2 cv (lenF (F.take k)) (zbA ((zaw F).take (lenF (F.take k))))∧Below (l.heap.size+1) W2 wr) (fun ti _ _=>F.length-(intOf ti).toNat)
 case atStart=>exact⟨0,_,by omega,rfl,rfl,World.ownsRow_nil _ _ _ _,Below.refl _ _⟩
 case round =>
  obtain⟨k,cv,hk,rfl,rfl,x,U⟩:=hrel;by_cases af:k<F.length
  ·obtain⟨c0,c1,c2,c3⟩:=I k af;have ai:=List.getElem_mem af;have Z:=h.bodies F[k] ai;have ar:F[k]?=some F[k]:=List.getElem?_eq_getElem af;have HT:Hid (lenF (F.take (k+1))=lenF (F.take k)+(zaq F[k].its).length):=zlW F k af;have J:lenF (F.take k)+(zaq F[k].its).length≤300:=by have:=zmk F (k+1);have:=HT.out;omega
   have HP:Hid (∀ m it,(zaq F[k].its)[m]?=some it→(zaw F)[lenF (F.take k)+m]?=some (insM F k it,it.line)):=fun m it hm=>by
    have:=zgn F 0 F k F[k] ar m it hm;rw [Nat.zero_add] at this;exact this
   have HI:Hid (∀ m it,(zaq F[k].its)[m]?=some it→∀ W,PlIn W F r pm A→qC 81 #[zi2 r d pm A C F.length,stm it.sort it.line it.word it.a it.b it.c it.n it.nm,.int .i64 (k:Int)] W (qR W (.iface (insT (insM F k it)) (.agg (insA (insM F k it)))))):=fun m it hm W M=>by
    refine zqZ R W d C M hn ar hm ?_;have:it∈F[k].its:=(List.mem_filter.1 (List.mem_of_getElem? hm)).1;exact((hb F[k] ai).2 it this).1
   have O:qB w wr:=y.trans (U.mono (by omega));have z:∀ j,wr.cell? ⟨r,j,none⟩=w.cell? ⟨r,j,none⟩:=fun j=>O.cell (p:=⟨r,j,none⟩) aG;rw [←z] at c0 c1 c2 c3;clear z;generalize F[k]=f at c0 c1 c2 c3 Z HT J HP HI;have hk4:k*4≤1200:=by omega
   obtain⟨ab,line,N,bv,m⟩:=f;simp only at c0 c1 c2 c3 Z J;have aw:Hid (lenF (F.take (k+1))=lenF (F.take k)+(zaq N).length):=HT.out;have aq:Hid (∀ m it,(zaq N)[m]?=some it→(zaw F)[lenF (F.take k)+m]?=some (insM F k it,it.line)):=HP.out;have aF:Hid (∀ m it,(zaq N)[m]?=some it→∀ W,PlIn W F r pm A→qC 81 #[zi2 r d pm A C F.length,stm it.sort it.line it.word it.a it.b it.c it.n it.nm,.int .i64 (k:Int)] W (qR W (.iface (insT (insM F k it)) (.agg (insA (insM F k it)))))):=HI.out;clear HT HP HI;generalize zaq N=its at Z J aw aq aF;generalize lenF (F.take k)=T at x J aw aq;obtain⟨ao,Y,rfl⟩:=zb7 Z;have aj:Below (l.heap.size+1) W2 (wr.alloc (.cells #[.string ab,.int .i64 line,.slice ao its.length Y,.map (some m)] 131)):=U.alloc (by have:=U.size;omega) _;have ac:=x.alloc (.cells #[.string ab,.int .i64 line,.slice ao its.length Y,.map (some m)] 131);go_wp2;generalize wr.alloc (.cells #[.string ab,.int .i64 line,.slice ao its.length Y,.map (some m)] 131)=W3 at aj ac;clear c0 c1 c2 c3 x U O
   go_loopw [22,3] (fun tj tc wi=>∃(j:Nat) (cv:Value),j≤its.length∧tj=.int .i64 (j:Int)∧tc=cv∧wi.ownsRow (l.heap.size+1) 140 2 cv (T+j) (zbA ((zaw F).take (T+j)))∧Below (l.heap.size+1) W2 wi) (fun tj _ _=>its.length-(intOf tj).toNat)
   case atStart=>exact⟨0,_,by omega,rfl,rfl,ac,aj⟩
   case round =>
    obtain⟨j,S,hj,rfl,au,u,ae⟩:=hrel;have aB:=au.symm;subst aB;clear au;have hsj:=ae.size;by_cases aE:j<its.length
    ·obtain⟨sg,capb',ax,_,aD,ay⟩:=zgD Z (by omega);have hs:=ay j aE;have ak:its[j]?=some its[j]:=List.getElem?_eq_getElem aE;have H:=aF.out j _ ak;have az:Hid ((zaw F).take (T+j+1)=(zaw F).take (T+j)++[(insM F k its[j],its[j].line)]):=zwy _ _ _ (aq.out j _ ak);generalize its[j]=i at hs H az;generalize insM F k i=ins at H az;obtain⟨d0,d1,d2,d3,d4,d5,d6,d7⟩:=hs;have O:qB w wr:=y.trans (ae.mono (by omega));have z:∀ j,wr.cell? ⟨sg,j,none⟩=w.cell? ⟨sg,j,none⟩:=fun j=>O.cell (p:=⟨sg,j,none⟩) aD;rw [←z] at d0 d1 d2 d3 d4 d5 d6 d7;clear z ay ak;simp only [Value.slice.injEq,true_and] at ax;obtain⟨rfl,rfl⟩:=ax;have hj8:j*8≤2400:=by omega
     have hX:qB wr (wr.alloc (.cells #[.int .i64 i.sort,.int .i64 i.line,.string i.word,.int .i64 i.a,.int .i64 i.b,.int .i64 i.c,.int .i64 i.n,.string i.nm] 135)):=(Below.refl _ _).alloc (Nat.le_refl _) _;have aA:(wr.alloc (.cells #[.int .i64 i.sort,.int .i64 i.line,.string i.word,.int .i64 i.a,.int .i64 i.b,.int .i64 i.c,.int .i64 i.n,.string i.nm] 135)).heap.size=wr.heap.size+1:=by simp
     have q:∀ o,(wr.alloc (.cells #[.int .i64 i.sort,.int .i64 i.line,.string i.word,.int .i64 i.a,.int .i64 i.b,.int .i64 i.c,.int .i64 i.n,.string i.nm] 135)).cell? ⟨l.heap.size,o,none⟩=W2.cell? ⟨l.heap.size,o,none⟩:=fun o=>(hX.cell (p:=⟨l.heap.size,o,none⟩) (by show l.heap.size<_;omega)).trans (ae.cell (p:=⟨l.heap.size,o,none⟩) (by show l.heap.size<_;omega));have H4:(wr.alloc (.cells #[.int .i64 i.sort,.int .i64 i.line,.string i.word,.int .i64 i.a,.int .i64 i.b,.int .i64 i.c,.int .i64 i.n,.string i.nm] 135)).cell? ⟨l.heap.size,0,none⟩=some (.slice (some ⟨r,0,none⟩) F.length d)∧(wr.alloc (.cells #[.int .i64 i.sort,.int .i64 i.line,.string i.word,.int .i64 i.a,.int .i64 i.b,.int .i64 i.c,.int .i64 i.n,.string i.nm] 135)).cell? ⟨l.heap.size,1,none⟩=some (.map (some pm))∧(wr.alloc (.cells #[.int .i64 i.sort,.int .i64 i.line,.string i.word,.int .i64 i.a,.int .i64 i.b,.int .i64 i.c,.int .i64 i.n,.string i.nm] 135)).cell? ⟨l.heap.size,2,none⟩=some (.slice (some ⟨A,0,none⟩) F.length C)∧(wr.alloc (.cells #[.int .i64 i.sort,.int .i64 i.line,.string i.word,.int .i64 i.a,.int .i64 i.b,.int .i64 i.c,.int .i64 i.n,.string i.nm] 135)).cell? ⟨wr.heap.size,0,none⟩=some (.int .i64 i.sort)∧(wr.alloc (.cells #[.int .i64 i.sort,.int .i64 i.line,.string i.word,.int .i64 i.a,.int .i64 i.b,.int .i64 i.c,.int .i64 i.n,.string i.nm] 135)).cell? ⟨wr.heap.size,1,none⟩=some (.int .i64 i.line)∧(wr.alloc (.cells #[.int .i64 i.sort,.int .i64 i.line,.string i.word,.int .i64 i.a,.int .i64 i.b,.int .i64 i.c,.int .i64 i.n,.string i.nm] 135)).cell? ⟨wr.heap.size,2,none⟩=some (.string i.word)∧(wr.alloc (.cells #[.int .i64 i.sort,.int .i64 i.line,.string i.word,.int .i64 i.a,.int .i64 i.b,.int .i64 i.c,.int .i64 i.n,.string i.nm] 135)).cell? ⟨wr.heap.size,3,none⟩=some (.int .i64 i.a)∧(wr.alloc (.cells #[.int .i64 i.sort,.int .i64 i.line,.string i.word,.int .i64 i.a,.int .i64 i.b,.int .i64 i.c,.int .i64 i.n,.string i.nm] 135)).cell? ⟨wr.heap.size,4,none⟩=some (.int .i64 i.b)∧(wr.alloc (.cells #[.int .i64 i.sort,.int .i64 i.line,.string i.word,.int .i64 i.a,.int .i64 i.b,.int .i64 i.c,.int .i64 i.n,.string i.nm] 135)).cell? ⟨wr.heap.size,5,none⟩=some (.int .i64 i.c)∧(wr.alloc (.cells #[.int .i64 i.sort,.int .i64 i.line,.string i.word,.int .i64 i.a,.int .i64 i.b,.int .i64 i.c,.int .i64 i.n,.string i.nm] 135)).cell? ⟨wr.heap.size,6,none⟩=some (.int .i64 i.n)∧(wr.alloc (.cells #[.int .i64 i.sort,.int .i64 i.line,.string i.word,.int .i64 i.a,.int .i64 i.b,.int .i64 i.c,.int .i64 i.n,.string i.nm] 135)).cell? ⟨wr.heap.size,7,none⟩=some (.string i.nm) :=
      ⟨(q 0).trans p0,(q 1).trans p1,(q 2).trans p2,World.cell?_alloc_new (w:=wr) #[.int .i64 i.sort,.int .i64 i.line,.string i.word,.int .i64 i.a,.int .i64 i.b,.int .i64 i.c,.int .i64 i.n,.string i.nm] 135 0,World.cell?_alloc_new (w:=wr) #[.int .i64 i.sort,.int .i64 i.line,.string i.word,.int .i64 i.a,.int .i64 i.b,.int .i64 i.c,.int .i64 i.n,.string i.nm] 135 1,World.cell?_alloc_new (w:=wr) #[.int .i64 i.sort,.int .i64 i.line,.string i.word,.int .i64 i.a,.int .i64 i.b,.int .i64 i.c,.int .i64 i.n,.string i.nm] 135 2,World.cell?_alloc_new (w:=wr) #[.int .i64 i.sort,.int .i64 i.line,.string i.word,.int .i64 i.a,.int .i64 i.b,.int .i64 i.c,.int .i64 i.n,.string i.nm] 135 3,World.cell?_alloc_new (w:=wr) #[.int .i64 i.sort,.int .i64 i.line,.string i.word,.int .i64 i.a,.int .i64 i.b,.int .i64 i.c,.int .i64 i.n,.string i.nm] 135 4,World.cell?_alloc_new (w:=wr) #[.int .i64 i.sort,.int .i64 i.line,.string i.word,.int .i64 i.a,.int .i64 i.b,.int .i64 i.c,.int .i64 i.n,.string i.nm] 135 5,World.cell?_alloc_new (w:=wr) #[.int .i64 i.sort,.int .i64 i.line,.string i.word,.int .i64 i.a,.int .i64 i.b,.int .i64 i.c,.int .i64 i.n,.string i.nm] 135 6,World.cell?_alloc_new (w:=wr) #[.int .i64 i.sort,.int .i64 i.line,.string i.word,.int .i64 i.a,.int .i64 i.b,.int .i64 i.c,.int .i64 i.n,.string i.nm] 135 7⟩
     clear q;have G:=u.alloc (.cells #[.int .i64 i.sort,.int .i64 i.line,.string i.word,.int .i64 i.a,.int .i64 i.b,.int .i64 i.c,.int .i64 i.n,.string i.nm] 135);have am:Below (l.heap.size+1) W2 (wr.alloc (.cells #[.int .i64 i.sort,.int .i64 i.line,.string i.word,.int .i64 i.a,.int .i64 i.b,.int .i64 i.c,.int .i64 i.n,.string i.nm] 135)):=ae.alloc (by omega) _;have M4:=av.below am (by omega);have aa:=fun g (hg:S.ownBlock=some g)=>u.lt g hg;have aJ:some l.heap.size≠S.ownBlock:=fun e=>by have:=(aa _ e.symm).1;omega
     have aR:some wr.heap.size≠S.ownBlock:=fun e=>by have:=(aa _ e.symm).2;omega
     go_wp2_with fail
     generalize wr.alloc (.cells #[.int .i64 i.sort,.int .i64 i.line,.string i.word,.int .i64 i.a,.int .i64 i.b,.int .i64 i.c,.int .i64 i.n,.string i.nm] 135)=W4 at hX aA H4 G am M4;have s:=H W4.drew (M4.below ((Below.refl _ _).drew) (Nat.le_refl _));clear d0 d1 d2 d3 d4 d5 d6 d7 H u;go_region_held3 (fun W=>W.cell? ⟨l.heap.size,0,none⟩=some (.slice (some ⟨r,0,none⟩) F.length d)∧W.cell? ⟨l.heap.size,1,none⟩=some (.map (some pm))∧W.cell? ⟨l.heap.size,2,none⟩=some (.slice (some ⟨A,0,none⟩) F.length C)∧W.cell? ⟨wr.heap.size,0,none⟩=some (.int .i64 i.sort)∧W.cell? ⟨wr.heap.size,1,none⟩=some (.int .i64 i.line)∧W.cell? ⟨wr.heap.size,2,none⟩=some (.string i.word)∧W.cell? ⟨wr.heap.size,3,none⟩=some (.int .i64 i.a)∧W.cell? ⟨wr.heap.size,4,none⟩=some (.int .i64 i.b)∧W.cell? ⟨wr.heap.size,5,none⟩=some (.int .i64 i.c)∧W.cell? ⟨wr.heap.size,6,none⟩=some (.int .i64 i.n)∧W.cell? ⟨wr.heap.size,7,none⟩=some (.string i.nm))
      (first
        | exact H4
        | exact H6
        | exact H5
        | exact H7)
      (first
        | (go_at_call 81;refine s.mono ?_;rintro e w5 ⟨rfl,ad⟩;have H5:=zhn ad H4;have H6:=zhn ((Below.refl w5.heap.size w5).alloc (Nat.le_refl _) (.cells #[.iface (insT ins) (.agg (insA ins)),.int .i64 i.line] 140)) H5;have hs5:W4.heap.size≤w5.heap.size:=ad.size;have P:=zbi (w:=W4.drew) G ad (Nat.le_refl _))
        | (refine step_append_lies _ (by rfl) _ _ _ (by rfl) (l.heap.size+1) 140 i0 _ 2 24 Tryz.under93 aO aQ aK aN rfl (by omega) S (T+j) (zbA ((zaw F).take (T+j))) (by rfl) (P.alloc _)
            ⟨w5.heap.size,0,none⟩ 1 1 [.iface (insT ins) (.agg (insA ins)),.int .i64 i.line] (by rfl) (by rfl) (World.news_of_block (cs:=#[.iface (insT ins) (.agg (insA ins)),.int .i64 i.line]) (t:=140) (fr:=(0,0)) (heap_alloc_new w5 _)) (zwz _ _ rfl rfl)
            (by omega) (by unfold maxLen;omega) (by omega) (by simp;omega) (w5.heap.size+1) (by simp) ?_;intro g an w6 Q D hat hltg;have H7:=zml D aJ aR H6))
     have aH:Below (l.heap.size+1) W2 w5:=am.drew.trans (ad.mono (by show l.heap.size+1≤W4.heap.size;omega));have aM:Below (l.heap.size+1) W2 w6:=(aH.alloc (by omega) _).grown D (by simp;omega) (fun g hg=>(aa g hg).1);have E:w6.ownsRow (l.heap.size+1) 140 2 (.slice (some ⟨g,0,none⟩) (T+j+1) an) (T+j+1) (zbA ((zaw F).take (T+j+1))):=by
      rw [az.out,zjn];exact Q
     clear Q D P G H4 H5 H6 H7 s ad M4;go_wp2;go_roundw
     case rel=>exact⟨j+1,_,by omega,by go_num,rfl,E,aM⟩
     case measure=>simp [intOf];omega
    ·have aL:j=its.length:=by omega
     subst aL;have E:wr.ownsRow (l.heap.size+1) 140 2 S (lenF (F.take (k+1))) (zbA ((zaw F).take (lenF (F.take (k+1))))):=by
      rw [aw.out];exact u
     clear u;go_wp2;go_roundw
     case rel=>exact⟨k+1,_,by omega,by go_num,rfl,E,ae⟩
     case measure=>simp [intOf];omega
  ·have aI:k=F.length:=by omega
   subst aI;rw [List.take_length,←ap,List.take_length] at x;obtain⟨g,an,rfl,hg,aS,hC⟩:=ztN x K.some_;have O:qB w wr:=y.trans (U.mono (by omega));clear x;go_wp2;go_ret;exact⟨g,an,rfl,by omega,aS,hC,O⟩
end Go.Proofs.YtfpgjkbjbbgciaaGreatDoor
