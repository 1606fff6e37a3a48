import Derived.Test.YtfpgjkbjbbgciaaGreatDoorMk47
import Derived.Test.YtfpgjkbjbbgciaaGreatDoorMk48
set_option maxRecDepth 100000
set_option maxHeartbeats 8000000
namespace Go.Proofs.YtfpgjkbjbbgciaaGreatDoor
section
open Sp
theorem zz9{L:List Said}{C:List (Ins × Int)}{lb fb:ByteArray→Int}(B:List Ln)(j:Nat)(h:∀ m (hm:m<B.length),∃ hj:j+m<L.length,L[j+m]=B[m].said∧(L[j+m].kind=105→zcb C (cnt L (j+m)) (insN lb fb L[j+m]))∧(L[j+m].kind=108→lb (L[j+m].word 0)=(cnt L (j+m):Int))):Lies C lb fb B (cnt L j) (cnt L (j+B.length)):=by
 induction B generalizing j with
 | nil=>exact rfl
 | cons l r ih =>
  obtain⟨hj,n,o,p⟩:=h 0 (by simp);have h1':L[j]=l.said:=n;have b:L[j].kind=105→zcb C (cnt L j) (insN lb fb L[j]):=o;have c:L[j].kind=108→lb (L[j].word 0)=(cnt L j:Int):=p;rw [h1'] at b c;have a:=ih (j+1) (fun m hm=>by
   obtain⟨f,g,i,k⟩:=h (m+1) (by simpa using hm);have e:j+(m+1)=j+1+m:=by omega
   simp only [e] at f g i k;exact⟨f,g,i,k⟩)
  rw [List.length_cons,show j+(r.length+1)=j+1+r.length by omega];unfold Lies;by_cases d:l.said.kind=105
  ·rw [if_pos d];rw [zg4 L j hj (by rw [h1'];exact d)] at a;exact⟨b d,a⟩
  ·rw [if_neg d];rw [zdE L j hj (by rw [h1'];exact d)] at a;exact⟨c,a⟩
theorem zxO{F:List FnM}{k:Nat}{it:It}{q:Said}{line:Int}(h:it.key=keyQ q line):insM F k it=insN (labM F k) (fnM F) q:=by
 have e1:it.word=zdQ q:=congrArg Key.word h;have d:it.nm=zcC q:=congrArg Key.nm h;have e:it.a=(opQ q).a:=congrArg Key.a h;have f:it.b=(opQ q).b:=congrArg Key.b h;have g:it.c=(opQ q).c:=congrArg Key.c h;have i:it.n=(opQ q).n:=congrArg Key.n h;unfold insM insN;rw [e1,d,e,f,g,i]
theorem zzA{fs X Y:List Fs}{f:Fs}{F:List FnM}(hn:(fs.map Fs.name).Nodup)(hb:∀ f∈fs,BodyOk (fs.map Fs.name) f.body)(R:Right (zaq fs) F)(e:fs=X++f :: Y):
  ∃ k,fnM F (ba f.name)=(cnt (zaq fs) ((zaq X).length+1):Int)∧∀ i (hi:i<f.body.length),∃ hj:(zaq X).length+1+i<(zaq fs).length,(zaq fs)[(zaq X).length+1+i]=f.body[i] ∧
   (f.body[i].kind=105→zcb (zao F) (cnt (zaq fs) ((zaq X).length+1+i)) (insN (labM F k) (fnM F) f.body[i]))∧(f.body[i].kind=108→labM F k (f.body[i].word 0)=(cnt (zaq fs) ((zaq X).length+1+i):Int)):=by
 have h:∀ f∈fs,zkY f.body:=fun f n=>(hb f n).nofn;have n:f∈fs:=by rw [e];simp
 have r:zb1 (zaq fs) (ba f.name) 0=((zaq X).length:Int):=by
  have:=zoM fs [] f.name h;rw [List.nil_append,List.length_nil] at this;rw [this];have e2:fnI f.name fs=some X.length:=by rw [e];exact zyb (by rw [←e];exact hn)
  rw [e2];show((0+offF fs X.length:Nat):Int)=_;rw [e,zyc];simp
 obtain⟨k,g,v,d,hline⟩:=zh5 (zaq fs) (ba f.name) 0 F R.fns 0 _ r;rw [Nat.zero_add] at d;obtain⟨A,ho,h1,hl',j,q⟩:=R.fn_at v;have w:A=(zaq X).length:=by omega
 subst w;have c:∀ i (hi:i<f.body.length),(zaq fs)[(zaq X).length+1+i]?=some f.body[i]:=fun i hi=>by
  rw [e,zdd,List.getElem?_append_right (by omega),show(zaq X).length+1+i-(zaq X).length=i+1 by omega,List.cons_append,List.getElem?_cons_succ,List.getElem?_append_left hi,List.getElem?_eq_getElem hi]
 refine⟨k,by unfold fnM;rw [d,q];rfl,fun i hi=>?_⟩;have hj:=(List.getElem?_eq_some_iff.1 (c i hi)).1;have l:=(List.getElem?_eq_some_iff.1 (c i hi)).2;have u:NoFn (zaq fs) ((zaq X).length+1) ((zaq X).length+1+i):=fun m hm a b=>by
  have t:=(List.getElem?_eq_some_iff.1 (c (m-((zaq X).length+1)) (by omega))).2;have em:(zaq X).length+1+(m-((zaq X).length+1))=m:=by omega
  simp only [em] at t;rw [t];exact h f n _ (List.getElem_mem _)
 refine⟨hj,l,fun h5=>?_,fun h8=>?_⟩
 ·obtain⟨z,s,o⟩:=R.place v j q hj (by omega) (by rw [l];exact h5) u;obtain⟨y,hpe⟩:=List.getElem?_eq_some_iff.1 s;refine⟨y,?_⟩;rw [hpe];show insM F k z=_;rw [zxO o,l]
 ·have p:zbg (zaq fs) (f.body[i].word 0) ((zaq X).length+1)=(((zaq X).length+1+i:Nat):Int):=by
   have:=zpQ (zaq X++[f.head]) f.body (zaq Y) (f.body[i].word 0) (h f n) (zjo Y);rw [List.length_append,List.append_assoc] at this;simp only [List.length_singleton,List.singleton_append] at this;rw [(hb f n).labs i hi h8] at this;rw [e,zdd];exact this
  obtain⟨x,_⟩:=zfT (zaq fs) R.wf (f.body[i].word 0) ((zaq X).length+1) g.its j 0 _ p;have hle:=zmb (zaq fs) (show(zaq X).length+1≤(zaq X).length+1+i by omega);unfold labM;rw [v];show(lenF (F.take k):Int)+(((zb6 (zbO g.its) (f.body[i].word 0)).getD 0:Nat):Int)=_;rw [show zbO g.its=zbc 0 g.its from rfl,x,←q];show((cnt (zaq fs) ((zaq X).length+1):Nat):Int)+((0+(cnt (zaq fs) ((zaq X).length+1+i)-cnt (zaq fs) ((zaq X).length+1)):Nat):Int)=_;omega
theorem zv6(P:List (List Ln))(A:List Ln)(r:List (List Ln)):∃ X,fsT (P++A :: r)=X++⟨fnW r.length,(A++[zbZ]++(if r=[] then [zcY] else [])).map Ln.said⟩ :: fsT r∧(P=[]→X=[]):=by
 induction P with
 | nil=>exact⟨[],rfl,fun _=>rfl⟩
 | cons B P ih =>
  obtain⟨X,h,_⟩:=ih;refine⟨⟨fnW (P++A :: r).length,(B++[zbZ]++(if(P++A :: r)=[] then [zcY] else [])).map Ln.said⟩ :: X,?_,fun e=>by cases e⟩;show _ :: fsT (P++A :: r)=_;rw [h];rfl
theorem WroteS.suffix{fs:Nat→Fw}{P r:List (List Ln)}(h:WroteS fs (P++r)):WroteS fs r:=by
 induction P with
 | nil=>exact h
 | cons B P ih=>exact ih h.2.2.2
theorem zA0{fw:Nat→Fw}{G P r:List (List Ln)}{A:List Ln}{F:List FnM}(hW:Wrote G)(hl:G.length≤1000000)(e:G=P++A :: r)(hS:WroteS fw (A :: r))(R:Right (zaq (fsT G)) F)(K:zzy (zao F) (fnM F) r.length fw)(hw:(fw r.length).wt<1073741824):
  ∃ ent e:Nat,fnM F (ba (fnW r.length))=(ent:Int)∧FnSem (zao F) ent e (fw r.length).wt (fw r.length).gv (fw r.length).fr∧(P=[]→ent=0):=by
 have h:((fsT G).map Fs.name).Nodup:=by rw [zlc];exact zjs _ hl
 have g:=hW.body ((fsT G).map Fs.name) (fun k hk=>by rw [zlc];exact List.mem_map_of_mem (List.mem_reverse.2 (List.mem_range.2 hk))) hl;obtain⟨X,j,f⟩:=zv6 P A r;rw [←e] at j;obtain⟨k,p,i⟩:=zzA h g R j;have b:=zz9 (C:=zao F) (lb:=labM F k) (fb:=fnM F) (L:=zaq (fsT G)) A ((zaq X).length+1) (fun m hm=>by
  obtain⟨l,c,a,d⟩:=i m (by simp;omega);have n:((A++[zbZ]++(if r=[] then [zcY] else [])).map Ln.said)[m]'(by simp;omega)=A[m].said:=by
   rw [List.getElem_map,List.getElem_append_left (by simp;omega),List.getElem_append_left hm]
  simp only [n] at c a d;rw [←c] at a d;exact⟨l,c,a,d⟩)
 obtain⟨l,c,a,d⟩:=i A.length (by simp);have n:((A++[zbZ]++(if r=[] then [zcY] else [])).map Ln.said)[A.length]'(by simp)=zbZ.said:=by
  rw [List.getElem_map,List.getElem_append_left (by simp),List.getElem_append_right (Nat.le_refl _)];simp
 simp only [n] at a;refine⟨_,cnt (zaq (fsT G)) ((zaq X).length+1+A.length),p,⟨hS.1 hw (zao F) (labM F k) (fnM F) _ _ R.sure K b,?_,hS.2.1⟩,fun hP=>?_⟩
 ·have:=a (zvq (lb:=fnM F) (fb:=fnM F)).1;rw [zvq.2] at this;exact this
 ·have this:(zaq (fsT G))[0]?=some ⟨102,[ba [102,117,110,99],ba (fnW r.length)],true⟩:=by rw [j,f hP];simp [zaq,Fs.said]
  obtain⟨o,g1⟩:=List.getElem?_eq_some_iff.1 this;rw [f hP];show cnt (zaq (fsT G)) (0+1)=0;rw [zdE _ 0 o (by rw [g1];show ¬(102:Int)=105;decide)];rfl
theorem zA4{fw:Nat→Fw}{G:List (List Ln)}{F:List FnM}(hW:Wrote G)(hl:G.length≤1000000)(hS:WroteS fw G)(R:Right (zaq (fsT G)) F)(r:List (List Ln)):∀ P,G=P++r→zzy (zao F) (fnM F) r.length fw:=by
 induction r with
 | nil=>intro P _ j c;exact absurd c (Nat.not_lt_zero _)
 | cons A r ih =>
  intro P e j c f;have K:=ih (P++[A]) (by rw [e];simp);rw [List.length_cons] at c;by_cases d:j<r.length
  ·exact K j d f
  ·have h:j=r.length:=by omega
   subst h;have b:WroteS fw (A :: r):=by rw [e] at hS;exact hS.suffix
   obtain⟨a,g,i,k,_⟩:=zA0 hW hl e b R K f;exact⟨a,g,i,k⟩
theorem zsv{fw:Nat→Fw}{G:List (List Ln)}(hW:Wrote G)(h0:G≠[])(hl:G.length≤1000000)(hS:WroteS fw G){F:List FnM}(R:Right ((lnsT G++[zcY]).map Ln.said) F)(hw:(fw (G.length-1)).wt≤10000)(hf:(fw (G.length-1)).fr≤16):
  ∃ bs bf:Int,VerdL ((lnsT G++[zcY]).map Ln.said) (some (bs,bf))∧1≤bs∧bs≤((fw (G.length-1)).wt:Int)+1∧1≤bf∧bf≤(G.length:Int)∧∀ inp:List Int,(∀ x∈inp,i64 x)→(ranL ((lnsT G++[zcY]).map Ln.said) inp bs).fin=2∧(ranL ((lnsT G++[zcY]).map Ln.said) inp bs).frames=0:=by
 rw [←zuY G h0 hl] at R ⊢;cases G with
 | nil=>exact absurd rfl h0
 | cons A r =>
  rw [List.length_cons,Nat.add_sub_cancel] at hw hf ⊢;have K:=zA4 hW hl hS R r [A] rfl;obtain⟨ent,e,_,a,h3⟩:=zA0 (P:=[]) hW hl rfl hS R K (by omega);rw [h3 rfl] at a;obtain⟨bs,bf,b,c,d,f,b4⟩:=zz7 R.sure a hf (by omega);have:=hS.2.2.1;exact⟨bs,bf,⟨F,R,b⟩,c,d,f,by omega,fun inp hin=>znl R a hf ⟨F,R,b⟩ inp hin⟩
end
section
open Go.RowKit Sp
theorem zuD{s:ByteArray}{bs bf er ln:Int}(h:VerS s bs bf er ln)(b:Bool)(hb:b=decide (er=0∧ln=0))(w:World)(hw:LibW w)(hs:s.size≤9223372036854775807):Calls Tryz.prog 34 #[.string s] w fun e w'=>e=.returned (.tuple #[.agg #[.int .i64 bs,.int .i64 bf],.bool b])∧Below w.heap.size w w':=by
 have i:Below w.heap.size w (w.alloc (.cells #[.int .i64 0,.int .i64 0] 42)):=(Below.refl _ _).alloc (Nat.le_refl _) _;have C:(w.alloc (.cells #[.int .i64 0,.int .i64 0] 42)).heap.size=w.heap.size+1:=by simp
 have J:=World.cell?_alloc_new (w:=w) #[.int .i64 0,.int .i64 0] 42 0;have K:=World.cell?_alloc_new (w:=w) #[.int .i64 0,.int .i64 0] 42 1;have D:=fun j=>zkV w #[.int .i64 0,.int .i64 0] 42 j;have g:=zrQ h (w.alloc (.cells #[.int .i64 0,.int .i64 0] 42)) (hw.below i) hs;have I:∀ d:World,Below (w.alloc (.cells #[.int .i64 0,.int .i64 0] 42)).heap.size (w.alloc (.cells #[.int .i64 0,.int .i64 0] 42)) d→d.cell? ⟨w.heap.size,0,none⟩=some (.int .i64 0)∧d.cell? ⟨w.heap.size,1,none⟩=some (.int .i64 0)∧d.frozen? ⟨w.heap.size,0,none⟩=false∧d.frozen? ⟨w.heap.size,1,none⟩=false∧w.heap.size<d.heap.size∧¬w.heap.size=d.heap.size∧Below w.heap.size w ((d.alloc (.cells #[.int .i64 bs,.int .i64 bf] 42))):=fun d c=>by
  have e:=c.block w.heap.size (by rw [C];omega);have B:=c.size;rw [C] at B;refine⟨(World.cell?_of_block (a:=⟨w.heap.size,0,none⟩) e).trans J,(World.cell?_of_block (a:=⟨w.heap.size,1,none⟩) e).trans K,(World.frozen?_of_block (a:=⟨w.heap.size,0,none⟩) e).trans (D 0),(World.frozen?_of_block (a:=⟨w.heap.size,1,none⟩) e).trans (D 1),by omega,by omega,?_⟩;exact(i.trans (c.mono (by omega))).alloc (by omega) _
 have x:Hid _:=I;have k:=i;clear I i C J K D;have m:∀ d:World,Below (w.alloc (.cells #[.int .i64 0,.int .i64 0] 42)).heap.size (w.alloc (.cells #[.int .i64 0,.int .i64 0] 42)) d→∀ W,W=((d.setCell ⟨w.heap.size,0,none⟩ (.int .i64 bs)).setCell ⟨w.heap.size,1,none⟩ (.int .i64 bf)).alloc (.cells #[.int .i64 bs,.int .i64 bf] 42)→W.cell? ⟨w.heap.size,0,none⟩=some (.int .i64 bs)∧W.cell? ⟨w.heap.size,1,none⟩=some (.int .i64 bf)∧Below w.heap.size w W:=fun d c W hW=>by
  obtain⟨q,y,E,F,n,o,A⟩:=x.out d c;have L:(d.setCell ⟨w.heap.size,0,none⟩ (.int .i64 bs)).cell? ⟨w.heap.size,0,none⟩=some (.int .i64 bs):=World.cell?_setCell_same _ _ _ q;have G:(d.setCell ⟨w.heap.size,0,none⟩ (.int .i64 bs)).cell? ⟨w.heap.size,1,none⟩=some (.int .i64 0):=by rw [zat _ w.heap.size 0 1 _ _ q,if_neg (by omega)];exact y
  have M:((d.setCell ⟨w.heap.size,0,none⟩ (.int .i64 bs)).setCell ⟨w.heap.size,1,none⟩ (.int .i64 bf)).cell? ⟨w.heap.size,0,none⟩=some (.int .i64 bs):=by rw [zat _ w.heap.size 1 0 _ _ G,if_neg (by omega)];exact L
  have N:((d.setCell ⟨w.heap.size,0,none⟩ (.int .i64 bs)).setCell ⟨w.heap.size,1,none⟩ (.int .i64 bf)).cell? ⟨w.heap.size,1,none⟩=some (.int .i64 bf):=World.cell?_setCell_same _ _ _ G;rw [hW];refine⟨by rw [World.cell?_alloc_some _ _ _ (by rw [M];rfl)];exact M,by rw [World.cell?_alloc_some _ _ _ (by rw [N];rfl)];exact N,?_⟩;have r:Below w.heap.size w d:=k.trans (c.mono (by simp));have l:=(r.setCell (p:=⟨w.heap.size,0,none⟩) (Nat.le_refl _) (.int .i64 bs)).setCell (p:=⟨w.heap.size,1,none⟩) (Nat.le_refl _) (.int .i64 bf);exact l.alloc l.size _
 have z:Hid _:=m;clear m k;by_cases h1:er=0
 ·by_cases H:ln=0
  ·go_enter Tryz.func34,Tryz.ntmps34;go_wp2_with(first|(go_at_call 26;(with_reducible refine g.mono ?_);rintro e d ⟨rfl,c⟩;obtain⟨q,y,E,F,n,o,A⟩:=x.out d c))
   obtain⟨t,u,f⟩:=z.out d c _ rfl;refine bodyPost_ret (v:=.tuple #[.agg #[.int .i64 bs,.int .i64 bf],.bool b]) ?_ rfl ⟨rfl,f⟩;rw [show b=true by rw [hb];simp [h1,H]];simp [results,Tryz.results34,go_sem,t,u]
  ·go_enter Tryz.func34,Tryz.ntmps34;go_wp2_with(first|(go_at_call 26;(with_reducible refine g.mono ?_);rintro e d ⟨rfl,c⟩;obtain⟨q,y,E,F,n,o,A⟩:=x.out d c))
   obtain⟨t,u,f⟩:=z.out d c _ rfl;refine bodyPost_ret (v:=.tuple #[.agg #[.int .i64 bs,.int .i64 bf],.bool b]) ?_ rfl ⟨rfl,f⟩;rw [show b=false by rw [hb];simp [H]];simp [results,Tryz.results34,go_sem,t,u,H]
 ·go_enter Tryz.func34,Tryz.ntmps34;go_wp2_with(first|(go_at_call 26;(with_reducible refine g.mono ?_);rintro e d ⟨rfl,c⟩;obtain⟨q,y,E,F,n,o,A⟩:=x.out d c))
  obtain⟨t,u,f⟩:=z.out d c _ rfl;refine bodyPost_ret (v:=.tuple #[.agg #[.int .i64 bs,.int .i64 bf],.bool b]) ?_ rfl ⟨rfl,f⟩;rw [show b=false by rw [hb];simp [h1]];simp [results,Tryz.results34,go_sem,t,u]
theorem zrV{FIN:Mc}(h:ranL ((lines ze3).map say) [] 1=FIN):FIN.steps=1∧FIN.fin=2:=by
 subst h;exact⟨by kernel_rfl,by kernel_rfl⟩
theorem zhm(m:Mc)(ov:Value)(line:Int):(zaH m ov line)[0]?=some (.int .i64 m.steps):=by simp [zaH]
theorem zuE(w:World)(hw:LibW w):Calls Tryz.prog 30 #[] w fun e w'=>e=.returned (.bool true)∧Below w.heap.size w w':=by
 have F:VerS ze3 1 1 0 0:=.inr (.inr ⟨zgH,zjh,rfl,rfl⟩);have t:ze3.size≤9223372036854775807:=by show 11≤9223372036854775807;omega
 have j:Calls Tryz.prog 34 #[.string ⟨#[102,117,110,99,32,102,10,98,97,99,107]⟩] w fun e w'=>e=.returned (.tuple #[.agg #[.int .i64 1,.int .i64 1],.bool true])∧Below w.heap.size w w':=zuD F true (by decide) w hw t;have c:∀ W,LibW W→Calls Tryz.prog 25 #[.string ⟨#[102,117,110,99,32,102,10,98,97,99,107]⟩,.slice none 0 0] W (zdk W ⟨ranL ((lines ze3).map say) [] 1,(ranL ((lines ze3).map say) [] 1).line,0,0⟩):=fun W hW=>(zmK ze3 W hW t none 0 [] ⟨none,0,rfl,Nat.le_refl _,fun h=>absurd h (Nat.lt_irrefl 0)⟩ (Nat.zero_le _)).mono fun e w' ⟨T,hT,hp⟩=>by rw [hT.inn zgH zjh] at hp;exact hp
 obtain⟨J,K⟩:=zrV rfl;generalize ranL ((lines ze3).map say) [] 1=FIN at c J K;clear F;go_enter Tryz.func30,Tryz.ntmps30;go_wp2_with(first
  | (go_at_call 34;(with_reducible refine j.mono ?_);rintro e b ⟨rfl,r⟩;have q:Below b.heap.size b (b.alloc (.cells #[.int .i64 1,.int .i64 1] 42)):=(Below.refl _ _).alloc (Nat.le_refl _) _;have k:=r.trans (q.mono r.size);have s:=c _ (hw.below k))
  | (go_at_call 25;refine Hid.out ?_))
 unfold Hid;refine s.mono ?_;rintro e a ⟨x,v,n,rfl,_,g⟩;dsimp only;have G:(b.alloc (.cells #[.int .i64 1,.int .i64 1] 42)).cell? ⟨b.heap.size,0,none⟩=some (.int .i64 1):=World.cell?_alloc_new (w:=b) #[.int .i64 1,.int .i64 1] 42 0;have H:(b.alloc (.cells #[.int .i64 1,.int .i64 1] 42)).cell? ⟨b.heap.size,1,none⟩=some (.int .i64 1):=World.cell?_alloc_new (w:=b) #[.int .i64 1,.int .i64 1] 42 1;have hs2:(b.alloc (.cells #[.int .i64 1,.int .i64 1] 42)).heap.size=b.heap.size+1:=by simp
 have y:=za5 g G;have z:=za5 g H;have o:=k.trans (g.mono k.size);have hlt:b.heap.size<a.heap.size:=Nat.lt_of_lt_of_le (by rw [hs2];omega) g.size;have l:=zbF FIN (.slice x v n) FIN.line;have E:=zcs FIN x v n FIN.line;have A:=zhm FIN (.slice x v n) FIN.line;have d:=zkl FIN (.slice x v n) FIN.line;rw [J] at A;rw [K] at d;generalize zaH FIN (.slice x v n) FIN.line=ds at l E A d;have I:=zcv ds l;have u:=zfN (W1:=a) rfl ds l;have f:Below a.heap.size a ((a.alloc Z34).setCells a.heap.size 0 ds.toArray.toList):=za8 _ 0 ((Below.refl a.heap.size a).alloc (Nat.le_refl _) _) (Nat.le_refl _);have i:((a.alloc Z34).setCells a.heap.size 0 ds.toArray.toList).rangeAt a.heap.size 0 ds:=by rw [show ds.toArray.toList=ds by simp];exact World.rangeAt_setCells_same _ _ _ _ (by rw [show ds.length=ds.toArray.size by simp];exact u)
 have D:=i 0 _ A;have m:=i 29 _ d;rw [Nat.zero_add] at D m;have B:=za5 f y;have C:=za5 f z;have p:=o.trans (f.mono o.size);generalize hw3:(a.alloc Z34).setCells a.heap.size 0 ds.toArray.toList=w3 at f i D m B C p;clear i A d y z G H s c j q;go_wp2_with(first|(refine wpList_store_mid rfl 34 _ _ rfl a.heap.size 0 ds.toArray rfl rfl u I E ?_;rw [hw3]))
 go_ret;exact⟨rfl,p⟩
end
end Go.Proofs.YtfpgjkbjbbgciaaGreatDoor
