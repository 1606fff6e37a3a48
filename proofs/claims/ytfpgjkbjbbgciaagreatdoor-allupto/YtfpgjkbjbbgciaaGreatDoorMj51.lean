import Derived.Test.YtfpgjkbjbbgciaaGreatDoorMj42
import Derived.Test.YtfpgjkbjbbgciaaGreatDoorMj48
set_option maxRecDepth 100000
set_option maxHeartbeats 8000000
namespace Go.Proofs.YtfpgjkbjbbgciaaGreatDoor
open Go.RowKit Sp
theorem zot(W:List Kn)(h:W≠[]):∃ k ys,(k :: ys).Perm W∧∀ y∈ys,keyK k≤keyK y:=by
 induction W with
 | nil=>exact absurd rfl h
 | cons a r ih =>
  by_cases d:r=[]
  ·subst d;exact⟨a,[],List.Perm.refl _,fun y hy=>by cases hy⟩
  ·obtain⟨k,ys,c,f⟩:=ih d;by_cases b:keyK a≤keyK k
   ·refine⟨a,r,List.Perm.refl _,fun y hy=>?_⟩;rcases List.mem_cons.1 (c.mem_iff.2 hy) with e|e
    ·rw [e];exact b
    ·have:=f y e;omega
   ·refine⟨k,a :: ys,(List.Perm.swap a k ys).trans (List.Perm.cons a c),fun y hy=>?_⟩;rcases List.mem_cons.1 hy with e|e
    ·rw [e];omega
    ·exact f y e
theorem zrN{W:List Kn}(n:Nat){k:Kn}{ys:List Kn}(h:TakeR W k ys)(hn:ys.length≤n):∃ k' ys',TakeD W k' ys':=by
 induction n generalizing k ys with
 | zero =>
  have e:ys=[]:=List.length_eq_zero_iff.1 (by omega);exact⟨k,ys,h,fun y c=>by rw [e] at c;cases c⟩
 | succ n ih =>
  by_cases d:∃ y∈ys,Meet y k
  ·obtain⟨y,c,d⟩:=d;obtain⟨a,b,rfl⟩:=List.append_of_mem c;refine ih (.more h (List.perm_middle (l₁:=a) (a:=y) (l₂:=b)).symm d) ?_;simp only [List.length_append,List.length_cons] at hn ⊢;omega
  ·exact⟨k,ys,h,fun y c hM=>d ⟨y,c,hM⟩⟩
theorem zrO{C:List (Ins × Int)}(S:CodeSure C)(n:Nat){G:Gs}(h:Reach C G)(hn:500000-G.looks≤n):∃ v,Verd C v:=by
 induction n generalizing G with
 | zero =>
  by_cases a:G.W=[]
  ·exact⟨some (G.bs,G.bf),G,h,a,rfl,rfl⟩
  ·exact⟨none,G,h,a,.inl (by omega)⟩
 | succ n ih =>
  by_cases a:G.W=[]
  ·exact⟨some (G.bs,G.bf),G,h,a,rfl,rfl⟩
  ·by_cases l:500000≤G.looks
   ·exact⟨none,G,h,a,.inl l⟩
   ·by_cases m:1000<G.W.length
    ·exact⟨none,G,h,a,.inr (.inl m)⟩
    ·obtain⟨k0,g,i,f⟩:=zot G.W a;obtain⟨k,b,e⟩:=zrN g.length (.one i f) (Nat.le_refl _);have ok:=(h.t S).ok;obtain⟨K,_,_,_⟩:=e.1.kn S.ok.few ok.kn;obtain⟨p,d,c⟩:=K.next;by_cases j:k.steps=100000
     ·exact⟨none,G,h,a,.inr (.inr ⟨k,b,e,.inl j⟩)⟩
     ·cases hR:G.R.endless k with
      | none=>exact⟨none,G,h,a,.inr (.inr ⟨k,b,e,.inr (.inl hR)⟩)⟩
      | some R' =>
       cases hL:za7 C[p].1 k with
       | none=>exact⟨none,G,h,a,.inr (.inr ⟨k,b,e,.inr (.inr ⟨p,c,d,hL⟩)⟩)⟩
       | some ks =>
        exact ih (G:=⟨b++ks,G.looks+1,R',k.steps+1,max G.bf ((k.behind.length:Int)+1)⟩) (.step h ⟨k,b,ks,p,c,by omega,by omega,e,j,hR,d,hL,List.Perm.refl _,rfl,rfl,rfl⟩) (by show 500000-(G.looks+1)≤n;omega)
theorem zfN{L:List Said}{F:List FnM}(R:Right L F):∃ v,VerdL L v:=by
 obtain⟨v,a⟩:=zrO R.sure 500000 (.zero) (by omega);exact⟨v,F,R,a⟩
def toIt(k:Key):It:=⟨k.sort,k.line,k.word,k.nm,k.a,k.b,k.c,k.n⟩
def zyS(f:Fn):FnM:=⟨f.name,f.line,f.body.map toIt,undef,0⟩
theorem zxd(l:List Fn):(l.map zyS).map FnM.fn=l:=by
 rw [List.map_map];have:(FnM.fn∘zyS)=id:=funext fun f=>by
  show(⟨f.name,f.line,(f.body.map toIt).map It.key⟩:Fn)=f;rw [List.map_map,show(It.key∘toIt)=id from funext fun k=>rfl,List.map_id]
 rw [this,List.map_id]
theorem zxe(F:List Fn)(k:Key):F.length≤(addK F k).length:=by
 unfold addK;split
 ·rw [List.length_append];omega
 ·cases h:F.getLast? with
  | none=>exact Nat.le_refl _
  | some f =>
   have:F≠[]:=fun e=>by rw [e] at h;cases h
   simp only [List.length_append,List.length_dropLast,List.length_singleton];have:=List.length_pos_iff.2 this;omega
theorem zjq(K:List Key)(F:List Fn):F.length≤(K.foldl addK F).length:=by
 induction K generalizing F with
 | nil=>exact Nat.le_refl _
 | cons k r ih=>exact Nat.le_trans (zxe F k) (ih _)
theorem ze6(s:ByteArray)(h:zaQ s=(0,0)):∃ F,Right ((lines s).map say) F:=by
 have b:=ziu s h;unfold zaQ at h;by_cases g:4000<s.size∨300<(lines s).length
 ·rw [if_pos g] at h;exact absurd (congrArg Prod.fst h) (by decide)
 ·rw [if_neg g] at h;by_cases c:∀ x∈lines s,(say x).ok=true
  ·rw [zfl _ c 0,zfk _ c] at h;have a:=zk7 (lines s);generalize zbl (lines s) (lines s).length=K at h a;cases K with
   | nil=>exact absurd (congrArg Prod.fst h) (by decide)
   | cons k r =>
    unfold sayK at h;dsimp only at h;by_cases d:k.sort=0
    ·have e:=znL _ 0 k r a.symm d;refine⟨(zbc ((lines s).map say) 0).map zyS,b,zi0 _ 0 k r a.symm d,zxd _,?_⟩;rw [List.length_map,←e];have i:0<(addK [] k).length:=by unfold addK;rw [if_pos d];simp
     exact Nat.lt_of_lt_of_le i (zjq r _)
    ·rw [if_neg d] at h;exact absurd (congrArg Prod.fst h) (show ¬(2:Int)=0 by decide)
  ·exfalso;have:∃ x∈lines s,¬(say x).ok=true:=by
    refine Classical.byContradiction fun hn=>c fun x f=>?_;refine Classical.byContradiction fun hx'=>hn ⟨x,f,hx'⟩
   obtain⟨x,f,m⟩:=this;obtain⟨j,l,rfl⟩:=List.mem_iff_getElem.1 f;exact zkG (lines s) 0 j l (by omega) (by simpa using m) h
def VerS(s:ByteArray)(bs bf er ln:Int):Prop:=(¬zaQ s=(0,0)∧zaQ s=(er,ln)∧bs=0∧bf=0)∨(zaQ s=(0,0)∧VerdL ((lines s).map say) none∧bs=0∧bf=0∧er=8∧ln=0)∨(zaQ s=(0,0)∧VerdL ((lines s).map say) (some (bs,bf))∧er=0∧ln=0)
theorem VerS.unique{s:ByteArray}{a b c d a' b' c' d':Int}(h:VerS s a b c d)(h':VerS s a' b' c' d'):a=a'∧b=b'∧c=c'∧d=d':=by
 rcases h with ⟨n,r,m,o⟩|⟨r,v,m,o,q,p⟩|⟨r,v,q,p⟩ <;> rcases h' with ⟨l,e,g,k⟩|⟨e,f,g,k,i,j⟩|⟨e,f,i,j⟩
 ·rw [r] at e;cases e;exact⟨by omega,by omega,rfl,rfl⟩
 ·exact absurd e n
 ·exact absurd e n
 ·exact absurd r l
 ·exact⟨by omega,by omega,by omega,by omega⟩
 ·have:=v.unique f;cases this
 ·exact absurd r l
 ·have:=v.unique f;cases this
 ·have:=v.unique f;cases this;exact⟨rfl,rfl,by omega,by omega⟩
theorem zou(s:ByteArray)(w:World)(hw:LibW w)(hs:s.size≤9223372036854775807):qC 26 #[.string s] w fun e w'=>∃ bs bf er ln,VerS s bs bf er ln∧zmO w bs bf er ln e w':=by
 have l:=zja w s;have d:=zd6 (VfW w s);have q:qB w (OutW (VfW w s)):=l.trans (d.mono l.size);have k:=hw.below q;have hsz:=zkV w s;obtain⟨t,r,x,z⟩:=zuQ w s;have g:(OutW (VfW w s)).cell? ⟨w.heap.size,0,none⟩=some (.string s):=(World.cell?_of_block (a:=⟨w.heap.size,0,none⟩) (d.block _ (by show w.heap.size<_;rw [hsz];omega))).trans t;have p:(OutW (VfW w s)).cell? ⟨w.heap.size+1,0,none⟩=some (.int .i64 0):=(World.cell?_of_block (a:=⟨w.heap.size+1,0,none⟩) (d.block _ (by show w.heap.size+1<_;rw [hsz];omega))).trans r;have o:(OutW (VfW w s)).cell? ⟨w.heap.size+1,1,none⟩=some (.int .i64 0):=(World.cell?_of_block (a:=⟨w.heap.size+1,1,none⟩) (d.block _ (by show w.heap.size+1<_;rw [hsz];omega))).trans x;have u:∀ j,(OutW (VfW w s)).frozen? ⟨w.heap.size+1,j,none⟩=false:=fun j=>(World.frozen?_of_block (a:=⟨w.heap.size+1,j,none⟩) (d.block _ (by show w.heap.size+1<_;rw [hsz];omega))).trans (z j);by_cases f:zaQ s=(0,0)
 ·have n:=zuP _ k w.heap.size (w.heap.size+1) s g _ (zh9 s f) p o u;by_cases m:VerdL ((lines s).map say) none
  ·refine(zeV w s 8 0 (n.mono ?_)).mono fun e w' h=>⟨0,0,8,0,.inr (.inl ⟨f,m,rfl,rfl,rfl,rfl⟩),h⟩
   rintro e w' (⟨rfl,_,hb⟩|⟨bs,bf,_,c,_⟩)
   ·exact⟨rfl,hb⟩
   ·have:=m.unique c;cases this
  ·by_cases i:∃ b,VerdL ((lines s).map say) (some b)
   ·obtain⟨⟨bs,bf⟩,i⟩:=i;refine(zrM w s bs bf (n.mono ?_)).mono fun e w' h=>⟨bs,bf,0,0,.inr (.inr ⟨f,i,rfl,rfl⟩),h⟩
    rintro e w' (⟨_,c,_⟩|⟨bs2,bf2,rfl,c,w1,hb,rfl⟩)
    ·exact absurd c m
    ·have:=i.unique c;cases this;exact⟨rfl,w1,hb,rfl⟩
   ·exfalso;obtain⟨F,R⟩:=ze6 s f;obtain⟨v,c⟩:=zfN R;cases v with
    | none=>exact m c
    | some b=>exact i ⟨b,c⟩
 ·have n:=zxc _ k w.heap.size (w.heap.size+1) s g (zaQ s) f (zgm s hs);exact(zeV w s _ _ n).mono fun e w' h=>⟨0,0,(zaQ s).1,(zaQ s).2,.inl ⟨f,rfl,rfl,rfl⟩,h⟩
theorem zkj(s:ByteArray):∃ bs bf er ln,VerS s bs bf er ln:=by
 by_cases a:zaQ s=(0,0)
 ·obtain⟨F,R⟩:=ze6 s a;obtain⟨v,c⟩:=zfN R;cases v with
  | none=>exact⟨0,0,8,0,.inr (.inl ⟨a,c,rfl,rfl,rfl,rfl⟩)⟩
  | some b=>exact⟨b.1,b.2,0,0,.inr (.inr ⟨a,c,rfl,rfl⟩)⟩
 ·exact⟨0,0,(zaQ s).1,(zaQ s).2,.inl ⟨a,rfl,rfl,rfl⟩⟩
theorem zfs{s:ByteArray}{bs bf er ln:Int}(h:VerS s bs bf er ln)(w:World)(hw:LibW w)(hs:s.size≤9223372036854775807):qC 26 #[.string s] w (zmO w bs bf er ln):=by
 refine(zou s w hw hs).mono ?_;rintro e w' ⟨a,b,c,d,f,g⟩;obtain⟨rfl,rfl,rfl,rfl⟩:=h.unique f;exact g
theorem zjb{w:World}{g q o:Nat}{x:Int}{v:Value}{L:List Said}(h:LinesIn w g L)(hq:w.cell? ⟨q,0,none⟩=some (.int .i64 x))(hg:¬g=q):LinesIn (w.setCell ⟨q,o,none⟩ v) g L:=by
 have e:∀ b j,¬b=q→(w.setCell ⟨q,o,none⟩ v).cell? ⟨b,j,none⟩=w.cell? ⟨b,j,none⟩:=fun b j d=>World.cell?_of_block (a:=⟨b,j,none⟩) (Below.heap_setCell w _ _ b d);refine⟨fun i hi=>(e _ _ hg).trans (h.kind i hi),fun i hi hp=>?_,h.wf⟩;obtain⟨b,c,k,f⟩:=h.words i hi hp;have d:¬b=q:=fun eb=>by
  have:=f 0 hp;rw [eb,hq] at this;cases this
 exact⟨b,c,(e _ _ hg).trans k,fun j hj=>(e _ _ d).trans (f j hj)⟩
theorem zkW{w w1 w2:World}{ob:Obj}(h1:qB w w1)(h2:Below (w1.alloc ob).heap.size (w1.alloc ob) w2):qB w w2:=by
 have a:=h1.size;exact(h1.alloc a ob).trans (h2.mono (by simp;omega))
def zmP(w:World)(bs bf:Int)(v0:Option Nat)(inB:Bool)(L:List Said):Ending→World→Prop:=fun e w'=>∃ v,e=.returned (.tuple #[.agg #[.int .i64 bs,.int .i64 bf],v,.bool inB,.bool true])∧qB w w'∧(v0=some 0→∃ g cap,v=.slice (some ⟨g,0,none⟩) L.length cap∧LinesIn w' g L∧w.heap.size≤g)
theorem zhu{s:ByteArray}(w:World)(hw:LibW w)(hs:s.size≤1048576)(hR:¬zaQ s=(0,0)):qC 23 #[.string s] w (zmP w 0 0 none false ((lines s).map say)):=by
 have n:qB w (w.alloc (.cells #[.int .i64 0,.int .i64 0] 42)):=(Below.refl _ _).alloc (Nat.le_refl _) _;have hs0:(w.alloc (.cells #[.int .i64 0,.int .i64 0] 42)).heap.size=w.heap.size+1:=by simp
 have A:=World.cell?_alloc_new (w:=w) #[.int .i64 0,.int .i64 0] 42 0;have z:=World.cell?_alloc_new (w:=w) #[.int .i64 0,.int .i64 0] 42 1;have rz:=fun j=>zgz w #[.int .i64 0,.int .i64 0] 42 j;obtain⟨r,t,k⟩:∃ r t,zaQ s=(r,t):=⟨_,_,rfl⟩
 have l:=zfs (.inl ⟨hR,k,rfl,rfl⟩) (w.alloc (.cells #[.int .i64 0,.int .i64 0] 42)) (hw.below n) (Nat.le_trans hs (by decide));have m:=ztv hR;have b:=fun W=>zdM s W hs;rw [k] at m;have c:∀ W:World,qC 16 #[.string s] W (zez W ((lines s).map say) (r,t)):=fun W=>by have:=b W;rw [k] at this;exact this
 simp only at m;clear hR b k;go_enter Tryz.func23,Tryz.ntmps23;go_wp2_with(first
  | (go_at_call 26;(with_reducible refine l.mono ?_);rintro e q ⟨rfl,f⟩;obtain⟨g,hf1⟩:=zdH f;have i:w.heap.size<q.heap.size:=Nat.lt_of_lt_of_le (by rw [hs0];exact Nat.lt_succ_self _) f.size)
  | (go_at_call 16;(with_reducible refine(c _).mono ?_);rintro e o ⟨v,rfl,d,hv2⟩;obtain⟨hc2,hf2⟩:=zdH d;have hz2:q.heap.size<o.heap.size:=Nat.lt_of_lt_of_le (by simp) d.size))
 have u:qB w o:=zkW (n.trans (f.mono (by omega))) d;have hsz2:w.heap.size<o.heap.size:=by omega
 have x:o.cell? ⟨w.heap.size,0,none⟩=some (.int .i64 0):=by rw [hc2 _ _ (by simp;omega),World.cell?_of_block (w:=q) (a:=⟨w.heap.size,0,none⟩) (Below.heap_alloc _ _ _ i),g _ _ (by rw [hs0];omega)];exact A
 have y:o.cell? ⟨w.heap.size,1,none⟩=some (.int .i64 0):=by rw [hc2 _ _ (by simp;omega),World.cell?_of_block (w:=q) (a:=⟨w.heap.size,1,none⟩) (Below.heap_alloc _ _ _ i),g _ _ (by rw [hs0];omega)];exact z
 refine bodyPost_ret (v:=.tuple #[.agg #[.int .i64 0,.int .i64 0],.slice none 0 0,.bool false,.bool true]) (by simp [results,Tryz.results23,go_sem,x,y]) rfl ⟨_,rfl,?_,?_⟩
 ·exact(u.setCell (p:=⟨w.heap.size,0,none⟩) (Nat.le_refl _) _).setCell (p:=⟨w.heap.size,1,none⟩) (Nat.le_refl _) _
 ·intro h;cases h
theorem zjc{s:ByteArray}(w:World)(hw:LibW w)(hs:s.size≤1048576)(hR:zaQ s=(0,0))(hv:VerdL ((lines s).map say) none):qC 23 #[.string s] w (zmP w 0 0 none false ((lines s).map say)):=by
 have k:qB w (w.alloc (.cells #[.int .i64 0,.int .i64 0] 42)):=(Below.refl _ _).alloc (Nat.le_refl _) _;have hs0:(w.alloc (.cells #[.int .i64 0,.int .i64 0] 42)).heap.size=w.heap.size+1:=by simp
 have t:=World.cell?_alloc_new (w:=w) #[.int .i64 0,.int .i64 0] 42 0;have u:=World.cell?_alloc_new (w:=w) #[.int .i64 0,.int .i64 0] 42 1;have rz:=fun j=>zgz w #[.int .i64 0,.int .i64 0] 42 j;have i:=zfs (.inr (.inl ⟨hR,hv,rfl,rfl,rfl,rfl⟩)) (w.alloc (.cells #[.int .i64 0,.int .i64 0] 42)) (hw.below k) (Nat.le_trans hs (by decide));have c:=fun W=>zdM s W hs;have b:∀ W:World,qC 16 #[.string s] W (zez W ((lines s).map say) (0,0)):=fun W=>by have:=c W;rw [hR] at this;exact this
 clear c;generalize (lines s).map say=L at b hv ⊢;go_enter Tryz.func23,Tryz.ntmps23;go_wp2_with(first
  | (go_at_call 26;(with_reducible refine i.mono ?_);rintro e n ⟨rfl,f⟩;obtain⟨g,hf1⟩:=zdH f;have m:w.heap.size<n.heap.size:=Nat.lt_of_lt_of_le (by rw [hs0];exact Nat.lt_succ_self _) f.size)
  | (go_at_call 16;(with_reducible refine(b _).mono ?_);rintro e l ⟨v,rfl,d,hv2⟩;obtain⟨hc2,hf2⟩:=zdH d;have hz2:n.heap.size<l.heap.size:=Nat.lt_of_lt_of_le (by simp) d.size))
 have o:qB w l:=zkW (k.trans (f.mono (by omega))) d;have hsz2:w.heap.size<l.heap.size:=by omega
 have q:l.cell? ⟨w.heap.size,0,none⟩=some (.int .i64 0):=by rw [hc2 _ _ (by simp;omega),World.cell?_of_block (w:=n) (a:=⟨w.heap.size,0,none⟩) (Below.heap_alloc _ _ _ m),g _ _ (by rw [hs0];omega)];exact t
 have r:l.cell? ⟨w.heap.size,1,none⟩=some (.int .i64 0):=by rw [hc2 _ _ (by simp;omega),World.cell?_of_block (w:=n) (a:=⟨w.heap.size,1,none⟩) (Below.heap_alloc _ _ _ m),g _ _ (by rw [hs0];omega)];exact u
 refine bodyPost_ret (v:=.tuple #[.agg #[.int .i64 0,.int .i64 0],v,.bool false,.bool true]) (by simp [results,Tryz.results23,go_sem,q,r]) rfl ⟨_,rfl,?_,?_⟩
 ·exact(o.setCell (p:=⟨w.heap.size,0,none⟩) (Nat.le_refl _) _).setCell (p:=⟨w.heap.size,1,none⟩) (Nat.le_refl _) _
 ·intro h;cases h
theorem zfO{s:ByteArray}{bs bf:Int}(w:World)(hw:LibW w)(hs:s.size≤1048576)(hR:zaQ s=(0,0))(hv:VerdL ((lines s).map say) (some (bs,bf)))(b1:1≤bs)(b2:bs≤100000)(f1:1≤bf)(f2:bf≤16):qC 23 #[.string s] w (zmP w bs bf (some 0) true ((lines s).map say)):=by
 have u:qB w (w.alloc (.cells #[.int .i64 0,.int .i64 0] 42)):=(Below.refl _ _).alloc (Nat.le_refl _) _;have E:(w.alloc (.cells #[.int .i64 0,.int .i64 0] 42)).heap.size=w.heap.size+1:=by simp
 have R:=World.cell?_alloc_new (w:=w) #[.int .i64 0,.int .i64 0] 42 0;have P:=World.cell?_alloc_new (w:=w) #[.int .i64 0,.int .i64 0] 42 1;have J:=fun j=>zgz w #[.int .i64 0,.int .i64 0] 42 j;have n:=zfs (.inr (.inr ⟨hR,hv,rfl,rfl⟩)) (w.alloc (.cells #[.int .i64 0,.int .i64 0] 42)) (hw.below u) (Nat.le_trans hs (by decide));have k:=fun W=>zdM s W hs;have h:∀ W:World,qC 16 #[.string s] W (zez W ((lines s).map say) (0,0)):=fun W=>by have:=k W;rw [hR] at this;exact this
 clear k;generalize (lines s).map say=L at h hv ⊢;have hnb:(bs == 0)=false:=by simpa using (by omega:¬bs=0)
 go_enter Tryz.func23,Tryz.ntmps23;go_wp2_with(first
  | (go_at_call 26;(with_reducible refine n.mono ?_);rintro e d ⟨rfl,m⟩;obtain⟨r,y⟩:=zdH m;have t:w.heap.size<d.heap.size:=Nat.lt_of_lt_of_le (by rw [E];exact Nat.lt_succ_self _) m.size)
  | (go_at_call 16;(with_reducible refine(h _).mono ?_);rintro e f ⟨v,rfl,l,C⟩;obtain⟨A,I⟩:=zdH l;have D:d.heap.size<f.heap.size:=Nat.lt_of_lt_of_le (by simp) l.size))
 have O:∀ W,qB f W→W.cell? ⟨d.heap.size,0,none⟩=some (.int .i64 bs)∧W.cell? ⟨d.heap.size,1,none⟩=some (.int .i64 bf):=fun W F=>by
  have e:∀ j,W.cell? ⟨d.heap.size,j,none⟩=(d.alloc (.cells #[.int .i64 bs,.int .i64 bf] 42)).cell? ⟨d.heap.size,j,none⟩:=fun j=>(World.cell?_of_block (a:=⟨d.heap.size,j,none⟩) (F.block _ D)).trans (A _ _ (by simp));rw [e,e,World.cell?_alloc_new,World.cell?_alloc_new];exact⟨rfl,rfl⟩
 have M:f.cell? ⟨w.heap.size,0,none⟩=some (.int .i64 0):=by rw [A _ _ (by simp;omega),World.cell?_of_block (w:=d) (a:=⟨w.heap.size,0,none⟩) (Below.heap_alloc _ _ _ t),r _ _ (by rw [E];omega)];exact R
 have N:f.cell? ⟨w.heap.size,1,none⟩=some (.int .i64 0):=by rw [A _ _ (by simp;omega),World.cell?_of_block (w:=d) (a:=⟨w.heap.size,1,none⟩) (Below.heap_alloc _ _ _ t),r _ _ (by rw [E];omega)];exact P
 have z:∀ j,f.frozen? ⟨w.heap.size,j,none⟩=false:=fun j=>by rw [I _ _ (by simp;omega),World.frozen?_of_block (w:=d) (a:=⟨w.heap.size,j,none⟩) (Below.heap_alloc _ _ _ t),y _ _ (by rw [E];omega)];exact J j
 have K:qB w f:=zkW (u.trans (m.mono (by omega))) l;have hsz2:w.heap.size<f.heap.size:=by omega
 have S:Hid (∃ g i,v=.slice (some ⟨g,0,none⟩) L.length i∧d.heap.size<g∧LinesIn f g L):=by
  obtain⟨g,i,a,b,c⟩:=C trivial;exact⟨g,i,a,by simp at b;omega,c⟩
 clear r y A I R P J n h u m l E C hv;have Q:f.drew.cell? ⟨w.heap.size,0,none⟩=some (.int .i64 0):=M;have m1:f.drew.cell? ⟨w.heap.size,1,none⟩=some (.int .i64 0):=N;have y0:f.drew.frozen? ⟨w.heap.size,0,none⟩=false:=z 0;have y1:f.drew.frozen? ⟨w.heap.size,1,none⟩=false:=z 1;have B:f.drew.cell? ⟨d.heap.size,0,none⟩=some (.int .i64 bs)∧f.drew.cell? ⟨d.heap.size,1,none⟩=some (.int .i64 bf):=O _ (Below.refl _ _).drew;have x:¬d.heap.size=w.heap.size:=by omega
 have hne2:¬w.heap.size=d.heap.size:=by omega
 have H:((f.drew.setCell ⟨w.heap.size,0,none⟩ (.int .i64 bs)).setCell ⟨w.heap.size,1,none⟩ (.int .i64 bf)).cell? ⟨d.heap.size,0,none⟩=some (.int .i64 bs)∧((f.drew.setCell ⟨w.heap.size,0,none⟩ (.int .i64 bs)).setCell ⟨w.heap.size,1,none⟩ (.int .i64 bf)).cell? ⟨d.heap.size,1,none⟩=some (.int .i64 bf):=by
  have e:∀ j,((f.drew.setCell ⟨w.heap.size,0,none⟩ (.int .i64 bs)).setCell ⟨w.heap.size,1,none⟩ (.int .i64 bf)).cell? ⟨d.heap.size,j,none⟩=f.drew.cell? ⟨d.heap.size,j,none⟩:=fun j=>World.cell?_of_block (a:=⟨d.heap.size,j,none⟩) ((Below.heap_setCell _ _ _ _ x).trans (Below.heap_setCell _ _ _ _ x));rw [e,e];exact B
 have G:qB w f.drew:=K.trans (Below.refl _ _).drew;have F:qB f f.drew:=(Below.refl _ _).drew;have kz0:=z 0;have kz1:=z 1;clear O z K;go_region_held3 (fun W=>W.cell? ⟨d.heap.size,0,none⟩=some (.int .i64 bs)∧W.cell? ⟨d.heap.size,1,none⟩=some (.int .i64 bf))
  (first
    | exact B
    | exact H)
  (first
    | fail)
 go_wp2;refine bodyPost_ret (v:=.tuple #[.agg #[.int .i64 bs,.int .i64 bf],v,.bool true,.bool true]) (by simp [results,Tryz.results23,go_sem,M,N]) rfl ⟨_,rfl,?_,fun _=>?_⟩
 ·exact(G.setCell (p:=⟨w.heap.size,0,none⟩) (Nat.le_refl _) _).setCell (p:=⟨w.heap.size,1,none⟩) (Nat.le_refl _) _
 ·obtain⟨g,i,a,b,c⟩:=S.out;have q:¬g=w.heap.size:=by omega
  have T:=zjb (o:=0) (v:=.int .i64 bs) (c.below F) Q q;exact⟨g,i,a,zjb T (World.cell?_setCell_same _ _ _ Q) q,by omega⟩
end Go.Proofs.YtfpgjkbjbbgciaaGreatDoor
