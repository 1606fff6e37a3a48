import Derived.Test.YtfpgjkbjbbgciaaGreatDoorMk13
set_option maxRecDepth 100000
set_option maxHeartbeats 8000000
namespace Go.Proofs.YtfpgjkbjbbgciaaGreatDoor
section
open Go.RowKit Sp
structure FnM where
 name:ByteArray
 line:Int
 its:List It
 bv:Value
 m:Nat
abbrev FnM.cells(f:FnM):List Value:=[.string f.name,.int .i64 f.line,f.bv,.map (some f.m)]
def zcn(F:List FnM):List Value:=F.flatMap FnM.cells
def zal(l:List It):List It:=l.filter (fun i=>!decide (i.sort=1))
theorem zlQ(l:List It)(i:It)(h:¬i.sort=1):zal (l++[i])=zal l++[i]:=by simp [zal,List.filter_append,h]
theorem zlR(l:List It)(i:It)(h:i.sort=1):zal (l++[i])=zal l:=by simp [zal,List.filter_append,h]
theorem zdD(l:List It):(zal l).length≤l.length:=List.length_filter_le _ _
def zbc:Nat→List It→List (ByteArray × Nat)
 | _,[]=>[]
 | n,i :: r=>if i.sort=1 then(i.nm,n) :: zbc n r else zbc (n+1) r
abbrev zbO(l:List It):List (ByteArray × Nat):=zbc 0 l
theorem zbU(n:Nat)(i:It)(r:List It):zbc n (i :: r)=if i.sort=1 then(i.nm,n) :: zbc n r else zbc (n+1) r:=rfl
theorem zes(n:Nat)(l r:List It):zbc n (l++r)=zbc n l++zbc (n+(zal l).length) r:=by
 induction l generalizing n with
 | nil=>simp [zbc,zal]
 | cons i l ih =>
  rw [List.cons_append,zbU,zbU];by_cases h:i.sort=1
  ·rw [if_pos h,if_pos h,ih n,show zal (i :: l)=zal l by simp [zal,h]];rfl
  ·rw [if_neg h,if_neg h,ih (n+1),show zal (i :: l)=i :: zal l by simp [zal,h]];rw [show n+1+(zal l).length=n+(i :: zal l).length by simp;omega]
theorem zjR(l:List It)(i:It)(h:i.sort=1):zbO (l++[i])=zbO l++[(i.nm,(zal l).length)]:=by
 unfold zbO;rw [zes];simp [zbc,h]
theorem zjS(l:List It)(i:It)(h:¬i.sort=1):zbO (l++[i])=zbO l:=by
 unfold zbO;rw [zes];simp [zbc,h]
theorem zd2(n:Nat)(l:List It):zbx (zbc n l)=labsOf (l.map It.key):=by
 induction l generalizing n with
 | nil=>rfl
 | cons i l ih =>
  rw [zbU];by_cases h:i.sort=1
  ·rw [if_pos h];have:=ih n;simp only [zbx] at this ⊢;simp [labsOf,It.key,h] at this ⊢;exact this
  ·rw [if_neg h];have:=ih (n+1);simp only [zbx] at this ⊢;simp [labsOf,It.key,h] at this ⊢;exact this
def zaL:Nat→List FnM→List (ByteArray × Nat)
 | _,[]=>[]
 | n,f :: r=>(f.name,n) :: zaL (n+1) r
abbrev zbj(F:List FnM):List (ByteArray × Nat):=zaL 0 F
theorem zdj(n:Nat)(f:FnM)(r:List FnM):zaL n (f :: r)=(f.name,n) :: zaL (n+1) r:=rfl
theorem zg1(n:Nat)(F G:List FnM):zaL n (F++G)=zaL n F++zaL (n+F.length) G:=by
 induction F generalizing n with
 | nil=>simp [zaL]
 | cons f F ih =>
  rw [List.cons_append,zdj,zdj,ih (n+1),show n+1+F.length=n+(f :: F).length by simp;omega];rfl
theorem zdV(F:List FnM)(f:FnM):zbj (F++[f])=zbj F++[(f.name,F.length)]:=by
 unfold zbj;rw [zg1];simp [zaL]
theorem zci(n:Nat)(F:List FnM):zbx (zaL n F)=F.map FnM.name:=by
 induction F generalizing n with
 | nil=>rfl
 | cons f F ih =>
  have:=ih (n+1);simp only [zbx,zaL,List.map_cons] at this ⊢;rw [this]
theorem zlS(F:List FnM):(zbj F).length=F.length:=by
 have:=congrArg List.length (zci 0 F);simpa [zbx] using this
def FnM.fn(f:FnM):Fn:=⟨f.name,f.line,f.its.map It.key⟩
theorem ziu(F:List FnM):(zcn F).length=F.length*4:=by
 induction F with
 | nil=>rfl
 | cons i l ih=>simp [zcn] at ih ⊢;omega
theorem zdw(F:List FnM)(f:FnM):zcn (F++[f])=zcn F++f.cells:=by simp [zcn]
theorem zjT(F:List FnM)(k:Nat)(h:k<F.length)(j:Nat)(hj:j<4):(zcn F)[k*4+j]?=F[k].cells[j]?:=by
 induction F generalizing k with
 | nil=>simp at h
 | cons i l ih =>
  have e:zcn (i :: l)=i.cells++zcn l:=by simp [zcn]
  rw [e];cases k with
  | zero =>
   rw [List.getElem?_append_left (by simp;omega)];simp
  | succ k =>
   rw [List.getElem?_append_right (by simp;omega)];have:=ih k (by simpa using h);simp only [List.getElem_cons_succ];rw [←this];congr 1;simp;omega
theorem znF(F:List FnM)(f:FnM)(its:List It)(u:Value):(zcn (F++[f])).set (F.length*4+2) u=zcn (F++[⟨f.name,f.line,its,u,f.m⟩]):=by
 rw [zdw,zdw,List.set_append_right _ _ (by rw [ziu];omega),ziu];rw [show F.length*4+2-F.length*4=2 by omega];rfl
theorem MapIs.of_block{w w':World}{b:Nat}{E:List (ByteArray × Nat)}(h:MapIs w b E)(e:w'.heap[b]?=w.heap[b]?):MapIs w' b E:=by
 obtain⟨D,⟨c,a,f,r⟩,d⟩:=h;exact⟨D,⟨c,a,e.trans f,r⟩,d⟩
theorem zbJ{w:World}{B:Nat}{e:TypeId}{size n:Nat}{v:Value}{xs:List Value}(h:w.ownsRow B e size v n xs){g:Nat}(hg:v.ownBlock=some g):∃ cur,w.heap[g]?=some (.cells cur e (0,0)):=by
 rcases h.2 with ⟨c,_⟩|⟨a,cap,cur,c,_,b,_⟩
 ·rw [c] at hg;cases hg
 ·rw [c] at hg;have:a=g:=by simpa [Value.ownBlock] using hg
  subst this;exact⟨cur,b⟩
theorem zet{w:World}{b:Nat}{E:List (ByteArray × Nat)}(h:MapIs w b E):∃ es c,w.heap[b]?=some (.map es c):=by
 obtain⟨D,⟨es,a,d,r⟩,_⟩:=h;exact⟨es,a,d⟩
structure PIn(B:Nat)(w:World)(pm:Nat)(v:Value)(F:List FnM):Prop where
 row:w.ownsRow B 131 4 v F.length (zcn F)
 bodies:∀ f∈F,w.ownsRow B 135 8 f.bv (zal f.its).length (zav (zal f.its))
 labels:∀ f∈F,MapIs w f.m (zbO f.its)
 places:MapIs w pm (zbj F)
 lowm:∀ f∈F,B≤f.m
 lowp:B≤pm
 pmNot:∀ f∈F,¬f.m=pm
 maps:F.Pairwise (fun a b=>¬a.m=b.m)
 rows:F.Pairwise (fun a b=>∀ g,a.bv.ownBlock=some g→¬b.bv.ownBlock=some g)
theorem PIn.of_blocks{B:Nat}{w w':World}{pm:Nat}{v:Value}{F:List FnM}(h:PIn B w pm v F)(hb:∀ b,B≤b→b<w.heap.size→w'.heap[b]?=w.heap[b]?):PIn B w' pm v F:=by
 refine⟨zaj h.row fun g hg=>?_,fun f hf=>zaj (h.bodies f hf) fun g hg=>?_,fun f hf=>(h.labels f hf).of_block (hb _ (h.lowm f hf) (h.labels f hf).lt),h.places.of_block (hb _ h.lowp h.places.lt),h.lowm,h.lowp,h.pmNot,h.maps,h.rows⟩
 ·have:=h.row.lt g hg;exact hb g this.1 this.2
 ·have:=(h.bodies f hf).lt g hg;exact hb g this.1 this.2
theorem PIn.start(B:Nat)(w:World)(pm:Nat)(hM:MapIs w pm [])(hB:B≤pm):PIn B w pm (.slice none 0 0) [] :=
 ⟨World.ownsRow_nil _ _ _ _,by simp,by simp,hM,by simp,hB,by simp,by simp,by simp⟩
theorem PIn.added{B:Nat}{w w1:World}{pm:Nat}{F:List FnM}{f:FnM}{i:It}{fg cap0 g cap:Nat}
  (h:PIn B w pm (.slice (some ⟨fg,0,none⟩) (F.length+1) cap0) (F++[f]))
  (hi:¬i.sort=1) (h3:w.grownBy w1 f.bv.ownBlock)
  (h4:w1.ownsRow B 135 8 (.slice (some ⟨g,0,none⟩) ((zal f.its).length+1) cap) ((zal f.its).length+1) (zav (zal f.its++[i]))) (hat:f.bv.ownBlock=some g∨w.heap.size≤g) :
  PIn B (w1.setCell ⟨fg,F.length*4+2,none⟩ (.slice (some ⟨g,0,none⟩) ((zal f.its).length+1) cap)) pm (.slice (some ⟨fg,0,none⟩) (F.length+1) cap0) (F++[⟨f.name,f.line,f.its++[i],.slice (some ⟨g,0,none⟩) ((zal f.its).length+1) cap,f.m⟩]) ∧
  Below B w (w1.setCell ⟨fg,F.length*4+2,none⟩ (.slice (some ⟨g,0,none⟩) ((zal f.its).length+1) cap)) ∧
  (∀(p:Nat) (cs:Array Value),w.heap[p]?=some (Obj.cells cs 83 (0,0))→(w1.setCell ⟨fg,F.length*4+2,none⟩ (.slice (some ⟨g,0,none⟩) ((zal f.its).length+1) cap)).heap[p]?=some (Obj.cells cs 83 (0,0))):=by
 have d:f∈F++[f]:=by simp
 have o:=h.row;have hlen:(F++[f]).length=F.length+1:=by simp
 rw [hlen] at o;obtain⟨cr,l⟩:=zbJ o (g:=fg) rfl;obtain⟨em,cm,A⟩:=zet (h.labels f d);have hfgl:fg<w.heap.size:=(Array.getElem?_eq_some_iff.1 l).1;have hml:f.m<w.heap.size:=(h.labels f d).lt;have L:¬fg=f.m:=by intro e;rw [e,A] at l;cases l
 have G:¬f.bv.ownBlock=some fg:=by
  intro e;obtain⟨v,i⟩:=zbJ (h.bodies f d) e;rw [i] at l;simp at l
 have M:¬f.bv.ownBlock=some f.m:=by
  intro e;obtain⟨v,i⟩:=zbJ (h.bodies f d) e;rw [A] at i;cases i
 have x:∀ b,b<w.heap.size→¬f.bv.ownBlock=some b→¬b=fg→(w1.setCell ⟨fg,F.length*4+2,none⟩ (.slice (some ⟨g,0,none⟩) ((zal f.its).length+1) cap)).heap[b]?=w.heap[b]?:=by
  intro b q y z;rw [Below.heap_setCell _ _ _ _ (by exact z),h3.block b q (fun e=>y e.symm)]
 have u:¬g=fg:=by
  rcases hat with e|e
  ·intro E;rw [E] at e;exact G e
  ·omega
 refine⟨⟨?_,?_,?_,?_,?_,h.lowp,?_,?_,?_⟩,?_,?_⟩
 ·have J:=o.kept h3 (.inr (by simp only [Value.ownBlock];exact fun e=>G e.symm));have C:=(World.ownsRow.stored J (F.length*4+2) (.slice (some ⟨g,0,none⟩) ((zal f.its).length+1) cap)).1;rw [znF F f (f.its++[i])] at C;simpa using C
 ·intro s c;rw [List.mem_append] at c;rcases c with c|c
  ·have j:=h.bodies s (by simp [c]);refine zaj j fun b q=>?_;obtain⟨v,i⟩:=zbJ j q;refine x b (j.lt b q).2 ?_ ?_
   ·exact(List.pairwise_append.1 h.rows).2.2 s c f (by simp) b q
   ·intro e;rw [e,l] at i;simp at i
  ·simp at c;subst c;have e:(zal f.its++[i]).length=(zal f.its).length+1:=by simp
   show World.ownsRow _ B 135 8 _ (zal (f.its++[i])).length (zav (zal (f.its++[i])));rw [zlQ _ _ hi,e];exact zaj h4 fun b q=>by
    have:g=b:=by simpa [Value.ownBlock] using q
    subst this;exact Below.heap_setCell _ _ _ _ (by exact u)
 ·intro s c;rw [List.mem_append] at c;rcases c with c|c
  ·have j:=h.labels s (by simp [c]);obtain⟨E,v,i⟩:=zet j;refine j.of_block (x _ j.lt ?_ ?_)
   ·intro e;obtain⟨D,n⟩:=zbJ (h.bodies f d) e;rw [i] at n;cases n
   ·intro e;rw [e,l] at i;cases i
  ·simp at c;subst c;have H:MapIs w f.m (zbO (f.its++[i])):=by rw [zjS _ _ hi];exact h.labels f d
   have I:=H.kept h3 (fun e=>M e.symm);exact I.of_block (Below.heap_setCell _ _ _ _ (fun e=>L e.symm))
 ·have t:=h.places;obtain⟨E,v,i⟩:=zet t;have:=t.of_block (x _ t.lt (by
   intro e;obtain⟨D,n⟩:=zbJ (h.bodies f d) e;rw [i] at n;cases n) (by intro e;rw [e,l] at i;cases i))
  rw [zdV] at this ⊢;exact this
 ·intro s c;rw [List.mem_append] at c;rcases c with c|c
  ·exact h.lowm s (by simp [c])
  ·simp at c;subst c;exact h.lowm f d
 ·intro s c;rw [List.mem_append] at c;rcases c with c|c
  ·exact h.pmNot s (by simp [c])
  ·simp at c;subst c;exact h.pmNot f d
 ·have:=List.pairwise_append.1 h.maps;refine List.pairwise_append.2 ⟨this.1,by simp,fun a ha b q=>?_⟩;simp at q;subst q;exact this.2.2 a ha f (by simp)
 ·have:=List.pairwise_append.1 h.rows;refine List.pairwise_append.2 ⟨this.1,by simp,fun a ha b q b' j=>?_⟩;simp at q;subst q;simp only [Value.ownBlock,Option.some.injEq];intro e;subst e;rcases hat with e|e
  ·exact this.2.2 a ha f (by simp) g j e
  ·have:=((h.bodies a (by simp [ha])).lt g j).2;omega
 ·have K:Below B w w1:=(Below.refl B w).grown h3 (by have:=h.lowm f d;omega) (fun k e=>((h.bodies f d).lt k e).1);exact K.setCell (o.lt fg rfl).1 _
 ·intro p cs t;rw [x p ((Array.getElem?_eq_some_iff.1 t).1) (by
   intro e;obtain⟨D,n⟩:=zbJ (h.bodies f d) e;rw [t] at n;simp at n) (by intro e;rw [e,l] at t;simp at t)]
  exact t
theorem PIn.labelled{B:Nat}{w w2:World}{pm:Nat}{v:Value}{F:List FnM}{f:FnM}{i:It}(h:PIn B w pm v (F++[f]))(hi:i.sort=1)
  (h1:w.grownBy w2 (some f.m)) (h2:MapIs w2 f.m (zbO f.its++[(i.nm,(zal f.its).length)])) :
  PIn B w2 pm v (F++[⟨f.name,f.line,f.its++[i],f.bv,f.m⟩])∧Below B w w2∧(∀(p:Nat) (cs:Array Value),w.heap[p]?=some (Obj.cells cs 83 (0,0))→w2.heap[p]?=some (Obj.cells cs 83 (0,0))):=by
 have d:f∈F++[f]:=by simp
 obtain⟨em,cm,y⟩:=zet (h.labels f d);have x:∀ b,b<w.heap.size→¬b=f.m→w2.heap[b]?=w.heap[b]?:=fun b j hb1=>h1.block b j (by simpa using hb1);have q:∀(b:Nat) cs t,w.heap[b]?=some (Obj.cells cs t (0,0))→w2.heap[b]?=w.heap[b]?:=by
  intro b cs t j;refine x b (Array.getElem?_eq_some_iff.1 j).1 ?_;intro e;rw [e,y] at j;cases j
 refine⟨⟨?_,?_,?_,?_,?_,h.lowp,?_,?_,?_⟩,?_,?_⟩
 ·have A:=zaj (w':=w2) h.row (fun g hg=>by obtain⟨u,o⟩:=zbJ h.row hg;exact q g u _ o);rw [zdw] at A ⊢;simpa using A
 ·intro n c;have s:∀ f0∈F++[f],w2.ownsRow B 135 8 f0.bv (zal f0.its).length (zav (zal f0.its)):=fun f0 hf0 =>
   zaj (h.bodies f0 hf0) (fun g hg=>by obtain⟨u,o⟩:=zbJ (h.bodies f0 hf0) hg;exact q g u _ o)
  rw [List.mem_append] at c;rcases c with c|c
  ·exact s n (by simp [c])
  ·simp at c;subst c;show World.ownsRow _ B 135 8 _ (zal (f.its++[i])).length (zav (zal (f.its++[i])));rw [zlR _ _ hi];exact s f d
 ·intro n c;rw [List.mem_append] at c;rcases c with c|c
  ·have r:=h.labels n (by simp [c]);exact r.of_block (x _ r.lt ((List.pairwise_append.1 h.maps).2.2 n c f (by simp)))
  ·simp at c;subst c;show MapIs w2 f.m (zbO (f.its++[i]));rw [zjR _ _ hi];exact h2
 ·have:=h.places.of_block (w':=w2) (x _ h.places.lt (fun e=>h.pmNot f d e.symm));rw [zdV] at this ⊢;exact this
 ·intro n c;rw [List.mem_append] at c;rcases c with c|c
  ·exact h.lowm n (by simp [c])
  ·simp at c;subst c;exact h.lowm f d
 ·intro n c;rw [List.mem_append] at c;rcases c with c|c
  ·exact h.pmNot n (by simp [c])
  ·simp at c;subst c;exact h.pmNot f d
 ·have:=List.pairwise_append.1 h.maps;refine List.pairwise_append.2 ⟨this.1,by simp,fun a ha b j=>?_⟩;simp at j;subst j;exact this.2.2 a ha f (by simp)
 ·have:=List.pairwise_append.1 h.rows;refine List.pairwise_append.2 ⟨this.1,by simp,fun a ha b j=>?_⟩;simp at j;subst j;exact this.2.2 a ha f (by simp)
 ·exact(Below.refl B w).grown h1 (by have:=h.lowm f d;have:=(h.labels f d).lt;omega) (fun k e=>by simp at e;subst e;exact h.lowm f d)
 ·intro p cs z;rw [q p cs _ z];exact z
theorem PIn.begun{B:Nat}{w w1 w2:World}{pm:Nat}{v:Value}{F:List FnM}{nm:ByteArray}{line:Int}{p g cap:Nat}
  (h:PIn B w pm v F) (hp:w.heap[p]?=some (.cells #[v,.map (some pm)] 83 (0,0))) (hpB:B≤p)
  (h1:w.grownBy w2 (some pm)) (h2:MapIs w2 pm (zbj F++[(nm,F.length)])) (h3:w2.grownBy w1 v.ownBlock) (hsz:w.heap.size≤w2.heap.size) (h5:MapIs w1 w2.heap.size [])
  (h4:w1.ownsRow B 131 4 (.slice (some ⟨g,0,none⟩) (F.length+1) cap) (F.length+1) (zcn F++[.string nm,.int .i64 line,.slice none 0 0,.map (some w2.heap.size)])) (hat:v.ownBlock=some g∨w2.heap.size<g) :
  PIn B (w1.setCell ⟨p,0,none⟩ (.slice (some ⟨g,0,none⟩) (F.length+1) cap)) pm (.slice (some ⟨g,0,none⟩) (F.length+1) cap) (F++[⟨nm,line,[],.slice none 0 0,w2.heap.size⟩]) ∧
  Below B w (w1.setCell ⟨p,0,none⟩ (.slice (some ⟨g,0,none⟩) (F.length+1) cap)) ∧
  (w1.setCell ⟨p,0,none⟩ (.slice (some ⟨g,0,none⟩) (F.length+1) cap)).heap[p]?=some (.cells #[.slice (some ⟨g,0,none⟩) (F.length+1) cap,.map (some pm)] 83 (0,0)):=by
 have y:p<w.heap.size:=(Array.getElem?_eq_some_iff.1 hp).1;have hpml:pm<w.heap.size:=h.places.lt;obtain⟨em,cm,o⟩:=zet h.places;have A:¬p=pm:=by intro e;rw [e,o] at hp;cases hp
 have C:¬v.ownBlock=some p:=by
  intro e;obtain⟨q,d⟩:=zbJ h.row e;rw [hp] at d;simp at d
 have K:¬v.ownBlock=some pm:=by
  intro e;obtain⟨q,d⟩:=zbJ h.row e;rw [o] at d;cases d
 have z:∀ b,b<w.heap.size→¬b=pm→¬v.ownBlock=some b→¬b=p→(w1.setCell ⟨p,0,none⟩ (.slice (some ⟨g,0,none⟩) (F.length+1) cap)).heap[b]?=w.heap[b]?:=by
  intro b i r s t;rw [Below.heap_setCell _ _ _ _ (by exact t),h3.block b (by omega) (fun e=>s e.symm),h1.block b i (by simpa using r)]
 have x:w1.heap[p]?=some (.cells #[v,.map (some pm)] 83 (0,0)):=by
  rw [h3.block p (by omega) (fun e=>C e.symm),h1.block p y (by simpa using A)];exact hp
 have u:¬g=p:=by
  rcases hat with e|e
  ·intro J;rw [J] at e;exact C e
  ·omega
 refine⟨⟨?_,?_,?_,?_,?_,h.lowp,?_,?_,?_⟩,?_,?_⟩
 ·have e:(F++[(⟨nm,line,[],.slice none 0 0,w2.heap.size⟩:FnM)]).length=F.length+1:=by simp
  rw [e,zdw];exact zaj h4 fun b i=>by
   have:g=b:=by simpa [Value.ownBlock] using i
   subst this;exact Below.heap_setCell _ _ _ _ (by exact u)
 ·intro n c;rw [List.mem_append] at c;rcases c with c|c
  ·have f:=h.bodies n c;refine zaj f fun b i=>?_;obtain⟨q,d⟩:=zbJ f i;refine z b (f.lt b i).2 ?_ ?_ ?_
   ·intro e;rw [e,o] at d;cases d
   ·intro e;obtain⟨I,j⟩:=zbJ h.row e;rw [d] at j;simp at j
   ·intro e;rw [e,hp] at d;simp at d
  ·simp at c;subst c;exact World.ownsRow_nil _ _ _ _
 ·intro n c;rw [List.mem_append] at c;rcases c with c|c
  ·have f:=h.labels n c;obtain⟨J,q,d⟩:=zet f;refine f.of_block (z _ f.lt (h.pmNot n c) ?_ ?_)
   ·intro e;obtain⟨I,j⟩:=zbJ h.row e;rw [d] at j;cases j
   ·intro e;rw [e,hp] at d;cases d
  ·simp at c;subst c;exact h5.of_block (Below.heap_setCell _ _ _ _ (by show ¬w2.heap.size=p;omega))
 ·have D:=h2.kept h3 (fun e=>K e.symm);have E:=D.of_block (w':=w1.setCell ⟨p,0,none⟩ (.slice (some ⟨g,0,none⟩) (F.length+1) cap)) (Below.heap_setCell _ _ _ _ (fun e=>A e.symm));rw [zdV];exact E
 ·intro n c;rw [List.mem_append] at c;rcases c with c|c
  ·exact h.lowm n c
  ·simp at c;subst c;show B≤w2.heap.size;omega
 ·intro n c;rw [List.mem_append] at c;rcases c with c|c
  ·exact h.pmNot n c
  ·simp at c;subst c;show ¬w2.heap.size=pm;omega
 ·refine List.pairwise_append.2 ⟨h.maps,by simp,fun a ha b i=>?_⟩;simp at i;subst i;have:=(h.labels a ha).lt;show ¬a.m=w2.heap.size;omega
 ·refine List.pairwise_append.2 ⟨h.rows,by simp,fun a ha b i b' f=>?_⟩;simp at i;subst i;simp [Value.ownBlock]
 ·have G:Below B w w2:=(Below.refl B w).grown h1 (by have:=h.lowp;omega) (fun k e=>by simp at e;subst e;exact h.lowp);have H:Below B w w1:=G.grown h3 (by omega) (fun k e=>(h.row.lt k e).1);exact H.setCell hpB _
 ·have:=heap_setCell_same w1 p 0 #[v,.map (some pm)] 83 (.slice (some ⟨g,0,none⟩) (F.length+1) cap) x;rw [this];simp
end
section
open Sp
inductive Form:List ByteArray→Prop
 | set_ (x1 x2:ByteArray) (hx1:0≤reg x1) (hx2:(zb3 x2).2=true):Form [⟨#[115,101,116]⟩,x1,x2]
 | inc_ (x1 x2:ByteArray) (hx1:0≤reg x1) (hx2:(zb3 x2).2=true):Form [⟨#[105,110,99]⟩,x1,x2]
 | mov_ (x1 x2:ByteArray) (hx1:0≤reg x1) (hx2:0≤reg x2):Form [⟨#[109,111,118]⟩,x1,x2]
 | load_ (x1 x2:ByteArray) (hx1:0≤reg x1) (hx2:0≤reg x2):Form [⟨#[108,111,97,100]⟩,x1,x2]
 | store_ (x1 x2:ByteArray) (hx1:0≤reg x1) (hx2:0≤reg x2):Form [⟨#[115,116,111,114,101]⟩,x1,x2]
 | add_ (x1 x2 x3:ByteArray) (hx1:0≤reg x1) (hx2:0≤reg x2) (hx3:0≤reg x3):Form [⟨#[97,100,100]⟩,x1,x2,x3]
 | sub_ (x1 x2 x3:ByteArray) (hx1:0≤reg x1) (hx2:0≤reg x2) (hx3:0≤reg x3):Form [⟨#[115,117,98]⟩,x1,x2,x3]
 | mul_ (x1 x2 x3:ByteArray) (hx1:0≤reg x1) (hx2:0≤reg x2) (hx3:0≤reg x3):Form [⟨#[109,117,108]⟩,x1,x2,x3]
 | read_ (x1:ByteArray) (hx1:0≤reg x1):Form [⟨#[114,101,97,100]⟩,x1]
 | write_ (x1:ByteArray) (hx1:0≤reg x1):Form [⟨#[119,114,105,116,101]⟩,x1]
 | jump_ (x1:ByteArray) (hx1:za6 x1=true):Form [⟨#[106,117,109,112]⟩,x1]
 | call_ (x1:ByteArray) (hx1:za6 x1=true):Form [⟨#[99,97,108,108]⟩,x1]
 | less_ (x1 x2 x3:ByteArray) (hx1:0≤reg x1) (hx2:0≤reg x2) (hx3:za6 x3=true):Form [⟨#[108,101,115,115]⟩,x1,x2,x3]
 | same_ (x1 x2 x3:ByteArray) (hx1:0≤reg x1) (hx2:0≤reg x2) (hx3:za6 x3=true):Form [⟨#[115,97,109,101]⟩,x1,x2,x3]
 | back_:Form [⟨#[98,97,99,107]⟩]
 | stop_:Form [⟨#[115,116,111,112]⟩]
theorem op_r(x:ByteArray):opOk 82 x=decide (0≤reg x):=rfl
theorem op_k(x:ByteArray):opOk 75 x=(zb3 x).2:=rfl
theorem op_n(x:ByteArray):opOk 78 x=za6 x:=rfl
theorem zyB(x:ByteArray)(r:List ByteArray)(h:zhr x r=true):Form (x :: r):=by
 unfold zhr at h;cases h0:(x.toList == [115,101,116]) with
 | true =>
  have:=zaB x _ h0;subst this;change (if zaa ⟨#[115,101,116]⟩=[63]∨¬r.length=(zaa ⟨#[115,101,116]⟩).length then false else za1 (zaa ⟨#[115,101,116]⟩) r)=true at h;rw [zhP] at h;split at h
  ·cases h
  ·rename_i hc;have b:r.length=2:=by
    rcases Nat.decEq r.length 2 with a|a
    ·exact absurd (.inr (by simpa using a)) hc
    ·exact a
   match r,b,h with
   | [x1,x2],_,h =>
    simp only [za1,op_r,op_k,Bool.and_true,Bool.and_eq_true,decide_eq_true_eq] at h;exact .set_ x1 x2 h.1 h.2
 | false =>
  cases h1:(x.toList == [105,110,99]) with
  | true =>
   have:=zaB x _ h1;subst this;change (if zaa ⟨#[105,110,99]⟩=[63]∨¬r.length=(zaa ⟨#[105,110,99]⟩).length then false else za1 (zaa ⟨#[105,110,99]⟩) r)=true at h;rw [zhQ] at h;split at h
   ·cases h
   ·rename_i hc;have b:r.length=2:=by
     rcases Nat.decEq r.length 2 with a|a
     ·exact absurd (.inr (by simpa using a)) hc
     ·exact a
    match r,b,h with
    | [x1,x2],_,h =>
     simp only [za1,op_r,op_k,Bool.and_true,Bool.and_eq_true,decide_eq_true_eq] at h;exact .inc_ x1 x2 h.1 h.2
  | false =>
   cases h2:(x.toList == [109,111,118]) with
   | true =>
    have:=zaB x _ h2;subst this;change (if zaa ⟨#[109,111,118]⟩=[63]∨¬r.length=(zaa ⟨#[109,111,118]⟩).length then false else za1 (zaa ⟨#[109,111,118]⟩) r)=true at h;rw [zhR] at h;split at h
    ·cases h
    ·rename_i hc;have b:r.length=2:=by
      rcases Nat.decEq r.length 2 with a|a
      ·exact absurd (.inr (by simpa using a)) hc
      ·exact a
     match r,b,h with
     | [x1,x2],_,h =>
      simp only [za1,op_r,Bool.and_true,Bool.and_eq_true,decide_eq_true_eq] at h;exact .mov_ x1 x2 h.1 h.2
   | false =>
    cases h3:(x.toList == [108,111,97,100]) with
    | true =>
     have:=zaB x _ h3;subst this;change (if zaa ⟨#[108,111,97,100]⟩=[63]∨¬r.length=(zaa ⟨#[108,111,97,100]⟩).length then false else za1 (zaa ⟨#[108,111,97,100]⟩) r)=true at h;rw [zgU] at h;split at h
     ·cases h
     ·rename_i hc;have b:r.length=2:=by
       rcases Nat.decEq r.length 2 with a|a
       ·exact absurd (.inr (by simpa using a)) hc
       ·exact a
      match r,b,h with
      | [x1,x2],_,h =>
       simp only [za1,op_r,Bool.and_true,Bool.and_eq_true,decide_eq_true_eq] at h;exact .load_ x1 x2 h.1 h.2
    | false =>
     cases h4:(x.toList == [115,116,111,114,101]) with
     | true =>
      have:=zaB x _ h4;subst this;change (if zaa ⟨#[115,116,111,114,101]⟩=[63]∨¬r.length=(zaa ⟨#[115,116,111,114,101]⟩).length then false else za1 (zaa ⟨#[115,116,111,114,101]⟩) r)=true at h;rw [zfC] at h;split at h
      ·cases h
      ·rename_i hc;have b:r.length=2:=by
        rcases Nat.decEq r.length 2 with a|a
        ·exact absurd (.inr (by simpa using a)) hc
        ·exact a
       match r,b,h with
       | [x1,x2],_,h =>
        simp only [za1,op_r,Bool.and_true,Bool.and_eq_true,decide_eq_true_eq] at h;exact .store_ x1 x2 h.1 h.2
     | false =>
      cases h5:(x.toList == [97,100,100]) with
      | true =>
       have:=zaB x _ h5;subst this;change (if zaa ⟨#[97,100,100]⟩=[63]∨¬r.length=(zaa ⟨#[97,100,100]⟩).length then false else za1 (zaa ⟨#[97,100,100]⟩) r)=true at h;rw [zhS] at h;split at h
       ·cases h
       ·rename_i hc;have b:r.length=3:=by
         rcases Nat.decEq r.length 3 with a|a
         ·exact absurd (.inr (by simpa using a)) hc
         ·exact a
        match r,b,h with
        | [x1,x2,x3],_,h =>
         simp only [za1,op_r,Bool.and_true,Bool.and_eq_true,decide_eq_true_eq] at h;exact .add_ x1 x2 x3 h.1 h.2.1 h.2.2
      | false =>
       cases h6:(x.toList == [115,117,98]) with
       | true =>
        have:=zaB x _ h6;subst this;change (if zaa ⟨#[115,117,98]⟩=[63]∨¬r.length=(zaa ⟨#[115,117,98]⟩).length then false else za1 (zaa ⟨#[115,117,98]⟩) r)=true at h;rw [zhT] at h;split at h
        ·cases h
        ·rename_i hc;have b:r.length=3:=by
          rcases Nat.decEq r.length 3 with a|a
          ·exact absurd (.inr (by simpa using a)) hc
          ·exact a
         match r,b,h with
         | [x1,x2,x3],_,h =>
          simp only [za1,op_r,Bool.and_true,Bool.and_eq_true,decide_eq_true_eq] at h;exact .sub_ x1 x2 x3 h.1 h.2.1 h.2.2
       | false =>
        cases h7:(x.toList == [109,117,108]) with
        | true =>
         have:=zaB x _ h7;subst this;change (if zaa ⟨#[109,117,108]⟩=[63]∨¬r.length=(zaa ⟨#[109,117,108]⟩).length then false else za1 (zaa ⟨#[109,117,108]⟩) r)=true at h;rw [zhU] at h;split at h
         ·cases h
         ·rename_i hc;have b:r.length=3:=by
           rcases Nat.decEq r.length 3 with a|a
           ·exact absurd (.inr (by simpa using a)) hc
           ·exact a
          match r,b,h with
          | [x1,x2,x3],_,h =>
           simp only [za1,op_r,Bool.and_true,Bool.and_eq_true,decide_eq_true_eq] at h;exact .mul_ x1 x2 x3 h.1 h.2.1 h.2.2
        | false =>
         cases h8:(x.toList == [114,101,97,100]) with
         | true =>
          have:=zaB x _ h8;subst this;change (if zaa ⟨#[114,101,97,100]⟩=[63]∨¬r.length=(zaa ⟨#[114,101,97,100]⟩).length then false else za1 (zaa ⟨#[114,101,97,100]⟩) r)=true at h;rw [zgV] at h;split at h
          ·cases h
          ·rename_i hc;have b:r.length=1:=by
            rcases Nat.decEq r.length 1 with a|a
            ·exact absurd (.inr (by simpa using a)) hc
            ·exact a
           match r,b,h with
           | [x1],_,h =>
            simp only [za1,op_r,Bool.and_true,decide_eq_true_eq] at h;exact .read_ x1 h
         | false =>
          cases h9:(x.toList == [119,114,105,116,101]) with
          | true =>
           have:=zaB x _ h9;subst this;change (if zaa ⟨#[119,114,105,116,101]⟩=[63]∨¬r.length=(zaa ⟨#[119,114,105,116,101]⟩).length then false else za1 (zaa ⟨#[119,114,105,116,101]⟩) r)=true at h;rw [zfD] at h;split at h
           ·cases h
           ·rename_i hc;have b:r.length=1:=by
             rcases Nat.decEq r.length 1 with a|a
             ·exact absurd (.inr (by simpa using a)) hc
             ·exact a
            match r,b,h with
            | [x1],_,h =>
             simp only [za1,op_r,Bool.and_true,decide_eq_true_eq] at h;exact .write_ x1 h
          | false =>
           cases h10:(x.toList == [106,117,109,112]) with
           | true =>
            have:=zaB x _ h10;subst this;change (if zaa ⟨#[106,117,109,112]⟩=[63]∨¬r.length=(zaa ⟨#[106,117,109,112]⟩).length then false else za1 (zaa ⟨#[106,117,109,112]⟩) r)=true at h;rw [zgW] at h;split at h
            ·cases h
            ·rename_i hc;have b:r.length=1:=by
              rcases Nat.decEq r.length 1 with a|a
              ·exact absurd (.inr (by simpa using a)) hc
              ·exact a
             match r,b,h with
             | [x1],_,h =>
              simp only [za1,op_n,Bool.and_true] at h;exact .jump_ x1 h
           | false =>
            cases h11:(x.toList == [99,97,108,108]) with
            | true =>
             have:=zaB x _ h11;subst this;change (if zaa ⟨#[99,97,108,108]⟩=[63]∨¬r.length=(zaa ⟨#[99,97,108,108]⟩).length then false else za1 (zaa ⟨#[99,97,108,108]⟩) r)=true at h;rw [zgX] at h;split at h
             ·cases h
             ·rename_i hc;have b:r.length=1:=by
               rcases Nat.decEq r.length 1 with a|a
               ·exact absurd (.inr (by simpa using a)) hc
               ·exact a
              match r,b,h with
              | [x1],_,h =>
               simp only [za1,op_n,Bool.and_true] at h;exact .call_ x1 h
            | false =>
             cases h12:(x.toList == [108,101,115,115]) with
             | true =>
              have:=zaB x _ h12;subst this;change (if zaa ⟨#[108,101,115,115]⟩=[63]∨¬r.length=(zaa ⟨#[108,101,115,115]⟩).length then false else za1 (zaa ⟨#[108,101,115,115]⟩) r)=true at h;rw [zgY] at h;split at h
              ·cases h
              ·rename_i hc;have b:r.length=3:=by
                rcases Nat.decEq r.length 3 with a|a
                ·exact absurd (.inr (by simpa using a)) hc
                ·exact a
               match r,b,h with
               | [x1,x2,x3],_,h =>
                simp only [za1,op_r,op_n,Bool.and_true,Bool.and_eq_true,decide_eq_true_eq] at h;exact .less_ x1 x2 x3 h.1 h.2.1 h.2.2
             | false =>
              cases h13:(x.toList == [115,97,109,101]) with
              | true =>
               have:=zaB x _ h13;subst this;change (if zaa ⟨#[115,97,109,101]⟩=[63]∨¬r.length=(zaa ⟨#[115,97,109,101]⟩).length then false else za1 (zaa ⟨#[115,97,109,101]⟩) r)=true at h;rw [zgZ] at h;split at h
               ·cases h
               ·rename_i hc;have b:r.length=3:=by
                 rcases Nat.decEq r.length 3 with a|a
                 ·exact absurd (.inr (by simpa using a)) hc
                 ·exact a
                match r,b,h with
                | [x1,x2,x3],_,h =>
                 simp only [za1,op_r,op_n,Bool.and_true,Bool.and_eq_true,decide_eq_true_eq] at h;exact .same_ x1 x2 x3 h.1 h.2.1 h.2.2
              | false =>
               cases h14:(x.toList == [98,97,99,107]) with
               | true =>
                have:=zaB x _ h14;subst this;change (if zaa ⟨#[98,97,99,107]⟩=[63]∨¬r.length=(zaa ⟨#[98,97,99,107]⟩).length then false else za1 (zaa ⟨#[98,97,99,107]⟩) r)=true at h;rw [zha] at h;split at h
                ·cases h
                ·rename_i hc;have b:r.length=0:=by
                  rcases Nat.decEq r.length 0 with a|a
                  ·exact absurd (.inr (by simpa using a)) hc
                  ·exact a
                 obtain rfl:r=[]:=List.eq_nil_of_length_eq_zero b;exact .back_
               | false =>
                cases h15:(x.toList == [115,116,111,112]) with
                | true =>
                 have:=zaB x _ h15;subst this;change (if zaa ⟨#[115,116,111,112]⟩=[63]∨¬r.length=(zaa ⟨#[115,116,111,112]⟩).length then false else za1 (zaa ⟨#[115,116,111,112]⟩) r)=true at h;rw [zhb] at h;split at h
                 ·cases h
                 ·rename_i hc;have b:r.length=0:=by
                   rcases Nat.decEq r.length 0 with a|a
                   ·exact absurd (.inr (by simpa using a)) hc
                   ·exact a
                  obtain rfl:r=[]:=List.eq_nil_of_length_eq_zero b;exact .stop_
                | false =>
                 rw [if_pos (.inl (zpd x h0 h1 h2 h3 h4 h5 h6 h7 h8 h9 h10 h11 h12 h13 h14 h15))] at h;cases h
theorem zbh(x:ByteArray)(h:0≤reg x):regN x<8∧reg x=(regN x:Int):=by
 have:reg x≤7:=by
  unfold reg at h ⊢;split
  ·rename_i hb;unfold regB at hb;simp at hb;omega
  ·omega
 unfold regN;omega
theorem zyC(s:ByteArray)(h:(say s).ok=true)(h5:(say s).kind=105):Form (say s).kept:=by
 have a:zaz s 0=true:=by
  cases a:zaz s 0 with
  | true=>rfl
  | false=>rw [zft s a] at h;cases h
 rw [zin s a] at h h5 ⊢;generalize zbu s=l at h h5 ⊢;cases l with
 | nil=>simp [sayW] at h5
 | cons x r =>
  have e:sayW (x :: r)=⟨105,x :: r,if zaa x=[63]∨¬(x :: r).length=(zaa x).length+1 then false else za1 (zaa x) r⟩:=by
   unfold sayW at h5 ⊢;dsimp only at h5 ⊢;split at h5
   ·simp at h5
   ·rename_i hf;rw [if_neg hf];split at h5
    ·simp at h5
    ·rename_i hg;rw [if_neg hg]
  rw [e] at h ⊢;refine zyB x r ?_;simpa [zhr] using h
end
end Go.Proofs.YtfpgjkbjbbgciaaGreatDoor
