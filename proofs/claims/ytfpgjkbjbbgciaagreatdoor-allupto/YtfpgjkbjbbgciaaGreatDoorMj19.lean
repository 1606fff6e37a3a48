import Derived.Test.YtfpgjkbjbbgciaaGreatDoorMj14
import Derived.Test.YtfpgjkbjbbgciaaGreatDoorMj17
set_option maxRecDepth 100000
set_option maxHeartbeats 8000000
namespace Go.Proofs.YtfpgjkbjbbgciaaGreatDoor
open Go.RowKit Sp
structure FnM where
 name:ByteArray
 line:Int
 its:List It
 bv:Value
 m:Nat
abbrev FnM.cells(f:FnM):List Value:=[.string f.name,.int .i64 f.line,f.bv,.map (some f.m)]
def zcE(F:List FnM):List Value:=F.flatMap FnM.cells
def zaq(l:List It):List It:=l.filter (fun i=>!decide (i.sort=1))
theorem zl7(l:List It)(i:It)(h:¬i.sort=1):zaq (l++[i])=zaq l++[i]:=by simp [zaq,List.filter_append,h]
theorem zl8(l:List It)(i:It)(h:i.sort=1):zaq (l++[i])=zaq l:=by simp [zaq,List.filter_append,h]
theorem zed(l:List It):(zaq l).length≤l.length:=List.length_filter_le _ _
def zb2:Nat→List It→List (ByteArray × Nat)
 | _,[]=>[]
 | n,i :: r=>if i.sort=1 then(i.nm,n) :: zb2 n r else zb2 (n+1) r
abbrev zc7(l:List It):List (ByteArray × Nat):=zb2 0 l
theorem zcy(n:Nat)(i:It)(r:List It):zb2 n (i :: r)=if i.sort=1 then(i.nm,n) :: zb2 n r else zb2 (n+1) r:=rfl
theorem zeL(n:Nat)(l r:List It):zb2 n (l++r)=zb2 n l++zb2 (n+(zaq l).length) r:=by
 induction l generalizing n with
 | nil=>simp [zb2,zaq]
 | cons i l ih =>
  rw [List.cons_append,zcy,zcy];by_cases h:i.sort=1
  ·rw [if_pos h,if_pos h,ih n,show zaq (i :: l)=zaq l by simp [zaq,h]];rfl
  ·rw [if_neg h,if_neg h,ih (n+1),show zaq (i :: l)=i :: zaq l by simp [zaq,h]];rw [show n+1+(zaq l).length=n+(i :: zaq l).length by simp;omega]
theorem zj9(l:List It)(i:It)(h:i.sort=1):zc7 (l++[i])=zc7 l++[(i.nm,(zaq l).length)]:=by
 unfold zc7;rw [zeL];simp [zb2,h]
theorem zjA(l:List It)(i:It)(h:¬i.sort=1):zc7 (l++[i])=zc7 l:=by
 unfold zc7;rw [zeL];simp [zb2,h]
theorem zdQ(n:Nat)(l:List It):zbH (zb2 n l)=zcl (l.map It.key):=by
 induction l generalizing n with
 | nil=>rfl
 | cons i l ih =>
  rw [zcy];by_cases h:i.sort=1
  ·rw [if_pos h];have:=ih n;simp only [zbH] at this ⊢;simp [zcl,It.key,h] at this ⊢;exact this
  ·rw [if_neg h];have:=ih (n+1);simp only [zbH] at this ⊢;simp [zcl,It.key,h] at this ⊢;exact this
def zaW:Nat→List FnM→List (ByteArray × Nat)
 | _,[]=>[]
 | n,f :: r=>(f.name,n) :: zaW (n+1) r
abbrev zb3(F:List FnM):List (ByteArray × Nat):=zaW 0 F
theorem zdC(n:Nat)(f:FnM)(r:List FnM):zaW n (f :: r)=(f.name,n) :: zaW (n+1) r:=rfl
theorem zgE(n:Nat)(F G:List FnM):zaW n (F++G)=zaW n F++zaW (n+F.length) G:=by
 induction F generalizing n with
 | nil=>simp [zaW]
 | cons f F ih =>
  rw [List.cons_append,zdC,zdC,ih (n+1),show n+1+F.length=n+(f :: F).length by simp;omega];rfl
theorem zey(F:List FnM)(f:FnM):zb3 (F++[f])=zb3 F++[(f.name,F.length)]:=by
 unfold zb3;rw [zgE];simp [zaW]
theorem zcA(n:Nat)(F:List FnM):zbH (zaW n F)=F.map FnM.name:=by
 induction F generalizing n with
 | nil=>rfl
 | cons f F ih =>
  have:=ih (n+1);simp only [zbH,zaW,List.map_cons] at this ⊢;rw [this]
theorem zl9(F:List FnM):(zb3 F).length=F.length:=by
 have:=congrArg List.length (zcA 0 F);simpa [zbH] using this
def FnM.fn(f:FnM):Fn:=⟨f.name,f.line,f.its.map It.key⟩
theorem zip(F:List FnM):(zcE F).length=F.length*4:=by
 induction F with
 | nil=>rfl
 | cons i l ih=>simp [zcE] at ih ⊢;omega
theorem zdL(F:List FnM)(f:FnM):zcE (F++[f])=zcE F++f.cells:=by simp [zcE]
theorem zjB(F:List FnM)(k:Nat)(h:k<F.length)(j:Nat)(hj:j<4):(zcE F)[k*4+j]?=F[k].cells[j]?:=by
 induction F generalizing k with
 | nil=>simp at h
 | cons i l ih =>
  have e:zcE (i :: l)=i.cells++zcE l:=by simp [zcE]
  rw [e];cases k with
  | zero =>
   rw [List.getElem?_append_left (by simp;omega)];simp
  | succ k =>
   rw [List.getElem?_append_right (by simp;omega)];have:=ih k (by simpa using h);simp only [List.getElem_cons_succ];rw [←this];congr 1;simp;omega
theorem zn5(F:List FnM)(f:FnM)(its:List It)(u:Value):(zcE (F++[f])).set (F.length*4+2) u=zcE (F++[⟨f.name,f.line,its,u,f.m⟩]):=by
 rw [zdL,zdL,List.set_append_right _ _ (by rw [zip];omega),zip];rw [show F.length*4+2-F.length*4=2 by omega];rfl
theorem MapIs.of_block{w w':World}{b:Nat}{E:List (ByteArray × Nat)}(h:MapIs w b E)(e:w'.heap[b]?=w.heap[b]?):MapIs w' b E:=by
 obtain⟨D,⟨f,a,c,r⟩,d⟩:=h;exact⟨D,⟨f,a,e.trans c,r⟩,d⟩
theorem zct{w:World}{B:Nat}{e:TypeId}{size n:Nat}{v:Value}{xs:List Value}(h:w.ownsRow B e size v n xs){g:Nat}(hg:v.ownBlock=some g):∃ cur,w.heap[g]?=some (.cells cur e (0,0)):=by
 rcases h.2 with ⟨c,_⟩|⟨b,cap,cur,c,_,a,_⟩
 ·rw [c] at hg;cases hg
 ·rw [c] at hg;have:b=g:=by simpa [Value.ownBlock] using hg
  subst this;exact⟨cur,a⟩
theorem zeM{w:World}{b:Nat}{E:List (ByteArray × Nat)}(h:MapIs w b E):∃ es c,w.heap[b]?=some (.map es c):=by
 obtain⟨D,⟨es,a,d,r⟩,_⟩:=h;exact⟨es,a,d⟩
structure PIn(B:Nat)(w:World)(pm:Nat)(v:Value)(F:List FnM):Prop where
 row:w.ownsRow B 131 4 v F.length (zcE F)
 bodies:∀ f∈F,w.ownsRow B 135 8 f.bv (zaq f.its).length (za5 (zaq f.its))
 labels:∀ f∈F,MapIs w f.m (zc7 f.its)
 places:MapIs w pm (zb3 F)
 lowm:∀ f∈F,B≤f.m
 lowp:B≤pm
 pmNot:∀ f∈F,¬f.m=pm
 maps:F.Pairwise (fun a b=>¬a.m=b.m)
 rows:F.Pairwise (fun a b=>∀ g,a.bv.ownBlock=some g→¬b.bv.ownBlock=some g)
theorem PIn.of_blocks{B:Nat}{w w':World}{pm:Nat}{v:Value}{F:List FnM}(h:PIn B w pm v F)(hb:∀ b,B≤b→b<w.heap.size→w'.heap[b]?=w.heap[b]?):PIn B w' pm v F:=by
 refine⟨zaj h.row fun g hg=>?_,fun f hf=>zaj (h.bodies f hf) fun g hg=>?_,fun f hf=>(h.labels f hf).of_block (hb _ (h.lowm f hf) (h.labels f hf).lt),h.places.of_block (hb _ h.lowp h.places.lt),h.lowm,h.lowp,h.pmNot,h.maps,h.rows⟩
 ·have:=h.row.lt g hg;exact hb g this.1 this.2
 ·have:=(h.bodies f hf).lt g hg;exact hb g this.1 this.2
theorem PIn.start(B:Nat)(w:World)(pm:Nat)(hM:MapIs w pm [])(hB:B≤pm):PIn B w pm (.slice none 0 0) [] :=
 ⟨World.ownsRow_nil _ _ _ _,by simp,by simp,hM,by simp,hB,by simp,by simp,by simp⟩
theorem PIn.added{B:Nat}{w w1:World}{pm:Nat}{F:List FnM}{f:FnM}{i:It}{fg cap0 g cap:Nat}
  (h:PIn B w pm (.slice (some ⟨fg,0,none⟩) (F.length+1) cap0) (F++[f]))
  (hi:¬i.sort=1) (h3:w.grownBy w1 f.bv.ownBlock)
  (h4:w1.ownsRow B 135 8 (.slice (some ⟨g,0,none⟩) ((zaq f.its).length+1) cap) ((zaq f.its).length+1) (za5 (zaq f.its++[i]))) (hat:f.bv.ownBlock=some g∨w.heap.size≤g) :
  PIn B (w1.setCell ⟨fg,F.length*4+2,none⟩ (.slice (some ⟨g,0,none⟩) ((zaq f.its).length+1) cap)) pm (.slice (some ⟨fg,0,none⟩) (F.length+1) cap0) (F++[⟨f.name,f.line,f.its++[i],.slice (some ⟨g,0,none⟩) ((zaq f.its).length+1) cap,f.m⟩]) ∧
  Below B w (w1.setCell ⟨fg,F.length*4+2,none⟩ (.slice (some ⟨g,0,none⟩) ((zaq f.its).length+1) cap)) ∧
  (∀(p:Nat) (cs:Array Value),w.heap[p]?=some (Obj.cells cs 83 (0,0))→(w1.setCell ⟨fg,F.length*4+2,none⟩ (.slice (some ⟨g,0,none⟩) ((zaq f.its).length+1) cap)).heap[p]?=some (Obj.cells cs 83 (0,0))):=by
 have d:f∈F++[f]:=by simp
 have o:=h.row;have hlen:(F++[f]).length=F.length+1:=by simp
 rw [hlen] at o;obtain⟨cr,l⟩:=zct o (g:=fg) rfl;obtain⟨em,cm,x⟩:=zeM (h.labels f d);have hfgl:fg<w.heap.size:=(Array.getElem?_eq_some_iff.1 l).1;have hml:f.m<w.heap.size:=(h.labels f d).lt;have L:¬fg=f.m:=by intro e;rw [e,x] at l;cases l
 have C:¬f.bv.ownBlock=some fg:=by
  intro e;obtain⟨v,i⟩:=zct (h.bodies f d) e;rw [i] at l;simp at l
 have M:¬f.bv.ownBlock=some f.m:=by
  intro e;obtain⟨v,i⟩:=zct (h.bodies f d) e;rw [x] at i;cases i
 have A:∀ b,b<w.heap.size→¬f.bv.ownBlock=some b→¬b=fg→(w1.setCell ⟨fg,F.length*4+2,none⟩ (.slice (some ⟨g,0,none⟩) ((zaq f.its).length+1) cap)).heap[b]?=w.heap[b]?:=by
  intro b q z y;rw [Below.heap_setCell _ _ _ _ (by exact y),h3.block b q (fun e=>z e.symm)]
 have u:¬g=fg:=by
  rcases hat with e|e
  ·intro G;rw [G] at e;exact C e
  ·omega
 refine⟨⟨?_,?_,?_,?_,?_,h.lowp,?_,?_,?_⟩,?_,?_⟩
 ·have I:=o.kept h3 (.inr (by simp only [Value.ownBlock];exact fun e=>C e.symm));have D:=(World.ownsRow.stored I (F.length*4+2) (.slice (some ⟨g,0,none⟩) ((zaq f.its).length+1) cap)).1;rw [zn5 F f (f.its++[i])] at D;simpa using D
 ·intro t c;rw [List.mem_append] at c;rcases c with c|c
  ·have j:=h.bodies t (by simp [c]);refine zaj j fun b q=>?_;obtain⟨v,i⟩:=zct j q;refine A b (j.lt b q).2 ?_ ?_
   ·exact(List.pairwise_append.1 h.rows).2.2 t c f (by simp) b q
   ·intro e;rw [e,l] at i;simp at i
  ·simp at c;subst c;have e:(zaq f.its++[i]).length=(zaq f.its).length+1:=by simp
   show World.ownsRow _ B 135 8 _ (zaq (f.its++[i])).length (za5 (zaq (f.its++[i])));rw [zl7 _ _ hi,e];exact zaj h4 fun b q=>by
    have:g=b:=by simpa [Value.ownBlock] using q
    subst this;exact Below.heap_setCell _ _ _ _ (by exact u)
 ·intro t c;rw [List.mem_append] at c;rcases c with c|c
  ·have j:=h.labels t (by simp [c]);obtain⟨G,v,i⟩:=zeM j;refine j.of_block (A _ j.lt ?_ ?_)
   ·intro e;obtain⟨E,n⟩:=zct (h.bodies f d) e;rw [i] at n;cases n
   ·intro e;rw [e,l] at i;cases i
  ·simp at c;subst c;have H:MapIs w f.m (zc7 (f.its++[i])):=by rw [zjA _ _ hi];exact h.labels f d
   have J:=H.kept h3 (fun e=>M e.symm);exact J.of_block (Below.heap_setCell _ _ _ _ (fun e=>L e.symm))
 ·have s:=h.places;obtain⟨G,v,i⟩:=zeM s;have:=s.of_block (A _ s.lt (by
   intro e;obtain⟨E,n⟩:=zct (h.bodies f d) e;rw [i] at n;cases n) (by intro e;rw [e,l] at i;cases i))
  rw [zey] at this ⊢;exact this
 ·intro t c;rw [List.mem_append] at c;rcases c with c|c
  ·exact h.lowm t (by simp [c])
  ·simp at c;subst c;exact h.lowm f d
 ·intro t c;rw [List.mem_append] at c;rcases c with c|c
  ·exact h.pmNot t (by simp [c])
  ·simp at c;subst c;exact h.pmNot f d
 ·have:=List.pairwise_append.1 h.maps;refine List.pairwise_append.2 ⟨this.1,by simp,fun a ha b q=>?_⟩;simp at q;subst q;exact this.2.2 a ha f (by simp)
 ·have:=List.pairwise_append.1 h.rows;refine List.pairwise_append.2 ⟨this.1,by simp,fun a ha b q b' j=>?_⟩;simp at q;subst q;simp only [Value.ownBlock,Option.some.injEq];intro e;subst e;rcases hat with e|e
  ·exact this.2.2 a ha f (by simp) g j e
  ·have:=((h.bodies a (by simp [ha])).lt g j).2;omega
 ·have N:Below B w w1:=(Below.refl B w).grown h3 (by have:=h.lowm f d;omega) (fun k e=>((h.bodies f d).lt k e).1);exact N.setCell (o.lt fg rfl).1 _
 ·intro p cs s;rw [A p ((Array.getElem?_eq_some_iff.1 s).1) (by
   intro e;obtain⟨E,n⟩:=zct (h.bodies f d) e;rw [s] at n;simp at n) (by intro e;rw [e,l] at s;simp at s)]
  exact s
theorem PIn.labelled{B:Nat}{w w2:World}{pm:Nat}{v:Value}{F:List FnM}{f:FnM}{i:It}(h:PIn B w pm v (F++[f]))(hi:i.sort=1)
  (h1:w.grownBy w2 (some f.m)) (h2:MapIs w2 f.m (zc7 f.its++[(i.nm,(zaq f.its).length)])) :
  PIn B w2 pm v (F++[⟨f.name,f.line,f.its++[i],f.bv,f.m⟩])∧Below B w w2∧(∀(p:Nat) (cs:Array Value),w.heap[p]?=some (Obj.cells cs 83 (0,0))→w2.heap[p]?=some (Obj.cells cs 83 (0,0))):=by
 have d:f∈F++[f]:=by simp
 obtain⟨em,cm,y⟩:=zeM (h.labels f d);have u:∀ b,b<w.heap.size→¬b=f.m→w2.heap[b]?=w.heap[b]?:=fun b l hb1=>h1.block b l (by simpa using hb1);have r:∀(b:Nat) cs t,w.heap[b]?=some (Obj.cells cs t (0,0))→w2.heap[b]?=w.heap[b]?:=by
  intro b cs t l;refine u b (Array.getElem?_eq_some_iff.1 l).1 ?_;intro e;rw [e,y] at l;cases l
 refine⟨⟨?_,?_,?_,?_,?_,h.lowp,?_,?_,?_⟩,?_,?_⟩
 ·have A:=zaj (w':=w2) h.row (fun g hg=>by obtain⟨x,o⟩:=zct h.row hg;exact r g x _ o);rw [zdL] at A ⊢;simpa using A
 ·intro n c;have q:∀ f0∈F++[f],w2.ownsRow B 135 8 f0.bv (zaq f0.its).length (za5 (zaq f0.its)):=fun f0 hf0 =>
   zaj (h.bodies f0 hf0) (fun g hg=>by obtain⟨x,o⟩:=zct (h.bodies f0 hf0) hg;exact r g x _ o)
  rw [List.mem_append] at c;rcases c with c|c
  ·exact q n (by simp [c])
  ·simp at c;subst c;show World.ownsRow _ B 135 8 _ (zaq (f.its++[i])).length (za5 (zaq (f.its++[i])));rw [zl8 _ _ hi];exact q f d
 ·intro n c;rw [List.mem_append] at c;rcases c with c|c
  ·have s:=h.labels n (by simp [c]);exact s.of_block (u _ s.lt ((List.pairwise_append.1 h.maps).2.2 n c f (by simp)))
  ·simp at c;subst c;show MapIs w2 f.m (zc7 (f.its++[i]));rw [zj9 _ _ hi];exact h2
 ·have:=h.places.of_block (w':=w2) (u _ h.places.lt (fun e=>h.pmNot f d e.symm));rw [zey] at this ⊢;exact this
 ·intro n c;rw [List.mem_append] at c;rcases c with c|c
  ·exact h.lowm n (by simp [c])
  ·simp at c;subst c;exact h.lowm f d
 ·intro n c;rw [List.mem_append] at c;rcases c with c|c
  ·exact h.pmNot n (by simp [c])
  ·simp at c;subst c;exact h.pmNot f d
 ·have:=List.pairwise_append.1 h.maps;refine List.pairwise_append.2 ⟨this.1,by simp,fun a ha b l=>?_⟩;simp at l;subst l;exact this.2.2 a ha f (by simp)
 ·have:=List.pairwise_append.1 h.rows;refine List.pairwise_append.2 ⟨this.1,by simp,fun a ha b l=>?_⟩;simp at l;subst l;exact this.2.2 a ha f (by simp)
 ·exact(Below.refl B w).grown h1 (by have:=h.lowm f d;have:=(h.labels f d).lt;omega) (fun k e=>by simp at e;subst e;exact h.lowm f d)
 ·intro p cs z;rw [r p cs _ z];exact z
theorem PIn.begun{B:Nat}{w w1 w2:World}{pm:Nat}{v:Value}{F:List FnM}{nm:ByteArray}{line:Int}{p g cap:Nat}
  (h:PIn B w pm v F) (hp:w.heap[p]?=some (.cells #[v,.map (some pm)] 83 (0,0))) (hpB:B≤p)
  (h1:w.grownBy w2 (some pm)) (h2:MapIs w2 pm (zb3 F++[(nm,F.length)])) (h3:w2.grownBy w1 v.ownBlock) (hsz:w.heap.size≤w2.heap.size) (h5:MapIs w1 w2.heap.size [])
  (h4:w1.ownsRow B 131 4 (.slice (some ⟨g,0,none⟩) (F.length+1) cap) (F.length+1) (zcE F++[.string nm,.int .i64 line,.slice none 0 0,.map (some w2.heap.size)])) (hat:v.ownBlock=some g∨w2.heap.size<g) :
  PIn B (w1.setCell ⟨p,0,none⟩ (.slice (some ⟨g,0,none⟩) (F.length+1) cap)) pm (.slice (some ⟨g,0,none⟩) (F.length+1) cap) (F++[⟨nm,line,[],.slice none 0 0,w2.heap.size⟩]) ∧
  Below B w (w1.setCell ⟨p,0,none⟩ (.slice (some ⟨g,0,none⟩) (F.length+1) cap)) ∧
  (w1.setCell ⟨p,0,none⟩ (.slice (some ⟨g,0,none⟩) (F.length+1) cap)).heap[p]?=some (.cells #[.slice (some ⟨g,0,none⟩) (F.length+1) cap,.map (some pm)] 83 (0,0)):=by
 have t:p<w.heap.size:=(Array.getElem?_eq_some_iff.1 hp).1;have hpml:pm<w.heap.size:=h.places.lt;obtain⟨em,cm,o⟩:=zeM h.places;have A:¬p=pm:=by intro e;rw [e,o] at hp;cases hp
 have z:¬v.ownBlock=some p:=by
  intro e;obtain⟨x,d⟩:=zct h.row e;rw [hp] at d;simp at d
 have J:¬v.ownBlock=some pm:=by
  intro e;obtain⟨x,d⟩:=zct h.row e;rw [o] at d;cases d
 have C:∀ b,b<w.heap.size→¬b=pm→¬v.ownBlock=some b→¬b=p→(w1.setCell ⟨p,0,none⟩ (.slice (some ⟨g,0,none⟩) (F.length+1) cap)).heap[b]?=w.heap[b]?:=by
  intro b i u s r;rw [Below.heap_setCell _ _ _ _ (by exact r),h3.block b (by omega) (fun e=>s e.symm),h1.block b i (by simpa using u)]
 have y:w1.heap[p]?=some (.cells #[v,.map (some pm)] 83 (0,0)):=by
  rw [h3.block p (by omega) (fun e=>z e.symm),h1.block p t (by simpa using A)];exact hp
 have q:¬g=p:=by
  rcases hat with e|e
  ·intro I;rw [I] at e;exact z e
  ·omega
 refine⟨⟨?_,?_,?_,?_,?_,h.lowp,?_,?_,?_⟩,?_,?_⟩
 ·have e:(F++[(⟨nm,line,[],.slice none 0 0,w2.heap.size⟩:FnM)]).length=F.length+1:=by simp
  rw [e,zdL];exact zaj h4 fun b i=>by
   have:g=b:=by simpa [Value.ownBlock] using i
   subst this;exact Below.heap_setCell _ _ _ _ (by exact q)
 ·intro n c;rw [List.mem_append] at c;rcases c with c|c
  ·have f:=h.bodies n c;refine zaj f fun b i=>?_;obtain⟨x,d⟩:=zct f i;refine C b (f.lt b i).2 ?_ ?_ ?_
   ·intro e;rw [e,o] at d;cases d
   ·intro e;obtain⟨G,j⟩:=zct h.row e;rw [d] at j;simp at j
   ·intro e;rw [e,hp] at d;simp at d
  ·simp at c;subst c;exact World.ownsRow_nil _ _ _ _
 ·intro n c;rw [List.mem_append] at c;rcases c with c|c
  ·have f:=h.labels n c;obtain⟨I,x,d⟩:=zeM f;refine f.of_block (C _ f.lt (h.pmNot n c) ?_ ?_)
   ·intro e;obtain⟨G,j⟩:=zct h.row e;rw [d] at j;cases j
   ·intro e;rw [e,hp] at d;cases d
  ·simp at c;subst c;exact h5.of_block (Below.heap_setCell _ _ _ _ (by show ¬w2.heap.size=p;omega))
 ·have E:=h2.kept h3 (fun e=>J e.symm);have D:=E.of_block (w':=w1.setCell ⟨p,0,none⟩ (.slice (some ⟨g,0,none⟩) (F.length+1) cap)) (Below.heap_setCell _ _ _ _ (fun e=>A e.symm));rw [zey];exact D
 ·intro n c;rw [List.mem_append] at c;rcases c with c|c
  ·exact h.lowm n c
  ·simp at c;subst c;show B≤w2.heap.size;omega
 ·intro n c;rw [List.mem_append] at c;rcases c with c|c
  ·exact h.pmNot n c
  ·simp at c;subst c;show ¬w2.heap.size=pm;omega
 ·refine List.pairwise_append.2 ⟨h.maps,by simp,fun a ha b i=>?_⟩;simp at i;subst i;have:=(h.labels a ha).lt;show ¬a.m=w2.heap.size;omega
 ·refine List.pairwise_append.2 ⟨h.rows,by simp,fun a ha b i b' f=>?_⟩;simp at i;subst i;simp [Value.ownBlock]
 ·have H:Below B w w2:=(Below.refl B w).grown h1 (by have:=h.lowp;omega) (fun k e=>by simp at e;subst e;exact h.lowp);have K:Below B w w1:=H.grown h3 (by omega) (fun k e=>(h.row.lt k e).1);exact K.setCell hpB _
 ·have:=heap_setCell_same w1 p 0 #[v,.map (some pm)] 83 (.slice (some ⟨g,0,none⟩) (F.length+1) cap) y;rw [this];simp
structure PAt(B:Nat)(w:World)(p pm:Nat)(v:Value)(F:List FnM):Prop where
 pin:PIn B w pm v F
 var:w.heap[p]?=some (.cells #[v,.map (some pm)] 83 (0,0))
 low:B≤p
theorem PAt.cells{B:Nat}{w:World}{p pm:Nat}{v:Value}{F:List FnM}(h:PAt B w p pm v F):
  w.cell? ⟨p,0,none⟩=some v∧w.cell? ⟨p,1,none⟩=some (.map (some pm))∧w.frozen? ⟨p,0,none⟩=false:=by
 refine⟨?_,?_,frozen_of_row w p 0 _ _ h.var⟩
 ·rw [cell_of_row w p 0 _ _ _ h.var];rfl
 ·rw [cell_of_row w p 1 _ _ _ h.var];rfl
theorem PAt.of_blocks{B:Nat}{w w':World}{p pm:Nat}{v:Value}{F:List FnM}(h:PAt B w p pm v F)(hb:∀ b,B≤b→b<w.heap.size→w'.heap[b]?=w.heap[b]?):PAt B w' p pm v F :=
 ⟨h.pin.of_blocks hb,(hb p h.low (Array.getElem?_eq_some_iff.1 h.var).1).trans h.var,h.low⟩
theorem PAt.drew{B:Nat}{w:World}{p pm:Nat}{v:Value}{F:List FnM}(h:PAt B w p pm v F):PAt B w.drew p pm v F:=h.of_blocks fun _ _ _=>rfl
theorem PAt.alloc{B:Nat}{w:World}{p pm:Nat}{v:Value}{F:List FnM}(h:PAt B w p pm v F)(o:Obj):PAt B (w.alloc o) p pm v F:=h.of_blocks fun _b _ hb=>Below.heap_alloc _ _ _ hb
theorem zk8(F:List FnM):(F.map FnM.fn).map Fn.name=F.map FnM.name:=by simp [FnM.fn]
theorem PAt.apart{B:Nat}{w:World}{p pm:Nat}{v:Value}{F:List FnM}(h:PAt B w p pm v F):¬p=pm∧v.ownBlock≠some p:=by
 constructor
 ·intro e;obtain⟨em,cm,a⟩:=zeM h.pin.places;have:=h.var;rw [e,a] at this;cases this
 ·intro e;obtain⟨c2,hc2⟩:=zct h.pin.row e;have:=h.var;rw [hc2] at this;simp at this
theorem zvU{B:Nat}{w:World}{p pm:Nat}{v:Value}{F:List FnM}(h:PAt B w p pm v F)(i:It)(hs:i.sort=0)(hbad:bad0 (F.map FnM.fn) i.key=true)(hn:F.length≤4096)(hnm:i.nm.size≤1048576):
  qC 100 #[.pointer (some ⟨p,0,none⟩),stm i.sort i.line i.word i.a i.b i.c i.n i.nm] w fun e w'=>e=zak 3 i.line∧qB w w':=by
 obtain⟨d,f,c3⟩:=h.cells;refine zth w B p pm F.length v (zcE F) i (zb3 F) d f h.pin.places h.pin.row hn hnm ?_;unfold bad0 at hbad;rw [if_pos (show i.key.sort=0 from hs),zk8] at hbad;rw [zcA];exact hbad
theorem zvV{B:Nat}{w:World}{p pm:Nat}{v:Value}{F:List FnM}(h:PAt B w p pm v F)(i:It)(hs:i.sort=0)(hbad:bad0 (F.map FnM.fn) i.key=false)(hn:F.length≤4096)(hnm:i.nm.size≤1048576)(hB:B≤w.heap.size):
  qC 100 #[.pointer (some ⟨p,0,none⟩),stm i.sort i.line i.word i.a i.b i.c i.n i.nm] w fun e w'=>e=.returned (.tuple #[]) ∧
   ∃ v' F',PAt B w' p pm v' F'∧F'.map FnM.fn=addK (F.map FnM.fn) i.key∧F'.length≤F.length+1∧(∀ f∈F',f.its=[]∨∃ f0∈F,f0.its=f.its)∧Below B w w':=by
 obtain⟨k,x,y⟩:=h.cells;obtain⟨C,z⟩:=h.apart;unfold bad0 at hbad;rw [if_pos (show i.key.sort=0 from hs),zk8] at hbad;refine(zti w B p pm F.length v (zcE F) i (zb3 F) k x y h.pin.places h.pin.row z hB hn (by rw [zl9];exact hn) hnm (by rw [zcA];exact hbad) C).mono ?_;rintro e w' ⟨rfl,g,cap,w1,w2,rfl,m,o,A,l,r,s,q⟩;obtain⟨j,t,u⟩:=h.pin.begun h.var h.low m o A l r s q;refine⟨rfl,_,_,⟨j,u,h.low⟩,?_,by simp,?_,t⟩
 ·rw [List.map_append,zcK _ _ (show i.key.sort=0 from hs)];rfl
 ·intro f d;rw [List.mem_append] at d;rcases d with d|d
  ·exact .inr ⟨f,d,rfl⟩
  ·simp at d;subst d;exact .inl rfl
theorem PIn.last{B:Nat}{w:World}{pm:Nat}{v:Value}{F:List FnM}{f:FnM}(h:PIn B w pm v (F++[f])):
  ∃ fg cap,v=.slice (some ⟨fg,0,none⟩) (F.length+1) cap∧w.cell? ⟨fg,F.length*4+2,none⟩=some f.bv∧w.cell? ⟨fg,F.length*4+3,none⟩=some (.map (some f.m))∧w.frozen? ⟨fg,F.length*4+2,none⟩=false∧f.bv.ownBlock≠some fg∧¬fg=f.m∧F.length+1≤cap:=by
 have d:f∈F++[f]:=by simp
 have a:=h.row;have hlen:(F++[f]).length=F.length+1:=by simp
 rw [hlen] at a;obtain⟨fg,cap,n,_,_⟩:=a.form (by omega);subst n;obtain⟨cr,b⟩:=zct a (g:=fg) rfl;obtain⟨em,cm,l⟩:=zeM (h.labels f d);have c:∀ j,j<4→w.cell? ⟨fg,F.length*4+j,none⟩=f.cells[j]?:=fun j hj=>by
  rw [World.ownsRow.cellAt a (F.length*4+j) (by omega),zjB (F++[f]) F.length (by simp) j hj];simp
 have i:F.length+1≤cap:=by
  rcases a.2 with ⟨k,_⟩|⟨g',cap',cur,k,_,_,hnc,_⟩
  ·simp at k
  ·simp at k;omega
 refine⟨fg,cap,rfl,c 2 (by omega),c 3 (by omega),World.ownsRow.frozenAt a _,?_,?_,i⟩
 ·intro e;obtain⟨c2,hc2⟩:=zct (h.bodies f d) e;rw [hc2] at b;simp at b
 ·intro e;rw [e,l] at b;cases b
theorem zlA(n:Nat)(l:List It):(zb2 n l).length≤l.length:=by
 induction l generalizing n with
 | nil=>simp [zb2]
 | cons i l ih =>
  rw [zcy];split
  ·have:=ih n;simp;omega
  ·have:=ih (n+1);simp;omega
theorem zzt{B:Nat}{w:World}{p pm:Nat}{v:Value}{F:List FnM}{f:FnM}(h:PAt B w p pm v (F++[f]))(i:It)(hs:¬i.sort=0)(hbad:bad0 ((F++[f]).map FnM.fn) i.key=true)(hn:f.its.length≤4096)(hnm:i.nm.size≤1048576)(fg cap:Nat)(hv:v=.slice (some ⟨fg,0,none⟩) (F.length+1) cap):
  qC 101 #[.pointer (some ⟨fg,F.length*4,none⟩),stm i.sort i.line i.word i.a i.b i.c i.n i.nm] w fun e w'=>e=zak 3 i.line∧qB w w':=by
 have d:f∈F++[f]:=by simp
 obtain⟨fg',cap',g,k,l,c3,c4,c5,c6⟩:=h.pin.last;rw [hv] at g;simp at g;obtain⟨rfl,rfl⟩:=g;unfold bad0 at hbad;rw [if_neg (show ¬i.key.sort=0 from hs)] at hbad;by_cases j:i.sort=1
 ·rw [if_pos (show i.key.sort=1 from j)] at hbad;simp only [List.map_append,List.map_cons,List.map_nil,List.getLast?_append,List.getLast?_singleton,Option.some_or] at hbad;exact zxP w B fg (F.length*4) f.m f.bv (zaq f.its) i _ j k l (h.pin.labels f d) (h.pin.bodies f d) (Nat.le_trans (zed _) hn) hnm (by rw [zdQ];exact hbad)
 ·rw [if_neg (show ¬i.key.sort=1 from j)] at hbad;cases hbad
theorem zzu{B:Nat}{w:World}{p pm:Nat}{v:Value}{F:List FnM}{f:FnM}(h:PAt B w p pm v (F++[f]))(i:It)(hs:¬i.sort=0)(hbad:bad0 ((F++[f]).map FnM.fn) i.key=false)(hn:f.its.length≤4096)(hnm:i.nm.size≤1048576)(hB:B≤w.heap.size)(fg cap:Nat)(hv:v=.slice (some ⟨fg,0,none⟩) (F.length+1) cap):
  qC 101 #[.pointer (some ⟨fg,F.length*4,none⟩),stm i.sort i.line i.word i.a i.b i.c i.n i.nm] w fun e w'=>e=.returned (.tuple #[]) ∧
   ∃ f',PAt B w' p pm v (F++[f'])∧(F++[f']).map FnM.fn=addK ((F++[f]).map FnM.fn) i.key∧f'.its=f.its++[i]∧Below B w w':=by
 have d:f∈F++[f]:=by simp
 obtain⟨fg',cap',l,t,D,E,x,c5,c6⟩:=h.pin.last;rw [hv] at l;simp at l;obtain⟨rfl,rfl⟩:=l;have j:=h.pin;have k:∀ u:Value,(F++[(⟨f.name,f.line,f.its++[i],u,f.m⟩:FnM)]).map FnM.fn=addK ((F++[f]).map FnM.fn) i.key:=by
  intro u;rw [List.map_append,List.map_append];rw [show [f].map FnM.fn=[f.fn] from rfl,zgg _ _ _ (show ¬i.key.sort=0 from hs)];simp [FnM.fn]
 unfold bad0 at hbad;rw [if_neg (show ¬i.key.sort=0 from hs)] at hbad;by_cases o:i.sort=1
 ·rw [if_pos (show i.key.sort=1 from o)] at hbad;simp only [List.map_append,List.map_cons,List.map_nil,List.getLast?_append,List.getLast?_singleton,Option.some_or] at hbad;refine(zxQ w B fg (F.length*4) f.m f.bv (zaq f.its) i _ o t D (h.pin.labels f d) (h.pin.bodies f d) (Nat.le_trans (zed _) hn) (Nat.le_trans (zlA _ _) hn) hnm (by rw [zdQ];exact hbad)).mono ?_;rintro e w' ⟨rfl,z,G⟩;obtain⟨q,r,s⟩:=j.labelled o z G;exact⟨rfl,_,⟨q,s p _ h.var,h.low⟩,k _,rfl,r⟩
 ·refine(add_plain w B fg (F.length*4) f.bv (zaq f.its) i o t E (h.pin.bodies f d) x hB (Nat.le_trans (zed _) hn)).mono ?_;rintro e w' ⟨rfl,g,cap2,w1,rfl,y,A,C⟩;rw [hv] at j;obtain⟨q,r,s⟩:=j.added o y A C;exact⟨rfl,_,⟨by rw [hv];exact q,s p _ h.var,h.low⟩,k _,rfl,r⟩
section
attribute [local go_sem ↓] Go.wp_at_zero Go.wp_at_succ
def ItOk(i:It):Prop:=i.nm.size≤1048576∧(i.sort=1→i.word=⟨#[]⟩)
def zvW(w:World)(K:List Key):Ending→World→Prop:=fun e w' =>
 qB w w'∧((∃ l,zbg [] K=some l∧e=zak 3 l) ∨
  (zbg [] K=none∧∃ pm v F,e=.returned (.agg #[v,.map (some pm)])∧PIn w.heap.size w' pm v F∧F.map FnM.fn=K.foldl addK []∧F.length≤K.length∧∀ f∈F,f.its.length≤K.length∧∀ i∈f.its,ItOk i))
theorem PIn.mono{B B':Nat}{w:World}{pm:Nat}{v:Value}{F:List FnM}(h:PIn B w pm v F)(hB:B'≤B):PIn B' w pm v F :=
 ⟨zbk h.row hB,fun f hf=>zbk (h.bodies f hf) hB,h.labels,h.places,fun f hf=>Nat.le_trans hB (h.lowm f hf),Nat.le_trans hB h.lowp,h.pmNot,h.maps,h.rows⟩
theorem zq6(K:List Key)(k:Nat)(h:k<K.length):(K.take (k+1)).foldl addK []=addK ((K.take k).foldl addK []) K[k]:=by
 rw [List.take_succ_eq_append_getElem h,List.foldl_append];rfl
theorem zq7(F:List Fn)(K:List Key)(k:Nat)(h:k<K.length):zbg F (K.drop k)=if bad0 F K[k]=true then some K[k].line else zbg (addK F K[k]) (K.drop (k+1)):=by
 rw [List.drop_eq_getElem_cons h];rfl
theorem zbp(w:World)(a:Obj){w1:World}(h:Below (w.alloc a).heap.size (w.alloc a) w1):qB w w1 :=
 ((Below.refl w.heap.size w).alloc (Nat.le_refl _) a).trans (h.mono (by simp))
theorem zlB{B:Nat}{w:World}(a:Obj){w1:World}(hB:B≤w.heap.size)(h:Below B (w.alloc a) w1):Below B w w1 :=
 ((Below.refl B w).alloc hB a).trans h
theorem zyd(F:List FnM)(h:¬F=[]):∃ F0 f,F=F0++[f]:=⟨F.dropLast,F.getLast h,(List.dropLast_concat_getLast h).symm⟩
abbrev W3(w:World):World:=((w.alloc (.cells #[.slice none 0 0,.map none] 83)).alloc (.map #[] 0)).alloc (.cells #[.slice none 0 0,.map (some (w.heap.size+1))] 83)
theorem zlC(w:World)(B0:Nat)(v0:Value)(its:List It)(hown0:w.ownsRow B0 135 8 v0 its.length (za5 its))(hn:its.length≤300)(hnm:∀ i∈its,ItOk i)(hpos:0<its.length)(hfirst:Hid (its[0].sort=0)):
  qC 68 #[v0] w (zvW w (its.map It.key)):=by
 obtain⟨g0,cap0,rfl,_,ab,B⟩:=zgD hown0 hpos;have ac:=fun W=>zxw W;have R:qB w (W3 w):=(((Below.refl _ _).alloc (Nat.le_refl _) _).alloc (by simp) _).alloc (by simp;omega) _;have ad:(W3 w).heap.size=w.heap.size+3:=by simp [W3]
 have Z:PAt (w.heap.size+1) (W3 w) (w.heap.size+1+1) (w.heap.size+1) (.slice none 0 0) []:=by
  refine⟨PIn.start _ _ _ ?_ (Nat.le_refl _),?_,by omega⟩
  ·have:=MapIs.made (w.alloc (.cells #[.slice none 0 0,.map none] 83));have:=this.alloc (.cells #[.slice none 0 0,.map (some (w.heap.size+1))] 83);simpa using this
  ·have:=heap_alloc_new ((w.alloc (.cells #[.slice none 0 0,.map none] 83)).alloc (.map #[] 0)) (.cells #[.slice none 0 0,.map (some (w.heap.size+1))] 83);simpa using this
 have x:(W3 w).heap[w.heap.size]?=some (.cells #[.slice none 0 0,.map none] 83 (0,0)):=by
  rw [Below.heap_alloc _ _ _ (by simp;omega),Below.heap_alloc _ _ _ (by simp)];exact heap_alloc_new w _
 go_enter Tryz.func68,Tryz.ntmps68;go_wp2;change Code.wp _ _ _ _ (W3 w);generalize W3 w=W at R ad Z x;clear ac
 go_loopw [10] (fun ti wr=>∃(k:Nat) (v:Value) (F:List FnM),k≤its.length∧ti=.int .i64 (k:Int)∧PAt (w.heap.size+1) wr (w.heap.size+1+1) (w.heap.size+1) v F∧F.map FnM.fn=((its.map It.key).take k).foldl addK []∧Below (w.heap.size+1) W wr∧F.length≤k∧(∀ f∈F,f.its.length≤k)∧zbg [] (its.map It.key)=zbg (F.map FnM.fn) ((its.map It.key).drop k)∧(0<k→¬F=[])∧(∀ f∈F,∀ i∈f.its,ItOk i)) (fun ti _=>its.length-(intOf ti).toNat)
 case atStart=>exact⟨0,_,[],by omega,rfl,Z,rfl,Below.refl _ _,by simp,by simp,rfl,by simp,by simp⟩
 case round =>
  obtain⟨k,v,F,hk,rfl,g,hF,y,T,C,hT,Q,D⟩:=hrel;have HF:Hid (F.map FnM.fn=((its.map It.key).take k).foldl addK []):=hF;have HT:Hid (zbg [] (its.map It.key)=zbg (F.map FnM.fn) ((its.map It.key).drop k)):=hT;clear hF hT;have hszr:=y.size;have E:qB w wr:=R.trans (y.mono (by omega));by_cases N:k<its.length
  ·have V:=B k N;have s:=hnm its[k] (List.getElem_mem N);have I:k<(its.map It.key).length:=by simpa using N
   have aa:Hid (zbg [] (its.map It.key)=if bad0 (F.map FnM.fn) its[k].key=true then some its[k].key.line else zbg (addK (F.map FnM.fn) its[k].key) ((its.map It.key).drop (k+1))):=by
    unfold Hid;rw [HT.out,zq7 _ _ k I];simp
   have X:Hid (((its.map It.key).take (k+1)).foldl addK []=addK (F.map FnM.fn) its[k].key):=by
    unfold Hid;rw [zq6 _ k I,←HF.out];simp
   have H0:Hid (¬its[k].sort=0→¬F=[]):=fun h=>Q (by
    rcases Nat.eq_zero_or_pos k with e|e
    ·subst e;exact absurd hfirst.out h
    ·exact e)
   generalize its[k]=i at V s aa X H0;obtain⟨c0,c1,c2,c3,c4,c5,c6,c7⟩:=V;have z:∀ j,wr.cell? ⟨g0,j,none⟩=w.cell? ⟨g0,j,none⟩:=fun j=>E.cell (p:=⟨g0,j,none⟩) ab;rw [←z] at c0 c1 c2 c3 c4 c5 c6 c7;have hk8:k*8≤2400:=by omega
   clear z Q;by_cases A:i.sort=0
   ·cases hbad:bad0 (F.map FnM.fn) i.key with
    | true =>
     have M:Hid (zbg [] (its.map It.key)=some i.line):=by unfold Hid;rw [aa.out,hbad];rfl
     have d:=zvU (g.alloc (.cells #[.int .i64 i.sort,.int .i64 i.line,.string i.word,.int .i64 i.a,.int .i64 i.b,.int .i64 i.c,.int .i64 i.n,.string i.nm] 135)) i A hbad (by omega) s.1;rw [A] at d c0;clear hbad A;go_wp2_with(go_at_call 100;refine d.mono ?_;rintro e w2 ⟨rfl,m⟩)
     exact⟨rfl,E.trans ((zbp _ _ m).mono (by omega)),.inl ⟨_,M.out,rfl⟩⟩
    | false =>
     have M:Hid (zbg [] (its.map It.key)=zbg (addK (F.map FnM.fn) i.key) ((its.map It.key).drop (k+1))):=by unfold Hid;rw [aa.out,hbad];rfl
     have d:=zvV (g.alloc (.cells #[.int .i64 i.sort,.int .i64 i.line,.string i.word,.int .i64 i.a,.int .i64 i.b,.int .i64 i.c,.int .i64 i.n,.string i.nm] 135)) i A hbad (by omega) s.1 (by simp;omega);have HS:Hid (i.sort=0):=A;rw [A] at d c0;clear hbad A;go_wp2_with(go_at_call 100;refine d.mono ?_;rintro e w2 ⟨rfl,v2,F2,r,G,ae,Y,m⟩)
     have t:=y.trans (zlB _ (by omega) m);clear m d;go_roundw
     case rel =>
      refine⟨k+1,v2,F2,by omega,by go_num,r,by rw [X.out];exact G,t,by omega,?_,by rw [G];exact M.out,?_,?_⟩
      ·intro f O;rcases Y f O with e|⟨f0,K,e⟩
       ·rw [e];simp
       ·rw [←e];have:=C f0 K;omega
      ·rintro _ rfl;have:=X.out;have h3:=G;rw [zcK _ _ HS.out] at h3;simp at h3
      ·intro f O;rcases Y f O with e|⟨f0,K,e⟩
       ·rw [e];simp
       ·rw [←e];exact D f0 K
     case measure=>simp [intOf];omega
   ·obtain⟨H,f,rfl⟩:=zyd F (H0.out A)
    ·obtain⟨fg,S,rfl,_,_,_,_,_,hcap⟩:=g.pin.last;have hfi:=C f (by simp);have hfl:H.length+1≤300:=by simp at T;omega
     have hpc:=(g.alloc (.cells #[.int .i64 i.sort,.int .i64 i.line,.string i.word,.int .i64 i.a,.int .i64 i.b,.int .i64 i.c,.int .i64 i.n,.string i.nm] 135)).cells.1;have hs':(i.sort == 0)=false:=by simpa using A
     have hf4:(0:Int)≤(H.length:Int):=by omega
     have hne1:¬wr.heap.size=w.heap.size+1+1:=by omega
     have hne2:¬w.heap.size+1+1=wr.heap.size:=by omega
     have hwrap:IntKind.i64.wrap (H.length:Int)=(H.length:Int):=zcH _ (by omega) (by omega);have hf5:(H.length:Int)<(H.length:Int)+1:=by omega
     cases hbad:bad0 ((H++[f]).map FnM.fn) i.key with
     | true =>
      have M:Hid (zbg [] (its.map It.key)=some i.line):=by unfold Hid;rw [aa.out,hbad];rfl
      have d:=zzt (g.alloc (.cells #[.int .i64 i.sort,.int .i64 i.line,.string i.word,.int .i64 i.a,.int .i64 i.b,.int .i64 i.c,.int .i64 i.n,.string i.nm] 135)).drew i A hbad (by omega) s.1 fg S rfl;clear hbad A;go_wp2_with fail
      go_region_dies
      all_goals(go_at_call 101;refine d.mono ?_;rintro e w2 ⟨rfl,m⟩)
      all_goals exact⟨rfl,E.trans ((znt _ _ m).mono (by omega)),.inl ⟨_,M.out,rfl⟩⟩
     | false =>
      have M:Hid (zbg [] (its.map It.key)=zbg (addK ((H++[f]).map FnM.fn) i.key) ((its.map It.key).drop (k+1))):=by unfold Hid;rw [aa.out,hbad];rfl
      have d:=zzu (g.alloc (.cells #[.int .i64 i.sort,.int .i64 i.line,.string i.word,.int .i64 i.a,.int .i64 i.b,.int .i64 i.c,.int .i64 i.n,.string i.nm] 135)).drew i A hbad (by omega) s.1 (by show w.heap.size+1≤(wr.alloc _).heap.size;simp;omega) fg S rfl;clear hbad A;go_wp2_with fail
      go_region_with(go_at_call 101;refine d.mono ?_;rintro e w2 ⟨rfl,f2,r,G,ae,m⟩)
      all_goals(
       have t:=y.trans (zlB _ (by omega) ((((Below.refl (w.heap.size+1) _).drew)).trans m));clear m d;go_wp2;go_roundw
       case rel =>
        refine⟨k+1,_,H++[f2],by omega,by go_num,r,by rw [X.out];exact G,t,by simp at T ⊢;omega,?_,by rw [G];exact M.out,by simp,?_⟩
        ·intro f' l;rw [List.mem_append] at l;rcases l with l|l
         ·have:=C f' (by simp [l]);omega
         ·simp at l;subst l;rw [ae];simp;omega
        ·intro f' l j J;rw [List.mem_append] at l;rcases l with l|l
         ·exact D f' (by simp [l]) j J
         ·simp at l;subst l;rw [ae,List.mem_append] at J;rcases J with J|J
          ·exact D f (by simp) j J
          ·simp at J;subst J;exact s
       case measure=>simp [intOf];omega)
  ·have HE:Hid (k=its.length):=by unfold Hid;omega
   obtain⟨P,o,rfl⟩:=zb7 g.pin.row;obtain⟨y0,y1,_⟩:=g.cells;have q:wr.heap[w.heap.size]?=some (.cells #[.slice none 0 0,.map none] 83 (0,0)):=(y.block _ (by omega)).trans x;have r0:wr.cell? ⟨w.heap.size,0,none⟩=some (.slice none 0 0):=by rw [cell_of_row wr _ 0 _ _ _ q];rfl
   have r1:wr.cell? ⟨w.heap.size,1,none⟩=some (.map none):=by rw [cell_of_row wr _ 1 _ _ _ q];rfl
   have f0:wr.frozen? ⟨w.heap.size,0,none⟩=false:=frozen_of_row wr _ 0 _ _ q;have f1:wr.frozen? ⟨w.heap.size,1,none⟩=false:=frozen_of_row wr _ 1 _ _ q;clear q;go_wp2;have q0:=World.cell?_setCell_same (wr.setCell ⟨w.heap.size,0,none⟩ (.slice P F.length o)) ⟨w.heap.size,1,none⟩ (.map (some (w.heap.size+1))) (u:=.map none) (by rw [World.cell?_setCell_other];exact r1;simp);have q1:((wr.setCell ⟨w.heap.size,0,none⟩ (.slice P F.length o)).setCell ⟨w.heap.size,1,none⟩ (.map (some (w.heap.size+1)))).cell? ⟨w.heap.size,0,none⟩=some (.slice P F.length o):=by
    rw [World.cell?_setCell_other]
    ·exact World.cell?_setCell_same wr _ _ r0
    ·simp
   have m:qB w ((wr.setCell ⟨w.heap.size,0,none⟩ (.slice P F.length o)).setCell ⟨w.heap.size,1,none⟩ (.map (some (w.heap.size+1)))):=(E.setCell (p:=⟨w.heap.size,0,none⟩) (Nat.le_refl _) _).setCell (p:=⟨w.heap.size,1,none⟩) (Nat.le_refl _) _;have L:=g.pin.of_blocks (w':=((wr.setCell ⟨w.heap.size,0,none⟩ (.slice P F.length o)).setCell ⟨w.heap.size,1,none⟩ (.map (some (w.heap.size+1))))) (fun b hb _=>by rw [Below.heap_setCell _ _ _ _ (by show ¬b=w.heap.size;omega),Below.heap_setCell _ _ _ _ (by show ¬b=w.heap.size;omega)]);refine bodyPost_ret (v:=.agg #[.slice P F.length o,.map (some (w.heap.size+1))]) (by simp [results,Tryz.results68,go_sem,q0,q1]) rfl ⟨m,.inr ⟨?_,_,_,F,rfl,L.mono (Nat.le_succ _),?_,?_,?_⟩⟩
   ·rw [HT.out,HE.out,List.drop_of_length_le (by simp)];rfl
   ·rw [HF.out,HE.out,List.take_of_length_le (by simp)]
   ·have:=HE.out;simp;omega
   ·intro f O;refine⟨?_,D f O⟩;have:=C f O;simp;omega
end
end Go.Proofs.YtfpgjkbjbbgciaaGreatDoor
