import Derived.Test.YtfpgjkbjbbgciaaGreatDoorMf12
import Derived.Test.YtfpgjkbjbbgciaaGreatDoorMf13
set_option maxRecDepth 100000
set_option maxHeartbeats 8000000
namespace Go.Proofs.YtfpgjkbjbbgciaaGreatDoor
open Go.RowKit Sp
structure FnM where
 name : ByteArray
 line : Int
 its : List It
 bv : Value
 m : Nat
abbrev FnM.cells (f : FnM) : List Value:=[.string f.name,.int .i64 f.line,f.bv,.map (some f.m)]
def zb5 (F : List FnM) : List Value:=F.flatMap FnM.cells
def zaf (l : List It) : List It:=l.filter (fun i => !decide (i.sort = 1))
theorem zib (l : List It) (i : It) (h : ¬ i.sort = 1) : zaf (l ++ [i]) = zaf l ++ [i]:=by simp [zaf,List.filter_append,h]
theorem zic (l : List It) (i : It) (h : i.sort = 1) : zaf (l ++ [i]) = zaf l:=by simp [zaf,List.filter_append,h]
theorem zc7 (l : List It) : (zaf l).length ≤ l.length:=List.length_filter_le _ _
def zaG : Nat → List It → List (ByteArray × Nat)
 | _,[] => []
 | n,i :: r => if i.sort = 1 then (i.nm,n) :: zaG n r else zaG (n + 1) r
abbrev zb1 (l : List It) : List (ByteArray × Nat):=zaG 0 l
theorem zbx (n : Nat) (i : It) (r : List It) : zaG n (i :: r) = if i.sort = 1 then (i.nm,n) :: zaG n r else zaG (n + 1) r:=rfl
theorem zcY (n : Nat) (l r : List It) : zaG n (l ++ r) = zaG n l ++ zaG (n + (zaf l).length) r:=by
 induction l generalizing n with
 | nil => simp [zaG,zaf]
 | cons i l ih =>
  rw [List.cons_append,zbx,zbx]
  by_cases h : i.sort = 1
  ·rw [if_pos h,if_pos h,ih n,show zaf (i :: l) = zaf l by simp [zaf,h]]
   rfl
  ·rw [if_neg h,if_neg h,ih (n + 1),show zaf (i :: l) = i :: zaf l by simp [zaf,h]]
   rw [show n + 1 + (zaf l).length = n + (i :: zaf l).length by simp; omega]
theorem zgK (l : List It) (i : It) (h : i.sort = 1) : zb1 (l ++ [i]) = zb1 l ++ [(i.nm,(zaf l).length)]:=by
 unfold zb1; rw [zcY]; simp [zaG,h]
theorem zgL (l : List It) (i : It) (h : ¬ i.sort = 1) : zb1 (l ++ [i]) = zb1 l:=by
 unfold zb1; rw [zcY]; simp [zaG,h]
theorem zc1 (n : Nat) (l : List It) : zaT (zaG n l) = labsOf (l.map It.key):=by
 induction l generalizing n with
 | nil => rfl
 | cons i l ih =>
  rw [zbx]
  by_cases h : i.sort = 1
  ·rw [if_pos h]
   have:=ih n
   simp only [zaT] at this ⊢
   simp [labsOf,It.key,h] at this ⊢
   exact this
  ·rw [if_neg h]
   have:=ih (n + 1)
   simp only [zaT] at this ⊢
   simp [labsOf,It.key,h] at this ⊢
   exact this
def zaJ : Nat → List FnM → List (ByteArray × Nat)
 | _,[] => []
 | n,f :: r => (f.name,n) :: zaJ (n + 1) r
abbrev zaR (F : List FnM) : List (ByteArray × Nat):=zaJ 0 F
theorem zco (n : Nat) (f : FnM) (r : List FnM) : zaJ n (f :: r) = (f.name,n) :: zaJ (n + 1) r:=rfl
theorem zeH (n : Nat) (F G : List FnM) : zaJ n (F ++ G) = zaJ n F ++ zaJ (n + F.length) G:=by
 induction F generalizing n with
 | nil => simp [zaJ]
 | cons f F ih =>
  rw [List.cons_append,zco,zco,ih (n + 1),show n + 1 + F.length = n + (f :: F).length by simp; omega]
  rfl
theorem zcE (F : List FnM) (f : FnM) : zaR (F ++ [f]) = zaR F ++ [(f.name,F.length)]:=by
 unfold zaR; rw [zeH]; simp [zaJ]
theorem zb3 (n : Nat) (F : List FnM) : zaT (zaJ n F) = F.map FnM.name:=by
 induction F generalizing n with
 | nil => rfl
 | cons f F ih =>
  have:=ih (n + 1)
  simp only [zaT,zaJ,List.map_cons] at this ⊢
  rw [this]
theorem zid (F : List FnM) : (zaR F).length = F.length:=by
 have:=congrArg List.length (zb3 0 F)
 simpa [zaT] using this
def FnM.fn (f : FnM) : Fn:=⟨f.name,f.line,f.its.map It.key⟩
theorem zga (F : List FnM) : (zb5 F).length = F.length * 4:=by
 induction F with
 | nil => rfl
 | cons i l ih => simp [zb5] at ih ⊢; omega
theorem zcw (F : List FnM) (f : FnM) : zb5 (F ++ [f]) = zb5 F ++ f.cells:=by simp [zb5]
theorem zgM (F : List FnM) (k : Nat) (h : k < F.length) (j : Nat) (hj : j < 4) : (zb5 F)[k * 4 + j]? = F[k].cells[j]?:=by
 induction F generalizing k with
 | nil => simp at h
 | cons i l ih =>
  have e : zb5 (i :: l) = i.cells ++ zb5 l:=by simp [zb5]
  rw [e]
  cases k with
  | zero =>
   rw [List.getElem?_append_left (by simp; omega)]
   simp
  | succ k =>
   rw [List.getElem?_append_right (by simp; omega)]
   have:=ih k (by simpa using h)
   simp only [List.getElem_cons_succ]
   rw [← this]
   congr 1
   simp; omega
theorem zj5 (F : List FnM) (f : FnM) (its : List It) (u : Value) : (zb5 (F ++ [f])).set (F.length * 4 + 2) u = zb5 (F ++ [⟨f.name,f.line,its,u,f.m⟩]):=by
 rw [zcw,zcw,List.set_append_right _ _ (by rw [zga]; omega),zga]
 rw [show F.length * 4 + 2 - F.length * 4 = 2 by omega]
 rfl
theorem MapIs.of_block {w w' : World} {b : Nat} {E : List (ByteArray × Nat)} (h : MapIs w b E) (e : w'.heap[b]? = w.heap[b]?) : MapIs w' b E:=by
 obtain ⟨D,⟨es,clock,hh,r⟩,h2⟩:=h
 exact ⟨D,⟨es,clock,e.trans hh,r⟩,h2⟩
theorem zad {w w' : World} {B : Nat} {e : TypeId} {size n : Nat} {v : Value} {xs : List Value} (h : w.ownsRow B e size v n xs) (hb : ∀ g,v.ownBlock = some g → w'.heap[g]? = w.heap[g]?) : w'.ownsRow B e size v n xs:=by
 refine ⟨h.1,?_⟩
 rcases h.2 with h2 | ⟨g,cap,cur,hv,hg,hh,r⟩
 ·exact .inl h2
 ·exact .inr ⟨g,cap,cur,hv,hg,(hb g (by rw [hv]; rfl)).trans hh,r⟩
theorem zbk {w : World} {B : Nat} {e : TypeId} {size n : Nat} {v : Value} {xs : List Value} (h : w.ownsRow B e size v n xs) {g : Nat} (hg : v.ownBlock = some g) : ∃ cur,w.heap[g]? = some (.cells cur e (0,0)):=by
 rcases h.2 with ⟨hv,_⟩ | ⟨g',cap,cur,hv,_,hh,_⟩
 ·rw [hv] at hg; cases hg
 ·rw [hv] at hg
  have : g' = g:=by simpa [Value.ownBlock] using hg
  subst this
  exact ⟨cur,hh⟩
theorem zcZ {w : World} {b : Nat} {E : List (ByteArray × Nat)} (h : MapIs w b E) : ∃ es c,w.heap[b]? = some (.map es c):=by
 obtain ⟨D,⟨es,clock,hh,r⟩,_⟩:=h
 exact ⟨es,clock,hh⟩
structure PIn (B : Nat) (w : World) (pm : Nat) (v : Value) (F : List FnM) : Prop where
 row : w.ownsRow B 131 4 v F.length (zb5 F)
 bodies : ∀ f ∈ F,w.ownsRow B 135 8 f.bv (zaf f.its).length (zam (zaf f.its))
 labels : ∀ f ∈ F,MapIs w f.m (zb1 f.its)
 places : MapIs w pm (zaR F)
 lowm : ∀ f ∈ F,B ≤ f.m
 lowp : B ≤ pm
 pmNot : ∀ f ∈ F,¬ f.m = pm
 maps : F.Pairwise (fun a b => ¬ a.m = b.m)
 rows : F.Pairwise (fun a b => ∀ g,a.bv.ownBlock = some g → ¬ b.bv.ownBlock = some g)
theorem PIn.of_blocks {B : Nat} {w w' : World} {pm : Nat} {v : Value} {F : List FnM} (h : PIn B w pm v F) (hb : ∀ b,B ≤ b → b < w.heap.size → w'.heap[b]? = w.heap[b]?) : PIn B w' pm v F:=by
 refine ⟨zad h.row fun g hg => ?_,fun f hf => zad (h.bodies f hf) fun g hg => ?_,fun f hf => (h.labels f hf).of_block (hb _ (h.lowm f hf) (h.labels f hf).lt),h.places.of_block (hb _ h.lowp h.places.lt),h.lowm,h.lowp,h.pmNot,h.maps,h.rows⟩
 ·have:=h.row.lt g hg; exact hb g this.1 this.2
 ·have:=(h.bodies f hf).lt g hg; exact hb g this.1 this.2
theorem PIn.start (B : Nat) (w : World) (pm : Nat) (hM : MapIs w pm []) (hB : B ≤ pm) : PIn B w pm (.slice none 0 0) [] :=
 ⟨World.ownsRow_nil _ _ _ _,by simp,by simp,hM,by simp,hB,by simp,by simp,by simp⟩
theorem PIn.added {B : Nat} {w w1 : World} {pm : Nat} {F : List FnM} {f : FnM} {i : It} {fg cap0 g cap : Nat}
  (h : PIn B w pm (.slice (some ⟨fg,0,none⟩) (F.length + 1) cap0) (F ++ [f]))
  (hi : ¬ i.sort = 1) (h3 : w.grownBy w1 f.bv.ownBlock)
  (h4 : w1.ownsRow B 135 8 (.slice (some ⟨g,0,none⟩) ((zaf f.its).length + 1) cap) ((zaf f.its).length + 1) (zam (zaf f.its ++ [i]))) (hat : f.bv.ownBlock = some g ∨ w.heap.size ≤ g) :
  PIn B (w1.setCell ⟨fg,F.length * 4 + 2,none⟩ (.slice (some ⟨g,0,none⟩) ((zaf f.its).length + 1) cap)) pm (.slice (some ⟨fg,0,none⟩) (F.length + 1) cap0) (F ++ [⟨f.name,f.line,f.its ++ [i],.slice (some ⟨g,0,none⟩) ((zaf f.its).length + 1) cap,f.m⟩]) ∧
  Below B w (w1.setCell ⟨fg,F.length * 4 + 2,none⟩ (.slice (some ⟨g,0,none⟩) ((zaf f.its).length + 1) cap)) ∧
  (∀ (p : Nat) (cs : Array Value),w.heap[p]? = some (Obj.cells cs 83 (0,0)) → (w1.setCell ⟨fg,F.length * 4 + 2,none⟩ (.slice (some ⟨g,0,none⟩) ((zaf f.its).length + 1) cap)).heap[p]? = some (Obj.cells cs 83 (0,0))):=by
 have hmem : f ∈ F ++ [f]:=by simp
 have hrow:=h.row
 have hlen : (F ++ [f]).length = F.length + 1:=by simp
 rw [hlen] at hrow
 obtain ⟨cr,hcr⟩:=zbk hrow (g:=fg) rfl
 obtain ⟨em,cm,hem⟩:=zcZ (h.labels f hmem)
 have hfgl : fg < w.heap.size:=(Array.getElem?_eq_some_iff.1 hcr).1
 have hml : f.m < w.heap.size:=(h.labels f hmem).lt
 have n1 : ¬ fg = f.m:=by intro e; rw [e,hem] at hcr; cases hcr
 have n2 : ¬ f.bv.ownBlock = some fg:=by
  intro e
  obtain ⟨c2,hc2⟩:=zbk (h.bodies f hmem) e
  rw [hc2] at hcr; simp at hcr
 have n3 : ¬ f.bv.ownBlock = some f.m:=by
  intro e
  obtain ⟨c2,hc2⟩:=zbk (h.bodies f hmem) e
  rw [hem] at hc2; cases hc2
 have fr : ∀ b,b < w.heap.size → ¬ f.bv.ownBlock = some b → ¬ b = fg → (w1.setCell ⟨fg,F.length * 4 + 2,none⟩ (.slice (some ⟨g,0,none⟩) ((zaf f.its).length + 1) cap)).heap[b]? = w.heap[b]?:=by
  intro b hb hb2 hb3
  rw [Below.heap_setCell _ _ _ _ (by exact hb3),h3.block b hb (fun e => hb2 e.symm)]
 have hgfg : ¬ g = fg:=by
  rcases hat with e | e
  ·intro e2; rw [e2] at e; exact n2 e
  ·omega
 refine ⟨⟨?_,?_,?_,?_,?_,h.lowp,?_,?_,?_⟩,?_,?_⟩
 ·have a2:=hrow.kept h3 (.inr (by simp only [Value.ownBlock]; exact fun e => n2 e.symm))
  have a3:=(World.ownsRow.stored a2 (F.length * 4 + 2) (.slice (some ⟨g,0,none⟩) ((zaf f.its).length + 1) cap)).1
  rw [zj5 F f (f.its ++ [i])] at a3
  simpa using a3
 ·intro f' hf'
  rw [List.mem_append] at hf'
  rcases hf' with hf' | hf'
  ·have hb':=h.bodies f' (by simp [hf'])
   refine zad hb' fun b hb => ?_
   obtain ⟨c2,hc2⟩:=zbk hb' hb
   refine fr b (hb'.lt b hb).2 ?_ ?_
   ·exact (List.pairwise_append.1 h.rows).2.2 f' hf' f (by simp) b hb
   ·intro e; rw [e,hcr] at hc2; simp at hc2
  ·simp at hf'; subst hf'
   have e : (zaf f.its ++ [i]).length = (zaf f.its).length + 1:=by simp
   show World.ownsRow _ B 135 8 _ (zaf (f.its ++ [i])).length (zam (zaf (f.its ++ [i])))
   rw [zib _ _ hi,e]
   exact zad h4 fun b hb => by
    have : g = b:=by simpa [Value.ownBlock] using hb
    subst this
    exact Below.heap_setCell _ _ _ _ (by exact hgfg)
 ·intro f' hf'
  rw [List.mem_append] at hf'
  rcases hf' with hf' | hf'
  ·have hb':=h.labels f' (by simp [hf'])
   obtain ⟨e2,c2,hc2⟩:=zcZ hb'
   refine hb'.of_block (fr _ hb'.lt ?_ ?_)
   ·intro e
    obtain ⟨c3,hc3⟩:=zbk (h.bodies f hmem) e
    rw [hc2] at hc3; cases hc3
   ·intro e; rw [e,hcr] at hc2; cases hc2
  ·simp at hf'; subst hf'
   have a0 : MapIs w f.m (zb1 (f.its ++ [i])):=by rw [zgL _ _ hi]; exact h.labels f hmem
   have a1:=a0.kept h3 (fun e => n3 e.symm)
   exact a1.of_block (Below.heap_setCell _ _ _ _ (fun e => n1 e.symm))
 ·have hp:=h.places
  obtain ⟨e2,c2,hc2⟩:=zcZ hp
  have:=hp.of_block (fr _ hp.lt (by
   intro e
   obtain ⟨c3,hc3⟩:=zbk (h.bodies f hmem) e
   rw [hc2] at hc3; cases hc3) (by intro e; rw [e,hcr] at hc2; cases hc2))
  rw [zcE] at this ⊢
  exact this
 ·intro f' hf'
  rw [List.mem_append] at hf'
  rcases hf' with hf' | hf'
  ·exact h.lowm f' (by simp [hf'])
  ·simp at hf'; subst hf'; exact h.lowm f hmem
 ·intro f' hf'
  rw [List.mem_append] at hf'
  rcases hf' with hf' | hf'
  ·exact h.pmNot f' (by simp [hf'])
  ·simp at hf'; subst hf'; exact h.pmNot f hmem
 ·have:=List.pairwise_append.1 h.maps
  refine List.pairwise_append.2 ⟨this.1,by simp,fun a ha b hb => ?_⟩
  simp at hb; subst hb
  exact this.2.2 a ha f (by simp)
 ·have:=List.pairwise_append.1 h.rows
  refine List.pairwise_append.2 ⟨this.1,by simp,fun a ha b hb b' hb' => ?_⟩
  simp at hb; subst hb
  simp only [Value.ownBlock,Option.some.injEq]
  intro e
  subst e
  rcases hat with e | e
  ·exact this.2.2 a ha f (by simp) g hb' e
  ·have:=((h.bodies a (by simp [ha])).lt g hb').2; omega
 ·have b2 : Below B w w1:=(Below.refl B w).grown h3 (by have:=h.lowm f hmem; omega) (fun k e => ((h.bodies f hmem).lt k e).1)
  exact b2.setCell (hrow.lt fg rfl).1 _
 ·intro p cs hp
  rw [fr p ((Array.getElem?_eq_some_iff.1 hp).1) (by
   intro e
   obtain ⟨c3,hc3⟩:=zbk (h.bodies f hmem) e
   rw [hp] at hc3; simp at hc3) (by intro e; rw [e,hcr] at hp; simp at hp)]
  exact hp
theorem PIn.labelled {B : Nat} {w w2 : World} {pm : Nat} {v : Value} {F : List FnM} {f : FnM} {i : It} (h : PIn B w pm v (F ++ [f])) (hi : i.sort = 1)
  (h1 : w.grownBy w2 (some f.m)) (h2 : MapIs w2 f.m (zb1 f.its ++ [(i.nm,(zaf f.its).length)])) :
  PIn B w2 pm v (F ++ [⟨f.name,f.line,f.its ++ [i],f.bv,f.m⟩]) ∧ Below B w w2 ∧ (∀ (p : Nat) (cs : Array Value),w.heap[p]? = some (Obj.cells cs 83 (0,0)) → w2.heap[p]? = some (Obj.cells cs 83 (0,0))):=by
 have hmem : f ∈ F ++ [f]:=by simp
 obtain ⟨em,cm,hem⟩:=zcZ (h.labels f hmem)
 have fr : ∀ b,b < w.heap.size → ¬ b = f.m → w2.heap[b]? = w.heap[b]?:=fun b hb hb1 => h1.block b hb (by simpa using hb1)
 have frc : ∀ (b : Nat) cs t,w.heap[b]? = some (Obj.cells cs t (0,0)) → w2.heap[b]? = w.heap[b]?:=by
  intro b cs t hb
  refine fr b (Array.getElem?_eq_some_iff.1 hb).1 ?_
  intro e; rw [e,hem] at hb; cases hb
 refine ⟨⟨?_,?_,?_,?_,?_,h.lowp,?_,?_,?_⟩,?_,?_⟩
 ·have hr:=zad (w':=w2) h.row (fun g hg => by obtain ⟨c2,hc2⟩:=zbk h.row hg; exact frc g c2 _ hc2)
  rw [zcw] at hr ⊢
  simpa using hr
 ·intro f' hf'
  have hbo : ∀ f0 ∈ F ++ [f],w2.ownsRow B 135 8 f0.bv (zaf f0.its).length (zam (zaf f0.its)):=fun f0 hf0 =>
   zad (h.bodies f0 hf0) (fun g hg => by obtain ⟨c2,hc2⟩:=zbk (h.bodies f0 hf0) hg; exact frc g c2 _ hc2)
  rw [List.mem_append] at hf'
  rcases hf' with hf' | hf'
  ·exact hbo f' (by simp [hf'])
  ·simp at hf'; subst hf'
   show World.ownsRow _ B 135 8 _ (zaf (f.its ++ [i])).length (zam (zaf (f.its ++ [i])))
   rw [zic _ _ hi]
   exact hbo f hmem
 ·intro f' hf'
  rw [List.mem_append] at hf'
  rcases hf' with hf' | hf'
  ·have hb':=h.labels f' (by simp [hf'])
   exact hb'.of_block (fr _ hb'.lt ((List.pairwise_append.1 h.maps).2.2 f' hf' f (by simp)))
  ·simp at hf'; subst hf'
   show MapIs w2 f.m (zb1 (f.its ++ [i]))
   rw [zgK _ _ hi]
   exact h2
 ·have:=h.places.of_block (w':=w2) (fr _ h.places.lt (fun e => h.pmNot f hmem e.symm))
  rw [zcE] at this ⊢
  exact this
 ·intro f' hf'
  rw [List.mem_append] at hf'
  rcases hf' with hf' | hf'
  ·exact h.lowm f' (by simp [hf'])
  ·simp at hf'; subst hf'; exact h.lowm f hmem
 ·intro f' hf'
  rw [List.mem_append] at hf'
  rcases hf' with hf' | hf'
  ·exact h.pmNot f' (by simp [hf'])
  ·simp at hf'; subst hf'; exact h.pmNot f hmem
 ·have:=List.pairwise_append.1 h.maps
  refine List.pairwise_append.2 ⟨this.1,by simp,fun a ha b hb => ?_⟩
  simp at hb; subst hb
  exact this.2.2 a ha f (by simp)
 ·have:=List.pairwise_append.1 h.rows
  refine List.pairwise_append.2 ⟨this.1,by simp,fun a ha b hb => ?_⟩
  simp at hb; subst hb
  exact this.2.2 a ha f (by simp)
 ·exact (Below.refl B w).grown h1 (by have:=h.lowm f hmem; have:=(h.labels f hmem).lt; omega) (fun k e => by simp at e; subst e; exact h.lowm f hmem)
 ·intro p cs hp
  rw [frc p cs _ hp]; exact hp
theorem PIn.begun {B : Nat} {w w1 w2 : World} {pm : Nat} {v : Value} {F : List FnM} {nm : ByteArray} {line : Int} {p g cap : Nat}
  (h : PIn B w pm v F) (hp : w.heap[p]? = some (.cells #[v,.map (some pm)] 83 (0,0))) (hpB : B ≤ p)
  (h1 : w.grownBy w2 (some pm)) (h2 : MapIs w2 pm (zaR F ++ [(nm,F.length)])) (h3 : w2.grownBy w1 v.ownBlock) (hsz : w.heap.size ≤ w2.heap.size) (h5 : MapIs w1 w2.heap.size [])
  (h4 : w1.ownsRow B 131 4 (.slice (some ⟨g,0,none⟩) (F.length + 1) cap) (F.length + 1) (zb5 F ++ [.string nm,.int .i64 line,.slice none 0 0,.map (some w2.heap.size)])) (hat : v.ownBlock = some g ∨ w2.heap.size < g) :
  PIn B (w1.setCell ⟨p,0,none⟩ (.slice (some ⟨g,0,none⟩) (F.length + 1) cap)) pm (.slice (some ⟨g,0,none⟩) (F.length + 1) cap) (F ++ [⟨nm,line,[],.slice none 0 0,w2.heap.size⟩]) ∧
  Below B w (w1.setCell ⟨p,0,none⟩ (.slice (some ⟨g,0,none⟩) (F.length + 1) cap)) ∧
  (w1.setCell ⟨p,0,none⟩ (.slice (some ⟨g,0,none⟩) (F.length + 1) cap)).heap[p]? = some (.cells #[.slice (some ⟨g,0,none⟩) (F.length + 1) cap,.map (some pm)] 83 (0,0)):=by
 have hpl : p < w.heap.size:=(Array.getElem?_eq_some_iff.1 hp).1
 have hpml : pm < w.heap.size:=h.places.lt
 obtain ⟨em,cm,hem⟩:=zcZ h.places
 have n1 : ¬ p = pm:=by intro e; rw [e,hem] at hp; cases hp
 have n2 : ¬ v.ownBlock = some p:=by
  intro e
  obtain ⟨c2,hc2⟩:=zbk h.row e
  rw [hp] at hc2; simp at hc2
 have n3 : ¬ v.ownBlock = some pm:=by
  intro e
  obtain ⟨c2,hc2⟩:=zbk h.row e
  rw [hem] at hc2; cases hc2
 have fr : ∀ b,b < w.heap.size → ¬ b = pm → ¬ v.ownBlock = some b → ¬ b = p → (w1.setCell ⟨p,0,none⟩ (.slice (some ⟨g,0,none⟩) (F.length + 1) cap)).heap[b]? = w.heap[b]?:=by
  intro b hb hb1 hb2 hb3
  rw [Below.heap_setCell _ _ _ _ (by exact hb3),h3.block b (by omega) (fun e => hb2 e.symm),h1.block b hb (by simpa using hb1)]
 have hp1 : w1.heap[p]? = some (.cells #[v,.map (some pm)] 83 (0,0)):=by
  rw [h3.block p (by omega) (fun e => n2 e.symm),h1.block p hpl (by simpa using n1)]
  exact hp
 have hgp : ¬ g = p:=by
  rcases hat with e | e
  ·intro e2; rw [e2] at e; exact n2 e
  ·omega
 refine ⟨⟨?_,?_,?_,?_,?_,h.lowp,?_,?_,?_⟩,?_,?_⟩
 ·have e : (F ++ [(⟨nm,line,[],.slice none 0 0,w2.heap.size⟩ : FnM)]).length = F.length + 1:=by simp
  rw [e,zcw]
  exact zad h4 fun b hb => by
   have : g = b:=by simpa [Value.ownBlock] using hb
   subst this
   exact Below.heap_setCell _ _ _ _ (by exact hgp)
 ·intro f' hf'
  rw [List.mem_append] at hf'
  rcases hf' with hf' | hf'
  ·have hb':=h.bodies f' hf'
   refine zad hb' fun b hb => ?_
   obtain ⟨c2,hc2⟩:=zbk hb' hb
   refine fr b (hb'.lt b hb).2 ?_ ?_ ?_
   ·intro e; rw [e,hem] at hc2; cases hc2
   ·intro e
    obtain ⟨c3,hc3⟩:=zbk h.row e
    rw [hc2] at hc3; simp at hc3
   ·intro e; rw [e,hp] at hc2; simp at hc2
  ·simp at hf'; subst hf'
   exact World.ownsRow_nil _ _ _ _
 ·intro f' hf'
  rw [List.mem_append] at hf'
  rcases hf' with hf' | hf'
  ·have hb':=h.labels f' hf'
   obtain ⟨e2,c2,hc2⟩:=zcZ hb'
   refine hb'.of_block (fr _ hb'.lt (h.pmNot f' hf') ?_ ?_)
   ·intro e
    obtain ⟨c3,hc3⟩:=zbk h.row e
    rw [hc2] at hc3; cases hc3
   ·intro e; rw [e,hp] at hc2; cases hc2
  ·simp at hf'; subst hf'
   exact h5.of_block (Below.heap_setCell _ _ _ _ (by show ¬ w2.heap.size = p; omega))
 ·have a1:=h2.kept h3 (fun e => n3 e.symm)
  have a2:=a1.of_block (w':=w1.setCell ⟨p,0,none⟩ (.slice (some ⟨g,0,none⟩) (F.length + 1) cap)) (Below.heap_setCell _ _ _ _ (fun e => n1 e.symm))
  rw [zcE]
  exact a2
 ·intro f' hf'
  rw [List.mem_append] at hf'
  rcases hf' with hf' | hf'
  ·exact h.lowm f' hf'
  ·simp at hf'; subst hf'; show B ≤ w2.heap.size; omega
 ·intro f' hf'
  rw [List.mem_append] at hf'
  rcases hf' with hf' | hf'
  ·exact h.pmNot f' hf'
  ·simp at hf'; subst hf'; show ¬ w2.heap.size = pm; omega
 ·refine List.pairwise_append.2 ⟨h.maps,by simp,fun a ha b hb => ?_⟩
  simp at hb; subst hb
  have:=(h.labels a ha).lt
  show ¬ a.m = w2.heap.size; omega
 ·refine List.pairwise_append.2 ⟨h.rows,by simp,fun a ha b hb b' hb' => ?_⟩
  simp at hb; subst hb
  simp [Value.ownBlock]
 ·have b1 : Below B w w2:=(Below.refl B w).grown h1 (by have:=h.lowp; omega) (fun k e => by simp at e; subst e; exact h.lowp)
  have b2 : Below B w w1:=b1.grown h3 (by omega) (fun k e => (h.row.lt k e).1)
  exact b2.setCell hpB _
 ·have:=heap_setCell_same w1 p 0 #[v,.map (some pm)] 83 (.slice (some ⟨g,0,none⟩) (F.length + 1) cap) hp1
  rw [this]
  simp
end Go.Proofs.YtfpgjkbjbbgciaaGreatDoor
