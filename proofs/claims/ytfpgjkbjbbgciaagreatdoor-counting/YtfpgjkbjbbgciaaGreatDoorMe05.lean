import Derived.Test.YtfpgjkbjbbgciaaGreatDoorMe01
import Derived.Test.YtfpgjkbjbbgciaaGreatDoorMe03
import Derived.Defers
import Derived.Recover
import Derived.Maps.RangeWalk
set_option maxRecDepth 100000
set_option maxHeartbeats 8000000
namespace Go.Proofs.YtfpgjkbjbbgciaaGreatDoor.Sp
def opOk (k : UInt8) (x : ByteArray) : Bool:=if k = 82 then decide (0 ≤ reg x) else if k = 75 then (zbv x).2 else za7 x
def zaG : List UInt8 → List ByteArray → Bool
 | [],_ => true
 | k :: ks,x :: xs => opOk k x && zaG ks xs
 | _ :: _,[] => true
def zeB (s : ByteArray) : Int:=bt s (s.size - 1)
def zdM (x : ByteArray) : Bool:=isW x [102,117,110,99]
structure Said where
 kind : Int
 kept : List ByteArray
 ok : Bool
def sayW (l : List ByteArray) : Said :=
 match l with
 | [] => ⟨0,[],true⟩
 | x :: r =>
  if zdM x = true then ⟨102,l,decide (l.length = 2) && za7 (l.getLast?.getD ByteArray.empty)⟩
  else if l.length = 1 ∧ zeB x = 58 then ⟨108,[x.extract 0 (x.size - 1)],za7 (x.extract 0 (x.size - 1))⟩
  else ⟨105,l,if zaa x = [63] ∨ ¬ l.length = (zaa x).length + 1 then false else zaG (zaa x) r⟩
def say (s : ByteArray) : Said:=if za3 s 0 = true then sayW (words s) else ⟨0,[],false⟩
theorem zeC (s now : ByteArray) (l : List ByteArray) (hl : ∀ x ∈ l,1 ≤ x.size ∧ x.size ≤ s.size) (hn : now.size ≤ s.size) : ∀ x ∈ flush now l,1 ≤ x.size ∧ x.size ≤ s.size:=by
 intro x hx
 unfold flush at hx
 split at hx
 ·exact hl x hx
 ·rw [List.mem_append] at hx
  rcases hx with hx | hx
  ·exact hl x hx
  ·simp at hx; subst hx; omega
theorem zd2 (s : ByteArray) (i : Nat) (now : ByteArray) (l : List ByteArray) (hl : ∀ x ∈ l,1 ≤ x.size ∧ x.size ≤ s.size) (hn : now.size ≤ i) (hi : i ≤ s.size) : ∀ x ∈ zaF s i now l,1 ≤ x.size ∧ x.size ≤ s.size:=by
 by_cases h : i < s.size
 ·by_cases h1 : bt s i = 32 ∨ bt s i = 9 ∨ bt s i = 59
  ·by_cases h2 : bt s i = 59
   ·rw [zcB s i now l h h2]; exact zeC s now l hl (by omega)
   ·rw [zch s i now l h (by omega)]
    exact zd2 s (i + 1) _ _ (zeC s now l hl (by omega)) (by simp) (by omega)
  ·rw [zek s i now l h h1]
   exact zd2 s (i + 1) _ _ hl (by rw [ByteArray.size_append,ByteArray.size_extract]; omega) (by omega)
 ·rw [zcR s i now l h]; exact zeC s now l hl (by omega)
termination_by s.size - i
theorem zgP (s : ByteArray) : ∀ x ∈ words s,1 ≤ x.size ∧ x.size ≤ s.size:=zd2 s 0 _ _ (by simp) (by simp) (by omega)
theorem znZ (ks : List UInt8) (xs : List ByteArray) (i : Nat) (hk : i < ks.length) (hx : i < xs.length) : zaG (ks.drop i) (xs.drop i) = (opOk ks[i] xs[i] && zaG (ks.drop (i + 1)) (xs.drop (i + 1))):=by
 rw [List.drop_eq_getElem_cons hk,List.drop_eq_getElem_cons hx]; rfl
def Wf (q : Said) : Prop:=(q.kind = 0 ∧ q.kept.length = 0) ∨ (q.kind = 102 ∧ q.kept.length = 2) ∨ (q.kind = 108 ∧ q.kept.length = 1) ∨ (q.kind = 105 ∧ 1 ≤ q.kept.length ∧ q.kept.length ≤ 4)
def eqW (a b : ByteArray) : Bool:=a.toList == b.toList
def Said.word (q : Said) (i : Nat) : ByteArray:=q.kept[i]?.getD ByteArray.empty
def isFn (q : Said) (x : ByteArray) : Bool:=decide (q.kind = 102) && eqW (q.word 1) x
def zdh (q : Said) (x : ByteArray) : Bool:=decide (q.kind = 108) && eqW (q.word 0) x
def zca (L : List Said) (x : ByteArray) (i : Nat) : Int :=
 if h : i < L.length then (if isFn L[i] x = true then (i : Int) else zca L x (i + 1)) else -1
termination_by L.length - i
def zfe (L : List Said) : Nat → Int
 | 0 => if (L[0]?.map Said.kind) = some 102 then 0 else -1
 | k + 1 => if (L[k + 1]?.map Said.kind) = some 102 then ((k + 1 : Nat) : Int) else zfe L k
def zbo (L : List Said) (x : ByteArray) (i : Nat) : Int :=
 if h : i < L.length then (if L[i].kind = 102 then -1 else if zdh L[i] x = true then (i : Int) else zbo L x (i + 1)) else -1
termination_by L.length - i
def zjf (L : List Said) (k : Nat) (x : ByteArray) : Int:=zbo L x (zfe L k + 1).toNat
theorem zis (L : List Said) (x : ByteArray) (i : Nat) (h : ¬ i < L.length) : zca L x i = -1:=by rw [zca,dif_neg h]
theorem zel (L : List Said) (x : ByteArray) (i : Nat) (h : i < L.length) (h' : isFn L[i] x = true) : zca L x i = i:=by rw [zca,dif_pos h,if_pos h']
theorem zdN (L : List Said) (x : ByteArray) (i : Nat) (h : i < L.length) (h' : isFn L[i] x = false) : zca L x i = zca L x (i + 1):=by rw [zca,dif_pos h,if_neg (by simp [h'])]
theorem zgQ (L : List Said) (x : ByteArray) (i : Nat) (h : ¬ i < L.length) : zbo L x i = -1:=by rw [zbo,dif_neg h]
theorem zjJ (L : List Said) (x : ByteArray) (i : Nat) (h : i < L.length) (h' : L[i].kind = 102) : zbo L x i = -1:=by rw [zbo,dif_pos h,if_pos h']
theorem zd3 (L : List Said) (x : ByteArray) (i : Nat) (h : i < L.length) (h0 : ¬ L[i].kind = 102) (h' : zdh L[i] x = true) : zbo L x i = i:=by rw [zbo,dif_pos h,if_neg h0,if_pos h']
theorem zc0 (L : List Said) (x : ByteArray) (i : Nat) (h : i < L.length) (h0 : ¬ L[i].kind = 102) (h' : zdh L[i] x = false) : zbo L x i = zbo L x (i + 1):=by rw [zbo,dif_pos h,if_neg h0,if_neg (by simp [h'])]
theorem zg5 (L : List Said) (k : Nat) (h : k < L.length) (h' : L[k].kind = 102) : zfe L k = k:=by
 cases k with
 | zero => unfold zfe; rw [List.getElem?_eq_getElem h]; simp [h']
 | succ k => unfold zfe; rw [List.getElem?_eq_getElem h]; simp [h']
theorem zem (L : List Said) (k : Nat) (h : k + 1 < L.length) (h' : ¬ L[k + 1].kind = 102) : zfe L (k + 1) = zfe L k:=by
 conv => lhs; unfold zfe
 rw [List.getElem?_eq_getElem h]; simp [h']
end Go.Proofs.YtfpgjkbjbbgciaaGreatDoor.Sp
namespace Go.Proofs.YtfpgjkbjbbgciaaGreatDoor
open Go.RowKit Sp
structure LinesIn (w : World) (g : Nat) (L : List Said) : Prop where
 kind : ∀ i (h : i < L.length),w.cell? ⟨g,i * 2,none⟩ = some (.int .u8 L[i].kind)
 words : ∀ i (h : i < L.length),0 < L[i].kept.length → ∃ b c,w.cell? ⟨g,i * 2 + 1,none⟩ = some (.slice (some ⟨b,0,none⟩) L[i].kept.length c) ∧ ∀ j (hj : j < L[i].kept.length),w.cell? ⟨b,j,none⟩ = some (.string L[i].kept[j])
 wf : ∀ i (h : i < L.length),Wf L[i]
theorem zaD (s : ByteArray) (l : List UInt8) (h : (s.toList == l) = true) : s = ⟨l.toArray⟩:=by
 rw [beq_iff_eq,ByteArray.toList_eq] at h
 rw [← h]
theorem zbx {w w' : World} {B b : Nat} {e : TypeId} {size n : Nat} {v : Value} {xs : List Value} (h : w.ownsRow b e size v n xs) (hb : Below B w w') (hB : w.heap.size ≤ B) : w'.ownsRow b e size v n xs:=by
 refine ⟨h.1,?_⟩
 rcases h.2 with h2 | ⟨g,cap,cur,hv,hg,hh,r⟩
 ·exact .inl h2
 ·refine .inr ⟨g,cap,cur,hv,hg,?_,r⟩
  rw [hb.block g (by have:=(Array.getElem?_eq_some_iff.1 hh).1; omega)]
  exact hh
theorem zjN {w : World} {b b' : Nat} {e e' : TypeId} {size size' n n' : Nat} {v v' : Value} {xs xs' : List Value} (h : w.ownsRow b e size v n xs) (h' : w.ownsRow b' e' size' v' n' xs') (hne : ¬ e = e') : v.ownBlock = none ∨ v.ownBlock ≠ v'.ownBlock:=by
 rcases h.2 with ⟨hv,_⟩ | ⟨g,cap,cur,hv,hg,hh,r⟩
 ·subst hv; exact .inl rfl
 ·rcases h'.2 with ⟨hv',_⟩ | ⟨g',cap',cur',hv',hg',hh',r'⟩
  ·subst hv hv'; exact .inr (by simp [Value.ownBlock])
  ·subst hv hv'
   refine .inr ?_
   simp only [Value.ownBlock]
   intro heq
   simp only [Option.some.injEq] at heq
   subst heq
   rw [hh] at hh'
   simp at hh'
   exact hne hh'.2
def zqd (P : List (Said × Value)) : List Value:=P.flatMap fun p => [.int .u8 p.1.kind,p.2]
structure RowsIn (B : Nat) (w : World) (v : Value) (P : List (Said × Value)) : Prop where
 row : w.ownsRow B 87 2 v P.length (zqd P)
 words : ∀ p ∈ P,w.ownsRow B 9 1 p.2 p.1.kept.length (p.1.kept.map Value.string)
theorem zjL (W : World) (v : Value) : (Instr.typeAssert (.iface 115 v) 20 115 true).run Tryz.prog W = .ok (.tuple #[v,.bool true]) W:=by kernel_rfl
theorem zl2 {w : World} {b : Nat} {x y : Value} (hx : w.cell? ⟨b,0,none⟩ = some x) (hy : w.cell? ⟨b + 1,0,none⟩ = some y) (e l : Value) (o : Obj) :
  Below b w (((w.setCell ⟨b,0,none⟩ e).setCell ⟨b + 1,0,none⟩ l).alloc o).drew ∧ (((w.setCell ⟨b,0,none⟩ e).setCell ⟨b + 1,0,none⟩ l).alloc o).drew.cell? ⟨b,0,none⟩ = some e ∧ (((w.setCell ⟨b,0,none⟩ e).setCell ⟨b + 1,0,none⟩ l).alloc o).drew.cell? ⟨b + 1,0,none⟩ = some l:=by
 have hlt1 : b + 1 < w.heap.size:=by have:=World.block_lt_of_cell? w _ hy; simpa using this
 refine ⟨((((Below.refl b w).setCell (p:=⟨b,0,none⟩) (Nat.le_refl _) _).setCell (p:=⟨b + 1,0,none⟩) (Nat.le_succ b) _).alloc (by simp [World.setCell]; omega) _).drew,?_,?_⟩
 ·show (((w.setCell ⟨b,0,none⟩ e).setCell ⟨b + 1,0,none⟩ l).alloc o).cell? ⟨b,0,none⟩ = some e
  rw [World.cell?_alloc_lt _ o ⟨b,0,none⟩ (by simp [World.setCell]; omega),World.cell?_setCell_other]
  ·exact World.cell?_setCell_same w _ _ hx
  ·simp
 ·show (((w.setCell ⟨b,0,none⟩ e).setCell ⟨b + 1,0,none⟩ l).alloc o).cell? ⟨b + 1,0,none⟩ = some l
  rw [World.cell?_alloc_lt _ o ⟨b + 1,0,none⟩ (by simp [World.setCell]; omega)]
  refine World.cell?_setCell_same (u:=y) _ _ _ ?_
  rw [World.cell?_setCell_other]
  ·exact hy
  ·simp
theorem zfj (b : Nat) (x y e l : Int) (w : World) (hx : w.cell? ⟨b,0,none⟩ = some (.int .i64 x)) (hy : w.cell? ⟨b + 1,0,none⟩ = some (.int .i64 y)) (fx : w.frozen? ⟨b,0,none⟩ = false) (fy : w.frozen? ⟨b + 1,0,none⟩ = false) :
  CallsD Tryz.prog 64 #[.pointer (some ⟨b,0,none⟩),.pointer (some ⟨b + 1,0,none⟩)] (.panicking ({ v:=.iface 115 (.agg #[.int .i64 e,.int .i64 l]),recovered:=false } :: [])) w fun en u' w' =>
   en = .returned (.tuple #[]) ∧ u' = .panicking ({ v:=.iface 115 (.agg #[.int .i64 e,.int .i64 l]),recovered:=true } :: []) ∧ Below b w w' ∧ w'.cell? ⟨b,0,none⟩ = some (.int .i64 e) ∧ w'.cell? ⟨b + 1,0,none⟩ = some (.int .i64 l):=by
 have has:=zjL
 refine callsD_of_wpS Tryz.func64 rfl fun c₀ cs hu => ?_
 apply wpS_seq
 apply wpS_region
 simp [wpOpsS,go_sem,recoverD,hu,Tryz.ntmps64,Exit.thenS]
 refine wpS_of_wp ?_
 have hlt1 : b + 1 < w.heap.size:=by have:=World.block_lt_of_cell? w _ hy; simpa using this
 have hlt0 : b < w.heap.size:=by omega
 have hn1 : ¬ b = w.heap.size:=by omega
 have hn2 : ¬ b + 1 = w.heap.size:=by omega
 go_wp2
 go_region
 all_goals exact ⟨rfl,_,rfl,.tuple #[],by simp [results,Tryz.results64],rfl,rfl,zl2 hx hy _ _ _⟩
theorem zit (b : Nat) (w : World) :
  CallsD Tryz.prog 64 #[.pointer (some ⟨b,0,none⟩),.pointer (some ⟨b + 1,0,none⟩)] .returning w fun en u' w' => en = .returned (.tuple #[]) ∧ u' = .returning ∧ w' = w:=by
 refine callsD_of_wpS Tryz.func64 rfl fun c₀ cs hu => ?_
 apply wpS_seq
 apply wpS_region
 simp [wpOpsS,go_sem,recoverD,hu,Tryz.ntmps64,Exit.thenS]
 refine wpS_of_wp ?_
 go_wp2
 exact ⟨rfl,.returning,by rw [← hu],.tuple #[],by simp [results,Tryz.results64],rfl,rfl,rfl⟩
end Go.Proofs.YtfpgjkbjbbgciaaGreatDoor
namespace Go.Proofs.YtfpgjkbjbbgciaaGreatDoor.Sp
theorem zl5 (s : ByteArray) (a b c : Nat) (h1 : a ≤ b) (h2 : b ≤ c) : s.extract a b ++ s.extract b c = s.extract a c:=by
 apply ByteArray.ext
 rw [ByteArray.data_append,ByteArray.data_extract,ByteArray.data_extract,ByteArray.data_extract]
 rw [Array.extract_append_extract]
 congr 1 <;> omega
theorem zuR (s : ByteArray) (a : Nat) : s.extract a a = ByteArray.empty:=by
 apply ByteArray.ext
 rw [ByteArray.data_extract]
 simp
 omega
theorem zqe (s : ByteArray) (n i : Nat) (now : ByteArray) (l : List ByteArray) (hn : i + n ≤ s.size) (h : ∀ j,i ≤ j → j < i + n → ¬ (bt s j = 32 ∨ bt s j = 9 ∨ bt s j = 59)) : zaF s i now l = zaF s (i + n) (now ++ s.extract i (i + n)) l:=by
 induction n generalizing i now with
 | zero =>
  rw [Nat.add_zero,zuR]
  congr 1
  simp
 | succ n ih =>
  rw [zek s i now l (by omega) (h i (by omega) (by omega)),ih (i + 1) _ (by omega) (fun j h1 h2 => h j (by omega) (by omega))]
  rw [show i + 1 + n = i + (n + 1) by omega]
  congr 1
  rw [ByteArray.append_assoc,zl5 s i (i + 1) (i + (n + 1)) (by omega) (by omega)]
theorem zeH (s : ByteArray) (k i : Nat) (v u : Int) (h : zdo s i k v = some u) : ∀ j,i ≤ j → j < i + k → 128 ≤ bt s j:=by
 induction k generalizing i v with
 | zero => intro j h1 h2; omega
 | succ k ih =>
  unfold zdo at h
  split at h
  ·rename_i hc
   intro j h1 h2
   by_cases hj : j = i
   ·subst hj; omega
   ·exact ih _ _ h j (by omega) (by omega)
  ·cases h
theorem zgT (s : ByteArray) (i : Nat) (hi : i < s.size) (h0 : ¬ (chr s i).1 = 0) : (bt s i < 128 ∧ chr s i = (1,bt s i)) ∨ (128 ≤ (chr s i).2 ∧ ∀ j,i ≤ j → j < i + chrN s i → 128 ≤ bt s j):=by
 by_cases h : bt s i < 128
 ·left; exact ⟨h,by unfold chr; rw [if_pos h]⟩
 ·right
  unfold chrN
  unfold chr at h0 ⊢
  rw [if_neg h] at h0 ⊢
  split at h0
  ·rename_i hc
   rw [if_pos hc]
   rcases zbB 2 128 (zdo s (i + 1) 1 (bt s i - 192)) with h' | ⟨v,h1,h2,h3,_⟩
   ·rw [h'] at h0; exact absurd rfl h0
   ·rw [h2]
    refine ⟨h3,fun j a b => ?_⟩
    by_cases hj : j = i
    ·subst hj; omega
    ·exact zeH s 1 (i + 1) _ _ h1 j (by omega) (by simp at b; omega)
  ·rename_i hc
   rw [if_neg hc]
   split at h0
   ·rename_i hd
    rw [if_pos hd]
    rcases zbB 3 2048 (zdo s (i + 1) 2 (bt s i - 224)) with h' | ⟨v,h1,h2,h3,_⟩
    ·rw [h'] at h0; exact absurd rfl h0
    ·rw [h2]
     refine ⟨by show 128 ≤ v; omega,fun j a b => ?_⟩
     by_cases hj : j = i
     ·subst hj; omega
     ·exact zeH s 2 (i + 1) _ _ h1 j (by omega) (by simp at b; omega)
   ·rename_i hd
    rw [if_neg hd]
    split at h0
    ·rename_i he
     rw [if_pos he]
     rcases zbB 4 65536 (zdo s (i + 1) 3 (bt s i - 240)) with h' | ⟨v,h1,h2,h3,_⟩
     ·rw [h'] at h0; exact absurd rfl h0
     ·rw [h2]
      refine ⟨by show 128 ≤ v; omega,fun j a b => ?_⟩
      by_cases hj : j = i
      ·subst hj; omega
      ·exact zeH s 3 (i + 1) _ _ h1 j (by omega) (by simp at b; omega)
    ·exact absurd rfl h0
theorem zeq (s : ByteArray) (i : Nat) (now : ByteArray) (l : List ByteArray) (hi : i < s.size) (h0 : ¬ (chr s i).1 = 0) (hc : ¬ ((chr s i).2 = 32 ∨ (chr s i).2 = 9 ∨ (chr s i).2 = 59)) : zaF s i now l = zaF s (i + chrN s i) (now ++ s.extract i (i + chrN s i)) l:=by
 have hp:=zcL s i hi h0
 refine zqe s (chrN s i) i now l (by omega) (fun j h1 h2 => ?_)
 rcases zgT s i hi h0 with ⟨ha,hb⟩ | ⟨_,hb⟩
 ·have hN : chrN s i = 1:=by unfold chrN; rw [hb]; rfl
  have : j = i:=by omega
  subst this
  rw [hb] at hc
  exact hc
 ·have:=hb j h1 h2; omega
theorem zgU (s : ByteArray) (i : Nat) (hi : i < s.size) (h0 : ¬ (chr s i).1 = 0) (hc : (chr s i).2 < 128) : bt s i = (chr s i).2 ∧ chrN s i = 1:=by
 rcases zgT s i hi h0 with ⟨ha,hb⟩ | ⟨hb,_⟩
 ·unfold chrN; rw [hb]; exact ⟨rfl,rfl⟩
 ·omega
def pre (p : List UInt8) : List (List UInt8) → List (List UInt8)
 | h :: t => (p ++ h) :: t
 | [] => [p]
def zcb : List UInt8 → List (List UInt8)
 | [] => [[]]
 | c :: r => if c = 10 then [] :: zcb r else pre [c] (zcb r)
theorem zlA (l : List (List UInt8)) (h : l ≠ []) : pre [] l = l:=by
 cases l with
 | nil => exact absurd rfl h
 | cons a b => rfl
theorem zhb (l : List UInt8) : zcb l ≠ []:=by
 cases l with
 | nil => simp [zcb]
 | cons c r =>
  unfold zcb
  split
  ·simp
  ·cases zcb r <;> simp [pre]
theorem zuZ (p q : List UInt8) (l : List (List UInt8)) : pre p (pre q l) = pre (p ++ q) l:=by
 cases l <;> simp [pre]
theorem zji (s : ByteArray) (f i : Nat) (hf : f ≤ i) (hi : i ≤ s.size) : (zbN s f i).map (·.data.toList) = pre ((s.data.toList.drop f).take (i - f)) (zcb (s.data.toList.drop i)):=by
 by_cases h : i < s.size
 ·obtain ⟨c,r,h1,h2,h3⟩:=zgO s i h
  by_cases h10 : bt s i = 10
  ·rw [zeA s f i h h10,List.map_cons,zji s (i + 1) (i + 1) (by omega) (by omega),h1,← h3]
   have hc : c = 10:=by
    apply UInt8.toNat_inj.1
    have : (c.toNat : Int) = 10:=by omega
    simp; omega
   subst hc
   simp only [Nat.sub_self,List.take_zero]
   rw [zlA _ (zhb _)]
   simp [zcb,pre]
  ·rw [zfD s f i h h10,zji s f (i + 1) (by omega) (by omega),h1,← h3]
   have hc : ¬ c = 10:=by
    intro e; apply h10; rw [← h2,e]; rfl
   simp only [zcb,hc,if_false]
   rw [zuZ]
   congr 1
   have e : i + 1 - f = (i - f) + 1:=by omega
   rw [e,List.take_add_one]
   congr 1
   rw [List.getElem?_drop]
   have e2 : f + (i - f) = i:=by omega
   rw [e2]
   have h5 : s.data.toList[i]? = some c:=by
    have : (s.data.toList.drop i)[0]? = some c:=by rw [h1]; rfl
    rw [List.getElem?_drop] at this
    simpa using this
   rw [h5]; rfl
 ·have hz : i = s.size:=by omega
  rw [ze9 s f i h]
  have hl : s.data.toList.drop i = []:=List.drop_of_length_le (by simp; omega)
  rw [hl]
  simp [zcb,pre,hz]
termination_by s.size - i
theorem zva (l : List UInt8) : Lib.splitK [10] 0 (Lib.count l [10]) l = zcb l:=by
 induction l with
 | nil => rw [Lib.count_miss (by simp [Lib.index])]; rfl
 | cons c r ih =>
  by_cases hc : c = 10
  ·subst hc
   rw [Lib.count_cons_eq,Nat.add_comm]
   have hix : Lib.index (10 :: r) [10] = 0:=by rw [Lib.index]; simp [List.isPrefixOf]
   unfold Lib.splitK
   rw [hix]
   simp only [zcb,if_true]
   rw [← ih]
   simp
  ·rw [Lib.count_cons_ne c 10 r hc]
   have hp : ([10] : List UInt8).isPrefixOf (c :: r) = false:=by simp [List.isPrefixOf,Ne.symm hc]
   have hix : Lib.index (c :: r) [10] = if Lib.index r [10] == -1 then -1 else Lib.index r [10] + 1:=by rw [Lib.index,hp]; simp
   simp only [zcb,hc,if_false]
   rw [← ih]
   by_cases hm : Lib.index r [10] = -1
   ·rw [Lib.count_miss hm]; rfl
   ·have hge:=Lib.index_ge r [10]
    obtain ⟨j,hj⟩ : ∃ j : Nat,Lib.index r [10] = j:=⟨(Lib.index r [10]).toNat,by omega⟩
    rw [Lib.count_hit (by simp) hj,Nat.add_comm]
    unfold Lib.splitK
    rw [hix,hj]
    have b1 : (((j : Nat) : Int) == -1) = false:=by simp
    have b2 : (((j : Nat) : Int) + 1 == -1) = false:=by simp; omega
    simp only [b1,b2,if_false,Bool.false_eq_true]
    have e1 : ((j : Int) + 1).toNat = j + 1:=by omega
    have e2 : ((j : Nat) : Int).toNat = j:=by omega
    rw [e1,e2]
    simp [pre]
theorem zhc (s : ByteArray) : Lib.splitB ⟨#[10]⟩ 0 (Lib.countB s ⟨#[10]⟩) s = lines s:=by
 have h1 : (Lib.splitB ⟨#[10]⟩ 0 (Lib.countB s ⟨#[10]⟩) s).map (·.data.toList) = (lines s).map (·.data.toList):=by
  rw [Lib.splitB_data]
  have h2:=zji s 0 0 (by omega) (by omega)
  simp only [List.drop_zero,Nat.sub_self,List.take_zero] at h2
  rw [zlA _ (zhb _)] at h2
  show Lib.splitK [10] 0 (Lib.count s.data.toList [10]) s.data.toList = (zbN s 0 0).map _
  rw [h2,zva]
 refine (List.map_inj_right ?_).1 h1
 intro a b h
 exact ByteArray.ext (Array.ext' h)
theorem zeK (s : ByteArray) : (lines s).length = Lib.countByte s.data.toList 10 + 1 ∧ Lib.countB s ⟨#[10]⟩ + 1 = (lines s).length:=by
 have h:=Lib.splitB_all ⟨#[10]⟩ (by decide) 0 _ s rfl
 rw [zhc] at h
 refine ⟨?_,h.symm⟩
 rw [h]
 unfold Lib.countByte
 rw [← Lib.count_one]
end Go.Proofs.YtfpgjkbjbbgciaaGreatDoor.Sp
