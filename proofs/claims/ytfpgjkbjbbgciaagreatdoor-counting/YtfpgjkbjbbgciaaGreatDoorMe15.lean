import Derived.Test.YtfpgjkbjbbgciaaGreatDoorMe11
import Derived.Test.YtfpgjkbjbbgciaaGreatDoorMe13
set_option maxRecDepth 100000
set_option maxHeartbeats 8000000
namespace Go.Proofs.YtfpgjkbjbbgciaaGreatDoor
open Go.RowKit Sp
structure RefAt (w : World) (b g cap2 : Nat) (L : List Said) (m : Mc) (bv iv ov : Value) : Prop where
 mem : RefM w b (.slice (some ⟨g,0,none⟩) L.length cap2) bv iv ov m
 backs : w.ownsRow (b + 1) 3 1 bv m.backs.length (i64s m.backs)
 out : w.ownsRow (b + 1) 2 1 ov m.out.length (i64s m.out)
 inp : SlB w b iv m.inp
theorem zcG {w : World} {b : Nat} {e : TypeId} {size n : Nat} {v : Value} {xs : List Value} (h : w.ownsRow (b + 1) e size v n xs) : v.ownBlock ≠ some b:=fun hb => by have:=(h.lt b hb).1; omega
theorem zeQ {w w' : World} {b : Nat} (hb : b < w.heap.size) (hg : w.grownBy w' (some b)) : Below b w w':=(Below.refl b w).grown hg (by omega) (fun j hj => by cases hj; exact Nat.le_refl _)
structure RStep (w : World) (b wb wc g cap2 k : Nat) (L : List Said) (m : Mc) (bv iv ov : Value) (l : List ByteArray) (next : Int) : Prop where
 ref : RefAt w b g cap2 L m bv iv ov
 fin : m.fin = 0
 at_ : m.at' = (k : Int)
 lt : k < L.length
 few : L.length ≤ 300
 lines : LinesIn w g L
 low : ∀ W,Below b w W → LinesIn W g L
 wd : w.cell? ⟨g,k * 2 + 1,none⟩ = some (.slice (some ⟨wb,0,none⟩) l.length wc)
 words : WdIn w wb l
 apart : ¬ wb = b
 sizes : ∀ x ∈ l,x.size ≤ 1048576
 next_ : za0 L (k + 1) = next
 st0 : 0 ≤ m.steps
 st1 : m.steps ≤ 100000
theorem zb9 {w w' : World} {n : Nat} {r : Option Nat} (h : (w.drewN n).grownBy w' r) : w.grownBy w' r:=⟨h.os,h.tape,h.output,h.size,h.block⟩
theorem zqE (w : World) (a : Value) : ∀ j u,[a][j]? = some u → (w.alloc (.cells #[a] 3)).cell? ((⟨w.heap.size,0,none⟩ : Addr).add j) = some u:=by
 intro j u hj
 have h1:=World.cell?_alloc_new (w:=w) #[a] 3 j
 have h2 : (⟨w.heap.size,0,none⟩ : Addr).add j = ⟨w.heap.size,j,none⟩:=by simp [Addr.add]; omega
 rw [h2,h1]
 rw [← List.getElem?_toArray] at hj
 exact hj
theorem zoS (n : Int) (w : World) (h : n < 0 ∨ 100000 < n) : Calls Tryz.prog 51 #[.int .i64 n] w fun e w' => e = zah 7 0 ∧ w' = w:=by
 by_cases h0 : n < 0
 ·go_enter Tryz.func51,Tryz.ntmps51
  go_wp2_with (first | (go_at_call 79; refine (zat _ _ _).mono ?_; rintro e wx ⟨rfl,hww⟩; have h2:=hww.symm; subst h2))
  exact ⟨rfl,rfl,rfl⟩
 ·have h1 : 100000 < n:=by omega
  go_enter Tryz.func51,Tryz.ntmps51
  go_wp2_with (first | (go_at_call 79; refine (zat _ _ _).mono ?_; rintro e wx ⟨rfl,hww⟩; have h2:=hww.symm; subst h2))
  exact ⟨rfl,rfl,rfl⟩
theorem zmh (n : Int) (w : World) (h0 : 0 ≤ n) (h1 : n ≤ 100000) : Calls Tryz.prog 51 #[.int .i64 n] w fun e w' => e = .returned (.tuple #[]) ∧ w' = w:=by
 go_enter Tryz.func51,Tryz.ntmps51
 go_wp2
 go_end0
 exact ⟨rfl,rfl⟩
end Go.Proofs.YtfpgjkbjbbgciaaGreatDoor
namespace Go.Proofs.YtfpgjkbjbbgciaaGreatDoor
def HpAll (f : Nat → Int) (n : Nat) : Prop:=∀ i,0 < i → i < n → f ((i - 1) / 2) ≤ f i
structure RiseI (f : Nat → Int) (n a : Nat) : Prop where
 all : ∀ i,0 < i → i < n → ¬ i = a → f ((i - 1) / 2) ≤ f i
 over : ∀ i,0 < i → i < n → (i - 1) / 2 = a → 0 < a → f ((a - 1) / 2) ≤ f i
structure SinkI (f : Nat → Int) (n a : Nat) : Prop where
 all : ∀ i,0 < i → i < n → ¬ (i - 1) / 2 = a → f ((i - 1) / 2) ≤ f i
 over : ∀ i,0 < i → i < n → (i - 1) / 2 = a → 0 < a → f ((a - 1) / 2) ≤ f i
def zmm (f : Nat → Int) (a b : Nat) : Nat → Int:=fun i => if i = a then f b else if i = b then f a else f i
theorem HpAll.least {f : Nat → Int} {n : Nat} (h : HpAll f n) : ∀ i,i < n → f 0 ≤ f i:=by
 intro i
 induction i using Nat.strongRecOn with
 | ind i ih =>
  intro hi
  by_cases h0 : i = 0
  ·subst h0; exact Int.le_refl _
  ·have h1:=ih ((i - 1) / 2) (by omega) (by omega)
   have h2:=h i (by omega) hi
   omega
theorem RiseI.done {f : Nat → Int} {n a : Nat} (h : RiseI f n a) (h0 : a = 0 ∨ f ((a - 1) / 2) ≤ f a) : HpAll f n:=by
 intro i hi hn
 by_cases e : i = a
 ·subst e
  rcases h0 with h0 | h0
  ·omega
  ·exact h0
 ·exact h.all i hi hn e
theorem RiseI.step {f : Nat → Int} {n a : Nat} (h : RiseI f n a) (ha : 0 < a) (han : a < n) (hle : f a ≤ f ((a - 1) / 2)) : RiseI (zmm f a ((a - 1) / 2)) n ((a - 1) / 2):=by
 have key : ∀ x,zmm f a ((a - 1) / 2) x = if x = a then f ((a - 1) / 2) else if x = (a - 1) / 2 then f a else f x:=fun x => rfl
 constructor
 ·intro i hi hn hne
  rw [key,key]
  by_cases e1 : i = a
  ·subst e1
   rw [if_neg (by omega),if_pos rfl,if_pos rfl]
   exact hle
  ·rw [if_neg e1,if_neg hne]
   by_cases e2 : (i - 1) / 2 = a
   ·rw [if_pos e2]; exact h.over i hi hn e2 ha
   ·rw [if_neg e2]
    have h1:=h.all i hi hn e1
    by_cases e3 : (i - 1) / 2 = (a - 1) / 2
    ·rw [if_pos e3]; rw [e3] at h1; omega
    ·rw [if_neg e3]; exact h1
 ·intro i hi hn e ha2
  rw [key,key,if_neg (by omega),if_neg (by omega)]
  have h2:=h.all ((a - 1) / 2) ha2 (by omega) (by omega)
  by_cases e1 : i = a
  ·rw [if_pos e1]; exact h2
  ·rw [if_neg e1,if_neg (by omega)]
   have h1:=h.all i hi hn e1
   rw [e] at h1
   omega
theorem SinkI.done {f : Nat → Int} {n a : Nat} (h : SinkI f n a) (h1 : 2 * a + 1 < n → f a ≤ f (2 * a + 1)) (h2 : 2 * a + 2 < n → f a ≤ f (2 * a + 2)) : HpAll f n:=by
 intro i hi hn
 by_cases e : (i - 1) / 2 = a
 ·rcases (by omega : i = 2 * a + 1 ∨ i = 2 * a + 2) with rfl | rfl
  ·rw [e]; exact h1 hn
  ·rw [e]; exact h2 hn
 ·exact h.all i hi hn e
theorem SinkI.step {f : Nat → Int} {n a c : Nat} (h : SinkI f n a) (hc : c = 2 * a + 1 ∨ c = 2 * a + 2) (hcn : c < n) (h0 : f c ≤ f a) (h1 : 2 * a + 1 < n → f c ≤ f (2 * a + 1)) (h2 : 2 * a + 2 < n → f c ≤ f (2 * a + 2)) : SinkI (zmm f a c) n c:=by
 have key : ∀ x,zmm f a c x = if x = a then f c else if x = c then f a else f x:=fun x => rfl
 constructor
 ·intro i hi hn hne
  rw [key,key]
  by_cases e1 : i = c
  ·subst e1
   rw [if_pos (by omega),if_neg (by omega),if_pos rfl]
   exact h0
  ·by_cases e2 : i = a
   ·subst e2
    rw [if_neg (by omega),if_neg (by omega),if_pos rfl]
    exact h.over c (by omega) hcn (by omega) hi
   ·rw [if_neg e2,if_neg e1,if_neg hne]
    by_cases e3 : (i - 1) / 2 = a
    ·rw [if_pos e3]
     rcases (by omega : i = 2 * a + 1 ∨ i = 2 * a + 2) with rfl | rfl
     ·exact h1 hn
     ·exact h2 hn
    ·rw [if_neg e3]; exact h.all i hi hn e3
 ·intro i hi hn e hc2
  rw [key,key,if_pos (by omega),if_neg (by omega),if_neg (by omega)]
  have h3:=h.all i hi hn (by omega)
  rw [e] at h3
  exact h3
theorem SinkI.head {f g : Nat → Int} {n m : Nat} (h : HpAll f n) (hm : m ≤ n) (e : ∀ i,0 < i → i < m → g i = f i) : SinkI g m 0 :=
 ⟨fun i hi hn hne => by rw [e i hi hn,e _ (by omega) (by omega)]; exact h i hi (by omega),fun i hi hn _ h0 => absurd h0 (by omega)⟩
theorem RiseI.last {f g : Nat → Int} {n : Nat} (h : HpAll f n) (e : ∀ i,i < n → g i = f i) : RiseI g (n + 1) n :=
 ⟨fun i hi hn hne => by rw [e i (by omega),e _ (by omega)]; exact h i hi (by omega),fun i hi hn e2 => by omega⟩
def zdC {α : Type} (d : α) (l : List α) (i j : Nat) : List α:=(l.set i (l.getD j d)).set j (l.getD i d)
theorem zr6 {α : Type} (d : α) (l : List α) (i j : Nat) : (zdC d l i j).length = l.length:=by simp [zdC]
theorem zfW {α : Type} {d : α} {l : List α} {i j : Nat} (hi : i < l.length) (hj : j < l.length) : (zdC d l i j).Perm l:=by
 have e1 : l.getD j d = l[j]:=by simp [List.getD,hj]
 have e2 : l.getD i d = l[i]:=by simp [List.getD,hi]
 unfold zdC
 rw [e1,e2]
 exact List.set_set_perm hi hj
theorem znC {α : Type} {d : α} {l : List α} {i j : Nat} (hi : i < l.length) (hj : j < l.length) (hne : ¬ i = j) (x : Nat) : (zdC d l i j).getD x d = if x = i then l.getD j d else if x = j then l.getD i d else l.getD x d:=by
 unfold zdC
 simp only [List.getD,List.getElem?_set]
 by_cases e1 : j = x
 ·subst e1
  have hne' : ¬ j = i:=fun h => hne h.symm
  simp [hne',hj]
 ·have e1' : ¬ x = j:=fun h => e1 h.symm
  by_cases e2 : i = x
  ·subst e2; simp [e1,hi]
  ·have e2' : ¬ x = i:=fun h => e2 h.symm
   simp [e1,e2,e1',e2']
theorem zr7 {α : Type} {d : α} {l : List α} {i j : Nat} (hi : i < l.length) (hj : j < l.length) (hne : ¬ i = j) (st : α → Int) : (fun x => st ((zdC d l i j).getD x d)) = zmm (fun x => st (l.getD x d)) i j:=by
 funext x
 show st ((zdC d l i j).getD x d) = if x = i then st (l.getD j d) else if x = j then st (l.getD i d) else st (l.getD x d)
 rw [znC hi hj hne]
 split
 ·rfl
 ·split <;> rfl
end Go.Proofs.YtfpgjkbjbbgciaaGreatDoor
namespace Go.Proofs.YtfpgjkbjbbgciaaGreatDoor.Sp
def i64 (x : Int) : Prop:=-9223372036854775808 ≤ x ∧ x ≤ 9223372036854775807
theorem zdx (x : Int) : i64 (w64 x):=by unfold i64 w64; omega
theorem zfw {x : Int} (h : i64 x) : w64 x = x:=by unfold i64 at h; unfold w64; omega
theorem zh4 (x : Int) : (w64 x) % 18446744073709551616 = x % 18446744073709551616:=by unfold w64; omega
theorem zkG {x y : Int} (h : x % 18446744073709551616 = y % 18446744073709551616) : w64 x = w64 y:=by unfold w64; omega
structure Rg where
 lo : Int
 hi : Int
def Rg.In (r : Rg) (x : Int) : Prop:=r.lo ≤ x ∧ x ≤ r.hi
def Rg.Ok (r : Rg) : Prop:=i64 r.lo ∧ i64 r.hi ∧ r.lo ≤ r.hi
def only (n : Int) : Rg:=⟨n,n⟩
def anyR : Rg:=⟨-9223372036854775808,9223372036854775807⟩
theorem zfU (n : Int) : (only n).In n:=⟨Int.le_refl _,Int.le_refl _⟩
theorem zh5 {n : Int} (h : i64 n) : (only n).Ok:=⟨h,h,Int.le_refl _⟩
theorem zrv {x : Int} (h : i64 x) : anyR.In x:=h
theorem zrw : anyR.Ok:=by unfold Rg.Ok anyR i64; dsimp only; omega
def Rg.within (r o : Rg) : Bool:=decide (o.lo ≤ r.lo) && decide (r.hi ≤ o.hi)
def Rg.or (r o : Rg) : Rg:=⟨min r.lo o.lo,max r.hi o.hi⟩
theorem zjw {r : Rg} {x : Int} (h : r.In x) (o : Rg) : (r.or o).In x:=by unfold Rg.In Rg.or at *; dsimp only; omega
theorem zgF {o : Rg} {x : Int} (h : o.In x) (r : Rg) : (r.or o).In x:=by unfold Rg.In Rg.or at *; dsimp only; omega
theorem ztM {r o : Rg} (h : r.Ok) (h' : o.Ok) : (r.or o).Ok:=by unfold Rg.Ok Rg.or i64 at *; dsimp only; omega
def Rg.width (r : Rg) : Int:=(r.hi - r.lo) % 18446744073709551616
theorem znB {r : Rg} (h : r.Ok) : r.width = r.hi - r.lo:=by unfold Rg.Ok i64 at h; unfold Rg.width; omega
def zeV (low : Int) (one other : Rg) : Rg :=
 if 18446744073709551616 ≤ one.width + other.width ∨ w64 (low + (one.width + other.width)) < low then anyR else ⟨low,w64 (low + (one.width + other.width))⟩
theorem zrx {low d : Int} {one other : Rg} (h1 : one.Ok) (h2 : other.Ok) (hl : i64 low) (h0 : 0 ≤ d) (hd : d ≤ (one.hi - one.lo) + (other.hi - other.lo)) {x : Int} (hx : x % 18446744073709551616 = (low + d) % 18446744073709551616) : (zeV low one other).In (w64 x):=by
 unfold zeV
 rw [znB h1,znB h2]
 split
 ·exact zrv (zdx x)
 ·rename_i h
  have hh:=zdx (low + (one.hi - one.lo + (other.hi - other.lo)))
  have hm:=zh4 (low + (one.hi - one.lo + (other.hi - other.lo)))
  unfold i64 at hl hh
  unfold Rg.In
  dsimp only
  generalize w64 (low + (one.hi - one.lo + (other.hi - other.lo))) = hi at h hh hm ⊢
  generalize one.hi - one.lo + (other.hi - other.lo) = W at *
  have e : hi = low + W:=by omega
  have e2 : w64 x = low + d:=by rw [zkG hx]; exact zfw (by unfold i64; omega)
  omega
theorem zry {low : Int} {one other : Rg} (hl : i64 low) : (zeV low one other).Ok:=by
 unfold zeV
 split
 ·exact zrw
 ·rename_i h
  exact ⟨hl,zdx _,by dsimp only; omega⟩
def Rg.plus (r o : Rg) : Rg:=zeV (w64 (r.lo + o.lo)) r o
def Rg.minus (r o : Rg) : Rg:=zeV (w64 (r.lo - o.hi)) r o
theorem zrz {r o : Rg} {x y : Int} (hr : r.Ok) (ho : o.Ok) (hx : r.In x) (hy : o.In y) : (r.plus o).In (w64 (x + y)):=by
 unfold Rg.In at hx hy
 refine zrx (d:=(x - r.lo) + (y - o.lo)) hr ho (zdx _) (by omega) (by omega) ?_
 have:=zh4 (r.lo + o.lo)
 omega
theorem ztN {r o : Rg} {x y : Int} (hr : r.Ok) (ho : o.Ok) (hx : r.In x) (hy : o.In y) : (r.minus o).In (w64 (x - y)):=by
 unfold Rg.In at hx hy
 refine zrx (d:=(x - r.lo) + (o.hi - y)) hr ho (zdx _) (by omega) (by omega) ?_
 have:=zh4 (r.lo - o.hi)
 omega
theorem zr0 (r o : Rg) : (r.plus o).Ok:=zry (zdx _)
theorem ztO (r o : Rg) : (r.minus o).Ok:=zry (zdx _)
def zb1 (a b : Int) : Bool:=if a = -1 then decide (b = -9223372036854775808) else decide (¬ a = 0) && decide (¬ (w64 (a * b)).tdiv a = b)
theorem zcg {a b : Int} (ha : i64 a) (hb : i64 b) (h : zb1 a b = false) : i64 (a * b):=by
 unfold zb1 at h
 split at h
 ·rename_i e
  subst e
  simp at h
  unfold i64 at *
  omega
 ·rename_i e
  simp only [Bool.and_eq_false_iff,decide_eq_false_iff_not,Decidable.not_not] at h
  rcases h with h | h
  ·subst h; simp [i64]
  ·have hm:=zh4 (a * b)
   have hw:=zdx (a * b)
   have hd:=Int.mul_tdiv_add_tmod (w64 (a * b)) a
   rw [h] at hd
   by_cases h0 : a = 0
   ·subst h0; simp [i64]
   ·have hlt : (Int.tmod (w64 (a * b)) a).natAbs < a.natAbs:=by
     rw [Int.natAbs_tmod]; exact Nat.mod_lt _ (by omega)
    generalize Int.tmod (w64 (a * b)) a = t at hd hlt
    generalize a * b = p at *
    have : t = 0:=by unfold i64 at *; omega
    have e2 : w64 p = p:=by omega
    rw [← e2]; exact hw
def Rg.times (r o : Rg) : Rg :=
 if r.lo = r.hi ∧ o.lo = o.hi then only (w64 (r.lo * o.lo))
 else if zb1 r.lo o.lo = true ∨ zb1 r.lo o.hi = true ∨ zb1 r.hi o.lo = true ∨ zb1 r.hi o.hi = true then anyR
 else ⟨min (min (min (r.lo * o.lo) (r.lo * o.hi)) (r.hi * o.lo)) (r.hi * o.hi),max (max (max (r.lo * o.lo) (r.lo * o.hi)) (r.hi * o.lo)) (r.hi * o.hi)⟩
theorem zeW {a b x c : Int} (h1 : a ≤ x) (h2 : x ≤ b) : min (a * c) (b * c) ≤ x * c ∧ x * c ≤ max (a * c) (b * c):=by
 rcases Int.le_total 0 c with h | h
 ·have:=Int.mul_le_mul_of_nonneg_right h1 h
  have:=Int.mul_le_mul_of_nonneg_right h2 h
  omega
 ·have:=Int.mul_le_mul_of_nonpos_right h1 h
  have:=Int.mul_le_mul_of_nonpos_right h2 h
  omega
theorem ztP {r o : Rg} {x y : Int} (hr : r.Ok) (ho : o.Ok) (hx : r.In x) (hy : o.In y) : (r.times o).In (w64 (x * y)):=by
 unfold Rg.times
 split
 ·rename_i h
  unfold Rg.In at hx hy
  have e1 : x = r.lo:=by omega
  have e2 : y = o.lo:=by omega
  rw [e1,e2]; exact zfU _
 ·split
  ·exact zrv (zdx _)
  ·rename_i h
   simp only [not_or,Bool.not_eq_true] at h
   obtain ⟨w1,w2,w3,w4⟩:=h
   have i1:=zcg hr.1 ho.1 w1
   have i2:=zcg hr.1 ho.2.1 w2
   have i3:=zcg hr.2.1 ho.1 w3
   have i4:=zcg hr.2.1 ho.2.1 w4
   obtain ⟨a1,a2⟩:=zeW (c:=y) hx.1 hx.2
   have b1:=zeW (c:=r.lo) hy.1 hy.2
   have b2:=zeW (c:=r.hi) hy.1 hy.2
   rw [Int.mul_comm o.lo,Int.mul_comm o.hi,Int.mul_comm y] at b1 b2
   unfold i64 at i1 i2 i3 i4
   generalize r.lo * o.lo = p1 at *
   generalize r.lo * o.hi = p2 at *
   generalize r.hi * o.lo = p3 at *
   generalize r.hi * o.hi = p4 at *
   generalize r.lo * y = q1 at *
   generalize r.hi * y = q2 at *
   rw [zfw (by unfold i64; omega)]
   unfold Rg.In
   dsimp only
   omega
theorem ztQ {r o : Rg} (hr : r.Ok) (ho : o.Ok) : (r.times o).Ok:=by
 unfold Rg.times
 split
 ·exact zh5 (zdx _)
 ·split
  ·exact zrw
  ·rename_i h
   simp only [not_or,Bool.not_eq_true] at h
   obtain ⟨w1,w2,w3,w4⟩:=h
   have i1:=zcg hr.1 ho.1 w1
   have i2:=zcg hr.1 ho.2.1 w2
   have i3:=zcg hr.2.1 ho.1 w3
   have i4:=zcg hr.2.1 ho.2.1 w4
   unfold Rg.Ok i64 at *
   dsimp only
   generalize r.lo * o.lo = p1 at *
   generalize r.lo * o.hi = p2 at *
   generalize r.hi * o.lo = p3 at *
   generalize r.hi * o.hi = p4 at *
   omega
def zec (l r : Rg) : Option (Rg × Rg):=if r.hi ≤ l.lo then none else some (⟨l.lo,min l.hi (r.hi - 1)⟩,⟨max (l.lo + 1) r.lo,r.hi⟩)
def zbi (l r : Rg) : Option (Rg × Rg):=if l.hi < r.lo then none else some (⟨max l.lo r.lo,l.hi⟩,⟨r.lo,min l.hi r.hi⟩)
def zed (l r : Rg) : Option (Rg × Rg):=if max l.lo r.lo ≤ min l.hi r.hi then some (⟨max l.lo r.lo,min l.hi r.hi⟩,⟨max l.lo r.lo,min l.hi r.hi⟩) else none
def Rg.without (r o : Rg) : Rg:=if o.lo = o.hi then (if o.lo = r.lo then ⟨r.lo + 1,r.hi⟩ else if o.lo = r.hi then ⟨r.lo,r.hi - 1⟩ else r) else r
def zaA (l r : Rg) : Option (Rg × Rg):=if (l.lo = r.lo ∧ l.hi = r.hi) ∧ l.lo = l.hi then none else some (l.without r,r.without l)
theorem zv1 {l r : Rg} {x y : Int} (hx : l.In x) (hy : r.In y) (h : x < y) : ∃ a b,zec l r = some (a,b) ∧ a.In x ∧ b.In y:=by
 unfold Rg.In at *
 unfold zec
 rw [if_neg (by omega)]
 exact ⟨_,_,rfl,by dsimp only; omega,by dsimp only; omega⟩
theorem zoU {l r : Rg} {x y : Int} (hx : l.In x) (hy : r.In y) (h : ¬ x < y) : ∃ a b,zbi l r = some (a,b) ∧ a.In x ∧ b.In y:=by
 unfold Rg.In at *
 unfold zbi
 rw [if_neg (by omega)]
 exact ⟨_,_,rfl,by dsimp only; omega,by dsimp only; omega⟩
theorem zv2 {l r : Rg} {x y : Int} (hx : l.In x) (hy : r.In y) (h : x = y) : ∃ a b,zed l r = some (a,b) ∧ a.In x ∧ b.In y:=by
 unfold Rg.In at *
 unfold zed
 rw [if_pos (by omega)]
 exact ⟨_,_,rfl,by dsimp only; omega,by dsimp only; omega⟩
theorem ziJ {r o : Rg} {x y : Int} (hx : r.In x) (hy : o.In y) (h : ¬ x = y) : (r.without o).In x:=by
 unfold Rg.In at *
 unfold Rg.without
 repeat' split
 all_goals (try dsimp only)
 all_goals omega
theorem zoV {l r : Rg} {x y : Int} (hx : l.In x) (hy : r.In y) (h : ¬ x = y) : ∃ a b,zaA l r = some (a,b) ∧ a.In x ∧ b.In y:=by
 have h1:=ziJ hx hy h
 have h2:=ziJ hy hx (fun e => h e.symm)
 unfold zaA
 rw [if_neg (by unfold Rg.In at hx hy; omega)]
 exact ⟨_,_,rfl,h1,h2⟩
theorem zv3 {l r a b : Rg} (hl : l.Ok) (hr : r.Ok) (h : zec l r = some (a,b)) : a.Ok ∧ b.Ok:=by
 unfold zec at h
 split at h
 ·cases h
 ·simp only [Option.some.injEq,Prod.mk.injEq] at h
  obtain ⟨rfl,rfl⟩:=h
  unfold Rg.Ok i64 at *; dsimp only; omega
theorem zoW {l r a b : Rg} (hl : l.Ok) (hr : r.Ok) (h : zbi l r = some (a,b)) : a.Ok ∧ b.Ok:=by
 unfold zbi at h
 split at h
 ·cases h
 ·simp only [Option.some.injEq,Prod.mk.injEq] at h
  obtain ⟨rfl,rfl⟩:=h
  unfold Rg.Ok i64 at *; dsimp only; omega
theorem zv4 {l r a b : Rg} (hl : l.Ok) (hr : r.Ok) (h : zed l r = some (a,b)) : a.Ok ∧ b.Ok:=by
 unfold zed at h
 split at h
 ·simp only [Option.some.injEq,Prod.mk.injEq] at h
  obtain ⟨rfl,rfl⟩:=h
  unfold Rg.Ok i64 at *; dsimp only; omega
 ·cases h
theorem zoX {l r a b : Rg} (hl : l.Ok) (hr : r.Ok) (h : zaA l r = some (a,b)) : a.Ok ∧ b.Ok:=by
 unfold zaA at h
 split at h
 ·cases h
 ·rename_i hn
  simp only [Option.some.injEq,Prod.mk.injEq] at h
  obtain ⟨rfl,rfl⟩:=h
  unfold Rg.Ok i64 at *
  unfold Rg.without
  refine ⟨?_,?_⟩
  all_goals
   repeat' split
   all_goals (try dsimp only)
   all_goals omega
end Go.Proofs.YtfpgjkbjbbgciaaGreatDoor.Sp
