import Derived.Test.YtfpgjkbjbbgciaaGreatDoorMe28
import Derived.Test.YtfpgjkbjbbgciaaGreatDoorMe29
set_option maxRecDepth 100000
set_option maxHeartbeats 8000000
namespace Go.Proofs.YtfpgjkbjbbgciaaGreatDoor
open Go.RowKit Sp
theorem KnM.gone {w : World} {b : Nat} {bv : Value} {k : Kn} (h : KnM w b bv k) (z : Int) : KnM ((w.setCell ⟨b,50,none⟩ (.int .i64 (k.steps + 1))).setCell ⟨b,48,none⟩ (.int .i64 z)) b bv (k.goTo z):=by
 have K1 : KnM (w.setCell ⟨b,50,none⟩ (.int .i64 (k.steps + 1))) b bv { k with steps:=k.steps + 1 }:=h.set 50 _ _ h.cS (fun r hr => ⟨by rw [if_neg (by omega)],by rw [if_neg (by omega)]⟩) (fun r hr => ⟨by rw [if_neg (by omega)],by rw [if_neg (by omega)]⟩) (by rw [if_neg (by omega)]) (by rw [if_neg (by omega)]) (by rw [if_pos rfl])
 exact K1.set 48 _ _ K1.cN (fun r hr => ⟨by rw [if_neg (by omega)]; rfl,by rw [if_neg (by omega)]; rfl⟩) (fun r hr => ⟨by rw [if_neg (by omega)]; rfl,by rw [if_neg (by omega)]; rfl⟩) (by rw [if_pos rfl]; rfl) (by rw [if_neg (by omega)]) (by rw [if_neg (by omega)]; rfl)
theorem znI {w : World} {b : Nat} {bv : Value} {k : Kn} (h : KnM w b bv k) (z : Int) : zaP w b bv (k.goTo z) (.returned (.slice (some ⟨w.heap.size,0,none⟩) 1 1)) (((w.setCell ⟨b,50,none⟩ (.int .i64 (k.steps + 1))).setCell ⟨b,48,none⟩ (.int .i64 z)).alloc (.cells #[.pointer (some ⟨b,0,none⟩)] 197)):=by
 refine ⟨w.heap.size,rfl,Nat.le_refl _,?_,(h.gone z).alloc _,?_⟩
 ·have e : ((w.setCell ⟨b,50,none⟩ (.int .i64 (k.steps + 1))).setCell ⟨b,48,none⟩ (.int .i64 z)).heap.size = w.heap.size:=by rw [World.size_setCell,World.size_setCell]
  rw [← e]
  exact World.cell?_alloc_new _ _ _ 0
 ·exact zad (zad (zai (Below.refl _ _)) (zai (Below.refl _ _))) (World.grownBy_alloc _ _ _)
theorem zbV {w : World} {b : Nat} {bv : Value} {k : Kn} (h : KnM w b bv k) (h0 : 0 ≤ k.steps) (h1 : k.steps ≤ 100000) (n0 : 0 ≤ k.next) (n1 : k.next ≤ 100000) : Calls Tryz.prog 227 #[.pointer (some ⟨b,0,none⟩)] w (zaP w b bv (k.goTo (k.next + 1))):=by
 have c:=h.cS
 have n:=h.cN
 have f1:=h.fz 50
 have f2:=h.fz 48
 have hlt:=h.lt
 go_enter Tryz.func227,Tryz.ntmps227
 go_wp2
 go_ret
 exact znI h _
theorem zrC {w : World} {b cap : Nat} {ao : Option Addr} {k : Kn} (h : KnM w b (.slice ao 0 cap) k) : Calls Tryz.prog 287 #[.pointer (some ⟨b,0,none⟩)] w fun e w' => e = .returned (.slice none 0 0) ∧ w' = w:=by
 have c:=h.cB
 go_enter Tryz.func287,Tryz.ntmps287
 go_wp2
 go_ret
 exact ⟨rfl,rfl⟩
theorem KnM.putB {w : World} {b : Nat} {bv : Value} {k : Kn} (h : KnM w b bv k) (bv2 : Value) (l : List Int) : KnM (w.setCell ⟨b,49,none⟩ bv2) b bv2 { k with behind:=l } :=
 h.set 49 _ _ h.cB (fun r hr => ⟨by rw [if_neg (by omega)],by rw [if_neg (by omega)]⟩) (fun r hr => ⟨by rw [if_neg (by omega)],by rw [if_neg (by omega)]⟩) (by rw [if_neg (by omega)]) (by rw [if_pos rfl]) (by rw [if_neg (by omega)])
theorem zkP {w : World} {p : Value} (r : Rg) (_hr : r.Ok) (h0 : r.lo < 0) : Calls Tryz.prog 255 #[p,rv r] w fun e w' => e = zah 8 0 ∧ Below w.heap.size w w':=by
 unfold Rg.Ok i64 at _hr
 have t : decide ((0 : Int) ≤ r.lo) = false:=by simpa using h0
 go_enter Tryz.func255,Tryz.ntmps255
 go_wp2
 exact ⟨rfl,rfl,rfl,rfl,zaB⟩
theorem zj1 {w : World} {p : Value} (r : Rg) (_hr : r.Ok) (h0 : 0 ≤ r.lo) (h1 : 15 < r.hi) : Calls Tryz.prog 255 #[p,rv r] w fun e w' => e = zah 8 0 ∧ Below w.heap.size w w':=by
 unfold Rg.Ok i64 at _hr
 have t : decide (r.hi ≤ (15 : Int)) = false:=by simpa using h1
 go_enter Tryz.func255,Tryz.ntmps255
 go_wp2
 exact ⟨rfl,rfl,rfl,rfl,zaB⟩
theorem zgv {w : World} {p : Value} (r : Rg) (hr : r.Ok) (h : ¬ (0 ≤ r.lo ∧ r.hi ≤ 15)) : Calls Tryz.prog 255 #[p,rv r] w fun e w' => e = zah 8 0 ∧ Below w.heap.size w w':=by
 by_cases h0 : 0 ≤ r.lo
 ·exact zj1 r hr h0 (by omega)
 ·exact zkP r hr (by omega)
theorem zud (l r : Rg) (w : World) : Calls Tryz.prog 276 #[rv l,rv r] w (zdk w l r (zed l r)):=by
 have hb1:=zbU (max l.lo r.lo) (min l.hi r.hi)
 by_cases h : max l.lo r.lo ≤ min l.hi r.hi
 ·have e0 : zed l r = some (⟨max l.lo r.lo,min l.hi r.hi⟩,⟨max l.lo r.lo,min l.hi r.hi⟩):=by unfold zed; rw [if_pos h]
  rw [e0]
  have H1:=zfx w (.cells #[.int .i64 l.lo,.int .i64 l.hi] 213) (.cells #[.int .i64 r.lo,.int .i64 r.hi] 213) (.cells #[.int .i64 0,.int .i64 0] 213) (.cells #[.int .i64 0,.int .i64 0] 213) (max l.lo r.lo) (min l.hi r.hi)
  go_enter Tryz.func276,Tryz.ntmps276
  go_wp2
  go_region_held3 (fun W => W.cell? ⟨w.heap.size + 1 + 1 + 1 + 1,0,none⟩ = some (.int .i64 (max l.lo r.lo)) ∧ W.cell? ⟨w.heap.size + 1 + 1 + 1 + 1,1,none⟩ = some (.int .i64 (min l.hi r.hi)))
   (first | exact zfx _ _ _ _ _ _ _ | go_keep)
   (fail)
  all_goals go_wp2
  all_goals exact zdl (l:=⟨max l.lo r.lo,min l.hi r.hi⟩) (r:=⟨max l.lo r.lo,min l.hi r.hi⟩) Tryz.results276 rfl rfl rfl rfl (zap box1 (za9 _ _ _ _ _ _ 0)) (zap box1 (za9 _ _ _ _ _ _ 1)) (zap box1 (za2 _ _ _ _ _ _ 0)) (zap box1 (za2 _ _ _ _ _ _ 1)) ⟨(zb3.alloc (by simp; omega) _).drew,rfl⟩
 ·have e0 : zed l r = none:=by unfold zed; rw [if_neg h]
  have hdec : decide (max l.lo r.lo ≤ min l.hi r.hi) = false:=by simpa using h
  rw [e0]
  have H1:=zfx w (.cells #[.int .i64 l.lo,.int .i64 l.hi] 213) (.cells #[.int .i64 r.lo,.int .i64 r.hi] 213) (.cells #[.int .i64 0,.int .i64 0] 213) (.cells #[.int .i64 0,.int .i64 0] 213) (max l.lo r.lo) (min l.hi r.hi)
  go_enter Tryz.func276,Tryz.ntmps276
  go_wp2
  go_region_held3 (fun W => W.cell? ⟨w.heap.size + 1 + 1 + 1 + 1,0,none⟩ = some (.int .i64 (max l.lo r.lo)) ∧ W.cell? ⟨w.heap.size + 1 + 1 + 1 + 1,1,none⟩ = some (.int .i64 (min l.hi r.hi)))
   (first | exact zfx _ _ _ _ _ _ _ | go_keep)
   (fail)
  all_goals go_wp2
  all_goals exact zdl (l:=⟨max l.lo r.lo,min l.hi r.hi⟩) (r:=⟨max l.lo r.lo,min l.hi r.hi⟩) Tryz.results276 rfl rfl rfl rfl (zap box1 (za9 _ _ _ _ _ _ 0)) (zap box1 (za9 _ _ _ _ _ _ 1)) (zap box1 (za2 _ _ _ _ _ _ 0)) (zap box1 (za2 _ _ _ _ _ _ 1)) ⟨(zb3.alloc (by simp; omega) _).drew,_,_,by first | rfl | rw [hdec]⟩
end Go.Proofs.YtfpgjkbjbbgciaaGreatDoor
namespace Go.Proofs.YtfpgjkbjbbgciaaGreatDoor
open Sp
def cmpI (a b : Int) : Int:=if a < b then -1 else if b < a then 1 else 0
theorem zf0 {a b : Int} (h : cmpI a b = 0) : a = b:=by
 unfold cmpI at h
 split at h
 ·omega
 ·split at h <;> omega
theorem zkT (a : Int) : cmpI a a = 0:=by unfold cmpI; rw [if_neg (by omega),if_neg (by omega)]
def cmpL : List Int → List Int → Int
 | [],[] => 0
 | [],_ :: _ => -1
 | _ :: _,[] => 1
 | a :: x,b :: y => if cmpI a b = 0 then cmpL x y else cmpI a b
def cmpK (k o : Kn) : Int:=if k.steps = o.steps then (if k.next = o.next then cmpL k.behind o.behind else cmpI k.next o.next) else cmpI k.steps o.steps
def encL : Nat → List Int → Int
 | 0,_ => 0
 | _ + 1,[] => 0
 | n + 1,z :: r => (z + 1) * 1024 ^ n + encL n r
def SmallL (n : Nat) (l : List Int) : Prop:=l.length ≤ n ∧ ∀ z ∈ l,0 ≤ z ∧ z ≤ 1000
theorem zj3 (n : Nat) : (0 : Int) < 1024 ^ n:=Int.pow_pos (by omega)
theorem SmallL.tail {n : Nat} {z : Int} {r : List Int} (h : SmallL (n + 1) (z :: r)) : SmallL n r:=⟨by have:=h.1; simp at this; omega,fun y hy => h.2 y (List.mem_cons_of_mem _ hy)⟩
theorem zef (n : Nat) (l : List Int) (h : SmallL n l) : 0 ≤ encL n l ∧ encL n l < 1024 ^ n:=by
 induction n generalizing l with
 | zero => exact ⟨Int.le_refl _,by show (0 : Int) < 1; omega⟩
 | succ n ih =>
  cases l with
  | nil => exact ⟨Int.le_refl _,zj3 _⟩
  | cons z r =>
   obtain ⟨h1,h2⟩:=ih r h.tail
   obtain ⟨z0,z1⟩:=h.2 z List.mem_cons_self
   have hp:=zj3 n
   show 0 ≤ (z + 1) * 1024 ^ n + encL n r ∧ (z + 1) * 1024 ^ n + encL n r < 1024 ^ (n + 1)
   rw [Int.pow_succ]
   have hm : (z + 1) * 1024 ^ n ≤ 1001 * 1024 ^ n:=Int.mul_le_mul_of_nonneg_right (by omega) (by omega)
   have hm0 : 0 ≤ (z + 1) * 1024 ^ n:=Int.mul_nonneg (by omega) (by omega)
   omega
theorem zvG (n : Nat) (x y : List Int) (hx : SmallL n x) (hy : SmallL n y) : (cmpL x y < 0 → encL n x < encL n y) ∧ (cmpL x y = 0 → x = y) ∧ (0 < cmpL x y → encL n y < encL n x):=by
 induction n generalizing x y with
 | zero =>
  have e1 : x = []:=List.length_eq_zero_iff.1 (by have:=hx.1; omega)
  have e2 : y = []:=List.length_eq_zero_iff.1 (by have:=hy.1; omega)
  subst e1; subst e2
  exact ⟨fun h => absurd h (by decide),fun _ => rfl,fun h => absurd h (by decide)⟩
 | succ n ih =>
  have hp:=zj3 n
  cases x with
  | nil =>
   cases y with
   | nil => exact ⟨fun h => absurd h (by decide),fun _ => rfl,fun h => absurd h (by decide)⟩
   | cons b y =>
    refine ⟨fun _ => ?_,fun h => absurd h (by simp [cmpL]),fun h => absurd h (by simp [cmpL])⟩
    have:=(zef n y hy.tail).1
    obtain ⟨b0,b1⟩:=hy.2 b List.mem_cons_self
    show (0 : Int) < (b + 1) * 1024 ^ n + encL n y
    have : 1 * 1024 ^ n ≤ (b + 1) * 1024 ^ n:=Int.mul_le_mul_of_nonneg_right (by omega) (by omega)
    omega
  | cons a x =>
   cases y with
   | nil =>
    refine ⟨fun h => absurd h (by simp [cmpL]),fun h => absurd h (by simp [cmpL]),fun _ => ?_⟩
    have:=(zef n x hx.tail).1
    obtain ⟨b0,b1⟩:=hx.2 a List.mem_cons_self
    show (0 : Int) < (a + 1) * 1024 ^ n + encL n x
    have : 1 * 1024 ^ n ≤ (a + 1) * 1024 ^ n:=Int.mul_le_mul_of_nonneg_right (by omega) (by omega)
    omega
   | cons b y =>
    obtain ⟨i1,i2,i3⟩:=ih x y hx.tail hy.tail
    obtain ⟨x0,x1⟩:=zef n x hx.tail
    obtain ⟨y0,y1⟩:=zef n y hy.tail
    show ((if cmpI a b = 0 then cmpL x y else cmpI a b) < 0 → (a + 1) * 1024 ^ n + encL n x < (b + 1) * 1024 ^ n + encL n y) ∧ ((if cmpI a b = 0 then cmpL x y else cmpI a b) = 0 → a :: x = b :: y) ∧ (0 < (if cmpI a b = 0 then cmpL x y else cmpI a b) → (b + 1) * 1024 ^ n + encL n y < (a + 1) * 1024 ^ n + encL n x)
    by_cases hc : cmpI a b = 0
    ·rw [if_pos hc]
     have e:=zf0 hc
     subst e
     exact ⟨fun h => by have:=i1 h; omega,fun h => by rw [i2 h],fun h => by have:=i3 h; omega⟩
    ·rw [if_neg hc]
     refine ⟨fun h => ?_,fun h => absurd h hc,fun h => ?_⟩
     ·have hab : a < b:=by unfold cmpI at h; split at h; assumption; split at h <;> omega
      have : (a + 1 + 1) * 1024 ^ n ≤ (b + 1) * 1024 ^ n:=Int.mul_le_mul_of_nonneg_right (by omega) (by omega)
      rw [Int.add_mul (a + 1) 1] at this
      omega
     ·have hab : b < a:=by unfold cmpI at h; split at h; omega; split at h; assumption; omega
      have : (b + 1 + 1) * 1024 ^ n ≤ (a + 1) * 1024 ^ n:=Int.mul_le_mul_of_nonneg_right (by omega) (by omega)
      rw [Int.add_mul (b + 1) 1] at this
      omega
theorem zkU (x : List Int) : cmpL x x = 0:=by
 induction x with
 | nil => rfl
 | cons a x ih => show (if cmpI a a = 0 then cmpL x x else cmpI a a) = 0; rw [if_pos (zkT a),ih]
structure KeyOk (k : Kn) : Prop where
 next : 0 ≤ k.next ∧ k.next ≤ 1000
 behind : SmallL 15 k.behind
def keyK (k : Kn) : Int:=(k.steps * 1024 + k.next) * 1024 ^ 15 + encL 15 k.behind
theorem zmv {k o : Kn} (hk : KeyOk k) (ho : KeyOk o) : (cmpK k o < 0 → keyK k < keyK o) ∧ (cmpK k o = 0 → k.next = o.next ∧ k.behind = o.behind ∧ k.steps = o.steps) ∧ (0 < cmpK k o → keyK o < keyK k):=by
 obtain ⟨a0,a1⟩:=zef 15 k.behind hk.behind
 obtain ⟨b0,b1⟩:=zef 15 o.behind ho.behind
 obtain ⟨k0,k1⟩:=hk.next
 obtain ⟨o0,o1⟩:=ho.next
 obtain ⟨i1,i2,i3⟩:=zvG 15 _ _ hk.behind ho.behind
 unfold cmpK keyK
 by_cases e1 : k.steps = o.steps
 ·rw [if_pos e1,e1]
  by_cases e2 : k.next = o.next
  ·rw [if_pos e2,e2]
   exact ⟨fun h => by have:=i1 h; omega,fun h => ⟨rfl,i2 h,rfl⟩,fun h => by have:=i3 h; omega⟩
  ·rw [if_neg e2]
   refine ⟨fun h => ?_,fun h => absurd (zf0 h) e2,fun h => ?_⟩
   ·have : k.next < o.next:=by unfold cmpI at h; split at h; assumption; split at h <;> omega
    omega
   ·have : o.next < k.next:=by unfold cmpI at h; split at h; omega; split at h; assumption; omega
    omega
 ·rw [if_neg e1]
  refine ⟨fun h => ?_,fun h => absurd (zf0 h) e1,fun h => ?_⟩
  ·have : k.steps < o.steps:=by unfold cmpI at h; split at h; assumption; split at h <;> omega
   omega
  ·have : o.steps < k.steps:=by unfold cmpI at h; split at h; omega; split at h; assumption; omega
   omega
theorem zrH {k o : Kn} (h1 : k.next = o.next) (h2 : k.behind = o.behind) (h3 : k.steps = o.steps) : cmpK k o = 0:=by
 unfold cmpK; rw [if_pos h3,if_pos h1,h2,zkU]
theorem zrI {k o : Kn} (hk : KeyOk k) (ho : KeyOk o) (h : keyK k ≤ keyK o) : k.steps ≤ o.steps:=by
 obtain ⟨a0,a1⟩:=zef 15 k.behind hk.behind
 obtain ⟨b0,b1⟩:=zef 15 o.behind ho.behind
 obtain ⟨k0,k1⟩:=hk.next
 obtain ⟨o0,o1⟩:=ho.next
 unfold keyK at h
 omega
end Go.Proofs.YtfpgjkbjbbgciaaGreatDoor
