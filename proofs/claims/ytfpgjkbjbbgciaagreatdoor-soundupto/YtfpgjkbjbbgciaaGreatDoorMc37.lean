import Derived.Test.YtfpgjkbjbbgciaaGreatDoorMc35
set_option maxRecDepth 100000
set_option maxHeartbeats 8000000
namespace Go.Proofs.YtfpgjkbjbbgciaaGreatDoor
open Go.RowKit Sp
abbrev rv (r : Rg) : Value:=.agg #[.int .i64 r.lo,.int .i64 r.hi]
theorem Tryz.info213 : (Tryz.prog.info? 213).map (·.size) = some 2:=by kernel_rfl
theorem zcb (a b : Int) : ∀ W,(Instr.build 213 #[(0,.int .i64 a),(1,.int .i64 b)]).run Tryz.prog W = .ok (.agg #[.int .i64 a,.int .i64 b]) W:=fun W => run_build W 213 _ _ (by kernel_rfl)
theorem zmy {X : World} {b o : Nat} {r : Rg} (h0 : X.cell? ⟨b,o,none⟩ = some (.int .i64 r.lo)) (h1 : X.cell? ⟨b,o + 1,none⟩ = some (.int .i64 r.hi)) : (loadVar 213 ⟨b,o,none⟩).run Tryz.prog X = .ok (rv r) X:=by
 have hu : Tryz.prog.underlying 213 = some (.struct _):=Tryz.underlying213
 refine run_loadVar_mid X b o 213 [.int .i64 r.lo,.int .i64 r.hi] _ ?_ hu rfl Tryz.info213
 intro j u hj
 match j,hj with
 | 0,hj => simp at hj; subst hj; exact h0
 | 1,hj => simp at hj; subst hj; exact h1
theorem zby {fn : Func} {a : Tmp} {Q : Ending → World → Prop} {X : World} {act : Act} {b : Nat} {r : Rg} (hr : fn.results = #[.cell a 213]) (hp : act.tmps.getD a undef = .pointer (some ⟨b,0,none⟩)) (hd : act.defers = [])
  (h0 : X.cell? ⟨b,0,none⟩ = some (.int .i64 r.lo)) (h1 : X.cell? ⟨b,1,none⟩ = some (.int .i64 r.hi)) (hq : Q (.returned (rv r)) X) : bodyPost Tryz.prog fn Q .ret act X :=
 bodyPost_ret (zca hr act.tmps ⟨b,0,none⟩ hp (zmy h0 h1)) hd hq
theorem box1 {w : World} {a : Obj} : Below w.heap.size w (w.alloc a):=(Below.refl _ _).alloc (Nat.le_refl _) _
theorem box2 {w : World} {a b : Obj} : Below w.heap.size w ((w.alloc a).alloc b):=box1.alloc (by simp) _
theorem zjE (x : Int) : IntKind.u64.wrap x = x % 18446744073709551616:=by
 simp [IntKind.wrap,IntKind.bits,IntKind.signed]
theorem zgH (n : Int) (w : World) : Calls Tryz.prog 226 #[.int .i64 n] w fun e w' => e = .returned (rv (only n)) ∧ Below w.heap.size w w':=by
 have hb:=zcb n n
 go_enter Tryz.func226,Tryz.ntmps226
 go_wp2
 exact zby (r:=only n) Tryz.results226 rfl rfl (by simp [only]) (by simp [only]) ⟨rfl,box1⟩
theorem zh7 (w : World) : Calls Tryz.prog 238 #[] w fun e w' => e = .returned (rv anyR) ∧ Below w.heap.size w w':=by
 have hb:=zcb (-9223372036854775808) 9223372036854775807
 go_enter Tryz.func238,Tryz.ntmps238
 go_wp2
 exact zby (r:=anyR) Tryz.results238 rfl rfl (by simp [anyR]) (by simp [anyR]) ⟨rfl,box1⟩
theorem znG (r o : Rg) (w : World) : Calls Tryz.prog 156 #[rv r,rv o] w fun e w' => e = .returned (rv (r.or o)) ∧ Below w.heap.size w w':=by
 have hb:=zcb (min r.lo o.lo) (max r.hi o.hi)
 go_enter Tryz.func156,Tryz.ntmps156
 go_wp2
 exact zby (r:=r.or o) Tryz.results156 rfl rfl (za4 _ _ _ _ _ 0) (za4 _ _ _ _ _ 1) ⟨rfl,za9⟩
theorem ziQ (r o : Rg) (w : World) : Calls Tryz.prog 182 #[rv r,rv o] w fun e w' => e = .returned (.bool (r.within o)) ∧ Below w.heap.size w w':=by
 by_cases h : o.lo ≤ r.lo
 ·go_enter Tryz.func182,Tryz.ntmps182
  go_wp2
  go_ret
  exact ⟨by simp [Rg.within,h],box2⟩
 ·have hd : decide (o.lo ≤ r.lo) = false:=by simpa using h
  go_enter Tryz.func182,Tryz.ntmps182
  go_wp2
  go_ret
  exact ⟨by unfold Rg.within; rw [hd]; rfl,box2⟩
theorem zle (r : Rg) (w : World) : Calls Tryz.prog 237 #[rv r] w fun e w' => e = .returned (.int .u64 r.width) ∧ Below w.heap.size w w':=by
 have e : IntKind.u64.wrap (IntKind.u64.wrap r.hi - IntKind.u64.wrap r.lo) = r.width:=by
  rw [zjE,zjE,zjE]; unfold Rg.width; omega
 go_enter Tryz.func237,Tryz.ntmps237
 go_wp2
 go_ret
 exact ⟨rfl,box1⟩
theorem zvQ {x a : Int} (hx : i64 x) (h1 : ¬ a = -1) : i64 (x.tdiv a):=by
 have hn : (x.tdiv a).natAbs = x.natAbs / a.natAbs:=Int.natAbs_tdiv x a
 by_cases h0 : a = 0
 ·subst h0; simp [i64]
 ·by_cases h2 : a = 1
  ·subst h2; simpa using hx
  ·have : x.natAbs / a.natAbs ≤ x.natAbs / 2:=Nat.div_le_div_left (by omega) (by omega)
   unfold i64 at *
   omega
theorem zda (a b : Int) (w : World) : Calls Tryz.prog 246 #[.int .i64 a,.int .i64 b] w fun e w' => e = .returned (.bool (zbx a b)) ∧ w' = w:=by
 by_cases h1 : a = -1
 ·subst h1
  have e0 : zbx (-1) b = (b == -9223372036854775808):=by unfold zbx; rw [if_pos rfl]; rfl
  rw [e0]
  go_enter Tryz.func246,Tryz.ntmps246
  go_wp2
  go_ret
  exact ⟨rfl,rfl⟩
 ·have e0 : zbx a b = (a != 0 && wrap64 ((wrap64 (a * b)).tdiv a) != b):=by
   unfold zbx
   rw [if_neg h1,zc5,zc5,zf7 (zvQ (zdD _) h1)]
   by_cases h0 : a = 0 <;> by_cases h2 : (w64 (a * b)).tdiv a = b <;> simp [h0,h2,bne]
  have h1' : (a == -1) = false:=by simpa using h1
  by_cases h0 : a = 0
  ·rw [e0]
   clear e0
   subst h0
   go_enter Tryz.func246,Tryz.ntmps246
   go_wp2
   go_ret
   exact ⟨rfl,rfl⟩
  ·rw [e0]
   clear e0
   have h0' : (a != 0) = true:=by simpa using h0
   go_enter Tryz.func246,Tryz.ntmps246
   go_wp2
   go_ret
   exact ⟨by rw [h0',Bool.true_and]; rfl,rfl⟩
end Go.Proofs.YtfpgjkbjbbgciaaGreatDoor
namespace Go.Proofs.YtfpgjkbjbbgciaaGreatDoor
open Sp
def cmpI (a b : Int) : Int:=if a < b then -1 else if b < a then 1 else 0
theorem zfB {a b : Int} (h : cmpI a b = 0) : a = b:=by
 unfold cmpI at h
 split at h
 ·omega
 ·split at h <;> omega
theorem zln (a : Int) : cmpI a a = 0:=by unfold cmpI; rw [if_neg (by omega),if_neg (by omega)]
def cmpL : List Int → List Int → Int
 | [],[] => 0
 | [],_ :: _ => -1
 | _ :: _,[] => 1
 | a :: x,b :: y => if cmpI a b = 0 then cmpL x y else cmpI a b
def cmpK (k o : Kn) : Int:=if k.steps = o.steps then (if k.next = o.next then cmpL k.behind o.behind else cmpI k.next o.next) else cmpI k.steps o.steps
def encL : Nat → List Int → Int
 | 0,_ => 0
 | _ + 1,[] => 0
 | n + 1,z :: r => (z + 1) * 1024 ^ n + encL n r
def SmallL (n : Nat) (l : List Int) : Prop:=l.length ≤ n ∧ ∀ z ∈ l,0 ≤ z ∧ z ≤ 1000
theorem zjI (n : Nat) : (0 : Int) < 1024 ^ n:=Int.pow_pos (by omega)
theorem SmallL.tail {n : Nat} {z : Int} {r : List Int} (h : SmallL (n + 1) (z :: r)) : SmallL n r:=⟨by have:=h.1; simp at this; omega,fun y hy => h.2 y (List.mem_cons_of_mem _ hy)⟩
theorem zew (n : Nat) (l : List Int) (h : SmallL n l) : 0 ≤ encL n l ∧ encL n l < 1024 ^ n:=by
 induction n generalizing l with
 | zero => exact ⟨Int.le_refl _,by show (0 : Int) < 1; omega⟩
 | succ n ih =>
  cases l with
  | nil => exact ⟨Int.le_refl _,zjI _⟩
  | cons z r =>
   obtain ⟨h1,h2⟩:=ih r h.tail
   obtain ⟨z0,z1⟩:=h.2 z List.mem_cons_self
   have hp:=zjI n
   show 0 ≤ (z + 1) * 1024 ^ n + encL n r ∧ (z + 1) * 1024 ^ n + encL n r < 1024 ^ (n + 1)
   rw [Int.pow_succ]
   have hm : (z + 1) * 1024 ^ n ≤ 1001 * 1024 ^ n:=Int.mul_le_mul_of_nonneg_right (by omega) (by omega)
   have hm0 : 0 ≤ (z + 1) * 1024 ^ n:=Int.mul_nonneg (by omega) (by omega)
   omega
theorem zvU (n : Nat) (x y : List Int) (hx : SmallL n x) (hy : SmallL n y) : (cmpL x y < 0 → encL n x < encL n y) ∧ (cmpL x y = 0 → x = y) ∧ (0 < cmpL x y → encL n y < encL n x):=by
 induction n generalizing x y with
 | zero =>
  have e1 : x = []:=List.length_eq_zero_iff.1 (by have:=hx.1; omega)
  have e2 : y = []:=List.length_eq_zero_iff.1 (by have:=hy.1; omega)
  subst e1; subst e2
  exact ⟨fun h => absurd h (by decide),fun _ => rfl,fun h => absurd h (by decide)⟩
 | succ n ih =>
  have hp:=zjI n
  cases x with
  | nil =>
   cases y with
   | nil => exact ⟨fun h => absurd h (by decide),fun _ => rfl,fun h => absurd h (by decide)⟩
   | cons b y =>
    refine ⟨fun _ => ?_,fun h => absurd h (by simp [cmpL]),fun h => absurd h (by simp [cmpL])⟩
    have:=(zew n y hy.tail).1
    obtain ⟨b0,b1⟩:=hy.2 b List.mem_cons_self
    show (0 : Int) < (b + 1) * 1024 ^ n + encL n y
    have : 1 * 1024 ^ n ≤ (b + 1) * 1024 ^ n:=Int.mul_le_mul_of_nonneg_right (by omega) (by omega)
    omega
  | cons a x =>
   cases y with
   | nil =>
    refine ⟨fun h => absurd h (by simp [cmpL]),fun h => absurd h (by simp [cmpL]),fun _ => ?_⟩
    have:=(zew n x hx.tail).1
    obtain ⟨b0,b1⟩:=hx.2 a List.mem_cons_self
    show (0 : Int) < (a + 1) * 1024 ^ n + encL n x
    have : 1 * 1024 ^ n ≤ (a + 1) * 1024 ^ n:=Int.mul_le_mul_of_nonneg_right (by omega) (by omega)
    omega
   | cons b y =>
    obtain ⟨i1,i2,i3⟩:=ih x y hx.tail hy.tail
    obtain ⟨x0,x1⟩:=zew n x hx.tail
    obtain ⟨y0,y1⟩:=zew n y hy.tail
    show ((if cmpI a b = 0 then cmpL x y else cmpI a b) < 0 → (a + 1) * 1024 ^ n + encL n x < (b + 1) * 1024 ^ n + encL n y) ∧ ((if cmpI a b = 0 then cmpL x y else cmpI a b) = 0 → a :: x = b :: y) ∧ (0 < (if cmpI a b = 0 then cmpL x y else cmpI a b) → (b + 1) * 1024 ^ n + encL n y < (a + 1) * 1024 ^ n + encL n x)
    by_cases hc : cmpI a b = 0
    ·rw [if_pos hc]
     have e:=zfB hc
     subst e
     exact ⟨fun h => by have:=i1 h; omega,fun h => by rw [i2 h],fun h => by have:=i3 h; omega⟩
    ·rw [if_neg hc]
     refine ⟨fun h => ?_,fun h => absurd h hc,fun h => ?_⟩
     ·have hab : a < b:=by unfold cmpI at h; split at h; assumption; split at h <;> omega
      have : (a + 1 + 1) * 1024 ^ n ≤ (b + 1) * 1024 ^ n:=Int.mul_le_mul_of_nonneg_right (by omega) (by omega)
      rw [Int.add_mul (a + 1) 1] at this
      omega
     ·have hab : b < a:=by unfold cmpI at h; split at h; omega; split at h; assumption; omega
      have : (b + 1 + 1) * 1024 ^ n ≤ (a + 1) * 1024 ^ n:=Int.mul_le_mul_of_nonneg_right (by omega) (by omega)
      rw [Int.add_mul (b + 1) 1] at this
      omega
theorem zlo (x : List Int) : cmpL x x = 0:=by
 induction x with
 | nil => rfl
 | cons a x ih => show (if cmpI a a = 0 then cmpL x x else cmpI a a) = 0; rw [if_pos (zln a),ih]
structure KeyOk (k : Kn) : Prop where
 next : 0 ≤ k.next ∧ k.next ≤ 1000
 behind : SmallL 15 k.behind
def keyK (k : Kn) : Int:=(k.steps * 1024 + k.next) * 1024 ^ 15 + encL 15 k.behind
theorem zm6 {k o : Kn} (hk : KeyOk k) (ho : KeyOk o) : (cmpK k o < 0 → keyK k < keyK o) ∧ (cmpK k o = 0 → k.next = o.next ∧ k.behind = o.behind ∧ k.steps = o.steps) ∧ (0 < cmpK k o → keyK o < keyK k):=by
 obtain ⟨a0,a1⟩:=zew 15 k.behind hk.behind
 obtain ⟨b0,b1⟩:=zew 15 o.behind ho.behind
 obtain ⟨k0,k1⟩:=hk.next
 obtain ⟨o0,o1⟩:=ho.next
 obtain ⟨i1,i2,i3⟩:=zvU 15 _ _ hk.behind ho.behind
 unfold cmpK keyK
 by_cases e1 : k.steps = o.steps
 ·rw [if_pos e1,e1]
  by_cases e2 : k.next = o.next
  ·rw [if_pos e2,e2]
   exact ⟨fun h => by have:=i1 h; omega,fun h => ⟨rfl,i2 h,rfl⟩,fun h => by have:=i3 h; omega⟩
  ·rw [if_neg e2]
   refine ⟨fun h => ?_,fun h => absurd (zfB h) e2,fun h => ?_⟩
   ·have : k.next < o.next:=by unfold cmpI at h; split at h; assumption; split at h <;> omega
    omega
   ·have : o.next < k.next:=by unfold cmpI at h; split at h; omega; split at h; assumption; omega
    omega
 ·rw [if_neg e1]
  refine ⟨fun h => ?_,fun h => absurd (zfB h) e1,fun h => ?_⟩
  ·have : k.steps < o.steps:=by unfold cmpI at h; split at h; assumption; split at h <;> omega
   omega
  ·have : o.steps < k.steps:=by unfold cmpI at h; split at h; omega; split at h; assumption; omega
   omega
theorem zrX {k o : Kn} (h1 : k.next = o.next) (h2 : k.behind = o.behind) (h3 : k.steps = o.steps) : cmpK k o = 0:=by
 unfold cmpK; rw [if_pos h3,if_pos h1,h2,zlo]
theorem zrY {k o : Kn} (hk : KeyOk k) (ho : KeyOk o) (h : keyK k ≤ keyK o) : k.steps ≤ o.steps:=by
 obtain ⟨a0,a1⟩:=zew 15 k.behind hk.behind
 obtain ⟨b0,b1⟩:=zew 15 o.behind ho.behind
 obtain ⟨k0,k1⟩:=hk.next
 obtain ⟨o0,o1⟩:=ho.next
 unfold keyK at h
 omega
end Go.Proofs.YtfpgjkbjbbgciaaGreatDoor
namespace Go.Proofs.YtfpgjkbjbbgciaaGreatDoor
open Go.RowKit Sp
theorem zao {X : World} {b : Nat} {u0 u1 v0 v1 : Value} (h0 : X.cell? ⟨b,0,none⟩ = some u0) (h1 : X.cell? ⟨b,1,none⟩ = some u1) : ((X.setCell ⟨b,0,none⟩ v0).setCell ⟨b,1,none⟩ v1).cell? ⟨b,0,none⟩ = some v0 ∧ ((X.setCell ⟨b,0,none⟩ v0).setCell ⟨b,1,none⟩ v1).cell? ⟨b,1,none⟩ = some v1:=by
 refine ⟨?_,?_⟩
 ·rw [World.cell?_setCell_other]
  ·exact World.cell?_setCell_same X _ _ h0
  ·simp
 ·refine World.cell?_setCell_same (u:=u1) _ _ _ ?_
  rw [World.cell?_setCell_other]
  ·exact h1
  ·simp
theorem zas {B : Nat} {w X : World} {b : Nat} {v0 v1 : Value} (h : Below B w X) (hb : B ≤ b) : Below B w ((X.setCell ⟨b,0,none⟩ v0).setCell ⟨b,1,none⟩ v1):=(h.setCell (p:=⟨b,0,none⟩) hb _).setCell (p:=⟨b,1,none⟩) hb _
theorem zeD (w : World) (a b : Obj) (cs : Array Value) (t : TypeId) (j : Nat) : (((w.alloc a).alloc b).alloc (.cells cs t)).frozen? ⟨w.heap.size + 1 + 1,j,none⟩ = false:=World.frozen?_alloc_at _ _ _ _ (by simp)
theorem zjF (x : Int) : IntKind.i64.wrap x = w64 x:=by
 unfold IntKind.wrap w64
 simp [IntKind.bits,IntKind.signed]
 split <;> omega
theorem zbF {W W' : World} {p0 p1 p2 p3 : Addr} {v0 v1 v2 v3 : Value} (hb : Below W.heap.size W W') (h : W.cell? p0 = some v0 ∧ W.cell? p1 = some v1 ∧ W.cell? p2 = some v2 ∧ W.cell? p3 = some v3) : W'.cell? p0 = some v0 ∧ W'.cell? p1 = some v1 ∧ W'.cell? p2 = some v2 ∧ W'.cell? p3 = some v3 :=
 ⟨zaC hb h.1,zaC hb h.2.1,zaC hb h.2.2.1,zaC hb h.2.2.2⟩
theorem znH (low : Int) (r o : Rg) (w : World) : Calls Tryz.prog 235 #[.int .i64 low,rv r,rv o] w fun e w' => e = .returned (rv (zfd low r o)) ∧ Below w.heap.size w w':=by
 have hwr:=fun W => zle r W
 have hwo:=fun W => zle o W
 have hr0 : 0 ≤ r.width:=by unfold Rg.width; omega
 have ho0 : 0 ≤ o.width:=by unfold Rg.width; omega
 have hadd:=zpm r.width o.width hr0 ho0
 have hB : Below w.heap.size w (((w.alloc (.cells #[.int .i64 r.lo,.int .i64 r.hi] 213)).alloc (.cells #[.int .i64 o.lo,.int .i64 o.hi] 213)).alloc (.cells #[.int .i64 0,.int .i64 0] 213)):=za9
 have hs0 : (((w.alloc (.cells #[.int .i64 r.lo,.int .i64 r.hi] 213)).alloc (.cells #[.int .i64 o.lo,.int .i64 o.hi] 213)).alloc (.cells #[.int .i64 0,.int .i64 0] 213)).heap.size = w.heap.size + 1 + 1 + 1:=by simp
 have H1 : (((w.alloc (.cells #[.int .i64 r.lo,.int .i64 r.hi] 213)).alloc (.cells #[.int .i64 o.lo,.int .i64 o.hi] 213)).alloc (.cells #[.int .i64 0,.int .i64 0] 213)).cell? ⟨w.heap.size,0,none⟩ = some (.int .i64 r.lo) ∧ (((w.alloc (.cells #[.int .i64 r.lo,.int .i64 r.hi] 213)).alloc (.cells #[.int .i64 o.lo,.int .i64 o.hi] 213)).alloc (.cells #[.int .i64 0,.int .i64 0] 213)).cell? ⟨w.heap.size,1,none⟩ = some (.int .i64 r.hi) ∧ (((w.alloc (.cells #[.int .i64 r.lo,.int .i64 r.hi] 213)).alloc (.cells #[.int .i64 o.lo,.int .i64 o.hi] 213)).alloc (.cells #[.int .i64 0,.int .i64 0] 213)).cell? ⟨w.heap.size + 1,0,none⟩ = some (.int .i64 o.lo) ∧ (((w.alloc (.cells #[.int .i64 r.lo,.int .i64 r.hi] 213)).alloc (.cells #[.int .i64 o.lo,.int .i64 o.hi] 213)).alloc (.cells #[.int .i64 0,.int .i64 0] 213)).cell? ⟨w.heap.size + 1,1,none⟩ = some (.int .i64 o.hi) :=
  ⟨zaY _ _ _ _ _ 0,zaY _ _ _ _ _ 1,zcx _ _ _ _ _ 0,zcx _ _ _ _ _ 1⟩
 have k0 : (((w.alloc (.cells #[.int .i64 r.lo,.int .i64 r.hi] 213)).alloc (.cells #[.int .i64 o.lo,.int .i64 o.hi] 213)).alloc (.cells #[.int .i64 0,.int .i64 0] 213)).cell? ⟨w.heap.size + 1 + 1,0,none⟩ = some (.int .i64 0):=za4 _ _ _ _ _ 0
 have k1 : (((w.alloc (.cells #[.int .i64 r.lo,.int .i64 r.hi] 213)).alloc (.cells #[.int .i64 o.lo,.int .i64 o.hi] 213)).alloc (.cells #[.int .i64 0,.int .i64 0] 213)).cell? ⟨w.heap.size + 1 + 1,1,none⟩ = some (.int .i64 0):=za4 _ _ _ _ _ 1
 have kz : ∀ j,(((w.alloc (.cells #[.int .i64 r.lo,.int .i64 r.hi] 213)).alloc (.cells #[.int .i64 o.lo,.int .i64 o.hi] 213)).alloc (.cells #[.int .i64 0,.int .i64 0] 213)).frozen? ⟨w.heap.size + 1 + 1,j,none⟩ = false:=fun j => zeD _ _ _ _ _ j
 go_enter Tryz.func235,Tryz.ntmps235
 go_wp2_with fail
 generalize ((w.alloc (.cells #[.int .i64 r.lo,.int .i64 r.hi] 213)).alloc (.cells #[.int .i64 o.lo,.int .i64 o.hi] 213)).alloc (.cells #[.int .i64 0,.int .i64 0] 213) = W0 at hB hs0 H1 k0 k1 kz
 go_region_held3 (fun W => W.cell? ⟨w.heap.size,0,none⟩ = some (.int .i64 r.lo) ∧ W.cell? ⟨w.heap.size,1,none⟩ = some (.int .i64 r.hi) ∧ W.cell? ⟨w.heap.size + 1,0,none⟩ = some (.int .i64 o.lo) ∧ W.cell? ⟨w.heap.size + 1,1,none⟩ = some (.int .i64 o.hi))
  (first | exact H3 | exact H2 | exact H1)
  (first | (go_at_call 237; (with_reducible refine (hwr _).mono ?_); rintro e w2 ⟨rfl,hb2⟩; have H2:=zbF hb2 H1) | (go_at_call 237; (with_reducible refine (hwo _).mono ?_); rintro e w3 ⟨rfl,hb3⟩; have H3:=zbF hb3 H2) | (simp only; simp only [Oper.upon]))
 have hb12 : Below W0.heap.size W0 w3:=((Below.refl _ _).drew).trans (hb2.trans (hb3.mono hb2.size))
 have hb13 : Below w.heap.size w w3:=hB.trans (hb12.mono hB.size)
 have c0:=zaC hb12 k0
 have c1:=zaC hb12 k1
 have fz : ∀ j,w3.frozen? ⟨w.heap.size + 1 + 1,j,none⟩ = false:=fun j => (World.frozen?_of_block (w:=W0) (a:=⟨w.heap.size + 1 + 1,j,none⟩) (hb12.block _ (show w.heap.size + 1 + 1 < W0.heap.size by omega))).trans (kz j)
 have f0:=fz 0
 have f1:=fz 1
 have hsz : w.heap.size + 1 + 1 < w3.heap.size:=by have:=hb12.size; rw [hs0] at this; omega
 clear fz kz H1 H2 H3 hb2 hb3 hwr hwo hadd hb12
 by_cases hT : 18446744073709551616 ≤ r.width + o.width
 ·have e0 : zfd low r o = anyR:=by unfold zfd; rw [if_pos (.inl hT)]
  have hr1 : r.width < 18446744073709551616:=by unfold Rg.width; omega
  have ho1 : o.width < 18446744073709551616:=by unfold Rg.width; omega
  have hq : (r.width + o.width) / 18446744073709551616 = 1:=by omega
  rw [hq]
  generalize (r.width + o.width) % 18446744073709551616 = S
  have hany:=zh7 w3
  go_wp2_with (go_at_call 238; (with_reducible refine hany.mono ?_); rintro e w4 ⟨rfl,hb4⟩; have d0:=zaC hb4 c0; have d1:=zaC hb4 c1; have g0 : w4.frozen? ⟨w.heap.size + 1 + 1,0,none⟩ = false:=(World.frozen?_of_block (w:=w3) (a:=⟨w.heap.size + 1 + 1,0,none⟩) (hb4.block _ hsz)).trans f0; have g1 : w4.frozen? ⟨w.heap.size + 1 + 1,1,none⟩ = false:=(World.frozen?_of_block (w:=w3) (a:=⟨w.heap.size + 1 + 1,1,none⟩) (hb4.block _ hsz)).trans f1)
  exact zby (r:=anyR) Tryz.results235 rfl rfl (zao d0 d1).1 (zao d0 d1).2 ⟨by rw [e0],zas (hb13.trans (hb4.mono hb13.size)) (by omega)⟩
 ·have hq : (r.width + o.width) / 18446744073709551616 = 0:=by omega
  have hm : (r.width + o.width) % 18446744073709551616 = r.width + o.width:=by omega
  rw [hq,hm]
  generalize hS : r.width + o.width = S at hT hq hm
  have hS0 : 0 ≤ S:=by omega
  have hcv : IntKind.i64.wrap S = w64 S:=zjF S
  have hhi : wrap64 (low + w64 S) = w64 (low + S):=by
   rw [zc5]
   have:=zh0 S
   exact zla (by omega)
  by_cases hlt : wrap64 (low + w64 S) < low
  ·have e0 : zfd low r o = anyR:=by unfold zfd; rw [if_pos (.inr (by rw [hS,← hhi]; exact hlt))]
   have hany:=zh7 w3
   go_wp2_with (go_at_call 238; (with_reducible refine hany.mono ?_); rintro e w4 ⟨rfl,hb4⟩; have d0:=zaC hb4 c0; have d1:=zaC hb4 c1; have g0 : w4.frozen? ⟨w.heap.size + 1 + 1,0,none⟩ = false:=(World.frozen?_of_block (w:=w3) (a:=⟨w.heap.size + 1 + 1,0,none⟩) (hb4.block _ hsz)).trans f0; have g1 : w4.frozen? ⟨w.heap.size + 1 + 1,1,none⟩ = false:=(World.frozen?_of_block (w:=w3) (a:=⟨w.heap.size + 1 + 1,1,none⟩) (hb4.block _ hsz)).trans f1)
   exact zby (r:=anyR) Tryz.results235 rfl rfl (zao d0 d1).1 (zao d0 d1).2 ⟨by first | rfl | rw [e0],zas (hb13.trans (hb4.mono hb13.size)) (by omega)⟩
  ·have e0 : zfd low r o = ⟨low,wrap64 (low + w64 S)⟩:=by
    unfold zfd
    rw [hS,if_neg (by rw [← hhi]; omega),← hhi]
   have hbd:=zcb low (wrap64 (low + w64 S))
   have hlt2 : low ≤ wrap64 (low + w64 S):=by omega
   have hlt3 : decide (wrap64 (low + w64 S) < low) = false:=by simpa using hlt
   clear hhi
   go_wp2
   exact zby (r:=⟨low,wrap64 (low + w64 S)⟩) Tryz.results235 rfl rfl (zao c0 c1).1 (zao c0 c1).2 ⟨by first | rfl | rw [e0],zas hb13 (by omega)⟩
def zd0 (w : World) (_l _r : Rg) (q : Option (Rg × Rg)) : Ending → World → Prop:=fun e w' => Below w.heap.size w w' ∧ match q with
 | none => ∃ a b,e = .returned (.tuple #[rv a,rv b,.bool false])
 | some (a,b) => e = .returned (.tuple #[rv a,rv b,.bool true])
theorem zmz {fn : Func} {a b c : Tmp} {t : TypeId} (h : fn.results = #[.cell a t,.cell b t,.tmp c]) (tmps : Array Value) (p q : Addr) (hp : tmps.getD a undef = .pointer (some p)) (hq : tmps.getD b undef = .pointer (some q)) {P : Program} {w : World} {u v : Value} (hl : (loadVar t p).run P w = .ok u w) (hm : (loadVar t q).run P w = .ok v w) : (results fn tmps).run P w = .ok (.tuple #[u,v,tmps.getD c undef]) w:=by
 have hp2 : tmps[a]?.getD undef = .pointer (some p):=by simpa using hp
 have hq2 : tmps[b]?.getD undef = .pointer (some q):=by simpa using hq
 simp [results,h,hp2,hq2,asAddr,hl,hm]
theorem zd1 {fn : Func} {a b c : Tmp} {Q : Ending → World → Prop} {X : World} {act : Act} {p q : Nat} {l r : Rg} {x : Bool} (hr : fn.results = #[.cell a 213,.cell b 213,.tmp c]) (hp : act.tmps.getD a undef = .pointer (some ⟨p,0,none⟩)) (hq : act.tmps.getD b undef = .pointer (some ⟨q,0,none⟩)) (hc : act.tmps.getD c undef = .bool x) (hd : act.defers = [])
  (h0 : X.cell? ⟨p,0,none⟩ = some (.int .i64 l.lo)) (h1 : X.cell? ⟨p,1,none⟩ = some (.int .i64 l.hi)) (h2 : X.cell? ⟨q,0,none⟩ = some (.int .i64 r.lo)) (h3 : X.cell? ⟨q,1,none⟩ = some (.int .i64 r.hi)) (hQ : Q (.returned (.tuple #[rv l,rv r,.bool x])) X) : bodyPost Tryz.prog fn Q .ret act X:=by
 have h:=zmz hr act.tmps ⟨p,0,none⟩ ⟨q,0,none⟩ hp hq (zmy h0 h1) (zmy h2 h3)
 rw [hc] at h
 exact bodyPost_ret h hd hQ
theorem zay (w : World) (a b c : Obj) (cs : Array Value) (t : TypeId) (j : Nat) : ((((w.alloc a).alloc b).alloc c).alloc (.cells cs t)).cell? ⟨w.heap.size + 1 + 1 + 1,j,none⟩ = cs[j]?:=by
 have h:=World.cell?_alloc_new (w:=((w.alloc a).alloc b).alloc c) cs t j
 rw [show (((w.alloc a).alloc b).alloc c).heap.size = w.heap.size + 1 + 1 + 1 by simp] at h
 exact h
theorem za7 (w : World) (a b d : Obj) (cs : Array Value) (t : TypeId) (j : Nat) : ((((w.alloc a).alloc b).alloc (.cells cs t)).alloc d).cell? ⟨w.heap.size + 1 + 1,j,none⟩ = cs[j]?:=by
 rw [← za4 w a b cs t j]
 exact World.cell?_of_block (w:=((w.alloc a).alloc b).alloc (.cells cs t)) (((Below.refl (((w.alloc a).alloc b).alloc (.cells cs t)).heap.size (((w.alloc a).alloc b).alloc (.cells cs t))).alloc (Nat.le_refl _) d).block (w.heap.size + 1 + 1) (by simp))
theorem zf8 (w : World) (a b c d : Obj) (x y : Int) : (((((w.alloc a).alloc b).alloc c).alloc d).alloc (.cells #[.int .i64 x,.int .i64 y] 213)).cell? ⟨w.heap.size + 1 + 1 + 1 + 1,0,none⟩ = some (.int .i64 x) ∧ (((((w.alloc a).alloc b).alloc c).alloc d).alloc (.cells #[.int .i64 x,.int .i64 y] 213)).cell? ⟨w.heap.size + 1 + 1 + 1 + 1,1,none⟩ = some (.int .i64 y):=by
 have h:=fun j => World.cell?_alloc_new (w:=(((w.alloc a).alloc b).alloc c).alloc d) #[.int .i64 x,.int .i64 y] 213 j
 rw [show ((((w.alloc a).alloc b).alloc c).alloc d).heap.size = w.heap.size + 1 + 1 + 1 + 1 by simp] at h
 exact ⟨h 0,h 1⟩
theorem zbz {w : World} {a b c d : Obj} : Below w.heap.size w ((((w.alloc a).alloc b).alloc c).alloc d):=za9.alloc (by simp; omega) _
theorem zev (w : World) (l r : Rg) (c d : Obj) :
  ((((w.alloc (.cells #[.int .i64 l.lo,.int .i64 l.hi] 213)).alloc (.cells #[.int .i64 r.lo,.int .i64 r.hi] 213)).alloc c).alloc d).cell? ⟨w.heap.size,0,none⟩ = some (.int .i64 l.lo) ∧ ((((w.alloc (.cells #[.int .i64 l.lo,.int .i64 l.hi] 213)).alloc (.cells #[.int .i64 r.lo,.int .i64 r.hi] 213)).alloc c).alloc d).cell? ⟨w.heap.size,1,none⟩ = some (.int .i64 l.hi) ∧
  ((((w.alloc (.cells #[.int .i64 l.lo,.int .i64 l.hi] 213)).alloc (.cells #[.int .i64 r.lo,.int .i64 r.hi] 213)).alloc c).alloc d).cell? ⟨w.heap.size + 1,0,none⟩ = some (.int .i64 r.lo) ∧ ((((w.alloc (.cells #[.int .i64 l.lo,.int .i64 l.hi] 213)).alloc (.cells #[.int .i64 r.lo,.int .i64 r.hi] 213)).alloc c).alloc d).cell? ⟨w.heap.size + 1,1,none⟩ = some (.int .i64 r.hi) :=
 zbF box1 ⟨zaY _ _ _ _ _ 0,zaY _ _ _ _ _ 1,zcx _ _ _ _ _ 0,zcx _ _ _ _ _ 1⟩
theorem zuf (l r : Rg) (w : World) (hl : l.Ok) (hr : r.Ok) : Calls Tryz.prog 271 #[rv l,rv r] w (zd0 w l r (zet l r)):=by
 unfold Rg.Ok i64 at hl hr
 by_cases h : r.hi ≤ l.lo
 ·have e0 : zet l r = none:=by unfold zet; rw [if_pos h]
  rw [e0]
  go_enter Tryz.func271,Tryz.ntmps271
  go_wp2
  go_region
  all_goals go_wp2
  all_goals exact zd1 Tryz.results271 rfl rfl rfl rfl (za7 _ _ _ _ _ _ 0) (za7 _ _ _ _ _ _ 1) (zay _ _ _ _ _ _ 0) (zay _ _ _ _ _ _ 1) ⟨zbz.drew,_,_,rfl⟩
 ·have e0 : zet l r = some (⟨l.lo,min l.hi (r.hi - 1)⟩,⟨max (l.lo + 1) r.lo,r.hi⟩):=by unfold zet; rw [if_neg h]
  rw [e0]
  have hb1:=zcb l.lo (min l.hi (r.hi - 1))
  have hb2:=zcb (max (l.lo + 1) r.lo) r.hi
  have b1 : l.lo + 1 ≤ 9223372036854775807:=by omega
  have b0 : -9223372036854775808 ≤ l.lo + 1:=by omega
  have b2 : r.hi - 1 ≤ 9223372036854775807:=by omega
  have b3 : -9223372036854775808 ≤ r.hi - 1:=by omega
  have w1 : IntKind.i64.wrap (r.hi - 1) = r.hi - 1:=by rw [zjF]; exact zf7 ⟨b3,b2⟩
  have w2 : IntKind.i64.wrap (l.lo + 1) = l.lo + 1:=by rw [zjF]; exact zf7 ⟨b0,b1⟩
  have H1:=zev w l r (.cells #[.int .i64 0,.int .i64 0] 213) (.cells #[.int .i64 0,.int .i64 0] 213)
  go_enter Tryz.func271,Tryz.ntmps271
  go_wp2
  go_region_held3 (fun W => W.cell? ⟨w.heap.size,0,none⟩ = some (.int .i64 l.lo) ∧ W.cell? ⟨w.heap.size,1,none⟩ = some (.int .i64 l.hi) ∧ W.cell? ⟨w.heap.size + 1,0,none⟩ = some (.int .i64 r.lo) ∧ W.cell? ⟨w.heap.size + 1,1,none⟩ = some (.int .i64 r.hi))
   (first | exact H1 | go_keep)
   (fail)
  all_goals go_wp2
  all_goals exact zd1 (l:=⟨l.lo,min l.hi (r.hi - 1)⟩) (r:=⟨max (l.lo + 1) r.lo,r.hi⟩) Tryz.results271 rfl rfl rfl rfl (za7 _ _ _ _ _ _ 0) (za7 _ _ _ _ _ _ 1) (zay _ _ _ _ _ _ 0) (zay _ _ _ _ _ _ 1) ⟨zbz.drew,rfl⟩
theorem zm0 (l r : Rg) (w : World) : Calls Tryz.prog 272 #[rv l,rv r] w (zd0 w l r (zbi l r)):=by
 by_cases h : l.hi < r.lo
 ·have e0 : zbi l r = none:=by unfold zbi; rw [if_pos h]
  rw [e0]
  go_enter Tryz.func272,Tryz.ntmps272
  go_wp2
  go_region
  all_goals go_wp2
  all_goals exact zd1 Tryz.results272 rfl rfl rfl rfl (za7 _ _ _ _ _ _ 0) (za7 _ _ _ _ _ _ 1) (zay _ _ _ _ _ _ 0) (zay _ _ _ _ _ _ 1) ⟨zbz.drew,_,_,rfl⟩
 ·have e0 : zbi l r = some (⟨max l.lo r.lo,l.hi⟩,⟨r.lo,min l.hi r.hi⟩):=by unfold zbi; rw [if_neg h]
  rw [e0]
  have hb1:=zcb (max l.lo r.lo) l.hi
  have hb2:=zcb r.lo (min l.hi r.hi)
  have H1:=zev w l r (.cells #[.int .i64 0,.int .i64 0] 213) (.cells #[.int .i64 0,.int .i64 0] 213)
  go_enter Tryz.func272,Tryz.ntmps272
  go_wp2
  go_region_held3 (fun W => W.cell? ⟨w.heap.size,0,none⟩ = some (.int .i64 l.lo) ∧ W.cell? ⟨w.heap.size,1,none⟩ = some (.int .i64 l.hi) ∧ W.cell? ⟨w.heap.size + 1,0,none⟩ = some (.int .i64 r.lo) ∧ W.cell? ⟨w.heap.size + 1,1,none⟩ = some (.int .i64 r.hi))
   (first | exact H1 | go_keep)
   (fail)
  all_goals go_wp2
  all_goals exact zd1 (l:=⟨max l.lo r.lo,l.hi⟩) (r:=⟨r.lo,min l.hi r.hi⟩) Tryz.results272 rfl rfl rfl rfl (za7 _ _ _ _ _ _ 0) (za7 _ _ _ _ _ _ 1) (zay _ _ _ _ _ _ 0) (zay _ _ _ _ _ _ 1) ⟨zbz.drew,rfl⟩
structure TrIn (w : World) (pt ps pi pr : Nat) (s : ByteArray) (iv : Value) (n : Int) : Prop where
 text : w.cell? ⟨pt,0,none⟩ = some (.string s)
 steps : w.cell? ⟨ps,0,none⟩ = some (.int .i64 n)
 inp : w.cell? ⟨pi,0,none⟩ = some iv
 state : w.there pr 0 30
 ne : ¬ ps = pr ∧ ¬ pi = pr
def zrA (s : ByteArray) (L : List Said) : Prop:=∀ w,LibW w → Calls Tryz.prog 44 #[.string s] w fun e w' => Below w.heap.size w w' ∧ ∃ pm ao m cap F,e = .returned (.agg #[.slice ao m cap,.map (some pm)]) ∧ PIn w.heap.size w' pm (.slice ao m cap) F ∧ Right L F ∧ F.length ≤ 300 ∧ (∀ f ∈ F,f.its.length ≤ 300 ∧ ∀ i ∈ f.its,ItOk i)
theorem zrr (w : World) (ds : List Value) (t : TypeId) : (w.alloc (.cells ds.toArray t)).rangeAt w.heap.size 0 ds:=by
 intro j v hv
 rw [Nat.zero_add,World.cell?_alloc_new (w:=w) ds.toArray t j,List.getElem?_toArray]
 exact hv
structure StAt (w : World) (b : Nat) (m : Mc) (ov : Value) (line : Int) : Prop where
 cS : w.cell? ⟨b,0,none⟩ = some (.int .i64 m.steps)
 cR : w.rangeAt b 1 ((List.range 8).map (fun i => Value.int .i64 (m.regs i)))
 cC : w.rangeAt b 9 ((List.range 16).map (fun i => Value.int .i64 (m.cells i)))
 cO : w.cell? ⟨b,25,none⟩ = some ov
 cF : w.cell? ⟨b,26,none⟩ = some (.int .i64 m.frames)
 cP : w.cell? ⟨b,27,none⟩ = some (.int .i64 m.peak)
 cA : w.cell? ⟨b,28,none⟩ = some (.int .i64 line)
 cE : w.cell? ⟨b,29,none⟩ = some (.int .i64 m.fin)
theorem zun (l r : Rg) (w : World) : Calls Tryz.prog 276 #[rv l,rv r] w (zd0 w l r (zeu l r)):=by
 have hb1:=zcb (max l.lo r.lo) (min l.hi r.hi)
 by_cases h : max l.lo r.lo ≤ min l.hi r.hi
 ·have e0 : zeu l r = some (⟨max l.lo r.lo,min l.hi r.hi⟩,⟨max l.lo r.lo,min l.hi r.hi⟩):=by unfold zeu; rw [if_pos h]
  rw [e0]
  have H1:=zf8 w (.cells #[.int .i64 l.lo,.int .i64 l.hi] 213) (.cells #[.int .i64 r.lo,.int .i64 r.hi] 213) (.cells #[.int .i64 0,.int .i64 0] 213) (.cells #[.int .i64 0,.int .i64 0] 213) (max l.lo r.lo) (min l.hi r.hi)
  go_enter Tryz.func276,Tryz.ntmps276
  go_wp2
  go_region_held3 (fun W => W.cell? ⟨w.heap.size + 1 + 1 + 1 + 1,0,none⟩ = some (.int .i64 (max l.lo r.lo)) ∧ W.cell? ⟨w.heap.size + 1 + 1 + 1 + 1,1,none⟩ = some (.int .i64 (min l.hi r.hi)))
   (first | exact zf8 _ _ _ _ _ _ _ | go_keep)
   (fail)
  all_goals go_wp2
  all_goals exact zd1 (l:=⟨max l.lo r.lo,min l.hi r.hi⟩) (r:=⟨max l.lo r.lo,min l.hi r.hi⟩) Tryz.results276 rfl rfl rfl rfl (zaC box1 (za7 _ _ _ _ _ _ 0)) (zaC box1 (za7 _ _ _ _ _ _ 1)) (zaC box1 (zay _ _ _ _ _ _ 0)) (zaC box1 (zay _ _ _ _ _ _ 1)) ⟨(zbz.alloc (by simp; omega) _).drew,rfl⟩
 ·have e0 : zeu l r = none:=by unfold zeu; rw [if_neg h]
  have hdec : decide (max l.lo r.lo ≤ min l.hi r.hi) = false:=by simpa using h
  rw [e0]
  have H1:=zf8 w (.cells #[.int .i64 l.lo,.int .i64 l.hi] 213) (.cells #[.int .i64 r.lo,.int .i64 r.hi] 213) (.cells #[.int .i64 0,.int .i64 0] 213) (.cells #[.int .i64 0,.int .i64 0] 213) (max l.lo r.lo) (min l.hi r.hi)
  go_enter Tryz.func276,Tryz.ntmps276
  go_wp2
  go_region_held3 (fun W => W.cell? ⟨w.heap.size + 1 + 1 + 1 + 1,0,none⟩ = some (.int .i64 (max l.lo r.lo)) ∧ W.cell? ⟨w.heap.size + 1 + 1 + 1 + 1,1,none⟩ = some (.int .i64 (min l.hi r.hi)))
   (first | exact zf8 _ _ _ _ _ _ _ | go_keep)
   (fail)
  all_goals go_wp2
  all_goals exact zd1 (l:=⟨max l.lo r.lo,min l.hi r.hi⟩) (r:=⟨max l.lo r.lo,min l.hi r.hi⟩) Tryz.results276 rfl rfl rfl rfl (zaC box1 (za7 _ _ _ _ _ _ 0)) (zaC box1 (za7 _ _ _ _ _ _ 1)) (zaC box1 (zay _ _ _ _ _ _ 0)) (zaC box1 (zay _ _ _ _ _ _ 1)) ⟨(zbz.alloc (by simp; omega) _).drew,_,_,by first | rfl | rw [hdec]⟩
def zfg (l : List Int) : Nat → Int
 | 0 => l.headD 0
 | k + 1 => min (zfg l k) (l[k + 1]?.getD 0)
def zfh (l : List Int) : Nat → Int
 | 0 => l.headD 0
 | k + 1 => max (zfh l k) (l[k + 1]?.getD 0)
theorem znJ (w : World) (b cap : Nat) (l : List Int) (h0 : 0 < l.length) (hn : l.length ≤ 1000) (hc : ∀ j (h : j < l.length),w.cell? ⟨b,j,none⟩ = some (.int .i64 l[j])) :
  Calls Tryz.prog 247 #[.slice (some ⟨b,0,none⟩) l.length cap] w fun e w' => e = .returned (.int .i64 (zfg l (l.length - 1))) ∧ w' = w:=by
 have c0:=hc 0 h0
 have e0 : zfg l 0 = l[0]:=by cases l with | nil => simp at h0 | cons x r => rfl
 go_enter Tryz.func247,Tryz.ntmps247
 go_wp2
 go_loopw [4,3] (fun ti tm wr => ∃ k : Nat,1 ≤ k ∧ k ≤ l.length ∧ ti = .int .i64 (k : Int) ∧ tm = .int .i64 (zfg l (k - 1)) ∧ wr = w) (fun ti _ _ => l.length - (intOf ti).toNat)
 case atStart => exact ⟨1,by omega,by omega,rfl,by rw [e0],rfl⟩
 case round =>
  obtain ⟨k,h1,hk,rfl,rfl,rfl⟩:=hrel
  by_cases hlt : k < l.length
  ·have ck:=hc k hlt
   have hk0 : (0 : Int) ≤ (k : Int):=by omega
   have hk1 : (k : Int) < (l.length : Int):=by omega
   have HM : Hid (zfg l k = min (zfg l (k - 1)) l[k]):=by
    obtain ⟨k',rfl⟩ : ∃ k',k = k' + 1:=⟨k - 1,by omega⟩
    show min (zfg l k') (l[k' + 1]?.getD 0) = _
    rw [List.getElem?_eq_getElem hlt]; rfl
   clear hc c0
   generalize l[k] = x at ck HM
   generalize zfg l (k - 1) = y at HM
   go_wp2
   go_roundw
   case rel => exact ⟨k + 1,by omega,by omega,by go_num,by simp only [Nat.add_sub_cancel]; rw [HM.out],by first | rfl | trivial⟩
   case measure => simp [intOf]; omega
  ·obtain rfl : k = l.length:=by omega
   go_wp2
   go_ret
   exact ⟨rfl,rfl⟩
theorem znK (w : World) (b cap : Nat) (l : List Int) (h0 : 0 < l.length) (hn : l.length ≤ 1000) (hc : ∀ j (h : j < l.length),w.cell? ⟨b,j,none⟩ = some (.int .i64 l[j])) :
  Calls Tryz.prog 248 #[.slice (some ⟨b,0,none⟩) l.length cap] w fun e w' => e = .returned (.int .i64 (zfh l (l.length - 1))) ∧ w' = w:=by
 have c0:=hc 0 h0
 have e0 : zfh l 0 = l[0]:=by cases l with | nil => simp at h0 | cons x r => rfl
 go_enter Tryz.func248,Tryz.ntmps248
 go_wp2
 go_loopw [4,3] (fun ti tm wr => ∃ k : Nat,1 ≤ k ∧ k ≤ l.length ∧ ti = .int .i64 (k : Int) ∧ tm = .int .i64 (zfh l (k - 1)) ∧ wr = w) (fun ti _ _ => l.length - (intOf ti).toNat)
 case atStart => exact ⟨1,by omega,by omega,rfl,by rw [e0],rfl⟩
 case round =>
  obtain ⟨k,h1,hk,rfl,rfl,rfl⟩:=hrel
  by_cases hlt : k < l.length
  ·have ck:=hc k hlt
   have hk0 : (0 : Int) ≤ (k : Int):=by omega
   have hk1 : (k : Int) < (l.length : Int):=by omega
   have HM : Hid (zfh l k = max (zfh l (k - 1)) l[k]):=by
    obtain ⟨k',rfl⟩ : ∃ k',k = k' + 1:=⟨k - 1,by omega⟩
    show max (zfh l k') (l[k' + 1]?.getD 0) = _
    rw [List.getElem?_eq_getElem hlt]; rfl
   clear hc c0
   generalize l[k] = x at ck HM
   generalize zfh l (k - 1) = y at HM
   go_wp2
   go_roundw
   case rel => exact ⟨k + 1,by omega,by omega,by go_num,by simp only [Nat.add_sub_cancel]; rw [HM.out],by first | rfl | trivial⟩
   case measure => simp [intOf]; omega
  ·obtain rfl : k = l.length:=by omega
   go_wp2
   go_ret
   exact ⟨rfl,rfl⟩
theorem zgg (w : World) (a b : Obj) (w4 : World) (hb : Below (((w.alloc a).alloc b).alloc (.cells #[.int .i64 0,.int .i64 0] 213)).heap.size (((w.alloc a).alloc b).alloc (.cells #[.int .i64 0,.int .i64 0] 213)) w4) :
  w4.cell? ⟨w.heap.size + 1 + 1,0,none⟩ = some (.int .i64 0) ∧ w4.cell? ⟨w.heap.size + 1 + 1,1,none⟩ = some (.int .i64 0) ∧ w4.frozen? ⟨w.heap.size + 1 + 1,0,none⟩ = false ∧ w4.frozen? ⟨w.heap.size + 1 + 1,1,none⟩ = false ∧ Below w.heap.size w w4:=by
 have hs : (((w.alloc a).alloc b).alloc (.cells #[.int .i64 0,.int .i64 0] 213)).heap.size = w.heap.size + 1 + 1 + 1:=by simp
 have h3 : Below w.heap.size w (((w.alloc a).alloc b).alloc (.cells #[.int .i64 0,.int .i64 0] 213)):=za9
 have fz : ∀ j,w4.frozen? ⟨w.heap.size + 1 + 1,j,none⟩ = false:=fun j => (World.frozen?_of_block (w:=((w.alloc a).alloc b).alloc (.cells #[.int .i64 0,.int .i64 0] 213)) (a:=⟨w.heap.size + 1 + 1,j,none⟩) (hb.block _ (show w.heap.size + 1 + 1 < _ by omega))).trans (zeD _ _ _ _ _ j)
 exact ⟨zaC hb (za4 _ _ _ _ _ 0),zaC hb (za4 _ _ _ _ _ 1),fz 0,fz 1,h3.trans (hb.mono h3.size)⟩
theorem znI (r o : Rg) (w : World) : Calls Tryz.prog 234 #[rv r,rv o] w fun e w' => e = .returned (rv (r.plus o)) ∧ Below w.heap.size w w':=by
 have hcall:=fun W => znH (wrap64 (r.lo + o.lo)) r o W
 have e0 : zfd (wrap64 (r.lo + o.lo)) r o = r.plus o:=by rw [zc5]; rfl
 rw [e0] at hcall
 have T:=zgg w (.cells #[.int .i64 r.lo,.int .i64 r.hi] 213) (.cells #[.int .i64 o.lo,.int .i64 o.hi] 213)
 go_enter Tryz.func234,Tryz.ntmps234
 go_wp2_with (go_at_call 235; (with_reducible refine (hcall _).mono ?_); rintro e w4 ⟨rfl,hb4⟩; obtain ⟨d0,d1,g0,g1,hbw⟩:=T w4 hb4)
 exact zby (r:=r.plus o) Tryz.results234 rfl rfl (zao d0 d1).1 (zao d0 d1).2 ⟨rfl,zas hbw (by omega)⟩
theorem zrO (r o : Rg) (w : World) : Calls Tryz.prog 242 #[rv r,rv o] w fun e w' => e = .returned (rv (r.minus o)) ∧ Below w.heap.size w w':=by
 have hcall:=fun W => znH (wrap64 (r.lo - o.hi)) r o W
 have e0 : zfd (wrap64 (r.lo - o.hi)) r o = r.minus o:=by rw [zc5]; rfl
 rw [e0] at hcall
 have T:=zgg w (.cells #[.int .i64 r.lo,.int .i64 r.hi] 213) (.cells #[.int .i64 o.lo,.int .i64 o.hi] 213)
 go_enter Tryz.func242,Tryz.ntmps242
 go_wp2_with (go_at_call 235; (with_reducible refine (hcall _).mono ?_); rintro e w4 ⟨rfl,hb4⟩; obtain ⟨d0,d1,g0,g1,hbw⟩:=T w4 hb4)
 exact zby (r:=r.minus o) Tryz.results242 rfl rfl (zao d0 d1).1 (zao d0 d1).2 ⟨rfl,zas hbw (by omega)⟩
theorem zcO (r o : Rg) (w : World) (hr : r.Ok) (hn : ¬ (r.lo = o.lo ∧ r.hi = o.hi ∧ r.lo = r.hi)) : Calls Tryz.prog 278 #[rv r,rv o] w fun e w' => e = .returned (rv (r.without o)) ∧ Below w.heap.size w w':=by
 unfold Rg.Ok i64 at hr
 by_cases h1 : o.lo = o.hi
 ·by_cases h2 : o.lo = r.lo
  ·have e0 : r.without o = ⟨r.lo + 1,r.hi⟩:=by unfold Rg.without; rw [if_pos h1,if_pos h2]
   have hb:=zcb (r.lo + 1) r.hi
   have t1 : (o.lo != o.hi) = false:=by simpa using h1
   have t2 : (o.lo == r.lo) = true:=by simpa using h2
   have b1 : r.lo + 1 ≤ 9223372036854775807:=by omega
   have b0 : -9223372036854775808 ≤ r.lo + 1:=by omega
   go_enter Tryz.func278,Tryz.ntmps278
   go_wp2
   exact zby (r:=⟨r.lo + 1,r.hi⟩) Tryz.results278 rfl rfl (za4 _ _ _ _ _ 0) (za4 _ _ _ _ _ 1) ⟨by rw [e0],za9⟩
  ·have t1 : (o.lo != o.hi) = false:=by simpa using h1
   have t2 : (o.lo == r.lo) = false:=by simpa using h2
   by_cases h3 : o.lo = r.hi
   ·have e0 : r.without o = ⟨r.lo,r.hi - 1⟩:=by unfold Rg.without; rw [if_pos h1,if_neg h2,if_pos h3]
    have hb:=zcb r.lo (r.hi - 1)
    have t3 : (o.lo == r.hi) = true:=by simpa using h3
    have b1 : r.hi - 1 ≤ 9223372036854775807:=by omega
    have b0 : -9223372036854775808 ≤ r.hi - 1:=by omega
    go_enter Tryz.func278,Tryz.ntmps278
    go_wp2
    exact zby (r:=⟨r.lo,r.hi - 1⟩) Tryz.results278 rfl rfl (za4 _ _ _ _ _ 0) (za4 _ _ _ _ _ 1) ⟨by rw [e0],za9⟩
   ·have e0 : r.without o = r:=by unfold Rg.without; rw [if_pos h1,if_neg h2,if_neg h3]
    have t3 : (o.lo == r.hi) = false:=by simpa using h3
    go_enter Tryz.func278,Tryz.ntmps278
    go_wp2
    exact zby (r:=r) Tryz.results278 rfl rfl (za4 _ _ _ _ _ 0) (za4 _ _ _ _ _ 1) ⟨by rw [e0],za9⟩
 ·have e0 : r.without o = r:=by unfold Rg.without; rw [if_neg h1]
  have t1 : (o.lo != o.hi) = true:=by simpa using h1
  go_enter Tryz.func278,Tryz.ntmps278
  go_wp2
  exact zby (r:=r) Tryz.results278 rfl rfl (za4 _ _ _ _ _ 0) (za4 _ _ _ _ _ 1) ⟨by rw [e0],za9⟩
end Go.Proofs.YtfpgjkbjbbgciaaGreatDoor
namespace Go.Proofs.YtfpgjkbjbbgciaaGreatDoor
def HpAll (f : Nat → Int) (n : Nat) : Prop:=∀ i,0 < i → i < n → f ((i - 1) / 2) ≤ f i
structure RiseI (f : Nat → Int) (n a : Nat) : Prop where
 all : ∀ i,0 < i → i < n → ¬ i = a → f ((i - 1) / 2) ≤ f i
 over : ∀ i,0 < i → i < n → (i - 1) / 2 = a → 0 < a → f ((a - 1) / 2) ≤ f i
structure SinkI (f : Nat → Int) (n a : Nat) : Prop where
 all : ∀ i,0 < i → i < n → ¬ (i - 1) / 2 = a → f ((i - 1) / 2) ≤ f i
 over : ∀ i,0 < i → i < n → (i - 1) / 2 = a → 0 < a → f ((a - 1) / 2) ≤ f i
def zmx (f : Nat → Int) (a b : Nat) : Nat → Int:=fun i => if i = a then f b else if i = b then f a else f i
theorem HpAll.least {f : Nat → Int} {n : Nat} (h : HpAll f n) : ∀ i,i < n → f 0 ≤ f i:=by
 intro i
 induction i using Nat.strongRecOn with
 | ind i ih =>
  intro hi
  by_cases h0 : i = 0
  ·subst h0; exact Int.le_refl _
  ·have h1:=ih ((i - 1) / 2) (by omega) (by omega)
   have h2:=h i (by omega) hi
   omega
theorem RiseI.done {f : Nat → Int} {n a : Nat} (h : RiseI f n a) (h0 : a = 0 ∨ f ((a - 1) / 2) ≤ f a) : HpAll f n:=by
 intro i hi hn
 by_cases e : i = a
 ·subst e
  rcases h0 with h0 | h0
  ·omega
  ·exact h0
 ·exact h.all i hi hn e
theorem RiseI.step {f : Nat → Int} {n a : Nat} (h : RiseI f n a) (ha : 0 < a) (han : a < n) (hle : f a ≤ f ((a - 1) / 2)) : RiseI (zmx f a ((a - 1) / 2)) n ((a - 1) / 2):=by
 have key : ∀ x,zmx f a ((a - 1) / 2) x = if x = a then f ((a - 1) / 2) else if x = (a - 1) / 2 then f a else f x:=fun x => rfl
 constructor
 ·intro i hi hn hne
  rw [key,key]
  by_cases e1 : i = a
  ·subst e1
   rw [if_neg (by omega),if_pos rfl,if_pos rfl]
   exact hle
  ·rw [if_neg e1,if_neg hne]
   by_cases e2 : (i - 1) / 2 = a
   ·rw [if_pos e2]; exact h.over i hi hn e2 ha
   ·rw [if_neg e2]
    have h1:=h.all i hi hn e1
    by_cases e3 : (i - 1) / 2 = (a - 1) / 2
    ·rw [if_pos e3]; rw [e3] at h1; omega
    ·rw [if_neg e3]; exact h1
 ·intro i hi hn e ha2
  rw [key,key,if_neg (by omega),if_neg (by omega)]
  have h2:=h.all ((a - 1) / 2) ha2 (by omega) (by omega)
  by_cases e1 : i = a
  ·rw [if_pos e1]; exact h2
  ·rw [if_neg e1,if_neg (by omega)]
   have h1:=h.all i hi hn e1
   rw [e] at h1
   omega
theorem SinkI.done {f : Nat → Int} {n a : Nat} (h : SinkI f n a) (h1 : 2 * a + 1 < n → f a ≤ f (2 * a + 1)) (h2 : 2 * a + 2 < n → f a ≤ f (2 * a + 2)) : HpAll f n:=by
 intro i hi hn
 by_cases e : (i - 1) / 2 = a
 ·rcases (by omega : i = 2 * a + 1 ∨ i = 2 * a + 2) with rfl | rfl
  ·rw [e]; exact h1 hn
  ·rw [e]; exact h2 hn
 ·exact h.all i hi hn e
theorem SinkI.step {f : Nat → Int} {n a c : Nat} (h : SinkI f n a) (hc : c = 2 * a + 1 ∨ c = 2 * a + 2) (hcn : c < n) (h0 : f c ≤ f a) (h1 : 2 * a + 1 < n → f c ≤ f (2 * a + 1)) (h2 : 2 * a + 2 < n → f c ≤ f (2 * a + 2)) : SinkI (zmx f a c) n c:=by
 have key : ∀ x,zmx f a c x = if x = a then f c else if x = c then f a else f x:=fun x => rfl
 constructor
 ·intro i hi hn hne
  rw [key,key]
  by_cases e1 : i = c
  ·subst e1
   rw [if_pos (by omega),if_neg (by omega),if_pos rfl]
   exact h0
  ·by_cases e2 : i = a
   ·subst e2
    rw [if_neg (by omega),if_neg (by omega),if_pos rfl]
    exact h.over c (by omega) hcn (by omega) hi
   ·rw [if_neg e2,if_neg e1,if_neg hne]
    by_cases e3 : (i - 1) / 2 = a
    ·rw [if_pos e3]
     rcases (by omega : i = 2 * a + 1 ∨ i = 2 * a + 2) with rfl | rfl
     ·exact h1 hn
     ·exact h2 hn
    ·rw [if_neg e3]; exact h.all i hi hn e3
 ·intro i hi hn e hc2
  rw [key,key,if_pos (by omega),if_neg (by omega),if_neg (by omega)]
  have h3:=h.all i hi hn (by omega)
  rw [e] at h3
  exact h3
theorem SinkI.head {f g : Nat → Int} {n m : Nat} (h : HpAll f n) (hm : m ≤ n) (e : ∀ i,0 < i → i < m → g i = f i) : SinkI g m 0 :=
 ⟨fun i hi hn hne => by rw [e i hi hn,e _ (by omega) (by omega)]; exact h i hi (by omega),fun i hi hn _ h0 => absurd h0 (by omega)⟩
theorem RiseI.last {f g : Nat → Int} {n : Nat} (h : HpAll f n) (e : ∀ i,i < n → g i = f i) : RiseI g (n + 1) n :=
 ⟨fun i hi hn hne => by rw [e i (by omega),e _ (by omega)]; exact h i hi (by omega),fun i hi hn e2 => by omega⟩
def zdW {α : Type} (d : α) (l : List α) (i j : Nat) : List α:=(l.set i (l.getD j d)).set j (l.getD i d)
theorem zrM {α : Type} (d : α) (l : List α) (i j : Nat) : (zdW d l i j).length = l.length:=by simp [zdW]
theorem zgf {α : Type} {d : α} {l : List α} {i j : Nat} (hi : i < l.length) (hj : j < l.length) : (zdW d l i j).Perm l:=by
 have e1 : l.getD j d = l[j]:=by simp [List.getD,hj]
 have e2 : l.getD i d = l[i]:=by simp [List.getD,hi]
 unfold zdW
 rw [e1,e2]
 exact List.set_set_perm hi hj
theorem znF {α : Type} {d : α} {l : List α} {i j : Nat} (hi : i < l.length) (hj : j < l.length) (hne : ¬ i = j) (x : Nat) : (zdW d l i j).getD x d = if x = i then l.getD j d else if x = j then l.getD i d else l.getD x d:=by
 unfold zdW
 simp only [List.getD,List.getElem?_set]
 by_cases e1 : j = x
 ·subst e1
  have hne' : ¬ j = i:=fun h => hne h.symm
  simp [hne',hj]
 ·have e1' : ¬ x = j:=fun h => e1 h.symm
  by_cases e2 : i = x
  ·subst e2; simp [e1,hi]
  ·have e2' : ¬ x = i:=fun h => e2 h.symm
   simp [e1,e2,e1',e2']
theorem zrN {α : Type} {d : α} {l : List α} {i j : Nat} (hi : i < l.length) (hj : j < l.length) (hne : ¬ i = j) (st : α → Int) : (fun x => st ((zdW d l i j).getD x d)) = zmx (fun x => st (l.getD x d)) i j:=by
 funext x
 show st ((zdW d l i j).getD x d) = if x = i then st (l.getD j d) else if x = j then st (l.getD i d) else st (l.getD x d)
 rw [znF hi hj hne]
 split
 ·rfl
 ·split <;> rfl
end Go.Proofs.YtfpgjkbjbbgciaaGreatDoor
