import Derived.Test.YtfpgjkbjbbgciaaGreatDoorMe23
import Derived.Test.YtfpgjkbjbbgciaaGreatDoorMe25
import Derived.Laws.IdiomStrings
set_option maxRecDepth 100000
set_option maxHeartbeats 8000000
namespace Go.Proofs.YtfpgjkbjbbgciaaGreatDoor
open Go.RowKit Sp
abbrev rv (r : Rg) : Value:=.agg #[.int .i64 r.lo,.int .i64 r.hi]
theorem Tryz.info213 : (Tryz.prog.info? 213).map (·.size) = some 2:=by kernel_rfl
theorem zbU (a b : Int) : ∀ W,(Instr.build 213 #[(0,.int .i64 a),(1,.int .i64 b)]).run Tryz.prog W = .ok (.agg #[.int .i64 a,.int .i64 b]) W:=fun W => run_build W 213 _ _ (by kernel_rfl)
theorem zmn {X : World} {b o : Nat} {r : Rg} (h0 : X.cell? ⟨b,o,none⟩ = some (.int .i64 r.lo)) (h1 : X.cell? ⟨b,o + 1,none⟩ = some (.int .i64 r.hi)) : (loadVar 213 ⟨b,o,none⟩).run Tryz.prog X = .ok (rv r) X:=by
 have hu : Tryz.prog.underlying 213 = some (.struct _):=Tryz.underlying213
 refine run_loadVar_mid X b o 213 [.int .i64 r.lo,.int .i64 r.hi] _ ?_ hu rfl Tryz.info213
 intro j u hj
 match j,hj with
 | 0,hj => simp at hj; subst hj; exact h0
 | 1,hj => simp at hj; subst hj; exact h1
theorem zb2 {fn : Func} {a : Tmp} {Q : Ending → World → Prop} {X : World} {act : Act} {b : Nat} {r : Rg} (hr : fn.results = #[.cell a 213]) (hp : act.tmps.getD a undef = .pointer (some ⟨b,0,none⟩)) (hd : act.defers = [])
  (h0 : X.cell? ⟨b,0,none⟩ = some (.int .i64 r.lo)) (h1 : X.cell? ⟨b,1,none⟩ = some (.int .i64 r.hi)) (hq : Q (.returned (rv r)) X) : bodyPost Tryz.prog fn Q .ret act X :=
 bodyPost_ret (zcM hr act.tmps ⟨b,0,none⟩ hp (zmn h0 h1)) hd hq
theorem box1 {w : World} {a : Obj} : Below w.heap.size w (w.alloc a):=(Below.refl _ _).alloc (Nat.le_refl _) _
theorem box2 {w : World} {a b : Obj} : Below w.heap.size w ((w.alloc a).alloc b):=box1.alloc (by simp) _
theorem zjz (x : Int) : IntKind.u64.wrap x = x % 18446744073709551616:=by
 simp [IntKind.wrap,IntKind.bits,IntKind.signed]
theorem zgH (n : Int) (w : World) : Calls Tryz.prog 226 #[.int .i64 n] w fun e w' => e = .returned (rv (only n)) ∧ Below w.heap.size w w':=by
 have hb:=zbU n n
 go_enter Tryz.func226,Tryz.ntmps226
 go_wp2
 exact zb2 (r:=only n) Tryz.results226 rfl rfl (by simp [only]) (by simp [only]) ⟨rfl,box1⟩
theorem zhB (w : World) : Calls Tryz.prog 238 #[] w fun e w' => e = .returned (rv anyR) ∧ Below w.heap.size w w':=by
 have hb:=zbU (-9223372036854775808) 9223372036854775807
 go_enter Tryz.func238,Tryz.ntmps238
 go_wp2
 exact zb2 (r:=anyR) Tryz.results238 rfl rfl (by simp [anyR]) (by simp [anyR]) ⟨rfl,box1⟩
theorem znD (r o : Rg) (w : World) : Calls Tryz.prog 156 #[rv r,rv o] w fun e w' => e = .returned (rv (r.or o)) ∧ Below w.heap.size w w':=by
 have hb:=zbU (min r.lo o.lo) (max r.hi o.hi)
 go_enter Tryz.func156,Tryz.ntmps156
 go_wp2
 exact zb2 (r:=r.or o) Tryz.results156 rfl rfl (za5 _ _ _ _ _ 0) (za5 _ _ _ _ _ 1) ⟨rfl,zaB⟩
theorem ziN (r o : Rg) (w : World) : Calls Tryz.prog 182 #[rv r,rv o] w fun e w' => e = .returned (.bool (r.within o)) ∧ Below w.heap.size w w':=by
 by_cases h : o.lo ≤ r.lo
 ·go_enter Tryz.func182,Tryz.ntmps182
  go_wp2
  go_ret
  exact ⟨by simp [Rg.within,h],box2⟩
 ·have hd : decide (o.lo ≤ r.lo) = false:=by simpa using h
  go_enter Tryz.func182,Tryz.ntmps182
  go_wp2
  go_ret
  exact ⟨by unfold Rg.within; rw [hd]; rfl,box2⟩
theorem zkK (r : Rg) (w : World) : Calls Tryz.prog 237 #[rv r] w fun e w' => e = .returned (.int .u64 r.width) ∧ Below w.heap.size w w':=by
 have e : IntKind.u64.wrap (IntKind.u64.wrap r.hi - IntKind.u64.wrap r.lo) = r.width:=by
  rw [zjz,zjz,zjz]; unfold Rg.width; omega
 go_enter Tryz.func237,Tryz.ntmps237
 go_wp2
 go_ret
 exact ⟨rfl,box1⟩
theorem zvC {x a : Int} (hx : i64 x) (h1 : ¬ a = -1) : i64 (x.tdiv a):=by
 have hn : (x.tdiv a).natAbs = x.natAbs / a.natAbs:=Int.natAbs_tdiv x a
 by_cases h0 : a = 0
 ·subst h0; simp [i64]
 ·by_cases h2 : a = 1
  ·subst h2; simpa using hx
  ·have : x.natAbs / a.natAbs ≤ x.natAbs / 2:=Nat.div_le_div_left (by omega) (by omega)
   unfold i64 at *
   omega
theorem zcD (a b : Int) (w : World) : Calls Tryz.prog 246 #[.int .i64 a,.int .i64 b] w fun e w' => e = .returned (.bool (zb1 a b)) ∧ w' = w:=by
 by_cases h1 : a = -1
 ·subst h1
  have e0 : zb1 (-1) b = (b == -9223372036854775808):=by unfold zb1; rw [if_pos rfl]; rfl
  rw [e0]
  go_enter Tryz.func246,Tryz.ntmps246
  go_wp2
  go_ret
  exact ⟨rfl,rfl⟩
 ·have e0 : zb1 a b = (a != 0 && wrap64 ((wrap64 (a * b)).tdiv a) != b):=by
   unfold zb1
   rw [if_neg h1,zcs,zcs,zfw (zvC (zdx _) h1)]
   by_cases h0 : a = 0 <;> by_cases h2 : (w64 (a * b)).tdiv a = b <;> simp [h0,h2,bne]
  have h1' : (a == -1) = false:=by simpa using h1
  by_cases h0 : a = 0
  ·rw [e0]
   clear e0
   subst h0
   go_enter Tryz.func246,Tryz.ntmps246
   go_wp2
   go_ret
   exact ⟨rfl,rfl⟩
  ·rw [e0]
   clear e0
   have h0' : (a != 0) = true:=by simpa using h0
   go_enter Tryz.func246,Tryz.ntmps246
   go_wp2
   go_ret
   exact ⟨by rw [h0',Bool.true_and]; rfl,rfl⟩
def zdn (c n : Int) : Int:=(if c < 0 then -(c + 1) else c) % n
theorem ze0 (c n : Int) (w : World) (hn : 0 < n) (hc : i64 c) : Calls Tryz.prog 37 #[.int .i64 c,.int .i64 n] w fun e w' => e = .returned (.int .i64 (zdn c n)) ∧ w' = w:=by
 obtain ⟨hc1,hc2⟩:=hc
 by_cases h : c < 0
 ·have e1 : wrap64 (c + 1) = c + 1:=(by unfold wrap64; omega)
  have e2 : wrap64 (-(c + 1)) = -(c + 1):=(by unfold wrap64; omega)
  have e3 : (-(c + 1)).tmod n = -(c + 1) % n:=Int.tmod_eq_emod_of_nonneg (by omega)
  have e4 : zdn c n = -(c + 1) % n:=by unfold zdn; rw [if_pos h]
  rw [e4]
  go_enter Tryz.func37,Tryz.ntmps37
  go_wp2
  go_ret
  exact ⟨rfl,rfl⟩
 ·have e4 : zdn c n = c % n:=by unfold zdn; rw [if_neg h]
  rw [e4]
  go_enter Tryz.func37,Tryz.ntmps37
  go_wp2
  go_ret
  exact ⟨rfl,rfl⟩
theorem zs3 (n : Nat) (w : World) : (convert 157 9 (.slice (some ⟨w.heap.size,0,none⟩) 1 1)).run Tryz.prog (w.alloc (.cells #[.int .u8 (48 + (n : Int) % 10)] 5)) = .ok (.string (ba [UInt8.ofNat (48 + n % 10)])) (w.alloc (.cells #[.int .u8 (48 + (n : Int) % 10)] 5)):=by
 refine run_convert_bytes_back (P:=Tryz.prog) _ 157 9 5 ⟨w.heap.size,0,none⟩ 1 [UInt8.ofNat (48 + n % 10)] (by kernel_rfl) (by kernel_rfl) (by kernel_rfl) (fun j hj => ?_)
 have : j = 0:=by simp at hj; omega
 subst this
 show (w.alloc _).cell? ⟨w.heap.size,0 + 0,none⟩ = _
 rw [World.cell?_alloc_new (w:=w) #[.int .u8 (48 + (n : Int) % 10)] 5 0]
 have : ((UInt8.ofNat (48 + n % 10)).toNat : Int) = 48 + (n : Int) % 10:=by
  rw [UInt8.toNat_ofNat',Nat.mod_eq_of_lt (by omega)]; omega
 simp only [List.getElem_cons_zero,this]
 rfl
theorem zs4 (a b : List UInt8) : ba a ++ ba b = ba (a ++ b):=by
 apply ByteArray.ext
 simp [ba,ByteArray.data_append]
theorem zu8 (k n : Nat) (h : n < 10 ^ (k + 1)) : (decL n).length ≤ k + 1:=by
 induction k generalizing n with
 | zero => rw [zc7 n (by simpa using h)]; simp
 | succ k ih =>
  by_cases hs : n < 10
  ·rw [zc7 n hs]; simp
  ·have:=ih (n / 10) (by rw [Nat.pow_succ] at h; omega)
   rw [zf8 n hs,List.length_append,List.length_singleton]
   omega
theorem zgf (n : Nat) (h : n ≤ 9223372036854775808) : (ba (decL n)).size ≤ 20:=zu8 19 n (by omega)
theorem zlw (n : Nat) (h : n ≤ 9223372036854775808) (w : World) : Calls Tryz.prog 63 #[.int .i64 (-(n : Int))] w fun e w' => e = .returned (.string (ba (decL n))) ∧ Below w.heap.size w w':=by
 induction n using Nat.strongRecOn generalizing w with
 | ind n ih =>
  have hcv:=zs3 n w
  have hb1 : Below w.heap.size w (w.alloc (.cells #[.int .u8 (48 + (n : Int) % 10)] 5)):=(Below.refl _ _).alloc (Nat.le_refl _) _
  by_cases hs : n < 10
  ·rw [zc7 n hs]
   rw [show 48 + n % 10 = 48 + n by omega] at hcv
   generalize ba [UInt8.ofNat (48 + n)] = X at hcv ⊢
   go_enter Tryz.func63,Tryz.ntmps63
   go_wp2_with (first | (rw [hcv]; go_upon))
   go_ret
   exact ⟨rfl,hb1⟩
  ·have ih2:=ih (n / 10) (by omega) (by omega) (w.alloc (.cells #[.int .u8 (48 + (n : Int) % 10)] 5))
   rw [show ((n / 10 : Nat) : Int) = (n : Int) / 10 by omega] at ih2
   rw [zf8 n hs,← zs4]
   have z1:=zgf (n / 10) (by omega)
   have z2 : (ba [UInt8.ofNat (48 + n % 10)]).size ≤ 1:=Nat.le_refl _
   generalize ba [UInt8.ofNat (48 + n % 10)] = X at hcv z2 ⊢
   generalize ba (decL (n / 10)) = Y at ih2 z1 ⊢
   have z3 : ¬ 9223372036854775807 < Y.size + X.size:=by omega
   go_enter Tryz.func63,Tryz.ntmps63
   go_wp2_with (first | (rw [hcv]; go_upon) | (go_at_call 63; refine ih2.mono ?_; rintro e w2 ⟨rfl,hb2⟩))
   go_ret
   exact ⟨rfl,hb1.trans (hb2.mono hb1.size)⟩
theorem ze1 (n : Int) (h : i64 n) (w : World) : Calls Tryz.prog 36 #[.int .i64 n] w fun e w' => e = .returned (.string (ba (digL n))) ∧ Below w.heap.size w w':=by
 obtain ⟨h1,h2⟩:=h
 have z1:=zgf n.natAbs (by omega)
 by_cases hn : n < 0
 ·have hc:=zlw n.natAbs (by omega) w
  rw [show -((n.natAbs : Nat) : Int) = n by omega] at hc
  rw [show digL n = [45] ++ decL n.natAbs by unfold digL; rw [if_pos hn]; rfl,← zs4]
  generalize ba (decL n.natAbs) = Y at hc z1 ⊢
  have z3 : ¬ 9223372036854775807 < 1 + Y.size:=by omega
  go_enter Tryz.func36,Tryz.ntmps36
  go_wp2_with (go_at_call 63; refine hc.mono ?_; rintro e w2 ⟨rfl,hb2⟩)
  go_ret
  exact ⟨rfl,hb2⟩
 ·have hc:=zlw n.natAbs (by omega) w
  rw [show -((n.natAbs : Nat) : Int) = -n by omega] at hc
  rw [show digL n = decL n.natAbs by unfold digL; rw [if_neg hn]]
  generalize ba (decL n.natAbs) = Y at hc z1 ⊢
  go_enter Tryz.func36,Tryz.ntmps36
  go_wp2_with (go_at_call 63; refine hc.mono ?_; rintro e w2 ⟨rfl,hb2⟩)
  go_ret
  exact ⟨rfl,hb2⟩
def regB (r : Nat) : ByteArray:=ba [114,UInt8.ofNat (48 + r)]
theorem zif (r : Nat) : (regB r).size = 2:=rfl
theorem zgM (r : Nat) (h : r < 8) (w : World) : Calls Tryz.prog 38 #[.int .i64 (r : Int)] w fun e w' => e = .returned (.string (regB r)) ∧ Below w.heap.size w w':=by
 have hc:=ze1 (r : Int) ⟨by omega,by omega⟩ w
 rw [show digL (r : Int) = [UInt8.ofNat (48 + r)] by unfold digL; rw [if_neg (by omega),Int.natAbs_natCast,zc7 r (by omega)]] at hc
 rw [show regB r = ba [114] ++ ba [UInt8.ofNat (48 + r)] from (zs4 [114] [UInt8.ofNat (48 + r)]).symm]
 have z : (ba [UInt8.ofNat (48 + r)]).size = 1:=rfl
 generalize ba [UInt8.ofNat (48 + r)] = Y at hc z ⊢
 have z3 : ¬ 9223372036854775807 < 1 + Y.size:=by omega
 go_enter Tryz.func38,Tryz.ntmps38
 go_wp2_with (go_at_call 36; refine hc.mono ?_; rintro e w2 ⟨rfl,hb2⟩)
 go_ret
 exact ⟨rfl,hb2⟩
theorem zar {X : World} {b : Nat} {u0 u1 v0 v1 : Value} (h0 : X.cell? ⟨b,0,none⟩ = some u0) (h1 : X.cell? ⟨b,1,none⟩ = some u1) : ((X.setCell ⟨b,0,none⟩ v0).setCell ⟨b,1,none⟩ v1).cell? ⟨b,0,none⟩ = some v0 ∧ ((X.setCell ⟨b,0,none⟩ v0).setCell ⟨b,1,none⟩ v1).cell? ⟨b,1,none⟩ = some v1:=by
 refine ⟨?_,?_⟩
 ·rw [World.cell?_setCell_other]
  ·exact World.cell?_setCell_same X _ _ h0
  ·simp
 ·refine World.cell?_setCell_same (u:=u1) _ _ _ ?_
  rw [World.cell?_setCell_other]
  ·exact h1
  ·simp
theorem zaw {B : Nat} {w X : World} {b : Nat} {v0 v1 : Value} (h : Below B w X) (hb : B ≤ b) : Below B w ((X.setCell ⟨b,0,none⟩ v0).setCell ⟨b,1,none⟩ v1):=(h.setCell (p:=⟨b,0,none⟩) hb _).setCell (p:=⟨b,1,none⟩) hb _
theorem zev (w : World) (a b : Obj) (cs : Array Value) (t : TypeId) (j : Nat) : (((w.alloc a).alloc b).alloc (.cells cs t)).frozen? ⟨w.heap.size + 1 + 1,j,none⟩ = false:=World.frozen?_alloc_at _ _ _ _ (by simp)
theorem zj0 (x : Int) : IntKind.i64.wrap x = w64 x:=by
 unfold IntKind.wrap w64
 simp [IntKind.bits,IntKind.signed]
 split <;> omega
theorem zbH {W W' : World} {p0 p1 p2 p3 : Addr} {v0 v1 v2 v3 : Value} (hb : Below W.heap.size W W') (h : W.cell? p0 = some v0 ∧ W.cell? p1 = some v1 ∧ W.cell? p2 = some v2 ∧ W.cell? p3 = some v3) : W'.cell? p0 = some v0 ∧ W'.cell? p1 = some v1 ∧ W'.cell? p2 = some v2 ∧ W'.cell? p3 = some v3 :=
 ⟨zap hb h.1,zap hb h.2.1,zap hb h.2.2.1,zap hb h.2.2.2⟩
theorem znE (low : Int) (r o : Rg) (w : World) : Calls Tryz.prog 235 #[.int .i64 low,rv r,rv o] w fun e w' => e = .returned (rv (zeV low r o)) ∧ Below w.heap.size w w':=by
 have hwr:=fun W => zkK r W
 have hwo:=fun W => zkK o W
 have hr0 : 0 ≤ r.width:=by unfold Rg.width; omega
 have ho0 : 0 ≤ o.width:=by unfold Rg.width; omega
 have hadd:=zpf r.width o.width hr0 ho0
 have hB : Below w.heap.size w (((w.alloc (.cells #[.int .i64 r.lo,.int .i64 r.hi] 213)).alloc (.cells #[.int .i64 o.lo,.int .i64 o.hi] 213)).alloc (.cells #[.int .i64 0,.int .i64 0] 213)):=zaB
 have hs0 : (((w.alloc (.cells #[.int .i64 r.lo,.int .i64 r.hi] 213)).alloc (.cells #[.int .i64 o.lo,.int .i64 o.hi] 213)).alloc (.cells #[.int .i64 0,.int .i64 0] 213)).heap.size = w.heap.size + 1 + 1 + 1:=by simp
 have H1 : (((w.alloc (.cells #[.int .i64 r.lo,.int .i64 r.hi] 213)).alloc (.cells #[.int .i64 o.lo,.int .i64 o.hi] 213)).alloc (.cells #[.int .i64 0,.int .i64 0] 213)).cell? ⟨w.heap.size,0,none⟩ = some (.int .i64 r.lo) ∧ (((w.alloc (.cells #[.int .i64 r.lo,.int .i64 r.hi] 213)).alloc (.cells #[.int .i64 o.lo,.int .i64 o.hi] 213)).alloc (.cells #[.int .i64 0,.int .i64 0] 213)).cell? ⟨w.heap.size,1,none⟩ = some (.int .i64 r.hi) ∧ (((w.alloc (.cells #[.int .i64 r.lo,.int .i64 r.hi] 213)).alloc (.cells #[.int .i64 o.lo,.int .i64 o.hi] 213)).alloc (.cells #[.int .i64 0,.int .i64 0] 213)).cell? ⟨w.heap.size + 1,0,none⟩ = some (.int .i64 o.lo) ∧ (((w.alloc (.cells #[.int .i64 r.lo,.int .i64 r.hi] 213)).alloc (.cells #[.int .i64 o.lo,.int .i64 o.hi] 213)).alloc (.cells #[.int .i64 0,.int .i64 0] 213)).cell? ⟨w.heap.size + 1,1,none⟩ = some (.int .i64 o.hi) :=
  ⟨zaY _ _ _ _ _ 0,zaY _ _ _ _ _ 1,zcp _ _ _ _ _ 0,zcp _ _ _ _ _ 1⟩
 have k0 : (((w.alloc (.cells #[.int .i64 r.lo,.int .i64 r.hi] 213)).alloc (.cells #[.int .i64 o.lo,.int .i64 o.hi] 213)).alloc (.cells #[.int .i64 0,.int .i64 0] 213)).cell? ⟨w.heap.size + 1 + 1,0,none⟩ = some (.int .i64 0):=za5 _ _ _ _ _ 0
 have k1 : (((w.alloc (.cells #[.int .i64 r.lo,.int .i64 r.hi] 213)).alloc (.cells #[.int .i64 o.lo,.int .i64 o.hi] 213)).alloc (.cells #[.int .i64 0,.int .i64 0] 213)).cell? ⟨w.heap.size + 1 + 1,1,none⟩ = some (.int .i64 0):=za5 _ _ _ _ _ 1
 have kz : ∀ j,(((w.alloc (.cells #[.int .i64 r.lo,.int .i64 r.hi] 213)).alloc (.cells #[.int .i64 o.lo,.int .i64 o.hi] 213)).alloc (.cells #[.int .i64 0,.int .i64 0] 213)).frozen? ⟨w.heap.size + 1 + 1,j,none⟩ = false:=fun j => zev _ _ _ _ _ j
 go_enter Tryz.func235,Tryz.ntmps235
 go_wp2_with fail
 generalize ((w.alloc (.cells #[.int .i64 r.lo,.int .i64 r.hi] 213)).alloc (.cells #[.int .i64 o.lo,.int .i64 o.hi] 213)).alloc (.cells #[.int .i64 0,.int .i64 0] 213) = W0 at hB hs0 H1 k0 k1 kz
 go_region_held3 (fun W => W.cell? ⟨w.heap.size,0,none⟩ = some (.int .i64 r.lo) ∧ W.cell? ⟨w.heap.size,1,none⟩ = some (.int .i64 r.hi) ∧ W.cell? ⟨w.heap.size + 1,0,none⟩ = some (.int .i64 o.lo) ∧ W.cell? ⟨w.heap.size + 1,1,none⟩ = some (.int .i64 o.hi))
  (first | exact H3 | exact H2 | exact H1)
  (first | (go_at_call 237; (with_reducible refine (hwr _).mono ?_); rintro e w2 ⟨rfl,hb2⟩; have H2:=zbH hb2 H1) | (go_at_call 237; (with_reducible refine (hwo _).mono ?_); rintro e w3 ⟨rfl,hb3⟩; have H3:=zbH hb3 H2) | (simp only; simp only [Oper.upon]))
 have hb12 : Below W0.heap.size W0 w3:=((Below.refl _ _).drew).trans (hb2.trans (hb3.mono hb2.size))
 have hb13 : Below w.heap.size w w3:=hB.trans (hb12.mono hB.size)
 have c0:=zap hb12 k0
 have c1:=zap hb12 k1
 have fz : ∀ j,w3.frozen? ⟨w.heap.size + 1 + 1,j,none⟩ = false:=fun j => (World.frozen?_of_block (w:=W0) (a:=⟨w.heap.size + 1 + 1,j,none⟩) (hb12.block _ (show w.heap.size + 1 + 1 < W0.heap.size by omega))).trans (kz j)
 have f0:=fz 0
 have f1:=fz 1
 have hsz : w.heap.size + 1 + 1 < w3.heap.size:=by have:=hb12.size; rw [hs0] at this; omega
 clear fz kz H1 H2 H3 hb2 hb3 hwr hwo hadd hb12
 by_cases hT : 18446744073709551616 ≤ r.width + o.width
 ·have e0 : zeV low r o = anyR:=by unfold zeV; rw [if_pos (.inl hT)]
  have hr1 : r.width < 18446744073709551616:=by unfold Rg.width; omega
  have ho1 : o.width < 18446744073709551616:=by unfold Rg.width; omega
  have hq : (r.width + o.width) / 18446744073709551616 = 1:=by omega
  rw [hq]
  generalize (r.width + o.width) % 18446744073709551616 = S
  have hany:=zhB w3
  go_wp2_with (go_at_call 238; (with_reducible refine hany.mono ?_); rintro e w4 ⟨rfl,hb4⟩; have d0:=zap hb4 c0; have d1:=zap hb4 c1; have g0 : w4.frozen? ⟨w.heap.size + 1 + 1,0,none⟩ = false:=(World.frozen?_of_block (w:=w3) (a:=⟨w.heap.size + 1 + 1,0,none⟩) (hb4.block _ hsz)).trans f0; have g1 : w4.frozen? ⟨w.heap.size + 1 + 1,1,none⟩ = false:=(World.frozen?_of_block (w:=w3) (a:=⟨w.heap.size + 1 + 1,1,none⟩) (hb4.block _ hsz)).trans f1)
  exact zb2 (r:=anyR) Tryz.results235 rfl rfl (zar d0 d1).1 (zar d0 d1).2 ⟨by rw [e0],zaw (hb13.trans (hb4.mono hb13.size)) (by omega)⟩
 ·have hq : (r.width + o.width) / 18446744073709551616 = 0:=by omega
  have hm : (r.width + o.width) % 18446744073709551616 = r.width + o.width:=by omega
  rw [hq,hm]
  generalize hS : r.width + o.width = S at hT hq hm
  have hS0 : 0 ≤ S:=by omega
  have hcv : IntKind.i64.wrap S = w64 S:=zj0 S
  have hhi : wrap64 (low + w64 S) = w64 (low + S):=by
   rw [zcs]
   have:=zh4 S
   exact zkG (by omega)
  by_cases hlt : wrap64 (low + w64 S) < low
  ·have e0 : zeV low r o = anyR:=by unfold zeV; rw [if_pos (.inr (by rw [hS,← hhi]; exact hlt))]
   have hany:=zhB w3
   go_wp2_with (go_at_call 238; (with_reducible refine hany.mono ?_); rintro e w4 ⟨rfl,hb4⟩; have d0:=zap hb4 c0; have d1:=zap hb4 c1; have g0 : w4.frozen? ⟨w.heap.size + 1 + 1,0,none⟩ = false:=(World.frozen?_of_block (w:=w3) (a:=⟨w.heap.size + 1 + 1,0,none⟩) (hb4.block _ hsz)).trans f0; have g1 : w4.frozen? ⟨w.heap.size + 1 + 1,1,none⟩ = false:=(World.frozen?_of_block (w:=w3) (a:=⟨w.heap.size + 1 + 1,1,none⟩) (hb4.block _ hsz)).trans f1)
   exact zb2 (r:=anyR) Tryz.results235 rfl rfl (zar d0 d1).1 (zar d0 d1).2 ⟨by first | rfl | rw [e0],zaw (hb13.trans (hb4.mono hb13.size)) (by omega)⟩
  ·have e0 : zeV low r o = ⟨low,wrap64 (low + w64 S)⟩:=by
    unfold zeV
    rw [hS,if_neg (by rw [← hhi]; omega),← hhi]
   have hbd:=zbU low (wrap64 (low + w64 S))
   have hlt2 : low ≤ wrap64 (low + w64 S):=by omega
   have hlt3 : decide (wrap64 (low + w64 S) < low) = false:=by simpa using hlt
   clear hhi
   go_wp2
   exact zb2 (r:=⟨low,wrap64 (low + w64 S)⟩) Tryz.results235 rfl rfl (zar c0 c1).1 (zar c0 c1).2 ⟨by first | rfl | rw [e0],zaw hb13 (by omega)⟩
theorem zfX (w : World) (a b : Obj) (w4 : World) (hb : Below (((w.alloc a).alloc b).alloc (.cells #[.int .i64 0,.int .i64 0] 213)).heap.size (((w.alloc a).alloc b).alloc (.cells #[.int .i64 0,.int .i64 0] 213)) w4) :
  w4.cell? ⟨w.heap.size + 1 + 1,0,none⟩ = some (.int .i64 0) ∧ w4.cell? ⟨w.heap.size + 1 + 1,1,none⟩ = some (.int .i64 0) ∧ w4.frozen? ⟨w.heap.size + 1 + 1,0,none⟩ = false ∧ w4.frozen? ⟨w.heap.size + 1 + 1,1,none⟩ = false ∧ Below w.heap.size w w4:=by
 have hs : (((w.alloc a).alloc b).alloc (.cells #[.int .i64 0,.int .i64 0] 213)).heap.size = w.heap.size + 1 + 1 + 1:=by simp
 have h3 : Below w.heap.size w (((w.alloc a).alloc b).alloc (.cells #[.int .i64 0,.int .i64 0] 213)):=zaB
 have fz : ∀ j,w4.frozen? ⟨w.heap.size + 1 + 1,j,none⟩ = false:=fun j => (World.frozen?_of_block (w:=((w.alloc a).alloc b).alloc (.cells #[.int .i64 0,.int .i64 0] 213)) (a:=⟨w.heap.size + 1 + 1,j,none⟩) (hb.block _ (show w.heap.size + 1 + 1 < _ by omega))).trans (zev _ _ _ _ _ j)
 exact ⟨zap hb (za5 _ _ _ _ _ 0),zap hb (za5 _ _ _ _ _ 1),fz 0,fz 1,h3.trans (hb.mono h3.size)⟩
theorem znF (r o : Rg) (w : World) : Calls Tryz.prog 234 #[rv r,rv o] w fun e w' => e = .returned (rv (r.plus o)) ∧ Below w.heap.size w w':=by
 have hcall:=fun W => znE (wrap64 (r.lo + o.lo)) r o W
 have e0 : zeV (wrap64 (r.lo + o.lo)) r o = r.plus o:=by rw [zcs]; rfl
 rw [e0] at hcall
 have T:=zfX w (.cells #[.int .i64 r.lo,.int .i64 r.hi] 213) (.cells #[.int .i64 o.lo,.int .i64 o.hi] 213)
 go_enter Tryz.func234,Tryz.ntmps234
 go_wp2_with (go_at_call 235; (with_reducible refine (hcall _).mono ?_); rintro e w4 ⟨rfl,hb4⟩; obtain ⟨d0,d1,g0,g1,hbw⟩:=T w4 hb4)
 exact zb2 (r:=r.plus o) Tryz.results234 rfl rfl (zar d0 d1).1 (zar d0 d1).2 ⟨rfl,zaw hbw (by omega)⟩
theorem zr8 (r o : Rg) (w : World) : Calls Tryz.prog 242 #[rv r,rv o] w fun e w' => e = .returned (rv (r.minus o)) ∧ Below w.heap.size w w':=by
 have hcall:=fun W => znE (wrap64 (r.lo - o.hi)) r o W
 have e0 : zeV (wrap64 (r.lo - o.hi)) r o = r.minus o:=by rw [zcs]; rfl
 rw [e0] at hcall
 have T:=zfX w (.cells #[.int .i64 r.lo,.int .i64 r.hi] 213) (.cells #[.int .i64 o.lo,.int .i64 o.hi] 213)
 go_enter Tryz.func242,Tryz.ntmps242
 go_wp2_with (go_at_call 235; (with_reducible refine (hcall _).mono ?_); rintro e w4 ⟨rfl,hb4⟩; obtain ⟨d0,d1,g0,g1,hbw⟩:=T w4 hb4)
 exact zb2 (r:=r.minus o) Tryz.results242 rfl rfl (zar d0 d1).1 (zar d0 d1).2 ⟨rfl,zaw hbw (by omega)⟩
theorem zc4 (r o : Rg) (w : World) (hr : r.Ok) (hn : ¬ (r.lo = o.lo ∧ r.hi = o.hi ∧ r.lo = r.hi)) : Calls Tryz.prog 278 #[rv r,rv o] w fun e w' => e = .returned (rv (r.without o)) ∧ Below w.heap.size w w':=by
 unfold Rg.Ok i64 at hr
 by_cases h1 : o.lo = o.hi
 ·by_cases h2 : o.lo = r.lo
  ·have e0 : r.without o = ⟨r.lo + 1,r.hi⟩:=by unfold Rg.without; rw [if_pos h1,if_pos h2]
   have hb:=zbU (r.lo + 1) r.hi
   have t1 : (o.lo != o.hi) = false:=by simpa using h1
   have t2 : (o.lo == r.lo) = true:=by simpa using h2
   have b1 : r.lo + 1 ≤ 9223372036854775807:=by omega
   have b0 : -9223372036854775808 ≤ r.lo + 1:=by omega
   go_enter Tryz.func278,Tryz.ntmps278
   go_wp2
   exact zb2 (r:=⟨r.lo + 1,r.hi⟩) Tryz.results278 rfl rfl (za5 _ _ _ _ _ 0) (za5 _ _ _ _ _ 1) ⟨by rw [e0],zaB⟩
  ·have t1 : (o.lo != o.hi) = false:=by simpa using h1
   have t2 : (o.lo == r.lo) = false:=by simpa using h2
   by_cases h3 : o.lo = r.hi
   ·have e0 : r.without o = ⟨r.lo,r.hi - 1⟩:=by unfold Rg.without; rw [if_pos h1,if_neg h2,if_pos h3]
    have hb:=zbU r.lo (r.hi - 1)
    have t3 : (o.lo == r.hi) = true:=by simpa using h3
    have b1 : r.hi - 1 ≤ 9223372036854775807:=by omega
    have b0 : -9223372036854775808 ≤ r.hi - 1:=by omega
    go_enter Tryz.func278,Tryz.ntmps278
    go_wp2
    exact zb2 (r:=⟨r.lo,r.hi - 1⟩) Tryz.results278 rfl rfl (za5 _ _ _ _ _ 0) (za5 _ _ _ _ _ 1) ⟨by rw [e0],zaB⟩
   ·have e0 : r.without o = r:=by unfold Rg.without; rw [if_pos h1,if_neg h2,if_neg h3]
    have t3 : (o.lo == r.hi) = false:=by simpa using h3
    go_enter Tryz.func278,Tryz.ntmps278
    go_wp2
    exact zb2 (r:=r) Tryz.results278 rfl rfl (za5 _ _ _ _ _ 0) (za5 _ _ _ _ _ 1) ⟨by rw [e0],zaB⟩
 ·have e0 : r.without o = r:=by unfold Rg.without; rw [if_neg h1]
  have t1 : (o.lo != o.hi) = true:=by simpa using h1
  go_enter Tryz.func278,Tryz.ntmps278
  go_wp2
  exact zb2 (r:=r) Tryz.results278 rfl rfl (za5 _ _ _ _ _ 0) (za5 _ _ _ _ _ 1) ⟨by rw [e0],zaB⟩
end Go.Proofs.YtfpgjkbjbbgciaaGreatDoor
namespace Go.Proofs.YtfpgjkbjbbgciaaGreatDoor
open Sp
theorem It.key_inj {a b : It} (h : a.key = b.key) : a = b:=by
 cases a; cases b
 simp only [It.key,Key.mk.injEq] at h
 obtain ⟨h1,h2,h3,h4,h5,h6,h7,h8⟩:=h
 subst h1; subst h2; subst h3; subst h4; subst h5; subst h6; subst h7; subst h8; rfl
theorem zv8 {a b : List It} (h : a.map It.key = b.map It.key) : a = b:=by
 induction a generalizing b with
 | nil => cases b with
  | nil => rfl
  | cons y t => simp at h
 | cons x r ih => cases b with
  | nil => simp at h
  | cons y t =>
   rw [List.map_cons,List.map_cons,List.cons.injEq] at h
   rw [It.key_inj h.1,ih h.2]
def FnM.bare (f : FnM) : FnM:=⟨f.name,f.line,f.its,undef,0⟩
theorem ztT {F G : List FnM} (h : F.map FnM.fn = G.map FnM.fn) : F.map FnM.bare = G.map FnM.bare:=by
 induction F generalizing G with
 | nil => cases G with
  | nil => rfl
  | cons y t => simp at h
 | cons f r ih => cases G with
  | nil => simp at h
  | cons g t =>
   rw [List.map_cons,List.map_cons,List.cons.injEq] at h
   rw [List.map_cons,List.map_cons,ih h.2]
   have h1:=h.1
   simp only [FnM.fn,Fn.mk.injEq] at h1
   obtain ⟨a,b,c⟩:=h1
   have : f.bare = g.bare:=by unfold FnM.bare; rw [a,b,zv8 c]
   rw [this]
theorem zkI (F : List FnM) : lenF (F.map FnM.bare) = lenF F:=by
 unfold lenF
 rw [List.map_map]
 rfl
theorem zmk (n : Nat) (F : List FnM) : zaL n (F.map FnM.bare) = zaL n F:=by
 induction F generalizing n with
 | nil => rfl
 | cons f r ih => rw [List.map_cons,zaL,zaL,ih]; rfl
theorem zr4 (F : List FnM) (k : Nat) (x : ByteArray) : labM (F.map FnM.bare) k x = labM F k x:=by
 unfold labM
 rw [← List.map_take,zkI,List.getElem?_map]
 cases F[k]? <;> rfl
theorem ztU (F : List FnM) (x : ByteArray) : fnM (F.map FnM.bare) x = fnM F x:=by
 unfold fnM
 rw [show zbh (F.map FnM.bare) = zbh F from zmk 0 F,← List.map_take,zkI]
theorem zjy (F : List FnM) (k : Nat) (R : List FnM) : zct (F.map FnM.bare) k (R.map FnM.bare) = zct F k R:=by
 induction R generalizing k with
 | nil => rfl
 | cons f r ih =>
  rw [List.map_cons,zct,zct,ih]
  congr 1
  unfold zeu insM
  simp only [zr4,ztU]
  rfl
theorem zhA (F : List FnM) : zao (F.map FnM.bare) = zao F:=zjy F 0 F
theorem zml {L : List Said} {F G : List FnM} (h : Right L F) (h' : Right L G) : zao F = zao G:=by
 rw [← zhA F,← zhA G,ztT (h.fns.trans h'.fns.symm)]
theorem zkJ (s : ByteArray) (i : Nat) (n u : Int) (h0 : least ≤ n) (h1 : n ≤ 0) (h : ze3 s i n = some u) : least ≤ u ∧ u ≤ 0:=by
 by_cases hi : i < s.size
 ·by_cases hb : zdp n (bt s i - 48) = true
  ·rw [zjI s i n hi hb] at h; cases h
  ·rw [ziq s i n hi hb] at h
   obtain ⟨a,b,_,_⟩:=zsF n _ hb h0 h1
   exact zkJ s (i + 1) _ u a b h
 ·rw [zjH s i n hi] at h; cases h; exact ⟨h0,h1⟩
termination_by s.size - i
theorem zr5 (s : ByteArray) : i64 (zbv s).1:=by
 have key : ∀ m i,i64 (zcJ m (ze3 s i 0)).1:=fun m i => by
  cases h : ze3 s i 0 with
  | none => show i64 0; unfold i64; omega
  | some u =>
   obtain ⟨a,b⟩:=zkJ s i 0 u (by unfold least; omega) (Int.le_refl _) h
   unfold least at a
   show i64 (if m = true then (u,true) else (if u = least then least else -u,decide (least < u))).1
   cases m with
   | true => show i64 u; unfold i64; omega
   | false =>
    show i64 (if u = least then least else -u)
    unfold i64 least
    split <;> omega
 unfold zbv
 split
 ·split
  ·show i64 0; unfold i64; omega
  ·exact key _ _
 ·split
  ·show i64 0; unfold i64; omega
  ·exact key _ _
theorem zpe (s : ByteArray) : i64 (zcz s):=by
 unfold zcz
 split
 ·exact zr5 s
 ·unfold i64; omega
theorem zv9 (sh : List UInt8) (r : List ByteArray) (k : Nat) : i64 (opK sh r k).n:=by
 induction k with
 | zero => show i64 0; unfold i64; omega
 | succ k ih =>
  show i64 ((opK sh r k).take k _ _).n
  unfold Opd.take
  repeat' split
  all_goals first | exact ih | exact zpe _
theorem zvA (q : Said) : i64 (opQ q).n:=by
 unfold opQ
 split
 ·exact zv9 _ _ _
 ·show i64 0; unfold i64; omega
theorem zvB (w : ByteArray) (a b c n l f : Int) (h : i64 n) : zjx (insX w a b c n l f):=by
 have key : ∀ (b : Bool) (x y : Ins),zjx x → zjx y → zjx (if b = true then x else y):=fun b x y hx hy => by
  cases b
  ·exact hy
  ·exact hx
 unfold insX
 repeat' (refine key _ _ _ ?_ ?_)
 all_goals first | exact h | trivial
theorem Right.sure {L : List Said} {F : List FnM} (R : Right L F) : CodeSure (zao F):=by
 refine ⟨R.codeOk,fun j hj => ?_⟩
 rw [zdw] at hj
 obtain ⟨k,f,m,it,hk,hm,rfl⟩:=zjs F j hj
 have h1:=zft F 0 F k f hk m it hm
 rw [Nat.zero_add] at h1
 have h2 : (zao F)[lenF (F.take k) + m]? = some (insM F k it,it.line):=h1
 rw [(List.getElem?_eq_some_iff.1 h2).2]
 obtain ⟨j2,hj2,_,hkey,_⟩:=R.it_at hk hm
 have hn : it.n = (opQ L[j2]).n:=congrArg Key.n hkey
 show zjx (insX it.word it.a it.b it.c it.n _ _)
 exact zvB _ _ _ _ _ _ _ (by rw [hn]; exact zvA _)
end Go.Proofs.YtfpgjkbjbbgciaaGreatDoor
