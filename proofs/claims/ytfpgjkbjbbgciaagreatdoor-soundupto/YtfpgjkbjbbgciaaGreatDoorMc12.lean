import Derived.Test.YtfpgjkbjbbgciaaGreatDoorMc11
set_option maxRecDepth 100000
set_option maxHeartbeats 8000000
namespace Go.Proofs.YtfpgjkbjbbgciaaGreatDoor
open Go.RowKit Sp
theorem zwl (a b : UInt8) (h : ((a.toNat : Int) == (b.toNat : Int)) = true) : a = b:=by
 rw [beq_iff_eq] at h; exact UInt8.toNat_inj.1 (by omega)
theorem zwm (a b : UInt8) (h : ((a.toNat : Int) == (b.toNat : Int)) = false) : ¬ a = b:=by
 intro e; subst e; simp at h
theorem zuB (a : UInt8) (y : ByteArray) (h : ((a.toNat : Int) == 82) = true) : opOk a y = decide (0 ≤ reg y):=by
 have:=zwl a 82 h; subst this; rfl
theorem zuC (a : UInt8) (y : ByteArray) (h : ((a.toNat : Int) == 75) = true) : opOk a y = (za6 y).2:=by
 have:=zwl a 75 h; subst this; rfl
theorem zuD (a : UInt8) (y : ByteArray) (h : ((a.toNat : Int) == 82) = false) (h' : ((a.toNat : Int) == 75) = false) : opOk a y = zaz y:=by
 unfold opOk; rw [if_neg (zwm a 82 h),if_neg (zwm a 75 h')]
theorem zsX (s : ByteArray) (w : World) (hs : s.size ≤ 1048576) (hv : zak s 0 = true) (x : ByteArray) (hl : Hid (words s = [x])) (hx : x.size ≤ 1048576) (hx1 : 1 ≤ x.size) (hnf : (x.toList == [102,117,110,99]) = false) (hlast : ((x[x.size - 1].toNat : Int) == 58) = false) (HS : Hid (zaa x = [])) :
  Calls Tryz.prog 46 #[.string s] w (zbX w.heap.size w ⟨105,[x],true⟩):=by
 go_enter Tryz.func46,Tryz.ntmps46
 go_wp2_with (first
  | (go_at_call 71; refine (zbO s _ (by omega)).mono ?_; rintro e w' ⟨rfl,rfl⟩)
  | (go_at_call 74; refine (ze7 x _ [] HS).mono ?_; rintro e w' ⟨rfl,rfl⟩)
  | (go_at_call 72; refine (zcW s w (by omega) _ hl (by simp)).mono ?_; rintro e w1 ⟨g,cap,rfl,hcap,hmx,hcl,hown,K⟩; obtain ⟨hg3,hg2,hb,c0,c1,d0,d1,e0,e1,f0,f1⟩:=K; have hne : ¬ w.heap.size + 1 = g:=(by omega); have hne0 : ¬ w.heap.size = g:=(by omega); have hc0:=hcl 0 (by simp); simp only [List.getElem_cons_zero] at hc0))
 refine wp_loop_rounds 1 ?_
 rw [rounds_succ]
 go_wp2
 go_light
 obtain ⟨p0,p1⟩:=zbJ (W:=zeg w w1 105 (.slice (some ⟨g,0,none⟩) 1 cap)) (b:=w.heap.size) (za0 c0) (za0 c1)
 exact bodyPost_ret (v:=.tuple #[.agg #[.int .u8 105,.slice (some ⟨g,0,none⟩) 1 cap],.bool true]) (by simp [results,Tryz.results46,go_sem,p0,p1]) rfl (zbR (by simpa using hown) hb)
theorem zsY (s : ByteArray) (w : World) (hs : s.size ≤ 1048576) (hv : zak s 0 = true) (x : ByteArray) (r : List ByteArray) (hl : Hid (words s = x :: r)) (_hx : x.size ≤ 1048576) (_hx1 : 1 ≤ x.size) (hnf : (x.toList == [102,117,110,99]) = false) (hr1 : 1 ≤ r.length) (hr2 : ((r.length : Int) + 1 == 1) = false) (hrs : ∀ j (hj : j < r.length),r[j].size ≤ 1048576)
  (sh : List UInt8) (HS : Hid (zaa x = sh)) (hsh : sh.length ≤ 3) (h63 : (sh == [63]) = false) (hrl : r.length ≤ 1048576) (hle : sh.length ≤ r.length) (hge : r.length ≤ sh.length) :
  Calls Tryz.prog 46 #[.string s] w (zbX w.heap.size w ⟨105,x :: r,zaK sh r⟩):=by
 have hne1 : ((r.length : Int) + 1 != (sh.length : Int) + 1) = false:=by simp; omega
 generalize hO : zaK sh r = O
 have HO : Hid (O = zaK (sh.drop 0) (r.drop 0)):=by rw [← hO]; rfl
 clear hO
 go_enter Tryz.func46,Tryz.ntmps46
 go_wp2_with (first
  | (go_at_call 71; refine (zbO s _ (by omega)).mono ?_; rintro e w' ⟨rfl,rfl⟩)
  | (go_at_call 74; refine (ze7 x _ sh HS).mono ?_; rintro e w' ⟨rfl,rfl⟩)
  | (go_at_call 72; refine (zcW s w (by omega) _ hl (by simp)).mono ?_; rintro e w1 ⟨g,cap,rfl,hcap,hmx,hcl,hown,K⟩; obtain ⟨hg3,hg2,hb,c0,c1,d0,d1,e0,e1,f0,f1⟩:=K; have hne : ¬ w.heap.size + 1 = g:=(by omega); have hne0 : ¬ w.heap.size = g:=(by omega); have hc0:=hcl 0 (by simp); simp only [List.getElem_cons_zero] at hc0))
 go_loop [11] (fun ti => ∃ k : Nat,k ≤ sh.length ∧ ti = .int .i64 (k : Int) ∧ O = zaK (sh.drop k) (r.drop k)) (fun ti => sh.length - (intOf ti).toNat)
 case atStart => exact ⟨0,by omega,rfl,HO.out⟩
 case round =>
  obtain ⟨k,hk,rfl,hR⟩:=hrel
  clear HO
  have HO : Hid (O = zaK (sh.drop k) (r.drop k)):=hR
  clear hR
  by_cases hlt : k < sh.length
  ·have hkr : k < r.length:=by omega
   have hck:=hcl (k + 1) (by simp; omega)
   simp only [List.getElem_cons_succ] at hck
   have hsz:=hrs k hkr
   have HT : Hid (O = (opOk sh[k] r[k] && zaK (sh.drop (k + 1)) (r.drop (k + 1)))):=by rw [HO.out,zip sh r k hlt hkr]; rfl
   have hW : k < (⟨sh.toArray⟩ : ByteArray).size:=hlt
   cases h82 : ((((⟨sh.toArray⟩ : ByteArray)[k]'hW).toNat : Int) == 82) with
   | true =>
    by_cases hq : 0 ≤ reg r[k]
    ·have HQ : Hid (opOk sh[k] r[k] = true):=(zuB sh[k] r[k] h82).trans (by simpa using hq)
     go_wp2_with (go_at_call 75; refine (zlD r[k] _ (by unfold maxLen; omega)).mono ?_; rintro e w' ⟨rfl,rfl⟩)
     go_round
     case rel => exact ⟨k + 1,by omega,by go_num,by rw [HT.out,HQ.out]; simp⟩
     case measure => simp [intOf]; omega
    ·have HQ : Hid (opOk sh[k] r[k] = false):=(zuB sh[k] r[k] h82).trans (by simpa using hq)
     have hq2 : reg r[k] < 0:=by omega
     have hq3 : decide (0 ≤ reg r[k]) = false:=by simpa using hq
     go_wp2_with (go_at_call 75; refine (zlD r[k] _ (by unfold maxLen; omega)).mono ?_; rintro e w' ⟨rfl,rfl⟩)
     go_light
     obtain ⟨p0,p1⟩:=zbJ (W:=zeg w w1 105 (.slice (some ⟨g,0,none⟩) (r.length + 1) cap)) (b:=w.heap.size) (za0 c0) (za0 c1)
     have hOf : O = false:=by rw [HT.out,HQ.out]; simp
     rw [hOf]
     exact bodyPost_ret (v:=.tuple #[.agg #[.int .u8 105,.slice (some ⟨g,0,none⟩) (r.length + 1) cap],.bool false]) (by simp [results,Tryz.results46,go_sem,p0,p1]) rfl (zbR (by simpa using hown) hb)
   | false =>
    cases h75 : ((((⟨sh.toArray⟩ : ByteArray)[k]'hW).toNat : Int) == 75) with
    | true =>
     cases hq : (za6 r[k]).2 with
     | true =>
      have HQ : Hid (opOk sh[k] r[k] = true):=(zuC sh[k] r[k] h75).trans hq
      go_wp2_with (go_at_call 76; refine (zlI r[k] _ (by omega)).mono ?_; rintro e w' ⟨rfl,rfl⟩)
      go_round
      case rel => exact ⟨k + 1,by omega,by go_num,by rw [HT.out,HQ.out]; simp⟩
      case measure => simp [intOf]; omega
     | false =>
      have HQ : Hid (opOk sh[k] r[k] = false):=(zuC sh[k] r[k] h75).trans hq
      go_wp2_with (go_at_call 76; refine (zlI r[k] _ (by omega)).mono ?_; rintro e w' ⟨rfl,rfl⟩)
      go_light
      obtain ⟨p0,p1⟩:=zbJ (W:=zeg w w1 105 (.slice (some ⟨g,0,none⟩) (r.length + 1) cap)) (b:=w.heap.size) (za0 c0) (za0 c1)
      have hOf : O = false:=by rw [HT.out,HQ.out]; simp
      rw [hOf]
      exact bodyPost_ret (v:=.tuple #[.agg #[.int .u8 105,.slice (some ⟨g,0,none⟩) (r.length + 1) cap],.bool false]) (by simp [results,Tryz.results46,go_sem,p0,p1]) rfl (zbR (by simpa using hown) hb)
    | false =>
     cases hq : zaz r[k] with
     | true =>
      have HQ : Hid (opOk sh[k] r[k] = true):=(zuD sh[k] r[k] h82 h75).trans hq
      go_wp2_with (go_at_call 73; refine (zg8 r[k] _ (by omega)).mono ?_; rintro e w' ⟨rfl,rfl⟩)
      go_round
      case rel => exact ⟨k + 1,by omega,by go_num,by rw [HT.out,HQ.out]; simp⟩
      case measure => simp [intOf]; omega
     | false =>
      have HQ : Hid (opOk sh[k] r[k] = false):=(zuD sh[k] r[k] h82 h75).trans hq
      go_wp2_with (go_at_call 73; refine (zg8 r[k] _ (by omega)).mono ?_; rintro e w' ⟨rfl,rfl⟩)
      go_light
      obtain ⟨p0,p1⟩:=zbJ (W:=zeg w w1 105 (.slice (some ⟨g,0,none⟩) (r.length + 1) cap)) (b:=w.heap.size) (za0 c0) (za0 c1)
      have hOf : O = false:=by rw [HT.out,HQ.out]; simp
      rw [hOf]
      exact bodyPost_ret (v:=.tuple #[.agg #[.int .u8 105,.slice (some ⟨g,0,none⟩) (r.length + 1) cap],.bool false]) (by simp [results,Tryz.results46,go_sem,p0,p1]) rfl (zbR (by simpa using hown) hb)
  ·have HT : Hid (O = true):=by rw [HO.out,List.drop_of_length_le (by omega)]; rfl
   go_wp2
   go_light
   obtain ⟨p0,p1⟩:=zbJ (W:=zeg w w1 105 (.slice (some ⟨g,0,none⟩) (r.length + 1) cap)) (b:=w.heap.size) (za0 c0) (za0 c1)
   rw [HT.out]
   exact bodyPost_ret (v:=.tuple #[.agg #[.int .u8 105,.slice (some ⟨g,0,none⟩) (r.length + 1) cap],.bool true]) (by simp [results,Tryz.results46,go_sem,p0,p1]) rfl (zbR (by simpa using hown) hb)
end Go.Proofs.YtfpgjkbjbbgciaaGreatDoor
namespace Go.Proofs.YtfpgjkbjbbgciaaGreatDoor.Sp
def i64 (x : Int) : Prop:=-9223372036854775808 ≤ x ∧ x ≤ 9223372036854775807
theorem zdD (x : Int) : i64 (w64 x):=by unfold i64 w64; omega
theorem zf7 {x : Int} (h : i64 x) : w64 x = x:=by unfold i64 at h; unfold w64; omega
theorem zh0 (x : Int) : (w64 x) % 18446744073709551616 = x % 18446744073709551616:=by unfold w64; omega
theorem zla {x y : Int} (h : x % 18446744073709551616 = y % 18446744073709551616) : w64 x = w64 y:=by unfold w64; omega
structure Rg where
 lo : Int
 hi : Int
def Rg.In (r : Rg) (x : Int) : Prop:=r.lo ≤ x ∧ x ≤ r.hi
def Rg.Ok (r : Rg) : Prop:=i64 r.lo ∧ i64 r.hi ∧ r.lo ≤ r.hi
def only (n : Int) : Rg:=⟨n,n⟩
def anyR : Rg:=⟨-9223372036854775808,9223372036854775807⟩
theorem zgd (n : Int) : (only n).In n:=⟨Int.le_refl _,Int.le_refl _⟩
theorem zh1 {n : Int} (h : i64 n) : (only n).Ok:=⟨h,h,Int.le_refl _⟩
theorem zrB {x : Int} (h : i64 x) : anyR.In x:=h
theorem zrC : anyR.Ok:=by unfold Rg.Ok anyR i64; dsimp only; omega
def Rg.within (r o : Rg) : Bool:=decide (o.lo ≤ r.lo) && decide (r.hi ≤ o.hi)
def Rg.or (r o : Rg) : Rg:=⟨min r.lo o.lo,max r.hi o.hi⟩
theorem zjB {r : Rg} {x : Int} (h : r.In x) (o : Rg) : (r.or o).In x:=by unfold Rg.In Rg.or at *; dsimp only; omega
theorem zgF {o : Rg} {x : Int} (h : o.In x) (r : Rg) : (r.or o).In x:=by unfold Rg.In Rg.or at *; dsimp only; omega
theorem ztW {r o : Rg} (h : r.Ok) (h' : o.Ok) : (r.or o).Ok:=by unfold Rg.Ok Rg.or i64 at *; dsimp only; omega
def Rg.width (r : Rg) : Int:=(r.hi - r.lo) % 18446744073709551616
theorem znE {r : Rg} (h : r.Ok) : r.width = r.hi - r.lo:=by unfold Rg.Ok i64 at h; unfold Rg.width; omega
def zfd (low : Int) (one other : Rg) : Rg :=
 if 18446744073709551616 ≤ one.width + other.width ∨ w64 (low + (one.width + other.width)) < low then anyR else ⟨low,w64 (low + (one.width + other.width))⟩
theorem zrD {low d : Int} {one other : Rg} (h1 : one.Ok) (h2 : other.Ok) (hl : i64 low) (h0 : 0 ≤ d) (hd : d ≤ (one.hi - one.lo) + (other.hi - other.lo)) {x : Int} (hx : x % 18446744073709551616 = (low + d) % 18446744073709551616) : (zfd low one other).In (w64 x):=by
 unfold zfd
 rw [znE h1,znE h2]
 split
 ·exact zrB (zdD x)
 ·rename_i h
  have hh:=zdD (low + (one.hi - one.lo + (other.hi - other.lo)))
  have hm:=zh0 (low + (one.hi - one.lo + (other.hi - other.lo)))
  unfold i64 at hl hh
  unfold Rg.In
  dsimp only
  generalize w64 (low + (one.hi - one.lo + (other.hi - other.lo))) = hi at h hh hm ⊢
  generalize one.hi - one.lo + (other.hi - other.lo) = W at *
  have e : hi = low + W:=by omega
  have e2 : w64 x = low + d:=by rw [zla hx]; exact zf7 (by unfold i64; omega)
  omega
theorem zrE {low : Int} {one other : Rg} (hl : i64 low) : (zfd low one other).Ok:=by
 unfold zfd
 split
 ·exact zrC
 ·rename_i h
  exact ⟨hl,zdD _,by dsimp only; omega⟩
def Rg.plus (r o : Rg) : Rg:=zfd (w64 (r.lo + o.lo)) r o
def Rg.minus (r o : Rg) : Rg:=zfd (w64 (r.lo - o.hi)) r o
theorem zrF {r o : Rg} {x y : Int} (hr : r.Ok) (ho : o.Ok) (hx : r.In x) (hy : o.In y) : (r.plus o).In (w64 (x + y)):=by
 unfold Rg.In at hx hy
 refine zrD (d:=(x - r.lo) + (y - o.lo)) hr ho (zdD _) (by omega) (by omega) ?_
 have:=zh0 (r.lo + o.lo)
 omega
theorem ztX {r o : Rg} {x y : Int} (hr : r.Ok) (ho : o.Ok) (hx : r.In x) (hy : o.In y) : (r.minus o).In (w64 (x - y)):=by
 unfold Rg.In at hx hy
 refine zrD (d:=(x - r.lo) + (o.hi - y)) hr ho (zdD _) (by omega) (by omega) ?_
 have:=zh0 (r.lo - o.hi)
 omega
theorem zrG (r o : Rg) : (r.plus o).Ok:=zrE (zdD _)
theorem ztY (r o : Rg) : (r.minus o).Ok:=zrE (zdD _)
def zbx (a b : Int) : Bool:=if a = -1 then decide (b = -9223372036854775808) else decide (¬ a = 0) && decide (¬ (w64 (a * b)).tdiv a = b)
theorem zcm {a b : Int} (ha : i64 a) (hb : i64 b) (h : zbx a b = false) : i64 (a * b):=by
 unfold zbx at h
 split at h
 ·rename_i e
  subst e
  simp at h
  unfold i64 at *
  omega
 ·rename_i e
  simp only [Bool.and_eq_false_iff,decide_eq_false_iff_not,Decidable.not_not] at h
  rcases h with h | h
  ·subst h; simp [i64]
  ·have hm:=zh0 (a * b)
   have hw:=zdD (a * b)
   have hd:=Int.mul_tdiv_add_tmod (w64 (a * b)) a
   rw [h] at hd
   by_cases h0 : a = 0
   ·subst h0; simp [i64]
   ·have hlt : (Int.tmod (w64 (a * b)) a).natAbs < a.natAbs:=by
     rw [Int.natAbs_tmod]; exact Nat.mod_lt _ (by omega)
    generalize Int.tmod (w64 (a * b)) a = t at hd hlt
    generalize a * b = p at *
    have : t = 0:=by unfold i64 at *; omega
    have e2 : w64 p = p:=by omega
    rw [← e2]; exact hw
def Rg.times (r o : Rg) : Rg :=
 if r.lo = r.hi ∧ o.lo = o.hi then only (w64 (r.lo * o.lo))
 else if zbx r.lo o.lo = true ∨ zbx r.lo o.hi = true ∨ zbx r.hi o.lo = true ∨ zbx r.hi o.hi = true then anyR
 else ⟨min (min (min (r.lo * o.lo) (r.lo * o.hi)) (r.hi * o.lo)) (r.hi * o.hi),max (max (max (r.lo * o.lo) (r.lo * o.hi)) (r.hi * o.lo)) (r.hi * o.hi)⟩
theorem zfe {a b x c : Int} (h1 : a ≤ x) (h2 : x ≤ b) : min (a * c) (b * c) ≤ x * c ∧ x * c ≤ max (a * c) (b * c):=by
 rcases Int.le_total 0 c with h | h
 ·have:=Int.mul_le_mul_of_nonneg_right h1 h
  have:=Int.mul_le_mul_of_nonneg_right h2 h
  omega
 ·have:=Int.mul_le_mul_of_nonpos_right h1 h
  have:=Int.mul_le_mul_of_nonpos_right h2 h
  omega
theorem ztZ {r o : Rg} {x y : Int} (hr : r.Ok) (ho : o.Ok) (hx : r.In x) (hy : o.In y) : (r.times o).In (w64 (x * y)):=by
 unfold Rg.times
 split
 ·rename_i h
  unfold Rg.In at hx hy
  have e1 : x = r.lo:=by omega
  have e2 : y = o.lo:=by omega
  rw [e1,e2]; exact zgd _
 ·split
  ·exact zrB (zdD _)
  ·rename_i h
   simp only [not_or,Bool.not_eq_true] at h
   obtain ⟨w1,w2,w3,w4⟩:=h
   have i1:=zcm hr.1 ho.1 w1
   have i2:=zcm hr.1 ho.2.1 w2
   have i3:=zcm hr.2.1 ho.1 w3
   have i4:=zcm hr.2.1 ho.2.1 w4
   obtain ⟨a1,a2⟩:=zfe (c:=y) hx.1 hx.2
   have b1:=zfe (c:=r.lo) hy.1 hy.2
   have b2:=zfe (c:=r.hi) hy.1 hy.2
   rw [Int.mul_comm o.lo,Int.mul_comm o.hi,Int.mul_comm y] at b1 b2
   unfold i64 at i1 i2 i3 i4
   generalize r.lo * o.lo = p1 at *
   generalize r.lo * o.hi = p2 at *
   generalize r.hi * o.lo = p3 at *
   generalize r.hi * o.hi = p4 at *
   generalize r.lo * y = q1 at *
   generalize r.hi * y = q2 at *
   rw [zf7 (by unfold i64; omega)]
   unfold Rg.In
   dsimp only
   omega
theorem zua {r o : Rg} (hr : r.Ok) (ho : o.Ok) : (r.times o).Ok:=by
 unfold Rg.times
 split
 ·exact zh1 (zdD _)
 ·split
  ·exact zrC
  ·rename_i h
   simp only [not_or,Bool.not_eq_true] at h
   obtain ⟨w1,w2,w3,w4⟩:=h
   have i1:=zcm hr.1 ho.1 w1
   have i2:=zcm hr.1 ho.2.1 w2
   have i3:=zcm hr.2.1 ho.1 w3
   have i4:=zcm hr.2.1 ho.2.1 w4
   unfold Rg.Ok i64 at *
   dsimp only
   generalize r.lo * o.lo = p1 at *
   generalize r.lo * o.hi = p2 at *
   generalize r.hi * o.lo = p3 at *
   generalize r.hi * o.hi = p4 at *
   omega
def zet (l r : Rg) : Option (Rg × Rg):=if r.hi ≤ l.lo then none else some (⟨l.lo,min l.hi (r.hi - 1)⟩,⟨max (l.lo + 1) r.lo,r.hi⟩)
def zbi (l r : Rg) : Option (Rg × Rg):=if l.hi < r.lo then none else some (⟨max l.lo r.lo,l.hi⟩,⟨r.lo,min l.hi r.hi⟩)
def zeu (l r : Rg) : Option (Rg × Rg):=if max l.lo r.lo ≤ min l.hi r.hi then some (⟨max l.lo r.lo,min l.hi r.hi⟩,⟨max l.lo r.lo,min l.hi r.hi⟩) else none
def Rg.without (r o : Rg) : Rg:=if o.lo = o.hi then (if o.lo = r.lo then ⟨r.lo + 1,r.hi⟩ else if o.lo = r.hi then ⟨r.lo,r.hi - 1⟩ else r) else r
def za8 (l r : Rg) : Option (Rg × Rg):=if (l.lo = r.lo ∧ l.hi = r.hi) ∧ l.lo = l.hi then none else some (l.without r,r.without l)
theorem zvF {l r : Rg} {x y : Int} (hx : l.In x) (hy : r.In y) (h : x < y) : ∃ a b,zet l r = some (a,b) ∧ a.In x ∧ b.In y:=by
 unfold Rg.In at *
 unfold zet
 rw [if_neg (by omega)]
 exact ⟨_,_,rfl,by dsimp only; omega,by dsimp only; omega⟩
theorem zpb {l r : Rg} {x y : Int} (hx : l.In x) (hy : r.In y) (h : ¬ x < y) : ∃ a b,zbi l r = some (a,b) ∧ a.In x ∧ b.In y:=by
 unfold Rg.In at *
 unfold zbi
 rw [if_neg (by omega)]
 exact ⟨_,_,rfl,by dsimp only; omega,by dsimp only; omega⟩
theorem zvG {l r : Rg} {x y : Int} (hx : l.In x) (hy : r.In y) (h : x = y) : ∃ a b,zeu l r = some (a,b) ∧ a.In x ∧ b.In y:=by
 unfold Rg.In at *
 unfold zeu
 rw [if_pos (by omega)]
 exact ⟨_,_,rfl,by dsimp only; omega,by dsimp only; omega⟩
theorem ziM {r o : Rg} {x y : Int} (hx : r.In x) (hy : o.In y) (h : ¬ x = y) : (r.without o).In x:=by
 unfold Rg.In at *
 unfold Rg.without
 repeat' split
 all_goals (try dsimp only)
 all_goals omega
theorem zpc {l r : Rg} {x y : Int} (hx : l.In x) (hy : r.In y) (h : ¬ x = y) : ∃ a b,za8 l r = some (a,b) ∧ a.In x ∧ b.In y:=by
 have h1:=ziM hx hy h
 have h2:=ziM hy hx (fun e => h e.symm)
 unfold za8
 rw [if_neg (by unfold Rg.In at hx hy; omega)]
 exact ⟨_,_,rfl,h1,h2⟩
theorem zvH {l r a b : Rg} (hl : l.Ok) (hr : r.Ok) (h : zet l r = some (a,b)) : a.Ok ∧ b.Ok:=by
 unfold zet at h
 split at h
 ·cases h
 ·simp only [Option.some.injEq,Prod.mk.injEq] at h
  obtain ⟨rfl,rfl⟩:=h
  unfold Rg.Ok i64 at *; dsimp only; omega
theorem zpd {l r a b : Rg} (hl : l.Ok) (hr : r.Ok) (h : zbi l r = some (a,b)) : a.Ok ∧ b.Ok:=by
 unfold zbi at h
 split at h
 ·cases h
 ·simp only [Option.some.injEq,Prod.mk.injEq] at h
  obtain ⟨rfl,rfl⟩:=h
  unfold Rg.Ok i64 at *; dsimp only; omega
theorem zvI {l r a b : Rg} (hl : l.Ok) (hr : r.Ok) (h : zeu l r = some (a,b)) : a.Ok ∧ b.Ok:=by
 unfold zeu at h
 split at h
 ·simp only [Option.some.injEq,Prod.mk.injEq] at h
  obtain ⟨rfl,rfl⟩:=h
  unfold Rg.Ok i64 at *; dsimp only; omega
 ·cases h
theorem zpe {l r a b : Rg} (hl : l.Ok) (hr : r.Ok) (h : za8 l r = some (a,b)) : a.Ok ∧ b.Ok:=by
 unfold za8 at h
 split at h
 ·cases h
 ·rename_i hn
  simp only [Option.some.injEq,Prod.mk.injEq] at h
  obtain ⟨rfl,rfl⟩:=h
  unfold Rg.Ok i64 at *
  unfold Rg.without
  refine ⟨?_,?_⟩
  all_goals
   repeat' split
   all_goals (try dsimp only)
   all_goals omega
end Go.Proofs.YtfpgjkbjbbgciaaGreatDoor.Sp
