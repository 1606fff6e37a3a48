import Derived.Test.YtfpgjkbjbbgciaaGreatDoorMb25
import Derived.Test.YtfpgjkbjbbgciaaGreatDoorMb12
import Derived.BigQuiet
import Derived.Deep.RegionHeld3
import Derived.Test.YtfpgjkbjbbgciaaGreatDoorMb21
import Derived.Test.YtfpgjkbjbbgciaaGreatDoorMb18
namespace Go.Proofs.YtfpgjkbjbbgciaaGreatDoor
open Go.RowKit Sp

/-- The words of the line that is done. -/
def WdIn (w : World) (wb : Nat) (l : List ByteArray) : Prop := ∀ j (h : j < l.length), w.cell? ⟨wb, j, none⟩ = some (.string l[j])

theorem RefM.drew {w : World} {b : Nat} {lv bv iv ov : Value} {m : Mc} (h : RefM w b lv bv iv ov m) : RefM w.drew b lv bv iv ov m := h.of_block rfl
theorem RefM.drewN {w : World} {b : Nat} {lv bv iv ov : Value} {m : Mc} (h : RefM w b lv bv iv ov m) (n : Nat) : RefM (w.drewN n) b lv bv iv ov m := h.of_block rfl
theorem below_drewN (w : World) (n : Nat) : Below w.heap.size w (w.drewN n) := ⟨rfl, rfl, rfl, Nat.le_refl _, fun _ _ => rfl⟩
theorem wrap_w64 (x : Int) : wrap64 x = w64 x := by simp [w64, wrap64]
theorem grown_self (w : World) (row : Option Nat) : w.grownBy w row := ⟨rfl, rfl, rfl, Nat.le_refl _, fun _ _ _ => rfl⟩
theorem reg_known (x : ByteArray) (r : Nat) (hreg : reg x = (r : Int)) (h : x.size ≤ 1048576) : ∀ W, Calls Tryz.prog 75 #[.string x] W fun e w' => e = .returned (.int .i64 (r : Int)) ∧ w' = W := fun W => by
  rw [← hreg]; exact reg_any x W (by unfold maxLen; omega)
theorem num_known (x : ByteArray) (h : x.size ≤ 1048576) : ∀ W, Calls Tryz.prog 76 #[.string x] W fun e w' => e = .returned (.tuple #[.int .i64 (numOf x).1, .bool (numOf x).2]) ∧ w' = W := fun W => num_any x W (by omega)

/-! ### cell -/
set_option maxRecDepth 100000 in
set_option maxHeartbeats 4000000 in
theorem cell_in (w : World) (b r n : Nat) (lv bv iv ov : Value) (m : Mc) (x : ByteArray) (h : RefM w b lv bv iv ov m) (hr : r < 8) (hreg : reg x = (r : Int)) (h1 : x.size ≤ 1048576) (hn : m.regs r = (n : Int)) (hn16 : n < 16) :
    Calls Tryz.prog 112 #[.pointer (some ⟨b, 0, none⟩), .string x] w fun e w' => e = .returned (.int .i64 (n : Int)) ∧ ∃ k, w' = w.drewN k := by
  have hcr := h.cR r hr
  rw [hn] at hcr
  have hr0 : (0 : Int) ≤ (r : Int) := by omega
  have hr8 : (r : Int) < 8 := by omega
  have g1 := reg_known x r hreg h1
  have hn0 : ((n : Int) < 0) = False := by simp
  have hn15 : ((15 : Int) < (n : Int)) = False := by simp; omega
  go_enter Tryz.func112, Tryz.ntmps112
  go_wp2_with fail
  go_quiet (first | (go_at_call 75; exact Calls.quiet_of_same (g1 _)))
  go_wp2
  go_ret
  exact ⟨rfl, _, rfl⟩
set_option maxRecDepth 100000 in
set_option maxHeartbeats 4000000 in
theorem cell_out (w : World) (b r : Nat) (lv bv iv ov : Value) (m : Mc) (x : ByteArray) (h : RefM w b lv bv iv ov m) (hr : r < 8) (hreg : reg x = (r : Int)) (h1 : x.size ≤ 1048576) (hn : m.regs r < 0 ∨ 15 < m.regs r) :
    Calls Tryz.prog 112 #[.pointer (some ⟨b, 0, none⟩), .string x] w fun e w' => e = .returned (.int .i64 (-1)) ∧ RefM w' b lv bv iv ov { m with fin := 3 } ∧ w.grownBy w' (some b) := by
  have hcr := h.cR r hr
  have hce := h.cE
  have hfz := h.fz 33
  have hr0 : (0 : Int) ≤ (r : Int) := by omega
  have hr8 : (r : Int) < 8 := by omega
  have g1 := reg_known x r hreg h1
  generalize m.regs r = v at hcr hn
  by_cases hv : v < 0
  · go_enter Tryz.func112, Tryz.ntmps112
    go_wp2_with fail
    go_quiet (first | (go_at_call 75; exact Calls.quiet_of_same (g1 _)))
    go_wp2
    go_ret
    exact ⟨rfl, ((h.drewN nq).setE 3), grown_set (below_drewN _ _)⟩
  · have hv2 : 15 < v := by omega
    go_enter Tryz.func112, Tryz.ntmps112
    go_wp2_with fail
    go_quiet (first | (go_at_call 75; exact Calls.quiet_of_same (g1 _)))
    go_wp2
    go_ret
    exact ⟨rfl, ((h.drewN nq).setE 3), grown_set (below_drewN _ _)⟩

/-! ### does -/
set_option maxRecDepth 100000 in
set_option maxHeartbeats 4000000 in
theorem does_set (w : World) (b wb cap r : Nat) (lv bv iv ov : Value) (m : Mc) (x1 x2 : ByteArray) (h : RefM w b lv bv iv ov m) (hw : WdIn w wb [⟨#[115, 101, 116]⟩, x1, x2]) (_hne : ¬ wb = b) (hr : r < 8) (hreg : reg x1 = (r : Int)) (h1 : x1.size ≤ 1048576) (h2 : x2.size ≤ 1048576) :
    Calls Tryz.prog 90 #[.pointer (some ⟨b, 0, none⟩), .slice (some ⟨wb, 0, none⟩) 3 cap] w fun e w' => e = .returned (.tuple #[]) ∧ RefM w' b lv bv iv ov { m with regs := upd m.regs r (numOf x2).1 } ∧ w.grownBy w' (some b) := by
  have c0 := hw 0 (by simp)
  have c1 := hw 1 (by simp)
  have c2 := hw 2 (by simp)
  simp only [List.getElem_cons_zero, List.getElem_cons_succ] at c0 c1 c2
  have hcr := h.cR r hr
  have hfz := h.fz (5 + r)
  have hr0 : (0 : Int) ≤ (r : Int) := by omega
  have hr8 : (r : Int) < 8 := by omega
  have g1 := reg_known x1 r hreg h1
  have g2 := num_known x2 h2
  generalize (numOf x2).1 = v at g2 ⊢
  generalize (numOf x2).2 = ok at g2
  go_enter Tryz.func90, Tryz.ntmps90
  go_wp2_with (first | (go_at_call 75; refine (g1 _).mono ?_; rintro e wx ⟨rfl, hww⟩; have hw2 := hww.symm; subst hw2))
  go_region_with (go_at_call 76; refine (g2 _).mono ?_; rintro e wx ⟨rfl, hww⟩; have hw2 := hww.symm; subst hw2)
  all_goals go_wp2
  all_goals go_end0
  all_goals exact ⟨rfl, (h.setR r hr v).drew, grown_drew (grown_set (Below.refl _ _))⟩

set_option maxRecDepth 100000 in
set_option maxHeartbeats 4000000 in
theorem does_mov (w : World) (b wb cap r s : Nat) (lv bv iv ov : Value) (m : Mc) (x1 x2 : ByteArray) (h : RefM w b lv bv iv ov m) (hw : WdIn w wb [⟨#[109, 111, 118]⟩, x1, x2]) (_hne : ¬ wb = b) (hr : r < 8) (hreg : reg x1 = (r : Int)) (hs : s < 8) (hreg2 : reg x2 = (s : Int)) (hx1 : x1.size ≤ 1048576) (hx2 : x2.size ≤ 1048576) :
    Calls Tryz.prog 90 #[.pointer (some ⟨b, 0, none⟩), .slice (some ⟨wb, 0, none⟩) 3 cap] w fun e w' => e = .returned (.tuple #[]) ∧ RefM w' b lv bv iv ov { m with regs := upd m.regs r (m.regs s) } ∧ w.grownBy w' (some b) := by
  have c0 := hw 0 (by simp)
  have c1 := hw 1 (by simp)
  have c2 := hw 2 (by simp)
  simp only [List.getElem_cons_zero, List.getElem_cons_succ] at c0 c1 c2
  have hcr := h.cR r hr
  have hfz := h.fz (5 + r)
  have hr0 : (0 : Int) ≤ (r : Int) := by omega
  have hr8 : (r : Int) < 8 := by omega
  have g1 := reg_known x1 r hreg hx1
  have hcs := h.cR s hs
  have hs0 : (0 : Int) ≤ (s : Int) := by omega
  have hs8 : (s : Int) < 8 := by omega
  have g2 := reg_known x2 s hreg2 hx2
  go_enter Tryz.func90, Tryz.ntmps90
  go_wp2_with (first | (go_at_call 75; refine (g1 _).mono ?_; rintro e wx ⟨rfl, hww⟩; have hw2 := hww.symm; subst hw2))
  go_region_with (first | (go_at_call_of 75 (Value.string x2); refine (g2 _).mono ?_; rintro e wx ⟨rfl, hww⟩; have hw2 := hww.symm; subst hw2) | (go_at_call 75; refine (g2 _).mono ?_; rintro e wx ⟨rfl, hww⟩; have hw2 := hww.symm; subst hw2))
  all_goals go_wp2
  all_goals go_end0
  all_goals exact ⟨rfl, (h.setR r hr _).drew, grown_drew (grown_set (Below.refl _ _))⟩
set_option maxRecDepth 100000 in
set_option maxHeartbeats 4000000 in
theorem does_inc (w : World) (b wb cap r : Nat) (lv bv iv ov : Value) (m : Mc) (x1 x2 : ByteArray) (h : RefM w b lv bv iv ov m) (hw : WdIn w wb [⟨#[105, 110, 99]⟩, x1, x2]) (_hne : ¬ wb = b) (hr : r < 8) (hreg : reg x1 = (r : Int))  (hx1 : x1.size ≤ 1048576) (hx2 : x2.size ≤ 1048576) :
    Calls Tryz.prog 90 #[.pointer (some ⟨b, 0, none⟩), .slice (some ⟨wb, 0, none⟩) 3 cap] w fun e w' => e = .returned (.tuple #[]) ∧ RefM w' b lv bv iv ov { m with regs := upd m.regs r (w64 (m.regs r + (numOf x2).1)) } ∧ w.grownBy w' (some b) := by
  have c0 := hw 0 (by simp)
  have c1 := hw 1 (by simp)
  have c2 := hw 2 (by simp)
  simp only [List.getElem_cons_zero, List.getElem_cons_succ] at c0 c1 c2
  have hcr := h.cR r hr
  have hfz := h.fz (5 + r)
  have hr0 : (0 : Int) ≤ (r : Int) := by omega
  have hr8 : (r : Int) < 8 := by omega
  have g1 := reg_known x1 r hreg hx1
  have g2 := num_known x2 hx2
  generalize (numOf x2).1 = v at g2 ⊢
  generalize (numOf x2).2 = ok at g2
  go_enter Tryz.func90, Tryz.ntmps90
  go_wp2_with (first | (go_at_call 75; refine (g1 _).mono ?_; rintro e wx ⟨rfl, hww⟩; have hw2 := hww.symm; subst hw2) | (go_at_call 76; refine (g2 _).mono ?_; rintro e wx ⟨rfl, hww⟩; have hw2 := hww.symm; subst hw2))
  go_region
  all_goals go_wp2
  all_goals go_end0
  all_goals rw [wrap_w64]
  all_goals exact ⟨rfl, (h.setR r hr _).drew, grown_drew (grown_set (Below.refl _ _))⟩

end Go.Proofs.YtfpgjkbjbbgciaaGreatDoor

namespace Go.Proofs.YtfpgjkbjbbgciaaGreatDoor
open Go.RowKit Sp

theorem LinesIn.drewN {w : World} {g : Nat} {L : List Said} (h : LinesIn w g L) (n : Nat) : LinesIn (w.drewN n) g L := ⟨h.kind, h.words, h.wf⟩
set_option maxRecDepth 100000 in
set_option maxHeartbeats 4000000 in
theorem moves_jump (w : World) (b wb cap g cap2 k : Nat) (bv iv ov : Value) (L : List Said) (m : Mc) (x : ByteArray) (next : Int) (j : Nat) (h : RefM w b (.slice (some ⟨g, 0, none⟩) L.length cap2) bv iv ov m) (hL : LinesIn w g L) (hn : L.length ≤ 300) (hk : k < L.length) (hat : m.at' = (k : Int)) (hw : WdIn w wb [⟨#[106, 117, 109, 112]⟩, x]) (hlab : labOf L k x = (j : Int)) (hj : j ≤ L.length) :
    Calls Tryz.prog 89 #[.pointer (some ⟨b, 0, none⟩), .slice (some ⟨wb, 0, none⟩) 2 cap, .int .i64 next] w fun e w' => e = .returned (.tuple #[.int .i64 (nextFrom L j), .bool true]) ∧ ∃ n, w' = w.drewN n := by
  have c0 := hw 0 (by simp)
  have c1 := hw 1 (by simp)
  simp only [List.getElem_cons_zero, List.getElem_cons_succ] at c0 c1
  have hcl := h.cL
  have hca := h.cAt
  rw [hat] at hca
  have g1 : ∀ n, Calls Tryz.prog 78 #[.slice (some ⟨g, 0, none⟩) L.length cap2, .int .i64 (k : Int), .string x] (w.drewN n) fun e w' => e = .returned (.int .i64 (j : Int)) ∧ w' = w.drewN n := fun n => by
    rw [← hlab]; exact lab_any L g cap2 k x _ (hL.drewN n) (by omega) hk
  have g2 : ∀ n, Calls Tryz.prog 88 #[.slice (some ⟨g, 0, none⟩) L.length cap2, .int .i64 (j : Int)] (w.drewN n) fun e w' => e = .returned (.int .i64 (nextFrom L j)) ∧ w' = w.drewN n := fun n => next_any L g cap2 j _ (hL.drewN n) (by omega) (by omega)
  generalize nextFrom L j = to at g2 ⊢
  clear hlab
  go_enter Tryz.func89, Tryz.ntmps89
  go_wp2_with fail
  go_quiet (first | (go_at_call 78; exact Calls.quiet_of_same (g1 _)) | (go_at_call 88; exact Calls.quiet_of_same (g2 _)))
  go_wp2
  go_ret2
  exact ⟨rfl, _, rfl⟩
set_option maxRecDepth 100000 in
set_option maxHeartbeats 4000000 in
theorem moves_none (w : World) (b wb cap n : Nat) (l : List ByteArray) (next : Int) (hl : l.length = n + 1) (hn : n ≤ 8) (hw : WdIn w wb l) (h0 : ((l[0]'(by omega)).toList == [106, 117, 109, 112]) = false) (h1 : ((l[0]'(by omega)).toList == [108, 101, 115, 115]) = false) (h2 : ((l[0]'(by omega)).toList == [115, 97, 109, 101]) = false) (h3 : ((l[0]'(by omega)).toList == [99, 97, 108, 108]) = false) (h4 : ((l[0]'(by omega)).toList == [98, 97, 99, 107]) = false) (h5 : ((l[0]'(by omega)).toList == [115, 116, 111, 112]) = false) :
    Calls Tryz.prog 89 #[.pointer (some ⟨b, 0, none⟩), .slice (some ⟨wb, 0, none⟩) (n + 1) cap, .int .i64 next] w fun e w' => e = .returned (.tuple #[.int .i64 next, .bool false]) ∧ w' = w := by
  have c0 := hw 0 (by omega)
  have cn := hw n (by omega)
  generalize l[0] = x0 at c0 h0 h1 h2 h3 h4 h5
  generalize l[n] = xn at cn
  have hwrap : IntKind.i64.wrap (n : Int) = (n : Int) := wrap_small _ (by omega) (by omega)
  have hf0 : (0 : Int) ≤ (n : Int) := by omega
  have hf1 : (n : Int) < (n : Int) + 1 := by omega
  have hf2 : (0 : Int) < (n : Int) + 1 := by omega
  clear hw hl
  go_enter Tryz.func89, Tryz.ntmps89
  go_wp2
  go_ret2
  exact ⟨rfl, rfl⟩
set_option maxRecDepth 100000 in
set_option maxHeartbeats 4000000 in
theorem moves_stop (w : World) (b wb cap : Nat) (lv bv iv ov : Value) (m : Mc) (next : Int) (h : RefM w b lv bv iv ov m) (hw : WdIn w wb [⟨#[115, 116, 111, 112]⟩]) :
    Calls Tryz.prog 89 #[.pointer (some ⟨b, 0, none⟩), .slice (some ⟨wb, 0, none⟩) 1 cap, .int .i64 next] w fun e w' => e = .returned (.tuple #[.int .i64 (-1), .bool true]) ∧ RefM w' b lv bv iv ov { m with fin := 1 } ∧ w.grownBy w' (some b) := by
  have c0 := hw 0 (by simp)
  simp only [List.getElem_cons_zero] at c0
  have hce := h.cE
  have hfe := h.fz 33
  go_enter Tryz.func89, Tryz.ntmps89
  go_wp2
  go_ret2
  exact ⟨rfl, h.setE 1, grown_set (Below.refl _ _)⟩

end Go.Proofs.YtfpgjkbjbbgciaaGreatDoor

namespace Go.Proofs.YtfpgjkbjbbgciaaGreatDoor
open Go.RowKit Sp

theorem upd_twice (f : Nat → Int) (i : Nat) (a b : Int) : upd (upd f i a) i b = upd f i b := by
  funext j
  unfold upd
  split <;> rfl
theorem grown_trans2 {a b c : World} {q : Option Nat} (h : a.grownBy b q) (k : b.grownBy c q) : a.grownBy c q :=
  ⟨k.os.trans h.os, k.tape.trans h.tape, k.output.trans h.output, Nat.le_trans h.size k.size, fun i hi hne => (k.block i (Nat.lt_of_lt_of_le hi h.size) hne).trans (h.block i hi hne)⟩

set_option maxRecDepth 100000 in
set_option maxHeartbeats 4000000 in
theorem does_load_in (w : World) (b wb cap r s n : Nat) (lv bv iv ov : Value) (m : Mc) (x1 x2 : ByteArray) (h : RefM w b lv bv iv ov m) (hw : WdIn w wb [⟨#[108, 111, 97, 100]⟩, x1, x2]) (_hne : ¬ wb = b) (hr : r < 8) (hreg : reg x1 = (r : Int)) (hs : s < 8) (hreg2 : reg x2 = (s : Int)) (hn : m.regs s = (n : Int)) (hn16 : n < 16) (hx1 : x1.size ≤ 1048576) (hx2 : x2.size ≤ 1048576) :
    Calls Tryz.prog 90 #[.pointer (some ⟨b, 0, none⟩), .slice (some ⟨wb, 0, none⟩) 3 cap] w fun e w' => e = .returned (.tuple #[]) ∧ RefM w' b lv bv iv ov { m with regs := upd m.regs r (m.cells n) } ∧ w.grownBy w' (some b) := by
  have c0 := hw 0 (by simp)
  have c1 := hw 1 (by simp)
  have c2 := hw 2 (by simp)
  simp only [List.getElem_cons_zero, List.getElem_cons_succ] at c0 c1 c2
  have hcr := h.cR r hr
  have hfz := h.fz (5 + r)
  have hr0 : (0 : Int) ≤ (r : Int) := by omega
  have hr8 : (r : Int) < 8 := by omega
  have g1 := reg_known x1 r hreg hx1
  have hcc := h.cC n hn16
  have hn0 : (0 : Int) ≤ (n : Int) := by omega
  have hn1 : (n : Int) < 16 := by omega
  have g2 := cell_in w b s n lv bv iv ov m x2 h hs hreg2 hx2 hn hn16
  clear hn
  go_enter Tryz.func90, Tryz.ntmps90
  go_wp2_with (first | (go_at_call 75; refine (g1 _).mono ?_; rintro e wx ⟨rfl, hww⟩; have hw2 := hww.symm; subst hw2) | (go_at_call 112; refine g2.mono ?_; rintro e wx ⟨rfl, k, rfl⟩))
  go_region
  all_goals go_wp2
  all_goals go_end0
  all_goals first | exact ⟨rfl, (h.drewN (k + 1)).setR r hr _, grown_set (below_drewN _ _)⟩ | exact ⟨rfl, ((h.drewN k).setR r hr _).drew, grown_drew (grown_set (below_drewN _ _))⟩
set_option maxRecDepth 100000 in
set_option maxHeartbeats 4000000 in
theorem does_load_out (w : World) (b wb cap r s : Nat) (lv bv iv ov : Value) (m : Mc) (x1 x2 : ByteArray) (h : RefM w b lv bv iv ov m) (hw : WdIn w wb [⟨#[108, 111, 97, 100]⟩, x1, x2]) (_hne : ¬ wb = b) (hr : r < 8) (hreg : reg x1 = (r : Int)) (hs : s < 8) (hreg2 : reg x2 = (s : Int)) (hn : m.regs s < 0 ∨ 15 < m.regs s) (hx1 : x1.size ≤ 1048576) (hx2 : x2.size ≤ 1048576) :
    Calls Tryz.prog 90 #[.pointer (some ⟨b, 0, none⟩), .slice (some ⟨wb, 0, none⟩) 3 cap] w fun e w' => e = .returned (.tuple #[]) ∧ RefM w' b lv bv iv ov { m with fin := 3 } ∧ w.grownBy w' (some b) := by
  have c0 := hw 0 (by simp)
  have c1 := hw 1 (by simp)
  have c2 := hw 2 (by simp)
  simp only [List.getElem_cons_zero, List.getElem_cons_succ] at c0 c1 c2
  have hcr := h.cR r hr
  have hfz := h.fz (5 + r)
  have hr0 : (0 : Int) ≤ (r : Int) := by omega
  have hr8 : (r : Int) < 8 := by omega
  have g1 := reg_known x1 r hreg hx1
  have g2 := cell_out w b s lv bv iv ov m x2 h hs hreg2 hx2 hn
  clear hn
  go_enter Tryz.func90, Tryz.ntmps90
  go_wp2_with (first | (go_at_call 75; refine (g1 _).mono ?_; rintro e wx ⟨rfl, hww⟩; have hw2 := hww.symm; subst hw2) | (go_at_call 112; refine g2.mono ?_; rintro e wx ⟨rfl, hM, hg⟩))
  go_end0
  exact ⟨rfl, hM, hg⟩
set_option maxRecDepth 100000 in
set_option maxHeartbeats 4000000 in
theorem does_store_in (w : World) (b wb cap r s n : Nat) (lv bv iv ov : Value) (m : Mc) (x1 x2 : ByteArray) (h : RefM w b lv bv iv ov m) (hw : WdIn w wb [⟨#[115, 116, 111, 114, 101]⟩, x1, x2]) (_hne : ¬ wb = b) (hr : r < 8) (hreg : reg x1 = (r : Int)) (hs : s < 8) (hreg2 : reg x2 = (s : Int)) (hn : m.regs r = (n : Int)) (hn16 : n < 16) (hx1 : x1.size ≤ 1048576) (hx2 : x2.size ≤ 1048576) :
    Calls Tryz.prog 90 #[.pointer (some ⟨b, 0, none⟩), .slice (some ⟨wb, 0, none⟩) 3 cap] w fun e w' => e = .returned (.tuple #[]) ∧ RefM w' b lv bv iv ov { m with cells := upd m.cells n (m.regs s) } ∧ w.grownBy w' (some b) := by
  have c0 := hw 0 (by simp)
  have c1 := hw 1 (by simp)
  have c2 := hw 2 (by simp)
  simp only [List.getElem_cons_zero, List.getElem_cons_succ] at c0 c1 c2
  have hcr := h.cR r hr
  have hfz := h.fz (5 + r)
  have hr0 : (0 : Int) ≤ (r : Int) := by omega
  have hr8 : (r : Int) < 8 := by omega
  have g1 := reg_known x1 r hreg hx1
  have hcc := h.cC n hn16
  have hfc := h.fz (13 + n)
  have hcs := h.cR s hs
  have hs0 : (0 : Int) ≤ (s : Int) := by omega
  have hs8 : (s : Int) < 8 := by omega
  have hn0 : (0 : Int) ≤ (n : Int) := by omega
  have hn1 : (n : Int) < 16 := by omega
  have g2 := cell_in w b r n lv bv iv ov m x1 h hr hreg hx1 hn hn16
  have g3 := reg_known x2 s hreg2 hx2
  clear hn hcr
  go_enter Tryz.func90, Tryz.ntmps90
  go_wp2_with (first | (go_at_call 75; refine (g1 _).mono ?_; rintro e wx ⟨rfl, hww⟩; have hw2 := hww.symm; subst hw2) | (go_at_call 112; refine g2.mono ?_; rintro e wx ⟨rfl, k, rfl⟩))
  go_region_with (go_at_call 75; refine (g3 _).mono ?_; rintro e wx ⟨rfl, hww⟩; have hw2 := hww.symm; subst hw2)
  all_goals go_wp2
  all_goals go_end0
  all_goals first | exact ⟨rfl, (h.drewN (k + 1)).setC n hn16 _, grown_set (below_drewN _ _)⟩ | exact ⟨rfl, ((h.drewN k).setC n hn16 _).drew, grown_drew (grown_set (below_drewN _ _))⟩
set_option maxRecDepth 100000 in
set_option maxHeartbeats 4000000 in
theorem does_store_out (w : World) (b wb cap r : Nat) (lv bv iv ov : Value) (m : Mc) (x1 x2 : ByteArray) (h : RefM w b lv bv iv ov m) (hw : WdIn w wb [⟨#[115, 116, 111, 114, 101]⟩, x1, x2]) (_hne : ¬ wb = b) (hr : r < 8) (hreg : reg x1 = (r : Int)) (hn : m.regs r < 0 ∨ 15 < m.regs r) (hx1 : x1.size ≤ 1048576) (_hx2 : x2.size ≤ 1048576) :
    Calls Tryz.prog 90 #[.pointer (some ⟨b, 0, none⟩), .slice (some ⟨wb, 0, none⟩) 3 cap] w fun e w' => e = .returned (.tuple #[]) ∧ RefM w' b lv bv iv ov { m with fin := 3 } ∧ w.grownBy w' (some b) := by
  have c0 := hw 0 (by simp)
  have c1 := hw 1 (by simp)
  have c2 := hw 2 (by simp)
  simp only [List.getElem_cons_zero, List.getElem_cons_succ] at c0 c1 c2
  have hcr := h.cR r hr
  have hfz := h.fz (5 + r)
  have hr0 : (0 : Int) ≤ (r : Int) := by omega
  have hr8 : (r : Int) < 8 := by omega
  have g1 := reg_known x1 r hreg hx1
  have g2 := cell_out w b r lv bv iv ov m x1 h hr hreg hx1 hn
  clear hn hcr
  go_enter Tryz.func90, Tryz.ntmps90
  go_wp2_with (first | (go_at_call 75; refine (g1 _).mono ?_; rintro e wx ⟨rfl, hww⟩; have hw2 := hww.symm; subst hw2) | (go_at_call 112; refine g2.mono ?_; rintro e wx ⟨rfl, hM, hg⟩))
  go_end0
  exact ⟨rfl, hM, hg⟩
set_option maxRecDepth 100000 in
set_option maxHeartbeats 4000000 in
theorem does_read_none (w : World) (b wb cap r : Nat) (lv bv iv ov : Value) (m : Mc) (x1 : ByteArray) (h : RefM w b lv bv iv ov m) (hw : WdIn w wb [⟨#[114, 101, 97, 100]⟩, x1]) (_hne : ¬ wb = b) (hr : r < 8) (hreg : reg x1 = (r : Int)) (ao : Option Addr) (icap : Nat) (hiv : iv = .slice ao 0 icap) (hx1 : x1.size ≤ 1048576) :
    Calls Tryz.prog 90 #[.pointer (some ⟨b, 0, none⟩), .slice (some ⟨wb, 0, none⟩) 2 cap] w fun e w' => e = .returned (.tuple #[]) ∧ RefM w' b lv bv iv ov { m with regs := upd m.regs r 0 } ∧ w.grownBy w' (some b) := by
  have c0 := hw 0 (by simp)
  have c1 := hw 1 (by simp)
  simp only [List.getElem_cons_zero, List.getElem_cons_succ] at c0 c1
  have hcr := h.cR r hr
  have hfz := h.fz (5 + r)
  have hr0 : (0 : Int) ≤ (r : Int) := by omega
  have hr8 : (r : Int) < 8 := by omega
  have g1 := reg_known x1 r hreg hx1
  have hci := h.cI
  rw [hiv] at hci
  go_enter Tryz.func90, Tryz.ntmps90
  go_wp2_with (first | (go_at_call 75; refine (g1 _).mono ?_; rintro e wx ⟨rfl, hww⟩; have hw2 := hww.symm; subst hw2))
  go_end0
  exact ⟨rfl, h.setR r hr _, grown_set (Below.refl _ _)⟩
set_option maxRecDepth 100000 in
set_option maxHeartbeats 4000000 in
theorem does_read_some (w : World) (b wb cap r g o icap n : Nat) (lv bv iv ov : Value) (m : Mc) (x1 : ByteArray) (h : RefM w b lv bv iv ov m) (hw : WdIn w wb [⟨#[114, 101, 97, 100]⟩, x1]) (_hne : ¬ wb = b) (hr : r < 8) (hreg : reg x1 = (r : Int)) (v : Int) (l : List Int) (hiv : iv = .slice (some ⟨g, o, none⟩) (n + 1) icap) (hcg : w.cell? ⟨g, o, none⟩ = some (.int .i64 v)) (hgb : ¬ g = b) (hic : n + 1 ≤ icap) (hn : n ≤ 1048576) (hx1 : x1.size ≤ 1048576) :
    Calls Tryz.prog 90 #[.pointer (some ⟨b, 0, none⟩), .slice (some ⟨wb, 0, none⟩) 2 cap] w fun e w' => e = .returned (.tuple #[]) ∧ (∃ o', RefM w' b lv bv (.slice (some ⟨g, o', none⟩) n (icap - 1)) ov { m with regs := upd m.regs r v, inp := l } ∧ (n = 0 ∨ o' = o + 1)) ∧ w.grownBy w' (some b) := by
  have c0 := hw 0 (by simp)
  have c1 := hw 1 (by simp)
  simp only [List.getElem_cons_zero, List.getElem_cons_succ] at c0 c1
  have hcr := h.cR r hr
  have hfz := h.fz (5 + r)
  have hr0 : (0 : Int) ≤ (r : Int) := by omega
  have hr8 : (r : Int) < 8 := by omega
  have g1 := reg_known x1 r hreg hx1
  have hci := h.cI
  rw [hiv] at hci
  have hfi := h.fz 3
  have hbg : ¬ b = g := fun e => hgb e.symm
  have h0 := h
  go_enter Tryz.func90, Tryz.ntmps90
  go_wp2_with (first | (go_at_call 75; refine (g1 _).mono ?_; rintro e wx ⟨rfl, hww⟩; have hw2 := hww.symm; subst hw2))
  go_region
  all_goals go_wp2
  all_goals go_end0
  · have hR := ((h0.setR r hr 0).setR r hr v).setI (.slice (some ⟨g, o, none⟩) n 0) l
    rw [upd_twice] at hR
    exact ⟨rfl, ⟨o, hR.drew, .inl (by omega)⟩, grown_drew (grown_trans2 (grown_trans2 (grown_set (Below.refl _ _)) (grown_set (Below.refl _ _))) (grown_set (Below.refl _ _)))⟩
  · have hR := ((h0.setR r hr 0).setR r hr v).setI (.slice (some ⟨g, o + 1, none⟩) n (icap - 1)) l
    rw [upd_twice] at hR
    exact ⟨rfl, ⟨o + 1, hR.drew, .inr rfl⟩, grown_drew (grown_trans2 (grown_trans2 (grown_set (Below.refl _ _)) (grown_set (Below.refl _ _))) (grown_set (Below.refl _ _)))⟩

end Go.Proofs.YtfpgjkbjbbgciaaGreatDoor

namespace Go.Proofs.YtfpgjkbjbbgciaaGreatDoor
open Go.RowKit Sp
attribute [local go_sem ↓] Go.wp_at_zero Go.wp_at_succ

theorem Tryz.info2 : (Tryz.prog.info? 2).map (fun i => (i.zero, i.size, i.bytes)) = some (some (.int .i64 0), 1, 8) := by kernel_rfl
theorem Tryz.info3 : (Tryz.prog.info? 3).map (fun i => (i.zero, i.size, i.bytes)) = some (some (.int .i64 0), 1, 8) := by kernel_rfl
theorem Tryz.under29 : Tryz.prog.underlying 29 = some (.slice 2) := by kernel_rfl
theorem Tryz.under59 : Tryz.prog.underlying 59 = some (.slice 3) := by kernel_rfl

set_option maxRecDepth 100000 in
set_option maxHeartbeats 4000000 in
theorem does_write (w : World) (b wb cap r B : Nat) (lv bv iv ov : Value) (m : Mc) (x1 : ByteArray) (h : RefM w b lv bv iv ov m) (hw : WdIn w wb [⟨#[119, 114, 105, 116, 101]⟩, x1]) (_hne : ¬ wb = b) (hr : r < 8) (hreg : reg x1 = (r : Int)) (hx1 : x1.size ≤ 1048576)
    (hown : w.ownsRow B 2 1 ov m.out.length (i64s m.out)) (hno : ov.ownBlock ≠ some b) (hB : B ≤ w.heap.size) (hlen : m.out.length ≤ 100000) :
    Calls Tryz.prog 90 #[.pointer (some ⟨b, 0, none⟩), .slice (some ⟨wb, 0, none⟩) 2 cap] w fun e w' => e = .returned (.tuple #[]) ∧
      ∃ g c w1, w' = w1.setCell ⟨b, 29, none⟩ (.slice (some ⟨g, 0, none⟩) (m.out.length + 1) c) ∧ w.grownBy w1 ov.ownBlock ∧ w1.ownsRow B 2 1 (.slice (some ⟨g, 0, none⟩) (m.out.length + 1) c) (m.out.length + 1) (i64s (m.out ++ [m.regs r])) ∧ (ov.ownBlock = some g ∨ w.heap.size ≤ g) := by
  have c0 := hw 0 (by simp)
  have c1 := hw 1 (by simp)
  simp only [List.getElem_cons_zero, List.getElem_cons_succ] at c0 c1
  have hcr := h.cR r hr
  have hr0 : (0 : Int) ≤ (r : Int) := by omega
  have hr8 : (r : Int) < 8 := by omega
  have g1 := reg_known x1 r hreg hx1
  have hc := h.cO
  have hf := h.fz 29
  have lg := h.lt
  obtain ⟨i0, hi0, hz0, hz1, hz2⟩ := info_parts Tryz.info2
  have hlt : ∀ b, ov.ownBlock = some b → b < w.heap.size := fun b hb => (hown.lt b hb).2
  have hne2 : some b ≠ ov.ownBlock := fun e => hno e.symm
  have hne4 : ¬ w.heap.size = b := by omega
  have hne5 : ¬ b = w.heap.size := by omega
  go_enter Tryz.func90, Tryz.ntmps90
  go_wp2_with (first | (go_at_call 75; refine (g1 _).mono ?_; rintro e wx ⟨rfl, hww⟩; have hw2 := hww.symm; subst hw2))
  go_region_law
    ((refine step_append_lies _ (by rfl) _ _ _ (by rfl) B 2 i0 _ 1 8 Tryz.under29 hi0 hz0 hz1 hz2 rfl (by omega) ov m.out.length (i64s m.out) (by rfl) ((hown.alloc _).drew)
        ⟨w.heap.size, 0, none⟩ 1 1 [.int .i64 (m.regs r)] (by rfl) (by rfl) (World.news_of_block (cs := #[.int .i64 (m.regs r)]) (t := 2) (fr := (0, 0)) (news_one w _ _)) (by simp [Value.oneCell'])
        (by omega) (by unfold maxLen; omega) (by omega) (by simp; omega) (w.heap.size + 1) (by simp) ?_; intro g c w1 hown1 hgrow hat hltg; have hfz : w1.frozen? ⟨b, 29, none⟩ = false := (hgrow.frozen_far _ (by simp; omega) hne2).trans ((frozen_one w _ _ lg).trans hf); have hcz : w1.cell? ⟨b, 29, none⟩ = some ov := (hgrow.cell_far _ (by simp; omega) hne2).trans ((cell_one w _ _ lg).trans hc)))
  all_goals go_wp2
  all_goals go_end0
  all_goals exact ⟨rfl, g, c, w1, rfl, grown_one hgrow, by simpa [i64s] using hown1, by rcases hat with h | h; exact .inl h; exact .inr (by omega)⟩

end Go.Proofs.YtfpgjkbjbbgciaaGreatDoor
