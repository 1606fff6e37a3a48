import Derived.Test.YtfpgjkbjbbgciaaGreatDoorMb26
import Derived.Test.YtfpgjkbjbbgciaaGreatDoorMb28
namespace Go.Proofs.YtfpgjkbjbbgciaaGreatDoor
open Go.RowKit Sp

set_option maxRecDepth 100000 in
set_option maxHeartbeats 4000000 in
theorem moves_less_yes (w : World) (b wb cap g cap2 k : Nat) (bv iv ov : Value) (L : List Said) (m : Mc) (x1 x2 x3 : ByteArray) (next : Int) (j r s : Nat) (h : RefM w b (.slice (some ⟨g, 0, none⟩) L.length cap2) bv iv ov m) (hL : LinesIn w g L) (hn : L.length ≤ 300) (hk : k < L.length) (hat : m.at' = (k : Int)) (hw : WdIn w wb [⟨#[108, 101, 115, 115]⟩, x1, x2, x3]) (hlab : labOf L k x3 = (j : Int)) (hj : j ≤ L.length) (hr : r < 8) (hreg1 : reg x1 = (r : Int)) (hs : s < 8) (hreg2 : reg x2 = (s : Int)) (hx1 : x1.size ≤ 1048576) (hx2 : x2.size ≤ 1048576) (hc : m.regs r < m.regs s) :
    Calls Tryz.prog 89 #[.pointer (some ⟨b, 0, none⟩), .slice (some ⟨wb, 0, none⟩) 4 cap, .int .i64 next] w fun e w' => e = .returned (.tuple #[.int .i64 (nextFrom L j), .bool true]) ∧ ∃ n, w' = w.drewN n := by
  have c0 := hw 0 (by simp)
  have c1 := hw 1 (by simp)
  have c2 := hw 2 (by simp)
  have c3 := hw 3 (by simp)
  simp only [List.getElem_cons_zero, List.getElem_cons_succ] at c0 c1 c2 c3
  have hcl := h.cL
  have hca := h.cAt
  rw [hat] at hca
  have hcr := h.cR r hr
  have hr0 : (0 : Int) ≤ (r : Int) := by omega
  have hr8 : (r : Int) < 8 := by omega
  have hcs := h.cR s hs
  have hs0 : (0 : Int) ≤ (s : Int) := by omega
  have hs8 : (s : Int) < 8 := by omega
  have g3 := reg_known x1 r hreg1 hx1
  have g4 := reg_known x2 s hreg2 hx2
  have g1 : ∀ W, LinesIn W g L → Calls Tryz.prog 78 #[.slice (some ⟨g, 0, none⟩) L.length cap2, .int .i64 (k : Int), .string x3] W fun e w' => e = .returned (.int .i64 (j : Int)) ∧ w' = W := fun W hW => by
    rw [← hlab]; exact lab_any L g cap2 k x3 _ hW (by omega) hk
  have g2 : ∀ W, LinesIn W g L → Calls Tryz.prog 88 #[.slice (some ⟨g, 0, none⟩) L.length cap2, .int .i64 (j : Int)] W fun e w' => e = .returned (.int .i64 (nextFrom L j)) ∧ w' = W := fun W hW => next_any L g cap2 j _ hW (by omega) (by omega)
  generalize nextFrom L j = to at g2 ⊢
  clear hlab
  go_enter Tryz.func89, Tryz.ntmps89
  go_wp2_with fail
  go_quiet (first | (go_at_call 75; exact Calls.quiet_of_same (g3 _)))
  clear hcl hca hcr hcs c1
  replace h := h.drewN nq
  replace hL := hL.drewN nq
  replace c0 : (w.drewN nq).cell? _ = _ := c0
  replace c2 : (w.drewN nq).cell? _ = _ := c2
  generalize hq1 : w.drewN nq = w1 at h hL c0 c2 ⊢
  have HQ1 : Hid (w.drewN nq = w1) := hq1
  clear hq1 c3
  have hcs := h.cR s hs
  go_wp2_with fail
  go_quiet (first | (go_at_call 75; exact Calls.quiet_of_same (g4 _)))
  clear hcs c2
  replace h := h.drewN nq
  replace hL := hL.drewN nq
  replace c0 : (w1.drewN nq).cell? _ = _ := c0
  generalize hq2 : w1.drewN nq = w2 at h hL c0 ⊢
  have HQ2 : Hid (w1.drewN nq = w2) := hq2
  clear hq2
  have hcl := h.cL
  have hca := h.cAt
  rw [hat] at hca
  go_wp2_with fail
  go_quiet (first | (go_at_call 78; exact Calls.quiet_of_same (g1 _ ⟨hL.kind, hL.words, hL.wf⟩)) | (go_at_call 88; exact Calls.quiet_of_same (g2 _ ⟨hL.kind, hL.words, hL.wf⟩)))
  go_wp2
  go_ret2
  exact ⟨rfl, _, by rw [← HQ2.out, ← HQ1.out, World.drewN_drewN, World.drewN_drewN]⟩
set_option maxRecDepth 100000 in
set_option maxHeartbeats 4000000 in
theorem moves_less_no (w : World) (b wb cap g cap2 k : Nat) (bv iv ov : Value) (L : List Said) (m : Mc) (x1 x2 x3 : ByteArray) (next : Int) (j r s : Nat) (h : RefM w b (.slice (some ⟨g, 0, none⟩) L.length cap2) bv iv ov m) (hL : LinesIn w g L) (_hn : L.length ≤ 300) (_hk : k < L.length) (_hat : m.at' = (k : Int)) (hw : WdIn w wb [⟨#[108, 101, 115, 115]⟩, x1, x2, x3]) (_hlab : labOf L k x3 = (j : Int)) (_hj : j ≤ L.length) (hr : r < 8) (hreg1 : reg x1 = (r : Int)) (hs : s < 8) (hreg2 : reg x2 = (s : Int)) (hx1 : x1.size ≤ 1048576) (hx2 : x2.size ≤ 1048576) (hc : ¬ m.regs r < m.regs s) :
    Calls Tryz.prog 89 #[.pointer (some ⟨b, 0, none⟩), .slice (some ⟨wb, 0, none⟩) 4 cap, .int .i64 next] w fun e w' => e = .returned (.tuple #[.int .i64 (next), .bool true]) ∧ ∃ n, w' = w.drewN n := by
  have c0 := hw 0 (by simp)
  have c1 := hw 1 (by simp)
  have c2 := hw 2 (by simp)
  have c3 := hw 3 (by simp)
  simp only [List.getElem_cons_zero, List.getElem_cons_succ] at c0 c1 c2 c3
  have hcl := h.cL
  have hca := h.cAt
  rw [_hat] at hca
  have hcr := h.cR r hr
  have hr0 : (0 : Int) ≤ (r : Int) := by omega
  have hr8 : (r : Int) < 8 := by omega
  have hcs := h.cR s hs
  have hs0 : (0 : Int) ≤ (s : Int) := by omega
  have hs8 : (s : Int) < 8 := by omega
  have g3 := reg_known x1 r hreg1 hx1
  have g4 := reg_known x2 s hreg2 hx2
  clear _hlab
  go_enter Tryz.func89, Tryz.ntmps89
  go_wp2_with fail
  go_quiet (first | (go_at_call 75; exact Calls.quiet_of_same (g3 _)))
  clear hcl hca hcr hcs c1
  replace h := h.drewN nq
  replace hL := hL.drewN nq
  replace c0 : (w.drewN nq).cell? _ = _ := c0
  replace c2 : (w.drewN nq).cell? _ = _ := c2
  generalize hq1 : w.drewN nq = w1 at h hL c0 c2 ⊢
  have HQ1 : Hid (w.drewN nq = w1) := hq1
  clear hq1 c3
  have hcs := h.cR s hs
  go_wp2_with fail
  go_quiet (first | (go_at_call 75; exact Calls.quiet_of_same (g4 _)))
  go_wp2
  go_ret2
  exact ⟨rfl, _, by rw [← HQ1.out, World.drewN_drewN]⟩
set_option maxRecDepth 100000 in
set_option maxHeartbeats 4000000 in
theorem moves_same_yes (w : World) (b wb cap g cap2 k : Nat) (bv iv ov : Value) (L : List Said) (m : Mc) (x1 x2 x3 : ByteArray) (next : Int) (j r s : Nat) (h : RefM w b (.slice (some ⟨g, 0, none⟩) L.length cap2) bv iv ov m) (hL : LinesIn w g L) (hn : L.length ≤ 300) (hk : k < L.length) (hat : m.at' = (k : Int)) (hw : WdIn w wb [⟨#[115, 97, 109, 101]⟩, x1, x2, x3]) (hlab : labOf L k x3 = (j : Int)) (hj : j ≤ L.length) (hr : r < 8) (hreg1 : reg x1 = (r : Int)) (hs : s < 8) (hreg2 : reg x2 = (s : Int)) (hx1 : x1.size ≤ 1048576) (hx2 : x2.size ≤ 1048576) (hc : m.regs r = m.regs s) :
    Calls Tryz.prog 89 #[.pointer (some ⟨b, 0, none⟩), .slice (some ⟨wb, 0, none⟩) 4 cap, .int .i64 next] w fun e w' => e = .returned (.tuple #[.int .i64 (nextFrom L j), .bool true]) ∧ ∃ n, w' = w.drewN n := by
  have c0 := hw 0 (by simp)
  have c1 := hw 1 (by simp)
  have c2 := hw 2 (by simp)
  have c3 := hw 3 (by simp)
  simp only [List.getElem_cons_zero, List.getElem_cons_succ] at c0 c1 c2 c3
  have hcl := h.cL
  have hca := h.cAt
  rw [hat] at hca
  have hcr := h.cR r hr
  have hr0 : (0 : Int) ≤ (r : Int) := by omega
  have hr8 : (r : Int) < 8 := by omega
  have hcs := h.cR s hs
  have hs0 : (0 : Int) ≤ (s : Int) := by omega
  have hs8 : (s : Int) < 8 := by omega
  have g3 := reg_known x1 r hreg1 hx1
  have g4 := reg_known x2 s hreg2 hx2
  have g1 : ∀ W, LinesIn W g L → Calls Tryz.prog 78 #[.slice (some ⟨g, 0, none⟩) L.length cap2, .int .i64 (k : Int), .string x3] W fun e w' => e = .returned (.int .i64 (j : Int)) ∧ w' = W := fun W hW => by
    rw [← hlab]; exact lab_any L g cap2 k x3 _ hW (by omega) hk
  have g2 : ∀ W, LinesIn W g L → Calls Tryz.prog 88 #[.slice (some ⟨g, 0, none⟩) L.length cap2, .int .i64 (j : Int)] W fun e w' => e = .returned (.int .i64 (nextFrom L j)) ∧ w' = W := fun W hW => next_any L g cap2 j _ hW (by omega) (by omega)
  generalize nextFrom L j = to at g2 ⊢
  have HC : Hid (m.regs r = m.regs s) := hc
  clear hc
  clear hlab
  go_enter Tryz.func89, Tryz.ntmps89
  go_wp2_with fail
  go_quiet (first | (go_at_call 75; exact Calls.quiet_of_same (g3 _)))
  clear hcl hca hcr hcs c1
  replace h := h.drewN nq
  replace hL := hL.drewN nq
  replace c0 : (w.drewN nq).cell? _ = _ := c0
  replace c2 : (w.drewN nq).cell? _ = _ := c2
  generalize hq1 : w.drewN nq = w1 at h hL c0 c2 ⊢
  have HQ1 : Hid (w.drewN nq = w1) := hq1
  clear hq1 c3
  have hcs := h.cR s hs
  rw [← HC.out] at hcs
  go_wp2_with fail
  go_quiet (first | (go_at_call 75; exact Calls.quiet_of_same (g4 _)))
  clear hcs c2
  replace h := h.drewN nq
  replace hL := hL.drewN nq
  replace c0 : (w1.drewN nq).cell? _ = _ := c0
  generalize hq2 : w1.drewN nq = w2 at h hL c0 ⊢
  have HQ2 : Hid (w1.drewN nq = w2) := hq2
  clear hq2
  have hcl := h.cL
  have hca := h.cAt
  rw [hat] at hca
  go_wp2_with fail
  go_quiet (first | (go_at_call 78; exact Calls.quiet_of_same (g1 _ ⟨hL.kind, hL.words, hL.wf⟩)) | (go_at_call 88; exact Calls.quiet_of_same (g2 _ ⟨hL.kind, hL.words, hL.wf⟩)))
  go_wp2
  go_ret2
  exact ⟨rfl, _, by rw [← HQ2.out, ← HQ1.out, World.drewN_drewN, World.drewN_drewN]⟩
set_option maxRecDepth 100000 in
set_option maxHeartbeats 4000000 in
theorem moves_same_no (w : World) (b wb cap g cap2 k : Nat) (bv iv ov : Value) (L : List Said) (m : Mc) (x1 x2 x3 : ByteArray) (next : Int) (j r s : Nat) (h : RefM w b (.slice (some ⟨g, 0, none⟩) L.length cap2) bv iv ov m) (hL : LinesIn w g L) (_hn : L.length ≤ 300) (_hk : k < L.length) (_hat : m.at' = (k : Int)) (hw : WdIn w wb [⟨#[115, 97, 109, 101]⟩, x1, x2, x3]) (_hlab : labOf L k x3 = (j : Int)) (_hj : j ≤ L.length) (hr : r < 8) (hreg1 : reg x1 = (r : Int)) (hs : s < 8) (hreg2 : reg x2 = (s : Int)) (hx1 : x1.size ≤ 1048576) (hx2 : x2.size ≤ 1048576) (hc : ¬ m.regs r = m.regs s) :
    Calls Tryz.prog 89 #[.pointer (some ⟨b, 0, none⟩), .slice (some ⟨wb, 0, none⟩) 4 cap, .int .i64 next] w fun e w' => e = .returned (.tuple #[.int .i64 (next), .bool true]) ∧ ∃ n, w' = w.drewN n := by
  have c0 := hw 0 (by simp)
  have c1 := hw 1 (by simp)
  have c2 := hw 2 (by simp)
  have c3 := hw 3 (by simp)
  simp only [List.getElem_cons_zero, List.getElem_cons_succ] at c0 c1 c2 c3
  have hcl := h.cL
  have hca := h.cAt
  rw [_hat] at hca
  have hcr := h.cR r hr
  have hr0 : (0 : Int) ≤ (r : Int) := by omega
  have hr8 : (r : Int) < 8 := by omega
  have hcs := h.cR s hs
  have hs0 : (0 : Int) ≤ (s : Int) := by omega
  have hs8 : (s : Int) < 8 := by omega
  have g3 := reg_known x1 r hreg1 hx1
  have g4 := reg_known x2 s hreg2 hx2
  have HC : Hid ((m.regs r == m.regs s) = false) := by unfold Hid; simpa using hc
  clear hc
  clear _hlab
  go_enter Tryz.func89, Tryz.ntmps89
  go_wp2_with fail
  go_quiet (first | (go_at_call 75; exact Calls.quiet_of_same (g3 _)))
  clear hcl hca hcr hcs c1
  replace h := h.drewN nq
  replace hL := hL.drewN nq
  replace c0 : (w.drewN nq).cell? _ = _ := c0
  replace c2 : (w.drewN nq).cell? _ = _ := c2
  generalize hq1 : w.drewN nq = w1 at h hL c0 c2 ⊢
  have HQ1 : Hid (w.drewN nq = w1) := hq1
  clear hq1 c3
  have hcs := h.cR s hs
  go_wp2_with fail
  go_quiet (first | (go_at_call 75; exact Calls.quiet_of_same (g4 _)))
  have hce := HC.out
  go_wp2
  go_ret2
  exact ⟨rfl, _, by rw [← HQ1.out, World.drewN_drewN]⟩

end Go.Proofs.YtfpgjkbjbbgciaaGreatDoor

namespace Go.Proofs.YtfpgjkbjbbgciaaGreatDoor
open Go.RowKit Sp

/-- A slice of numbers that lies below a block. -/
def SlB (w : World) (b : Nat) (v : Value) (l : List Int) : Prop := ∃ ao cap, v = .slice ao l.length cap ∧ l.length ≤ cap ∧ (0 < l.length → ∃ g o, ao = some ⟨g, o, none⟩ ∧ g < b ∧ g < w.heap.size ∧ ∀ j (h : j < l.length), w.cell? ⟨g, o + j, none⟩ = some (.int .i64 l[j]))
theorem SlB.below {w w' : World} {b : Nat} {v : Value} {l : List Int} (h : SlB w b v l) (hb : Below b w w') : SlB w' b v l := by
  obtain ⟨ao, cap, h1, h2, h3⟩ := h
  refine ⟨ao, cap, h1, h2, fun hp => ?_⟩
  obtain ⟨g, o, e, hg, hg2, hc⟩ := h3 hp
  exact ⟨g, o, e, hg, Nat.lt_of_lt_of_le hg2 hb.size, fun j hj => (hb.cell (p := ⟨g, o + j, none⟩) hg).trans (hc j hj)⟩
theorem LinesIn.below {w w' : World} {g : Nat} {L : List Said} (h : LinesIn w g L) (hb : Below w.heap.size w w') : LinesIn w' g L := by
  have c : ∀ p u, w.cell? p = some u → w'.cell? p = some u := fun p u hp => (hb.cell (World.block_lt_of_cell? w p hp)).trans hp
  refine ⟨fun i hi => c _ _ (h.kind i hi), fun i hi hp => ?_, h.wf⟩
  obtain ⟨b, k, h1, h2⟩ := h.words i hi hp
  exact ⟨b, k, c _ _ h1, fun j hj => c _ _ (h2 j hj)⟩
/-- The document's machine, whole. -/
structure RefAt (w : World) (b g cap2 : Nat) (L : List Said) (m : Mc) (bv iv ov : Value) : Prop where
  mem : RefM w b (.slice (some ⟨g, 0, none⟩) L.length cap2) bv iv ov m
  backs : w.ownsRow (b + 1) 3 1 bv m.backs.length (i64s m.backs)
  out : w.ownsRow (b + 1) 2 1 ov m.out.length (i64s m.out)
  inp : SlB w b iv m.inp
theorem row_not {w : World} {b : Nat} {e : TypeId} {size n : Nat} {v : Value} {xs : List Value} (h : w.ownsRow (b + 1) e size v n xs) : v.ownBlock ≠ some b := fun hb => by have := (h.lt b hb).1; omega
theorem RefAt.drewN {w : World} {b g cap2 : Nat} {L : List Said} {m : Mc} {bv iv ov : Value} (h : RefAt w b g cap2 L m bv iv ov) (n : Nat) : RefAt (w.drewN n) b g cap2 L m bv iv ov :=
  ⟨h.mem.drewN n, h.backs, h.out, h.inp⟩
theorem below_grown {w w' : World} {b : Nat} (hb : b < w.heap.size) (hg : w.grownBy w' (some b)) : Below b w w' := (Below.refl b w).grown hg (by omega) (fun j hj => by cases hj; exact Nat.le_refl _)
/-- Only the machine's own block has been written. -/
theorem RefAt.same {w w' : World} {b g cap2 : Nat} {L : List Said} {m m2 : Mc} {bv iv ov : Value} (h : RefAt w b g cap2 L m bv iv ov) (hM : RefM w' b (.slice (some ⟨g, 0, none⟩) L.length cap2) bv iv ov m2) (hg : w.grownBy w' (some b)) (e1 : m2.backs = m.backs) (e2 : m2.out = m.out) (e3 : m2.inp = m.inp) :
    RefAt w' b g cap2 L m2 bv iv ov ∧ Below b w w' := by
  have hb := below_grown h.mem.lt hg
  refine ⟨⟨hM, ?_, ?_, ?_⟩, hb⟩
  · rw [e1]; exact h.backs.kept hg (.inr (row_not h.backs))
  · rw [e2]; exact h.out.kept hg (.inr (row_not h.out))
  · rw [e3]; exact h.inp.below hb
/-- What a step comes to. -/
def StepPost (w : World) (b g cap2 : Nat) (L : List Said) (m2 : Mc) : Ending → World → Prop := fun e w' =>
  e = .returned (.bool (decide (¬ (m2.fin = 3 ∨ m2.fin = 4)))) ∧ ∃ bv iv ov, RefAt w' b g cap2 L m2 bv iv ov ∧ Below b w w'
/-- What is known ahead of a step. -/
structure RStep (w : World) (b wb wc g cap2 k : Nat) (L : List Said) (m : Mc) (bv iv ov : Value) (l : List ByteArray) (next : Int) : Prop where
  ref : RefAt w b g cap2 L m bv iv ov
  fin : m.fin = 0
  at_ : m.at' = (k : Int)
  lt : k < L.length
  few : L.length ≤ 300
  lines : LinesIn w g L
  low : ∀ W, Below b w W → LinesIn W g L
  wd : w.cell? ⟨g, k * 2 + 1, none⟩ = some (.slice (some ⟨wb, 0, none⟩) l.length wc)
  words : WdIn w wb l
  apart : ¬ wb = b
  sizes : ∀ x ∈ l, x.size ≤ 1048576
  next_ : nextFrom L (k + 1) = next
  st0 : 0 ≤ m.steps
  st1 : m.steps ≤ 100000
theorem WdIn.drewN {w : World} {wb : Nat} {l : List ByteArray} (h : WdIn w wb l) (n : Nat) : WdIn (w.drewN n) wb l := h
theorem grown_drewN {w w' : World} {n : Nat} {r : Option Nat} (h : (w.drewN n).grownBy w' r) : w.grownBy w' r := ⟨h.os, h.tape, h.output, h.size, h.block⟩
/-- An instruction that goes nowhere else, and writes the machine's block alone. -/
theorem RStep.does {w : World} {b wb wc g cap2 k : Nat} {L : List Said} {m m1 : Mc} {bv iv ov : Value} {l : List ByteArray} {next : Int} (S : RStep w b wb wc g cap2 k L m bv iv ov l next)
    (hmv : ∀ n, Calls Tryz.prog 89 #[.pointer (some ⟨b, 0, none⟩), .slice (some ⟨wb, 0, none⟩) l.length wc, .int .i64 next] (w.drewN n) fun e w' => e = .returned (.tuple #[.int .i64 next, .bool false]) ∧ w' = w.drewN n)
    (hdo : ∀ n, Calls Tryz.prog 90 #[.pointer (some ⟨b, 0, none⟩), .slice (some ⟨wb, 0, none⟩) l.length wc] (w.drewN n) fun e w' => e = .returned (.tuple #[]) ∧ RefM w' b (.slice (some ⟨g, 0, none⟩) L.length cap2) bv iv ov m1 ∧ (w.drewN n).grownBy w' (some b))
    (hf : m1.fin = 0) (hs : m1.steps = m.steps) (e1 : m1.backs = m.backs) (e2 : m1.out = m.out) (e3 : m1.inp = m.inp) :
    Calls Tryz.prog 55 #[.pointer (some ⟨b, 0, none⟩)] w (StepPost w b g cap2 L (m1.goes next)) := by
  have S0 := S.st0
  have S1 := S.st1
  refine (step_done w b wb wc l.length g cap2 k bv iv ov L m m1 S.ref.mem S.fin S.at_ S.lt S.few S.lines S.wd next S.next_ (fun w1 bv' iv' ov' => w.grownBy w1 (some b) ∧ bv' = bv ∧ iv' = iv ∧ ov' = ov) 0 hmv
    (fun n => (hdo n).mono ?_) hf rfl rfl (by rw [hs]; omega)).mono ?_
  · rintro e w' ⟨h1, h2, h3⟩
    exact ⟨h1, bv, iv, ov, h2, grown_drewN h3, rfl, rfl, rfl⟩
  · rintro e w' ⟨rfl, w1, bv', iv', ov', hM, ⟨hg, rfl, rfl, rfl⟩, hg2⟩
    obtain ⟨q1, q2⟩ := S.ref.same hM (grown_trans2 hg hg2) e1 e2 e3
    refine ⟨?_, _, _, _, q1, q2⟩
    show _ = Ending.returned (.bool (decide (¬ (m1.fin = 3 ∨ m1.fin = 4))))
    rw [hf]; rfl
theorem RStep.stuck {w : World} {b wb wc g cap2 k : Nat} {L : List Said} {m m1 : Mc} {bv iv ov : Value} {l : List ByteArray} {next : Int} (S : RStep w b wb wc g cap2 k L m bv iv ov l next)
    (hmv : ∀ n, Calls Tryz.prog 89 #[.pointer (some ⟨b, 0, none⟩), .slice (some ⟨wb, 0, none⟩) l.length wc, .int .i64 next] (w.drewN n) fun e w' => e = .returned (.tuple #[.int .i64 next, .bool false]) ∧ w' = w.drewN n)
    (hdo : ∀ n, Calls Tryz.prog 90 #[.pointer (some ⟨b, 0, none⟩), .slice (some ⟨wb, 0, none⟩) l.length wc] (w.drewN n) fun e w' => e = .returned (.tuple #[]) ∧ RefM w' b (.slice (some ⟨g, 0, none⟩) L.length cap2) bv iv ov m1 ∧ (w.drewN n).grownBy w' (some b))
    (hf : m1.fin = 3) (e1 : m1.backs = m.backs) (e2 : m1.out = m.out) (e3 : m1.inp = m.inp) :
    Calls Tryz.prog 55 #[.pointer (some ⟨b, 0, none⟩)] w (StepPost w b g cap2 L m1) := by
  refine (step_stuck w b wb wc l.length g cap2 k bv iv ov L m m1 S.ref.mem S.fin S.at_ S.lt S.few S.lines S.wd next S.next_ (fun w1 bv' iv' ov' => w.grownBy w1 (some b) ∧ bv' = bv ∧ iv' = iv ∧ ov' = ov) hmv
    (fun n => (hdo n).mono ?_) hf).mono ?_
  · rintro e w' ⟨h1, h2, h3⟩
    exact ⟨h1, bv, iv, ov, h2, grown_drewN h3, rfl, rfl, rfl⟩
  · rintro e w' ⟨rfl, bv', iv', ov', hM, hg, rfl, rfl, rfl⟩
    obtain ⟨q1, q2⟩ := S.ref.same hM hg e1 e2 e3
    refine ⟨?_, _, _, _, q1, q2⟩
    rw [hf]; rfl
/-- An instruction that goes elsewhere, and writes the machine's block alone. -/
theorem RStep.moves {w : World} {b wb wc g cap2 k : Nat} {L : List Said} {m m1 : Mc} {bv iv ov : Value} {l : List ByteArray} {next : Int} (S : RStep w b wb wc g cap2 k L m bv iv ov l next) (to z : Int)
    (hmv : ∀ n, Calls Tryz.prog 89 #[.pointer (some ⟨b, 0, none⟩), .slice (some ⟨wb, 0, none⟩) l.length wc, .int .i64 next] (w.drewN n) fun e w' => e = .returned (.tuple #[.int .i64 to, .bool true]) ∧ RefM w' b (.slice (some ⟨g, 0, none⟩) L.length cap2) bv iv ov m1 ∧ (w.drewN n).grownBy w' (some b))
    (hf : m1.fin = z) (hz : z = 0 ∨ z = 1 ∨ z = 2) (hs : m1.steps = m.steps) (e1 : m1.backs = m.backs) (e2 : m1.out = m.out) (e3 : m1.inp = m.inp) :
    Calls Tryz.prog 55 #[.pointer (some ⟨b, 0, none⟩)] w (StepPost w b g cap2 L (m1.goes to)) := by
  have S0 := S.st0
  have S1 := S.st1
  refine (step_moved w b wb wc l.length g cap2 k bv iv ov L m m1 S.ref.mem S.fin S.at_ S.lt S.few S.lines S.wd next S.next_ (fun w1 bv' iv' ov' => w.grownBy w1 (some b) ∧ bv' = bv ∧ iv' = iv ∧ ov' = ov) to z
    (fun n => (hmv n).mono ?_) hf (by rcases hz with rfl | rfl | rfl <;> rfl) (by rcases hz with rfl | rfl | rfl <;> rfl) (by rw [hs]; omega)).mono ?_
  · rintro e w' ⟨h1, h2, h3⟩
    exact ⟨h1, bv, iv, ov, h2, grown_drewN h3, rfl, rfl, rfl⟩
  · rintro e w' ⟨rfl, w1, bv', iv', ov', hM, ⟨hg, rfl, rfl, rfl⟩, hg2⟩
    obtain ⟨q1, q2⟩ := S.ref.same hM (grown_trans2 hg hg2) e1 e2 e3
    refine ⟨?_, _, _, _, q1, q2⟩
    show _ = Ending.returned (.bool (decide (¬ (m1.fin = 3 ∨ m1.fin = 4))))
    rw [hf]
    rcases hz with rfl | rfl | rfl <;> rfl

end Go.Proofs.YtfpgjkbjbbgciaaGreatDoor
