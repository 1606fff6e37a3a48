import Derived.Test.YtfpgjkbjbbgciaaGreatDoorMa11
import Derived.Test.YtfpgjkbjbbgciaaGreatDoorMa10
import Derived.Defers
import Derived.Recover
namespace Go.Proofs.YtfpgjkbjbbgciaaGreatDoor.Sp

def badB (L : List Said) (q k : Nat) : Bool := if q = 0 then twiceB L k else if q = 1 then missingB L k else endlessB L k
/-- One look over all lines, from a line on; `c`: what comes behind it. -/
def pass (L : List Said) (q j : Nat) (c : Int × Int) : Int × Int :=
  if j < L.length then (if badB L q j = true then (3 + (q : Int), (j : Int) + 1) else pass L q (j + 1) c) else c
termination_by L.length - j
theorem pass_end (L : List Said) (q j : Nat) (c : Int × Int) (h : ¬ j < L.length) : pass L q j c = c := by rw [pass, if_neg h]
theorem pass_bad (L : List Said) (q j : Nat) (c : Int × Int) (h : j < L.length) (h' : badB L q j = true) : pass L q j c = (3 + (q : Int), (j : Int) + 1) := by rw [pass, if_pos h, if_pos h']
theorem pass_on (L : List Said) (q j : Nat) (c : Int × Int) (h : j < L.length) (h' : badB L q j = false) : pass L q j c = pass L q (j + 1) c := by rw [pass, if_pos h, if_neg (by simp [h'])]
def tail (L : List Said) (q : Nat) : Int × Int := if q = 0 then pass L 0 0 (pass L 1 0 (pass L 2 0 (0, 0))) else if q = 1 then pass L 1 0 (pass L 2 0 (0, 0)) else if q = 2 then pass L 2 0 (0, 0) else (0, 0)
theorem tail_step (L : List Said) (q : Nat) (h : q < 3) : tail L q = pass L q 0 (tail L (q + 1)) := by
  match q, h with
  | 0, _ => rfl
  | 1, _ => rfl
  | 2, _ => rfl
/-- The first line that says something, from a line on. -/
def startAt (L : List Said) (i : Nat) : Int × Int :=
  if h : i < L.length then (if L[i].kind = 0 then startAt L (i + 1) else if L[i].kind = 102 then tail L 0 else (2, (i : Int) + 1)) else (2, 0)
termination_by L.length - i
theorem startAt_end (L : List Said) (i : Nat) (h : ¬ i < L.length) : startAt L i = (2, 0) := by rw [startAt, dif_neg h]
theorem startAt_on (L : List Said) (i : Nat) (h : i < L.length) (h' : L[i].kind = 0) : startAt L i = startAt L (i + 1) := by rw [startAt, dif_pos h, if_pos h']
theorem startAt_f (L : List Said) (i : Nat) (h : i < L.length) (h' : ¬ L[i].kind = 0) (h2 : L[i].kind = 102) : startAt L i = tail L 0 := by rw [startAt, dif_pos h, if_neg h', if_pos h2]
theorem startAt_n (L : List Said) (i : Nat) (h : i < L.length) (h' : ¬ L[i].kind = 0) (h2 : ¬ L[i].kind = 102) : startAt L i = (2, (i : Int) + 1) := by rw [startAt, dif_pos h, if_neg h', if_neg h2]
/-- The first line that may not be said, from a line on. -/
def sayAt (A : List ByteArray) (i : Nat) : Int × Int :=
  if h : i < A.length then (if (say A[i]).ok = true then sayAt A (i + 1) else (1, (i : Int) + 1)) else startAt (A.map say) 0
termination_by A.length - i
theorem sayAt_end (A : List ByteArray) (i : Nat) (h : ¬ i < A.length) : sayAt A i = startAt (A.map say) 0 := by rw [sayAt, dif_neg h]
theorem sayAt_on (A : List ByteArray) (i : Nat) (h : i < A.length) (h' : (say A[i]).ok = true) : sayAt A i = sayAt A (i + 1) := by rw [sayAt, dif_pos h, if_pos h']
theorem sayAt_bad (A : List ByteArray) (i : Nat) (h : i < A.length) (h' : (say A[i]).ok = false) : sayAt A i = (1, (i : Int) + 1) := by rw [sayAt, dif_pos h, if_neg (by simp [h'])]
def readS (s : ByteArray) : Int × Int := if 4000 < s.size ∨ 300 < (lines s).length then (6, 0) else sayAt (lines s) 0

theorem linesAt_len (s : ByteArray) (f i : Nat) : 1 ≤ (linesAt s f i).length ∧ (linesAt s f i).length ≤ s.size - i + 1 := by
  by_cases h : i < s.size
  · by_cases h' : bt s i = 10
    · rw [linesAt_cut s f i h h']
      have := linesAt_len s (i + 1) (i + 1)
      simp; omega
    · rw [linesAt_on s f i h h']
      have := linesAt_len s f (i + 1)
      omega
  · rw [linesAt_end s f i h]; simp
termination_by s.size - i
theorem lines_len (s : ByteArray) : 1 ≤ (lines s).length ∧ (lines s).length ≤ s.size + 1 := linesAt_len s 0 0
theorem linesAt_sizes (s : ByteArray) (f i : Nat) : ∀ x ∈ linesAt s f i, x.size ≤ s.size := by
  by_cases h : i < s.size
  · by_cases h' : bt s i = 10
    · rw [linesAt_cut s f i h h']
      intro x hx
      rw [List.mem_cons] at hx
      rcases hx with rfl | hx
      · rw [ByteArray.size_extract]; omega
      · exact linesAt_sizes s (i + 1) (i + 1) x hx
    · rw [linesAt_on s f i h h']
      exact linesAt_sizes s f (i + 1)
  · rw [linesAt_end s f i h]
    intro x hx
    simp at hx; subst hx
    rw [ByteArray.size_extract]; omega
termination_by s.size - i
theorem lines_sizes (s : ByteArray) : ∀ x ∈ lines s, x.size ≤ s.size := linesAt_sizes s 0 0

theorem say_wf (s : ByteArray) (h : (say s).ok = true) : Wf (say s) := by
  unfold say at h ⊢
  split at h
  · rename_i hv
    rw [if_pos hv]
    generalize words s = l at h ⊢
    unfold sayW at h ⊢
    split at h
    · exact .inl ⟨rfl, rfl⟩
    · rename_i x r
      by_cases hf : isFunc x = true
      · rw [if_pos hf] at h ⊢
        simp only [Bool.and_eq_true, decide_eq_true_eq] at h
        exact .inr (.inl ⟨rfl, h.1⟩)
      · rw [if_neg hf] at h ⊢
        by_cases hl : (x :: r).length = 1 ∧ lastB x = 58
        · rw [if_pos hl] at h ⊢
          exact .inr (.inr (.inl ⟨rfl, rfl⟩))
        · rw [if_neg hl] at h ⊢
          simp only at h
          split at h
          · cases h
          · rename_i hs
            refine .inr (.inr (.inr ⟨rfl, by simp, ?_⟩))
            have h3 : (shapeOf x).length ≤ 3 := by
              unfold shapeOf
              repeat' split
              all_goals decide
            have h4 : (x :: r).length = (shapeOf x).length + 1 := by
              rcases Classical.em ((x :: r).length = (shapeOf x).length + 1) with h | h
              · exact h
              · exact absurd (.inr h) hs
            show (x :: r).length ≤ 4
            omega
  · cases h

end Go.Proofs.YtfpgjkbjbbgciaaGreatDoor.Sp

namespace Go.Proofs.YtfpgjkbjbbgciaaGreatDoor
open Go.RowKit Sp

theorem assert43_yes (W : World) (v : Value) : (Instr.typeAssert (.iface 115 v) 20 115 true).run Tryz.prog W = .ok (.tuple #[v, .bool true]) W := by kernel_rfl

theorem catch_world {w : World} {b : Nat} {x y : Value} (hx : w.cell? ⟨b, 0, none⟩ = some x) (hy : w.cell? ⟨b + 1, 0, none⟩ = some y) (e l : Value) (o : Obj) :
    Below b w (((w.setCell ⟨b, 0, none⟩ e).setCell ⟨b + 1, 0, none⟩ l).alloc o).drew ∧ (((w.setCell ⟨b, 0, none⟩ e).setCell ⟨b + 1, 0, none⟩ l).alloc o).drew.cell? ⟨b, 0, none⟩ = some e ∧ (((w.setCell ⟨b, 0, none⟩ e).setCell ⟨b + 1, 0, none⟩ l).alloc o).drew.cell? ⟨b + 1, 0, none⟩ = some l := by
  have hlt1 : b + 1 < w.heap.size := by have := World.block_lt_of_cell? w _ hy; simpa using this
  refine ⟨((((Below.refl b w).setCell (p := ⟨b, 0, none⟩) (Nat.le_refl _) _).setCell (p := ⟨b + 1, 0, none⟩) (Nat.le_succ b) _).alloc (by simp [World.setCell]; omega) _).drew, ?_, ?_⟩
  · show (((w.setCell ⟨b, 0, none⟩ e).setCell ⟨b + 1, 0, none⟩ l).alloc o).cell? ⟨b, 0, none⟩ = some e
    rw [World.cell?_alloc_lt _ o ⟨b, 0, none⟩ (by simp [World.setCell]; omega), World.cell?_setCell_other]
    · exact World.cell?_setCell_same w _ _ hx
    · simp
  · show (((w.setCell ⟨b, 0, none⟩ e).setCell ⟨b + 1, 0, none⟩ l).alloc o).cell? ⟨b + 1, 0, none⟩ = some l
    rw [World.cell?_alloc_lt _ o ⟨b + 1, 0, none⟩ (by simp [World.setCell]; omega)]
    refine World.cell?_setCell_same (u := y) _ _ _ ?_
    rw [World.cell?_setCell_other]
    · exact hy
    · simp

set_option maxRecDepth 100000 in
set_option maxHeartbeats 1000000 in
theorem catch_refusal (b : Nat) (x y e l : Int) (w : World) (hx : w.cell? ⟨b, 0, none⟩ = some (.int .i64 x)) (hy : w.cell? ⟨b + 1, 0, none⟩ = some (.int .i64 y)) (fx : w.frozen? ⟨b, 0, none⟩ = false) (fy : w.frozen? ⟨b + 1, 0, none⟩ = false) :
    CallsD Tryz.prog 64 #[.pointer (some ⟨b, 0, none⟩), .pointer (some ⟨b + 1, 0, none⟩)] (.panicking ({ v := .iface 115 (.agg #[.int .i64 e, .int .i64 l]), recovered := false } :: [])) w fun en u' w' =>
      en = .returned (.tuple #[]) ∧ u' = .panicking ({ v := .iface 115 (.agg #[.int .i64 e, .int .i64 l]), recovered := true } :: []) ∧ Below b w w' ∧ w'.cell? ⟨b, 0, none⟩ = some (.int .i64 e) ∧ w'.cell? ⟨b + 1, 0, none⟩ = some (.int .i64 l) := by
  have has := assert43_yes
  refine callsD_of_wpS Tryz.func64 rfl fun c₀ cs hu => ?_
  apply wpS_seq
  apply wpS_region
  simp [wpOpsS, go_sem, recoverD, hu, Tryz.ntmps64, Exit.thenS]
  refine wpS_of_wp ?_
  have hlt1 : b + 1 < w.heap.size := by have := World.block_lt_of_cell? w _ hy; simpa using this
  have hlt0 : b < w.heap.size := by omega
  have hn1 : ¬ b = w.heap.size := by omega
  have hn2 : ¬ b + 1 = w.heap.size := by omega
  go_wp2
  go_region
  all_goals exact ⟨rfl, _, rfl, .tuple #[], by simp [results, Tryz.results64], rfl, rfl, catch_world hx hy _ _ _⟩

set_option maxRecDepth 100000 in
set_option maxHeartbeats 1000000 in
theorem catch_idle (b : Nat) (w : World) :
    CallsD Tryz.prog 64 #[.pointer (some ⟨b, 0, none⟩), .pointer (some ⟨b + 1, 0, none⟩)] .returning w fun en u' w' => en = .returned (.tuple #[]) ∧ u' = .returning ∧ w' = w := by
  refine callsD_of_wpS Tryz.func64 rfl fun c₀ cs hu => ?_
  apply wpS_seq
  apply wpS_region
  simp [wpOpsS, go_sem, recoverD, hu, Tryz.ntmps64, Exit.thenS]
  refine wpS_of_wp ?_
  go_wp2
  exact ⟨rfl, .returning, by rw [← hu], .tuple #[], by simp [results, Tryz.results64], rfl, rfl, rfl⟩

end Go.Proofs.YtfpgjkbjbbgciaaGreatDoor
