import Derived.Test.YtfpgjkbjbbgciaaGreatDoorMa02
namespace Go.Proofs.YtfpgjkbjbbgciaaGreatDoor.Sp

/-- The least of the numbers, behind a name. -/
def least : Int := -9223372036854775808
def numBad (n d : Int) : Bool := decide (d < 0) || decide (9 < d) || decide (n < (least + d).tdiv 10)
/-- The number that the digits from a place on are, kept below nought. -/
def numAt (s : ByteArray) (i : Nat) (n : Int) : Option Int :=
  if i < s.size then
    if numBad n (bt s i - 48) = true then none else numAt s (i + 1) (10 * n - (bt s i - 48))
  else some n
termination_by s.size - i
theorem numAt_end (s : ByteArray) (i : Nat) (n : Int) (h : ¬ i < s.size) : numAt s i n = some n := by
  rw [numAt, if_neg h]
theorem numAt_bad (s : ByteArray) (i : Nat) (n : Int) (h : i < s.size) (h' : numBad n (bt s i - 48) = true) : numAt s i n = none := by
  rw [numAt, if_pos h, if_pos h']
theorem numAt_next (s : ByteArray) (i : Nat) (n : Int) (h : i < s.size) (h' : ¬ numBad n (bt s i - 48) = true) : numAt s i n = numAt s (i + 1) (10 * n - (bt s i - 48)) := by
  rw [numAt, if_pos h, if_neg h']
def numEnd (minus : Bool) : Option Int → Int × Bool
  | none => (0, false)
  | some n => if minus = true then (n, true) else (if n = least then least else -n, decide (least < n))
def minusB (s : ByteArray) : Bool := decide (0 < s.size) && decide (bt s 0 = 45)
def numOf (s : ByteArray) : Int × Bool :=
  if minusB s = true then (if s.size = 1 then (0, false) else numEnd true (numAt s 1 0))
  else (if s.size = 0 then (0, false) else numEnd false (numAt s 0 0))
theorem tdiv_low (d : Int) (h : d ≤ 9) : (least + d).tdiv 10 = -((9223372036854775808 - d) / 10) := by
  have e : least + d = -(9223372036854775808 - d) := by unfold least; omega
  rw [e, Int.neg_tdiv, Int.tdiv_eq_ediv_of_nonneg (by omega)]
theorem num_step (n d : Int) (h : ¬ numBad n d = true) (h0 : least ≤ n) (h1 : n ≤ 0) : least ≤ 10 * n - d ∧ 10 * n - d ≤ 0 ∧ 0 ≤ d ∧ d ≤ 9 := by
  simp [numBad] at h
  obtain ⟨⟨h2, h3⟩, h4⟩ := h
  rw [tdiv_low d h3] at h4
  unfold least at *
  omega

end Go.Proofs.YtfpgjkbjbbgciaaGreatDoor.Sp
