import Derived.Test.YtfpgjkbjbbgciaaGreatDoorMa12
import Derived.Test.YtfpgjkbjbbgciaaGreatDoorMa24
import Derived.Test.YtfpgjkbjbbgciaaGreatDoorMa09
import Derived.Lib.SplitLaws
namespace Go.Proofs.YtfpgjkbjbbgciaaGreatDoor.Sp

def pre (p : List UInt8) : List (List UInt8) → List (List UInt8)
  | h :: t => (p ++ h) :: t
  | [] => [p]
def linesL : List UInt8 → List (List UInt8)
  | [] => [[]]
  | c :: r => if c = 10 then [] :: linesL r else pre [c] (linesL r)
theorem pre_nil (l : List (List UInt8)) (h : l ≠ []) : pre [] l = l := by
  cases l with
  | nil => exact absurd rfl h
  | cons a b => rfl
theorem linesL_ne (l : List UInt8) : linesL l ≠ [] := by
  cases l with
  | nil => simp [linesL]
  | cons c r =>
    unfold linesL
    split
    · simp
    · cases linesL r <;> simp [pre]
theorem pre_pre (p q : List UInt8) (l : List (List UInt8)) : pre p (pre q l) = pre (p ++ q) l := by
  cases l <;> simp [pre]
theorem lines_L (s : ByteArray) (f i : Nat) (hf : f ≤ i) (hi : i ≤ s.size) : (linesAt s f i).map (·.data.toList) = pre ((s.data.toList.drop f).take (i - f)) (linesL (s.data.toList.drop i)) := by
  by_cases h : i < s.size
  · obtain ⟨c, r, h1, h2, h3⟩ := bt_drop s i h
    by_cases h10 : bt s i = 10
    · rw [linesAt_cut s f i h h10, List.map_cons, lines_L s (i + 1) (i + 1) (by omega) (by omega), h1, ← h3]
      have hc : c = 10 := by
        apply UInt8.toNat_inj.1
        have : (c.toNat : Int) = 10 := by omega
        simp; omega
      subst hc
      simp only [Nat.sub_self, List.take_zero]
      rw [pre_nil _ (linesL_ne _)]
      simp [linesL, pre]
    · rw [linesAt_on s f i h h10, lines_L s f (i + 1) (by omega) (by omega), h1, ← h3]
      have hc : ¬ c = 10 := by
        intro e; apply h10; rw [← h2, e]; rfl
      simp only [linesL, hc, if_false]
      rw [pre_pre]
      congr 1
      have e : i + 1 - f = (i - f) + 1 := by omega
      rw [e, List.take_add_one]
      congr 1
      rw [List.getElem?_drop]
      have e2 : f + (i - f) = i := by omega
      rw [e2]
      have h5 : s.data.toList[i]? = some c := by
        have : (s.data.toList.drop i)[0]? = some c := by rw [h1]; rfl
        rw [List.getElem?_drop] at this
        simpa using this
      rw [h5]; rfl
  · have hz : i = s.size := by omega
    rw [linesAt_end s f i h]
    have hl : s.data.toList.drop i = [] := List.drop_of_length_le (by simp; omega)
    rw [hl]
    simp [linesL, pre, hz]
termination_by s.size - i
theorem split_L (l : List UInt8) : Lib.splitK [10] 0 (Lib.count l [10]) l = linesL l := by
  induction l with
  | nil => rw [Lib.count_miss (by simp [Lib.index])]; rfl
  | cons c r ih =>
    by_cases hc : c = 10
    · subst hc
      rw [Lib.count_cons_eq, Nat.add_comm]
      have hix : Lib.index (10 :: r) [10] = 0 := by rw [Lib.index]; simp [List.isPrefixOf]
      unfold Lib.splitK
      rw [hix]
      simp only [linesL, if_true]
      rw [← ih]
      simp
    · rw [Lib.count_cons_ne c 10 r hc]
      have hp : ([10] : List UInt8).isPrefixOf (c :: r) = false := by simp [List.isPrefixOf, Ne.symm hc]
      have hix : Lib.index (c :: r) [10] = if Lib.index r [10] == -1 then -1 else Lib.index r [10] + 1 := by rw [Lib.index, hp]; simp
      simp only [linesL, hc, if_false]
      rw [← ih]
      by_cases hm : Lib.index r [10] = -1
      · rw [Lib.count_miss hm]; rfl
      · have hge := Lib.index_ge r [10]
        obtain ⟨j, hj⟩ : ∃ j : Nat, Lib.index r [10] = j := ⟨(Lib.index r [10]).toNat, by omega⟩
        rw [Lib.count_hit (by simp) hj, Nat.add_comm]
        unfold Lib.splitK
        rw [hix, hj]
        have b1 : (((j : Nat) : Int) == -1) = false := by simp
        have b2 : (((j : Nat) : Int) + 1 == -1) = false := by simp; omega
        simp only [b1, b2, if_false, Bool.false_eq_true]
        have e1 : ((j : Int) + 1).toNat = j + 1 := by omega
        have e2 : ((j : Nat) : Int).toNat = j := by omega
        rw [e1, e2]
        simp [pre]
theorem split_lines (s : ByteArray) : Lib.splitB ⟨#[10]⟩ 0 (Lib.countB s ⟨#[10]⟩) s = lines s := by
  have h1 : (Lib.splitB ⟨#[10]⟩ 0 (Lib.countB s ⟨#[10]⟩) s).map (·.data.toList) = (lines s).map (·.data.toList) := by
    rw [Lib.splitB_data]
    have h2 := lines_L s 0 0 (by omega) (by omega)
    simp only [List.drop_zero, Nat.sub_self, List.take_zero] at h2
    rw [pre_nil _ (linesL_ne _)] at h2
    show Lib.splitK [10] 0 (Lib.count s.data.toList [10]) s.data.toList = (linesAt s 0 0).map _
    rw [h2, split_L]
  refine (List.map_inj_right ?_).1 h1
  intro a b h
  exact ByteArray.ext (Array.ext' h)
theorem count_lines (s : ByteArray) : (lines s).length = Lib.countByte s.data.toList 10 + 1 ∧ Lib.countB s ⟨#[10]⟩ + 1 = (lines s).length := by
  have h := Lib.splitB_all ⟨#[10]⟩ (by decide) 0 _ s rfl
  rw [split_lines] at h
  refine ⟨?_, h.symm⟩
  rw [h]
  unfold Lib.countByte
  rw [← Lib.count_one]

end Go.Proofs.YtfpgjkbjbbgciaaGreatDoor.Sp
