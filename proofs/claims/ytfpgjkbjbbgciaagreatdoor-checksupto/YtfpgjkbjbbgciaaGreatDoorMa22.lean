import Derived.Test.YtfpgjkbjbbgciaaGreatDoorMa21
import Derived.Test.YtfpgjkbjbbgciaaGreatDoorMa11
namespace Go.Proofs.YtfpgjkbjbbgciaaGreatDoor
open Go.RowKit Sp

theorem fn_bd (L : List Said) (x : ByteArray) (i : Nat) : -1 ≤ fnFrom L x i ∧ fnFrom L x i ≤ L.length := by
  by_cases h : i < L.length
  · cases h' : isFn L[i] x with
    | true => rw [fnFrom_hit L x i h h']; omega
    | false => rw [fnFrom_on L x i h h']; exact fn_bd L x (i + 1)
  · rw [fnFrom_end L x i h]; omega
termination_by L.length - i
theorem labFrom_bd (L : List Said) (x : ByteArray) (i : Nat) : -1 ≤ labFrom L x i ∧ labFrom L x i ≤ L.length := by
  by_cases h : i < L.length
  · by_cases h0 : L[i].kind = 102
    · rw [labFrom_f L x i h h0]; omega
    · cases h' : isLab L[i] x with
      | true => rw [labFrom_hit L x i h h0 h']; omega
      | false => rw [labFrom_on L x i h h0 h']; exact labFrom_bd L x (i + 1)
  · rw [labFrom_end L x i h]; omega
termination_by L.length - i
theorem lab_bd (L : List Said) (k : Nat) (x : ByteArray) : -1 ≤ labOf L k x ∧ labOf L k x ≤ L.length := labFrom_bd L x _

theorem twice_f (L : List Said) (k : Nat) (h : k < L.length) (h1 : (L[k].kind == 102) = true) (hl : 1 < L[k].kept.length) : twiceB L k = decide (fnFrom L (L[k].kept[1]) 0 < k) := by
  rw [beq_iff_eq] at h1
  unfold twiceB; rw [List.getElem?_eq_getElem h]; simp only [h1, if_true, word_at _ 1 hl]
theorem twice_l (L : List Said) (k : Nat) (h : k < L.length) (h1 : (L[k].kind == 108) = true) (hl : 0 < L[k].kept.length) : twiceB L k = decide (labOf L k (L[k].kept[0]) < k) := by
  rw [beq_iff_eq] at h1
  unfold twiceB; rw [List.getElem?_eq_getElem h]; simp only [h1, word_at _ 0 hl]; simp
theorem twice_o (L : List Said) (k : Nat) (h : k < L.length) (h1 : (L[k].kind == 102) = false) (h2 : (L[k].kind == 108) = false) : twiceB L k = false := by
  simp at h1 h2
  unfold twiceB; rw [List.getElem?_eq_getElem h]; simp only [h1, h2, if_false]

set_option maxRecDepth 100000 in
set_option maxHeartbeats 1000000 in
theorem twice_any (L : List Said) (g cap k : Nat) (w : World) (hL : LinesIn w g L) (hn : L.length ≤ 1048577) (hk : k < L.length) :
    Calls Tryz.prog 47 #[.slice (some ⟨g, 0, none⟩) L.length cap, .int .i64 (k : Int)] w fun e w' => e = .returned (.bool (twiceB L k)) ∧ w' = w := by
  have hc := hL.kind k hk
  have hb := wf_kind (hL.wf k hk)
  cases h102 : (L[k].kind == 102) with
  | true =>
    have h2 := wf_f (hL.wf k hk) h102
    have hlen : 1 < L[k].kept.length := by omega
    obtain ⟨b, c, hw, hwc⟩ := hL.words k hk (by omega)
    have hw1 := hwc 1 hlen
    clear hwc
    have HT : Hid (decide (fnFrom L (L[k].kept[1]) 0 < k) = twiceB L k) := (twice_f L k hk h102 hlen).symm
    rw [h2] at hw
    go_enter Tryz.func47, Tryz.ntmps47
    go_wp2_with (go_at_call 77; refine (fn_any L g cap _ _ hL hn).mono ?_; rintro e w' ⟨rfl, rfl⟩)
    go_ret
    exact ⟨ret_bool HT.out, rfl⟩
  | false =>
    cases h108 : (L[k].kind == 108) with
    | true =>
      have h2 := wf_l (hL.wf k hk) h108
      have hlen : 0 < L[k].kept.length := by omega
      obtain ⟨b, c, hw, hwc⟩ := hL.words k hk (by omega)
      have hw1 := hwc 0 hlen
      clear hwc
      have HT : Hid (decide (labOf L k (L[k].kept[0]) < k) = twiceB L k) := (twice_l L k hk h108 hlen).symm
      rw [h2] at hw
      go_enter Tryz.func47, Tryz.ntmps47
      go_wp2_with (go_at_call 78; refine (lab_any L g cap k _ _ hL hn hk).mono ?_; rintro e w' ⟨rfl, rfl⟩)
      go_ret
      exact ⟨ret_bool HT.out, rfl⟩
    | false =>
      have HT : Hid (false = twiceB L k) := (twice_o L k hk h102 h108).symm
      go_enter Tryz.func47, Tryz.ntmps47
      go_wp2
      go_ret
      exact ⟨ret_bool HT.out, rfl⟩

end Go.Proofs.YtfpgjkbjbbgciaaGreatDoor
