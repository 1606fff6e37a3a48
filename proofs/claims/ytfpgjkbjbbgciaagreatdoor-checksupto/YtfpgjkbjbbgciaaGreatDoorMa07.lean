import Derived.Test.YtfpgjkbjbbgciaaGreatDoorMa01
import Derived.Test.YtfpgjkbjbbgciaaGreatDoorMa06
import Derived.Lib.Strings
namespace Go.Proofs.YtfpgjkbjbbgciaaGreatDoor
open Go.RowKit Sp

theorem isEmpty_yes (s : ByteArray) (h : s.size = 0) : s.toList.isEmpty = true := by
  have h' : s.data.size = 0 := h
  rw [ByteArray.toList_eq, List.isEmpty_iff]
  exact List.eq_nil_of_length_eq_zero (by simpa using h')
theorem isEmpty_no (s : ByteArray) (h : ¬ s.size = 0) : s.toList.isEmpty = false := by
  have h' : ¬ s.data.size = 0 := h
  rw [ByteArray.toList_eq]
  cases e : s.data.toList with
  | nil => exact absurd (by rw [← Array.length_toList, e]; rfl) h'
  | cons a l => rfl
theorem ret_ib {k : IntKind} {a : Int} {b : Bool} {R : Int × Bool} (h : (a, b) = R) : Ending.returned (.tuple #[.int k a, .bool b]) = .returned (.tuple #[.int k R.1, .bool R.2]) := by rw [← h]
theorem num_wrap (n d : Int) (h1 : 0 ≤ d) (h2 : d ≤ 9) (h3 : n ≤ 0) (h4 : (-9223372036854775808 + d).tdiv 10 ≤ n) : wrap64 (wrap64 (10 * n) - d) = 10 * n - d := by
  have e := tdiv_low d h2
  unfold least at e
  rw [e] at h4
  have e1 : wrap64 (10 * n) = 10 * n := IntWalk.wrap64_in _ (by omega)
  rw [e1]
  exact IntWalk.wrap64_in _ (by omega)
theorem numBad_no (n d : Int) (h1 : 0 ≤ d) (h2 : d ≤ 9) (h4 : (-9223372036854775808 + d).tdiv 10 ≤ n) : ¬ numBad n d = true := by
  unfold numBad least
  simp
  omega
theorem numBad_yes (n d : Int) (h : d < 0 ∨ 9 < d ∨ n < (-9223372036854775808 + d).tdiv 10) : numBad n d = true := by
  unfold numBad least
  simp
  omega
theorem num_stop (s : ByteArray) (R : Int × Bool) (m : Bool) (j : Nat) (n d : Int) (hR : R = numEnd m (numAt s j n)) (hj : j < s.size) (e : d = bt s j - 48) (h : d < 0 ∨ 9 < d ∨ n < (-9223372036854775808 + d).tdiv 10) : (0, false) = R := by
  subst e; rw [hR, numAt_bad s j n hj (numBad_yes _ _ h)]; rfl
theorem num_next (s : ByteArray) (R : Int × Bool) (m : Bool) (j : Nat) (n d : Int) (hR : R = numEnd m (numAt s j n)) (hj : j < s.size) (e : d = bt s j - 48) (h1 : 0 ≤ d) (h2 : d ≤ 9) (h4 : (-9223372036854775808 + d).tdiv 10 ≤ n) : R = numEnd m (numAt s (j + 1) (10 * n - d)) := by
  subst e; rw [hR, numAt_next s j n hj (numBad_no _ _ h1 h2 h4)]
theorem num_low (n d : Int) (h1 : 0 ≤ d) (h2 : d ≤ 9) (h3 : n ≤ 0) (h4 : (-9223372036854775808 + d).tdiv 10 ≤ n) : least ≤ 10 * n - d ∧ 10 * n - d ≤ 0 := by
  have e := tdiv_low d h2
  unfold least at e
  rw [e] at h4
  unfold least
  omega
theorem bt_extract (s : ByteArray) (j : Nat) (h : j + 1 < s.size) : bt (s.extract 1 s.size) j = bt s (j + 1) := by
  have h' : j + 1 < s.data.size := h
  unfold bt
  congr 2
  rw [ByteArray.data_extract, Array.getElem?_extract]
  rw [if_pos (by omega)]
  congr 2
  omega
theorem size_extract (s : ByteArray) : (s.extract 1 s.size).size = s.size - 1 := by
  rw [ByteArray.size_extract]; omega
theorem numAt_extract (s : ByteArray) (j : Nat) (n : Int) (h : 1 ≤ s.size) : numAt (s.extract 1 s.size) j n = numAt s (j + 1) n := by
  by_cases hj : j < (s.extract 1 s.size).size
  · have hs := size_extract s
    have e := bt_extract s j (by omega)
    by_cases hb : numBad n (bt (s.extract 1 s.size) j - 48) = true
    · rw [numAt_bad _ _ _ hj hb]
      rw [e] at hb
      rw [numAt_bad _ _ _ (by omega) hb]
    · rw [numAt_next _ _ _ hj hb]
      rw [e] at hb
      rw [numAt_next _ _ _ (by omega) hb, e]
      exact numAt_extract s (j + 1) _ h
  · have hs := size_extract s
    rw [numAt_end _ _ _ hj, numAt_end _ _ _ (by omega)]
termination_by (s.extract 1 s.size).size - j

theorem numOf_none (s : ByteArray) (h : minusB s = false) (hz : s.size = 0) : (0, false) = numOf s := by
  unfold numOf; rw [if_neg (by simp [h]), if_pos hz]
theorem numOf_plus (s : ByteArray) (h : minusB s = false) (hz : ¬ s.size = 0) : numOf s = numEnd false (numAt s 0 0) := by
  unfold numOf; rw [if_neg (by simp [h]), if_neg hz]
theorem numOf_lone (s : ByteArray) (h : minusB s = true) (hz : s.size = 1) : (0, false) = numOf s := by
  unfold numOf; rw [if_pos h, if_pos hz]
theorem numOf_minus (s : ByteArray) (h : minusB s = true) (hz : ¬ s.size = 1) : numOf s = numEnd true (numAt s 1 0) := by
  unfold numOf; rw [if_pos h, if_neg hz]
theorem minus_not (s : ByteArray) (h : minusB s = false) (hp : 0 < s.size) : ((s[0].toNat : Int) == 45) = false := by
  have e := bt_eq s 0 hp
  simp [minusB, hp] at h
  simp [e, h]
theorem minus_is (s : ByteArray) (h : minusB s = true) : ∃ hp : 0 < s.size, ((s[0].toNat : Int) == 45) = true := by
  simp [minusB] at h
  refine ⟨h.1, ?_⟩
  have e := bt_eq s 0 h.1
  simp [e, h.2]
theorem numEnd_minus (n : Int) : (n, true) = numEnd true (some n) := rfl
theorem numEnd_plus (n : Int) (h0 : -9223372036854775808 ≤ n) (h1 : n ≤ 0) : (wrap64 (-n), decide (-9223372036854775808 < n)) = numEnd false (some n) := by
  have e : numEnd false (some n) = (if n = least then least else -n, decide (least < n)) := rfl
  rw [e]
  unfold least
  by_cases h : n = -9223372036854775808
  · rw [if_pos h]; subst h; unfold wrap64; simp
  · rw [if_neg h, IntWalk.wrap64_in _ (by omega)]

set_option maxRecDepth 100000 in
set_option maxHeartbeats 2000000 in
theorem num_plus (s : ByteArray) (w : World) (hs : s.size ≤ 140737488355328) (h : minusB s = false) :
    Calls Tryz.prog 76 #[.string s] w fun e w' => e = .returned (.tuple #[.int .i64 (numOf s).1, .bool (numOf s).2]) ∧ w' = w := by
  by_cases hz : s.size = 0
  · have he := isEmpty_yes s hz
    have HQ : Hid ((0, false) = numOf s) := numOf_none s h hz
    go_enter Tryz.func76, Tryz.ntmps76
    go_wp2
    go_ret2
    exact ⟨ret_ib HQ.out, rfl⟩
  · have he := isEmpty_no s hz
    have hp : 0 < s.size := by omega
    have hb := minus_not s h hp
    have hR := numOf_plus s h hz
    generalize numOf s = R at hR
    have HR : Hid (R = numEnd false (numAt s 0 0)) := hR
    clear hR h
    go_enter Tryz.func76, Tryz.ntmps76
    go_wp2
    go_loop [5, 6] (fun tn ti => ∃ (j : Nat) (n : Int), j ≤ s.size ∧ least ≤ n ∧ n ≤ 0 ∧ ti = .int .i64 (j : Int) ∧ tn = .int .i64 n ∧ R = numEnd false (numAt s j n)) (fun _ ti => s.size - (intOf ti).toNat)
    case atStart => exact ⟨0, 0, by omega, by unfold least; omega, by omega, rfl, rfl, HR.out⟩
    case round =>
      obtain ⟨j, n, hj, hn0, hn1, rfl, rfl, hR⟩ := hrel
      clear HR
      have HR : Hid (R = numEnd false (numAt s j n)) := hR
      clear hR
      unfold least at hn0
      by_cases hlt : j < s.size
      · have hc0 : 0 ≤ (s[j].toNat : Int) := by omega
        have hc1 : (s[j].toNat : Int) ≤ 255 := by have := s[j].toNat_lt; omega
        have HE : Hid ((s[j].toNat : Int) = bt s j) := bt_eq s j hlt
        go_wp2
        all_goals first
          | (go_ret2; have e := HE.out; exact ⟨ret_ib (num_stop s R false j n ((s[j].toNat : Int) - 48) HR.out hlt (by rw [e]) (by omega)), rfl⟩)
          | (go_round
             case rel =>
               have e := HE.out
               have h4 : (-9223372036854775808 + ((s[j].toNat : Int) - 48)).tdiv 10 ≤ n := by omega
               have hl := num_low n ((s[j].toNat : Int) - 48) (by omega) (by omega) hn1 h4
               exact ⟨j + 1, 10 * n - ((s[j].toNat : Int) - 48), by omega, hl.1, hl.2, by go_num, by rw [num_wrap n _ (by omega) (by omega) hn1 h4], num_next s R false j n ((s[j].toNat : Int) - 48) HR.out hlt (by rw [e]) (by omega) (by omega) h4⟩
             case measure => simp [intOf]; omega)
      · have HF : Hid (R = numEnd false (some n)) := by rw [HR.out, numAt_end s j n hlt]; rfl
        go_wp2
        go_ret2
        exact ⟨ret_ib ((numEnd_plus n hn0 hn1).trans HF.out.symm), rfl⟩

set_option maxRecDepth 100000 in
set_option maxHeartbeats 2000000 in
theorem num_minus (s : ByteArray) (w : World) (hs : s.size ≤ 140737488355328) (h : minusB s = true) :
    Calls Tryz.prog 76 #[.string s] w fun e w' => e = .returned (.tuple #[.int .i64 (numOf s).1, .bool (numOf s).2]) ∧ w' = w := by
  obtain ⟨hp, hb⟩ := minus_is s h
  have hsz := size_extract s
  by_cases hz : s.size = 1
  · have he := isEmpty_yes (s.extract 1 s.size) (by omega)
    have HQ : Hid ((0, false) = numOf s) := numOf_lone s h hz
    clear hsz h
    go_enter Tryz.func76, Tryz.ntmps76
    go_wp2
    go_ret2
    exact ⟨ret_ib HQ.out, rfl⟩
  · have he := isEmpty_no (s.extract 1 s.size) (by omega)
    have hR := numOf_minus s h hz
    rw [← numAt_extract s 0 0 (by omega)] at hR
    generalize numOf s = R at hR
    have HR : Hid (R = numEnd true (numAt (s.extract 1 s.size) 0 0)) := hR
    have HZ : Hid ((s.extract 1 s.size).size = s.size - 1) := hsz
    have hts : (s.extract 1 s.size).size ≤ 140737488355328 := by omega
    clear hR h hsz
    go_enter Tryz.func76, Tryz.ntmps76
    go_wp2
    generalize s.extract 1 s.size = t at *
    go_loop [5, 6] (fun tn ti => ∃ (j : Nat) (n : Int), j ≤ t.size ∧ least ≤ n ∧ n ≤ 0 ∧ ti = .int .i64 (j : Int) ∧ tn = .int .i64 n ∧ R = numEnd true (numAt t j n)) (fun _ ti => t.size - (intOf ti).toNat)
    case atStart => exact ⟨0, 0, by omega, by unfold least; omega, by omega, rfl, rfl, HR.out⟩
    case round =>
      obtain ⟨j, n, hj, hn0, hn1, rfl, rfl, hR⟩ := hrel
      clear HR
      have HR : Hid (R = numEnd true (numAt t j n)) := hR
      clear hR
      unfold least at hn0
      by_cases hlt : j < t.size
      · have hc0 : 0 ≤ (t[j].toNat : Int) := by omega
        have hc1 : (t[j].toNat : Int) ≤ 255 := by have := t[j].toNat_lt; omega
        have HE : Hid ((t[j].toNat : Int) = bt t j) := bt_eq t j hlt
        go_wp2
        all_goals first
          | (go_ret2; have e := HE.out; exact ⟨ret_ib (num_stop t R true j n ((t[j].toNat : Int) - 48) HR.out hlt (by rw [e]) (by omega)), rfl⟩)
          | (go_round
             case rel =>
               have e := HE.out
               have h4 : (-9223372036854775808 + ((t[j].toNat : Int) - 48)).tdiv 10 ≤ n := by omega
               have hl := num_low n ((t[j].toNat : Int) - 48) (by omega) (by omega) hn1 h4
               exact ⟨j + 1, 10 * n - ((t[j].toNat : Int) - 48), by omega, hl.1, hl.2, by go_num, by rw [num_wrap n _ (by omega) (by omega) hn1 h4], num_next t R true j n ((t[j].toNat : Int) - 48) HR.out hlt (by rw [e]) (by omega) (by omega) h4⟩
             case measure => simp [intOf]; omega)
      · have HF : Hid (R = numEnd true (some n)) := by rw [HR.out, numAt_end t j n hlt]; rfl
        go_wp2
        go_ret2
        exact ⟨ret_ib ((numEnd_minus n).trans HF.out.symm), rfl⟩

theorem num_any (s : ByteArray) (w : World) (hs : s.size ≤ 140737488355328) :
    Calls Tryz.prog 76 #[.string s] w fun e w' => e = .returned (.tuple #[.int .i64 (numOf s).1, .bool (numOf s).2]) ∧ w' = w := by
  cases h : minusB s with
  | true => exact num_minus s w hs h
  | false => exact num_plus s w hs h

end Go.Proofs.YtfpgjkbjbbgciaaGreatDoor
