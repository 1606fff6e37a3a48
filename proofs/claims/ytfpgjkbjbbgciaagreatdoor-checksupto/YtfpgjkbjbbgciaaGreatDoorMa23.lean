import Derived.Test.YtfpgjkbjbbgciaaGreatDoorMa22
namespace Go.Proofs.YtfpgjkbjbbgciaaGreatDoor
open Go.RowKit Sp

theorem missing_o (L : List Said) (k : Nat) (h : k < L.length) (h1 : (L[k].kind != 105) = true) : missingB L k = false := by
  simp at h1
  unfold missingB; rw [List.getElem?_eq_getElem h]; simp only [h1, if_false]
theorem missing_l (L : List Said) (k m : Nat) (h : k < L.length) (h1 : (L[k].kind != 105) = false) (hl : L[k].kept.length = m + 1) (h2 : asksLab (L[k].kept[0]) = true) : missingB L k = decide (labOf L k (L[k].kept[m]) < 0) := by
  simp at h1
  unfold missingB Said.last; rw [List.getElem?_eq_getElem h]; simp only [h1, if_true, word_at _ 0 (show 0 < L[k].kept.length by omega), h2, hl]
  rw [word_at _ (m + 1 - 1) (by omega)]; rfl
theorem missing_f (L : List Said) (k m : Nat) (h : k < L.length) (h1 : (L[k].kind != 105) = false) (hl : L[k].kept.length = m + 1) (h2 : asksLab (L[k].kept[0]) = false) (h3 : asksFn (L[k].kept[0]) = true) : missingB L k = decide (fnFrom L (L[k].kept[m]) 0 < 0) := by
  simp at h1
  unfold missingB Said.last; rw [List.getElem?_eq_getElem h]; simp only [h1, if_true, word_at _ 0 (show 0 < L[k].kept.length by omega), h2, h3, hl]
  rw [word_at _ (m + 1 - 1) (by omega)]; rfl
theorem missing_n (L : List Said) (k m : Nat) (h : k < L.length) (h1 : (L[k].kind != 105) = false) (hl : L[k].kept.length = m + 1) (h2 : asksLab (L[k].kept[0]) = false) (h3 : asksFn (L[k].kept[0]) = false) : missingB L k = false := by
  simp at h1
  unfold missingB; rw [List.getElem?_eq_getElem h]; simp [h1, word_at _ 0 (show 0 < L[k].kept.length by omega), h2, h3]
theorem asksLab_yes1 (x : ByteArray) (h : (x.toList == [106, 117, 109, 112]) = true) : asksLab x = true := by simp [asksLab, isW, h]
theorem asksLab_yes2 (x : ByteArray) (h : (x.toList == [108, 101, 115, 115]) = true) : asksLab x = true := by simp [asksLab, isW, h]
theorem asksLab_yes3 (x : ByteArray) (h : (x.toList == [115, 97, 109, 101]) = true) : asksLab x = true := by simp [asksLab, isW, h]
theorem asksLab_no (x : ByteArray) (h : (x.toList == [106, 117, 109, 112]) = false) (h1 : (x.toList == [108, 101, 115, 115]) = false) (h2 : (x.toList == [115, 97, 109, 101]) = false) : asksLab x = false := by simp [asksLab, isW, h, h1, h2]

set_option maxRecDepth 100000 in
set_option maxHeartbeats 1000000 in
theorem missing_any (L : List Said) (g cap k : Nat) (w : World) (hL : LinesIn w g L) (hn : L.length ≤ 1048577) (hk : k < L.length) :
    Calls Tryz.prog 48 #[.slice (some ⟨g, 0, none⟩) L.length cap, .int .i64 (k : Int)] w fun e w' => e = .returned (.bool (missingB L k)) ∧ w' = w := by
  have hc := hL.kind k hk
  have hb := wf_kind (hL.wf k hk)
  cases h105 : (L[k].kind != 105) with
  | true =>
    have HT : Hid (false = missingB L k) := (missing_o L k hk h105).symm
    go_enter Tryz.func48, Tryz.ntmps48
    go_wp2
    go_ret
    exact ⟨ret_bool HT.out, rfl⟩
  | false =>
    have h2 := wf_i (hL.wf k hk) (by simp at h105; simpa using h105)
    have hlen : 0 < L[k].kept.length := by omega
    obtain ⟨m, hm⟩ : ∃ m, L[k].kept.length = m + 1 := ⟨L[k].kept.length - 1, by omega⟩
    have hm3 : m ≤ 3 := by omega
    obtain ⟨b, c, hw, hwc⟩ := hL.words k hk (by omega)
    have hw0 := hwc 0 hlen
    have hlm : m < L[k].kept.length := by omega
    have hwm := hwc m hlm
    rw [hm] at hw
    have HM : Hid (L[k].kept.length = m + 1) := hm
    clear hwc hm h2
    cases j1 : ((L[k].kept[0]'hlen).toList == [106, 117, 109, 112]) with
    | true =>
      have HT : Hid (decide (labOf L k (L[k].kept[m]'hlm) < 0) = missingB L k) := (missing_l L k m hk h105 HM.out (asksLab_yes1 _ j1)).symm
      go_enter Tryz.func48, Tryz.ntmps48
      go_wp2_with (go_at_call 78; refine (lab_any L g cap k _ _ hL hn hk).mono ?_; rintro e w' ⟨rfl, rfl⟩)
      go_ret
      exact ⟨ret_bool HT.out, rfl⟩
    | false =>
      cases j2 : ((L[k].kept[0]'hlen).toList == [108, 101, 115, 115]) with
      | true =>
        have HT : Hid (decide (labOf L k (L[k].kept[m]'hlm) < 0) = missingB L k) := (missing_l L k m hk h105 HM.out (asksLab_yes2 _ j2)).symm
        go_enter Tryz.func48, Tryz.ntmps48
        go_wp2_with (go_at_call 78; refine (lab_any L g cap k _ _ hL hn hk).mono ?_; rintro e w' ⟨rfl, rfl⟩)
        go_ret
        exact ⟨ret_bool HT.out, rfl⟩
      | false =>
        cases j3 : ((L[k].kept[0]'hlen).toList == [115, 97, 109, 101]) with
        | true =>
          have HT : Hid (decide (labOf L k (L[k].kept[m]'hlm) < 0) = missingB L k) := (missing_l L k m hk h105 HM.out (asksLab_yes3 _ j3)).symm
          go_enter Tryz.func48, Tryz.ntmps48
          go_wp2_with (go_at_call 78; refine (lab_any L g cap k _ _ hL hn hk).mono ?_; rintro e w' ⟨rfl, rfl⟩)
          go_ret
          exact ⟨ret_bool HT.out, rfl⟩
        | false =>
          cases j4 : ((L[k].kept[0]'hlen).toList == [99, 97, 108, 108]) with
          | true =>
            have HT : Hid (decide (fnFrom L (L[k].kept[m]'hlm) 0 < 0) = missingB L k) := (missing_f L k m hk h105 HM.out (asksLab_no _ j1 j2 j3) j4).symm
            go_enter Tryz.func48, Tryz.ntmps48
            go_wp2_with (go_at_call 77; refine (fn_any L g cap _ _ hL hn).mono ?_; rintro e w' ⟨rfl, rfl⟩)
            go_ret
            exact ⟨ret_bool HT.out, rfl⟩
          | false =>
            have HT : Hid (false = missingB L k) := (missing_n L k m hk h105 HM.out (asksLab_no _ j1 j2 j3) j4).symm
            go_enter Tryz.func48, Tryz.ntmps48
            go_wp2
            go_ret
            exact ⟨ret_bool HT.out, rfl⟩

theorem endless_o (L : List Said) (k : Nat) (h : k < L.length) (h1 : (L[k].kind != 102) = true) : endlessB L k = false := by
  simp at h1
  unfold endlessB; rw [List.getElem?_eq_getElem h]; simp only [h1, if_false]
theorem endless_f (L : List Said) (k : Nat) (h : k < L.length) (h1 : (L[k].kind != 102) = false) : endlessB L k = !endAt L (k + 1) false := by
  simp at h1
  unfold endlessB; rw [List.getElem?_eq_getElem h]; simp only [h1, if_true]
theorem endAt_l (L : List Said) (i : Nat) (e : Bool) (h : i < L.length) (h0 : (L[i].kind != 102) = true) (h1 : (L[i].kind == 108) = true) : endAt L i e = endAt L (i + 1) false := by
  simp at h0 h1
  rw [endAt_on L i e h h0, if_pos h1]
theorem endAt_i (L : List Said) (i : Nat) (e : Bool) (h : i < L.length) (h0 : (L[i].kind != 102) = true) (h1 : (L[i].kind == 108) = false) (h2 : (L[i].kind == 105) = true) (hl : 0 < L[i].kept.length) : endAt L i e = endAt L (i + 1) (ends (L[i].kept[0])) := by
  simp at h0 h1 h2
  rw [endAt_on L i e h h0, if_neg h1, if_pos h2, word_at _ 0 hl]
theorem endAt_n (L : List Said) (i : Nat) (e : Bool) (h : i < L.length) (h0 : (L[i].kind != 102) = true) (h1 : (L[i].kind == 108) = false) (h2 : (L[i].kind == 105) = false) : endAt L i e = endAt L (i + 1) e := by
  simp at h0 h1 h2
  rw [endAt_on L i e h h0, if_neg h1, if_neg h2]
theorem ends_1 (x : ByteArray) (h : (x.toList == [106, 117, 109, 112]) = true) : ends x = true := by simp [ends, isW, h]
theorem ends_2 (x : ByteArray) (h : (x.toList == [98, 97, 99, 107]) = true) : ends x = true := by simp [ends, isW, h]
theorem ends_3 (x : ByteArray) (h : (x.toList == [106, 117, 109, 112]) = false) (h1 : (x.toList == [98, 97, 99, 107]) = false) : ends x = (x.toList == [115, 116, 111, 112]) := by simp [ends, isW, h, h1]

set_option maxRecDepth 100000 in
set_option maxHeartbeats 2000000 in
theorem endless_any (L : List Said) (g cap k : Nat) (w : World) (hL : LinesIn w g L) (hn : L.length ≤ 1048577) (hk : k < L.length) :
    Calls Tryz.prog 49 #[.slice (some ⟨g, 0, none⟩) L.length cap, .int .i64 (k : Int)] w fun e w' => e = .returned (.bool (endlessB L k)) ∧ w' = w := by
  have hc := hL.kind k hk
  have hb := wf_kind (hL.wf k hk)
  cases h102 : (L[k].kind != 102) with
  | true =>
    have HT : Hid (false = endlessB L k) := (endless_o L k hk h102).symm
    go_enter Tryz.func49, Tryz.ntmps49
    go_wp2
    go_ret
    exact ⟨ret_bool HT.out, rfl⟩
  | false =>
    have HT : Hid (endlessB L k = !endAt L (k + 1) false) := endless_f L k hk h102
    go_enter Tryz.func49, Tryz.ntmps49
    go_wp2
    clear hc hb
    go_loop [5, 6] (fun te ti => ∃ (j : Nat) (e : Bool), j ≤ L.length ∧ ti = .int .i64 (j : Int) ∧ te = .bool e ∧ endlessB L k = !endAt L j e) (fun _ ti => L.length - (intOf ti).toNat)
    case atStart => exact ⟨k + 1, false, by omega, by go_num, rfl, HT.out⟩
    case round =>
      obtain ⟨j, e, hj, rfl, rfl, hR⟩ := hrel
      clear HT
      have HT : Hid (endlessB L k = !endAt L j e) := hR
      clear hR
      by_cases hlt : j < L.length
      · have hc := hL.kind j hlt
        have hb := wf_kind (hL.wf j hlt)
        cases k102 : (L[j].kind != 102) with
        | false =>
          have HQ : Hid ((!e) = endlessB L k) := by unfold Hid; rw [HT.out, endAt_f L j e hlt (by simpa using k102)]
          go_wp2
          go_ret
          exact ⟨ret_bool HQ.out, rfl⟩
        | true =>
          cases k108 : (L[j].kind == 108) with
          | true =>
            have HQ : Hid (endlessB L k = !endAt L (j + 1) false) := by unfold Hid; rw [HT.out, endAt_l L j e hlt k102 k108]
            go_wp2
            go_round
            case rel => exact ⟨j + 1, false, by omega, by go_num, rfl, HQ.out⟩
            case measure => simp [intOf]; omega
          | false =>
            cases k105 : (L[j].kind == 105) with
            | false =>
              have HQ : Hid (endlessB L k = !endAt L (j + 1) e) := by unfold Hid; rw [HT.out, endAt_n L j e hlt k102 k108 k105]
              go_wp2
              go_round
              case rel => exact ⟨j + 1, e, by omega, by go_num, rfl, HQ.out⟩
              case measure => simp [intOf]; omega
            | true =>
              have h2 := wf_i (hL.wf j hlt) k105
              have hlen : 0 < L[j].kept.length := by omega
              obtain ⟨b, c, hw, hwc⟩ := hL.words j hlt (by omega)
              have hw0 := hwc 0 hlen
              clear hwc
              have HQ : Hid (endlessB L k = !endAt L (j + 1) (ends (L[j].kept[0]))) := by unfold Hid; rw [HT.out, endAt_i L j e hlt k102 k108 k105 hlen]
              cases j1 : ((L[j].kept[0]'hlen).toList == [106, 117, 109, 112]) with
              | true =>
                have HE : Hid (ends (L[j].kept[0]) = true) := ends_1 _ j1
                go_wp2
                go_round
                case rel => exact ⟨j + 1, true, by omega, by go_num, rfl, by rw [HQ.out, HE.out]⟩
                case measure => simp [intOf]; omega
              | false =>
                cases j2 : ((L[j].kept[0]'hlen).toList == [98, 97, 99, 107]) with
                | true =>
                  have HE : Hid (ends (L[j].kept[0]) = true) := ends_2 _ j2
                  go_wp2
                  go_round
                  case rel => exact ⟨j + 1, true, by omega, by go_num, rfl, by rw [HQ.out, HE.out]⟩
                  case measure => simp [intOf]; omega
                | false =>
                  cases j3 : ((L[j].kept[0]'hlen).toList == [115, 116, 111, 112]) with
                  | true =>
                    have HE : Hid (ends (L[j].kept[0]) = true) := (ends_3 _ j1 j2).trans j3
                    go_wp2
                    go_round
                    case rel => exact ⟨j + 1, true, by omega, by go_num, rfl, by rw [HQ.out, HE.out]⟩
                    case measure => simp [intOf]; omega
                  | false =>
                    have HE : Hid (ends (L[j].kept[0]) = false) := (ends_3 _ j1 j2).trans j3
                    go_wp2
                    go_round
                    case rel => exact ⟨j + 1, false, by omega, by go_num, rfl, by rw [HQ.out, HE.out]⟩
                    case measure => simp [intOf]; omega
      · have HQ : Hid ((!e) = endlessB L k) := by unfold Hid; rw [HT.out, endAt_end L j e hlt]
        go_wp2
        go_ret
        exact ⟨ret_bool HQ.out, rfl⟩

end Go.Proofs.YtfpgjkbjbbgciaaGreatDoor
