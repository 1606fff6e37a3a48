import Derived.Test.YtfpgjkbjbbgciaaGreatDoorMa18
namespace Go.Proofs.YtfpgjkbjbbgciaaGreatDoor
open Go.RowKit Sp

theorem sh_at (sh : List UInt8) (k : Nat) (_h : k < sh.length) (h' : k < (⟨sh.toArray⟩ : ByteArray).size) : (⟨sh.toArray⟩ : ByteArray)[k] = sh[k] := rfl
theorem u8_eq (a b : UInt8) (h : ((a.toNat : Int) == (b.toNat : Int)) = true) : a = b := by
  rw [beq_iff_eq] at h; exact UInt8.toNat_inj.1 (by omega)
theorem u8_ne (a b : UInt8) (h : ((a.toNat : Int) == (b.toNat : Int)) = false) : ¬ a = b := by
  intro e; subst e; simp at h
theorem opOk_R (a : UInt8) (y : ByteArray) (h : ((a.toNat : Int) == 82) = true) : opOk a y = decide (0 ≤ reg y) := by
  have := u8_eq a 82 h; subst this; rfl
theorem opOk_K (a : UInt8) (y : ByteArray) (h : ((a.toNat : Int) == 75) = true) : opOk a y = (numOf y).2 := by
  have := u8_eq a 75 h; subst this; rfl
theorem opOk_N (a : UInt8) (y : ByteArray) (h : ((a.toNat : Int) == 82) = false) (h' : ((a.toNat : Int) == 75) = false) : opOk a y = isName y := by
  unfold opOk; rw [if_neg (u8_ne a 82 h), if_neg (u8_ne a 75 h')]

set_option maxRecDepth 100000 in
set_option maxHeartbeats 2000000 in
theorem say_ops0 (s : ByteArray) (w : World) (hs : s.size ≤ 1048576) (hv : validAt s 0 = true) (x : ByteArray) (hl : Hid (words s = [x])) (hx : x.size ≤ 1048576) (hx1 : 1 ≤ x.size) (hnf : (x.toList == [102, 117, 110, 99]) = false) (hlast : ((x[x.size - 1].toNat : Int) == 58) = false) (HS : Hid (shapeOf x = [])) :
    Calls Tryz.prog 46 #[.string s] w (SaidPost w.heap.size w ⟨105, [x], true⟩) := by
  go_enter Tryz.func46, Tryz.ntmps46
  go_wp2_with (first
    | (go_at_call 71; refine (valid_any s _ (by omega)).mono ?_; rintro e w' ⟨rfl, rfl⟩)
    | (go_at_call 74; refine (shape_as x _ [] HS).mono ?_; rintro e w' ⟨rfl, rfl⟩)
    | (go_at_call 72; refine (words_two s w (by omega) _ hl (by simp)).mono ?_; rintro e w1 ⟨g, cap, rfl, hcap, hmx, hcl, hown, K⟩; obtain ⟨hg3, hg2, hb, c0, c1, d0, d1, e0, e1, f0, f1⟩ := K; have hne : ¬ w.heap.size + 1 = g := (by omega); have hne0 : ¬ w.heap.size = g := (by omega); have hc0 := hcl 0 (by simp); simp only [List.getElem_cons_zero] at hc0))
  refine wp_loop_rounds 1 ?_
  rw [rounds_succ]
  go_wp2
  go_light
  obtain ⟨p0, p1⟩ := set_back (W := fillW w w1 105 (.slice (some ⟨g, 0, none⟩) 1 cap)) (b := w.heap.size) (fill_cell c0) (fill_cell c1)
  exact bodyPost_ret (v := .tuple #[.agg #[.int .u8 105, .slice (some ⟨g, 0, none⟩) 1 cap], .bool true]) (by simp [results, Tryz.results46, go_sem, p0, p1]) rfl (fill_post (by simpa using hown) hb)

set_option maxRecDepth 100000 in
set_option maxHeartbeats 4000000 in
theorem say_ops1 (s : ByteArray) (w : World) (hs : s.size ≤ 1048576) (hv : validAt s 0 = true) (x : ByteArray) (r : List ByteArray) (hl : Hid (words s = x :: r)) (_hx : x.size ≤ 1048576) (_hx1 : 1 ≤ x.size) (hnf : (x.toList == [102, 117, 110, 99]) = false) (hr1 : 1 ≤ r.length) (hr2 : ((r.length : Int) + 1 == 1) = false) (hrs : ∀ j (hj : j < r.length), r[j].size ≤ 1048576)
    (sh : List UInt8) (HS : Hid (shapeOf x = sh)) (hsh : sh.length ≤ 3) (h63 : (sh == [63]) = false) (hrl : r.length ≤ 1048576) (hle : sh.length ≤ r.length) (hge : r.length ≤ sh.length) :
    Calls Tryz.prog 46 #[.string s] w (SaidPost w.heap.size w ⟨105, x :: r, opsOk sh r⟩) := by
  have hne1 : ((r.length : Int) + 1 != (sh.length : Int) + 1) = false := by simp; omega
  generalize hO : opsOk sh r = O
  have HO : Hid (O = opsOk (sh.drop 0) (r.drop 0)) := by rw [← hO]; rfl
  clear hO
  go_enter Tryz.func46, Tryz.ntmps46
  go_wp2_with (first
    | (go_at_call 71; refine (valid_any s _ (by omega)).mono ?_; rintro e w' ⟨rfl, rfl⟩)
    | (go_at_call 74; refine (shape_as x _ sh HS).mono ?_; rintro e w' ⟨rfl, rfl⟩)
    | (go_at_call 72; refine (words_two s w (by omega) _ hl (by simp)).mono ?_; rintro e w1 ⟨g, cap, rfl, hcap, hmx, hcl, hown, K⟩; obtain ⟨hg3, hg2, hb, c0, c1, d0, d1, e0, e1, f0, f1⟩ := K; have hne : ¬ w.heap.size + 1 = g := (by omega); have hne0 : ¬ w.heap.size = g := (by omega); have hc0 := hcl 0 (by simp); simp only [List.getElem_cons_zero] at hc0))
  go_loop [11] (fun ti => ∃ k : Nat, k ≤ sh.length ∧ ti = .int .i64 (k : Int) ∧ O = opsOk (sh.drop k) (r.drop k)) (fun ti => sh.length - (intOf ti).toNat)
  case atStart => exact ⟨0, by omega, rfl, HO.out⟩
  case round =>
    obtain ⟨k, hk, rfl, hR⟩ := hrel
    clear HO
    have HO : Hid (O = opsOk (sh.drop k) (r.drop k)) := hR
    clear hR
    by_cases hlt : k < sh.length
    · have hkr : k < r.length := by omega
      have hck := hcl (k + 1) (by simp; omega)
      simp only [List.getElem_cons_succ] at hck
      have hsz := hrs k hkr
      have HT : Hid (O = (opOk sh[k] r[k] && opsOk (sh.drop (k + 1)) (r.drop (k + 1)))) := by rw [HO.out, opsOk_step sh r k hlt hkr]; rfl
      have hW : k < (⟨sh.toArray⟩ : ByteArray).size := hlt
      cases h82 : ((((⟨sh.toArray⟩ : ByteArray)[k]'hW).toNat : Int) == 82) with
      | true =>
        by_cases hq : 0 ≤ reg r[k]
        · have HQ : Hid (opOk sh[k] r[k] = true) := (opOk_R sh[k] r[k] h82).trans (by simpa using hq)
          go_wp2_with (go_at_call 75; refine (reg_any r[k] _ (by unfold maxLen; omega)).mono ?_; rintro e w' ⟨rfl, rfl⟩)
          go_round
          case rel => exact ⟨k + 1, by omega, by go_num, by rw [HT.out, HQ.out]; simp⟩
          case measure => simp [intOf]; omega
        · have HQ : Hid (opOk sh[k] r[k] = false) := (opOk_R sh[k] r[k] h82).trans (by simpa using hq)
          have hq2 : reg r[k] < 0 := by omega
          have hq3 : decide (0 ≤ reg r[k]) = false := by simpa using hq
          go_wp2_with (go_at_call 75; refine (reg_any r[k] _ (by unfold maxLen; omega)).mono ?_; rintro e w' ⟨rfl, rfl⟩)
          go_light
          obtain ⟨p0, p1⟩ := set_back (W := fillW w w1 105 (.slice (some ⟨g, 0, none⟩) (r.length + 1) cap)) (b := w.heap.size) (fill_cell c0) (fill_cell c1)
          have hOf : O = false := by rw [HT.out, HQ.out]; simp
          rw [hOf]
          exact bodyPost_ret (v := .tuple #[.agg #[.int .u8 105, .slice (some ⟨g, 0, none⟩) (r.length + 1) cap], .bool false]) (by simp [results, Tryz.results46, go_sem, p0, p1]) rfl (fill_post (by simpa using hown) hb)
      | false =>
        cases h75 : ((((⟨sh.toArray⟩ : ByteArray)[k]'hW).toNat : Int) == 75) with
        | true =>
          cases hq : (numOf r[k]).2 with
          | true =>
            have HQ : Hid (opOk sh[k] r[k] = true) := (opOk_K sh[k] r[k] h75).trans hq
            go_wp2_with (go_at_call 76; refine (num_any r[k] _ (by omega)).mono ?_; rintro e w' ⟨rfl, rfl⟩)
            go_round
            case rel => exact ⟨k + 1, by omega, by go_num, by rw [HT.out, HQ.out]; simp⟩
            case measure => simp [intOf]; omega
          | false =>
            have HQ : Hid (opOk sh[k] r[k] = false) := (opOk_K sh[k] r[k] h75).trans hq
            go_wp2_with (go_at_call 76; refine (num_any r[k] _ (by omega)).mono ?_; rintro e w' ⟨rfl, rfl⟩)
            go_light
            obtain ⟨p0, p1⟩ := set_back (W := fillW w w1 105 (.slice (some ⟨g, 0, none⟩) (r.length + 1) cap)) (b := w.heap.size) (fill_cell c0) (fill_cell c1)
            have hOf : O = false := by rw [HT.out, HQ.out]; simp
            rw [hOf]
            exact bodyPost_ret (v := .tuple #[.agg #[.int .u8 105, .slice (some ⟨g, 0, none⟩) (r.length + 1) cap], .bool false]) (by simp [results, Tryz.results46, go_sem, p0, p1]) rfl (fill_post (by simpa using hown) hb)
        | false =>
          cases hq : isName r[k] with
          | true =>
            have HQ : Hid (opOk sh[k] r[k] = true) := (opOk_N sh[k] r[k] h82 h75).trans hq
            go_wp2_with (go_at_call 73; refine (name_any r[k] _ (by omega)).mono ?_; rintro e w' ⟨rfl, rfl⟩)
            go_round
            case rel => exact ⟨k + 1, by omega, by go_num, by rw [HT.out, HQ.out]; simp⟩
            case measure => simp [intOf]; omega
          | false =>
            have HQ : Hid (opOk sh[k] r[k] = false) := (opOk_N sh[k] r[k] h82 h75).trans hq
            go_wp2_with (go_at_call 73; refine (name_any r[k] _ (by omega)).mono ?_; rintro e w' ⟨rfl, rfl⟩)
            go_light
            obtain ⟨p0, p1⟩ := set_back (W := fillW w w1 105 (.slice (some ⟨g, 0, none⟩) (r.length + 1) cap)) (b := w.heap.size) (fill_cell c0) (fill_cell c1)
            have hOf : O = false := by rw [HT.out, HQ.out]; simp
            rw [hOf]
            exact bodyPost_ret (v := .tuple #[.agg #[.int .u8 105, .slice (some ⟨g, 0, none⟩) (r.length + 1) cap], .bool false]) (by simp [results, Tryz.results46, go_sem, p0, p1]) rfl (fill_post (by simpa using hown) hb)
    · have HT : Hid (O = true) := by rw [HO.out, List.drop_of_length_le (by omega)]; rfl
      go_wp2
      go_light
      obtain ⟨p0, p1⟩ := set_back (W := fillW w w1 105 (.slice (some ⟨g, 0, none⟩) (r.length + 1) cap)) (b := w.heap.size) (fill_cell c0) (fill_cell c1)
      rw [HT.out]
      exact bodyPost_ret (v := .tuple #[.agg #[.int .u8 105, .slice (some ⟨g, 0, none⟩) (r.length + 1) cap], .bool true]) (by simp [results, Tryz.results46, go_sem, p0, p1]) rfl (fill_post (by simpa using hown) hb)

end Go.Proofs.YtfpgjkbjbbgciaaGreatDoor
