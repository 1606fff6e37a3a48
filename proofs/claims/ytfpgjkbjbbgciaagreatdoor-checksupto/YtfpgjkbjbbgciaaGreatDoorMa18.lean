import Derived.Test.YtfpgjkbjbbgciaaGreatDoorMa17
namespace Go.Proofs.YtfpgjkbjbbgciaaGreatDoor
open Go.RowKit Sp

theorem shape_as (x : ByteArray) (w : World) (sh : List UInt8) (HS : Hid (shapeOf x = sh)) :
    Calls Tryz.prog 74 #[.string x] w fun e w' => e = .returned (.string ⟨sh.toArray⟩) ∧ w' = w := by
  rw [← HS.out]; exact shape_any x w
theorem len_ne (a b : Nat) (h : ¬ a = b) : ((a : Int) + 1 != (b : Int) + 1) = true := by simp; omega

set_option maxRecDepth 100000 in
set_option maxHeartbeats 2000000 in
theorem say_odd0a (s : ByteArray) (w : World) (hs : s.size ≤ 1048576) (hv : validAt s 0 = true) (x : ByteArray) (hl : Hid (words s = [x])) (hx : x.size ≤ 1048576) (hx1 : 1 ≤ x.size) (hnf : (x.toList == [102, 117, 110, 99]) = false) (hlast : ((x[x.size - 1].toNat : Int) == 58) = false) (sh : List UInt8) (HS : Hid (shapeOf x = sh)) (_hsh : sh.length ≤ 3) (h63 : (sh == [63]) = true) :
    Calls Tryz.prog 46 #[.string s] w (SaidPost w.heap.size w ⟨105, [x], false⟩) := by
  go_enter Tryz.func46, Tryz.ntmps46
  go_wp2_with (first
    | (go_at_call 71; refine (valid_any s _ (by omega)).mono ?_; rintro e w' ⟨rfl, rfl⟩)
    | (go_at_call 74; refine (shape_as x _ sh HS).mono ?_; rintro e w' ⟨rfl, rfl⟩)
    | (go_at_call 72; refine (words_two s w (by omega) _ hl (by simp)).mono ?_; rintro e w1 ⟨g, cap, rfl, hcap, hmx, hcl, hown, K⟩; obtain ⟨hg3, hg2, hb, c0, c1, d0, d1, e0, e1, f0, f1⟩ := K; have hne : ¬ w.heap.size + 1 = g := (by omega); have hne0 : ¬ w.heap.size = g := (by omega); have hc0 := hcl 0 (by simp); simp only [List.getElem_cons_zero] at hc0))
  go_light
  obtain ⟨p0, p1⟩ := set_back (W := fillW w w1 105 (.slice (some ⟨g, 0, none⟩) 1 cap)) (b := w.heap.size) (fill_cell c0) (fill_cell c1)
  exact bodyPost_ret (v := .tuple #[.agg #[.int .u8 105, .slice (some ⟨g, 0, none⟩) 1 cap], .bool false]) (by simp [results, Tryz.results46, go_sem, p0, p1]) rfl (fill_post (by simpa using hown) hb)

set_option maxRecDepth 100000 in
set_option maxHeartbeats 2000000 in
theorem say_odd0b (s : ByteArray) (w : World) (hs : s.size ≤ 1048576) (hv : validAt s 0 = true) (x : ByteArray) (hl : Hid (words s = [x])) (hx : x.size ≤ 1048576) (hx1 : 1 ≤ x.size) (hnf : (x.toList == [102, 117, 110, 99]) = false) (hlast : ((x[x.size - 1].toNat : Int) == 58) = false) (sh : List UInt8) (HS : Hid (shapeOf x = sh)) (hsh : sh.length ≤ 3) (h63 : (sh == [63]) = false) (hne1 : ((1 : Int) != (sh.length : Int) + 1) = true) :
    Calls Tryz.prog 46 #[.string s] w (SaidPost w.heap.size w ⟨105, [x], false⟩) := by
  go_enter Tryz.func46, Tryz.ntmps46
  go_wp2_with (first
    | (go_at_call 71; refine (valid_any s _ (by omega)).mono ?_; rintro e w' ⟨rfl, rfl⟩)
    | (go_at_call 74; refine (shape_as x _ sh HS).mono ?_; rintro e w' ⟨rfl, rfl⟩)
    | (go_at_call 72; refine (words_two s w (by omega) _ hl (by simp)).mono ?_; rintro e w1 ⟨g, cap, rfl, hcap, hmx, hcl, hown, K⟩; obtain ⟨hg3, hg2, hb, c0, c1, d0, d1, e0, e1, f0, f1⟩ := K; have hne : ¬ w.heap.size + 1 = g := (by omega); have hne0 : ¬ w.heap.size = g := (by omega); have hc0 := hcl 0 (by simp); simp only [List.getElem_cons_zero] at hc0))
  go_light
  obtain ⟨p0, p1⟩ := set_back (W := fillW w w1 105 (.slice (some ⟨g, 0, none⟩) 1 cap)) (b := w.heap.size) (fill_cell c0) (fill_cell c1)
  exact bodyPost_ret (v := .tuple #[.agg #[.int .u8 105, .slice (some ⟨g, 0, none⟩) 1 cap], .bool false]) (by simp [results, Tryz.results46, go_sem, p0, p1]) rfl (fill_post (by simpa using hown) hb)

set_option maxRecDepth 100000 in
set_option maxHeartbeats 2000000 in
theorem say_odd1a (s : ByteArray) (w : World) (hs : s.size ≤ 1048576) (hv : validAt s 0 = true) (x : ByteArray) (r : List ByteArray) (hl : Hid (words s = x :: r)) (_hx : x.size ≤ 1048576) (_hx1 : 1 ≤ x.size) (hnf : (x.toList == [102, 117, 110, 99]) = false) (hr : r.length ≤ 1048576) (hr1 : 1 ≤ r.length) (hr2 : ((r.length : Int) + 1 == 1) = false) (sh : List UInt8) (HS : Hid (shapeOf x = sh)) (_hsh : sh.length ≤ 3) (h63 : (sh == [63]) = true) :
    Calls Tryz.prog 46 #[.string s] w (SaidPost w.heap.size w ⟨105, x :: r, false⟩) := by
  go_enter Tryz.func46, Tryz.ntmps46
  go_wp2_with (first
    | (go_at_call 71; refine (valid_any s _ (by omega)).mono ?_; rintro e w' ⟨rfl, rfl⟩)
    | (go_at_call 74; refine (shape_as x _ sh HS).mono ?_; rintro e w' ⟨rfl, rfl⟩)
    | (go_at_call 72; refine (words_two s w (by omega) _ hl (by simp)).mono ?_; rintro e w1 ⟨g, cap, rfl, hcap, hmx, hcl, hown, K⟩; obtain ⟨hg3, hg2, hb, c0, c1, d0, d1, e0, e1, f0, f1⟩ := K; have hne : ¬ w.heap.size + 1 = g := (by omega); have hne0 : ¬ w.heap.size = g := (by omega); have hc0 := hcl 0 (by simp); simp only [List.getElem_cons_zero] at hc0))
  go_light
  obtain ⟨p0, p1⟩ := set_back (W := fillW w w1 105 (.slice (some ⟨g, 0, none⟩) (r.length + 1) cap)) (b := w.heap.size) (fill_cell c0) (fill_cell c1)
  exact bodyPost_ret (v := .tuple #[.agg #[.int .u8 105, .slice (some ⟨g, 0, none⟩) (r.length + 1) cap], .bool false]) (by simp [results, Tryz.results46, go_sem, p0, p1]) rfl (fill_post (by simpa using hown) hb)

set_option maxRecDepth 100000 in
set_option maxHeartbeats 2000000 in
theorem say_odd1b (s : ByteArray) (w : World) (hs : s.size ≤ 1048576) (hv : validAt s 0 = true) (x : ByteArray) (r : List ByteArray) (hl : Hid (words s = x :: r)) (_hx : x.size ≤ 1048576) (_hx1 : 1 ≤ x.size) (hnf : (x.toList == [102, 117, 110, 99]) = false) (hr : r.length ≤ 1048576) (hr1 : 1 ≤ r.length) (hr2 : ((r.length : Int) + 1 == 1) = false) (sh : List UInt8) (HS : Hid (shapeOf x = sh)) (hsh : sh.length ≤ 3) (h63 : (sh == [63]) = false) (hne1 : ((r.length : Int) + 1 != (sh.length : Int) + 1) = true) :
    Calls Tryz.prog 46 #[.string s] w (SaidPost w.heap.size w ⟨105, x :: r, false⟩) := by
  go_enter Tryz.func46, Tryz.ntmps46
  go_wp2_with (first
    | (go_at_call 71; refine (valid_any s _ (by omega)).mono ?_; rintro e w' ⟨rfl, rfl⟩)
    | (go_at_call 74; refine (shape_as x _ sh HS).mono ?_; rintro e w' ⟨rfl, rfl⟩)
    | (go_at_call 72; refine (words_two s w (by omega) _ hl (by simp)).mono ?_; rintro e w1 ⟨g, cap, rfl, hcap, hmx, hcl, hown, K⟩; obtain ⟨hg3, hg2, hb, c0, c1, d0, d1, e0, e1, f0, f1⟩ := K; have hne : ¬ w.heap.size + 1 = g := (by omega); have hne0 : ¬ w.heap.size = g := (by omega); have hc0 := hcl 0 (by simp); simp only [List.getElem_cons_zero] at hc0))
  go_light
  obtain ⟨p0, p1⟩ := set_back (W := fillW w w1 105 (.slice (some ⟨g, 0, none⟩) (r.length + 1) cap)) (b := w.heap.size) (fill_cell c0) (fill_cell c1)
  exact bodyPost_ret (v := .tuple #[.agg #[.int .u8 105, .slice (some ⟨g, 0, none⟩) (r.length + 1) cap], .bool false]) (by simp [results, Tryz.results46, go_sem, p0, p1]) rfl (fill_post (by simpa using hown) hb)

end Go.Proofs.YtfpgjkbjbbgciaaGreatDoor
