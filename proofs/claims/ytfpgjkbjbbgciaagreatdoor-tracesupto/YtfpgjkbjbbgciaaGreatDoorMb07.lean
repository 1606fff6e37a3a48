import Derived.Test.YtfpgjkbjbbgciaaGreatDoorMb01
import Derived.Test.YtfpgjkbjbbgciaaGreatDoorMb06
import Derived.Test.YtfpgjkbjbbgciaaGreatDoorMb04
import Derived.Deep.Light
namespace Go.Proofs.YtfpgjkbjbbgciaaGreatDoor
open Go.RowKit Sp

theorem bcell {W w1 : World} {B : Nat} (hb : Below B W w1) : (∀ b o, b < B → w1.cell? ⟨b, o, none⟩ = W.cell? ⟨b, o, none⟩) ∧ (∀ b o, b < B → w1.frozen? ⟨b, o, none⟩ = W.frozen? ⟨b, o, none⟩) :=
  ⟨fun b o h => hb.cell (p := ⟨b, o, none⟩) h, fun b o h => hb.frozen (p := ⟨b, o, none⟩) h⟩

/-- A row of strings that is not empty: where it lies. -/
theorem row_of {w : World} {B : Nat} {v : Value} {l : List ByteArray} (h : w.ownsRow B 9 1 v l.length (l.map Value.string)) (hl : 0 < l.length) :
    ∃ g cap, v = .slice (some ⟨g, 0, none⟩) l.length cap ∧ l.length ≤ cap ∧ cap ≤ maxLen ∧ B ≤ g ∧ g < w.heap.size ∧ ∀ j (hj : j < l.length), w.cell? ⟨g, j, none⟩ = some (.string l[j]) := by
  rcases h.2 with ⟨_, h2⟩ | ⟨g, cap, cur, hv, hg, hh, hc, hm, hs, hx⟩
  · simp at h2; subst h2; simp at hl
  · refine ⟨g, cap, hv, hc, hm, hg, (Array.getElem?_eq_some_iff.1 hh).1, fun j hj => ?_⟩
    subst hv
    rw [World.ownsRow.cellAt h j (by omega)]
    simp [hj]

theorem words_some (s : ByteArray) (w : World) (hs : s.size ≤ 1048576) (l : List ByteArray) (hl : Hid (words s = l)) (h0 : 0 < l.length) :
    Calls Tryz.prog 72 #[.string s] w fun e w' => ∃ g cap, e = .returned (.slice (some ⟨g, 0, none⟩) l.length cap) ∧ l.length ≤ cap ∧ cap ≤ maxLen ∧ w.heap.size ≤ g ∧ g < w'.heap.size ∧ (∀ j (hj : j < l.length), w'.cell? ⟨g, j, none⟩ = some (.string l[j])) ∧ w'.ownsRow w.heap.size 9 1 (.slice (some ⟨g, 0, none⟩) l.length cap) l.length (l.map Value.string) ∧ Below w.heap.size w w' := by
  refine (words_any s w hs).mono ?_
  rintro e w' ⟨v, rfl, hown, hb⟩
  rw [hl.out] at hown
  obtain ⟨g, cap, rfl, h1, h2, h3, h4, h5⟩ := row_of hown h0
  exact ⟨g, cap, rfl, h1, h2, h3, h4, h5, hown, hb⟩

theorem words_none (s : ByteArray) (w : World) (hs : s.size ≤ 1048576) (hl : Hid (words s = [])) :
    Calls Tryz.prog 72 #[.string s] w fun e w' => ∃ ao cap, e = .returned (.slice ao 0 cap) ∧ Below w.heap.size w w' := by
  refine (words_any s w hs).mono ?_
  rintro e w' ⟨v, rfl, hown, hb⟩
  rw [hl.out] at hown
  rcases hown.2 with ⟨h1, h2⟩ | ⟨g, cap, cur, hv, r⟩
  · subst h1; exact ⟨none, 0, rfl, hb⟩
  · subst hv; exact ⟨_, cap, rfl, hb⟩

/-- What Say answers, of what a line says. -/
def SaidPost (B : Nat) (w : World) (q : Said) : Ending → World → Prop := fun e w' =>
  ∃ v, e = .returned (.tuple #[.agg #[.int .u8 q.kind, v], .bool q.ok]) ∧ w'.ownsRow B 9 1 v q.kept.length (q.kept.map Value.string) ∧ Below B w w'

/-- The two cells of the result's variable, and of the one that is filled, behind the calls. -/
theorem set_back {W : World} {b : Nat} {a c : Value} (h0 : W.cell? ⟨b, 0, none⟩ = some a) (h1 : W.cell? ⟨b, 1, none⟩ = some c) :
    (∀ x, (W.setCell ⟨b, 0, none⟩ x).cell? ⟨b, 0, none⟩ = some x) ∧ (∀ x y, ((W.setCell ⟨b, 0, none⟩ x).setCell ⟨b, 1, none⟩ y).cell? ⟨b, 1, none⟩ = some y) := by
  refine ⟨fun x => World.cell?_setCell_same W _ _ h0, fun x y => World.cell?_setCell_same (u := c) _ _ _ ?_⟩
  rw [World.cell?_setCell_other]
  · exact h1
  · simp

set_option maxRecDepth 100000 in
set_option maxHeartbeats 2000000 in
theorem say_bad (s : ByteArray) (w : World) (hs : s.size ≤ 1048576) (hv : validAt s 0 = false) :
    Calls Tryz.prog 46 #[.string s] w (SaidPost w.heap.size w ⟨0, [], false⟩) := by
  go_enter Tryz.func46, Tryz.ntmps46
  go_wp2_with (first
    | (go_at_call 71; refine (valid_any s _ (by omega)).mono ?_; rintro e w' ⟨rfl, rfl⟩)
    | (go_at_call 72; refine (words_any s _ (by omega)).mono ?_; rintro e w1 ⟨v, rfl, hown, hb⟩; obtain ⟨hc, hf⟩ := bcell hb))
  have hz : w.heap.size + 1 < w1.heap.size := by have := hb.size; simp at this; omega
  obtain ⟨f0, f1⟩ := set_back (W := w1) (b := w.heap.size) (a := .int .u8 0) (c := .slice none 0 0) (by rw [hc _ _ (by simp; omega)]; simp) (by rw [hc _ _ (by simp; omega)]; simp)
  refine bodyPost_ret (v := .tuple #[.agg #[.int .u8 0, .slice none 0 0], .bool false]) (by simp [results, Tryz.results46, go_sem, f0, f1]) rfl ⟨_, rfl, World.ownsRow_nil _ _ _ _, ?_⟩
  exact (((((Below.refl _ _).alloc (Nat.le_refl _) _).alloc (by simp) _).trans (hb.mono (by simp; omega))).setCell (by simp) _).setCell (by simp) _

set_option maxRecDepth 100000 in
set_option maxHeartbeats 2000000 in
theorem say_none (s : ByteArray) (w : World) (hs : s.size ≤ 1048576) (hv : validAt s 0 = true) (hl : Hid (words s = [])) :
    Calls Tryz.prog 46 #[.string s] w (SaidPost w.heap.size w ⟨0, [], true⟩) := by
  go_enter Tryz.func46, Tryz.ntmps46
  go_wp2_with (first
    | (go_at_call 71; refine (valid_any s _ (by omega)).mono ?_; rintro e w' ⟨rfl, rfl⟩)
    | (go_at_call 72; refine (words_none s _ (by omega) hl).mono ?_; rintro e w1 ⟨ao, cap, rfl, hb⟩; obtain ⟨hc, hf⟩ := bcell hb))
  have hz : w.heap.size + 1 < w1.heap.size := by have := hb.size; simp at this; omega
  obtain ⟨f0, f1⟩ := set_back (W := w1) (b := w.heap.size) (a := .int .u8 0) (c := .slice none 0 0) (by rw [hc _ _ (by simp; omega)]; simp) (by rw [hc _ _ (by simp; omega)]; simp)
  refine bodyPost_ret (v := .tuple #[.agg #[.int .u8 0, .slice none 0 0], .bool true]) (by simp [results, Tryz.results46, go_sem, f0, f1]) rfl ⟨_, rfl, World.ownsRow_nil _ _ _ _, ?_⟩
  exact (((((Below.refl _ _).alloc (Nat.le_refl _) _).alloc (by simp) _).trans (hb.mono (by simp; omega))).setCell (by simp) _).setCell (by simp) _

theorem own_mono {w : World} {b b' : Nat} {e : TypeId} {size n : Nat} {v : Value} {xs : List Value} (h : w.ownsRow b e size v n xs) (hb : b' ≤ b) : w.ownsRow b' e size v n xs := by
  refine ⟨h.1, ?_⟩
  rcases h.2 with h2 | ⟨g, cap, cur, hv, hg, r⟩
  · exact .inl h2
  · exact .inr ⟨g, cap, cur, hv, by omega, r⟩
/-- The world in which Line's variable is filled. -/
abbrev fillW (w w1 : World) (k : Int) (v : Value) : World := (w1.setCell ⟨w.heap.size + 1, 1, none⟩ v).setCell ⟨w.heap.size + 1, 0, none⟩ (.int .u8 k)
theorem fill_cell {w w1 : World} {k : Int} {v : Value} {o : Nat} {x : Value} (h : w1.cell? ⟨w.heap.size, o, none⟩ = some x) : (fillW w w1 k v).cell? ⟨w.heap.size, o, none⟩ = some x := by
  unfold fillW
  rw [World.cell?_setCell_other, World.cell?_setCell_other]
  · exact h
  · simp
  · simp
theorem fill_post {w w1 : World} {k : Int} {v : Value} {l : List ByteArray} {ok : Bool} (hown : w1.ownsRow (w.heap.size + 2) 9 1 v l.length (l.map Value.string)) (hb : Below w.heap.size w w1) :
    SaidPost w.heap.size w ⟨k, l, ok⟩ (.returned (.tuple #[.agg #[.int .u8 k, v], .bool ok])) (((fillW w w1 k v).setCell ⟨w.heap.size, 0, none⟩ (.int .u8 k)).setCell ⟨w.heap.size, 1, none⟩ v) := by
  refine ⟨v, rfl, own_mono ?_ (Nat.le_add_right _ 2), (((hb.setCell (by simp) _).setCell (by simp) _).setCell (by simp) _).setCell (by simp) _⟩
  exact ownsRow_setCell_below (ownsRow_setCell_below (ownsRow_setCell_below (ownsRow_setCell_below hown (by simp) _) (by simp) _) (by simp) _) (by simp) _
theorem two_new (w : World) (o1 o2 : Obj) {w1 : World} (hb : Below ((w.alloc o1).alloc o2).heap.size ((w.alloc o1).alloc o2) w1) : Below w.heap.size w w1 :=
  (((Below.refl _ _).alloc (Nat.le_refl _) _).alloc (by simp) _).trans (hb.mono (by simp; omega))

/-- What lies behind the call of words, of the two variables that Say has laid. -/
structure TwoKept (w w' : World) (g : Nat) : Prop where
  far : w.heap.size + 2 ≤ g
  lt : g < w'.heap.size
  below : Below w.heap.size w w'
  c0 : w'.cell? ⟨w.heap.size, 0, none⟩ = some (.int .u8 0)
  c1 : w'.cell? ⟨w.heap.size, 1, none⟩ = some (.slice none 0 0)
  d0 : w'.cell? ⟨w.heap.size + 1, 0, none⟩ = some (.int .u8 0)
  d1 : w'.cell? ⟨w.heap.size + 1, 1, none⟩ = some (.slice none 0 0)
  e0 : w'.frozen? ⟨w.heap.size, 0, none⟩ = false
  e1 : w'.frozen? ⟨w.heap.size, 1, none⟩ = false
  f0 : w'.frozen? ⟨w.heap.size + 1, 0, none⟩ = false
  f1 : w'.frozen? ⟨w.heap.size + 1, 1, none⟩ = false
theorem words_two (s : ByteArray) (w : World) (hs : s.size ≤ 1048576) (l : List ByteArray) (hl : Hid (words s = l)) (h0 : 0 < l.length) :
    Calls Tryz.prog 72 #[.string s] ((w.alloc (.cells #[.int .u8 0, .slice none 0 0] 87)).alloc (.cells #[.int .u8 0, .slice none 0 0] 87)) fun e w' => ∃ g cap, e = .returned (.slice (some ⟨g, 0, none⟩) l.length cap) ∧ l.length ≤ cap ∧ cap ≤ maxLen ∧ (∀ j (hj : j < l.length), w'.cell? ⟨g, j, none⟩ = some (.string l[j])) ∧ w'.ownsRow (w.heap.size + 2) 9 1 (.slice (some ⟨g, 0, none⟩) l.length cap) l.length (l.map Value.string) ∧ TwoKept w w' g := by
  refine (words_some s _ hs l hl h0).mono ?_
  rintro e w1 ⟨g, cap, rfl, hcap, hmx, hg, hg2, hcl, hown, hb⟩
  obtain ⟨hc, hf⟩ := bcell hb
  refine ⟨g, cap, rfl, hcap, hmx, hcl, by simpa using hown, ?_⟩
  refine ⟨by simp at hg; omega, hg2, two_new _ _ _ hb, ?_, ?_, ?_, ?_, ?_, ?_, ?_, ?_⟩
  · rw [hc _ _ (by simp; omega)]; simp
  · rw [hc _ _ (by simp; omega)]; simp
  · rw [hc _ _ (by simp)]; simp
  · rw [hc _ _ (by simp)]; simp
  · rw [hf _ _ (by simp; omega)]; simp
  · rw [hf _ _ (by simp; omega)]; simp
  · rw [hf _ _ (by simp)]; simp
  · rw [hf _ _ (by simp)]; simp

set_option maxRecDepth 100000 in
set_option maxHeartbeats 2000000 in
theorem say_func1 (s : ByteArray) (w : World) (hs : s.size ≤ 1048576) (hv : validAt s 0 = true) (r : List ByteArray) (hl : Hid (words s = ⟨#[102, 117, 110, 99]⟩ :: r)) (hr : ¬ r.length = 1) :
    Calls Tryz.prog 46 #[.string s] w (SaidPost w.heap.size w ⟨102, ⟨#[102, 117, 110, 99]⟩ :: r, false⟩) := by
  go_enter Tryz.func46, Tryz.ntmps46
  go_wp2_with (first
    | (go_at_call 71; refine (valid_any s _ (by omega)).mono ?_; rintro e w' ⟨rfl, rfl⟩)
    | (go_at_call 72; refine (words_some s _ (by omega) _ hl (by simp)).mono ?_; rintro e w1 ⟨g, cap, rfl, hcap, hmx, hg, hg2, hcl, hown, hb⟩; obtain ⟨hc, hf⟩ := bcell hb; have hc0 := hcl 0 (by simp); simp only [List.getElem_cons_zero] at hc0))
  go_light
  obtain ⟨f0, f1⟩ := set_back (W := fillW w w1 102 (.slice (some ⟨g, 0, none⟩) (r.length + 1) cap)) (b := w.heap.size) (a := .int .u8 0) (c := .slice none 0 0) (fill_cell (by rw [hc _ _ (by simp; omega)]; simp)) (fill_cell (by rw [hc _ _ (by simp; omega)]; simp))
  exact bodyPost_ret (v := .tuple #[.agg #[.int .u8 102, .slice (some ⟨g, 0, none⟩) (r.length + 1) cap], .bool false]) (by simp [results, Tryz.results46, go_sem, f0, f1]) rfl (fill_post (by simpa using hown) (two_new _ _ _ hb))

set_option maxRecDepth 100000 in
set_option maxHeartbeats 2000000 in
theorem say_func2 (s : ByteArray) (w : World) (hs : s.size ≤ 1048576) (hv : validAt s 0 = true) (y : ByteArray) (hl : Hid (words s = [⟨#[102, 117, 110, 99]⟩, y])) (hy : y.size ≤ 1048576) :
    Calls Tryz.prog 46 #[.string s] w (SaidPost w.heap.size w ⟨102, [⟨#[102, 117, 110, 99]⟩, y], isName y⟩) := by
  go_enter Tryz.func46, Tryz.ntmps46
  go_wp2_with (first
    | (go_at_call 71; refine (valid_any s _ (by omega)).mono ?_; rintro e w' ⟨rfl, rfl⟩)
    | (go_at_call 73; refine (name_any y _ (by omega)).mono ?_; rintro e w' ⟨rfl, rfl⟩)
    | (go_at_call 72; refine (words_two s w (by omega) _ hl (by simp)).mono ?_; rintro e w1 ⟨g, cap, rfl, hcap, hmx, hcl, hown, K⟩; obtain ⟨hg3, hg2, hb, c0, c1, d0, d1, e0, e1, f0, f1⟩ := K; have hne : ¬ w.heap.size + 1 = g := (by omega); have hne0 : ¬ w.heap.size = g := (by omega); have hc0 := hcl 0 (by simp); simp only [List.getElem_cons_zero] at hc0; have hc1 := hcl 1 (by simp); simp only [List.getElem_cons_zero, List.getElem_cons_succ] at hc1))
  go_light
  obtain ⟨p0, p1⟩ := set_back (W := fillW w w1 102 (.slice (some ⟨g, 0, none⟩) 2 cap)) (b := w.heap.size) (fill_cell c0) (fill_cell c1)
  exact bodyPost_ret (v := .tuple #[.agg #[.int .u8 102, .slice (some ⟨g, 0, none⟩) 2 cap], .bool (isName y)]) (by simp [results, Tryz.results46, go_sem, p0, p1]) rfl (fill_post (by simpa using hown) hb)

set_option maxRecDepth 100000 in
set_option maxHeartbeats 2000000 in
theorem say_label (s : ByteArray) (w : World) (hs : s.size ≤ 1048576) (hv : validAt s 0 = true) (x : ByteArray) (hl : Hid (words s = [x])) (hx : x.size ≤ 1048576) (hx1 : 1 ≤ x.size) (hnf : (x.toList == [102, 117, 110, 99]) = false) (hlast : ((x[x.size - 1].toNat : Int) == 58) = true) :
    Calls Tryz.prog 46 #[.string s] w (SaidPost w.heap.size w ⟨108, [x.extract 0 (x.size - 1)], isName (x.extract 0 (x.size - 1))⟩) := by
  go_enter Tryz.func46, Tryz.ntmps46
  go_wp2_with (first
    | (go_at_call 71; refine (valid_any s _ (by omega)).mono ?_; rintro e w' ⟨rfl, rfl⟩)
    | (go_at_call 73; refine (name_any _ _ (by simp; omega)).mono ?_; rintro e w' ⟨rfl, rfl⟩)
    | (go_at_call 72; refine (words_two s w (by omega) _ hl (by simp)).mono ?_; rintro e w1 ⟨g, cap, rfl, hcap, hmx, hcl, hown, K⟩; obtain ⟨hg3, hg2, hb, c0, c1, d0, d1, e0, e1, f0, f1⟩ := K; have hne : ¬ w.heap.size + 1 = g := (by omega); have hne0 : ¬ w.heap.size = g := (by omega); have hz : w.heap.size + 1 < w1.heap.size := (by omega); have hz0 : w.heap.size < w1.heap.size := (by omega); have hc0 := hcl 0 (by simp); simp only [List.getElem_cons_zero] at hc0))
  go_light
  have x0 : ((fillW w w1 108 (.slice (some ⟨g, 0, none⟩) 1 cap)).setCell ⟨w.heap.size + 1, 1, none⟩ (.slice (some ⟨w1.heap.size, 0, none⟩) 1 1)).cell? ⟨w.heap.size, 0, none⟩ = some (.int .u8 0) := by
    rw [World.cell?_setCell_other]
    · exact fill_cell c0
    · simp
  have x1 : ((fillW w w1 108 (.slice (some ⟨g, 0, none⟩) 1 cap)).setCell ⟨w.heap.size + 1, 1, none⟩ (.slice (some ⟨w1.heap.size, 0, none⟩) 1 1)).cell? ⟨w.heap.size, 1, none⟩ = some (.slice none 0 0) := by
    rw [World.cell?_setCell_other]
    · exact fill_cell c1
    · simp
  obtain ⟨p0, p1⟩ := set_back x0 x1
  refine bodyPost_ret (v := .tuple #[.agg #[.int .u8 108, .slice (some ⟨w1.heap.size, 0, none⟩) 1 1], .bool (isName (x.extract 0 (x.size - 1)))]) (by simp [results, Tryz.results46, go_sem, p0, p1, hz0]) rfl ⟨_, rfl, ?_, ?_⟩
  · have h := World.ownsRow_lit (base := w.heap.size) (e := 9) (size := 1) ((((fillW w w1 108 (.slice (some ⟨g, 0, none⟩) 1 cap)).setCell ⟨w.heap.size + 1, 1, none⟩ (.slice (some ⟨w1.heap.size, 0, none⟩) 1 1)).setCell ⟨w.heap.size, 0, none⟩ (.int .u8 108)).setCell ⟨w.heap.size, 1, none⟩ (.slice (some ⟨w1.heap.size, 0, none⟩) 1 1)) #[Value.string (x.extract 0 (x.size - 1))] 1 (by simp [World.setCell]; omega) (by unfold maxLen; omega) rfl
    simpa [World.setCell] using h
  · exact (((((hb.setCell (by simp) _).setCell (by simp) _).setCell (by simp) _).setCell (by simp) _).setCell (by simp) _).alloc (by simp [World.setCell]; omega) _

end Go.Proofs.YtfpgjkbjbbgciaaGreatDoor

namespace Go.Proofs.YtfpgjkbjbbgciaaGreatDoor
open Go.RowKit Sp

theorem shape_as (x : ByteArray) (w : World) (sh : List UInt8) (HS : Hid (shapeOf x = sh)) :
    Calls Tryz.prog 74 #[.string x] w fun e w' => e = .returned (.string ⟨sh.toArray⟩) ∧ w' = w := by
  rw [← HS.out]; exact shape_any x w
theorem len_ne (a b : Nat) (h : ¬ a = b) : ((a : Int) + 1 != (b : Int) + 1) = true := by simp; omega

set_option maxRecDepth 100000 in
set_option maxHeartbeats 2000000 in
theorem say_odd0a (s : ByteArray) (w : World) (hs : s.size ≤ 1048576) (hv : validAt s 0 = true) (x : ByteArray) (hl : Hid (words s = [x])) (hx : x.size ≤ 1048576) (hx1 : 1 ≤ x.size) (hnf : (x.toList == [102, 117, 110, 99]) = false) (hlast : ((x[x.size - 1].toNat : Int) == 58) = false) (sh : List UInt8) (HS : Hid (shapeOf x = sh)) (_hsh : sh.length ≤ 3) (h63 : (sh == [63]) = true) :
    Calls Tryz.prog 46 #[.string s] w (SaidPost w.heap.size w ⟨105, [x], false⟩) := by
  go_enter Tryz.func46, Tryz.ntmps46
  go_wp2_with (first
    | (go_at_call 71; refine (valid_any s _ (by omega)).mono ?_; rintro e w' ⟨rfl, rfl⟩)
    | (go_at_call 74; refine (shape_as x _ sh HS).mono ?_; rintro e w' ⟨rfl, rfl⟩)
    | (go_at_call 72; refine (words_two s w (by omega) _ hl (by simp)).mono ?_; rintro e w1 ⟨g, cap, rfl, hcap, hmx, hcl, hown, K⟩; obtain ⟨hg3, hg2, hb, c0, c1, d0, d1, e0, e1, f0, f1⟩ := K; have hne : ¬ w.heap.size + 1 = g := (by omega); have hne0 : ¬ w.heap.size = g := (by omega); have hc0 := hcl 0 (by simp); simp only [List.getElem_cons_zero] at hc0))
  go_light
  obtain ⟨p0, p1⟩ := set_back (W := fillW w w1 105 (.slice (some ⟨g, 0, none⟩) 1 cap)) (b := w.heap.size) (fill_cell c0) (fill_cell c1)
  exact bodyPost_ret (v := .tuple #[.agg #[.int .u8 105, .slice (some ⟨g, 0, none⟩) 1 cap], .bool false]) (by simp [results, Tryz.results46, go_sem, p0, p1]) rfl (fill_post (by simpa using hown) hb)

set_option maxRecDepth 100000 in
set_option maxHeartbeats 2000000 in
theorem say_odd0b (s : ByteArray) (w : World) (hs : s.size ≤ 1048576) (hv : validAt s 0 = true) (x : ByteArray) (hl : Hid (words s = [x])) (hx : x.size ≤ 1048576) (hx1 : 1 ≤ x.size) (hnf : (x.toList == [102, 117, 110, 99]) = false) (hlast : ((x[x.size - 1].toNat : Int) == 58) = false) (sh : List UInt8) (HS : Hid (shapeOf x = sh)) (hsh : sh.length ≤ 3) (h63 : (sh == [63]) = false) (hne1 : ((1 : Int) != (sh.length : Int) + 1) = true) :
    Calls Tryz.prog 46 #[.string s] w (SaidPost w.heap.size w ⟨105, [x], false⟩) := by
  go_enter Tryz.func46, Tryz.ntmps46
  go_wp2_with (first
    | (go_at_call 71; refine (valid_any s _ (by omega)).mono ?_; rintro e w' ⟨rfl, rfl⟩)
    | (go_at_call 74; refine (shape_as x _ sh HS).mono ?_; rintro e w' ⟨rfl, rfl⟩)
    | (go_at_call 72; refine (words_two s w (by omega) _ hl (by simp)).mono ?_; rintro e w1 ⟨g, cap, rfl, hcap, hmx, hcl, hown, K⟩; obtain ⟨hg3, hg2, hb, c0, c1, d0, d1, e0, e1, f0, f1⟩ := K; have hne : ¬ w.heap.size + 1 = g := (by omega); have hne0 : ¬ w.heap.size = g := (by omega); have hc0 := hcl 0 (by simp); simp only [List.getElem_cons_zero] at hc0))
  go_light
  obtain ⟨p0, p1⟩ := set_back (W := fillW w w1 105 (.slice (some ⟨g, 0, none⟩) 1 cap)) (b := w.heap.size) (fill_cell c0) (fill_cell c1)
  exact bodyPost_ret (v := .tuple #[.agg #[.int .u8 105, .slice (some ⟨g, 0, none⟩) 1 cap], .bool false]) (by simp [results, Tryz.results46, go_sem, p0, p1]) rfl (fill_post (by simpa using hown) hb)

set_option maxRecDepth 100000 in
set_option maxHeartbeats 2000000 in
theorem say_odd1a (s : ByteArray) (w : World) (hs : s.size ≤ 1048576) (hv : validAt s 0 = true) (x : ByteArray) (r : List ByteArray) (hl : Hid (words s = x :: r)) (_hx : x.size ≤ 1048576) (_hx1 : 1 ≤ x.size) (hnf : (x.toList == [102, 117, 110, 99]) = false) (hr : r.length ≤ 1048576) (hr1 : 1 ≤ r.length) (hr2 : ((r.length : Int) + 1 == 1) = false) (sh : List UInt8) (HS : Hid (shapeOf x = sh)) (_hsh : sh.length ≤ 3) (h63 : (sh == [63]) = true) :
    Calls Tryz.prog 46 #[.string s] w (SaidPost w.heap.size w ⟨105, x :: r, false⟩) := by
  go_enter Tryz.func46, Tryz.ntmps46
  go_wp2_with (first
    | (go_at_call 71; refine (valid_any s _ (by omega)).mono ?_; rintro e w' ⟨rfl, rfl⟩)
    | (go_at_call 74; refine (shape_as x _ sh HS).mono ?_; rintro e w' ⟨rfl, rfl⟩)
    | (go_at_call 72; refine (words_two s w (by omega) _ hl (by simp)).mono ?_; rintro e w1 ⟨g, cap, rfl, hcap, hmx, hcl, hown, K⟩; obtain ⟨hg3, hg2, hb, c0, c1, d0, d1, e0, e1, f0, f1⟩ := K; have hne : ¬ w.heap.size + 1 = g := (by omega); have hne0 : ¬ w.heap.size = g := (by omega); have hc0 := hcl 0 (by simp); simp only [List.getElem_cons_zero] at hc0))
  go_light
  obtain ⟨p0, p1⟩ := set_back (W := fillW w w1 105 (.slice (some ⟨g, 0, none⟩) (r.length + 1) cap)) (b := w.heap.size) (fill_cell c0) (fill_cell c1)
  exact bodyPost_ret (v := .tuple #[.agg #[.int .u8 105, .slice (some ⟨g, 0, none⟩) (r.length + 1) cap], .bool false]) (by simp [results, Tryz.results46, go_sem, p0, p1]) rfl (fill_post (by simpa using hown) hb)

set_option maxRecDepth 100000 in
set_option maxHeartbeats 2000000 in
theorem say_odd1b (s : ByteArray) (w : World) (hs : s.size ≤ 1048576) (hv : validAt s 0 = true) (x : ByteArray) (r : List ByteArray) (hl : Hid (words s = x :: r)) (_hx : x.size ≤ 1048576) (_hx1 : 1 ≤ x.size) (hnf : (x.toList == [102, 117, 110, 99]) = false) (hr : r.length ≤ 1048576) (hr1 : 1 ≤ r.length) (hr2 : ((r.length : Int) + 1 == 1) = false) (sh : List UInt8) (HS : Hid (shapeOf x = sh)) (hsh : sh.length ≤ 3) (h63 : (sh == [63]) = false) (hne1 : ((r.length : Int) + 1 != (sh.length : Int) + 1) = true) :
    Calls Tryz.prog 46 #[.string s] w (SaidPost w.heap.size w ⟨105, x :: r, false⟩) := by
  go_enter Tryz.func46, Tryz.ntmps46
  go_wp2_with (first
    | (go_at_call 71; refine (valid_any s _ (by omega)).mono ?_; rintro e w' ⟨rfl, rfl⟩)
    | (go_at_call 74; refine (shape_as x _ sh HS).mono ?_; rintro e w' ⟨rfl, rfl⟩)
    | (go_at_call 72; refine (words_two s w (by omega) _ hl (by simp)).mono ?_; rintro e w1 ⟨g, cap, rfl, hcap, hmx, hcl, hown, K⟩; obtain ⟨hg3, hg2, hb, c0, c1, d0, d1, e0, e1, f0, f1⟩ := K; have hne : ¬ w.heap.size + 1 = g := (by omega); have hne0 : ¬ w.heap.size = g := (by omega); have hc0 := hcl 0 (by simp); simp only [List.getElem_cons_zero] at hc0))
  go_light
  obtain ⟨p0, p1⟩ := set_back (W := fillW w w1 105 (.slice (some ⟨g, 0, none⟩) (r.length + 1) cap)) (b := w.heap.size) (fill_cell c0) (fill_cell c1)
  exact bodyPost_ret (v := .tuple #[.agg #[.int .u8 105, .slice (some ⟨g, 0, none⟩) (r.length + 1) cap], .bool false]) (by simp [results, Tryz.results46, go_sem, p0, p1]) rfl (fill_post (by simpa using hown) hb)

end Go.Proofs.YtfpgjkbjbbgciaaGreatDoor
