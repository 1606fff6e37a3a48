import Derived.Test.YtfpgjkbjbbgciaaGreatDoorMa36
import Derived.Test.YtfpgjkbjbbgciaaGreatDoorMa37
import Derived.Test.YtfpgjkbjbbgciaaGreatDoorMa39
import Derived.Deep.AppendLies
namespace Go.Proofs.YtfpgjkbjbbgciaaGreatDoor
open Go.RowKit Sp

/-! ### What a statement names -/
set_option maxRecDepth 100000 in
theorem namesFn_any (sort line : Int) (word : ByteArray) (a b c n : Int) (nm : ByteArray) (w : World) :
    Calls Tryz.prog 104 #[stm sort line word a b c n nm] w fun e w' => e = .returned (.bool (asksFn word)) ∧ Below w.heap.size w w' := by
  cases h : (word.toList == [99, 97, 108, 108]) with
  | true =>
    have e : asksFn word = true := h
    rw [e]
    have hw := isW_eq word _ h
    subst hw
    clear h e
    go_enter Tryz.func104, Tryz.ntmps104
    go_wp2
    go_ret
    exact ⟨rfl, (Below.refl _ _).alloc (Nat.le_refl _) _⟩
  | false =>
    have e : asksFn word = false := h
    rw [e]
    clear e
    go_enter Tryz.func104, Tryz.ntmps104
    go_wp2
    go_ret
    exact ⟨rfl, (Below.refl _ _).alloc (Nat.le_refl _) _⟩
set_option maxRecDepth 100000 in
theorem namesLab_any (sort line : Int) (word : ByteArray) (a b c n : Int) (nm : ByteArray) (w : World) :
    Calls Tryz.prog 102 #[stm sort line word a b c n nm] w fun e w' => e = .returned (.bool (asksLab word)) ∧ Below w.heap.size w w' := by
  have e : asksLab word = (word.toList == [106, 117, 109, 112] || word.toList == [108, 101, 115, 115] || word.toList == [115, 97, 109, 101]) := rfl
  rw [e]
  clear e
  cases h1 : (word.toList == [106, 117, 109, 112]) with
  | true =>
    have hw := isW_eq word _ h1
    subst hw
    clear h1
    go_enter Tryz.func102, Tryz.ntmps102
    go_wp2
    go_ret
    exact ⟨rfl, (Below.refl _ _).alloc (Nat.le_refl _) _⟩
  | false =>
    cases h2 : (word.toList == [108, 101, 115, 115]) with
    | true =>
      have hw := isW_eq word _ h2
      subst hw
      clear h1 h2
      go_enter Tryz.func102, Tryz.ntmps102
      go_wp2
      go_ret
      exact ⟨rfl, (Below.refl _ _).alloc (Nat.le_refl _) _⟩
    | false =>
      cases h3 : (word.toList == [115, 97, 109, 101]) with
      | true =>
        have hw := isW_eq word _ h3
        subst hw
        clear h1 h2 h3
        go_enter Tryz.func102, Tryz.ntmps102
        go_wp2
        go_ret
        exact ⟨rfl, (Below.refl _ _).alloc (Nat.le_refl _) _⟩
      | false =>
        go_enter Tryz.func102, Tryz.ntmps102
        go_wp2
        go_ret
        exact ⟨rfl, (Below.refl _ _).alloc (Nat.le_refl _) _⟩
set_option maxRecDepth 100000 in
theorem mayEnd_any (sort line : Int) (word : ByteArray) (a b c n : Int) (nm : ByteArray) (w : World) :
    Calls Tryz.prog 132 #[stm sort line word a b c n nm] w fun e w' => e = .returned (.bool (ends word)) ∧ Below w.heap.size w w' := by
  have e : ends word = (word.toList == [106, 117, 109, 112] || word.toList == [98, 97, 99, 107] || word.toList == [115, 116, 111, 112]) := rfl
  rw [e]
  clear e
  cases h1 : (word.toList == [106, 117, 109, 112]) with
  | true =>
    have hw := isW_eq word _ h1
    subst hw
    clear h1
    go_enter Tryz.func132, Tryz.ntmps132
    go_wp2
    go_ret
    exact ⟨rfl, (Below.refl _ _).alloc (Nat.le_refl _) _⟩
  | false =>
    cases h2 : (word.toList == [98, 97, 99, 107]) with
    | true =>
      have hw := isW_eq word _ h2
      subst hw
      clear h1 h2
      go_enter Tryz.func132, Tryz.ntmps132
      go_wp2
      go_ret
      exact ⟨rfl, (Below.refl _ _).alloc (Nat.le_refl _) _⟩
    | false =>
      cases h3 : (word.toList == [115, 116, 111, 112]) with
      | true =>
        have hw := isW_eq word _ h3
        subst hw
        clear h1 h2 h3
        go_enter Tryz.func132, Tryz.ntmps132
        go_wp2
        go_ret
        exact ⟨rfl, (Below.refl _ _).alloc (Nat.le_refl _) _⟩
      | false =>
        go_enter Tryz.func132, Tryz.ntmps132
        go_wp2
        go_ret
        exact ⟨rfl, (Below.refl _ _).alloc (Nat.le_refl _) _⟩

/-! ### Rows of statements -/
theorem stmCells_len (l : List It) : (stmCells l).length = l.length * 8 := by
  induction l with
  | nil => rfl
  | cons i l ih => simp [stmCells] at ih ⊢; omega
theorem stmCells_at (l : List It) (k : Nat) (h : k < l.length) (j : Nat) (hj : j < 8) : (stmCells l)[k * 8 + j]? = l[k].cells[j]? := by
  induction l generalizing k with
  | nil => simp at h
  | cons i l ih =>
    have e : stmCells (i :: l) = i.cells ++ stmCells l := by simp [stmCells]
    rw [e]
    cases k with
    | zero =>
      rw [List.getElem?_append_left (by simp; omega)]
      simp
    | succ k =>
      rw [List.getElem?_append_right (by simp; omega)]
      have := ih k (by simpa using h)
      simp only [List.getElem_cons_succ]
      rw [← this]
      congr 1
      simp; omega
/-- Where a row's statements lie. -/
theorem stms_at {w : World} {B : Nat} {v : Value} {its : List It} (h : w.ownsRow B 135 8 v its.length (stmCells its)) (hp : 0 < its.length) :
    ∃ g cap, v = .slice (some ⟨g, 0, none⟩) its.length cap ∧ B ≤ g ∧ g < w.heap.size ∧ ∀ k (hk : k < its.length),
      w.cell? ⟨g, k * 8, none⟩ = some (.int .i64 its[k].sort) ∧ w.cell? ⟨g, k * 8 + 1, none⟩ = some (.int .i64 its[k].line) ∧ w.cell? ⟨g, k * 8 + 2, none⟩ = some (.string its[k].word) ∧
      w.cell? ⟨g, k * 8 + 3, none⟩ = some (.int .i64 its[k].a) ∧ w.cell? ⟨g, k * 8 + 4, none⟩ = some (.int .i64 its[k].b) ∧ w.cell? ⟨g, k * 8 + 5, none⟩ = some (.int .i64 its[k].c) ∧
      w.cell? ⟨g, k * 8 + 6, none⟩ = some (.int .i64 its[k].n) ∧ w.cell? ⟨g, k * 8 + 7, none⟩ = some (.string its[k].nm) := by
  obtain ⟨g, cap, rfl, hb, hlt⟩ := h.form hp
  refine ⟨g, cap, rfl, hb, hlt, fun k hk => ?_⟩
  have H : ∀ j, j < 8 → w.cell? ⟨g, k * 8 + j, none⟩ = its[k].cells[j]? := fun j hj => by
    rw [World.ownsRow.cellAt h (k * 8 + j) (by omega), stmCells_at its k hk j hj]
  exact ⟨H 0 (by omega), H 1 (by omega), H 2 (by omega), H 3 (by omega), H 4 (by omega), H 5 (by omega), H 6 (by omega), H 7 (by omega)⟩

set_option maxRecDepth 100000 in
theorem cstart_none (w : World) (B : Nat) (v : Value) (h : w.ownsRow B 135 8 v 0 (stmCells [])) :
    Calls Tryz.prog 67 #[v] w fun e w' => e = refusal 2 0 ∧ w' = w := by
  have hv : ∃ ao cap, v = .slice ao 0 cap := by
    rcases h.2 with ⟨hv, _⟩ | ⟨g, cap, cur, hv, _⟩
    · exact ⟨none, 0, hv⟩
    · exact ⟨_, cap, hv⟩
  obtain ⟨ao, cap, rfl⟩ := hv
  go_enter Tryz.func67, Tryz.ntmps67
  go_wp2_with (go_at_call 79; refine (raise_any _ _ _).mono ?_; rintro e wx ⟨rfl, hww⟩; subst hww)
  exact ⟨rfl, rfl, rfl⟩
set_option maxRecDepth 100000 in
theorem cstart_bad (w : World) (B : Nat) (v : Value) (i : It) (r : List It) (h : w.ownsRow B 135 8 v (i :: r).length (stmCells (i :: r))) (hn : r.length ≤ 4096) (hs : ¬ i.sort = 0) :
    Calls Tryz.prog 67 #[v] w fun e w' => e = refusal 2 i.line ∧ w' = w := by
  obtain ⟨g, cap, rfl, _, _, hc⟩ := stms_at h (by simp)
  obtain ⟨h0, h1, _⟩ := hc 0 (by simp)
  simp only [List.getElem_cons_zero, Nat.zero_mul, Nat.zero_add] at h0 h1
  have hlen : (i :: r).length = r.length + 1 := by simp
  rw [hlen]
  have hs' : (i.sort == 0) = false := by simpa using hs
  clear hc hlen h
  go_enter Tryz.func67, Tryz.ntmps67
  go_wp2_with (go_at_call 79; refine (raise_any _ _ _).mono ?_; rintro e wx ⟨rfl, hww⟩; subst hww)
  all_goals exact ⟨rfl, rfl, rfl⟩
set_option maxRecDepth 100000 in
theorem cstart_good (w : World) (B : Nat) (v : Value) (i : It) (r : List It) (h : w.ownsRow B 135 8 v (i :: r).length (stmCells (i :: r))) (hn : r.length ≤ 4096) (hs : i.sort = 0) :
    Calls Tryz.prog 67 #[v] w fun e w' => e = .returned (.tuple #[]) ∧ w' = w := by
  obtain ⟨g, cap, rfl, _, _, hc⟩ := stms_at h (by simp)
  obtain ⟨h0, h1, _⟩ := hc 0 (by simp)
  simp only [List.getElem_cons_zero, Nat.zero_mul, Nat.zero_add] at h0 h1
  have hlen : (i :: r).length = r.length + 1 := by simp
  rw [hlen]
  rw [hs] at h0
  clear hc hlen h
  go_enter Tryz.func67, Tryz.ntmps67
  go_wp2
  go_end0
  exact ⟨rfl, rfl⟩

end Go.Proofs.YtfpgjkbjbbgciaaGreatDoor
