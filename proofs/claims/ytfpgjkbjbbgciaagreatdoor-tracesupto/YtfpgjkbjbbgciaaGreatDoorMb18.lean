import Derived.Test.YtfpgjkbjbbgciaaGreatDoorMb16
import Derived.Test.YtfpgjkbjbbgciaaGreatDoorMb17
import Derived.Deep.AppendLies
import Derived.Deep.RegionHeld3
import Derived.Deep.DrawnRows
import Derived.RegionDies
namespace Go.Proofs.YtfpgjkbjbbgciaaGreatDoor
open Go.RowKit Sp

/-! ### What a statement names -/
set_option maxRecDepth 100000 in
theorem namesFn_any (sort line : Int) (word : ByteArray) (a b c n : Int) (nm : ByteArray) (w : World) :
    Calls Tryz.prog 104 #[stm sort line word a b c n nm] w fun e w' => e = .returned (.bool (asksFn word)) ∧ Below w.heap.size w w' := by
  cases h : (word.toList == [99, 97, 108, 108]) with
  | true =>
    have e : asksFn word = true := h
    rw [e]
    have hw := isW_eq word _ h
    subst hw
    clear h e
    go_enter Tryz.func104, Tryz.ntmps104
    go_wp2
    go_ret
    exact ⟨rfl, (Below.refl _ _).alloc (Nat.le_refl _) _⟩
  | false =>
    have e : asksFn word = false := h
    rw [e]
    clear e
    go_enter Tryz.func104, Tryz.ntmps104
    go_wp2
    go_ret
    exact ⟨rfl, (Below.refl _ _).alloc (Nat.le_refl _) _⟩
set_option maxRecDepth 100000 in
theorem namesLab_any (sort line : Int) (word : ByteArray) (a b c n : Int) (nm : ByteArray) (w : World) :
    Calls Tryz.prog 102 #[stm sort line word a b c n nm] w fun e w' => e = .returned (.bool (asksLab word)) ∧ Below w.heap.size w w' := by
  have e : asksLab word = (word.toList == [106, 117, 109, 112] || word.toList == [108, 101, 115, 115] || word.toList == [115, 97, 109, 101]) := rfl
  rw [e]
  clear e
  cases h1 : (word.toList == [106, 117, 109, 112]) with
  | true =>
    have hw := isW_eq word _ h1
    subst hw
    clear h1
    go_enter Tryz.func102, Tryz.ntmps102
    go_wp2
    go_ret
    exact ⟨rfl, (Below.refl _ _).alloc (Nat.le_refl _) _⟩
  | false =>
    cases h2 : (word.toList == [108, 101, 115, 115]) with
    | true =>
      have hw := isW_eq word _ h2
      subst hw
      clear h1 h2
      go_enter Tryz.func102, Tryz.ntmps102
      go_wp2
      go_ret
      exact ⟨rfl, (Below.refl _ _).alloc (Nat.le_refl _) _⟩
    | false =>
      cases h3 : (word.toList == [115, 97, 109, 101]) with
      | true =>
        have hw := isW_eq word _ h3
        subst hw
        clear h1 h2 h3
        go_enter Tryz.func102, Tryz.ntmps102
        go_wp2
        go_ret
        exact ⟨rfl, (Below.refl _ _).alloc (Nat.le_refl _) _⟩
      | false =>
        go_enter Tryz.func102, Tryz.ntmps102
        go_wp2
        go_ret
        exact ⟨rfl, (Below.refl _ _).alloc (Nat.le_refl _) _⟩
set_option maxRecDepth 100000 in
theorem mayEnd_any (sort line : Int) (word : ByteArray) (a b c n : Int) (nm : ByteArray) (w : World) :
    Calls Tryz.prog 132 #[stm sort line word a b c n nm] w fun e w' => e = .returned (.bool (ends word)) ∧ Below w.heap.size w w' := by
  have e : ends word = (word.toList == [106, 117, 109, 112] || word.toList == [98, 97, 99, 107] || word.toList == [115, 116, 111, 112]) := rfl
  rw [e]
  clear e
  cases h1 : (word.toList == [106, 117, 109, 112]) with
  | true =>
    have hw := isW_eq word _ h1
    subst hw
    clear h1
    go_enter Tryz.func132, Tryz.ntmps132
    go_wp2
    go_ret
    exact ⟨rfl, (Below.refl _ _).alloc (Nat.le_refl _) _⟩
  | false =>
    cases h2 : (word.toList == [98, 97, 99, 107]) with
    | true =>
      have hw := isW_eq word _ h2
      subst hw
      clear h1 h2
      go_enter Tryz.func132, Tryz.ntmps132
      go_wp2
      go_ret
      exact ⟨rfl, (Below.refl _ _).alloc (Nat.le_refl _) _⟩
    | false =>
      cases h3 : (word.toList == [115, 116, 111, 112]) with
      | true =>
        have hw := isW_eq word _ h3
        subst hw
        clear h1 h2 h3
        go_enter Tryz.func132, Tryz.ntmps132
        go_wp2
        go_ret
        exact ⟨rfl, (Below.refl _ _).alloc (Nat.le_refl _) _⟩
      | false =>
        go_enter Tryz.func132, Tryz.ntmps132
        go_wp2
        go_ret
        exact ⟨rfl, (Below.refl _ _).alloc (Nat.le_refl _) _⟩

/-! ### Rows of statements -/
theorem stmCells_len (l : List It) : (stmCells l).length = l.length * 8 := by
  induction l with
  | nil => rfl
  | cons i l ih => simp [stmCells] at ih ⊢; omega
theorem stmCells_at (l : List It) (k : Nat) (h : k < l.length) (j : Nat) (hj : j < 8) : (stmCells l)[k * 8 + j]? = l[k].cells[j]? := by
  induction l generalizing k with
  | nil => simp at h
  | cons i l ih =>
    have e : stmCells (i :: l) = i.cells ++ stmCells l := by simp [stmCells]
    rw [e]
    cases k with
    | zero =>
      rw [List.getElem?_append_left (by simp; omega)]
      simp
    | succ k =>
      rw [List.getElem?_append_right (by simp; omega)]
      have := ih k (by simpa using h)
      simp only [List.getElem_cons_succ]
      rw [← this]
      congr 1
      simp; omega
/-- Where a row's statements lie. -/
theorem stms_at {w : World} {B : Nat} {v : Value} {its : List It} (h : w.ownsRow B 135 8 v its.length (stmCells its)) (hp : 0 < its.length) :
    ∃ g cap, v = .slice (some ⟨g, 0, none⟩) its.length cap ∧ B ≤ g ∧ g < w.heap.size ∧ ∀ k (hk : k < its.length),
      w.cell? ⟨g, k * 8, none⟩ = some (.int .i64 its[k].sort) ∧ w.cell? ⟨g, k * 8 + 1, none⟩ = some (.int .i64 its[k].line) ∧ w.cell? ⟨g, k * 8 + 2, none⟩ = some (.string its[k].word) ∧
      w.cell? ⟨g, k * 8 + 3, none⟩ = some (.int .i64 its[k].a) ∧ w.cell? ⟨g, k * 8 + 4, none⟩ = some (.int .i64 its[k].b) ∧ w.cell? ⟨g, k * 8 + 5, none⟩ = some (.int .i64 its[k].c) ∧
      w.cell? ⟨g, k * 8 + 6, none⟩ = some (.int .i64 its[k].n) ∧ w.cell? ⟨g, k * 8 + 7, none⟩ = some (.string its[k].nm) := by
  obtain ⟨g, cap, rfl, hb, hlt⟩ := h.form hp
  refine ⟨g, cap, rfl, hb, hlt, fun k hk => ?_⟩
  have H : ∀ j, j < 8 → w.cell? ⟨g, k * 8 + j, none⟩ = its[k].cells[j]? := fun j hj => by
    rw [World.ownsRow.cellAt h (k * 8 + j) (by omega), stmCells_at its k hk j hj]
  exact ⟨H 0 (by omega), H 1 (by omega), H 2 (by omega), H 3 (by omega), H 4 (by omega), H 5 (by omega), H 6 (by omega), H 7 (by omega)⟩

set_option maxRecDepth 100000 in
theorem cstart_none (w : World) (B : Nat) (v : Value) (h : w.ownsRow B 135 8 v 0 (stmCells [])) :
    Calls Tryz.prog 67 #[v] w fun e w' => e = refusal 2 0 ∧ w' = w := by
  have hv : ∃ ao cap, v = .slice ao 0 cap := by
    rcases h.2 with ⟨hv, _⟩ | ⟨g, cap, cur, hv, _⟩
    · exact ⟨none, 0, hv⟩
    · exact ⟨_, cap, hv⟩
  obtain ⟨ao, cap, rfl⟩ := hv
  go_enter Tryz.func67, Tryz.ntmps67
  go_wp2_with (go_at_call 79; refine (raise_any _ _ _).mono ?_; rintro e wx ⟨rfl, hww⟩; subst hww)
  exact ⟨rfl, rfl, rfl⟩
set_option maxRecDepth 100000 in
theorem cstart_bad (w : World) (B : Nat) (v : Value) (i : It) (r : List It) (h : w.ownsRow B 135 8 v (i :: r).length (stmCells (i :: r))) (hn : r.length ≤ 4096) (hs : ¬ i.sort = 0) :
    Calls Tryz.prog 67 #[v] w fun e w' => e = refusal 2 i.line ∧ w' = w := by
  obtain ⟨g, cap, rfl, _, _, hc⟩ := stms_at h (by simp)
  obtain ⟨h0, h1, _⟩ := hc 0 (by simp)
  simp only [List.getElem_cons_zero, Nat.zero_mul, Nat.zero_add] at h0 h1
  have hlen : (i :: r).length = r.length + 1 := by simp
  rw [hlen]
  have hs' : (i.sort == 0) = false := by simpa using hs
  clear hc hlen h
  go_enter Tryz.func67, Tryz.ntmps67
  go_wp2_with (go_at_call 79; refine (raise_any _ _ _).mono ?_; rintro e wx ⟨rfl, hww⟩; subst hww)
  all_goals exact ⟨rfl, rfl, rfl⟩
set_option maxRecDepth 100000 in
theorem cstart_good (w : World) (B : Nat) (v : Value) (i : It) (r : List It) (h : w.ownsRow B 135 8 v (i :: r).length (stmCells (i :: r))) (hn : r.length ≤ 4096) (hs : i.sort = 0) :
    Calls Tryz.prog 67 #[v] w fun e w' => e = .returned (.tuple #[]) ∧ w' = w := by
  obtain ⟨g, cap, rfl, _, _, hc⟩ := stms_at h (by simp)
  obtain ⟨h0, h1, _⟩ := hc 0 (by simp)
  simp only [List.getElem_cons_zero, Nat.zero_mul, Nat.zero_add] at h0 h1
  have hlen : (i :: r).length = r.length + 1 := by simp
  rw [hlen]
  rw [hs] at h0
  clear hc hlen h
  go_enter Tryz.func67, Tryz.ntmps67
  go_wp2
  go_end0
  exact ⟨rfl, rfl⟩

end Go.Proofs.YtfpgjkbjbbgciaaGreatDoor

namespace Go.Proofs.YtfpgjkbjbbgciaaGreatDoor
open Go.RowKit Sp

attribute [local go_sem ↓] Go.wp_at_zero Go.wp_at_succ

theorem frozen_two (w : World) (a b : Obj) (p : Addr) (h : p.block < w.heap.size) : ((w.alloc a).alloc b).drew.frozen? p = w.frozen? p :=
  World.frozen?_of_block (w := w) ((((Below.refl w.heap.size w).alloc (Nat.le_refl _) a).alloc (by simp) b).drew.block p.block h)

theorem cell_two (w : World) (a b : Obj) (p : Addr) (h : p.block < w.heap.size) : ((w.alloc a).alloc b).drew.cell? p = w.cell? p :=
  World.cell?_of_block (w := w) ((((Below.refl w.heap.size w).alloc (Nat.le_refl _) a).alloc (by simp) b).drew.block p.block h)
theorem news_two (w : World) (a : Obj) (cs : Array Value) (t : TypeId) : ((w.alloc a).alloc (.cells cs t)).drew.heap[w.heap.size + 1]? = some (.cells cs t (0, 0)) := by
  have h := heap_alloc_new (w.alloc a) (.cells cs t)
  rw [show (w.alloc a).heap.size = w.heap.size + 1 by simp] at h
  exact h

theorem grown_two {w w1 : World} {a b : Obj} {row : Option Nat} (h : ((w.alloc a).alloc b).drew.grownBy w1 row) : w.grownBy w1 row :=
  ((World.grownBy_alloc w a row).trans (World.grownBy_alloc _ b row)).trans ⟨h.os, h.tape, h.output, h.size, h.block⟩

set_option maxRecDepth 100000 in
set_option maxHeartbeats 3200000 in
theorem add_plain (w : World) (B fg o : Nat) (bv : Value) (its : List It) (i : It) (hs : ¬ i.sort = 1)
    (hc : w.cell? ⟨fg, o + 2, none⟩ = some bv) (hf : w.frozen? ⟨fg, o + 2, none⟩ = false) (hown : w.ownsRow B 135 8 bv its.length (stmCells its)) (hne : bv.ownBlock ≠ some fg) (hB : B ≤ w.heap.size) (hn : its.length ≤ 4096) :
    Calls Tryz.prog 101 #[.pointer (some ⟨fg, o, none⟩), stm i.sort i.line i.word i.a i.b i.c i.n i.nm] w fun e w' => e = .returned (.tuple #[]) ∧
      ∃ g cap w1, w' = w1.setCell ⟨fg, o + 2, none⟩ (.slice (some ⟨g, 0, none⟩) (its.length + 1) cap) ∧ w.grownBy w1 bv.ownBlock ∧
        w1.ownsRow B 135 8 (.slice (some ⟨g, 0, none⟩) (its.length + 1) cap) (its.length + 1) (stmCells (its ++ [i])) ∧ (bv.ownBlock = some g ∨ w.heap.size ≤ g) := by
  obtain ⟨i0, hi0, hz0, hz1, hz2⟩ := info_parts Tryz.info135
  have lg : fg < w.heap.size := World.block_lt_of_cell? w _ hc
  have hs' : (i.sort == 1) = false := by simpa using hs
  have hlt : ∀ b, bv.ownBlock = some b → b < w.heap.size := fun b hb => (hown.lt b hb).2
  have hne2 : some fg ≠ bv.ownBlock := fun e => hne e.symm
  have hne3 : some w.heap.size ≠ bv.ownBlock := fun e => by have := hlt _ e.symm; omega
  have hne4 : ¬ w.heap.size = fg := by omega
  have hne5 : ¬ fg = w.heap.size := by omega
  go_enter Tryz.func101, Tryz.ntmps101
  go_wp2_with fail
  go_region_law
    ((refine step_append_lies _ (by rfl) _ _ _ (by rfl) B 135 i0 _ 8 80 Tryz.under116 hi0 hz0 hz1 hz2 rfl (by omega) bv its.length (stmCells its) (by rfl) (((hown.alloc _).alloc _).drew)
        ⟨w.heap.size + 1, 0, none⟩ 1 1 i.cells (by rfl) (by rfl) (World.news_of_block (cs := i.cells.toArray) (t := 135) (fr := (0, 0)) (news_two w _ _ _)) (eight_one i)
        (by omega) (by unfold maxLen; omega) (by omega) (by simp; omega) (w.heap.size + 1 + 1) (by simp) ?_; intro g cap w1 hown1 hgrow hat hltg; have hfz : w1.frozen? ⟨fg, o + 2, none⟩ = false := (hgrow.frozen_far _ (by simp; omega) hne2).trans ((frozen_two w _ _ _ lg).trans hf); have hcz : w1.cell? ⟨fg, o + 2, none⟩ = some bv := (hgrow.cell_far _ (by simp; omega) hne2).trans ((cell_two w _ _ _ lg).trans hc)))
  all_goals go_end0
  all_goals exact ⟨rfl, g, cap, w1, rfl, grown_two hgrow, by rw [stmCells_snoc]; exact hown1, by rcases hat with h | h; exact .inl h; exact .inr (by omega)⟩

end Go.Proofs.YtfpgjkbjbbgciaaGreatDoor

namespace Go.Proofs.YtfpgjkbjbbgciaaGreatDoor
open Go.RowKit Sp
attribute [local go_sem ↓] Go.wp_at_zero Go.wp_at_succ

theorem MapIs.drew {w : World} {b : Nat} {E : List (ByteArray × Nat)} (h : MapIs w b E) : MapIs w.drew b E := h

theorem one_new (w : World) (a : Obj) {w1 : World} (h : Below (w.alloc a).drew.heap.size (w.alloc a).drew w1) : Below w.heap.size w w1 :=
  (((Below.refl w.heap.size w).alloc (Nat.le_refl _) a).drew).trans (h.mono (by show w.heap.size ≤ (w.alloc a).heap.size; simp))

set_option maxRecDepth 100000 in
set_option maxHeartbeats 3200000 in
theorem add_old (w : World) (B fg o m : Nat) (bv : Value) (its : List It) (i : It) (E : List (ByteArray × Nat)) (hs : i.sort = 1)
    (hc : w.cell? ⟨fg, o + 2, none⟩ = some bv) (hm : w.cell? ⟨fg, o + 3, none⟩ = some (.map (some m))) (hM : MapIs w m E) (hown : w.ownsRow B 135 8 bv its.length (stmCells its)) (_hn : its.length ≤ 4096)
    (hnm : i.nm.size ≤ 1048576) (hold : (namesE E).any (fun y => eqW y i.nm) = true) :
    Calls Tryz.prog 101 #[.pointer (some ⟨fg, o, none⟩), stm i.sort i.line i.word i.a i.b i.c i.n i.nm] w fun e w' => e = refusal 3 i.line ∧ Below w.heap.size w w' := by
  have lg : fg < w.heap.size := World.block_lt_of_cell? w _ hc
  have hne4 : ¬ w.heap.size = fg := by omega
  have hne5 : ¬ fg = w.heap.size := by omega
  have hv : ∃ ao cap, bv = .slice ao its.length cap := by
    rcases hown.2 with ⟨hv, h0⟩ | ⟨g, cap, cur, hv, _⟩
    · exact ⟨none, 0, by rw [hv, h0]⟩
    · exact ⟨_, cap, hv⟩
  obtain ⟨ao, cap, rfl⟩ := hv
  rw [hs]
  have hcall := enter_old ((w.alloc (.cells #[.int .i64 1, .int .i64 i.line, .string i.word, .int .i64 i.a, .int .i64 i.b, .int .i64 i.c, .int .i64 i.n, .string i.nm] 135)).drew) m E (hM.alloc _).drew 1 i.line i.word i.a i.b i.c i.n i.nm (its.length : Int) hnm hold
  go_enter Tryz.func101, Tryz.ntmps101
  go_wp2_with fail
  go_region_dies
  all_goals (go_at_call 131; refine hcall.mono ?_; rintro e w2 ⟨rfl, hb⟩)
  all_goals exact ⟨rfl, rfl, one_new _ _ hb⟩

theorem eight_in (w : World) (s l : Int) (x : ByteArray) (a b c n : Int) (y : ByteArray) :
    ((w.alloc (.cells #[.int .i64 s, .int .i64 l, .string x, .int .i64 a, .int .i64 b, .int .i64 c, .int .i64 n, .string y] 135)).drew).cell? ⟨w.heap.size, 0, none⟩ = some (.int .i64 s) ∧
    ((w.alloc (.cells #[.int .i64 s, .int .i64 l, .string x, .int .i64 a, .int .i64 b, .int .i64 c, .int .i64 n, .string y] 135)).drew).cell? ⟨w.heap.size, 1, none⟩ = some (.int .i64 l) ∧
    ((w.alloc (.cells #[.int .i64 s, .int .i64 l, .string x, .int .i64 a, .int .i64 b, .int .i64 c, .int .i64 n, .string y] 135)).drew).cell? ⟨w.heap.size, 2, none⟩ = some (.string x) ∧
    ((w.alloc (.cells #[.int .i64 s, .int .i64 l, .string x, .int .i64 a, .int .i64 b, .int .i64 c, .int .i64 n, .string y] 135)).drew).cell? ⟨w.heap.size, 3, none⟩ = some (.int .i64 a) ∧
    ((w.alloc (.cells #[.int .i64 s, .int .i64 l, .string x, .int .i64 a, .int .i64 b, .int .i64 c, .int .i64 n, .string y] 135)).drew).cell? ⟨w.heap.size, 4, none⟩ = some (.int .i64 b) ∧
    ((w.alloc (.cells #[.int .i64 s, .int .i64 l, .string x, .int .i64 a, .int .i64 b, .int .i64 c, .int .i64 n, .string y] 135)).drew).cell? ⟨w.heap.size, 5, none⟩ = some (.int .i64 c) ∧
    ((w.alloc (.cells #[.int .i64 s, .int .i64 l, .string x, .int .i64 a, .int .i64 b, .int .i64 c, .int .i64 n, .string y] 135)).drew).cell? ⟨w.heap.size, 6, none⟩ = some (.int .i64 n) ∧
    ((w.alloc (.cells #[.int .i64 s, .int .i64 l, .string x, .int .i64 a, .int .i64 b, .int .i64 c, .int .i64 n, .string y] 135)).drew).cell? ⟨w.heap.size, 7, none⟩ = some (.string y) := by
  have h := World.cell?_alloc_new (w := w) #[.int .i64 s, .int .i64 l, .string x, .int .i64 a, .int .i64 b, .int .i64 c, .int .i64 n, .string y] 135
  exact ⟨h 0, h 1, h 2, h 3, h 4, h 5, h 6, h 7⟩
theorem frozen_one (w : World) (b : Obj) (p : Addr) (h : p.block < w.heap.size) : (w.alloc b).drew.frozen? p = w.frozen? p :=
  World.frozen?_of_block (w := w) (((Below.refl w.heap.size w).alloc (Nat.le_refl _) b).drew.block p.block h)
theorem cell_one (w : World) (b : Obj) (p : Addr) (h : p.block < w.heap.size) : (w.alloc b).drew.cell? p = w.cell? p :=
  World.cell?_of_block (w := w) (((Below.refl w.heap.size w).alloc (Nat.le_refl _) b).drew.block p.block h)
theorem news_one (w : World) (cs : Array Value) (t : TypeId) : (w.alloc (.cells cs t)).drew.heap[w.heap.size]? = some (.cells cs t (0, 0)) := heap_alloc_new w (.cells cs t)
theorem grown_one {w w1 : World} {a : Obj} {row : Option Nat} (h : (w.alloc a).drew.grownBy w1 row) : w.grownBy w1 row :=
  (World.grownBy_alloc w a row).trans ⟨h.os, h.tape, h.output, h.size, h.block⟩

set_option maxRecDepth 100000 in
set_option maxHeartbeats 3200000 in
theorem add_new (w : World) (B fg o m : Nat) (bv : Value) (its : List It) (i : It) (E : List (ByteArray × Nat)) (hs : i.sort = 1)
    (hc : w.cell? ⟨fg, o + 2, none⟩ = some bv) (hm : w.cell? ⟨fg, o + 3, none⟩ = some (.map (some m))) (hM : MapIs w m E) (hown : w.ownsRow B 135 8 bv its.length (stmCells its)) (hn : its.length ≤ 4096) (hnn : E.length ≤ 4096)
    (hnm : i.nm.size ≤ 1048576) (hold : (namesE E).any (fun y => eqW y i.nm) = false) :
    Calls Tryz.prog 101 #[.pointer (some ⟨fg, o, none⟩), stm i.sort i.line i.word i.a i.b i.c i.n i.nm] w fun e w' => e = .returned (.tuple #[]) ∧ w.grownBy w' (some m) ∧ MapIs w' m (E ++ [(i.nm, its.length)]) := by
  have lg : fg < w.heap.size := World.block_lt_of_cell? w _ hc
  have hne4 : ¬ w.heap.size = fg := by omega
  have hne5 : ¬ fg = w.heap.size := by omega
  have hv : ∃ ao cap, bv = .slice ao its.length cap := by
    rcases hown.2 with ⟨hv, h0⟩ | ⟨g, cap, cur, hv, _⟩
    · exact ⟨none, 0, by rw [hv, h0]⟩
    · exact ⟨_, cap, hv⟩
  obtain ⟨ao, cap0, rfl⟩ := hv
  rw [hs]
  have hcall := enter_new ((w.alloc (.cells #[.int .i64 1, .int .i64 i.line, .string i.word, .int .i64 i.a, .int .i64 i.b, .int .i64 i.c, .int .i64 i.n, .string i.nm] 135)).drew) m E (hM.alloc _).drew 1 i.line i.word i.a i.b i.c i.n i.nm its.length hn hnn hnm hold
  go_enter Tryz.func101, Tryz.ntmps101
  go_wp2_with fail
  go_region_with (go_at_call 131; refine hcall.mono ?_; rintro e w2 ⟨rfl, hM2, hg2⟩)
  all_goals go_wp2
  all_goals go_end0
  all_goals exact ⟨rfl, grown_one hg2, hM2⟩

end Go.Proofs.YtfpgjkbjbbgciaaGreatDoor

namespace Go.Proofs.YtfpgjkbjbbgciaaGreatDoor
open Go.RowKit Sp
attribute [local go_sem ↓] Go.wp_at_zero Go.wp_at_succ

theorem Tryz.info131 : (Tryz.prog.info? 131).map (fun i => (i.zero, i.size, i.bytes)) = some (some (.agg #[.string ByteArray.empty, .int .i64 0, .slice none 0 0, .map none]), 4, 56) := by kernel_rfl
theorem Tryz.under80 : Tryz.prog.underlying 80 = some (.slice 131) := by kernel_rfl
theorem make31 (W : World) : (Instr.makeMap 81 none).run Tryz.prog W = .ok (.map (some W.heap.size)) (W.alloc (.map #[] 0)) := by kernel_rfl
theorem slice_of {w : World} {B : Nat} {e : TypeId} {size n : Nat} {v : Value} {xs : List Value} (hown : w.ownsRow B e size v n xs) : ∃ ao cap, v = .slice ao n cap := by
  rcases hown.2 with ⟨hv, h0⟩ | ⟨g, cap, cur, hv, _⟩
  · exact ⟨none, 0, by rw [hv, h0]⟩
  · exact ⟨_, cap, hv⟩

set_option maxRecDepth 100000 in
set_option maxHeartbeats 3200000 in
theorem begin_old (w : World) (B p pm n : Nat) (v : Value) (xs : List Value) (i : It) (E : List (ByteArray × Nat))
    (hc : w.cell? ⟨p, 0, none⟩ = some v) (hm : w.cell? ⟨p, 1, none⟩ = some (.map (some pm))) (hM : MapIs w pm E) (hown : w.ownsRow B 131 4 v n xs) (_hn : n ≤ 4096)
    (hnm : i.nm.size ≤ 1048576) (hold : (namesE E).any (fun y => eqW y i.nm) = true) :
    Calls Tryz.prog 100 #[.pointer (some ⟨p, 0, none⟩), stm i.sort i.line i.word i.a i.b i.c i.n i.nm] w fun e w' => e = refusal 3 i.line ∧ Below w.heap.size w w' := by
  have lg : p < w.heap.size := World.block_lt_of_cell? w _ hc
  have hne4 : ¬ w.heap.size = p := by omega
  have hne5 : ¬ p = w.heap.size := by omega
  obtain ⟨ao, cap, rfl⟩ := slice_of hown
  have hcall := enter_old ((w.alloc (.cells #[.int .i64 i.sort, .int .i64 i.line, .string i.word, .int .i64 i.a, .int .i64 i.b, .int .i64 i.c, .int .i64 i.n, .string i.nm] 135)).drew) pm E (hM.alloc _).drew i.sort i.line i.word i.a i.b i.c i.n i.nm (n : Int) hnm hold
  go_enter Tryz.func100, Tryz.ntmps100
  go_wp2_with fail
  go_region_dies
  all_goals (go_at_call 131; refine hcall.mono ?_; rintro e w2 ⟨rfl, hb⟩)
  all_goals exact ⟨rfl, rfl, one_new _ _ hb⟩

set_option maxRecDepth 100000 in
set_option maxHeartbeats 3200000 in
theorem begin_new (w : World) (B p pm n : Nat) (v : Value) (xs : List Value) (i : It) (E : List (ByteArray × Nat))
    (hc : w.cell? ⟨p, 0, none⟩ = some v) (hm : w.cell? ⟨p, 1, none⟩ = some (.map (some pm))) (hf : w.frozen? ⟨p, 0, none⟩ = false) (hM : MapIs w pm E) (hown : w.ownsRow B 131 4 v n xs) (hne : v.ownBlock ≠ some p) (hB : B ≤ w.heap.size) (hn : n ≤ 4096) (hnn : E.length ≤ 4096)
    (hnm : i.nm.size ≤ 1048576) (hold : (namesE E).any (fun y => eqW y i.nm) = false) (hpm : ¬ p = pm) :
    Calls Tryz.prog 100 #[.pointer (some ⟨p, 0, none⟩), stm i.sort i.line i.word i.a i.b i.c i.n i.nm] w fun e w' => e = .returned (.tuple #[]) ∧
      ∃ g cap w1 w2, w' = w1.setCell ⟨p, 0, none⟩ (.slice (some ⟨g, 0, none⟩) (n + 1) cap) ∧ w.grownBy w2 (some pm) ∧ MapIs w2 pm (E ++ [(i.nm, n)]) ∧ w2.grownBy w1 v.ownBlock ∧ w.heap.size ≤ w2.heap.size ∧ MapIs w1 w2.heap.size [] ∧
        w1.ownsRow B 131 4 (.slice (some ⟨g, 0, none⟩) (n + 1) cap) (n + 1) (xs ++ [.string i.nm, .int .i64 i.line, .slice none 0 0, .map (some w2.heap.size)]) ∧ (v.ownBlock = some g ∨ w2.heap.size < g) := by
  obtain ⟨i0, hi0, hz0, hz1, hz2⟩ := info_parts Tryz.info131
  have lg : p < w.heap.size := World.block_lt_of_cell? w _ hc
  have lm : pm < w.heap.size := hM.lt
  have hne4 : ¬ w.heap.size = p := by omega
  have hne5 : ¬ p = w.heap.size := by omega
  have hlt : ∀ b, v.ownBlock = some b → b < w.heap.size := fun b hb => (hown.lt b hb).2
  have hne2 : some p ≠ v.ownBlock := fun e => hne e.symm
  have hmr := map_row hM hown
  have hrow : v.ownBlock = none ∨ v.ownBlock ≠ some pm := .inr (fun e => hmr e.symm)
  obtain ⟨ao, cap0, hbv⟩ := slice_of hown
  have hc' := hc
  rw [hbv] at hc'
  have hcall := enter_new ((w.alloc (.cells #[.int .i64 i.sort, .int .i64 i.line, .string i.word, .int .i64 i.a, .int .i64 i.b, .int .i64 i.c, .int .i64 i.n, .string i.nm] 135)).drew) pm E (hM.alloc _).drew i.sort i.line i.word i.a i.b i.c i.n i.nm n hn hnn hnm hold
  obtain ⟨k0, k1, k2, k3, k4, k5, k6, k7⟩ := eight_in w i.sort i.line i.word i.a i.b i.c i.n i.nm
  go_enter Tryz.func100, Tryz.ntmps100
  go_wp2_with fail
  go_region_held3 (fun w' => w'.cell? ⟨p, 0, none⟩ = some (.slice ao n cap0) ∧ w'.cell? ⟨p, 1, none⟩ = some (.map (some pm)) ∧ w'.cell? ⟨w.heap.size, 0, none⟩ = some (.int .i64 i.sort) ∧ w'.cell? ⟨w.heap.size, 1, none⟩ = some (.int .i64 i.line) ∧ w'.cell? ⟨w.heap.size, 2, none⟩ = some (.string i.word) ∧
      w'.cell? ⟨w.heap.size, 3, none⟩ = some (.int .i64 i.a) ∧ w'.cell? ⟨w.heap.size, 4, none⟩ = some (.int .i64 i.b) ∧ w'.cell? ⟨w.heap.size, 5, none⟩ = some (.int .i64 i.c) ∧ w'.cell? ⟨w.heap.size, 6, none⟩ = some (.int .i64 i.n) ∧ w'.cell? ⟨w.heap.size, 7, none⟩ = some (.string i.nm))
    (first
      | go_keep
      | (refine ⟨?_, ?_, ?_, ?_, ?_, ?_, ?_, ?_, ?_, ?_⟩
         · (exact (hg2.cell_far _ (by simp; omega) (by simp; omega)).trans ((cell_one w _ _ lg).trans hc'))
         · (exact (hg2.cell_far _ (by simp; omega) (by simp; omega)).trans ((cell_one w _ _ lg).trans hm))
         · (exact (hg2.cell_far _ (by simp) (by simp; omega)).trans k0)
         · (exact (hg2.cell_far _ (by simp) (by simp; omega)).trans k1)
         · (exact (hg2.cell_far _ (by simp) (by simp; omega)).trans k2)
         · (exact (hg2.cell_far _ (by simp) (by simp; omega)).trans k3)
         · (exact (hg2.cell_far _ (by simp) (by simp; omega)).trans k4)
         · (exact (hg2.cell_far _ (by simp) (by simp; omega)).trans k5)
         · (exact (hg2.cell_far _ (by simp) (by simp; omega)).trans k6)
         · (exact (hg2.cell_far _ (by simp) (by simp; omega)).trans k7)))
    (first | (go_at_call 131; refine hcall.mono ?_; rintro e w2 ⟨rfl, hM2, hg2⟩))
  have hsz2 : w.heap.size + 1 ≤ w2.heap.size := by have := hg2.size; simpa using this
  have c2 : w2.cell? ⟨p, 0, none⟩ = some v := (hg2.cell_far _ (by simp; omega) (by simp; omega)).trans ((cell_one w _ _ lg).trans hc)
  have f2 : w2.frozen? ⟨p, 0, none⟩ = false := (hg2.frozen_far _ (by simp; omega) (by simp; omega)).trans ((frozen_one w _ _ lg).trans hf)
  replace k1 := (hg2.cell_far ⟨w.heap.size, 1, none⟩ (by simp) (by simp; omega)).trans k1
  replace k7 := (hg2.cell_far ⟨w.heap.size, 7, none⟩ (by simp) (by simp; omega)).trans k7
  have own2 : w2.ownsRow B 131 4 v n xs := ((hown.alloc _).drew).kept hg2 hrow
  have hgw : w.grownBy w2 (some pm) := grown_one hg2
  clear hcall hg2 hc' hc hm hf hM hown k0 k2 k3 k4 k5 k6
  have l2 : p < w2.heap.size := by omega
  have l3 : w.heap.size < w2.heap.size := by omega
  have hne6 : ¬ w2.heap.size = p := by omega
  have hne7 : ¬ p = w2.heap.size := by omega
  have hne8 : ¬ w2.heap.size = w.heap.size := by omega
  have hne9 : ¬ w.heap.size = w2.heap.size := by omega
  have hmade := MapIs.made w2
  have hlt2 : ∀ b, v.ownBlock = some b → b < w2.heap.size := fun b hb => (own2.lt b hb).2
  have hnm2 : some w2.heap.size ≠ v.ownBlock := fun e => by have := hlt2 _ e.symm; omega
  have hmk := fun W => make31 W
  go_wp2_with fail
  go_region_law
    ((refine step_append_lies _ (by rfl) _ _ _ (by rfl) B 131 i0 _ 4 56 Tryz.under80 hi0 hz0 hz1 hz2 rfl (by omega) v n xs (by rw [hbv]; rfl) (((own2.alloc _).alloc _).drew)
        ⟨w2.heap.size + 1, 0, none⟩ 1 1 [.string i.nm, .int .i64 i.line, .slice none 0 0, .map (some w2.heap.size)] (by rfl) (by rfl) (World.news_of_block (cs := #[.string i.nm, .int .i64 i.line, .slice none 0 0, .map (some w2.heap.size)]) (t := 131) (fr := (0, 0)) (news_two w2 _ _ _)) (by simp [Value.oneCell'])
        (by omega) (by unfold maxLen; omega) (by omega) (by simp; omega) (w2.heap.size + 1 + 1) (by simp) ?_; intro g cap w1 hown1 hgrow hat hltg; have hfz : w1.frozen? ⟨p, 0, none⟩ = false := (hgrow.frozen_far _ (by simp; omega) hne2).trans ((frozen_two w2 _ _ _ l2).trans f2); have hcz : w1.cell? ⟨p, 0, none⟩ = some v := (hgrow.cell_far _ (by simp; omega) hne2).trans ((cell_two w2 _ _ _ l2).trans c2)))
  all_goals go_end0
  all_goals exact ⟨rfl, g, cap, w1, w2, rfl, hgw, hM2, grown_two hgrow, by omega, ((hmade.alloc _).drew).kept hgrow hnm2, hown1, by rcases hat with h | h; exact .inl h; exact .inr (by omega)⟩

end Go.Proofs.YtfpgjkbjbbgciaaGreatDoor
