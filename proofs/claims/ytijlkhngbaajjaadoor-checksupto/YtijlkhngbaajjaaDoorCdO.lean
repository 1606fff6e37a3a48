import Derived.Test.YtijlkhngbaajjaaDoorCdJ
import Derived.Maps.Own
import Derived.Maps.OwnOps
import Derived.Maps.OwnSet
import Derived.Maps.AppendAt
import Derived.Maps.Views
namespace Go.Proofs.YtijlkhngbaajjaaDoor
open Go.RowKit Sp Go.WideMaps Go.Maps

theorem Tryd.under31 : Tryd.prog.underlying 31 = some (.map 9 3) := by kernel_rfl
theorem lawS : Keyed Tryd.prog 9 := string_keyed Tryd.underlying9
theorem zero3 (w : World) : (zeroValue 3).run Tryd.prog w = .ok (.int .i64 0) w := by kernel_rfl
theorem keyS (x : ByteArray) (h : x.size ≤ maxLen) : keyOf Tryd.prog 9 (.string x) = some (.string x.data.toList) := keyOf_string_mk Tryd.underlying9 h

/-- A map whose keys are these names. -/
def MapIs (w : World) (b : Nat) (names : List ByteArray) : Prop := ∃ D : DataW Unit, w.ownsMap Tryd.prog 9 (plainElem Tryd.prog 3) b names.length D ∧ IsMap D ∧ ∀ x : ByteArray, Maps.has D (.string x.data.toList) = names.any (fun y => eqW y x)
theorem MapIs.kept {w w' : World} {b : Nat} {names : List ByteArray} {row : Option Nat} (h : MapIs w b names) (hg : w.grownBy w' row) (hne : some b ≠ row) : MapIs w' b names := by
  obtain ⟨D, h1, h2, h3⟩ := h
  exact ⟨D, h1.kept hg hne, h2, h3⟩
theorem MapIs.alloc {w : World} {b : Nat} {names : List ByteArray} (h : MapIs w b names) (o : Obj) : MapIs (w.alloc o) b names := h.kept (World.grownBy_alloc w o none) (by simp)
theorem MapIs.lt {w : World} {b : Nat} {names : List ByteArray} (h : MapIs w b names) : b < w.heap.size := by
  obtain ⟨D, h1, _⟩ := h
  exact h1.lt
theorem MapIs.below {w w' : World} {b : Nat} {names : List ByteArray} {B : Nat} (h : MapIs w b names) (hb : Below B w w') (hB : b < B) : MapIs w' b names := by
  obtain ⟨D, ⟨es, clock, hh, r⟩, h2, h3⟩ := h
  exact ⟨D, ⟨es, clock, (hb.block b hB).trans hh, r⟩, h2, h3⟩
theorem MapIs.made (w : World) : MapIs (w.alloc (.map #[] 0)) w.heap.size [] := ⟨.map [], World.ownsMap_made _ _ _ _, ⟨[], rfl⟩, fun _x => rfl⟩
/-- A map's block is no row's. -/
theorem map_row {w : World} {b base : Nat} {names : List ByteArray} {e : TypeId} {size n : Nat} {v : Value} {xs : List Value} (h : MapIs w b names) (hr : w.ownsRow base e size v n xs) : some b ≠ v.ownBlock := by
  obtain ⟨D, ⟨es, clock, hh, _⟩, _⟩ := h
  intro e1
  rcases hr.2 with ⟨hv, _⟩ | ⟨g, cap, cur, hv, _, hg, _⟩
  · subst hv; simp [Value.ownBlock] at e1
  · subst hv
    simp [Value.ownBlock] at e1
    subst e1
    rw [hh] at hg
    cases hg
theorem eqW_iff (a b : ByteArray) : eqW a b = true ↔ a.data.toList = b.data.toList := by
  unfold eqW
  rw [ByteArray.toList_eq, ByteArray.toList_eq, beq_iff_eq]
theorem has_add {D : DataW Unit} {names : List ByteArray} (hD : IsMap D) (h : ∀ x : ByteArray, Maps.has D (.string x.data.toList) = names.any (fun y => eqW y x)) (nm : ByteArray) (d : DataW Unit) : ∀ x : ByteArray, Maps.has (D.put (.string nm.data.toList) d) (.string x.data.toList) = (names ++ [nm]).any (fun y => eqW y x) := by
  intro x
  rw [List.any_append]
  by_cases e : x.data.toList = nm.data.toList
  · rw [e, has_put_same hD (k := .string nm.data.toList) trivial d]
    have : eqW nm x = true := (eqW_iff nm x).2 e.symm
    simp [this]
  · have hne : (Lit.string x.data.toList) ≠ .string nm.data.toList := by intro e2; apply e; simpa using e2
    rw [has_put_other hne d, h x]
    have : eqW nm x = false := by
      cases hq : eqW nm x with
      | false => rfl
      | true => exact absurd ((eqW_iff nm x).1 hq).symm e
    simp [this]

set_option maxRecDepth 100000 in
set_option maxHeartbeats 1000000 in
theorem enter_new (w : World) (b : Nat) (names : List ByteArray) (hM : MapIs w b names) (sort line : Int) (word : ByteArray) (x y z n : Int) (nm : ByteArray) (place : Nat) (hp : place ≤ 4096) (hn : names.length ≤ 4096) (hnm : nm.size ≤ 1048576) (hno : names.any (fun y => eqW y nm) = false) :
    Calls Tryd.prog 51 #[.map (some b), stm sort line word x y z n nm, .int .i64 (place : Int)] w fun e w' => e = .returned (.tuple #[]) ∧ MapIs w' b (names ++ [nm]) ∧ w.grownBy w' (some b) := by
  obtain ⟨D, hown, hD, hhas⟩ := hM
  have hk := keyS nm (by unfold maxLen; omega)
  have hf := hhas nm
  rw [hno] at hf
  have hlt := hown.lt
  go_enter Tryd.func51, Tryd.ntmps51
  go_wp2_with (first
    | (at_lookup; refine wpList_lookup_own_ok_int _ rfl _ _ 31 rfl 9 3 .i64 lawS Tryd.under31 Tryd.underlying3 (zero3 _) b names.length D rfl (hown.alloc _) _ _ rfl hk ?_; intro c hat hwc)
    | (at_mapUpdate; refine wpList_mapUpdate_own _ rfl _ _ _ 31 rfl 9 3 lawS Tryd.under31 _ b names.length D rfl (hown.alloc _) (by unfold maxLen; omega) _ _ _ rfl rfl hk _ [] (plainElem_int Tryd.underlying3 (WalkArith.wf_i64 (by omega))) ?_; intro w1 hown1 hgrow1))
  go_end0
  refine ⟨rfl, ⟨_, by simpa using hown1, hD.put _ _, has_add hD hhas nm _⟩, (World.grownBy_alloc w _ _).trans hgrow1⟩

set_option maxRecDepth 100000 in
set_option maxHeartbeats 1000000 in
theorem enter_old (w : World) (b : Nat) (names : List ByteArray) (hM : MapIs w b names) (sort line : Int) (word : ByteArray) (x y z n : Int) (nm : ByteArray) (place : Int) (hnm : nm.size ≤ 1048576) (hno : names.any (fun y => eqW y nm) = true) :
    Calls Tryd.prog 51 #[.map (some b), stm sort line word x y z n nm, .int .i64 place] w fun e w' => e = refusal 3 line ∧ Below w.heap.size w w' := by
  obtain ⟨D, hown, hD, hhas⟩ := hM
  have hk := keyS nm (by unfold maxLen; omega)
  have hf := hhas nm
  rw [hno] at hf
  have hlt := hown.lt
  go_enter Tryd.func51, Tryd.ntmps51
  go_wp2_with (first
    | (at_lookup; refine wpList_lookup_own_ok_int _ rfl _ _ 31 rfl 9 3 .i64 lawS Tryd.under31 Tryd.underlying3 (zero3 _) b names.length D rfl (hown.alloc _) _ _ rfl hk ?_; intro c hat hwc)
    | (go_at_call 30; refine (raise_any _ _ _).mono ?_; rintro e wx ⟨rfl, hww⟩; subst hww))
  exact ⟨rfl, rfl, (Below.refl _ _).alloc (Nat.le_refl _) _⟩

set_option maxRecDepth 100000 in
set_option maxHeartbeats 1000000 in
theorem demand_yes (w : World) (b : Nat) (names : List ByteArray) (hM : MapIs w b names) (sort line : Int) (word : ByteArray) (x y z n : Int) (nm : ByteArray) (hnm : nm.size ≤ 1048576) (hno : names.any (fun y => eqW y nm) = true) :
    Calls Tryd.prog 37 #[.map (some b), stm sort line word x y z n nm] w fun e w' => e = .returned (.tuple #[]) ∧ Below w.heap.size w w' := by
  obtain ⟨D, hown, hD, hhas⟩ := hM
  have hk := keyS nm (by unfold maxLen; omega)
  have hf := hhas nm
  rw [hno] at hf
  have hlt := hown.lt
  go_enter Tryd.func37, Tryd.ntmps37
  go_wp2_with (first
    | (at_lookup; refine wpList_lookup_own_ok_int _ rfl _ _ 31 rfl 9 3 .i64 lawS Tryd.under31 Tryd.underlying3 (zero3 _) b names.length D rfl (hown.alloc _) _ _ rfl hk ?_; intro c hat hwc))
  go_end0
  exact ⟨rfl, (Below.refl _ _).alloc (Nat.le_refl _) _⟩
set_option maxRecDepth 100000 in
set_option maxHeartbeats 1000000 in
theorem demand_no (w : World) (b : Nat) (names : List ByteArray) (hM : MapIs w b names) (sort line : Int) (word : ByteArray) (x y z n : Int) (nm : ByteArray) (hnm : nm.size ≤ 1048576) (hno : names.any (fun y => eqW y nm) = false) :
    Calls Tryd.prog 37 #[.map (some b), stm sort line word x y z n nm] w fun e w' => e = refusal 4 line ∧ Below w.heap.size w w' := by
  obtain ⟨D, hown, hD, hhas⟩ := hM
  have hk := keyS nm (by unfold maxLen; omega)
  have hf := hhas nm
  rw [hno] at hf
  have hlt := hown.lt
  go_enter Tryd.func37, Tryd.ntmps37
  go_wp2_with (first
    | (at_lookup; refine wpList_lookup_own_ok_int _ rfl _ _ 31 rfl 9 3 .i64 lawS Tryd.under31 Tryd.underlying3 (zero3 _) b names.length D rfl (hown.alloc _) _ _ rfl hk ?_; intro c hat hwc)
    | (go_at_call 30; refine (raise_any _ _ _).mono ?_; rintro e wx ⟨rfl, hww⟩; subst hww))
  exact ⟨rfl, rfl, (Below.refl _ _).alloc (Nat.le_refl _) _⟩

end Go.Proofs.YtijlkhngbaajjaaDoor
