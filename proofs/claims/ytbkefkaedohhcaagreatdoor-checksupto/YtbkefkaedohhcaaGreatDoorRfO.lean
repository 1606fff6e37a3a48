import Derived.Test.YtbkefkaedohhcaaGreatDoorRfN
import Derived.Test.YtbkefkaedohhcaaGreatDoorSpecI
namespace Go.Proofs.YtbkefkaedohhcaaGreatDoor
open Go.RowKit Sp

theorem Tryz.info63 : (Tryz.prog.info? 63).map (fun i => (i.zero, i.size, i.bytes)) = some (some (.agg #[.int .u8 0, .slice none 0 0]), 2, 32) := by kernel_rfl
theorem Tryz.under25 : Tryz.prog.underlying 25 = some (.slice 63) := by kernel_rfl

/-- An owned row is owned still where nothing older has turned. -/
theorem own_below {w w' : World} {B b : Nat} {e : TypeId} {size n : Nat} {v : Value} {xs : List Value} (h : w.ownsRow b e size v n xs) (hb : Below B w w') (hB : w.heap.size ≤ B) : w'.ownsRow b e size v n xs := by
  refine ⟨h.1, ?_⟩
  rcases h.2 with h2 | ⟨g, cap, cur, hv, hg, hh, r⟩
  · exact .inl h2
  · refine .inr ⟨g, cap, cur, hv, hg, ?_, r⟩
    rw [hb.block g (by have := (Array.getElem?_eq_some_iff.1 hh).1; omega)]
    exact hh
theorem own_apart {w : World} {b b' : Nat} {e e' : TypeId} {size size' n n' : Nat} {v v' : Value} {xs xs' : List Value} (h : w.ownsRow b e size v n xs) (h' : w.ownsRow b' e' size' v' n' xs') (hne : ¬ e = e') : v.ownBlock = none ∨ v.ownBlock ≠ v'.ownBlock := by
  rcases h.2 with ⟨hv, _⟩ | ⟨g, cap, cur, hv, hg, hh, r⟩
  · subst hv; exact .inl rfl
  · rcases h'.2 with ⟨hv', _⟩ | ⟨g', cap', cur', hv', hg', hh', r'⟩
    · subst hv hv'; exact .inr (by simp [Value.ownBlock])
    · subst hv hv'
      refine .inr ?_
      simp only [Value.ownBlock]
      intro heq
      simp only [Option.some.injEq] at heq
      subst heq
      rw [hh] at hh'
      simp at hh'
      exact hne hh'.2

/-- The cells of a row of lines. -/
def lineCells (P : List (Said × Value)) : List Value := P.flatMap fun p => [.int .u8 p.1.kind, p.2]
theorem lineCells_snoc (P : List (Said × Value)) (q : Said) (v : Value) : lineCells (P ++ [(q, v)]) = lineCells P ++ [.int .u8 q.kind, v] := by simp [lineCells]
theorem lineCells_len (P : List (Said × Value)) : (lineCells P).length = P.length * 2 := by
  induction P with
  | nil => rfl
  | cons p P ih => simp [lineCells] at ih ⊢; omega
theorem lineCells_kind (P : List (Said × Value)) (i : Nat) (h : i < P.length) : (lineCells P)[i * 2]? = some (.int .u8 P[i].1.kind) ∧ (lineCells P)[i * 2 + 1]? = some P[i].2 := by
  induction P generalizing i with
  | nil => simp at h
  | cons p P ih =>
    cases i with
    | zero => simp [lineCells]
    | succ i =>
      have := ih i (by simpa using h)
      simp only [lineCells, List.flatMap_cons] at this ⊢
      rw [show (i + 1) * 2 = i * 2 + 2 by omega, show i * 2 + 2 + 1 = i * 2 + 1 + 2 by omega]
      simpa using this

/-- The lines that have been read so far. -/
structure RowsIn (B : Nat) (w : World) (v : Value) (P : List (Said × Value)) : Prop where
  row : w.ownsRow B 63 2 v P.length (lineCells P)
  words : ∀ p ∈ P, w.ownsRow B 9 1 p.2 p.1.kept.length (p.1.kept.map Value.string)

theorem RowsIn.below {B C : Nat} {w w' : World} {v : Value} {P : List (Said × Value)} (h : RowsIn B w v P) (hb : Below C w w') (hC : w.heap.size ≤ C) : RowsIn B w' v P :=
  ⟨own_below h.row hb hC, fun p hp => own_below (h.words p hp) hb hC⟩
theorem RowsIn.alloc {B : Nat} {w : World} {v : Value} {P : List (Said × Value)} (h : RowsIn B w v P) (o : Obj) : RowsIn B (w.alloc o) v P :=
  ⟨h.row.alloc o, fun p hp => (h.words p hp).alloc o⟩
theorem RowsIn.grown {B : Nat} {w w' : World} {v v' : Value} {P : List (Said × Value)} {q : Said} {u : Value} (h : RowsIn B w v P) (hu : w.ownsRow B 9 1 u q.kept.length (q.kept.map Value.string)) (hg : w.grownBy w' v.ownBlock) (hown : w'.ownsRow B 63 2 v' (P.length + 1) (lineCells P ++ [.int .u8 q.kind, u])) : RowsIn B w' v' (P ++ [(q, u)]) := by
  refine ⟨by rw [lineCells_snoc]; simpa using hown, fun p hp => ?_⟩
  rw [List.mem_append] at hp
  rcases hp with hp | hp
  · exact (h.words p hp).kept hg (own_apart (h.words p hp) h.row (by decide))
  · simp at hp; subst hp
    exact hu.kept hg (own_apart hu h.row (by decide))
theorem RowsIn.lines {B : Nat} {w : World} {v : Value} {P : List (Said × Value)} (h : RowsIn B w v P) (hp : 0 < P.length) (hw : ∀ p ∈ P, Wf p.1) :
    ∃ g cap, v = .slice (some ⟨g, 0, none⟩) P.length cap ∧ B ≤ g ∧ LinesIn w g (P.map Prod.fst) := by
  have hr := h.row
  rcases h.row.2 with ⟨_, h2⟩ | ⟨g, cap, cur, hv, hg, hh, hc, hm, hs, hx⟩
  · have := lineCells_len P
    rw [h2] at this; simp at this; omega
  · subst hv
    refine ⟨g, cap, rfl, hg, ?_, ?_, ?_⟩
    · intro i hi
      have hi' : i < P.length := by simpa using hi
      rw [World.ownsRow.cellAt hr (i * 2) (by omega), (lineCells_kind P i hi').1]
      simp
    · intro i hi hk
      have hi' : i < P.length := by simpa using hi
      have e : (P.map Prod.fst)[i] = P[i].1 := by simp
      rw [e] at hk
      obtain ⟨b, c, hv, _, _, _, _, hcl⟩ := row_of (h.words P[i] (List.getElem_mem hi')) hk
      refine ⟨b, c, ?_, ?_⟩
      · rw [World.ownsRow.cellAt hr (i * 2 + 1) (by omega), (lineCells_kind P i hi').2, hv]
        simp
      · intro j hj
        simp only [e] at hj ⊢
        exact hcl j hj
    · intro i hi
      have hi' : i < P.length := by simpa using hi
      simp only [List.getElem_map]
      exact hw _ (List.getElem_mem hi')

end Go.Proofs.YtbkefkaedohhcaaGreatDoor
