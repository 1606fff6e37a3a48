import Derived.Test.YtfpgjkbjbbgciaaGreatDoorMa44
import Derived.Test.YtfpgjkbjbbgciaaGreatDoorMa45
namespace Go.Proofs.YtfpgjkbjbbgciaaGreatDoor
open Go.RowKit Sp

/-- The program's variable, and what it holds. -/
structure PAt (B : Nat) (w : World) (p pm : Nat) (v : Value) (F : List FnM) : Prop where
  pin : PIn B w pm v F
  var : w.heap[p]? = some (.cells #[v, .map (some pm)] 83 (0, 0))
  low : B ≤ p

theorem PAt.cells {B : Nat} {w : World} {p pm : Nat} {v : Value} {F : List FnM} (h : PAt B w p pm v F) :
    w.cell? ⟨p, 0, none⟩ = some v ∧ w.cell? ⟨p, 1, none⟩ = some (.map (some pm)) ∧ w.frozen? ⟨p, 0, none⟩ = false := by
  refine ⟨?_, ?_, frozen_of_row w p 0 _ _ h.var⟩
  · rw [cell_of_row w p 0 _ _ _ h.var]; rfl
  · rw [cell_of_row w p 1 _ _ _ h.var]; rfl
theorem PAt.of_blocks {B : Nat} {w w' : World} {p pm : Nat} {v : Value} {F : List FnM} (h : PAt B w p pm v F) (hb : ∀ b, B ≤ b → b < w.heap.size → w'.heap[b]? = w.heap[b]?) : PAt B w' p pm v F :=
  ⟨h.pin.of_blocks hb, (hb p h.low (Array.getElem?_eq_some_iff.1 h.var).1).trans h.var, h.low⟩
theorem PAt.drew {B : Nat} {w : World} {p pm : Nat} {v : Value} {F : List FnM} (h : PAt B w p pm v F) : PAt B w.drew p pm v F := h.of_blocks fun _ _ _ => rfl
theorem PAt.alloc {B : Nat} {w : World} {p pm : Nat} {v : Value} {F : List FnM} (h : PAt B w p pm v F) (o : Obj) : PAt B (w.alloc o) p pm v F := h.of_blocks fun _b _ hb => Below.heap_alloc _ _ _ hb
theorem names_fn (F : List FnM) : (F.map FnM.fn).map Fn.name = F.map FnM.name := by simp [FnM.fn]
theorem PAt.apart {B : Nat} {w : World} {p pm : Nat} {v : Value} {F : List FnM} (h : PAt B w p pm v F) : ¬ p = pm ∧ v.ownBlock ≠ some p := by
  constructor
  · intro e
    obtain ⟨em, cm, hem⟩ := map_obj h.pin.places
    have := h.var
    rw [e, hem] at this; cases this
  · intro e
    obtain ⟨c2, hc2⟩ := own_obj h.pin.row e
    have := h.var
    rw [hc2] at this; simp at this

theorem begin_no {B : Nat} {w : World} {p pm : Nat} {v : Value} {F : List FnM} (h : PAt B w p pm v F) (i : It) (hs : i.sort = 0) (hbad : bad0 (F.map FnM.fn) i.key = true) (hn : F.length ≤ 4096) (hnm : i.nm.size ≤ 1048576) :
    Calls Tryz.prog 100 #[.pointer (some ⟨p, 0, none⟩), stm i.sort i.line i.word i.a i.b i.c i.n i.nm] w fun e w' => e = refusal 3 i.line ∧ Below w.heap.size w w' := by
  obtain ⟨c1, c2, c3⟩ := h.cells
  refine begin_old w B p pm F.length v (fnCells F) i (placesAt F) c1 c2 h.pin.places h.pin.row hn hnm ?_
  unfold bad0 at hbad
  rw [if_pos (show i.key.sort = 0 from hs), names_fn] at hbad
  rw [placesFrom_names]
  exact hbad
theorem begin_ok {B : Nat} {w : World} {p pm : Nat} {v : Value} {F : List FnM} (h : PAt B w p pm v F) (i : It) (hs : i.sort = 0) (hbad : bad0 (F.map FnM.fn) i.key = false) (hn : F.length ≤ 4096) (hnm : i.nm.size ≤ 1048576) (hB : B ≤ w.heap.size) :
    Calls Tryz.prog 100 #[.pointer (some ⟨p, 0, none⟩), stm i.sort i.line i.word i.a i.b i.c i.n i.nm] w fun e w' => e = .returned (.tuple #[]) ∧
      ∃ v' F', PAt B w' p pm v' F' ∧ F'.map FnM.fn = addK (F.map FnM.fn) i.key ∧ F'.length ≤ F.length + 1 ∧ (∀ f ∈ F', f.its = [] ∨ ∃ f0 ∈ F, f0.its = f.its) ∧ Below B w w' := by
  obtain ⟨c1, c2, c3⟩ := h.cells
  obtain ⟨a1, a2⟩ := h.apart
  unfold bad0 at hbad
  rw [if_pos (show i.key.sort = 0 from hs), names_fn] at hbad
  refine (begin_new w B p pm F.length v (fnCells F) i (placesAt F) c1 c2 c3 h.pin.places h.pin.row a2 hB hn (by rw [placesAt_len]; exact hn) hnm (by rw [placesFrom_names]; exact hbad) a1).mono ?_
  rintro e w' ⟨rfl, g, cap, w1, w2, rfl, h1, h2, h3, h4, h5, h6, h7⟩
  obtain ⟨q1, q2, q3⟩ := h.pin.begun h.var h.low h1 h2 h3 h4 h5 h6 h7
  refine ⟨rfl, _, _, ⟨q1, q3, h.low⟩, ?_, by simp, ?_, q2⟩
  · rw [List.map_append, addK_begin _ _ (show i.key.sort = 0 from hs)]
    rfl
  · intro f hf
    rw [List.mem_append] at hf
    rcases hf with hf | hf
    · exact .inr ⟨f, hf, rfl⟩
    · simp at hf; subst hf; exact .inl rfl

theorem PIn.last {B : Nat} {w : World} {pm : Nat} {v : Value} {F : List FnM} {f : FnM} (h : PIn B w pm v (F ++ [f])) :
    ∃ fg cap, v = .slice (some ⟨fg, 0, none⟩) (F.length + 1) cap ∧ w.cell? ⟨fg, F.length * 4 + 2, none⟩ = some f.bv ∧ w.cell? ⟨fg, F.length * 4 + 3, none⟩ = some (.map (some f.m)) ∧ w.frozen? ⟨fg, F.length * 4 + 2, none⟩ = false ∧ f.bv.ownBlock ≠ some fg ∧ ¬ fg = f.m ∧ F.length + 1 ≤ cap := by
  have hmem : f ∈ F ++ [f] := by simp
  have hrow := h.row
  have hlen : (F ++ [f]).length = F.length + 1 := by simp
  rw [hlen] at hrow
  obtain ⟨fg, cap, hv, _, _⟩ := hrow.form (by omega)
  subst hv
  obtain ⟨cr, hcr⟩ := own_obj hrow (g := fg) rfl
  obtain ⟨em, cm, hem⟩ := map_obj (h.labels f hmem)
  have c : ∀ j, j < 4 → w.cell? ⟨fg, F.length * 4 + j, none⟩ = f.cells[j]? := fun j hj => by
    rw [World.ownsRow.cellAt hrow (F.length * 4 + j) (by omega), fnCells_at (F ++ [f]) F.length (by simp) j hj]
    simp
  have hcap : F.length + 1 ≤ cap := by
    rcases hrow.2 with ⟨h', _⟩ | ⟨g', cap', cur, h', _, _, hnc, _⟩
    · simp at h'
    · simp at h'; omega
  refine ⟨fg, cap, rfl, c 2 (by omega), c 3 (by omega), World.ownsRow.frozenAt hrow _, ?_, ?_, hcap⟩
  · intro e
    obtain ⟨c2, hc2⟩ := own_obj (h.bodies f hmem) e
    rw [hc2] at hcr; simp at hcr
  · intro e; rw [e, hem] at hcr; cases hcr
theorem labsFrom_len (n : Nat) (l : List It) : (labsFrom n l).length ≤ l.length := by
  induction l generalizing n with
  | nil => simp [labsFrom]
  | cons i l ih =>
    rw [labsFrom_cons]
    split
    · have := ih n; simp; omega
    · have := ih (n + 1); simp; omega

theorem add_no {B : Nat} {w : World} {p pm : Nat} {v : Value} {F : List FnM} {f : FnM} (h : PAt B w p pm v (F ++ [f])) (i : It) (hs : ¬ i.sort = 0) (hbad : bad0 ((F ++ [f]).map FnM.fn) i.key = true) (hn : f.its.length ≤ 4096) (hnm : i.nm.size ≤ 1048576) (fg cap : Nat) (hv : v = .slice (some ⟨fg, 0, none⟩) (F.length + 1) cap) :
    Calls Tryz.prog 101 #[.pointer (some ⟨fg, F.length * 4, none⟩), stm i.sort i.line i.word i.a i.b i.c i.n i.nm] w fun e w' => e = refusal 3 i.line ∧ Below w.heap.size w w' := by
  have hmem : f ∈ F ++ [f] := by simp
  obtain ⟨fg', cap', hv', c1, c2, c3, c4, c5, c6⟩ := h.pin.last
  rw [hv] at hv'
  simp at hv'
  obtain ⟨rfl, rfl⟩ := hv'
  unfold bad0 at hbad
  rw [if_neg (show ¬ i.key.sort = 0 from hs)] at hbad
  by_cases h1 : i.sort = 1
  · rw [if_pos (show i.key.sort = 1 from h1)] at hbad
    simp only [List.map_append, List.map_cons, List.map_nil, List.getLast?_append, List.getLast?_singleton, Option.some_or] at hbad
    exact add_old w B fg (F.length * 4) f.m f.bv (insOf f.its) i _ h1 c1 c2 (h.pin.labels f hmem) (h.pin.bodies f hmem) (Nat.le_trans (insOf_len _) hn) hnm (by rw [labsFrom_names]; exact hbad)
  · rw [if_neg (show ¬ i.key.sort = 1 from h1)] at hbad
    cases hbad
theorem add_ok {B : Nat} {w : World} {p pm : Nat} {v : Value} {F : List FnM} {f : FnM} (h : PAt B w p pm v (F ++ [f])) (i : It) (hs : ¬ i.sort = 0) (hbad : bad0 ((F ++ [f]).map FnM.fn) i.key = false) (hn : f.its.length ≤ 4096) (hnm : i.nm.size ≤ 1048576) (hB : B ≤ w.heap.size) (fg cap : Nat) (hv : v = .slice (some ⟨fg, 0, none⟩) (F.length + 1) cap) :
    Calls Tryz.prog 101 #[.pointer (some ⟨fg, F.length * 4, none⟩), stm i.sort i.line i.word i.a i.b i.c i.n i.nm] w fun e w' => e = .returned (.tuple #[]) ∧
      ∃ f', PAt B w' p pm v (F ++ [f']) ∧ (F ++ [f']).map FnM.fn = addK ((F ++ [f]).map FnM.fn) i.key ∧ f'.its = f.its ++ [i] ∧ Below B w w' := by
  have hmem : f ∈ F ++ [f] := by simp
  obtain ⟨fg', cap', hv', c1, c2, c3, c4, c5, c6⟩ := h.pin.last
  rw [hv] at hv'
  simp at hv'
  obtain ⟨rfl, rfl⟩ := hv'
  have hpin := h.pin
  have hadd : ∀ u : Value, (F ++ [(⟨f.name, f.line, f.its ++ [i], u, f.m⟩ : FnM)]).map FnM.fn = addK ((F ++ [f]).map FnM.fn) i.key := by
    intro u
    rw [List.map_append, List.map_append]
    rw [show [f].map FnM.fn = [f.fn] from rfl, addK_more _ _ _ (show ¬ i.key.sort = 0 from hs)]
    simp [FnM.fn]
  unfold bad0 at hbad
  rw [if_neg (show ¬ i.key.sort = 0 from hs)] at hbad
  by_cases h1 : i.sort = 1
  · rw [if_pos (show i.key.sort = 1 from h1)] at hbad
    simp only [List.map_append, List.map_cons, List.map_nil, List.getLast?_append, List.getLast?_singleton, Option.some_or] at hbad
    refine (add_new w B fg (F.length * 4) f.m f.bv (insOf f.its) i _ h1 c1 c2 (h.pin.labels f hmem) (h.pin.bodies f hmem) (Nat.le_trans (insOf_len _) hn) (Nat.le_trans (labsFrom_len _ _) hn) hnm (by rw [labsFrom_names]; exact hbad)).mono ?_
    rintro e w' ⟨rfl, h2, h3⟩
    obtain ⟨q1, q2, q3⟩ := hpin.labelled h1 h2 h3
    exact ⟨rfl, _, ⟨q1, q3 p _ h.var, h.low⟩, hadd _, rfl, q2⟩
  · refine (add_plain w B fg (F.length * 4) f.bv (insOf f.its) i h1 c1 c3 (h.pin.bodies f hmem) c4 hB (Nat.le_trans (insOf_len _) hn)).mono ?_
    rintro e w' ⟨rfl, g, cap2, w1, rfl, h4, h5, h6⟩
    rw [hv] at hpin
    obtain ⟨q1, q2, q3⟩ := hpin.added h1 h4 h5 h6
    exact ⟨rfl, _, ⟨by rw [hv]; exact q1, q3 p _ h.var, h.low⟩, hadd _, rfl, q2⟩

end Go.Proofs.YtfpgjkbjbbgciaaGreatDoor
