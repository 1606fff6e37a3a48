import Derived.Test.YtfpgjkbjbbgciaaGreatDoorMa47
import Derived.Maps.RangeWalk
namespace Go.Proofs.YtfpgjkbjbbgciaaGreatDoor
open Go.RowKit Sp

/-- Where the functions lie. -/
theorem PIn.fns {B : Nat} {w : World} {pm : Nat} {v : Value} {F : List FnM} (h : PIn B w pm v F) (hF : 0 < F.length) :
    ∃ fg cap, v = .slice (some ⟨fg, 0, none⟩) F.length cap ∧ fg < w.heap.size ∧ F.length ≤ cap ∧ ∀ k (hk : k < F.length),
      w.cell? ⟨fg, k * 4, none⟩ = some (.string F[k].name) ∧ w.cell? ⟨fg, k * 4 + 1, none⟩ = some (.int .i64 F[k].line) ∧ w.cell? ⟨fg, k * 4 + 2, none⟩ = some F[k].bv ∧ w.cell? ⟨fg, k * 4 + 3, none⟩ = some (.map (some F[k].m)) := by
  have hrow := h.row
  obtain ⟨fg, cap, hv, _, hlt⟩ := hrow.form hF
  subst hv
  have hcap : F.length ≤ cap := by
    rcases hrow.2 with ⟨h', _⟩ | ⟨g', cap', cur, h', _, _, hnc, _⟩
    · simp at h'
    · simp at h'; omega
  refine ⟨fg, cap, rfl, hlt, hcap, fun k hk => ?_⟩
  have c : ∀ j, j < 4 → w.cell? ⟨fg, k * 4 + j, none⟩ = F[k].cells[j]? := fun j hj => by
    rw [World.ownsRow.cellAt hrow (k * 4 + j) (by omega), fnCells_at F k hk j hj]
  exact ⟨c 0 (by omega), c 1 (by omega), c 2 (by omega), c 3 (by omega)⟩

def EndPost (w : World) (F : List Fn) : Ending → World → Prop := fun e w' =>
  Below w.heap.size w w' ∧ ((∃ l, endK F = some l ∧ e = refusal 5 l) ∨ (endK F = none ∧ e = .returned (.tuple #[])))
theorem endK_drop (F : List Fn) (k : Nat) (h : k < F.length) : endK (F.drop k) = if endsK F[k].body = true then endK (F.drop (k + 1)) else some F[k].line := by
  rw [List.drop_eq_getElem_cons h]
  rfl
theorem box_four {wr w2 : World} {a b c d : Value} (hb : Below (wr.alloc (.cells #[a, b, c, d] 131)).heap.size (wr.alloc (.cells #[a, b, c, d] 131)) w2) :
    w2.cell? ⟨wr.heap.size, 1, none⟩ = some b ∧ w2.cell? ⟨wr.heap.size, 2, none⟩ = some c ∧ w2.cell? ⟨wr.heap.size, 3, none⟩ = some d := by
  have h := World.cell?_alloc_new (w := wr) #[a, b, c, d] 131
  refine ⟨?_, ?_, ?_⟩
  · rw [hb.cell (by simp)]; exact h 1
  · rw [hb.cell (by simp)]; exact h 2
  · rw [hb.cell (by simp)]; exact h 3
theorem endsK_snoc (b : List Key) (k : Key) : endsK (b ++ [k]) = ends k.word := by simp [endsK]
/-- Does a function end, as the program looks at it? -/
def lastEnds (its : List It) : Bool := match its.getLast? with | none => false | some i => ends i.word
theorem lastEnds_snoc (I : List It) (i : It) : lastEnds (I ++ [i]) = ends i.word := by simp [lastEnds]
def endsM (its : List It) : Bool := (labsAt its).all (fun p => !decide (p.2 = (insOf its).length)) && lastEnds (insOf its)
theorem labsFrom_lt (n : Nat) (l : List It) : ∀ p ∈ labsFrom n l, p.2 ≤ n + (insOf l).length := by
  induction l generalizing n with
  | nil => simp [labsFrom]
  | cons i l ih =>
    intro p hp
    rw [labsFrom_cons] at hp
    by_cases h : i.sort = 1
    · rw [if_pos h] at hp
      rw [show insOf (i :: l) = insOf l by simp [insOf, h]]
      simp only [List.mem_cons] at hp
      rcases hp with rfl | hp
      · show n ≤ _; omega
      · exact ih n p hp
    · rw [if_neg h] at hp
      rw [show insOf (i :: l) = i :: insOf l by simp [insOf, h]]
      have := ih (n + 1) p hp
      simp; omega
theorem ends_empty : ends ⟨#[]⟩ = false := by kernel_rfl
theorem ends_two (its : List It) (hl : ∀ i ∈ its, ItOk i) : endsM its = endsK (its.map It.key) := by
  rcases List.eq_nil_or_concat its with rfl | ⟨I, i, hI⟩
  · rfl
  · rw [List.concat_eq_append] at hI
    subst hI
    rw [List.map_append, show [i].map It.key = [i.key] from rfl, endsK_snoc]
    unfold endsM
    by_cases h : i.sort = 1
    · rw [show i.key.word = ⟨#[]⟩ from (hl i (by simp)).2 h, ends_empty, labsAt_lab _ _ h, insOf_lab _ _ h]
      simp
    · rw [labsAt_ins _ _ h, insOf_add _ _ h]
      have : (labsAt I).all (fun p => !decide (p.2 = (insOf I ++ [i]).length)) = true := by
        rw [List.all_eq_true]
        intro p hp
        have := labsFrom_lt 0 I p hp
        simp; omega
      rw [this, lastEnds_snoc]
      simp [It.key]

/-! ### (Function).ends -/
theorem findE_mem (E : List (ByteArray × Nat)) (x : ByteArray) (p : Nat) (h : findE E x = some p) : ∃ q ∈ E, q.2 = p ∧ eqW q.1 x = true := by
  induction E with
  | nil => cases h
  | cons q r ih =>
    unfold findE at h
    by_cases e : eqW q.1 x = true
    · rw [if_pos e] at h
      simp only [Option.some.injEq] at h
      exact ⟨q, by simp, h, e⟩
    · rw [if_neg e] at h
      obtain ⟨q', h1, h2⟩ := ih h
      exact ⟨q', by simp [h1], h2⟩
theorem findE_only (E : List (ByteArray × Nat)) (hp : E.Pairwise (fun a b => eqW a.1 b.1 = false)) (x : ByteArray) (p : Nat) (h : findE E x = some p) (q : ByteArray × Nat) (hq : q ∈ E) (hx : eqW q.1 x = true) : q.2 = p := by
  induction E with
  | nil => cases hq
  | cons a r ih =>
    obtain ⟨h1, h2⟩ := List.pairwise_cons.1 hp
    unfold findE at h
    simp only [List.mem_cons] at hq
    by_cases e : eqW a.1 x = true
    · rw [if_pos e] at h
      simp only [Option.some.injEq] at h
      rcases hq with rfl | hq
      · exact h
      · have := h1 q hq
        have e1 := (eqW_iff _ _).1 e
        have e2 := (eqW_iff _ _).1 hx
        have : eqW a.1 q.1 = true := (eqW_iff _ _).2 (e1.trans e2.symm)
        simp_all
    · rw [if_neg e] at h
      rcases hq with rfl | hq
      · exact absurd hx e
      · exact ih h2 h hq
theorem size_of_any (E : List (ByteArray × Nat)) (n : Nat) (h : ∀ p ∈ E, ¬ p.2 = n) : E.all (fun p => !decide (p.2 = n)) = true := by
  rw [List.all_eq_true]
  intro p hp
  simpa using h p hp
theorem some_of_any (E : List (ByteArray × Nat)) (n : Nat) (p : ByteArray × Nat) (hp : p ∈ E) (h : p.2 = n) : E.all (fun p => !decide (p.2 = n)) = false := by
  rw [List.all_eq_false]
  exact ⟨p, hp, by simpa using h⟩
theorem string_ext {x y : ByteArray} (h : x.data.toList = y.data.toList) : x = y := by
  have : x.data = y.data := by rw [← Array.toArray_toList (xs := x.data), h, Array.toArray_toList]
  cases x; cases y; simp at this; rw [this]

end Go.Proofs.YtfpgjkbjbbgciaaGreatDoor
