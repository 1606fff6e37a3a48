import Derived.Test.YtfpgjkbjbbgciaaGreatDoorMa28
namespace Go.Proofs.YtfpgjkbjbbgciaaGreatDoor
open Go.RowKit Sp

set_option maxRecDepth 100000 in
set_option maxHeartbeats 1000000 in
theorem cins_zero (w : World) (g cap : Nat) (x : ByteArray) (line : Int) (hl : WordsIn w g [x]) (HS : Hid (shapeOf x = [])) :
    Calls Tryz.prog 130 #[.slice (some ⟨g, 0, none⟩) 1 cap, .int .i64 line] w fun e w' => Below w.heap.size w w' ∧ e = .returned (stm 2 line x 0 0 0 0 ⟨#[]⟩) := by
  have hc0 := hl 0 (by simp)
  simp only [List.getElem_cons_zero] at hc0
  have hlt : g < w.heap.size := by
    have := World.block_lt_of_cell? w _ hc0; simpa using this
  go_enter Tryz.func130, Tryz.ntmps130
  go_wp2_with (first
    | (go_at_call 149; refine (ops_empty x _ HS).mono ?_; rintro e wx ⟨rfl, hww⟩; have h2 := hww.symm; subst h2))
  refine wp_loop_rounds 1 ?_
  rw [rounds_succ]
  go_wp2
  refine bodyPost_ret (v := stm 2 line x 0 0 0 0 ⟨#[]⟩) (by simp [results, Tryz.results130, go_sem]) rfl ⟨?_, rfl⟩
  exact ((Below.refl _ _).alloc (Nat.le_refl _) _).alloc (by simp) _

theorem cins_any (w : World) (hw : LibW w) (g cap : Nat) (x : ByteArray) (r : List ByteArray) (line : Int) (hl : WordsIn w g (x :: r)) (hsz : ∀ j (hj : j < r.length), r[j].size ≤ 1048576) (hn : r.length ≤ 1048576) :
    Calls Tryz.prog 130 #[.slice (some ⟨g, 0, none⟩) (r.length + 1) cap, .int .i64 line] w (InsPost w x r line) := by
  have hs3 := shape_len x
  by_cases h63 : shapeOf x = [63]
  · refine (cins_none w g cap x r line hl hn h63).mono ?_
    rintro e w' ⟨h1, h2⟩
    exact ⟨h2, .inr ⟨by unfold insOk; rw [if_pos (.inl h63)], h1⟩⟩
  · by_cases hlen : r.length = (shapeOf x).length
    · have hio : insOk x r = opsOk (shapeOf x) r := by unfold insOk; rw [if_neg]; rintro (h | h); exact h63 h; exact h hlen
      by_cases h0 : shapeOf x = []
      · have hr : r = [] := List.eq_nil_of_length_eq_zero (by rw [hlen, h0]; rfl)
        subst hr
        refine (cins_zero w g cap x line hl h0).mono ?_
        rintro e w' ⟨h1, h2⟩
        refine ⟨h1, .inl ⟨by rw [hio, h0]; rfl, ?_⟩⟩
        rw [h2, h0]; rfl
      · refine (cins_ops w hw g cap x r line hl hsz (shapeOf x) rfl h63 h0 hs3 (by omega) (by omega)).mono ?_
        rintro e w' ⟨h1, h2⟩
        refine ⟨h1, ?_⟩
        rw [hio]
        exact h2
    · refine (cins_len w g cap x r line hl hn (shapeOf x) rfl h63 hs3 (by simp; omega)).mono ?_
      rintro e w' ⟨h1, h2⟩
      exact ⟨h2, .inr ⟨by unfold insOk; rw [if_pos (.inr hlen)], h1⟩⟩

/-- What the code makes of what a line says. -/
def sortK (q : Said) : Int := if q.kind = 102 then 0 else if q.kind = 108 then 1 else 2
def wordK (q : Said) : ByteArray := if q.kind = 105 then q.word 0 else ⟨#[]⟩
def nameQ (q : Said) : ByteArray := if q.kind = 102 then q.word 1 else if q.kind = 108 then q.word 0 else nameK (shapeOf (q.word 0)) q.kept.tail q.kept.tail.length
def opQ (q : Said) : Opd := if q.kind = 105 then opK (shapeOf (q.word 0)) q.kept.tail q.kept.tail.length else opd0
def StmPost (w : World) (q : Said) (line : Int) : Ending → World → Prop := fun e w' =>
  Below w.heap.size w w' ∧ (q.ok = true ∧ e = .returned (stm (sortK q) line (wordK q) (opQ q).a (opQ q).b (opQ q).c (opQ q).n (nameQ q)) ∨ q.ok = false ∧ e = refusal 1 line)

theorem last_split (x : ByteArray) (h : 1 ≤ x.size) : ∃ l c, x.data.toList = l ++ [c] ∧ lastB x = (c.toNat : Int) ∧ l.length = x.size - 1 := by
  have hl : x.data.toList.length = x.size := by simp
  have hne : x.data.toList ≠ [] := by intro e; rw [e] at hl; simp at hl; omega
  obtain ⟨l, c, e⟩ : ∃ l c, x.data.toList = l ++ [c] := ⟨x.data.toList.dropLast, x.data.toList.getLast hne, (List.dropLast_concat_getLast hne).symm⟩
  have hll : l.length = x.size - 1 := by rw [e] at hl; simp at hl; omega
  refine ⟨l, c, e, ?_, hll⟩
  unfold lastB bt
  rw [← Array.getElem?_toList, e, ← hll]
  simp
theorem suffix_last (x : ByteArray) (h : 1 ≤ x.size) : Lib.hasSuffix x.data.toList [58] = decide (lastB x = 58) := by
  obtain ⟨l, c, e, h1, _⟩ := last_split x h
  rw [h1, e]
  unfold Lib.hasSuffix List.isSuffixOf
  rw [List.reverse_append]
  by_cases hc : c = 58
  · subst hc; simp [List.isPrefixOf]
  · have h2 : ¬ 58 = c := fun e => hc e.symm
    have h3 : ¬ (c.toNat : Int) = 58 := by
      intro e; apply hc; exact UInt8.toNat_inj.1 (by simp; omega)
    simp [List.isPrefixOf, h2, h3]
theorem trim_last (x : ByteArray) (h : 1 ≤ x.size) (hs : lastB x = 58) : (⟨(Lib.trimSuffix x.data.toList [58]).toArray⟩ : ByteArray) = x.extract 0 (x.size - 1) := by
  obtain ⟨l, c, e, _, h2⟩ := last_split x h
  unfold Lib.trimSuffix
  rw [suffix_last x h, hs]
  simp only [decide_true, if_true]
  apply ByteArray.ext
  rw [ByteArray.data_extract]
  apply Array.ext'
  rw [Array.toList_extract, List.extract_eq_take_drop]
  simp only [List.drop_zero, Nat.sub_zero]
  congr 1
theorem colon_shape (x : ByteArray) (_h : 1 ≤ x.size) (hs : lastB x = 58) : shapeOf x = [63] := by
  have key : ∀ l : List UInt8, (isW x l = true) → lastB ⟨l.toArray⟩ = 58 := by
    intro l hl
    have := isW_eq x l hl
    rw [← this]; exact hs
  unfold shapeOf
  repeat' split
  all_goals first
    | rfl
    | (exfalso; rename_i hh; simp only [Bool.or_eq_true] at hh; rcases hh with hh | hh <;> (first | (have := key _ hh; revert this; decide) | (rcases hh with hh | hh <;> (have := key _ hh; revert this; decide))))

end Go.Proofs.YtfpgjkbjbbgciaaGreatDoor
