import Derived.Test.YtfpgjkbjbbgciaaGreatDoorMa32
namespace Go.Proofs.YtfpgjkbjbbgciaaGreatDoor
open Go.RowKit Sp

theorem WordsIn.alloc {w : World} {g : Nat} {l : List ByteArray} (h : WordsIn w g l) (o : Obj) : WordsIn (w.alloc o) g l := by
  intro j hj
  have hc := h j hj
  rw [World.cell?_alloc_lt w o ⟨g, j, none⟩ (by have := World.block_lt_of_cell? w _ hc; simpa using this)]
  exact hc
abbrev zeroStm : Obj := .cells #[.int .i64 0, .int .i64 0, .string ⟨#[]⟩, .int .i64 0, .int .i64 0, .int .i64 0, .int .i64 0, .string ⟨#[]⟩] 135

theorem one_below {w w1 : World} {o : Obj} (hb : Below (w.alloc o).heap.size (w.alloc o) w1) : Below w.heap.size w w1 := ((Below.refl _ _).alloc (Nat.le_refl _) _).trans (hb.mono (by simp))

set_option maxRecDepth 100000 in
set_option maxHeartbeats 1000000 in
theorem cstm_func_bad (w : World) (g cap : Nat) (r : List ByteArray) (line : Int) (hl : WordsIn w g (⟨#[102, 117, 110, 99]⟩ :: r)) (hsz : ∀ y ∈ (⟨#[102, 117, 110, 99]⟩ :: r : List ByteArray), y.size ≤ 1048576) (hn : r.length ≤ 1048576) (h : ¬ ((⟨#[102, 117, 110, 99]⟩ :: r : List ByteArray).length = 2 ∧ isName ((⟨#[102, 117, 110, 99]⟩ :: r : List ByteArray).getLast?.getD ByteArray.empty) = true)) :
    Calls Tryz.prog 99 #[.slice (some ⟨g, 0, none⟩) (r.length + 1) cap, .int .i64 line] w fun e w' => e = refusal 1 line ∧ Below w.heap.size w w' := by
  have hc0 := hl 0 (by simp)
  simp only [List.getElem_cons_zero] at hc0
  have hlt : g < w.heap.size := by have := World.block_lt_of_cell? w _ hc0; simpa using this
  have hcall := cbegin_bad (w.alloc zeroStm) g cap _ line (hl.alloc _) hsz (by simp; omega) h
  simp only [List.length_cons] at hcall
  go_enter Tryz.func99, Tryz.ntmps99
  go_wp2_with (go_at_call 127; refine hcall.mono ?_; rintro e w1 ⟨rfl, hb⟩)
  exact ⟨rfl, rfl, one_below hb⟩

set_option maxRecDepth 100000 in
set_option maxHeartbeats 1000000 in
theorem cstm_func_good (w : World) (g cap : Nat) (y : ByteArray) (line : Int) (hl : WordsIn w g [⟨#[102, 117, 110, 99]⟩, y]) (hy : y.size ≤ 1048576) (hnm : isName y = true) :
    Calls Tryz.prog 99 #[.slice (some ⟨g, 0, none⟩) 2 cap, .int .i64 line] w fun e w' => e = .returned (stm 0 line ⟨#[]⟩ 0 0 0 0 y) ∧ Below w.heap.size w w' := by
  have hc0 := hl 0 (by simp)
  simp only [List.getElem_cons_zero] at hc0
  have hlt : g < w.heap.size := by have := World.block_lt_of_cell? w _ hc0; simpa using this
  have hcall := cbegin_good (w.alloc zeroStm) g cap _ y line (hl.alloc _) hy hnm
  go_enter Tryz.func99, Tryz.ntmps99
  go_wp2_with (go_at_call 127; refine hcall.mono ?_; rintro e w1 ⟨rfl, hb⟩; obtain ⟨hc, hf⟩ := bcell hb)
  obtain ⟨f0, f1, f2, f3, f4, f5, f6, f7⟩ := back8 (new8 rfl hb)
  refine bodyPost_ret (v := stm 0 line ⟨#[]⟩ 0 0 0 0 y) (by simp [results, Tryz.results99, go_sem, f0, f1, f2, f3, f4, f5, f6, f7]) rfl ⟨rfl, ?_⟩
  exact below8 (one_below hb) (Nat.le_refl _) _ _ _ _ _ _ _ _

set_option maxRecDepth 100000 in
set_option maxHeartbeats 1000000 in
theorem cstm_lab_bad (w : World) (g cap : Nat) (x : ByteArray) (r : List ByteArray) (line : Int) (hl : WordsIn w g (x :: r)) (hx : x.size ≤ 1048576) (hx1 : 1 ≤ x.size) (hn : r.length ≤ 1048576) (hnf : (x.toList == [102, 117, 110, 99]) = false) (hs : lastB x = 58) (h : ¬ (r.length + 1 = 1 ∧ isName (x.extract 0 (x.size - 1)) = true)) :
    Calls Tryz.prog 99 #[.slice (some ⟨g, 0, none⟩) (r.length + 1) cap, .int .i64 line] w fun e w' => e = refusal 1 line ∧ Below w.heap.size w w' := by
  have hc0 := hl 0 (by simp)
  simp only [List.getElem_cons_zero] at hc0
  have hlt : g < w.heap.size := by have := World.block_lt_of_cell? w _ hc0; simpa using this
  have hcut := Tryz.strings_CutSuffix x ⟨#[58]⟩ (w.alloc zeroStm) (by omega)
  rw [show (⟨#[58]⟩ : ByteArray).data.toList = [58] from rfl, suffix_last x hx1, trim_last x hx1 hs, hs] at hcut
  simp only [decide_true] at hcut
  have hcall := clabel_bad (w.alloc zeroStm) (some ⟨g, 0, none⟩) (r.length + 1) cap (x.extract 0 (x.size - 1)) line (by rw [ByteArray.size_extract]; omega) (by omega) h
  clear hs
  go_enter Tryz.func99, Tryz.ntmps99
  go_wp2_with (first | (go_at_call 128; refine hcut.mono ?_; rintro e wx ⟨rfl, hww⟩; subst hww) | (go_at_call 129; refine hcall.mono ?_; rintro e w1 ⟨rfl, hb⟩))
  exact ⟨rfl, rfl, one_below hb⟩

set_option maxRecDepth 100000 in
set_option maxHeartbeats 1000000 in
theorem cstm_lab_good (w : World) (g cap : Nat) (x : ByteArray) (line : Int) (hl : WordsIn w g [x]) (hx : x.size ≤ 1048576) (hx1 : 1 ≤ x.size) (hnf : (x.toList == [102, 117, 110, 99]) = false) (hs : lastB x = 58) (h : isName (x.extract 0 (x.size - 1)) = true) :
    Calls Tryz.prog 99 #[.slice (some ⟨g, 0, none⟩) 1 cap, .int .i64 line] w fun e w' => e = .returned (stm 1 line ⟨#[]⟩ 0 0 0 0 (x.extract 0 (x.size - 1))) ∧ Below w.heap.size w w' := by
  have hc0 := hl 0 (by simp)
  simp only [List.getElem_cons_zero] at hc0
  have hlt : g < w.heap.size := by have := World.block_lt_of_cell? w _ hc0; simpa using this
  have hcut := Tryz.strings_CutSuffix x ⟨#[58]⟩ (w.alloc zeroStm) (by omega)
  rw [show (⟨#[58]⟩ : ByteArray).data.toList = [58] from rfl, suffix_last x hx1, trim_last x hx1 hs, hs] at hcut
  simp only [decide_true] at hcut
  have hcall := clabel_good (w.alloc zeroStm) (some ⟨g, 0, none⟩) cap (x.extract 0 (x.size - 1)) line (by rw [ByteArray.size_extract]; omega) h
  clear hs
  go_enter Tryz.func99, Tryz.ntmps99
  go_wp2_with (first | (go_at_call 128; refine hcut.mono ?_; rintro e wx ⟨rfl, hww⟩; subst hww) | (go_at_call 129; refine hcall.mono ?_; rintro e w1 ⟨rfl, hb⟩; obtain ⟨hc, hf⟩ := bcell hb))
  obtain ⟨f0, f1, f2, f3, f4, f5, f6, f7⟩ := back8 (new8 rfl hb)
  refine bodyPost_ret (v := stm 1 line ⟨#[]⟩ 0 0 0 0 (x.extract 0 (x.size - 1))) (by simp [results, Tryz.results99, go_sem, f0, f1, f2, f3, f4, f5, f6, f7]) rfl ⟨rfl, ?_⟩
  exact below8 (one_below hb) (Nat.le_refl _) _ _ _ _ _ _ _ _

set_option maxRecDepth 100000 in
set_option maxHeartbeats 1000000 in
theorem cstm_ins (w : World) (hw : LibW w) (g cap : Nat) (x : ByteArray) (r : List ByteArray) (line : Int) (hl : WordsIn w g (x :: r)) (hsz : ∀ j (hj : j < r.length), r[j].size ≤ 1048576) (hx : x.size ≤ 1048576) (hx1 : 1 ≤ x.size) (hn : r.length ≤ 1048576) (hnf : (x.toList == [102, 117, 110, 99]) = false) (hs : ¬ lastB x = 58) :
    Calls Tryz.prog 99 #[.slice (some ⟨g, 0, none⟩) (r.length + 1) cap, .int .i64 line] w (InsPost w x r line) := by
  have hc0 := hl 0 (by simp)
  simp only [List.getElem_cons_zero] at hc0
  have hlt : g < w.heap.size := by have := World.block_lt_of_cell? w _ hc0; simpa using this
  have hcut := Tryz.strings_CutSuffix x ⟨#[58]⟩ (w.alloc zeroStm) (by omega)
  rw [show (⟨#[58]⟩ : ByteArray).data.toList = [58] from rfl, suffix_last x hx1] at hcut
  simp only [hs, decide_false] at hcut
  generalize (⟨(Lib.trimSuffix x.data.toList [58]).toArray⟩ : ByteArray) = tr at hcut
  have hcall := cins_any (w.alloc zeroStm) (hw.below ((Below.refl _ _).alloc (Nat.le_refl _) _)) g cap x r line (hl.alloc _) hsz hn
  cases hok : insOk x r with
  | true =>
    have hcall2 := hcall.mono (R' := fun e w' => e = .returned ((opK (shapeOf x) r r.length).stm line x) ∧ Below (w.alloc zeroStm).heap.size (w.alloc zeroStm) w') (by
      rintro e w' ⟨h1, h2 | h2⟩
      · exact ⟨h2.2, h1⟩
      · rw [hok] at h2; exact absurd h2.1 (by simp))
    clear hs hcall
    generalize hop : opK (shapeOf x) r r.length = op at hcall2
    obtain ⟨nm, r0, r1, r2, n⟩ := op
    have HO : Hid (opK (shapeOf x) r r.length = ⟨nm, r0, r1, r2, n⟩) := hop
    clear hop
    go_enter Tryz.func99, Tryz.ntmps99
    go_wp2_with (first | (go_at_call 128; refine hcut.mono ?_; rintro e wx ⟨rfl, hww⟩; subst hww) | (go_at_call 130; refine hcall2.mono ?_; rintro e w1 ⟨rfl, hb⟩; obtain ⟨hc, hf⟩ := bcell hb))
    obtain ⟨f0, f1, f2, f3, f4, f5, f6, f7⟩ := back8 (new8 rfl hb)
    refine bodyPost_ret (v := stm 2 line x r0 r1 r2 n nm) (by simp [results, Tryz.results99, go_sem, f0, f1, f2, f3, f4, f5, f6, f7]) rfl ⟨?_, .inl ⟨hok, by rw [HO.out]⟩⟩
    exact below8 (one_below hb) (Nat.le_refl _) _ _ _ _ _ _ _ _
  | false =>
    have hcall2 := hcall.mono (R' := fun e w' => e = refusal 1 line ∧ Below (w.alloc zeroStm).heap.size (w.alloc zeroStm) w') (by
      rintro e w' ⟨h1, h2 | h2⟩
      · rw [hok] at h2; exact absurd h2.1 (by simp)
      · exact ⟨h2.2, h1⟩)
    clear hs hcall
    go_enter Tryz.func99, Tryz.ntmps99
    go_wp2_with (first | (go_at_call 128; refine hcut.mono ?_; rintro e wx ⟨rfl, hww⟩; subst hww) | (go_at_call 130; refine hcall2.mono ?_; rintro e w1 ⟨rfl, hb⟩))
    exact ⟨rfl, one_below hb, .inr ⟨hok, rfl⟩⟩

theorem cstm_any (w : World) (hw : LibW w) (g cap : Nat) (x : ByteArray) (r : List ByteArray) (line : Int) (hl : WordsIn w g (x :: r)) (hsz : ∀ y ∈ (x :: r : List ByteArray), 1 ≤ y.size ∧ y.size ≤ 1048576) (hn : r.length ≤ 1048576) :
    Calls Tryz.prog 99 #[.slice (some ⟨g, 0, none⟩) (r.length + 1) cap, .int .i64 line] w (StmPost w (sayW (x :: r)) line) := by
  have hx := hsz x (by simp)
  cases hf : isFunc x with
  | true =>
    have e1 : sayW (x :: r) = ⟨102, x :: r, decide ((x :: r).length = 2) && isName ((x :: r).getLast?.getD ByteArray.empty)⟩ := by simp only [sayW, hf, if_true]
    rw [e1]
    have := func_is x hf
    subst this
    by_cases hg : (⟨#[102, 117, 110, 99]⟩ :: r : List ByteArray).length = 2 ∧ isName ((⟨#[102, 117, 110, 99]⟩ :: r : List ByteArray).getLast?.getD ByteArray.empty) = true
    · match r, hg, hl, hsz with
      | [y], hg, hl, hsz =>
        have hnm : isName y = true := by simpa using hg.2
        refine (cstm_func_good w g cap y line hl (hsz y (by simp)).2 hnm).mono ?_
        rintro e w' ⟨h1, h2⟩
        exact ⟨h2, .inl ⟨by simp [hnm], h1⟩⟩
    · refine (cstm_func_bad w g cap r line hl (fun y hy => (hsz y hy).2) hn hg).mono ?_
      rintro e w' ⟨h1, h2⟩
      exact ⟨h2, .inr ⟨by simpa using hg, h1⟩⟩
  | false =>
    have hnf : (x.toList == [102, 117, 110, 99]) = false := hf
    by_cases hs : lastB x = 58
    · by_cases hg : r.length + 1 = 1 ∧ isName (x.extract 0 (x.size - 1)) = true
      · have hr : r = [] := List.eq_nil_of_length_eq_zero (by omega)
        subst hr
        have e1 : sayW [x] = ⟨108, [x.extract 0 (x.size - 1)], isName (x.extract 0 (x.size - 1))⟩ := by simp only [sayW, hf]; rw [if_neg (by simp), if_pos ⟨rfl, hs⟩]
        rw [e1]
        refine (cstm_lab_good w g cap x line hl hx.2 hx.1 hnf hs hg.2).mono ?_
        rintro e w' ⟨h1, h2⟩
        exact ⟨h2, .inl ⟨hg.2, h1⟩⟩
      · refine (cstm_lab_bad w g cap x r line hl hx.2 hx.1 hn hnf hs hg).mono ?_
        rintro e w' ⟨h1, h2⟩
        refine ⟨h2, .inr ⟨?_, h1⟩⟩
        by_cases hr : r = []
        · subst hr
          have e1 : sayW [x] = ⟨108, [x.extract 0 (x.size - 1)], isName (x.extract 0 (x.size - 1))⟩ := by simp only [sayW, hf]; rw [if_neg (by simp), if_pos ⟨rfl, hs⟩]
          rw [e1]
          simpa using hg
        · have hr1 : ¬ (x :: r).length = 1 := by cases r with | nil => exact absurd rfl hr | cons a b => simp
          have e1 : (sayW (x :: r)).ok = if shapeOf x = [63] ∨ ¬ (x :: r).length = (shapeOf x).length + 1 then false else opsOk (shapeOf x) r := by
            simp only [sayW, hf]; rw [if_neg (by simp), if_neg (fun h => hr1 h.1)]
          rw [e1, if_pos (.inl (colon_shape x hx.1 hs))]
    · have e1 : sayW (x :: r) = ⟨105, x :: r, if shapeOf x = [63] ∨ ¬ (x :: r).length = (shapeOf x).length + 1 then false else opsOk (shapeOf x) r⟩ := by simp only [sayW, hf]; rw [if_neg (by simp), if_neg (fun h => hs h.2)]
      rw [e1]
      have e2 : (if shapeOf x = [63] ∨ ¬ (x :: r).length = (shapeOf x).length + 1 then false else opsOk (shapeOf x) r) = insOk x r := by
        unfold insOk
        simp only [List.length_cons, Nat.add_right_cancel_iff]
      rw [e2]
      refine (cstm_ins w hw g cap x r line hl (fun j hj => (hsz r[j] (List.mem_cons_of_mem _ (List.getElem_mem hj))).2) hx.2 hx.1 hn hnf hs).mono ?_
      rintro e w' ⟨h1, h2 | h2⟩
      · refine ⟨h1, .inl ⟨h2.1, ?_⟩⟩
        rw [h2.2]
        show Ending.returned (stm 2 line x (opK (shapeOf x) r r.length).a (opK (shapeOf x) r r.length).b (opK (shapeOf x) r r.length).c (opK (shapeOf x) r r.length).n (opK (shapeOf x) r r.length).nm) = _
        rw [opK_nm]
        rfl
      · exact ⟨h1, .inr h2⟩

end Go.Proofs.YtfpgjkbjbbgciaaGreatDoor
