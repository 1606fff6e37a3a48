import Derived.Test.YtfpgjkbjbbgciaaGreatDoorMb07
import Derived.Test.YtfpgjkbjbbgciaaGreatDoorMb04
namespace Go.Proofs.YtfpgjkbjbbgciaaGreatDoor
open Go.RowKit Sp

theorem sh_at (sh : List UInt8) (k : Nat) (_h : k < sh.length) (h' : k < (⟨sh.toArray⟩ : ByteArray).size) : (⟨sh.toArray⟩ : ByteArray)[k] = sh[k] := rfl
theorem u8_eq (a b : UInt8) (h : ((a.toNat : Int) == (b.toNat : Int)) = true) : a = b := by
  rw [beq_iff_eq] at h; exact UInt8.toNat_inj.1 (by omega)
theorem u8_ne (a b : UInt8) (h : ((a.toNat : Int) == (b.toNat : Int)) = false) : ¬ a = b := by
  intro e; subst e; simp at h
theorem opOk_R (a : UInt8) (y : ByteArray) (h : ((a.toNat : Int) == 82) = true) : opOk a y = decide (0 ≤ reg y) := by
  have := u8_eq a 82 h; subst this; rfl
theorem opOk_K (a : UInt8) (y : ByteArray) (h : ((a.toNat : Int) == 75) = true) : opOk a y = (numOf y).2 := by
  have := u8_eq a 75 h; subst this; rfl
theorem opOk_N (a : UInt8) (y : ByteArray) (h : ((a.toNat : Int) == 82) = false) (h' : ((a.toNat : Int) == 75) = false) : opOk a y = isName y := by
  unfold opOk; rw [if_neg (u8_ne a 82 h), if_neg (u8_ne a 75 h')]

set_option maxRecDepth 100000 in
set_option maxHeartbeats 2000000 in
theorem say_ops0 (s : ByteArray) (w : World) (hs : s.size ≤ 1048576) (hv : validAt s 0 = true) (x : ByteArray) (hl : Hid (words s = [x])) (hx : x.size ≤ 1048576) (hx1 : 1 ≤ x.size) (hnf : (x.toList == [102, 117, 110, 99]) = false) (hlast : ((x[x.size - 1].toNat : Int) == 58) = false) (HS : Hid (shapeOf x = [])) :
    Calls Tryz.prog 46 #[.string s] w (SaidPost w.heap.size w ⟨105, [x], true⟩) := by
  go_enter Tryz.func46, Tryz.ntmps46
  go_wp2_with (first
    | (go_at_call 71; refine (valid_any s _ (by omega)).mono ?_; rintro e w' ⟨rfl, rfl⟩)
    | (go_at_call 74; refine (shape_as x _ [] HS).mono ?_; rintro e w' ⟨rfl, rfl⟩)
    | (go_at_call 72; refine (words_two s w (by omega) _ hl (by simp)).mono ?_; rintro e w1 ⟨g, cap, rfl, hcap, hmx, hcl, hown, K⟩; obtain ⟨hg3, hg2, hb, c0, c1, d0, d1, e0, e1, f0, f1⟩ := K; have hne : ¬ w.heap.size + 1 = g := (by omega); have hne0 : ¬ w.heap.size = g := (by omega); have hc0 := hcl 0 (by simp); simp only [List.getElem_cons_zero] at hc0))
  refine wp_loop_rounds 1 ?_
  rw [rounds_succ]
  go_wp2
  go_light
  obtain ⟨p0, p1⟩ := set_back (W := fillW w w1 105 (.slice (some ⟨g, 0, none⟩) 1 cap)) (b := w.heap.size) (fill_cell c0) (fill_cell c1)
  exact bodyPost_ret (v := .tuple #[.agg #[.int .u8 105, .slice (some ⟨g, 0, none⟩) 1 cap], .bool true]) (by simp [results, Tryz.results46, go_sem, p0, p1]) rfl (fill_post (by simpa using hown) hb)

set_option maxRecDepth 100000 in
set_option maxHeartbeats 4000000 in
theorem say_ops1 (s : ByteArray) (w : World) (hs : s.size ≤ 1048576) (hv : validAt s 0 = true) (x : ByteArray) (r : List ByteArray) (hl : Hid (words s = x :: r)) (_hx : x.size ≤ 1048576) (_hx1 : 1 ≤ x.size) (hnf : (x.toList == [102, 117, 110, 99]) = false) (hr1 : 1 ≤ r.length) (hr2 : ((r.length : Int) + 1 == 1) = false) (hrs : ∀ j (hj : j < r.length), r[j].size ≤ 1048576)
    (sh : List UInt8) (HS : Hid (shapeOf x = sh)) (hsh : sh.length ≤ 3) (h63 : (sh == [63]) = false) (hrl : r.length ≤ 1048576) (hle : sh.length ≤ r.length) (hge : r.length ≤ sh.length) :
    Calls Tryz.prog 46 #[.string s] w (SaidPost w.heap.size w ⟨105, x :: r, opsOk sh r⟩) := by
  have hne1 : ((r.length : Int) + 1 != (sh.length : Int) + 1) = false := by simp; omega
  generalize hO : opsOk sh r = O
  have HO : Hid (O = opsOk (sh.drop 0) (r.drop 0)) := by rw [← hO]; rfl
  clear hO
  go_enter Tryz.func46, Tryz.ntmps46
  go_wp2_with (first
    | (go_at_call 71; refine (valid_any s _ (by omega)).mono ?_; rintro e w' ⟨rfl, rfl⟩)
    | (go_at_call 74; refine (shape_as x _ sh HS).mono ?_; rintro e w' ⟨rfl, rfl⟩)
    | (go_at_call 72; refine (words_two s w (by omega) _ hl (by simp)).mono ?_; rintro e w1 ⟨g, cap, rfl, hcap, hmx, hcl, hown, K⟩; obtain ⟨hg3, hg2, hb, c0, c1, d0, d1, e0, e1, f0, f1⟩ := K; have hne : ¬ w.heap.size + 1 = g := (by omega); have hne0 : ¬ w.heap.size = g := (by omega); have hc0 := hcl 0 (by simp); simp only [List.getElem_cons_zero] at hc0))
  go_loop [11] (fun ti => ∃ k : Nat, k ≤ sh.length ∧ ti = .int .i64 (k : Int) ∧ O = opsOk (sh.drop k) (r.drop k)) (fun ti => sh.length - (intOf ti).toNat)
  case atStart => exact ⟨0, by omega, rfl, HO.out⟩
  case round =>
    obtain ⟨k, hk, rfl, hR⟩ := hrel
    clear HO
    have HO : Hid (O = opsOk (sh.drop k) (r.drop k)) := hR
    clear hR
    by_cases hlt : k < sh.length
    · have hkr : k < r.length := by omega
      have hck := hcl (k + 1) (by simp; omega)
      simp only [List.getElem_cons_succ] at hck
      have hsz := hrs k hkr
      have HT : Hid (O = (opOk sh[k] r[k] && opsOk (sh.drop (k + 1)) (r.drop (k + 1)))) := by rw [HO.out, opsOk_step sh r k hlt hkr]; rfl
      have hW : k < (⟨sh.toArray⟩ : ByteArray).size := hlt
      cases h82 : ((((⟨sh.toArray⟩ : ByteArray)[k]'hW).toNat : Int) == 82) with
      | true =>
        by_cases hq : 0 ≤ reg r[k]
        · have HQ : Hid (opOk sh[k] r[k] = true) := (opOk_R sh[k] r[k] h82).trans (by simpa using hq)
          go_wp2_with (go_at_call 75; refine (reg_any r[k] _ (by unfold maxLen; omega)).mono ?_; rintro e w' ⟨rfl, rfl⟩)
          go_round
          case rel => exact ⟨k + 1, by omega, by go_num, by rw [HT.out, HQ.out]; simp⟩
          case measure => simp [intOf]; omega
        · have HQ : Hid (opOk sh[k] r[k] = false) := (opOk_R sh[k] r[k] h82).trans (by simpa using hq)
          have hq2 : reg r[k] < 0 := by omega
          have hq3 : decide (0 ≤ reg r[k]) = false := by simpa using hq
          go_wp2_with (go_at_call 75; refine (reg_any r[k] _ (by unfold maxLen; omega)).mono ?_; rintro e w' ⟨rfl, rfl⟩)
          go_light
          obtain ⟨p0, p1⟩ := set_back (W := fillW w w1 105 (.slice (some ⟨g, 0, none⟩) (r.length + 1) cap)) (b := w.heap.size) (fill_cell c0) (fill_cell c1)
          have hOf : O = false := by rw [HT.out, HQ.out]; simp
          rw [hOf]
          exact bodyPost_ret (v := .tuple #[.agg #[.int .u8 105, .slice (some ⟨g, 0, none⟩) (r.length + 1) cap], .bool false]) (by simp [results, Tryz.results46, go_sem, p0, p1]) rfl (fill_post (by simpa using hown) hb)
      | false =>
        cases h75 : ((((⟨sh.toArray⟩ : ByteArray)[k]'hW).toNat : Int) == 75) with
        | true =>
          cases hq : (numOf r[k]).2 with
          | true =>
            have HQ : Hid (opOk sh[k] r[k] = true) := (opOk_K sh[k] r[k] h75).trans hq
            go_wp2_with (go_at_call 76; refine (num_any r[k] _ (by omega)).mono ?_; rintro e w' ⟨rfl, rfl⟩)
            go_round
            case rel => exact ⟨k + 1, by omega, by go_num, by rw [HT.out, HQ.out]; simp⟩
            case measure => simp [intOf]; omega
          | false =>
            have HQ : Hid (opOk sh[k] r[k] = false) := (opOk_K sh[k] r[k] h75).trans hq
            go_wp2_with (go_at_call 76; refine (num_any r[k] _ (by omega)).mono ?_; rintro e w' ⟨rfl, rfl⟩)
            go_light
            obtain ⟨p0, p1⟩ := set_back (W := fillW w w1 105 (.slice (some ⟨g, 0, none⟩) (r.length + 1) cap)) (b := w.heap.size) (fill_cell c0) (fill_cell c1)
            have hOf : O = false := by rw [HT.out, HQ.out]; simp
            rw [hOf]
            exact bodyPost_ret (v := .tuple #[.agg #[.int .u8 105, .slice (some ⟨g, 0, none⟩) (r.length + 1) cap], .bool false]) (by simp [results, Tryz.results46, go_sem, p0, p1]) rfl (fill_post (by simpa using hown) hb)
        | false =>
          cases hq : isName r[k] with
          | true =>
            have HQ : Hid (opOk sh[k] r[k] = true) := (opOk_N sh[k] r[k] h82 h75).trans hq
            go_wp2_with (go_at_call 73; refine (name_any r[k] _ (by omega)).mono ?_; rintro e w' ⟨rfl, rfl⟩)
            go_round
            case rel => exact ⟨k + 1, by omega, by go_num, by rw [HT.out, HQ.out]; simp⟩
            case measure => simp [intOf]; omega
          | false =>
            have HQ : Hid (opOk sh[k] r[k] = false) := (opOk_N sh[k] r[k] h82 h75).trans hq
            go_wp2_with (go_at_call 73; refine (name_any r[k] _ (by omega)).mono ?_; rintro e w' ⟨rfl, rfl⟩)
            go_light
            obtain ⟨p0, p1⟩ := set_back (W := fillW w w1 105 (.slice (some ⟨g, 0, none⟩) (r.length + 1) cap)) (b := w.heap.size) (fill_cell c0) (fill_cell c1)
            have hOf : O = false := by rw [HT.out, HQ.out]; simp
            rw [hOf]
            exact bodyPost_ret (v := .tuple #[.agg #[.int .u8 105, .slice (some ⟨g, 0, none⟩) (r.length + 1) cap], .bool false]) (by simp [results, Tryz.results46, go_sem, p0, p1]) rfl (fill_post (by simpa using hown) hb)
    · have HT : Hid (O = true) := by rw [HO.out, List.drop_of_length_le (by omega)]; rfl
      go_wp2
      go_light
      obtain ⟨p0, p1⟩ := set_back (W := fillW w w1 105 (.slice (some ⟨g, 0, none⟩) (r.length + 1) cap)) (b := w.heap.size) (fill_cell c0) (fill_cell c1)
      rw [HT.out]
      exact bodyPost_ret (v := .tuple #[.agg #[.int .u8 105, .slice (some ⟨g, 0, none⟩) (r.length + 1) cap], .bool true]) (by simp [results, Tryz.results46, go_sem, p0, p1]) rfl (fill_post (by simpa using hown) hb)

end Go.Proofs.YtfpgjkbjbbgciaaGreatDoor

namespace Go.Proofs.YtfpgjkbjbbgciaaGreatDoor
open Go.RowKit Sp

theorem flush_len (now : ByteArray) (l : List ByteArray) : (flush now l).length ≤ l.length + 1 := by
  unfold flush; split <;> simp
theorem wordsAt_len (s : ByteArray) (i : Nat) (now : ByteArray) (l : List ByteArray) : (wordsAt s i now l).length ≤ l.length + (s.size - i) + 1 := by
  have hf := flush_len now l
  by_cases h : i < s.size
  · by_cases h1 : bt s i = 32 ∨ bt s i = 9 ∨ bt s i = 59
    · by_cases h2 : bt s i = 59
      · rw [wordsAt_stop s i now l h h2]; omega
      · rw [wordsAt_cut s i now l h (by omega)]
        have := wordsAt_len s (i + 1) ByteArray.empty (flush now l)
        omega
    · rw [wordsAt_on s i now l h h1]
      have := wordsAt_len s (i + 1) (now ++ s.extract i (i + 1)) l
      omega
  · rw [wordsAt_end s i now l h]; omega
termination_by s.size - i
theorem words_len (s : ByteArray) : (words s).length ≤ s.size + 1 := by
  have := wordsAt_len s 0 ByteArray.empty []
  simpa [words] using this
theorem shape_len (x : ByteArray) : (shapeOf x).length ≤ 3 := by
  unfold shapeOf
  repeat' split
  all_goals decide
theorem func_is (x : ByteArray) (h : isFunc x = true) : x = ⟨#[102, 117, 110, 99]⟩ := isW_eq x _ h

theorem say_any (s : ByteArray) (w : World) (hs : s.size ≤ 1048576) : Calls Tryz.prog 46 #[.string s] w (SaidPost w.heap.size w (say s)) := by
  cases hv : validAt s 0 with
  | false => have e : say s = ⟨0, [], false⟩ := by simp [say, hv]
             rw [e]; exact say_bad s w hs hv
  | true =>
    have e : say s = sayW (words s) := by simp [say, hv]
    rw [e]
    have hsz := words_sizes s
    have hln := words_len s
    cases hl : words s with
    | nil => exact say_none s w hs hv hl
    | cons x r =>
      rw [hl] at hsz hln
      have hx := hsz x (by simp)
      have hr : r.length ≤ 1048576 := by simp at hln; omega
      cases hf : isFunc x with
      | true =>
        have e1 : sayW (x :: r) = ⟨102, x :: r, decide ((x :: r).length = 2) && isName ((x :: r).getLast?.getD ByteArray.empty)⟩ := by simp only [sayW, hf, if_true]
        rw [e1]
        have := func_is x hf
        subst this
        match r, hl, hsz with
        | [y], hl, hsz =>
          have h2 := hsz y (by simp)
          exact say_func2 s w hs hv y hl (by omega)
        | [], hl, _ => exact say_func1 s w hs hv [] hl (by simp)
        | a :: b :: c, hl, _ => simpa using say_func1 s w hs hv (a :: b :: c) hl (by simp)
      | false =>
        have hnf : (x.toList == [102, 117, 110, 99]) = false := hf
        have hlastE := bt_eq x (x.size - 1) (by omega)
        by_cases hlab : (x :: r).length = 1 ∧ lastB x = 58
        · have e1 : sayW (x :: r) = ⟨108, [x.extract 0 (x.size - 1)], isName (x.extract 0 (x.size - 1))⟩ := by simp only [sayW, hf]; rw [if_neg (by simp), if_pos hlab]
          rw [e1]
          obtain ⟨h1, h2⟩ := hlab
          have hr0 : r = [] := List.eq_nil_of_length_eq_zero (by simpa using h1)
          subst hr0
          exact say_label s w hs hv x hl (by omega) (by omega) hnf (by rw [hlastE, beq_iff_eq]; exact h2)
        · have e1 : sayW (x :: r) = ⟨105, x :: r, if shapeOf x = [63] ∨ ¬ (x :: r).length = (shapeOf x).length + 1 then false else opsOk (shapeOf x) r⟩ := by simp only [sayW, hf]; rw [if_neg (by simp), if_neg hlab]
          rw [e1]
          have hsl := shape_len x
          by_cases hr0 : r = []
          · subst hr0
            have hlast : ((x[x.size - 1].toNat : Int) == 58) = false := by
              rw [hlastE]; simp [lastB] at hlab; simpa using hlab
            by_cases h63 : shapeOf x = [63]
            · rw [if_pos (.inl h63)]
              exact say_odd0a s w hs hv x hl (by omega) (by omega) hnf hlast (shapeOf x) rfl hsl (by simp [h63])
            · by_cases hn : (shapeOf x).length = 0
              · have h0 := List.eq_nil_of_length_eq_zero hn
                rw [if_neg (by simp [h0]), h0]
                exact say_ops0 s w hs hv x hl (by omega) (by omega) hnf hlast h0
              · rw [if_pos (.inr (by show ¬ 1 = _; omega))]
                exact say_odd0b s w hs hv x hl (by omega) (by omega) hnf hlast (shapeOf x) rfl hsl (by simpa using h63) (by simp; omega)
          · have hr1 : 1 ≤ r.length := by cases r with | nil => exact absurd rfl hr0 | cons a b => simp
            have hr2 : ((r.length : Int) + 1 == 1) = false := by simp; omega
            by_cases h63 : shapeOf x = [63]
            · rw [if_pos (.inl h63)]
              exact say_odd1a s w hs hv x r hl (by omega) (by omega) hnf hr hr1 hr2 (shapeOf x) rfl hsl (by simp [h63])
            · by_cases hn : r.length = (shapeOf x).length
              · rw [if_neg (by simp [h63]; omega)]
                exact say_ops1 s w hs hv x r hl (by omega) (by omega) hnf hr1 hr2 (fun j hj => by have := hsz r[j] (List.mem_cons_of_mem _ (List.getElem_mem hj)); omega) (shapeOf x) rfl hsl (by simpa using h63) hr (by omega) (by omega)
              · rw [if_pos (.inr (by simp; omega))]
                exact say_odd1b s w hs hv x r hl (by omega) (by omega) hnf hr hr1 hr2 (shapeOf x) rfl hsl (by simpa using h63) (len_ne _ _ hn)

end Go.Proofs.YtfpgjkbjbbgciaaGreatDoor

namespace Go.Proofs.YtfpgjkbjbbgciaaGreatDoor
open Go.RowKit Sp

/-- The lines of a program, as they lie in memory. -/
structure LinesIn (w : World) (g : Nat) (L : List Said) : Prop where
  kind : ∀ i (h : i < L.length), w.cell? ⟨g, i * 2, none⟩ = some (.int .u8 L[i].kind)
  words : ∀ i (h : i < L.length), 0 < L[i].kept.length → ∃ b c, w.cell? ⟨g, i * 2 + 1, none⟩ = some (.slice (some ⟨b, 0, none⟩) L[i].kept.length c) ∧ ∀ j (hj : j < L[i].kept.length), w.cell? ⟨b, j, none⟩ = some (.string L[i].kept[j])
  wf : ∀ i (h : i < L.length), Wf L[i]

theorem wf_kind {q : Said} (h : Wf q) : 0 ≤ q.kind ∧ q.kind ≤ 255 := by unfold Wf at h; omega

set_option maxRecDepth 100000 in
set_option maxHeartbeats 1000000 in
theorem owner_any (L : List Said) (g cap k : Nat) (w : World) (hL : LinesIn w g L) (hn : L.length ≤ 1048577) (hk : k < L.length) :
    Calls Tryz.prog 107 #[.slice (some ⟨g, 0, none⟩) L.length cap, .int .i64 (k : Int)] w fun e w' => e = .returned (.int .i64 (owner L k)) ∧ w' = w := by
  go_enter Tryz.func107, Tryz.ntmps107
  go_wp2
  go_loop [1] (fun t => ∃ j : Nat, j ≤ k + 1 ∧ t = .int .i64 ((j : Int) - 1) ∧ (j = 0 ∧ owner L k = -1 ∨ 1 ≤ j ∧ owner L k = owner L (j - 1))) (fun t => (intOf t + 1).toNat)
  case atStart => exact ⟨k + 1, by omega, by go_num, .inr ⟨by omega, rfl⟩⟩
  case round =>
    obtain ⟨j, hj, rfl, hR⟩ := hrel
    have HR : Hid (j = 0 ∧ owner L k = -1 ∨ 1 ≤ j ∧ owner L k = owner L (j - 1)) := hR
    clear hR
    by_cases h0 : j = 0
    · have HQ : Hid (owner L k = -1) := by rcases HR.out with h | h; exact h.2; omega
      subst h0
      go_wp2
      go_ret
      exact ⟨ret_int (by rw [HQ.out]), rfl⟩
    · obtain ⟨m, rfl⟩ : ∃ m, j = m + 1 := ⟨j - 1, by omega⟩
      have HQ : Hid (owner L k = owner L m) := by rcases HR.out with h | h; omega; exact h.2
      clear HR
      have hm : m < L.length := by omega
      have hc := hL.kind m hm
      have hb := wf_kind (hL.wf m hm)
      have ec : ((m + 1 : Nat) : Int) - 1 = (m : Int) := by omega
      rw [ec]
      cases h102 : (L[m].kind != 102) with
      | false =>
        have HZ : Hid (owner L m = m) := owner_is L m hm (by simpa using h102)
        go_wp2
        go_ret
        exact ⟨ret_int (by rw [HQ.out, HZ.out]), rfl⟩
      | true =>
        go_wp2
        go_round
        case rel =>
          refine ⟨m, by omega, rfl, ?_⟩
          cases m with
          | zero => exact .inl ⟨rfl, HQ.out.trans (owner_zero L hm (by simpa using h102))⟩
          | succ m => exact .inr ⟨by omega, HQ.out.trans (owner_succ L m hm (by simpa using h102))⟩
        case measure => simp [intOf]

theorem word_at (q : Said) (i : Nat) (h : i < q.kept.length) : q.word i = q.kept[i] := by
  unfold Said.word; rw [List.getElem?_eq_getElem h]; rfl
theorem wf_f {q : Said} (h : Wf q) (h' : (q.kind == 102) = true) : q.kept.length = 2 := by
  rw [beq_iff_eq] at h'; unfold Wf at h; omega
theorem wf_l {q : Said} (h : Wf q) (h' : (q.kind == 108) = true) : q.kept.length = 1 := by
  rw [beq_iff_eq] at h'; unfold Wf at h; omega
theorem wf_i {q : Said} (h : Wf q) (h' : (q.kind == 105) = true) : 1 ≤ q.kept.length ∧ q.kept.length ≤ 4 := by
  rw [beq_iff_eq] at h'; unfold Wf at h; omega
theorem isFn_no (q : Said) (x : ByteArray) (h : (q.kind == 102) = false) : isFn q x = false := by
  simp at h; simp [isFn, h]
theorem isFn_eq (q : Said) (x : ByteArray) (h : (q.kind == 102) = true) : isFn q x = eqW (q.word 1) x := by
  simp at h; simp [isFn, h]
theorem isLab_no (q : Said) (x : ByteArray) (h : (q.kind == 108) = false) : isLab q x = false := by
  simp at h; simp [isLab, h]
theorem isLab_eq (q : Said) (x : ByteArray) (h : (q.kind == 108) = true) : isLab q x = eqW (q.word 0) x := by
  simp at h; simp [isLab, h]

set_option maxRecDepth 100000 in
set_option maxHeartbeats 1000000 in
theorem fn_any (L : List Said) (g cap : Nat) (x : ByteArray) (w : World) (hL : LinesIn w g L) (hn : L.length ≤ 1048577) :
    Calls Tryz.prog 77 #[.slice (some ⟨g, 0, none⟩) L.length cap, .string x] w fun e w' => e = .returned (.int .i64 (fnFrom L x 0)) ∧ w' = w := by
  go_enter Tryz.func77, Tryz.ntmps77
  go_wp2
  go_loop [5] (fun t => ∃ j : Nat, j ≤ L.length ∧ t = .int .i64 (j : Int) ∧ fnFrom L x 0 = fnFrom L x j) (fun t => L.length - (intOf t).toNat)
  case atStart => exact ⟨0, by omega, rfl, rfl⟩
  case round =>
    obtain ⟨j, hj, rfl, hR⟩ := hrel
    have HR : Hid (fnFrom L x 0 = fnFrom L x j) := hR
    clear hR
    by_cases hlt : j < L.length
    · have hc := hL.kind j hlt
      have hb := wf_kind (hL.wf j hlt)
      cases h102 : (L[j].kind == 102) with
      | false =>
        have HQ : Hid (fnFrom L x 0 = fnFrom L x (j + 1)) := HR.out.trans (fnFrom_on L x j hlt (isFn_no _ x h102))
        go_wp2
        go_round
        case rel => exact ⟨j + 1, by omega, by go_num, HQ.out⟩
        case measure => simp [intOf]; omega
      | true =>
        have h2 := wf_f (hL.wf j hlt) h102
        have hlen : 1 < L[j].kept.length := by omega
        obtain ⟨b, c, hw, hwc⟩ := hL.words j hlt (by omega)
        have hw1 := hwc 1 hlen
        clear hwc
        have hfe := isFn_eq L[j] x h102
        rw [word_at _ 1 hlen] at hfe
        have HF : Hid (isFn L[j] x = eqW (L[j].kept[1]) x) := hfe
        clear hfe
        rw [h2] at hw
        cases heq : ((L[j].kept[1]'hlen).toList == x.toList) with
        | true =>
          have HQ : Hid (fnFrom L x 0 = j) := HR.out.trans (fnFrom_hit L x j hlt (HF.out.trans heq))
          go_wp2
          go_ret
          exact ⟨ret_int (by rw [HQ.out]), rfl⟩
        | false =>
          have HQ : Hid (fnFrom L x 0 = fnFrom L x (j + 1)) := HR.out.trans (fnFrom_on L x j hlt (HF.out.trans heq))
          go_wp2
          go_round
          case rel => exact ⟨j + 1, by omega, by go_num, HQ.out⟩
          case measure => simp [intOf]; omega
    · have HQ : Hid (fnFrom L x 0 = -1) := HR.out.trans (fnFrom_end L x j hlt)
      go_wp2
      go_ret
      exact ⟨ret_int (by rw [HQ.out]), rfl⟩

set_option maxRecDepth 100000 in
set_option maxHeartbeats 1000000 in
theorem lab_any (L : List Said) (g cap k : Nat) (x : ByteArray) (w : World) (hL : LinesIn w g L) (hn : L.length ≤ 1048577) (hk : k < L.length) :
    Calls Tryz.prog 78 #[.slice (some ⟨g, 0, none⟩) L.length cap, .int .i64 (k : Int), .string x] w fun e w' => e = .returned (.int .i64 (labOf L k x)) ∧ w' = w := by
  have ho := owner_bd L k
  obtain ⟨m, hm⟩ : ∃ m : Nat, owner L k + 1 = (m : Int) := ⟨(owner L k + 1).toNat, by omega⟩
  have HM : Hid (owner L k + 1 = (m : Int)) := hm
  have HL : Hid (labOf L k x = labFrom L x m) := by unfold Hid labOf; rw [hm]; rfl
  have hml : m ≤ L.length := by omega
  go_enter Tryz.func78, Tryz.ntmps78
  go_wp2_with (go_at_call 107; refine (owner_any L g cap k _ hL hn hk).mono ?_; rintro e w' ⟨rfl, rfl⟩)
  go_loop [7] (fun t => ∃ j : Nat, j ≤ L.length ∧ t = .int .i64 (j : Int) ∧ labOf L k x = labFrom L x j) (fun t => L.length - (intOf t).toNat)
  case atStart => exact ⟨m, hml, by first | rfl | rw [HM.out], HL.out⟩
  case round =>
    obtain ⟨j, hj, rfl, hR⟩ := hrel
    have HR : Hid (labOf L k x = labFrom L x j) := hR
    clear hR hm HL HM
    by_cases hlt : j < L.length
    · have hc := hL.kind j hlt
      have hb := wf_kind (hL.wf j hlt)
      cases h102 : (L[j].kind != 102) with
      | false =>
        have HQ : Hid (labOf L k x = -1) := HR.out.trans (labFrom_f L x j hlt (by simpa using h102))
        go_wp2
        go_ret
        exact ⟨ret_int (by rw [HQ.out]), rfl⟩
      | true =>
        have hnf : ¬ L[j].kind = 102 := by simpa using h102
        have HNF : Hid (¬ L[j].kind = 102) := hnf
        clear hnf
        cases h108 : (L[j].kind == 108) with
        | false =>
          have HQ : Hid (labOf L k x = labFrom L x (j + 1)) := HR.out.trans (labFrom_on L x j hlt HNF.out (isLab_no _ x h108))
          go_wp2
          go_round
          case rel => exact ⟨j + 1, by omega, by go_num, HQ.out⟩
          case measure => simp [intOf]; omega
        | true =>
          have h2 := wf_l (hL.wf j hlt) h108
          have hlen : 0 < L[j].kept.length := by omega
          obtain ⟨b, c, hw, hwc⟩ := hL.words j hlt (by omega)
          have hw1 := hwc 0 hlen
          clear hwc
          have hfe := isLab_eq L[j] x h108
          rw [word_at _ 0 hlen] at hfe
          have HF : Hid (isLab L[j] x = eqW (L[j].kept[0]) x) := hfe
          clear hfe
          rw [h2] at hw
          cases heq : ((L[j].kept[0]'hlen).toList == x.toList) with
          | true =>
            have HQ : Hid (labOf L k x = j) := HR.out.trans (labFrom_hit L x j hlt HNF.out (HF.out.trans heq))
            go_wp2
            go_ret
            exact ⟨ret_int (by rw [HQ.out]), rfl⟩
          | false =>
            have HQ : Hid (labOf L k x = labFrom L x (j + 1)) := HR.out.trans (labFrom_on L x j hlt HNF.out (HF.out.trans heq))
            go_wp2
            go_round
            case rel => exact ⟨j + 1, by omega, by go_num, HQ.out⟩
            case measure => simp [intOf]; omega
    · have HQ : Hid (labOf L k x = -1) := HR.out.trans (labFrom_end L x j hlt)
      go_wp2
      go_ret
      exact ⟨ret_int (by rw [HQ.out]), rfl⟩

end Go.Proofs.YtfpgjkbjbbgciaaGreatDoor

namespace Go.Proofs.YtfpgjkbjbbgciaaGreatDoor
open Go.RowKit Sp

theorem fn_bd (L : List Said) (x : ByteArray) (i : Nat) : -1 ≤ fnFrom L x i ∧ fnFrom L x i ≤ L.length := by
  by_cases h : i < L.length
  · cases h' : isFn L[i] x with
    | true => rw [fnFrom_hit L x i h h']; omega
    | false => rw [fnFrom_on L x i h h']; exact fn_bd L x (i + 1)
  · rw [fnFrom_end L x i h]; omega
termination_by L.length - i
theorem labFrom_bd (L : List Said) (x : ByteArray) (i : Nat) : -1 ≤ labFrom L x i ∧ labFrom L x i ≤ L.length := by
  by_cases h : i < L.length
  · by_cases h0 : L[i].kind = 102
    · rw [labFrom_f L x i h h0]; omega
    · cases h' : isLab L[i] x with
      | true => rw [labFrom_hit L x i h h0 h']; omega
      | false => rw [labFrom_on L x i h h0 h']; exact labFrom_bd L x (i + 1)
  · rw [labFrom_end L x i h]; omega
termination_by L.length - i
theorem lab_bd (L : List Said) (k : Nat) (x : ByteArray) : -1 ≤ labOf L k x ∧ labOf L k x ≤ L.length := labFrom_bd L x _

theorem twice_f (L : List Said) (k : Nat) (h : k < L.length) (h1 : (L[k].kind == 102) = true) (hl : 1 < L[k].kept.length) : twiceB L k = decide (fnFrom L (L[k].kept[1]) 0 < k) := by
  rw [beq_iff_eq] at h1
  unfold twiceB; rw [List.getElem?_eq_getElem h]; simp only [h1, if_true, word_at _ 1 hl]
theorem twice_l (L : List Said) (k : Nat) (h : k < L.length) (h1 : (L[k].kind == 108) = true) (hl : 0 < L[k].kept.length) : twiceB L k = decide (labOf L k (L[k].kept[0]) < k) := by
  rw [beq_iff_eq] at h1
  unfold twiceB; rw [List.getElem?_eq_getElem h]; simp only [h1, word_at _ 0 hl]; simp
theorem twice_o (L : List Said) (k : Nat) (h : k < L.length) (h1 : (L[k].kind == 102) = false) (h2 : (L[k].kind == 108) = false) : twiceB L k = false := by
  simp at h1 h2
  unfold twiceB; rw [List.getElem?_eq_getElem h]; simp only [h1, h2, if_false]

set_option maxRecDepth 100000 in
set_option maxHeartbeats 1000000 in
theorem twice_any (L : List Said) (g cap k : Nat) (w : World) (hL : LinesIn w g L) (hn : L.length ≤ 1048577) (hk : k < L.length) :
    Calls Tryz.prog 47 #[.slice (some ⟨g, 0, none⟩) L.length cap, .int .i64 (k : Int)] w fun e w' => e = .returned (.bool (twiceB L k)) ∧ w' = w := by
  have hc := hL.kind k hk
  have hb := wf_kind (hL.wf k hk)
  cases h102 : (L[k].kind == 102) with
  | true =>
    have h2 := wf_f (hL.wf k hk) h102
    have hlen : 1 < L[k].kept.length := by omega
    obtain ⟨b, c, hw, hwc⟩ := hL.words k hk (by omega)
    have hw1 := hwc 1 hlen
    clear hwc
    have HT : Hid (decide (fnFrom L (L[k].kept[1]) 0 < k) = twiceB L k) := (twice_f L k hk h102 hlen).symm
    rw [h2] at hw
    go_enter Tryz.func47, Tryz.ntmps47
    go_wp2_with (go_at_call 77; refine (fn_any L g cap _ _ hL hn).mono ?_; rintro e w' ⟨rfl, rfl⟩)
    go_ret
    exact ⟨ret_bool HT.out, rfl⟩
  | false =>
    cases h108 : (L[k].kind == 108) with
    | true =>
      have h2 := wf_l (hL.wf k hk) h108
      have hlen : 0 < L[k].kept.length := by omega
      obtain ⟨b, c, hw, hwc⟩ := hL.words k hk (by omega)
      have hw1 := hwc 0 hlen
      clear hwc
      have HT : Hid (decide (labOf L k (L[k].kept[0]) < k) = twiceB L k) := (twice_l L k hk h108 hlen).symm
      rw [h2] at hw
      go_enter Tryz.func47, Tryz.ntmps47
      go_wp2_with (go_at_call 78; refine (lab_any L g cap k _ _ hL hn hk).mono ?_; rintro e w' ⟨rfl, rfl⟩)
      go_ret
      exact ⟨ret_bool HT.out, rfl⟩
    | false =>
      have HT : Hid (false = twiceB L k) := (twice_o L k hk h102 h108).symm
      go_enter Tryz.func47, Tryz.ntmps47
      go_wp2
      go_ret
      exact ⟨ret_bool HT.out, rfl⟩

end Go.Proofs.YtfpgjkbjbbgciaaGreatDoor
