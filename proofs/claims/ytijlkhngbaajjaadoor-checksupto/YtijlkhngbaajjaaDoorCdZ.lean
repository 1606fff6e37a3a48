import Derived.Test.YtijlkhngbaajjaaDoorCdY
namespace Go.Proofs.YtijlkhngbaajjaaDoor
open Go.RowKit Sp

/-- Where the functions lie. -/
theorem PIn.fns {B : Nat} {w : World} {pm : Nat} {v : Value} {F : List FnM} (h : PIn B w pm v F) (hF : 0 < F.length) :
    ∃ fg cap, v = .slice (some ⟨fg, 0, none⟩) F.length cap ∧ fg < w.heap.size ∧ F.length ≤ cap ∧ ∀ k (hk : k < F.length),
      w.cell? ⟨fg, k * 4, none⟩ = some (.string F[k].name) ∧ w.cell? ⟨fg, k * 4 + 1, none⟩ = some (.int .i64 F[k].line) ∧ w.cell? ⟨fg, k * 4 + 2, none⟩ = some F[k].bv ∧ w.cell? ⟨fg, k * 4 + 3, none⟩ = some (.map (some F[k].m)) := by
  have hrow := h.row
  obtain ⟨fg, cap, hv, _, hlt⟩ := hrow.form hF
  subst hv
  have hcap : F.length ≤ cap := by
    rcases hrow.2 with ⟨h', _⟩ | ⟨g', cap', cur, h', _, _, hnc, _⟩
    · simp at h'
    · simp at h'; omega
  refine ⟨fg, cap, rfl, hlt, hcap, fun k hk => ?_⟩
  have c : ∀ j, j < 4 → w.cell? ⟨fg, k * 4 + j, none⟩ = F[k].cells[j]? := fun j hj => by
    rw [World.ownsRow.cellAt hrow (k * 4 + j) (by omega), fnCells_at F k hk j hj]
  exact ⟨c 0 (by omega), c 1 (by omega), c 2 (by omega), c 3 (by omega)⟩

def EndPost (w : World) (F : List Fn) : Ending → World → Prop := fun e w' =>
  Below w.heap.size w w' ∧ ((∃ l, endK F = some l ∧ e = refusal 5 l) ∨ (endK F = none ∧ e = .returned (.tuple #[])))
theorem endK_drop (F : List Fn) (k : Nat) (h : k < F.length) : endK (F.drop k) = if endsK F[k].body = true then endK (F.drop (k + 1)) else some F[k].line := by
  rw [List.drop_eq_getElem_cons h]
  rfl
theorem box_four {wr w2 : World} {a b c d : Value} (hb : Below (wr.alloc (.cells #[a, b, c, d] 66)).heap.size (wr.alloc (.cells #[a, b, c, d] 66)) w2) :
    w2.cell? ⟨wr.heap.size, 1, none⟩ = some b ∧ w2.cell? ⟨wr.heap.size, 2, none⟩ = some c ∧ w2.cell? ⟨wr.heap.size, 3, none⟩ = some d := by
  have h := World.cell?_alloc_new (w := wr) #[a, b, c, d] 66
  refine ⟨?_, ?_, ?_⟩
  · rw [hb.cell (by simp)]; exact h 1
  · rw [hb.cell (by simp)]; exact h 2
  · rw [hb.cell (by simp)]; exact h 3
theorem endsK_snoc (b : List Key) (k : Key) : endsK (b ++ [k]) = ends k.word := by simp [endsK]

set_option maxRecDepth 100000 in
set_option maxHeartbeats 8000000 in
theorem cends_any (w : World) (B pm : Nat) (v : Value) (F : List FnM) (h : PIn B w pm v F) (hF : 0 < F.length) (hn : F.length ≤ 300) (hb : ∀ f ∈ F, f.its.length ≤ 300) :
    Calls Tryd.prog 20 #[.agg #[v, .map (some pm)]] w (EndPost w (F.map FnM.fn)) := by
  obtain ⟨fg, cap, rfl, hfg, hcap, hcells⟩ := h.fns hF
  go_enter Tryd.func20, Tryd.ntmps20
  go_wp2
  go_loopw [7] (fun ti wr => ∃ (k : Nat), k ≤ F.length ∧ ti = .int .i64 (k : Int) ∧ Below w.heap.size w wr ∧ endK (F.map FnM.fn) = endK ((F.map FnM.fn).drop k)) (fun ti _ => F.length - (intOf ti).toNat)
  case atStart => exact ⟨0, by omega, rfl, (Below.refl _ _).alloc (Nat.le_refl _) _, rfl⟩
  case round =>
    obtain ⟨k, hk, rfl, hbw, hE⟩ := hrel
    have HE : Hid (endK (F.map FnM.fn) = endK ((F.map FnM.fn).drop k)) := hE
    clear hE
    have hszr := hbw.size
    by_cases hlt : k < F.length
    · obtain ⟨c0, c1, c2, c3⟩ := hcells k hlt
      have hmem := List.getElem_mem hlt
      have HD : Hid (endK (F.map FnM.fn) = if endsK (F[k].its.map It.key) = true then endK ((F.map FnM.fn).drop (k + 1)) else some F[k].line) := by
        unfold Hid; rw [HE.out, endK_drop _ k (by simpa using hlt)]; simp [FnM.fn]
      have hbo := h.bodies F[k] hmem
      have hbl := hb F[k] hmem
      generalize F[k] = f at c0 c1 c2 c3 hmem HD hbo hbl
      have z : ∀ j, wr.cell? ⟨fg, j, none⟩ = w.cell? ⟨fg, j, none⟩ := fun j => hbw.cell (p := ⟨fg, j, none⟩) hfg
      rw [← z] at c0 c1 c2 c3
      clear z
      have hk4 : k * 4 ≤ 1200 := by omega
      obtain ⟨name, line, its, bv, m⟩ := f
      simp only at c0 c1 c2 c3 hbo hbl HD
      rcases List.eq_nil_or_concat its with rfl | ⟨I, i, hI⟩
      · obtain ⟨ao, capb, rfl⟩ := slice_of hbo
        have HX : Hid (endK (F.map FnM.fn) = some line) := HD.out
        clear HD hbo
        simp only [List.length_nil] at c2
        go_wp2_with (go_at_call 30; refine (raise_any _ _ _).mono ?_; rintro e wx ⟨rfl, hww⟩; subst hww)
        exact ⟨rfl, hbw.alloc (by omega) _, .inl ⟨_, HX.out, rfl⟩⟩
      · rw [List.concat_eq_append] at hI
        subst hI
        have HX : Hid (endK (F.map FnM.fn) = if ends i.word = true then endK ((F.map FnM.fn).drop (k + 1)) else some line) := by
          unfold Hid; rw [HD.out, List.map_append]; rw [show [i].map It.key = [i.key] from rfl, endsK_snoc]; rfl
        obtain ⟨bg, capb, rfl, _, hbg, hst⟩ := stms_at hbo (by simp)
        have hs := hst I.length (by simp)
        have hil : (I ++ [i]).length = I.length + 1 := by simp
        rw [hil] at c2 hbl
        simp only [List.getElem_append_right (Nat.le_refl _), Nat.sub_self, List.getElem_cons_zero] at hs
        obtain ⟨d0, d1, d2, d3, d4, d5, d6, d7⟩ := hs
        have z : ∀ j, wr.cell? ⟨bg, j, none⟩ = w.cell? ⟨bg, j, none⟩ := fun j => hbw.cell (p := ⟨bg, j, none⟩) hbg
        rw [← z] at d0 d1 d2 d3 d4 d5 d6 d7
        have hblt : bg < wr.heap.size := by omega
        have hz0 : ((I.length : Int) + 1 == 0) = false := by simp; omega
        have hne1 : ¬ wr.heap.size = bg := by omega
        have hne2 : ¬ bg = wr.heap.size := by omega
        have hwrap : IntKind.i64.wrap (I.length : Int) = (I.length : Int) := wrap_small _ (by omega) (by omega)
        have hf4 : (0 : Int) ≤ (I.length : Int) := by omega
        have hf5 : (I.length : Int) < (I.length : Int) + 1 := by omega
        have hcall := fun W => mayEnd_any i.sort i.line i.word i.a i.b i.c i.n i.nm W
        clear z hst hbo HD hil
        cases hend : ends i.word with
        | false =>
          rw [hend] at HX hcall
          go_wp2_with (first | (go_at_call 39; refine (hcall _).mono ?_; rintro e w2 ⟨rfl, hb2⟩; have hq1 := (box_four hb2).1) | (go_at_call 30; refine (raise_any _ _ _).mono ?_; rintro e wx ⟨rfl, hww⟩; subst hww))
          exact ⟨rfl, hbw.trans ((one_box _ _ hb2).mono (by omega)), .inl ⟨_, HX.out, rfl⟩⟩
        | true =>
          rw [hend] at HX hcall
          go_wp2_with (first | (go_at_call 39; refine (hcall _).mono ?_; rintro e w2 ⟨rfl, hb2⟩; have hq1 := (box_four hb2).1))
          have hb12 := hbw.trans ((one_box _ _ hb2).mono (by omega))
          clear hb2
          go_roundw
          case rel => exact ⟨k + 1, by omega, by go_num, hb12, HX.out⟩
          case measure => simp [intOf]; omega
    · have HX : Hid (k = F.length) := by unfold Hid; omega
      go_wp2
      go_end0
      refine ⟨hbw, .inr ⟨?_, rfl⟩⟩
      rw [HE.out, HX.out, List.drop_of_length_le (by simp)]; rfl

end Go.Proofs.YtijlkhngbaajjaaDoor
