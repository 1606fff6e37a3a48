import Derived.Test.YtfpgjkbjbbgciaaGreatDoorMa48
namespace Go.Proofs.YtfpgjkbjbbgciaaGreatDoor
open Go.RowKit Sp Go.WideMaps Go.Maps

theorem left_next {E : List (ByteArray × Nat)} (hpw : E.Pairwise (fun a b => eqW a.1 b.1 = false)) {left : Lit → Bool} {x : ByteArray} {p n : Nat} (hf : findE E x = some p) (hp : ¬ p = n) (h : ∀ q ∈ E, left (.string q.1.data.toList) = false → ¬ q.2 = n) :
    ∀ q ∈ E, (left (.string q.1.data.toList) && !(Lit.string q.1.data.toList).sameKey (.string x.data.toList)) = false → ¬ q.2 = n := by
  intro q hq hl
  rw [Bool.and_eq_false_iff] at hl
  rcases hl with hl | hl
  · exact h q hq hl
  · have e : q.1.data.toList = x.data.toList := by
      have := WideAt.sameKey_eq (show (Lit.string q.1.data.toList).sameKey (.string x.data.toList) = true by simpa using hl)
      simpa using this
    rw [findE_only E hpw x p hf q hq ((eqW_iff _ _).2 e)]
    exact hp

set_option maxRecDepth 100000 in
set_option maxHeartbeats 4000000 in
theorem fends_any (w : World) (B m : Nat) (name : ByteArray) (line : Int) (bv : Value) (E : List (ByteArray × Nat)) (its : List It) (hM : MapIs w m E) (hbo : w.ownsRow B 135 8 bv its.length (stmCells its)) (hn : its.length ≤ 300) :
    Calls Tryz.prog 105 #[.agg #[.string name, .int .i64 line, bv, .map (some m)]] w fun e w' => e = .returned (.bool (E.all (fun p => !decide (p.2 = its.length)) && lastEnds its)) ∧ Below w.heap.size w w' := by
  obtain ⟨D, hown, hD, hhas, hat0, hpw⟩ := hM
  have hlt := hown.lt
  obtain ⟨ao, capb, rfl⟩ := slice_of hbo
  have hne : ¬ w.heap.size = m := by omega
  have hbox : (w.alloc (.cells #[.string name, .int .i64 line, .slice ao its.length capb, .map (some m)] 131)).cell? ⟨w.heap.size, 2, none⟩ = some (.slice ao its.length capb) := World.cell?_alloc_new (w := w) #[.string name, .int .i64 line, .slice ao its.length capb, .map (some m)] 131 2
  have hb0 : Below w.heap.size w (w.alloc (.cells #[.string name, .int .i64 line, .slice ao its.length capb, .map (some m)] 131)) := (Below.refl _ _).alloc (Nat.le_refl _) _
  have hsz0 : (w.alloc (.cells #[.string name, .int .i64 line, .slice ao its.length capb, .map (some m)] 131)).heap.size = w.heap.size + 1 := by simp
  go_enter Tryz.func105, Tryz.ntmps105
  go_wp2_with (first
    | (at_range; refine wpList_range_own _ rfl _ 81 rfl 9 3 lawS Tryz.under81 _ m E.length _ rfl (hown.alloc _) ?_; intro w0 hrg0 hg0 hs0))
  rw [hsz0] at hrg0 hs0 ⊢
  generalize w.alloc (.cells #[.string name, .int .i64 line, .slice ao its.length capb, .map (some m)] 131) = W1 at hbox hb0 hsz0 hg0
  have hbx : w0.cell? ⟨w.heap.size, 2, none⟩ = some (.slice ao its.length capb) := (hg0.cell_far _ (by simp; omega) (by simp)).trans hbox
  have hb1 : Below w.heap.size w w0 := hb0.trans (((Below.refl w.heap.size W1).grown hg0 (by omega) (fun j hj => by cases hj)))
  go_frame
  go_loopw [4] (fun _ wr => ∃ (left : Lit → Bool) (cnt : Nat), wr.ranges Tryz.prog 9 (plainElem Tryz.prog 3) m (w.heap.size + 1) E.length D left cnt ∧ w0.grownBy wr (some (w.heap.size + 1)) ∧ (∀ p ∈ E, left (.string p.1.data.toList) = false → ¬ p.2 = its.length))
    (fun _ wr => wr.rangeLeft m (w.heap.size + 1))
  case atStart =>
    refine ⟨_, _, hrg0, ⟨rfl, rfl, rfl, Nat.le_refl _, fun _ _ _ => rfl⟩, fun p hp hl => ?_⟩
    rw [hhas p.1, List.any_eq_false] at hl
    have := hl p.1 (List.mem_map_of_mem hp)
    rw [(eqW_iff _ _).2 rfl] at this
    simp at this
  case round =>
    obtain ⟨left, cnt, hrg, hgw, hno⟩ := hrel
    have hbr : wr.cell? ⟨w.heap.size, 2, none⟩ = some (.slice ao its.length capb) := (hgw.cell_far _ (by simp; omega) (by simp)).trans hbx
    have hbw : Below w.heap.size w wr := hb1.trans ((Below.refl w.heap.size w0).grown hgw (by omega) (fun j hj => by cases hj; omega))
    go_wp2_with (first
      | (at_next; refine wpList_next_ranges _ rfl _ rfl 9 lawS (plainElem Tryz.prog 3) Value.string (Value.int .i64) (fun key kl hk => by obtain ⟨x, hx, _⟩ := string_of_keyOf Tryz.underlying9 hk; exact ⟨x, hx⟩) (fun v y hv => by obtain ⟨c, rfl, _⟩ := plainElem_int_inv Tryz.underlying3 hv; exact ⟨c, rfl⟩) m (w.heap.size + 1) E.length _ _ _ rfl hrg ?_ ?_))
    · intro _ hl0
      have HA : Hid (E.all (fun p => !decide (p.2 = its.length)) = true) := size_of_any E _ (fun p hp => hno p hp (hl0 _))
      clear hl0 hno hrg hgw hhas hat0 hpw hown hD
      rcases List.eq_nil_or_concat its with rfl | ⟨I, i, hI⟩
      · simp only [List.length_nil] at hbr
        go_wp2
        go_ret
        exact ⟨by simp [lastEnds], hbw⟩
      · rw [List.concat_eq_append] at hI
        subst hI
        obtain ⟨bg, capb', hbv, _, hbg, hst⟩ := stms_at hbo (by simp)
        simp only [Value.slice.injEq, true_and] at hbv
        obtain ⟨rfl, rfl⟩ := hbv
        have hs := hst I.length (by simp)
        have hil : (I ++ [i]).length = I.length + 1 := by simp
        rw [hil] at hbr hn
        simp only [List.getElem_append_right (Nat.le_refl _), Nat.sub_self, List.getElem_cons_zero] at hs
        obtain ⟨d0, d1, d2, d3, d4, d5, d6, d7⟩ := hs
        have z : ∀ j, wr.cell? ⟨bg, j, none⟩ = w.cell? ⟨bg, j, none⟩ := fun j => hbw.cell (p := ⟨bg, j, none⟩) hbg
        rw [← z] at d0 d1 d2 d3 d4 d5 d6 d7
        have hwrap : IntKind.i64.wrap (I.length : Int) = (I.length : Int) := wrap_small _ (by omega) (by omega)
        have hf3 : (0 : Int) < (I.length : Int) + 1 := by omega
        have hf4 : (0 : Int) ≤ (I.length : Int) := by omega
        have hf5 : (I.length : Int) < (I.length : Int) + 1 := by omega
        have hcall := fun W => mayEnd_any i.sort i.line i.word i.a i.b i.c i.n i.nm W
        have HL : Hid (lastEnds (I ++ [i]) = ends i.word) := lastEnds_snoc I i
        clear z hst hbo hil
        go_wp2_with (first | (go_at_call 132; refine (hcall _).mono ?_; rintro e w2 ⟨rfl, hb2⟩))
        go_ret
        refine ⟨?_, hbw.trans (hb2.mono hbw.size)⟩
        rw [HA.out, HL.out]; simp
    · intro x c kl yd yp w1 cnt1 hkey hlk hv hat hrg1 hlt1 hg1 hs1 hen
      obtain ⟨x', ex, rfl, _⟩ := string_of_keyOf Tryz.underlying9 hkey
      cases ex
      obtain ⟨c', ec, ey, _⟩ := plainElem_int_inv Tryz.underlying3 hv
      cases ec
      have hh := has_true_of_atKey hat
      rw [hhas x] at hh
      obtain ⟨p, hp⟩ := findE_some E x hh
      have hc : c = (p : Int) := by
        have h1 := hat0 x p (.lit (.int .i64 0)) hp
        rw [hat] at h1
        cases ey
        simpa using h1
      subst hc
      clear hs1
      have hb11 : w1.cell? ⟨w.heap.size, 2, none⟩ = some (.slice ao its.length capb) := (hg1.cell_far _ (by simp; have := hbw.size; have := hg0.size; have := hgw.size; omega) (by simp)).trans hbr
      by_cases hpn : p = its.length
      · have hpn' : ((p : Int) == (its.length : Int)) = true := by simp; omega
        obtain ⟨q, hq, hq2, _⟩ := findE_mem E x p hp
        have HA : Hid (E.all (fun p => !decide (p.2 = its.length)) = false) := some_of_any E _ q hq (hq2.trans hpn)
        have hb12 : Below w.heap.size w w1 := hbw.trans ((Below.refl w.heap.size wr).grown hg1 hbw.size (fun j hj => by cases hj; omega))
        clear hno hrg hrg1 hgw hhas hat0 hpw hown hD hat
        go_wp2
        go_ret
        exact ⟨by rw [HA.out]; rfl, hb12⟩
      · have hpn' : ((p : Int) == (its.length : Int)) = false := by simp; omega
        go_wp2
        go_roundw
        case rel => exact ⟨_, cnt1, hrg1, hgw.andThen hg1 (fun j hj => by cases hj; exact Or.inr rfl), left_next hpw hp hpn hno⟩
        case measure => rw [hrg1.left_eq, hrg.left_eq]; exact hlt1

set_option maxRecDepth 100000 in
set_option maxHeartbeats 8000000 in
theorem cends_any (w : World) (B pm : Nat) (v : Value) (F : List FnM) (h : PIn B w pm v F) (hF : 0 < F.length) (hn : F.length ≤ 300) (hb : ∀ f ∈ F, f.its.length ≤ 300 ∧ ∀ i ∈ f.its, ItOk i) :
    Calls Tryz.prog 70 #[.agg #[v, .map (some pm)]] w (EndPost w (F.map FnM.fn)) := by
  obtain ⟨fg, cap, rfl, hfg, hcap, hcells⟩ := h.fns hF
  go_enter Tryz.func70, Tryz.ntmps70
  go_wp2
  go_loopw [7] (fun ti wr => ∃ (k : Nat), k ≤ F.length ∧ ti = .int .i64 (k : Int) ∧ Below w.heap.size w wr ∧ endK (F.map FnM.fn) = endK ((F.map FnM.fn).drop k)) (fun ti _ => F.length - (intOf ti).toNat)
  case atStart => exact ⟨0, by omega, rfl, (Below.refl _ _).alloc (Nat.le_refl _) _, rfl⟩
  case round =>
    obtain ⟨k, hk, rfl, hbw, hE⟩ := hrel
    have HE : Hid (endK (F.map FnM.fn) = endK ((F.map FnM.fn).drop k)) := hE
    clear hE
    have hszr := hbw.size
    by_cases hlt : k < F.length
    · obtain ⟨c0, c1, c2, c3⟩ := hcells k hlt
      have hmem := List.getElem_mem hlt
      have HD : Hid (endK (F.map FnM.fn) = if endsM F[k].its = true then endK ((F.map FnM.fn).drop (k + 1)) else some F[k].line) := by
        unfold Hid; rw [HE.out, endK_drop _ k (by simpa using hlt), ends_two _ (hb F[k] hmem).2]; simp [FnM.fn]
      have hbo := (h.bodies F[k] hmem)
      have hla := (h.labels F[k] hmem)
      have hbl := Nat.le_trans (insOf_len F[k].its) (hb F[k] hmem).1
      generalize F[k] = f at c0 c1 c2 c3 hmem HD hbo hbl hla
      have z : ∀ j, wr.cell? ⟨fg, j, none⟩ = w.cell? ⟨fg, j, none⟩ := fun j => hbw.cell (p := ⟨fg, j, none⟩) hfg
      rw [← z] at c0 c1 c2 c3
      clear z
      have hk4 : k * 4 ≤ 1200 := by omega
      obtain ⟨name, line, its, bv, m⟩ := f
      simp only at c0 c1 c2 c3 hbo hbl HD hla
      have hbo2 := own_of_block (w' := wr) hbo (fun g hg => hbw.block g (hbo.lt g hg).2)
      have hla2 := hla.below hbw hla.lt
      obtain ⟨ao, capb, rfl⟩ := slice_of hbo
      have hcall := fends_any (wr.alloc (.cells #[.string name, .int .i64 line, .slice ao (insOf its).length capb, .map (some m)] 131)) B m name line _ _ _ (hla2.alloc _) (hbo2.alloc _) hbl
      have hM : Hid (((labsAt its).all (fun p => !decide (p.2 = (insOf its).length)) && lastEnds (insOf its)) = endsM its) := rfl
      rw [hM.out] at hcall
      clear hbo hbo2 hla hla2 hM
      cases hend : endsM its with
      | false =>
        rw [hend] at HD hcall
        go_wp2_with (first | (go_at_call 105; refine hcall.mono ?_; rintro e w2 ⟨rfl, hb2⟩; have hq1 := (box_four hb2).1) | (go_at_call 79; refine (raise_any _ _ _).mono ?_; rintro e wx ⟨rfl, hww⟩; subst hww))
        exact ⟨rfl, hbw.trans ((one_box _ _ hb2).mono (by omega)), .inl ⟨_, HD.out, rfl⟩⟩
      | true =>
        rw [hend] at HD hcall
        go_wp2_with (first | (go_at_call 105; refine hcall.mono ?_; rintro e w2 ⟨rfl, hb2⟩; have hq1 := (box_four hb2).1))
        have hb12 := hbw.trans ((one_box _ _ hb2).mono (by omega))
        clear hb2
        go_roundw
        case rel => exact ⟨k + 1, by omega, by go_num, hb12, HD.out⟩
        case measure => simp [intOf]; omega
    · have HX : Hid (k = F.length) := by unfold Hid; omega
      go_wp2
      go_end0
      refine ⟨hbw, .inr ⟨?_, rfl⟩⟩
      rw [HE.out, HX.out, List.drop_of_length_le (by simp)]; rfl

end Go.Proofs.YtfpgjkbjbbgciaaGreatDoor
