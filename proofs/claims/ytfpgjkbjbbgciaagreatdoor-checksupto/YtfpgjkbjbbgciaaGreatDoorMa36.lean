import Derived.Test.YtfpgjkbjbbgciaaGreatDoorMa35
namespace Go.Proofs.YtfpgjkbjbbgciaaGreatDoor
open Go.RowKit Sp

set_option maxRecDepth 100000 in
set_option maxHeartbeats 8000000 in
theorem csts_any (s : ByteArray) (w : World) (hw : LibW w) (h4 : s.size ≤ 4000) (h3 : (lines s).length ≤ 300) :
    Calls Tryz.prog 66 #[.string s] w (StsPost w (lines s)) := by
  obtain ⟨i0, hi, hz0, hz1, hz2⟩ := info_parts Tryz.info135
  obtain ⟨mm, hmm⟩ := hw.most
  have hcall := Tryz.strings_Split s ⟨#[10]⟩ mm w (by omega) hmm (by decide)
  rw [split_lines, (count_lines s).2] at hcall
  have hsz := lines_sizes s
  have hlow := hw.low
  generalize lines s = A at h3 hsz hcall ⊢
  have hw1 : LibW (w.alloc (.cells (A.map Value.string).toArray 9)) := hw.below ((Below.refl _ _).alloc (Nat.le_refl _) _)
  have hcell1 : ∀ k (h : k < A.length), (w.alloc (.cells (A.map Value.string).toArray 9)).cell? ⟨w.heap.size, k, none⟩ = some (.string A[k]) := by
    intro k h
    rw [World.cell?_alloc_new]
    simp [h]
  have hb1 : Below w.heap.size w (w.alloc (.cells (A.map Value.string).toArray 9)) := (Below.refl _ _).alloc (Nat.le_refl _) _
  have hz1w : (w.alloc (.cells (A.map Value.string).toArray 9)).heap.size = w.heap.size + 1 := by simp
  go_enter Tryz.func66, Tryz.ntmps66
  go_wp2_with (go_at_call 97; refine hcall.mono ?_; rintro e wx ⟨rfl, hww⟩; subst hww)
  clear hcall
  generalize w.alloc (.cells (A.map Value.string).toArray 9) = W1 at hw1 hcell1 hb1 hz1w
  go_loopw [3, 10] (fun v ti wr => ∃ (k : Nat) (its : List It), k ≤ A.length ∧ its.length ≤ k ∧ ti = .int .i64 (k : Int) ∧ wr.ownsRow (w.heap.size + 1) 135 8 v its.length (stmCells its) ∧ its.map It.key = keysTo A k ∧ Below (w.heap.size + 1) W1 wr ∧ sayAt A 0 = sayAt A k ∧ (∀ j (h : j < A.length), j < k → (say A[j]).ok = true)) (fun _ ti _ => A.length - (intOf ti).toNat)
  case atStart => exact ⟨0, [], by omega, by simp, rfl, World.ownsRow_nil _ _ _ _, rfl, Below.refl _ _, rfl, fun j _ h => by omega⟩
  case round =>
    obtain ⟨k, its, hk, hits, rfl, hown, hkeys, hnx, hR, hoks⟩ := hrel
    have HR : Hid (sayAt A 0 = sayAt A k) := hR
    have HK : Hid (its.map It.key = keysTo A k) := hkeys
    have HOK : Hid (∀ j (h : j < A.length), j < k → (say A[j]).ok = true) := hoks
    clear hR hkeys hoks
    have hszr := hnx.size
    have hbw : Below w.heap.size w wr := hb1.trans (hnx.mono (by omega))
    have hwr := hw.below hbw
    by_cases hlt : k < A.length
    · have hck := (hnx.cell (p := ⟨w.heap.size, k, none⟩) (by simp)).trans (hcell1 k hlt)
      have hAs : A[k].size ≤ 1048576 := by have := hsz A[k] (List.getElem_mem hlt); omega
      have HBAD : Hid ((say A[k]).ok = false → sayAt A 0 = (1, (k : Int) + 1)) := fun h => HR.out.trans (sayAt_bad A k hlt h)
      have HON : Hid ((say A[k]).ok = true → sayAt A 0 = sayAt A (k + 1)) := fun h => HR.out.trans (sayAt_on A k hlt h)
      have HOK1 : Hid ((say A[k]).ok = true → ∀ j (h : j < A.length), j < k + 1 → (say A[j]).ok = true) := fun h j hj hjk => by
        by_cases e : j = k
        · subst e; exact h
        · exact HOK.out j hj (by omega)
      cases hv : validAt A[k] 0 with
      | false =>
        have HB := HBAD.out (say_invalid _ hv)
        have HB2 : Hid (sayAt A 0 = (1, (k : Int) + 1)) := HB
        clear HB
        go_wp2_with (go_at_call 98; refine (cwords_bad A[k] _ wr hwr hAs hv).mono ?_; rintro e w2 ⟨rfl, hb2⟩)
        exact ⟨rfl, hbw.trans (hb2.mono hbw.size), .inl ⟨k, HB2.out, rfl⟩⟩
      | true =>
        cases hl : words A[k] with
        | nil =>
          have hsay := say_empty _ hv hl
          have HN : Hid (sayAt A 0 = sayAt A (k + 1) ∧ keysTo A (k + 1) = keysTo A k ∧ ∀ j (h : j < A.length), j < k + 1 → (say A[j]).ok = true) :=
            ⟨HON.out (by rw [hsay]), keysTo_skip A k hlt (by rw [hsay]), HOK1.out (by rw [hsay])⟩
          have HL : Hid (words A[k] = []) := hl
          clear hsay hl
          go_wp2_with (go_at_call 98; refine (cwords_none A[k] _ wr hwr hAs hv HL).mono ?_; rintro e w2 ⟨ao, cap, rfl, hb2⟩)
          have hown2 := own_below hown hb2 (Nat.le_refl _)
          have hb12 := hnx.trans (hb2.mono (by omega))
          clear hb2
          go_roundw
          case rel => exact ⟨k + 1, its, by omega, by omega, by go_num, hown2, by rw [HN.out.2.1]; exact HK.out, hb12, HN.out.1, HN.out.2.2⟩
          case measure => simp [intOf]; omega
        | cons x r =>
          have hws := words_sizes A[k]
          have hwl := words_len A[k]
          rw [hl] at hws hwl
          have hws2 : ∀ y ∈ (x :: r : List ByteArray), 1 ≤ y.size ∧ y.size ≤ 1048576 := fun y hy => by have := hws y hy; omega
          have hrn : r.length ≤ 1048576 := by simp at hwl; omega
          have hsay := say_words _ hv
          rw [hl] at hsay
          have hkd := sayW_kind x r
          have HADD : Hid (keysTo A (k + 1) = keysTo A k ++ [keyQ (say A[k]) ((k : Int) + 1)]) := keysTo_add A k hlt (by rw [hsay]; exact hkd)
          rw [hsay] at HBAD HON HOK1 HADD
          have HL : Hid (words A[k] = x :: r) := hl
          generalize hq : sayW (x :: r) = q at HBAD HON HOK1 HADD
          have HQ : Hid (sayW (x :: r) = q) := hq
          clear hq hsay hkd hl hws hwl
          cases hok : q.ok with
          | false =>
            have HB2 : Hid (sayAt A 0 = (1, (k : Int) + 1)) := HBAD.out hok
            go_wp2_with (first
              | (go_at_call 98; refine (cwords_some A[k] _ wr hwr hAs hv _ HL (by simp)).mono ?_; rintro e w2 ⟨g, cap, rfl, hg, hwi, hb2⟩; have hw2 := hwr.below hb2)
              | (go_at_call 99; refine (cstm_refused w2 hw2 g cap x r _ hwi hws2 hrn q HQ hok).mono ?_; rintro e w3 ⟨rfl, hb3⟩))
            exact ⟨rfl, (hbw.trans (hb2.mono hbw.size)).trans (hb3.mono (by have := hbw.size; have := hb2.size; omega)), .inl ⟨k, HB2.out, rfl⟩⟩
          | true =>
            have HN : Hid (sayAt A 0 = sayAt A (k + 1) ∧ ∀ j (h : j < A.length), j < k + 1 → (say A[j]).ok = true) := ⟨HON.out hok, HOK1.out hok⟩
            go_wp2_with (first
              | (go_at_call 98; refine (cwords_some A[k] _ wr hwr hAs hv _ HL (by simp)).mono ?_; rintro e w2 ⟨g, cap, rfl, hg, hwi, hb2⟩; have hw2 := hwr.below hb2; have hown2 := own_below hown hb2 (Nat.le_refl _); have hs2 := hb2.size)
              | (go_at_call 99; refine (cstm_good w2 hw2 g cap x r _ hwi hws2 hrn q HQ hok).mono ?_; rintro e w3 ⟨rfl, hb3⟩; have hown3 := own_below hown2 hb3 (Nat.le_refl _); have hs3 := hb3.size)
              | (at_builtin; refine wpList_append_own _ rfl _ _ 116 rfl (w.heap.size + 1) 135 i0 (.agg #[.int .i64 0, .int .i64 0, .string ByteArray.empty, .int .i64 0, .int .i64 0, .int .i64 0, .int .i64 0, .string ByteArray.empty]) 8 80 Tryz.under116 hi hz0 hz1 hz2 rfl (by decide) _ _ _ rfl (hown3.alloc _) ⟨w3.heap.size, 0, none⟩ 1 1 (It.cells ⟨sortK q, (k : Int) + 1, wordK q, nameQ q, (opQ q).a, (opQ q).b, (opQ q).c, (opQ q).n⟩) rfl rfl (eight_cells _ _ _ _ _ _ _ _ _ _) (eight_one _) (by unfold maxLen; omega) (by omega) (by simp; omega) ?_))
            intro v' w4 hown4 hgrow _
            have hb4 : Below (w.heap.size + 1) W1 w4 := (((hnx.trans (hb2.mono (by omega))).trans (hb3.mono (by omega))).alloc (by omega) _).grown hgrow (by simp; omega) (fun j hj => (hown3.lt j hj).1)
            clear hgrow hown3 hown2 hwi hw2
            go_wp2
            go_roundw
            case rel => exact ⟨k + 1, its ++ [⟨sortK q, (k : Int) + 1, wordK q, nameQ q, (opQ q).a, (opQ q).b, (opQ q).c, (opQ q).n⟩], by omega, by simp; omega, by go_num, by rw [stmCells_snoc]; simpa using hown4, by rw [List.map_append, HK.out, HADD.out]; rfl, hb4, HN.out.1, HN.out.2⟩
            case measure => simp [intOf]; omega
    · have HE : Hid (sayAt A 0 = startAt (A.map say) 0) := HR.out.trans (sayAt_end A k hlt)
      have HKA : Hid (k = A.length) := by unfold Hid; omega
      go_wp2
      go_ret
      refine ⟨hbw, .inr ⟨HE.out, fun x hx => ?_, _, its, rfl, own_mono hown (by omega), by rw [HK.out, HKA.out]⟩⟩
      obtain ⟨j, hj, rfl⟩ := List.mem_iff_getElem.1 hx
      exact HOK.out j hj (by have := HKA.out; omega)

end Go.Proofs.YtfpgjkbjbbgciaaGreatDoor
