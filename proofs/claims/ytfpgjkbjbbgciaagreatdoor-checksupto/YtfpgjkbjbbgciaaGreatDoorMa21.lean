import Derived.Test.YtfpgjkbjbbgciaaGreatDoorMa20
import Derived.Test.YtfpgjkbjbbgciaaGreatDoorMa11
namespace Go.Proofs.YtfpgjkbjbbgciaaGreatDoor
open Go.RowKit Sp

/-- The lines of a program, as they lie in memory. -/
structure LinesIn (w : World) (g : Nat) (L : List Said) : Prop where
  kind : ∀ i (h : i < L.length), w.cell? ⟨g, i * 2, none⟩ = some (.int .u8 L[i].kind)
  words : ∀ i (h : i < L.length), 0 < L[i].kept.length → ∃ b c, w.cell? ⟨g, i * 2 + 1, none⟩ = some (.slice (some ⟨b, 0, none⟩) L[i].kept.length c) ∧ ∀ j (hj : j < L[i].kept.length), w.cell? ⟨b, j, none⟩ = some (.string L[i].kept[j])
  wf : ∀ i (h : i < L.length), Wf L[i]

theorem wf_kind {q : Said} (h : Wf q) : 0 ≤ q.kind ∧ q.kind ≤ 255 := by unfold Wf at h; omega

set_option maxRecDepth 100000 in
set_option maxHeartbeats 1000000 in
theorem owner_any (L : List Said) (g cap k : Nat) (w : World) (hL : LinesIn w g L) (hn : L.length ≤ 1048577) (hk : k < L.length) :
    Calls Tryz.prog 107 #[.slice (some ⟨g, 0, none⟩) L.length cap, .int .i64 (k : Int)] w fun e w' => e = .returned (.int .i64 (owner L k)) ∧ w' = w := by
  go_enter Tryz.func107, Tryz.ntmps107
  go_wp2
  go_loop [1] (fun t => ∃ j : Nat, j ≤ k + 1 ∧ t = .int .i64 ((j : Int) - 1) ∧ (j = 0 ∧ owner L k = -1 ∨ 1 ≤ j ∧ owner L k = owner L (j - 1))) (fun t => (intOf t + 1).toNat)
  case atStart => exact ⟨k + 1, by omega, by go_num, .inr ⟨by omega, rfl⟩⟩
  case round =>
    obtain ⟨j, hj, rfl, hR⟩ := hrel
    have HR : Hid (j = 0 ∧ owner L k = -1 ∨ 1 ≤ j ∧ owner L k = owner L (j - 1)) := hR
    clear hR
    by_cases h0 : j = 0
    · have HQ : Hid (owner L k = -1) := by rcases HR.out with h | h; exact h.2; omega
      subst h0
      go_wp2
      go_ret
      exact ⟨ret_int (by rw [HQ.out]), rfl⟩
    · obtain ⟨m, rfl⟩ : ∃ m, j = m + 1 := ⟨j - 1, by omega⟩
      have HQ : Hid (owner L k = owner L m) := by rcases HR.out with h | h; omega; exact h.2
      clear HR
      have hm : m < L.length := by omega
      have hc := hL.kind m hm
      have hb := wf_kind (hL.wf m hm)
      have ec : ((m + 1 : Nat) : Int) - 1 = (m : Int) := by omega
      rw [ec]
      cases h102 : (L[m].kind != 102) with
      | false =>
        have HZ : Hid (owner L m = m) := owner_is L m hm (by simpa using h102)
        go_wp2
        go_ret
        exact ⟨ret_int (by rw [HQ.out, HZ.out]), rfl⟩
      | true =>
        go_wp2
        go_round
        case rel =>
          refine ⟨m, by omega, rfl, ?_⟩
          cases m with
          | zero => exact .inl ⟨rfl, HQ.out.trans (owner_zero L hm (by simpa using h102))⟩
          | succ m => exact .inr ⟨by omega, HQ.out.trans (owner_succ L m hm (by simpa using h102))⟩
        case measure => simp [intOf]

theorem word_at (q : Said) (i : Nat) (h : i < q.kept.length) : q.word i = q.kept[i] := by
  unfold Said.word; rw [List.getElem?_eq_getElem h]; rfl
theorem wf_f {q : Said} (h : Wf q) (h' : (q.kind == 102) = true) : q.kept.length = 2 := by
  rw [beq_iff_eq] at h'; unfold Wf at h; omega
theorem wf_l {q : Said} (h : Wf q) (h' : (q.kind == 108) = true) : q.kept.length = 1 := by
  rw [beq_iff_eq] at h'; unfold Wf at h; omega
theorem wf_i {q : Said} (h : Wf q) (h' : (q.kind == 105) = true) : 1 ≤ q.kept.length ∧ q.kept.length ≤ 4 := by
  rw [beq_iff_eq] at h'; unfold Wf at h; omega
theorem isFn_no (q : Said) (x : ByteArray) (h : (q.kind == 102) = false) : isFn q x = false := by
  simp at h; simp [isFn, h]
theorem isFn_eq (q : Said) (x : ByteArray) (h : (q.kind == 102) = true) : isFn q x = eqW (q.word 1) x := by
  simp at h; simp [isFn, h]
theorem isLab_no (q : Said) (x : ByteArray) (h : (q.kind == 108) = false) : isLab q x = false := by
  simp at h; simp [isLab, h]
theorem isLab_eq (q : Said) (x : ByteArray) (h : (q.kind == 108) = true) : isLab q x = eqW (q.word 0) x := by
  simp at h; simp [isLab, h]

set_option maxRecDepth 100000 in
set_option maxHeartbeats 1000000 in
theorem fn_any (L : List Said) (g cap : Nat) (x : ByteArray) (w : World) (hL : LinesIn w g L) (hn : L.length ≤ 1048577) :
    Calls Tryz.prog 77 #[.slice (some ⟨g, 0, none⟩) L.length cap, .string x] w fun e w' => e = .returned (.int .i64 (fnFrom L x 0)) ∧ w' = w := by
  go_enter Tryz.func77, Tryz.ntmps77
  go_wp2
  go_loop [5] (fun t => ∃ j : Nat, j ≤ L.length ∧ t = .int .i64 (j : Int) ∧ fnFrom L x 0 = fnFrom L x j) (fun t => L.length - (intOf t).toNat)
  case atStart => exact ⟨0, by omega, rfl, rfl⟩
  case round =>
    obtain ⟨j, hj, rfl, hR⟩ := hrel
    have HR : Hid (fnFrom L x 0 = fnFrom L x j) := hR
    clear hR
    by_cases hlt : j < L.length
    · have hc := hL.kind j hlt
      have hb := wf_kind (hL.wf j hlt)
      cases h102 : (L[j].kind == 102) with
      | false =>
        have HQ : Hid (fnFrom L x 0 = fnFrom L x (j + 1)) := HR.out.trans (fnFrom_on L x j hlt (isFn_no _ x h102))
        go_wp2
        go_round
        case rel => exact ⟨j + 1, by omega, by go_num, HQ.out⟩
        case measure => simp [intOf]; omega
      | true =>
        have h2 := wf_f (hL.wf j hlt) h102
        have hlen : 1 < L[j].kept.length := by omega
        obtain ⟨b, c, hw, hwc⟩ := hL.words j hlt (by omega)
        have hw1 := hwc 1 hlen
        clear hwc
        have hfe := isFn_eq L[j] x h102
        rw [word_at _ 1 hlen] at hfe
        have HF : Hid (isFn L[j] x = eqW (L[j].kept[1]) x) := hfe
        clear hfe
        rw [h2] at hw
        cases heq : ((L[j].kept[1]'hlen).toList == x.toList) with
        | true =>
          have HQ : Hid (fnFrom L x 0 = j) := HR.out.trans (fnFrom_hit L x j hlt (HF.out.trans heq))
          go_wp2
          go_ret
          exact ⟨ret_int (by rw [HQ.out]), rfl⟩
        | false =>
          have HQ : Hid (fnFrom L x 0 = fnFrom L x (j + 1)) := HR.out.trans (fnFrom_on L x j hlt (HF.out.trans heq))
          go_wp2
          go_round
          case rel => exact ⟨j + 1, by omega, by go_num, HQ.out⟩
          case measure => simp [intOf]; omega
    · have HQ : Hid (fnFrom L x 0 = -1) := HR.out.trans (fnFrom_end L x j hlt)
      go_wp2
      go_ret
      exact ⟨ret_int (by rw [HQ.out]), rfl⟩

set_option maxRecDepth 100000 in
set_option maxHeartbeats 1000000 in
theorem lab_any (L : List Said) (g cap k : Nat) (x : ByteArray) (w : World) (hL : LinesIn w g L) (hn : L.length ≤ 1048577) (hk : k < L.length) :
    Calls Tryz.prog 78 #[.slice (some ⟨g, 0, none⟩) L.length cap, .int .i64 (k : Int), .string x] w fun e w' => e = .returned (.int .i64 (labOf L k x)) ∧ w' = w := by
  have ho := owner_bd L k
  obtain ⟨m, hm⟩ : ∃ m : Nat, owner L k + 1 = (m : Int) := ⟨(owner L k + 1).toNat, by omega⟩
  have HM : Hid (owner L k + 1 = (m : Int)) := hm
  have HL : Hid (labOf L k x = labFrom L x m) := by unfold Hid labOf; rw [hm]; rfl
  have hml : m ≤ L.length := by omega
  go_enter Tryz.func78, Tryz.ntmps78
  go_wp2_with (go_at_call 107; refine (owner_any L g cap k _ hL hn hk).mono ?_; rintro e w' ⟨rfl, rfl⟩)
  go_loop [7] (fun t => ∃ j : Nat, j ≤ L.length ∧ t = .int .i64 (j : Int) ∧ labOf L k x = labFrom L x j) (fun t => L.length - (intOf t).toNat)
  case atStart => exact ⟨m, hml, by first | rfl | rw [HM.out], HL.out⟩
  case round =>
    obtain ⟨j, hj, rfl, hR⟩ := hrel
    have HR : Hid (labOf L k x = labFrom L x j) := hR
    clear hR hm HL HM
    by_cases hlt : j < L.length
    · have hc := hL.kind j hlt
      have hb := wf_kind (hL.wf j hlt)
      cases h102 : (L[j].kind != 102) with
      | false =>
        have HQ : Hid (labOf L k x = -1) := HR.out.trans (labFrom_f L x j hlt (by simpa using h102))
        go_wp2
        go_ret
        exact ⟨ret_int (by rw [HQ.out]), rfl⟩
      | true =>
        have hnf : ¬ L[j].kind = 102 := by simpa using h102
        have HNF : Hid (¬ L[j].kind = 102) := hnf
        clear hnf
        cases h108 : (L[j].kind == 108) with
        | false =>
          have HQ : Hid (labOf L k x = labFrom L x (j + 1)) := HR.out.trans (labFrom_on L x j hlt HNF.out (isLab_no _ x h108))
          go_wp2
          go_round
          case rel => exact ⟨j + 1, by omega, by go_num, HQ.out⟩
          case measure => simp [intOf]; omega
        | true =>
          have h2 := wf_l (hL.wf j hlt) h108
          have hlen : 0 < L[j].kept.length := by omega
          obtain ⟨b, c, hw, hwc⟩ := hL.words j hlt (by omega)
          have hw1 := hwc 0 hlen
          clear hwc
          have hfe := isLab_eq L[j] x h108
          rw [word_at _ 0 hlen] at hfe
          have HF : Hid (isLab L[j] x = eqW (L[j].kept[0]) x) := hfe
          clear hfe
          rw [h2] at hw
          cases heq : ((L[j].kept[0]'hlen).toList == x.toList) with
          | true =>
            have HQ : Hid (labOf L k x = j) := HR.out.trans (labFrom_hit L x j hlt HNF.out (HF.out.trans heq))
            go_wp2
            go_ret
            exact ⟨ret_int (by rw [HQ.out]), rfl⟩
          | false =>
            have HQ : Hid (labOf L k x = labFrom L x (j + 1)) := HR.out.trans (labFrom_on L x j hlt HNF.out (HF.out.trans heq))
            go_wp2
            go_round
            case rel => exact ⟨j + 1, by omega, by go_num, HQ.out⟩
            case measure => simp [intOf]; omega
    · have HQ : Hid (labOf L k x = -1) := HR.out.trans (labFrom_end L x j hlt)
      go_wp2
      go_ret
      exact ⟨ret_int (by rw [HQ.out]), rfl⟩

end Go.Proofs.YtfpgjkbjbbgciaaGreatDoor
