import Derived.Test.YtfpgjkbjbbgciaaGreatDoorMa10
import Derived.Lib.AtoiErrMem
namespace Go.Proofs.YtfpgjkbjbbgciaaGreatDoor
open Go.RowKit Sp

theorem trim_bare (l : List UInt8) : Lib.trimPrefix l [45] = bare l := by
  unfold Lib.trimPrefix Lib.hasPrefix bare
  match l with
  | [] => rfl
  | c :: r =>
    by_cases h : c = 45
    · subst h; simp [List.isPrefixOf]
    · have : (45 == c) = false := by simpa using fun e => h e.symm
      simp [List.isPrefixOf, this]
      split
      · rename_i heq; simp at heq; exact absurd heq.1 h
      · rfl
theorem bare_len (l : List UInt8) : (bare l).length ≤ l.length := by
  unfold bare; split <;> simp
theorem chr_low (s : ByteArray) (i : Nat) (h : bt s i < 128) : chr s i = (1, bt s i) := by unfold chr; rw [if_pos h]
theorem chr_high (s : ByteArray) (i : Nat) (h : ¬ bt s i < 128) (h0 : ¬ (chr s i).1 = 0) : 128 ≤ (chr s i).2 := by
  unfold chr at h0 ⊢
  rw [if_neg h] at h0 ⊢
  split at h0
  · rename_i hc
    rw [if_pos hc]
    rcases chrEnd_bd 2 128 (conts s (i + 1) 1 (bt s i - 192)) with h | ⟨v, _, h2, h3, _⟩
    · rw [h] at h0; exact absurd rfl h0
    · rw [h2]; exact h3
  · rename_i hc
    rw [if_neg hc]
    split at h0
    · rename_i hd
      rw [if_pos hd]
      rcases chrEnd_bd 3 2048 (conts s (i + 1) 2 (bt s i - 224)) with h | ⟨v, _, h2, h3, _⟩
      · rw [h] at h0; exact absurd rfl h0
      · rw [h2]; show 128 ≤ v; omega
    · rename_i hd
      rw [if_neg hd]
      split at h0
      · rename_i he
        rw [if_pos he]
        rcases chrEnd_bd 4 65536 (conts s (i + 1) 3 (bt s i - 240)) with h | ⟨v, _, h2, h3, _⟩
        · rw [h] at h0; exact absurd rfl h0
        · rw [h2]; show 128 ≤ v; omega
      · exact absurd rfl h0
theorem digits_at (t : ByteArray) (i : Nat) (h : i < t.size) : digitsB (t.data.toList.drop i) = (digitB (bt t i) && digitsB (t.data.toList.drop (i + 1))) := by
  obtain ⟨c, r, h1, h2, h3⟩ := bt_drop t i h
  rw [h1, ← h3, ← h2]
  simp only [digitsB, digitB]
  congr 1
  by_cases hc : 48 ≤ c.toNat ∧ c.toNat ≤ 57
  · have : (48 : Int) ≤ c.toNat ∧ (c.toNat : Int) ≤ 57 := by omega
    simp [hc, this]
  · have : ¬ ((48 : Int) ≤ c.toNat ∧ (c.toNat : Int) ≤ 57) := by omega
    simp only [hc, this]
def numVal (s : ByteArray) : Int := if (numOf s).2 = true then (numOf s).1 else 0

set_option maxRecDepth 100000 in
set_option maxHeartbeats 2000000 in
theorem cnum_any (s : ByteArray) (w : World) (hw : LibW w) (hs : s.size ≤ 1048576) :
    Calls Tryz.prog 166 #[.string s] w fun e w' => e = .returned (.tuple #[.int .i64 (numVal s), .bool (numOf s).2]) ∧ Below w.heap.size w w' := by
  have htrim := Tryz.strings_TrimPrefix s ⟨#[45]⟩ w
  rw [show (⟨#[45]⟩ : ByteArray).data.toList = [45] from rfl, trim_bare] at htrim
  have HN : Hid (digitsB (bare s.data.toList) = false → (numOf s).2 = false) := num_none s
  have HS : Hid (digitsB (bare s.data.toList) = true → (∀ v, Lib.parseIntB 64 s.data.toList = .ok v → numOf s = (v, true)) ∧ (Lib.parseIntB 64 s.data.toList = .«syntax» → (numOf s).2 = false) ∧ (Lib.parseIntB 64 s.data.toList = .range → (numOf s).2 = false)) := num_some s
  have htl : (bare s.data.toList).length ≤ s.size := by have := bare_len s.data.toList; simpa using this
  obtain ⟨t, ht⟩ : ∃ t : ByteArray, t = ⟨(bare s.data.toList).toArray⟩ := ⟨_, rfl⟩
  have htd : t.data.toList = bare s.data.toList := by rw [ht]
  have hts : t.size ≤ 1048576 := by
    have : t.size = (bare s.data.toList).length := by rw [← htd]; simp
    omega
  rw [← ht] at htrim
  rw [← htd] at HN HS
  clear ht htd htl
  obtain ⟨tp1, p1, hsyn⟩ := hw.syn
  obtain ⟨tp2, p2, hrng⟩ := hw.rng
  have hlow := hw.low
  have hk0 : (w.iter t 0).heap[w.heap.size]? = some (.stringIter t 0) := World.iter_heap w t 0
  have hb0 : Below w.heap.size w (w.iter t 0) := (Below.refl _ w).alloc (Nat.le_refl _) _
  go_enter Tryz.func166, Tryz.ntmps166
  go_wp2_with (go_at_call 174; refine htrim.mono ?_; rintro e wx ⟨rfl, hww⟩; have h2 := hww.symm; subst h2)
  clear htrim
  go_loopw [5] (fun _ wr => ∃ pos : Nat, pos ≤ t.size ∧ wr.heap[w.heap.size]? = some (.stringIter t pos) ∧ Below w.heap.size w wr ∧ digitsB t.data.toList = digitsB (t.data.toList.drop pos)) (fun _ wr => t.size - wr.iterPos w.heap.size)
  case atStart => exact ⟨0, by omega, hk0, hb0, rfl⟩
  case round =>
    obtain ⟨pos, hp, hk, hnx, hR⟩ := hrel
    have HR : Hid (digitsB t.data.toList = digitsB (t.data.toList.drop pos)) := hR
    clear hR hk0 hb0
    have HMU : Hid (wr.iterPos w.heap.size = pos) := by unfold Hid; simp [World.iterPos, hk]
    by_cases hlt : pos < t.size
    · have HD : Hid (digitsB (t.data.toList.drop pos) = (digitB (bt t pos) && digitsB (t.data.toList.drop (pos + 1)))) := digits_at t pos hlt
      cases hd : digitB (bt t pos) with
      | true =>
        have hlow8 : bt t pos < 128 := by simp [digitB] at hd; omega
        have hc := chr_low t pos hlow8
        have hnext := next_good wr w.heap.size t pos hk hlt (by rw [hc]; simp)
        have hN : chrN t pos = 1 := by unfold chrN; rw [hc]; rfl
        rw [hN, hc] at hnext
        simp only at hnext
        have hb1 := Lib.below_iterAt hnx (Nat.le_refl _) t (pos + 1)
        have hk1 := Lib.iterAt_heap wr w.heap.size t pos (pos + 1) hk
        generalize wr.iterAt w.heap.size t (pos + 1) = W1 at hnext hb1 hk1
        have HMU1 : Hid (W1.iterPos w.heap.size = pos + 1) := by unfold Hid; simp [World.iterPos, hk1]
        have HQ : Hid (digitsB t.data.toList = digitsB (t.data.toList.drop (pos + 1))) := by unfold Hid; rw [HR.out, HD.out, hd]; rfl
        have hbl := bt_lo t pos
        clear hc hN
        go_wp2_with (go_at_call 163; refine (isDigit_any _ _).mono ?_; rintro e wx ⟨rfl, hww⟩; have h2 := hww.symm; subst h2)
        go_roundw
        case rel => exact ⟨pos + 1, by omega, hk1, hb1, HQ.out⟩
        case measure => rw [HMU.out, HMU1.out]; omega
      | false =>
        have HF : Hid (digitsB t.data.toList = false) := by unfold Hid; rw [HR.out, HD.out, hd]; rfl
        have HE : Hid ((0 : Int) = numVal s ∧ false = (numOf s).2) := by
          have := HN.out HF.out
          unfold Hid numVal; rw [this]; simp
        by_cases h0 : (chr t pos).1 = 0
        · have hnext := next_bad wr w.heap.size t pos hk hlt h0
          have hb1 := Lib.below_iterAt hnx (Nat.le_refl _) t (pos + 1)
          have hdd : digitB 65533 = false := by decide
          generalize wr.iterAt w.heap.size t (pos + 1) = W1 at hnext hb1
          go_wp2_with (go_at_call 163; refine (isDigit_any _ _).mono ?_; rintro e wx ⟨rfl, hww⟩; have h2 := hww.symm; subst h2)
          go_ret2
          exact ⟨ret_ib2 HE.out.1 HE.out.2, hb1⟩
        · have hdd : digitB (chr t pos).2 = false := by
            by_cases hl : bt t pos < 128
            · rw [chr_low t pos hl]; exact hd
            · have := chr_high t pos hl h0
              simp [digitB]; omega
          have hnext := next_good wr w.heap.size t pos hk hlt h0
          have hb1 := Lib.below_iterAt hnx (Nat.le_refl _) t (pos + chrN t pos)
          have hpp := chrN_pos t pos hlt h0
          obtain ⟨_, _, _, _, hp5, hp6⟩ := hpp
          generalize wr.iterAt w.heap.size t (pos + chrN t pos) = W1 at hnext hb1
          go_wp2_with (go_at_call 163; refine (isDigit_any _ _).mono ?_; rintro e wx ⟨rfl, hww⟩; have h2 := hww.symm; subst h2)
          go_ret2
          exact ⟨ret_ib2 HE.out.1 HE.out.2, hb1⟩
    · have hnext : ∀ ty, (Instr.next (.pointer (some ⟨w.heap.size, 0, none⟩)) true ty).run Tryz.prog wr = .ok (.tuple #[.bool false]) wr := fun ty => Lib.run_next_end_at wr w.heap.size t pos ty hk hlt
      have HF : Hid (digitsB t.data.toList = true) := by unfold Hid; rw [HR.out, List.drop_of_length_le (by simpa using hlt)]; rfl
      obtain ⟨S1, S2, S3⟩ := HS.out HF.out
      have HS1 := Hid.out (p := ∀ v, Lib.parseIntB 64 s.data.toList = .ok v → numOf s = (v, true)) S1
      have hg7 : Tryz.prog.globalNamed "strconv.ErrSyntax" = some 3 := by kernel_rfl
      have hg8 : Tryz.prog.globalNamed "strconv.ErrRange" = some 4 := by kernel_rfl
      have hsyn' := var?_below hnx hg7 (by omega) hsyn
      have hrng' := var?_below hnx hg8 (by omega) hrng
      clear hg7 hg8
      cases hpi : Lib.parseIntB 64 s.data.toList with
      | ok v =>
        have hq := S1 v hpi
        have HE : Hid (v = numVal s ∧ true = (numOf s).2) := by unfold Hid numVal; rw [hq]; simp
        have hcall := Tryz.strconv_ParseInt_10_at64_ok s (by omega) v hpi wr
        clear hq S1 S2 S3 HS1 HN HS hpi hsyn hrng hsyn' hrng'
        go_wp2_with (go_at_call 175; refine hcall.mono ?_; rintro e wx ⟨rfl, hww⟩)
        go_ret2
        refine ⟨ret_ib2 HE.out.1 HE.out.2, ?_⟩
        rcases hww with rfl | ⟨x, rfl⟩
        · exact hnx
        · exact hnx.trans ((Lib.bytesWorld_below wr 5 x).mono hnx.size)
      | «syntax» =>
        have hq := S2 hpi
        have HE : Hid ((0 : Int) = numVal s ∧ false = (numOf s).2) := by unfold Hid numVal; rw [hq]; simp
        have hcall := Tryz.strconv_ParseInt_10_at64_syntax_var s (by omega) hpi tp1 p1 wr hsyn'
        clear hq S1 S2 S3 HS1 HN HS hpi hsyn hrng hsyn' hrng'
        go_wp2_with (go_at_call 175; refine hcall.mono ?_; rintro e wx ⟨N, rfl, hN, hNc, hbx⟩)
        go_ret2
        exact ⟨ret_ib2 HE.out.1 HE.out.2, hnx.trans (hbx.mono hnx.size)⟩
      | range =>
        have hq := S3 hpi
        have HE : Hid ((0 : Int) = numVal s ∧ false = (numOf s).2) := by unfold Hid numVal; rw [hq]; simp
        have hcall := Tryz.strconv_ParseInt_10_at64_range_var s (by omega) hpi tp2 p2 wr hrng'
        generalize Lib.intSat 64 s.data.toList = sat at hcall
        clear hq S1 S2 S3 HS1 HN HS hpi hsyn hrng hsyn' hrng'
        go_wp2_with (go_at_call 175; refine hcall.mono ?_; rintro e wx ⟨N, rfl, hN, hNc, hbx⟩)
        go_ret2
        exact ⟨ret_ib2 HE.out.1 HE.out.2, hnx.trans (hbx.mono hnx.size)⟩

end Go.Proofs.YtfpgjkbjbbgciaaGreatDoor
