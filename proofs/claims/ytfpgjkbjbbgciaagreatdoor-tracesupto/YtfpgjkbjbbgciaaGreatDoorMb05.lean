import Derived.Test.YtfpgjkbjbbgciaaGreatDoorMb04
import Derived.Defers
import Derived.Recover
import Derived.Lib.AtoiErrMem
import Derived.Test.YtfpgjkbjbbgciaaGreatDoorMb00
namespace Go.Proofs.YtfpgjkbjbbgciaaGreatDoor.Sp

def badB (L : List Said) (q k : Nat) : Bool := if q = 0 then twiceB L k else if q = 1 then missingB L k else endlessB L k
/-- One look over all lines, from a line on; `c`: what comes behind it. -/
def pass (L : List Said) (q j : Nat) (c : Int × Int) : Int × Int :=
  if j < L.length then (if badB L q j = true then (3 + (q : Int), (j : Int) + 1) else pass L q (j + 1) c) else c
termination_by L.length - j
theorem pass_end (L : List Said) (q j : Nat) (c : Int × Int) (h : ¬ j < L.length) : pass L q j c = c := by rw [pass, if_neg h]
theorem pass_bad (L : List Said) (q j : Nat) (c : Int × Int) (h : j < L.length) (h' : badB L q j = true) : pass L q j c = (3 + (q : Int), (j : Int) + 1) := by rw [pass, if_pos h, if_pos h']
theorem pass_on (L : List Said) (q j : Nat) (c : Int × Int) (h : j < L.length) (h' : badB L q j = false) : pass L q j c = pass L q (j + 1) c := by rw [pass, if_pos h, if_neg (by simp [h'])]
def tail (L : List Said) (q : Nat) : Int × Int := if q = 0 then pass L 0 0 (pass L 1 0 (pass L 2 0 (0, 0))) else if q = 1 then pass L 1 0 (pass L 2 0 (0, 0)) else if q = 2 then pass L 2 0 (0, 0) else (0, 0)
theorem tail_step (L : List Said) (q : Nat) (h : q < 3) : tail L q = pass L q 0 (tail L (q + 1)) := by
  match q, h with
  | 0, _ => rfl
  | 1, _ => rfl
  | 2, _ => rfl
/-- The first line that says something, from a line on. -/
def startAt (L : List Said) (i : Nat) : Int × Int :=
  if h : i < L.length then (if L[i].kind = 0 then startAt L (i + 1) else if L[i].kind = 102 then tail L 0 else (2, (i : Int) + 1)) else (2, 0)
termination_by L.length - i
theorem startAt_end (L : List Said) (i : Nat) (h : ¬ i < L.length) : startAt L i = (2, 0) := by rw [startAt, dif_neg h]
theorem startAt_on (L : List Said) (i : Nat) (h : i < L.length) (h' : L[i].kind = 0) : startAt L i = startAt L (i + 1) := by rw [startAt, dif_pos h, if_pos h']
theorem startAt_f (L : List Said) (i : Nat) (h : i < L.length) (h' : ¬ L[i].kind = 0) (h2 : L[i].kind = 102) : startAt L i = tail L 0 := by rw [startAt, dif_pos h, if_neg h', if_pos h2]
theorem startAt_n (L : List Said) (i : Nat) (h : i < L.length) (h' : ¬ L[i].kind = 0) (h2 : ¬ L[i].kind = 102) : startAt L i = (2, (i : Int) + 1) := by rw [startAt, dif_pos h, if_neg h', if_neg h2]
/-- The first line that may not be said, from a line on. -/
def sayAt (A : List ByteArray) (i : Nat) : Int × Int :=
  if h : i < A.length then (if (say A[i]).ok = true then sayAt A (i + 1) else (1, (i : Int) + 1)) else startAt (A.map say) 0
termination_by A.length - i
theorem sayAt_end (A : List ByteArray) (i : Nat) (h : ¬ i < A.length) : sayAt A i = startAt (A.map say) 0 := by rw [sayAt, dif_neg h]
theorem sayAt_on (A : List ByteArray) (i : Nat) (h : i < A.length) (h' : (say A[i]).ok = true) : sayAt A i = sayAt A (i + 1) := by rw [sayAt, dif_pos h, if_pos h']
theorem sayAt_bad (A : List ByteArray) (i : Nat) (h : i < A.length) (h' : (say A[i]).ok = false) : sayAt A i = (1, (i : Int) + 1) := by rw [sayAt, dif_pos h, if_neg (by simp [h'])]
def readS (s : ByteArray) : Int × Int := if 4000 < s.size ∨ 300 < (lines s).length then (6, 0) else sayAt (lines s) 0

theorem linesAt_len (s : ByteArray) (f i : Nat) : 1 ≤ (linesAt s f i).length ∧ (linesAt s f i).length ≤ s.size - i + 1 := by
  by_cases h : i < s.size
  · by_cases h' : bt s i = 10
    · rw [linesAt_cut s f i h h']
      have := linesAt_len s (i + 1) (i + 1)
      simp; omega
    · rw [linesAt_on s f i h h']
      have := linesAt_len s f (i + 1)
      omega
  · rw [linesAt_end s f i h]; simp
termination_by s.size - i
theorem lines_len (s : ByteArray) : 1 ≤ (lines s).length ∧ (lines s).length ≤ s.size + 1 := linesAt_len s 0 0
theorem linesAt_sizes (s : ByteArray) (f i : Nat) : ∀ x ∈ linesAt s f i, x.size ≤ s.size := by
  by_cases h : i < s.size
  · by_cases h' : bt s i = 10
    · rw [linesAt_cut s f i h h']
      intro x hx
      rw [List.mem_cons] at hx
      rcases hx with rfl | hx
      · rw [ByteArray.size_extract]; omega
      · exact linesAt_sizes s (i + 1) (i + 1) x hx
    · rw [linesAt_on s f i h h']
      exact linesAt_sizes s f (i + 1)
  · rw [linesAt_end s f i h]
    intro x hx
    simp at hx; subst hx
    rw [ByteArray.size_extract]; omega
termination_by s.size - i
theorem lines_sizes (s : ByteArray) : ∀ x ∈ lines s, x.size ≤ s.size := linesAt_sizes s 0 0

theorem say_wf (s : ByteArray) (h : (say s).ok = true) : Wf (say s) := by
  unfold say at h ⊢
  split at h
  · rename_i hv
    rw [if_pos hv]
    generalize words s = l at h ⊢
    unfold sayW at h ⊢
    split at h
    · exact .inl ⟨rfl, rfl⟩
    · rename_i x r
      by_cases hf : isFunc x = true
      · rw [if_pos hf] at h ⊢
        simp only [Bool.and_eq_true, decide_eq_true_eq] at h
        exact .inr (.inl ⟨rfl, h.1⟩)
      · rw [if_neg hf] at h ⊢
        by_cases hl : (x :: r).length = 1 ∧ lastB x = 58
        · rw [if_pos hl] at h ⊢
          exact .inr (.inr (.inl ⟨rfl, rfl⟩))
        · rw [if_neg hl] at h ⊢
          simp only at h
          split at h
          · cases h
          · rename_i hs
            refine .inr (.inr (.inr ⟨rfl, by simp, ?_⟩))
            have h3 : (shapeOf x).length ≤ 3 := by
              unfold shapeOf
              repeat' split
              all_goals decide
            have h4 : (x :: r).length = (shapeOf x).length + 1 := by
              rcases Classical.em ((x :: r).length = (shapeOf x).length + 1) with h | h
              · exact h
              · exact absurd (.inr h) hs
            show (x :: r).length ≤ 4
            omega
  · cases h

end Go.Proofs.YtfpgjkbjbbgciaaGreatDoor.Sp

namespace Go.Proofs.YtfpgjkbjbbgciaaGreatDoor
open Go.RowKit Sp

theorem assert43_yes (W : World) (v : Value) : (Instr.typeAssert (.iface 115 v) 20 115 true).run Tryz.prog W = .ok (.tuple #[v, .bool true]) W := by kernel_rfl

theorem catch_world {w : World} {b : Nat} {x y : Value} (hx : w.cell? ⟨b, 0, none⟩ = some x) (hy : w.cell? ⟨b + 1, 0, none⟩ = some y) (e l : Value) (o : Obj) :
    Below b w (((w.setCell ⟨b, 0, none⟩ e).setCell ⟨b + 1, 0, none⟩ l).alloc o).drew ∧ (((w.setCell ⟨b, 0, none⟩ e).setCell ⟨b + 1, 0, none⟩ l).alloc o).drew.cell? ⟨b, 0, none⟩ = some e ∧ (((w.setCell ⟨b, 0, none⟩ e).setCell ⟨b + 1, 0, none⟩ l).alloc o).drew.cell? ⟨b + 1, 0, none⟩ = some l := by
  have hlt1 : b + 1 < w.heap.size := by have := World.block_lt_of_cell? w _ hy; simpa using this
  refine ⟨((((Below.refl b w).setCell (p := ⟨b, 0, none⟩) (Nat.le_refl _) _).setCell (p := ⟨b + 1, 0, none⟩) (Nat.le_succ b) _).alloc (by simp [World.setCell]; omega) _).drew, ?_, ?_⟩
  · show (((w.setCell ⟨b, 0, none⟩ e).setCell ⟨b + 1, 0, none⟩ l).alloc o).cell? ⟨b, 0, none⟩ = some e
    rw [World.cell?_alloc_lt _ o ⟨b, 0, none⟩ (by simp [World.setCell]; omega), World.cell?_setCell_other]
    · exact World.cell?_setCell_same w _ _ hx
    · simp
  · show (((w.setCell ⟨b, 0, none⟩ e).setCell ⟨b + 1, 0, none⟩ l).alloc o).cell? ⟨b + 1, 0, none⟩ = some l
    rw [World.cell?_alloc_lt _ o ⟨b + 1, 0, none⟩ (by simp [World.setCell]; omega)]
    refine World.cell?_setCell_same (u := y) _ _ _ ?_
    rw [World.cell?_setCell_other]
    · exact hy
    · simp

set_option maxRecDepth 100000 in
set_option maxHeartbeats 1000000 in
theorem catch_refusal (b : Nat) (x y e l : Int) (w : World) (hx : w.cell? ⟨b, 0, none⟩ = some (.int .i64 x)) (hy : w.cell? ⟨b + 1, 0, none⟩ = some (.int .i64 y)) (fx : w.frozen? ⟨b, 0, none⟩ = false) (fy : w.frozen? ⟨b + 1, 0, none⟩ = false) :
    CallsD Tryz.prog 64 #[.pointer (some ⟨b, 0, none⟩), .pointer (some ⟨b + 1, 0, none⟩)] (.panicking ({ v := .iface 115 (.agg #[.int .i64 e, .int .i64 l]), recovered := false } :: [])) w fun en u' w' =>
      en = .returned (.tuple #[]) ∧ u' = .panicking ({ v := .iface 115 (.agg #[.int .i64 e, .int .i64 l]), recovered := true } :: []) ∧ Below b w w' ∧ w'.cell? ⟨b, 0, none⟩ = some (.int .i64 e) ∧ w'.cell? ⟨b + 1, 0, none⟩ = some (.int .i64 l) := by
  have has := assert43_yes
  refine callsD_of_wpS Tryz.func64 rfl fun c₀ cs hu => ?_
  apply wpS_seq
  apply wpS_region
  simp [wpOpsS, go_sem, recoverD, hu, Tryz.ntmps64, Exit.thenS]
  refine wpS_of_wp ?_
  have hlt1 : b + 1 < w.heap.size := by have := World.block_lt_of_cell? w _ hy; simpa using this
  have hlt0 : b < w.heap.size := by omega
  have hn1 : ¬ b = w.heap.size := by omega
  have hn2 : ¬ b + 1 = w.heap.size := by omega
  go_wp2
  go_region
  all_goals exact ⟨rfl, _, rfl, .tuple #[], by simp [results, Tryz.results64], rfl, rfl, catch_world hx hy _ _ _⟩

set_option maxRecDepth 100000 in
set_option maxHeartbeats 1000000 in
theorem catch_idle (b : Nat) (w : World) :
    CallsD Tryz.prog 64 #[.pointer (some ⟨b, 0, none⟩), .pointer (some ⟨b + 1, 0, none⟩)] .returning w fun en u' w' => en = .returned (.tuple #[]) ∧ u' = .returning ∧ w' = w := by
  refine callsD_of_wpS Tryz.func64 rfl fun c₀ cs hu => ?_
  apply wpS_seq
  apply wpS_region
  simp [wpOpsS, go_sem, recoverD, hu, Tryz.ntmps64, Exit.thenS]
  refine wpS_of_wp ?_
  go_wp2
  exact ⟨rfl, .returning, by rw [← hu], .tuple #[], by simp [results, Tryz.results64], rfl, rfl, rfl⟩

end Go.Proofs.YtfpgjkbjbbgciaaGreatDoor

namespace Go.Proofs.YtfpgjkbjbbgciaaGreatDoor
open Go.RowKit Sp

theorem trim_bare (l : List UInt8) : Lib.trimPrefix l [45] = bare l := by
  unfold Lib.trimPrefix Lib.hasPrefix bare
  match l with
  | [] => rfl
  | c :: r =>
    by_cases h : c = 45
    · subst h; simp [List.isPrefixOf]
    · have : (45 == c) = false := by simpa using fun e => h e.symm
      simp [List.isPrefixOf, this]
      split
      · rename_i heq; simp at heq; exact absurd heq.1 h
      · rfl
theorem bare_len (l : List UInt8) : (bare l).length ≤ l.length := by
  unfold bare; split <;> simp
theorem chr_low (s : ByteArray) (i : Nat) (h : bt s i < 128) : chr s i = (1, bt s i) := by unfold chr; rw [if_pos h]
theorem chr_high (s : ByteArray) (i : Nat) (h : ¬ bt s i < 128) (h0 : ¬ (chr s i).1 = 0) : 128 ≤ (chr s i).2 := by
  unfold chr at h0 ⊢
  rw [if_neg h] at h0 ⊢
  split at h0
  · rename_i hc
    rw [if_pos hc]
    rcases chrEnd_bd 2 128 (conts s (i + 1) 1 (bt s i - 192)) with h | ⟨v, _, h2, h3, _⟩
    · rw [h] at h0; exact absurd rfl h0
    · rw [h2]; exact h3
  · rename_i hc
    rw [if_neg hc]
    split at h0
    · rename_i hd
      rw [if_pos hd]
      rcases chrEnd_bd 3 2048 (conts s (i + 1) 2 (bt s i - 224)) with h | ⟨v, _, h2, h3, _⟩
      · rw [h] at h0; exact absurd rfl h0
      · rw [h2]; show 128 ≤ v; omega
    · rename_i hd
      rw [if_neg hd]
      split at h0
      · rename_i he
        rw [if_pos he]
        rcases chrEnd_bd 4 65536 (conts s (i + 1) 3 (bt s i - 240)) with h | ⟨v, _, h2, h3, _⟩
        · rw [h] at h0; exact absurd rfl h0
        · rw [h2]; show 128 ≤ v; omega
      · exact absurd rfl h0
theorem digits_at (t : ByteArray) (i : Nat) (h : i < t.size) : digitsB (t.data.toList.drop i) = (digitB (bt t i) && digitsB (t.data.toList.drop (i + 1))) := by
  obtain ⟨c, r, h1, h2, h3⟩ := bt_drop t i h
  rw [h1, ← h3, ← h2]
  simp only [digitsB, digitB]
  congr 1
  by_cases hc : 48 ≤ c.toNat ∧ c.toNat ≤ 57
  · have : (48 : Int) ≤ c.toNat ∧ (c.toNat : Int) ≤ 57 := by omega
    simp [hc, this]
  · have : ¬ ((48 : Int) ≤ c.toNat ∧ (c.toNat : Int) ≤ 57) := by omega
    simp only [hc, this]
def numVal (s : ByteArray) : Int := if (numOf s).2 = true then (numOf s).1 else 0

set_option maxRecDepth 100000 in
set_option maxHeartbeats 2000000 in
theorem cnum_any (s : ByteArray) (w : World) (hw : LibW w) (hs : s.size ≤ 1048576) :
    Calls Tryz.prog 166 #[.string s] w fun e w' => e = .returned (.tuple #[.int .i64 (numVal s), .bool (numOf s).2]) ∧ Below w.heap.size w w' := by
  have htrim := Tryz.strings_TrimPrefix s ⟨#[45]⟩ w
  rw [show (⟨#[45]⟩ : ByteArray).data.toList = [45] from rfl, trim_bare] at htrim
  have HN : Hid (digitsB (bare s.data.toList) = false → (numOf s).2 = false) := num_none s
  have HS : Hid (digitsB (bare s.data.toList) = true → (∀ v, Lib.parseIntB 64 s.data.toList = .ok v → numOf s = (v, true)) ∧ (Lib.parseIntB 64 s.data.toList = .«syntax» → (numOf s).2 = false) ∧ (Lib.parseIntB 64 s.data.toList = .range → (numOf s).2 = false)) := num_some s
  have htl : (bare s.data.toList).length ≤ s.size := by have := bare_len s.data.toList; simpa using this
  obtain ⟨t, ht⟩ : ∃ t : ByteArray, t = ⟨(bare s.data.toList).toArray⟩ := ⟨_, rfl⟩
  have htd : t.data.toList = bare s.data.toList := by rw [ht]
  have hts : t.size ≤ 1048576 := by
    have : t.size = (bare s.data.toList).length := by rw [← htd]; simp
    omega
  rw [← ht] at htrim
  rw [← htd] at HN HS
  clear ht htd htl
  obtain ⟨tp1, p1, hsyn⟩ := hw.syn
  obtain ⟨tp2, p2, hrng⟩ := hw.rng
  have hlow := hw.low
  have hk0 : (w.iter t 0).heap[w.heap.size]? = some (.stringIter t 0) := World.iter_heap w t 0
  have hb0 : Below w.heap.size w (w.iter t 0) := (Below.refl _ w).alloc (Nat.le_refl _) _
  go_enter Tryz.func166, Tryz.ntmps166
  go_wp2_with (go_at_call 174; refine htrim.mono ?_; rintro e wx ⟨rfl, hww⟩; have h2 := hww.symm; subst h2)
  clear htrim
  go_loopw [5] (fun _ wr => ∃ pos : Nat, pos ≤ t.size ∧ wr.heap[w.heap.size]? = some (.stringIter t pos) ∧ Below w.heap.size w wr ∧ digitsB t.data.toList = digitsB (t.data.toList.drop pos)) (fun _ wr => t.size - wr.iterPos w.heap.size)
  case atStart => exact ⟨0, by omega, hk0, hb0, rfl⟩
  case round =>
    obtain ⟨pos, hp, hk, hnx, hR⟩ := hrel
    have HR : Hid (digitsB t.data.toList = digitsB (t.data.toList.drop pos)) := hR
    clear hR hk0 hb0
    have HMU : Hid (wr.iterPos w.heap.size = pos) := by unfold Hid; simp [World.iterPos, hk]
    by_cases hlt : pos < t.size
    · have HD : Hid (digitsB (t.data.toList.drop pos) = (digitB (bt t pos) && digitsB (t.data.toList.drop (pos + 1)))) := digits_at t pos hlt
      cases hd : digitB (bt t pos) with
      | true =>
        have hlow8 : bt t pos < 128 := by simp [digitB] at hd; omega
        have hc := chr_low t pos hlow8
        have hnext := next_good wr w.heap.size t pos hk hlt (by rw [hc]; simp)
        have hN : chrN t pos = 1 := by unfold chrN; rw [hc]; rfl
        rw [hN, hc] at hnext
        simp only at hnext
        have hb1 := Lib.below_iterAt hnx (Nat.le_refl _) t (pos + 1)
        have hk1 := Lib.iterAt_heap wr w.heap.size t pos (pos + 1) hk
        generalize wr.iterAt w.heap.size t (pos + 1) = W1 at hnext hb1 hk1
        have HMU1 : Hid (W1.iterPos w.heap.size = pos + 1) := by unfold Hid; simp [World.iterPos, hk1]
        have HQ : Hid (digitsB t.data.toList = digitsB (t.data.toList.drop (pos + 1))) := by unfold Hid; rw [HR.out, HD.out, hd]; rfl
        have hbl := bt_lo t pos
        clear hc hN
        go_wp2_with (go_at_call 163; refine (isDigit_any _ _).mono ?_; rintro e wx ⟨rfl, hww⟩; have h2 := hww.symm; subst h2)
        go_roundw
        case rel => exact ⟨pos + 1, by omega, hk1, hb1, HQ.out⟩
        case measure => rw [HMU.out, HMU1.out]; omega
      | false =>
        have HF : Hid (digitsB t.data.toList = false) := by unfold Hid; rw [HR.out, HD.out, hd]; rfl
        have HE : Hid ((0 : Int) = numVal s ∧ false = (numOf s).2) := by
          have := HN.out HF.out
          unfold Hid numVal; rw [this]; simp
        by_cases h0 : (chr t pos).1 = 0
        · have hnext := next_bad wr w.heap.size t pos hk hlt h0
          have hb1 := Lib.below_iterAt hnx (Nat.le_refl _) t (pos + 1)
          have hdd : digitB 65533 = false := by decide
          generalize wr.iterAt w.heap.size t (pos + 1) = W1 at hnext hb1
          go_wp2_with (go_at_call 163; refine (isDigit_any _ _).mono ?_; rintro e wx ⟨rfl, hww⟩; have h2 := hww.symm; subst h2)
          go_ret2
          exact ⟨ret_ib2 HE.out.1 HE.out.2, hb1⟩
        · have hdd : digitB (chr t pos).2 = false := by
            by_cases hl : bt t pos < 128
            · rw [chr_low t pos hl]; exact hd
            · have := chr_high t pos hl h0
              simp [digitB]; omega
          have hnext := next_good wr w.heap.size t pos hk hlt h0
          have hb1 := Lib.below_iterAt hnx (Nat.le_refl _) t (pos + chrN t pos)
          have hpp := chrN_pos t pos hlt h0
          obtain ⟨_, _, _, _, hp5, hp6⟩ := hpp
          generalize wr.iterAt w.heap.size t (pos + chrN t pos) = W1 at hnext hb1
          go_wp2_with (go_at_call 163; refine (isDigit_any _ _).mono ?_; rintro e wx ⟨rfl, hww⟩; have h2 := hww.symm; subst h2)
          go_ret2
          exact ⟨ret_ib2 HE.out.1 HE.out.2, hb1⟩
    · have hnext : ∀ ty, (Instr.next (.pointer (some ⟨w.heap.size, 0, none⟩)) true ty).run Tryz.prog wr = .ok (.tuple #[.bool false]) wr := fun ty => Lib.run_next_end_at wr w.heap.size t pos ty hk hlt
      have HF : Hid (digitsB t.data.toList = true) := by unfold Hid; rw [HR.out, List.drop_of_length_le (by simpa using hlt)]; rfl
      obtain ⟨S1, S2, S3⟩ := HS.out HF.out
      have HS1 := Hid.out (p := ∀ v, Lib.parseIntB 64 s.data.toList = .ok v → numOf s = (v, true)) S1
      have hg7 : Tryz.prog.globalNamed "strconv.ErrSyntax" = some 3 := by kernel_rfl
      have hg8 : Tryz.prog.globalNamed "strconv.ErrRange" = some 4 := by kernel_rfl
      have hsyn' := var?_below hnx hg7 (by omega) hsyn
      have hrng' := var?_below hnx hg8 (by omega) hrng
      clear hg7 hg8
      cases hpi : Lib.parseIntB 64 s.data.toList with
      | ok v =>
        have hq := S1 v hpi
        have HE : Hid (v = numVal s ∧ true = (numOf s).2) := by unfold Hid numVal; rw [hq]; simp
        have hcall := Tryz.strconv_ParseInt_10_at64_ok s (by omega) v hpi wr
        clear hq S1 S2 S3 HS1 HN HS hpi hsyn hrng hsyn' hrng'
        go_wp2_with (go_at_call 175; refine hcall.mono ?_; rintro e wx ⟨rfl, hww⟩)
        go_ret2
        refine ⟨ret_ib2 HE.out.1 HE.out.2, ?_⟩
        rcases hww with rfl | ⟨x, rfl⟩
        · exact hnx
        · exact hnx.trans ((Lib.bytesWorld_below wr 5 x).mono hnx.size)
      | «syntax» =>
        have hq := S2 hpi
        have HE : Hid ((0 : Int) = numVal s ∧ false = (numOf s).2) := by unfold Hid numVal; rw [hq]; simp
        have hcall := Tryz.strconv_ParseInt_10_at64_syntax_var s (by omega) hpi tp1 p1 wr hsyn'
        clear hq S1 S2 S3 HS1 HN HS hpi hsyn hrng hsyn' hrng'
        go_wp2_with (go_at_call 175; refine hcall.mono ?_; rintro e wx ⟨N, rfl, hN, hNc, hbx⟩)
        go_ret2
        exact ⟨ret_ib2 HE.out.1 HE.out.2, hnx.trans (hbx.mono hnx.size)⟩
      | range =>
        have hq := S3 hpi
        have HE : Hid ((0 : Int) = numVal s ∧ false = (numOf s).2) := by unfold Hid numVal; rw [hq]; simp
        have hcall := Tryz.strconv_ParseInt_10_at64_range_var s (by omega) hpi tp2 p2 wr hrng'
        generalize Lib.intSat 64 s.data.toList = sat at hcall
        clear hq S1 S2 S3 HS1 HN HS hpi hsyn hrng hsyn' hrng'
        go_wp2_with (go_at_call 175; refine hcall.mono ?_; rintro e wx ⟨N, rfl, hN, hNc, hbx⟩)
        go_ret2
        exact ⟨ret_ib2 HE.out.1 HE.out.2, hnx.trans (hbx.mono hnx.size)⟩

end Go.Proofs.YtfpgjkbjbbgciaaGreatDoor

namespace Go.Proofs.YtfpgjkbjbbgciaaGreatDoor
open Go.RowKit Sp

theorem Tryz.info9 : (Tryz.prog.info? 9).map (fun i => (i.zero, i.size, i.bytes)) = some (some (.string ByteArray.empty), 1, 16) := by kernel_rfl
theorem Tryz.under67 : Tryz.prog.underlying 67 = some (.slice 9) := by kernel_rfl

theorem own_grow {w wr w1 : World} {B : Nat} {v : Value} {n : Nat} {xs : List Value} {o : Obj} (hown : wr.ownsRow B 9 1 v n xs) (hB : B ≤ wr.heap.size) (hb : Below B w wr) (hg : (wr.alloc o).grownBy w1 v.ownBlock) : Below B w w1 :=
  (hb.alloc hB o).grown hg (by simp; omega) (fun k hk => (hown.lt k hk).1)
theorem one_cell (s : ByteArray) : ∀ u ∈ [Value.string s], u.oneCell' = true := by
  intro u hu; simp at hu; subst hu; rfl

set_option maxRecDepth 100000 in
set_option maxHeartbeats 2000000 in
theorem lines_any (s : ByteArray) (w : World) (hs : s.size ≤ 1048576) :
    Calls Tryz.prog 45 #[.string s] w fun e w' => ∃ v, e = .returned v ∧ w'.ownsRow w.heap.size 9 1 v (lines s).length ((lines s).map Value.string) ∧ Below w.heap.size w w' := by
  obtain ⟨i0, hi, hz0, hz1, hz2⟩ := info_parts Tryz.info9
  go_enter Tryz.func45, Tryz.ntmps45
  go_wp2
  go_loopw [3, 4, 5] (fun v tf ti wr => ∃ (k f : Nat) (acc : List ByteArray), k ≤ s.size ∧ f ≤ k ∧ acc.length ≤ k ∧ ti = .int .i64 (k : Int) ∧ tf = .int .i64 (f : Int) ∧ wr.ownsRow w.heap.size 9 1 v acc.length (acc.map Value.string) ∧ Below w.heap.size w wr ∧ lines s = acc ++ linesAt s f k) (fun _ _ ti _ => s.size - (intOf ti).toNat)
  case atStart => exact ⟨0, 0, [], by omega, by omega, by simp, rfl, rfl, World.ownsRow_nil _ _ _ _, Below.refl _ _, rfl⟩
  case round =>
    obtain ⟨k, f, acc, hk, hf, hacc, rfl, rfl, hown, hnx, hL⟩ := hrel
    have HL : Hid (lines s = acc ++ linesAt s f k) := hL
    clear hL
    have hsz := hnx.size
    by_cases hlt : k < s.size
    · have hc0 : 0 ≤ (s[k].toNat : Int) := by omega
      have hc1 : (s[k].toNat : Int) ≤ 255 := by have := s[k].toNat_lt; omega
      have HE : Hid ((s[k].toNat : Int) = bt s k) := bt_eq s k hlt
      by_cases h10 : ((s[k].toNat : Int) == 10) = true
      · go_wp2_with (at_builtin; refine wpList_append_own _ rfl _ _ 67 rfl w.heap.size 9 i0 (.string ByteArray.empty) 1 16 Tryz.under67 hi hz0 hz1 hz2 rfl (by decide) _ _ _ rfl (hown.alloc _) ⟨wr.heap.size, 0, none⟩ 1 1 [.string (s.extract f k)] rfl rfl (cell_one_new _ _ _) (one_cell _) (by unfold maxLen; omega) (by omega) (by simp; omega) ?_)
        intro v' w1 hown' hgrow _
        have hb1 := own_grow hown hsz hnx hgrow
        clear hgrow
        go_wp2
        go_roundw
        case rel => exact ⟨k + 1, k + 1, acc ++ [s.extract f k], by omega, by omega, by simp; omega, by go_num, by go_num, by simpa using hown', hb1, by rw [HL.out, linesAt_cut s f k hlt (by have := HE.out; simp at h10; omega)]; simp⟩
        case measure => simp [intOf]; omega
      · have h10' : ((s[k].toNat : Int) == 10) = false := by simpa using h10
        go_wp2
        go_roundw
        case rel => exact ⟨k + 1, f, acc, by omega, by omega, by omega, by go_num, rfl, hown, hnx, by rw [HL.out, linesAt_on s f k hlt (by have := HE.out; simp at h10'; omega)]⟩
        case measure => simp [intOf]; omega
    · go_wp2_with (at_builtin; refine wpList_append_own _ rfl _ _ 67 rfl w.heap.size 9 i0 (.string ByteArray.empty) 1 16 Tryz.under67 hi hz0 hz1 hz2 rfl (by decide) _ _ _ rfl (hown.alloc _) ⟨wr.heap.size, 0, none⟩ 1 1 [.string (s.extract f s.size)] rfl rfl (cell_one_new _ _ _) (one_cell _) (by unfold maxLen; omega) (by omega) (by simp; omega) ?_)
      intro v' w1 hown' hgrow _
      have hb1 := own_grow hown hsz hnx hgrow
      clear hgrow
      go_wp2
      go_ret
      refine ⟨v', rfl, ?_, hb1⟩
      rw [HL.out, linesAt_end s f k hlt]
      simpa using hown'

end Go.Proofs.YtfpgjkbjbbgciaaGreatDoor
