import Derived.Test.YtfpgjkbjbbgciaaGreatDoorMb31
import Derived.Test.YtfpgjkbjbbgciaaGreatDoorMb32
import Derived.Test.YtfpgjkbjbbgciaaGreatDoorMb33
import Derived.Deep.MidRow
namespace Go.Proofs.YtfpgjkbjbbgciaaGreatDoor
open Go.RowKit Sp

/-- What holds of the machine as long as it runs. -/
structure InvR (L : List Said) (m : Mc) : Prop where
  at_ : ValidAt L m.at'
  backs : ∀ z ∈ m.backs, ValidAt L z
  frames : m.frames = (m.backs.length : Int) + 1
  few : m.backs.length ≤ 15
  peak : ∃ p : Nat, m.peak = (p : Int) ∧ p ≤ 16
  steps : 0 ≤ m.steps
  out : (m.out.length : Int) ≤ m.steps
theorem InvR.plain {L : List Said} {m m1 : Mc} {z : Int} (I : InvR L m) (h : ValidAt L z) (e1 : m1.backs = m.backs) (e2 : m1.frames = m.frames) (e3 : m1.peak = m.peak) (e4 : m1.steps = m.steps) (e5 : m1.out.length ≤ m.out.length + 1) : InvR L (m1.goes z) := by
  have hs := I.steps
  have ho := I.out
  refine ⟨h, ?_, ?_, ?_, ?_, ?_, ?_⟩
  · show ∀ z ∈ m1.backs, _; rw [e1]; exact I.backs
  · show m1.frames = (m1.backs.length : Int) + 1; rw [e1, e2]; exact I.frames
  · show m1.backs.length ≤ 15; rw [e1]; exact I.few
  · show ∃ p : Nat, m1.peak = (p : Int) ∧ p ≤ 16; rw [e3]; exact I.peak
  · show 0 ≤ m1.steps + 1; omega
  · show (m1.out.length : Int) ≤ m1.steps + 1; omega
/-- One step of the document's machine. -/
theorem rstep_any {w w0 : World} {b g cap2 : Nat} {L : List Said} {m : Mc} {bv iv ov : Value} (G : Good L) (R : RefAt w b g cap2 L m bv iv ov) (I : InvR L m) (hfin : m.fin = 0) (hL0 : LinesIn w0 g L) (h0 : Below w0.heap.size w0 w) (h0b : w0.heap.size ≤ b) (hst : m.steps ≤ 99999) (hin : m.inp.length ≤ 1048576) :
    Calls Tryz.prog 55 #[.pointer (some ⟨b, 0, none⟩)] w (StepPost w b g cap2 L (stepL L m)) ∧ ((stepL L m).fin = 0 → InvR L (stepL L m)) := by
  obtain ⟨k, hk, hlt, h5⟩ := I.at_
  have hstep : stepL L m = exec (insQ L k L[k]) (nextFrom L (k + 1)) m := by
    unfold stepL
    rw [hk, Int.toNat_natCast, List.getElem?_eq_getElem hlt]
  rw [hstep]
  have hL : LinesIn w g L := hL0.below h0
  have hlen : 0 < L[k].kept.length := by
    have := G.wf k hlt
    unfold Wf at this
    omega
  obtain ⟨wb, wc, hwd, hws⟩ := hL0.words k hlt hlen
  have hwbl : wb < w0.heap.size := by
    have := World.block_lt_of_cell? w0 _ (hws 0 hlen)
    simpa using this
  have S : RStep w b wb wc g cap2 k L m bv iv ov L[k].kept (nextFrom L (k + 1)) :=
    ⟨R, hfin, hk, hlt, G.few, hL, fun W hW => hL0.below (h0.trans (hW.mono h0b)), (h0.cell (World.block_lt_of_cell? w0 _ hwd)).trans hwd, fun j hj => (h0.cell (p := ⟨wb, j, none⟩) hwbl).trans (hws j hj), by omega, fun x hx => by have := G.size k hlt x hx; omega, rfl, I.steps, by omega⟩
  have hmiss := G.miss k hlt
  have F := G.form k hlt h5
  have hnext : ends (L[k].word 0) = false → ValidAt L (nextFrom L (k + 1)) := G.next k hlt h5
  have hml : ∀ n, L[k].kept.length = n + 1 → asksLab (L[k].word 0) = true → 0 ≤ labOf L k (L[k].word n) := fun n hn ha => by
    rw [word_at _ 0 hlen] at ha
    rw [word_at _ n (by omega)]
    rw [missing_l L k n hlt (by simp [h5]) hn ha] at hmiss
    simpa using hmiss
  have hmf : ∀ n, L[k].kept.length = n + 1 → asksLab (L[k].word 0) = false → asksFn (L[k].word 0) = true → 0 ≤ fnFrom L (L[k].word n) 0 := fun n hn ha hb => by
    rw [word_at _ 0 hlen] at ha hb
    rw [word_at _ n (by omega)]
    rw [missing_f L k n hlt (by simp [h5]) hn ha hb] at hmiss
    simpa using hmiss
  generalize hq : L[k] = q at S F hnext hml hmf
  obtain ⟨kd, kp, ok⟩ := q
  simp only at S F
  unfold Said.word at hnext hml hmf
  simp only at hnext hml hmf
  have hnl := I.frames
  have hnb := I.few
  cases F with
  | set_ x1 x2 hx1 hx2 =>
    rw [insQ_set L k _ x1 x2 rfl]
    obtain ⟨rx1, ex1⟩ := reg_nat x1 hx1
    exact ⟨rs_set S (regN x1) rx1 ex1, fun _ => I.plain (hnext (by kernel_rfl)) rfl rfl rfl rfl (Nat.le_succ _)⟩
  | inc_ x1 x2 hx1 hx2 =>
    rw [insQ_inc L k _ x1 x2 rfl]
    obtain ⟨rx1, ex1⟩ := reg_nat x1 hx1
    exact ⟨rs_inc S (regN x1) rx1 ex1, fun _ => I.plain (hnext (by kernel_rfl)) rfl rfl rfl rfl (Nat.le_succ _)⟩
  | mov_ x1 x2 hx1 hx2 =>
    rw [insQ_mov L k _ x1 x2 rfl]
    obtain ⟨rx1, ex1⟩ := reg_nat x1 hx1
    obtain ⟨rx2, ex2⟩ := reg_nat x2 hx2
    exact ⟨rs_mov S (regN x1) (regN x2) rx1 ex1 rx2 ex2, fun _ => I.plain (hnext (by kernel_rfl)) rfl rfl rfl rfl (Nat.le_succ _)⟩
  | load_ x1 x2 hx1 hx2 =>
    rw [insQ_load L k _ x1 x2 rfl]
    obtain ⟨rx1, ex1⟩ := reg_nat x1 hx1
    obtain ⟨rx2, ex2⟩ := reg_nat x2 hx2
    refine ⟨rs_load S (regN x1) (regN x2) rx1 ex1 rx2 ex2, fun hz => ?_⟩
    simp only [exec] at hz ⊢
    split at hz
    · cases hz
    · rename_i hc
      rw [if_neg hc]
      exact I.plain (hnext (by kernel_rfl)) rfl rfl rfl rfl (Nat.le_succ _)
  | store_ x1 x2 hx1 hx2 =>
    rw [insQ_store L k _ x1 x2 rfl]
    obtain ⟨rx1, ex1⟩ := reg_nat x1 hx1
    obtain ⟨rx2, ex2⟩ := reg_nat x2 hx2
    refine ⟨rs_store S (regN x1) (regN x2) rx1 ex1 rx2 ex2, fun hz => ?_⟩
    simp only [exec] at hz ⊢
    split at hz
    · cases hz
    · rename_i hc
      rw [if_neg hc]
      exact I.plain (hnext (by kernel_rfl)) rfl rfl rfl rfl (Nat.le_succ _)
  | add_ x1 x2 x3 hx1 hx2 hx3 =>
    rw [insQ_add L k _ x1 x2 x3 rfl]
    obtain ⟨rx1, ex1⟩ := reg_nat x1 hx1
    obtain ⟨rx2, ex2⟩ := reg_nat x2 hx2
    obtain ⟨rx3, ex3⟩ := reg_nat x3 hx3
    exact ⟨rs_add S (regN x1) (regN x2) (regN x3) rx1 ex1 rx2 ex2 rx3 ex3, fun _ => I.plain (hnext (by kernel_rfl)) rfl rfl rfl rfl (Nat.le_succ _)⟩
  | sub_ x1 x2 x3 hx1 hx2 hx3 =>
    rw [insQ_sub L k _ x1 x2 x3 rfl]
    obtain ⟨rx1, ex1⟩ := reg_nat x1 hx1
    obtain ⟨rx2, ex2⟩ := reg_nat x2 hx2
    obtain ⟨rx3, ex3⟩ := reg_nat x3 hx3
    exact ⟨rs_sub S (regN x1) (regN x2) (regN x3) rx1 ex1 rx2 ex2 rx3 ex3, fun _ => I.plain (hnext (by kernel_rfl)) rfl rfl rfl rfl (Nat.le_succ _)⟩
  | mul_ x1 x2 x3 hx1 hx2 hx3 =>
    rw [insQ_mul L k _ x1 x2 x3 rfl]
    obtain ⟨rx1, ex1⟩ := reg_nat x1 hx1
    obtain ⟨rx2, ex2⟩ := reg_nat x2 hx2
    obtain ⟨rx3, ex3⟩ := reg_nat x3 hx3
    exact ⟨rs_mul S (regN x1) (regN x2) (regN x3) rx1 ex1 rx2 ex2 rx3 ex3, fun _ => I.plain (hnext (by kernel_rfl)) rfl rfl rfl rfl (Nat.le_succ _)⟩
  | read_ x1 hx1 =>
    rw [insQ_read L k _ x1 rfl]
    obtain ⟨rx1, ex1⟩ := reg_nat x1 hx1
    exact ⟨rs_read S (regN x1) rx1 ex1 hin, fun _ => I.plain (hnext (by kernel_rfl)) rfl rfl rfl rfl (Nat.le_succ _)⟩
  | write_ x1 hx1 =>
    rw [insQ_write L k _ x1 rfl]
    obtain ⟨rx1, ex1⟩ := reg_nat x1 hx1
    exact ⟨rs_write S (regN x1) rx1 ex1 (by have := I.out; omega), fun _ => I.plain (hnext (by kernel_rfl)) rfl rfl rfl rfl (by simp)⟩
  | jump_ x1 hx1 =>
    rw [insQ_jump L k _ x1 rfl]
    have h8 := hml 1 rfl (by kernel_rfl)
    obtain ⟨j, hj, hjl, hj8⟩ := labFrom_is L x1 _ h8
    have hj' : labOf L k x1 = (j : Int) := hj
    have e : labTo L k x1 = nextFrom L j := by unfold labTo; rw [hj', Int.toNat_natCast]
    rw [e]
    exact ⟨rs_jump S j hj' (by omega), fun _ => I.plain (m1 := m) (G.lab j hjl hj8) rfl rfl rfl rfl (Nat.le_succ _)⟩
  | call_ x1 hx1 =>
    rw [insQ_call L k _ x1 rfl]
    have h8 := hmf 1 rfl (by kernel_rfl) (by kernel_rfl)
    obtain ⟨j, hj, hjl, hj2⟩ := fnFrom_is L x1 _ h8
    have e : fnTo L x1 = nextFrom L (j + 1) := by unfold fnTo; rw [hj]; rfl
    rw [e]
    obtain ⟨p, hp, hp1⟩ := I.peak
    refine ⟨rs_call S j (m.backs.length + 1) p hj hjl (by omega) (by omega) hp hp1 (by omega), fun hz => ?_⟩
    simp only [exec] at hz ⊢
    split at hz
    · cases hz
    · rename_i hc
      rw [if_neg hc]
      have hs := I.steps
      have ho := I.out
      refine ⟨G.fn j hjl hj2, ?_, ?_, ?_, ?_, ?_, ?_⟩
      · show ∀ z ∈ m.backs ++ [nextFrom L (k + 1)], _
        intro z hz
        rw [List.mem_append] at hz
        rcases hz with hz | hz
        · exact I.backs z hz
        · simp at hz; subst hz; exact hnext (by kernel_rfl)
      · show m.frames + 1 = ((m.backs ++ [nextFrom L (k + 1)]).length : Int) + 1
        simp; omega
      · show (m.backs ++ [nextFrom L (k + 1)]).length ≤ 15
        simp; omega
      · show ∃ p : Nat, max m.peak (m.frames + 1) = (p : Int) ∧ p ≤ 16
        exact ⟨max p (m.backs.length + 2), by omega, by omega⟩
      · show 0 ≤ m.steps + 1; omega
      · show (m.out.length : Int) ≤ m.steps + 1; omega
  | less_ x1 x2 x3 hx1 hx2 hx3 =>
    rw [insQ_less L k _ x1 x2 x3 rfl]
    obtain ⟨rx1, ex1⟩ := reg_nat x1 hx1
    obtain ⟨rx2, ex2⟩ := reg_nat x2 hx2
    have h8 := hml 3 rfl (by kernel_rfl)
    obtain ⟨j, hj, hjl, hj8⟩ := labFrom_is L x3 _ h8
    have hj' : labOf L k x3 = (j : Int) := hj
    have e : labTo L k x3 = nextFrom L j := by unfold labTo; rw [hj', Int.toNat_natCast]
    rw [e]
    refine ⟨rs_less S (regN x1) (regN x2) j rx1 ex1 rx2 ex2 hj' (by omega), fun _ => ?_⟩
    simp only [exec]
    split
    · exact I.plain (m1 := m) (G.lab j hjl hj8) rfl rfl rfl rfl (Nat.le_succ _)
    · exact I.plain (m1 := m) (hnext (by kernel_rfl)) rfl rfl rfl rfl (Nat.le_succ _)
  | same_ x1 x2 x3 hx1 hx2 hx3 =>
    rw [insQ_same L k _ x1 x2 x3 rfl]
    obtain ⟨rx1, ex1⟩ := reg_nat x1 hx1
    obtain ⟨rx2, ex2⟩ := reg_nat x2 hx2
    have h8 := hml 3 rfl (by kernel_rfl)
    obtain ⟨j, hj, hjl, hj8⟩ := labFrom_is L x3 _ h8
    have hj' : labOf L k x3 = (j : Int) := hj
    have e : labTo L k x3 = nextFrom L j := by unfold labTo; rw [hj', Int.toNat_natCast]
    rw [e]
    refine ⟨rs_same S (regN x1) (regN x2) j rx1 ex1 rx2 ex2 hj' (by omega), fun _ => ?_⟩
    simp only [exec]
    split
    · exact I.plain (m1 := m) (G.lab j hjl hj8) rfl rfl rfl rfl (Nat.le_succ _)
    · exact I.plain (m1 := m) (hnext (by kernel_rfl)) rfl rfl rfl rfl (Nat.le_succ _)
  | back_ =>
    rw [insQ_back L k _ rfl]
    refine ⟨rs_back S m.backs.length hnl hnb rfl, fun hz => ?_⟩
    simp only [exec] at hz ⊢
    split at hz
    · cases hz
    · rename_i hc
      rw [if_neg hc]
      have hs := I.steps
      have ho := I.out
      have hdl : m.backs.dropLast.length = m.backs.length - 1 := List.length_dropLast
      have hne : ¬ m.backs = [] := fun e => by rw [e] at hnl; simp at hnl; omega
      have hpos : 0 < m.backs.length := List.length_pos_iff.2 hne
      refine ⟨?_, ?_, ?_, ?_, I.peak, ?_, ?_⟩
      · show ValidAt L (m.backs.getLastD 0)
        rw [List.getLastD_eq_getLast?, List.getLast?_eq_some_getLast hne]
        exact I.backs _ (List.getLast_mem hne)
      · intro z hz'
        exact I.backs z ((List.dropLast_sublist m.backs).subset hz')
      · show m.frames - 1 = (m.backs.dropLast.length : Int) + 1
        omega
      · show m.backs.dropLast.length ≤ 15
        omega
      · show 0 ≤ m.steps + 1; omega
      · show (m.out.length : Int) ≤ m.steps + 1; omega
  | stop_ =>
    rw [insQ_stop L k _ rfl]
    exact ⟨rs_stop S, fun hz => by cases hz⟩

end Go.Proofs.YtfpgjkbjbbgciaaGreatDoor

namespace Go.Proofs.YtfpgjkbjbbgciaaGreatDoor
open Go.RowKit Sp

theorem firstFn_hit (L : List Said) (i : Nat) (h : i < L.length) (h2 : L[i].kind = 102) : firstFn L i = i := by rw [firstFn, dif_pos h, if_pos h2]
theorem firstFn_on (L : List Said) (i : Nat) (h : i < L.length) (h2 : ¬ L[i].kind = 102) : firstFn L i = firstFn L (i + 1) := by rw [firstFn, dif_pos h, if_neg h2]
theorem firstFn_is (L : List Said) (i p : Nat) (hp : p < L.length) (h2 : L[p].kind = 102) (hip : i ≤ p) (hz : ∀ j (h : j < L.length), i ≤ j → j < p → L[j].kind = 0) : firstFn L i = p := by
  by_cases e : i = p
  · subst e; exact firstFn_hit L i hp h2
  · have h0 := hz i (by omega) (by omega) (by omega)
    rw [firstFn_on L i (by omega) (by omega)]
    exact firstFn_is L (i + 1) p hp h2 (by omega) (fun j h ha hb => hz j h (by omega) hb)
termination_by p - i
theorem ref_new (w : World) (lv iv : Value) (to : Int) (inp : List Int) : RefM (w.alloc (.cells #[lv, .int .i64 to, .slice none 0 0, iv, .int .i64 0, .int .i64 0, .int .i64 0, .int .i64 0, .int .i64 0, .int .i64 0, .int .i64 0, .int .i64 0, .int .i64 0, .int .i64 0, .int .i64 0, .int .i64 0, .int .i64 0, .int .i64 0, .int .i64 0, .int .i64 0, .int .i64 0, .int .i64 0, .int .i64 0, .int .i64 0, .int .i64 0, .int .i64 0, .int .i64 0, .int .i64 0, .int .i64 0, .slice none 0 0, .int .i64 1, .int .i64 1, .int .i64 0, .int .i64 0] 99)) w.heap.size lv (.slice none 0 0) iv (.slice none 0 0) ⟨to, [], inp, 0, fun _ => 0, fun _ => 0, [], 1, 1, 0⟩ := by
  have h := World.cell?_alloc_new (w := w) #[lv, .int .i64 to, .slice none 0 0, iv, .int .i64 0, .int .i64 0, .int .i64 0, .int .i64 0, .int .i64 0, .int .i64 0, .int .i64 0, .int .i64 0, .int .i64 0, .int .i64 0, .int .i64 0, .int .i64 0, .int .i64 0, .int .i64 0, .int .i64 0, .int .i64 0, .int .i64 0, .int .i64 0, .int .i64 0, .int .i64 0, .int .i64 0, .int .i64 0, .int .i64 0, .int .i64 0, .int .i64 0, .slice none 0 0, .int .i64 1, .int .i64 1, .int .i64 0, .int .i64 0] 99
  refine ⟨h 0, h 1, h 2, h 3, h 4, fun i hi => ?_, fun i hi => ?_, h 29, h 30, h 31, h 32, h 33, fun o => fresh_fz w _ _ o⟩
  · have : i = 0 ∨ i = 1 ∨ i = 2 ∨ i = 3 ∨ i = 4 ∨ i = 5 ∨ i = 6 ∨ i = 7 := by omega
    rcases this with rfl | rfl | rfl | rfl | rfl | rfl | rfl | rfl
    · exact h 5
    · exact h 6
    · exact h 7
    · exact h 8
    · exact h 9
    · exact h 10
    · exact h 11
    · exact h 12
  · have : i = 0 ∨ i = 1 ∨ i = 2 ∨ i = 3 ∨ i = 4 ∨ i = 5 ∨ i = 6 ∨ i = 7 ∨ i = 8 ∨ i = 9 ∨ i = 10 ∨ i = 11 ∨ i = 12 ∨ i = 13 ∨ i = 14 ∨ i = 15 := by omega
    rcases this with rfl | rfl | rfl | rfl | rfl | rfl | rfl | rfl | rfl | rfl | rfl | rfl | rfl | rfl | rfl | rfl
    · exact h 13
    · exact h 14
    · exact h 15
    · exact h 16
    · exact h 17
    · exact h 18
    · exact h 19
    · exact h 20
    · exact h 21
    · exact h 22
    · exact h 23
    · exact h 24
    · exact h 25
    · exact h 26
    · exact h 27
    · exact h 28
set_option maxRecDepth 100000 in
set_option maxHeartbeats 4000000 in
theorem begin_any (w : World) (g cap2 p icap : Nat) (ao : Option Addr) (L : List Said) (inp : List Int) (hL : LinesIn w g L) (hn : L.length ≤ 300) (hp : p < L.length) (h2 : L[p].kind = 102) (hz : ∀ j (h : j < L.length), j < p → L[j].kind = 0) (to : Int) (hto : nextFrom L (p + 1) = to) (hiv : SlB w w.heap.size (.slice ao inp.length icap) inp) :
    Calls Tryz.prog 54 #[.slice (some ⟨g, 0, none⟩) L.length cap2, .slice ao inp.length icap] w fun e w' => e = .returned (.pointer (some ⟨w.heap.size, 0, none⟩)) ∧ RefAt w' w.heap.size g cap2 L ⟨to, [], inp, 0, fun _ => 0, fun _ => 0, [], 1, 1, 0⟩ (.slice none 0 0) (.slice ao inp.length icap) (.slice none 0 0) ∧ Below w.heap.size w w' := by
  have g1 : ∀ W, LinesIn W g L → Calls Tryz.prog 88 #[.slice (some ⟨g, 0, none⟩) L.length cap2, .int .i64 ((p : Int) + 1)] W fun e w' => e = .returned (.int .i64 to) ∧ w' = W := fun W hW => by
    have := next_any L g cap2 (p + 1) W hW (by omega) (by omega)
    rw [hto] at this
    simpa using this
  have hp0 : (0 : Int) ≤ (p : Int) := by omega
  have hp1 : (p : Int) < (L.length : Int) := by omega
  go_enter Tryz.func54, Tryz.ntmps54
  go_wp2
  go_loop [5] (fun t => ∃ j : Nat, j ≤ p ∧ t = .int .i64 (j : Int)) (fun t => p - (intOf t).toNat)
  case atStart => exact ⟨0, by omega, rfl⟩
  case round =>
    obtain ⟨j, hj, rfl⟩ := hrel
    have hjl : j < L.length := by omega
    have hc := hL.kind j hjl
    have hb := wf_kind (hL.wf j hjl)
    by_cases e : j = p
    · subst e
      have h102 : (L[j].kind != 102) = false := by simp [h2]
      go_wp2_with (first | (go_at_call 88; refine (g1 _ hL).mono ?_; rintro e wx ⟨rfl, hww⟩; have hw2 := hww.symm; subst hw2))
      go_ret
      have hb : Below w.heap.size w (w.alloc (.cells #[.slice (some ⟨g, 0, none⟩) L.length cap2, .int .i64 to, .slice none 0 0, .slice ao inp.length icap, .int .i64 0, .int .i64 0, .int .i64 0, .int .i64 0, .int .i64 0, .int .i64 0, .int .i64 0, .int .i64 0, .int .i64 0, .int .i64 0, .int .i64 0, .int .i64 0, .int .i64 0, .int .i64 0, .int .i64 0, .int .i64 0, .int .i64 0, .int .i64 0, .int .i64 0, .int .i64 0, .int .i64 0, .int .i64 0, .int .i64 0, .int .i64 0, .int .i64 0, .slice none 0 0, .int .i64 1, .int .i64 1, .int .i64 0, .int .i64 0] 99)) := (Below.refl _ _).alloc (Nat.le_refl _) _
      exact ⟨rfl, ⟨ref_new w _ _ to inp, World.ownsRow_nil _ _ _ _, World.ownsRow_nil _ _ _ _, hiv.below hb⟩, hb⟩
    · have h0 := hz j hjl (by omega)
      have h102 : (L[j].kind != 102) = true := by simp [h0]
      go_wp2
      go_round
      case rel => exact ⟨j + 1, by omega, by go_num⟩
      case measure => simp [intOf]; omega

end Go.Proofs.YtfpgjkbjbbgciaaGreatDoor

namespace Go.Proofs.YtfpgjkbjbbgciaaGreatDoor
open Go.RowKit Sp

/-- A state's cells, as they are told. -/
def stateL (m : Mc) (ov : Value) (line : Int) : List Value := [.int .i64 m.steps] ++ ((List.range 8).map (fun i => Value.int .i64 (m.regs i)) ++ ((List.range 16).map (fun i => Value.int .i64 (m.cells i)) ++ [ov, .int .i64 m.frames, .int .i64 m.peak, .int .i64 line, .int .i64 m.fin]))
theorem stateL_len (m : Mc) (ov : Value) (line : Int) : (stateL m ov line).length = 30 := by simp [stateL]
theorem stateL_one (m : Mc) (ao : Option Addr) (n c : Nat) (line : Int) : (stateL m (.slice ao n c) line).toArray.all (·.oneCell') = true := by
  refine all_oneCell_toArray fun v hv => ?_
  simp only [stateL, List.mem_append, List.mem_map, List.mem_cons, List.mem_nil_iff, or_false] at hv
  rcases hv with rfl | ⟨i, _, rfl⟩ | ⟨i, _, rfl⟩ | rfl | rfl | rfl | rfl | rfl <;> rfl
theorem stateL_28 (m : Mc) (ov : Value) (line : Int) : (stateL m ov line)[28]? = some (.int .i64 line) := by simp [stateL]
theorem stateL_29 (m : Mc) (ov : Value) (line : Int) : (stateL m ov line)[29]? = some (.int .i64 m.fin) := by simp [stateL]
theorem stateL_set (m : Mc) (ov : Value) (line l2 : Int) : (stateL m ov line).set 28 (.int .i64 l2) = stateL m ov l2 := by simp [stateL, List.range_succ]
/-- A list of cells, by its places. -/
theorem stateL_at (m : Mc) (ov : Value) (line : Int) (j : Nat) (v : Value) (h : (stateL m ov line)[j]? = some v) :
    (j = 0 ∧ v = .int .i64 m.steps) ∨ (∃ i, i < 8 ∧ j = 1 + i ∧ v = .int .i64 (m.regs i)) ∨ (∃ i, i < 16 ∧ j = 9 + i ∧ v = .int .i64 (m.cells i)) ∨ (j = 25 ∧ v = ov) ∨ (j = 26 ∧ v = .int .i64 m.frames) ∨ (j = 27 ∧ v = .int .i64 m.peak) ∨ (j = 28 ∧ v = .int .i64 line) ∨ (j = 29 ∧ v = .int .i64 m.fin) := by
  unfold stateL at h
  rw [List.getElem?_append] at h
  split at h
  · rename_i hj
    simp at hj; subst hj
    simp at h
    exact .inl ⟨rfl, h.symm⟩
  · rename_i hj
    simp at hj
    rw [List.getElem?_append] at h
    split at h
    · rename_i h8
      simp at h8
      simp [h8] at h
      exact .inr (.inl ⟨j - 1, h8, by omega, by simpa using h.symm⟩)
    · rename_i h8
      simp at h8
      rw [List.getElem?_append] at h
      split at h
      · rename_i h16
        simp at h16
        simp [h16] at h
        exact .inr (.inr (.inl ⟨j - 1 - 8, h16, by omega, by simpa using h.symm⟩))
      · rename_i h16
        simp at h16 h
        obtain ⟨q, hq⟩ : ∃ q, j = 25 + q := ⟨j - 25, by omega⟩
        subst hq
        have e : 25 + q - 1 - 8 - 16 = q := by omega
        rw [e] at h
        match q, h with
        | 0, h => simp at h; exact .inr (.inr (.inr (.inl ⟨rfl, h.symm⟩)))
        | 1, h => simp at h; exact .inr (.inr (.inr (.inr (.inl ⟨rfl, h.symm⟩))))
        | 2, h => simp at h; exact .inr (.inr (.inr (.inr (.inr (.inl ⟨rfl, h.symm⟩)))))
        | 3, h => simp at h; exact .inr (.inr (.inr (.inr (.inr (.inr (.inl ⟨rfl, h.symm⟩))))))
        | 4, h => simp at h; exact .inr (.inr (.inr (.inr (.inr (.inr (.inr ⟨rfl, h.symm⟩))))))
        | q + 5, h => simp at h
theorem RefM.range {w : World} {b : Nat} {lv bv iv ov : Value} {m : Mc} (h : RefM w b lv bv iv ov m) : w.rangeAt b 4 (stateL m ov 0) := by
  intro j v hv
  rcases stateL_at m ov 0 j v hv with ⟨rfl, rfl⟩ | ⟨i, hi, rfl, rfl⟩ | ⟨i, hi, rfl, rfl⟩ | ⟨rfl, rfl⟩ | ⟨rfl, rfl⟩ | ⟨rfl, rfl⟩ | ⟨rfl, rfl⟩ | ⟨rfl, rfl⟩
  · exact h.cS
  · rw [show 4 + (1 + i) = 5 + i by omega]; exact h.cR i hi
  · rw [show 4 + (9 + i) = 13 + i by omega]; exact h.cC i hi
  · exact h.cO
  · exact h.cF
  · exact h.cP
  · exact h.cA
  · exact h.cE
theorem range_set {w : World} {b o n : Nat} {cs : List Value} {v u : Value} (h : w.rangeAt b o cs) (hn : w.cell? ⟨b, o + n, none⟩ = some u) : (w.setCell ⟨b, o + n, none⟩ v).rangeAt b o (cs.set n v) := by
  intro j x hx
  by_cases e : j = n
  · subst e
    rw [List.getElem?_set] at hx
    split at hx
    · split at hx
      · rw [← Option.some.inj hx]; exact World.cell?_setCell_same w _ _ hn
      · cases hx
    · rename_i hne; exact absurd rfl hne
  · rw [List.getElem?_set_ne (by omega)] at hx
    rw [World.cell?_setCell_other]
    · exact h j x hx
    · simp
theorem there_set {w : World} {b o n : Nat} (h : w.there b o n) (p : Addr) (v : Value) : (w.setCell p v).there b o n := fun j hj => by
  obtain ⟨h1, h2⟩ := h j hj
  refine ⟨?_, by simpa using h2⟩
  obtain ⟨u, hu⟩ := Option.isSome_iff_exists.1 h1
  obtain ⟨x, hx⟩ := cell?_setCell_some (w := w) (p := p) (x := v) (q := ⟨b, o + j, none⟩) (v := u) hu
  rw [hx]; rfl
abbrev Z34 : Obj := .cells #[.int .i64 0, .int .i64 0, .int .i64 0, .int .i64 0, .int .i64 0, .int .i64 0, .int .i64 0, .int .i64 0, .int .i64 0, .int .i64 0, .int .i64 0, .int .i64 0, .int .i64 0, .int .i64 0, .int .i64 0, .int .i64 0, .int .i64 0, .int .i64 0, .int .i64 0, .int .i64 0, .int .i64 0, .int .i64 0, .int .i64 0, .int .i64 0, .int .i64 0, .slice none 0 0, .int .i64 0, .int .i64 0, .int .i64 0, .int .i64 0] 34
theorem z34_there (w : World) : (w.alloc Z34).there w.heap.size 0 30 := fun j hj => by
  refine ⟨?_, by simp⟩
  have h := World.cell?_alloc_new (w := w) #[.int .i64 0, .int .i64 0, .int .i64 0, .int .i64 0, .int .i64 0, .int .i64 0, .int .i64 0, .int .i64 0, .int .i64 0, .int .i64 0, .int .i64 0, .int .i64 0, .int .i64 0, .int .i64 0, .int .i64 0, .int .i64 0, .int .i64 0, .int .i64 0, .int .i64 0, .int .i64 0, .int .i64 0, .int .i64 0, .int .i64 0, .int .i64 0, .int .i64 0, .slice none 0 0, .int .i64 0, .int .i64 0, .int .i64 0, .int .i64 0] 34 (0 + j)
  rw [h, Array.getElem?_eq_getElem (by simpa using hj)]
  rfl
theorem results_cell1 {fn : Func} {a : Tmp} {t : TypeId} (h : fn.results = #[.cell a t]) (tmps : Array Value) (p : Addr) (hp : tmps.getD a undef = .pointer (some p)) {P : Program} {w : World} {v : Value} (hl : (loadVar t p).run P w = .ok v w) : (results fn tmps).run P w = .ok v w := by
  have hp2 : tmps[a]?.getD undef = .pointer (some p) := by simpa using hp
  simp [results, h, hp2, asAddr, hl]
theorem results_cell3 {fn : Func} {a b c : Tmp} {t : TypeId} (h : fn.results = #[.cell a t, .tmp b, .tmp c]) (tmps : Array Value) (p : Addr) (hp : tmps.getD a undef = .pointer (some p)) {P : Program} {w : World} {v : Value} (hl : (loadVar t p).run P w = .ok v w) : (results fn tmps).run P w = .ok (.tuple #[v, tmps.getD b undef, tmps.getD c undef]) w := by
  have hp2 : tmps[a]?.getD undef = .pointer (some p) := by simpa using hp
  simp [results, h, hp2, asAddr, hl]
theorem Tryz.info34 : (Tryz.prog.info? 34).map (·.size) = some 30 := by kernel_rfl
theorem setCells_below (l : List Value) {B b : Nat} {a w : World} (o : Nat) (h : Below B a w) (hb : B ≤ b) : Below B a (w.setCells b o l) := by
  induction l generalizing w o with
  | nil => exact h
  | cons x r ih => exact ih (o + 1) (h.setCell (p := ⟨b, o, none⟩) hb x)
theorem setCells_block (l : List Value) (w : World) (b o k : Nat) (h : ¬ k = b) : (w.setCells b o l).heap[k]? = w.heap[k]? := by
  induction l generalizing w o with
  | nil => rfl
  | cons x r ih =>
    show ((w.setCell ⟨b, o, none⟩ x).setCells b (o + 1) r).heap[k]? = _
    rw [ih, Below.heap_setCell _ _ _ _ h]
theorem setCells_size (l : List Value) (w : World) (b o : Nat) : (w.setCells b o l).heap.size = w.heap.size := by
  induction l generalizing w o with
  | nil => rfl
  | cons x r ih =>
    show ((w.setCell ⟨b, o, none⟩ x).setCells b (o + 1) r).heap.size = _
    rw [ih]; simp [World.setCell]

end Go.Proofs.YtfpgjkbjbbgciaaGreatDoor
