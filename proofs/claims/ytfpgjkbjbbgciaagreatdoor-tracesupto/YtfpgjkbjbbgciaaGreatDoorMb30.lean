import Derived.Test.YtfpgjkbjbbgciaaGreatDoorMb29
namespace Go.Proofs.YtfpgjkbjbbgciaaGreatDoor
open Go.RowKit Sp

theorem rs_set {w : World} {b wb wc g cap2 k : Nat} {L : List Said} {m : Mc} {bv iv ov : Value} {next : Int} {x1 x2 : ByteArray} (S : RStep w b wb wc g cap2 k L m bv iv ov [⟨#[115, 101, 116]⟩, x1, x2] next) (r : Nat) (hr : r < 8) (hreg : reg x1 = (r : Int)) :
    Calls Tryz.prog 55 #[.pointer (some ⟨b, 0, none⟩)] w (StepPost w b g cap2 L (exec (.set r (numOf x2).1) next m)) := by
  exact S.does (fun n => moves_none (w.drewN n) b wb wc 2 [⟨#[115, 101, 116]⟩, x1, x2] next rfl (by decide) (S.words.drewN n) (by kernel_rfl) (by kernel_rfl) (by kernel_rfl) (by kernel_rfl) (by kernel_rfl) (by kernel_rfl))
    (fun n => does_set (w.drewN n) b wb wc r _ bv iv ov m x1 x2 (S.ref.mem.drewN n) (S.words.drewN n) S.apart hr hreg (S.sizes x1 (by simp)) (S.sizes x2 (by simp))) S.fin rfl rfl rfl rfl
theorem rs_mov {w : World} {b wb wc g cap2 k : Nat} {L : List Said} {m : Mc} {bv iv ov : Value} {next : Int} {x1 x2 : ByteArray} (S : RStep w b wb wc g cap2 k L m bv iv ov [⟨#[109, 111, 118]⟩, x1, x2] next) (r s : Nat) (hr : r < 8) (hreg : reg x1 = (r : Int)) (hs : s < 8) (hreg2 : reg x2 = (s : Int)) :
    Calls Tryz.prog 55 #[.pointer (some ⟨b, 0, none⟩)] w (StepPost w b g cap2 L (exec (.mov r s) next m)) := by
  exact S.does (fun n => moves_none (w.drewN n) b wb wc 2 [⟨#[109, 111, 118]⟩, x1, x2] next rfl (by decide) (S.words.drewN n) (by kernel_rfl) (by kernel_rfl) (by kernel_rfl) (by kernel_rfl) (by kernel_rfl) (by kernel_rfl))
    (fun n => does_mov (w.drewN n) b wb wc r s _ bv iv ov m x1 x2 (S.ref.mem.drewN n) (S.words.drewN n) S.apart hr hreg hs hreg2 (S.sizes x1 (by simp)) (S.sizes x2 (by simp))) S.fin rfl rfl rfl rfl
theorem rs_add {w : World} {b wb wc g cap2 k : Nat} {L : List Said} {m : Mc} {bv iv ov : Value} {next : Int} {x1 x2 x3 : ByteArray} (S : RStep w b wb wc g cap2 k L m bv iv ov [⟨#[97, 100, 100]⟩, x1, x2, x3] next) (r s t : Nat) (hr : r < 8) (hreg : reg x1 = (r : Int)) (hs : s < 8) (hreg2 : reg x2 = (s : Int)) (ht : t < 8) (hreg3 : reg x3 = (t : Int)) :
    Calls Tryz.prog 55 #[.pointer (some ⟨b, 0, none⟩)] w (StepPost w b g cap2 L (exec (.alu 0 r s t) next m)) := by
  exact S.does (fun n => moves_none (w.drewN n) b wb wc 3 [⟨#[97, 100, 100]⟩, x1, x2, x3] next rfl (by decide) (S.words.drewN n) (by kernel_rfl) (by kernel_rfl) (by kernel_rfl) (by kernel_rfl) (by kernel_rfl) (by kernel_rfl))
    (fun n => does_add (w.drewN n) b wb wc r s t _ bv iv ov m x1 x2 x3 (S.ref.mem.drewN n) (S.words.drewN n) S.apart hr hreg hs hreg2 ht hreg3 (S.sizes x1 (by simp)) (S.sizes x2 (by simp)) (S.sizes x3 (by simp))) S.fin rfl rfl rfl rfl
theorem rs_sub {w : World} {b wb wc g cap2 k : Nat} {L : List Said} {m : Mc} {bv iv ov : Value} {next : Int} {x1 x2 x3 : ByteArray} (S : RStep w b wb wc g cap2 k L m bv iv ov [⟨#[115, 117, 98]⟩, x1, x2, x3] next) (r s t : Nat) (hr : r < 8) (hreg : reg x1 = (r : Int)) (hs : s < 8) (hreg2 : reg x2 = (s : Int)) (ht : t < 8) (hreg3 : reg x3 = (t : Int)) :
    Calls Tryz.prog 55 #[.pointer (some ⟨b, 0, none⟩)] w (StepPost w b g cap2 L (exec (.alu 1 r s t) next m)) := by
  exact S.does (fun n => moves_none (w.drewN n) b wb wc 3 [⟨#[115, 117, 98]⟩, x1, x2, x3] next rfl (by decide) (S.words.drewN n) (by kernel_rfl) (by kernel_rfl) (by kernel_rfl) (by kernel_rfl) (by kernel_rfl) (by kernel_rfl))
    (fun n => does_sub (w.drewN n) b wb wc r s t _ bv iv ov m x1 x2 x3 (S.ref.mem.drewN n) (S.words.drewN n) S.apart hr hreg hs hreg2 ht hreg3 (S.sizes x1 (by simp)) (S.sizes x2 (by simp)) (S.sizes x3 (by simp))) S.fin rfl rfl rfl rfl
theorem rs_mul {w : World} {b wb wc g cap2 k : Nat} {L : List Said} {m : Mc} {bv iv ov : Value} {next : Int} {x1 x2 x3 : ByteArray} (S : RStep w b wb wc g cap2 k L m bv iv ov [⟨#[109, 117, 108]⟩, x1, x2, x3] next) (r s t : Nat) (hr : r < 8) (hreg : reg x1 = (r : Int)) (hs : s < 8) (hreg2 : reg x2 = (s : Int)) (ht : t < 8) (hreg3 : reg x3 = (t : Int)) :
    Calls Tryz.prog 55 #[.pointer (some ⟨b, 0, none⟩)] w (StepPost w b g cap2 L (exec (.alu 2 r s t) next m)) := by
  exact S.does (fun n => moves_none (w.drewN n) b wb wc 3 [⟨#[109, 117, 108]⟩, x1, x2, x3] next rfl (by decide) (S.words.drewN n) (by kernel_rfl) (by kernel_rfl) (by kernel_rfl) (by kernel_rfl) (by kernel_rfl) (by kernel_rfl))
    (fun n => does_mul (w.drewN n) b wb wc r s t _ bv iv ov m x1 x2 x3 (S.ref.mem.drewN n) (S.words.drewN n) S.apart hr hreg hs hreg2 ht hreg3 (S.sizes x1 (by simp)) (S.sizes x2 (by simp)) (S.sizes x3 (by simp))) S.fin rfl rfl rfl rfl
theorem rs_inc {w : World} {b wb wc g cap2 k : Nat} {L : List Said} {m : Mc} {bv iv ov : Value} {next : Int} {x1 x2 : ByteArray} (S : RStep w b wb wc g cap2 k L m bv iv ov [⟨#[105, 110, 99]⟩, x1, x2] next) (r : Nat) (hr : r < 8) (hreg : reg x1 = (r : Int)) :
    Calls Tryz.prog 55 #[.pointer (some ⟨b, 0, none⟩)] w (StepPost w b g cap2 L (exec (.inc r (numOf x2).1) next m)) := by
  exact S.does (fun n => moves_none (w.drewN n) b wb wc 2 [⟨#[105, 110, 99]⟩, x1, x2] next rfl (by decide) (S.words.drewN n) (by kernel_rfl) (by kernel_rfl) (by kernel_rfl) (by kernel_rfl) (by kernel_rfl) (by kernel_rfl))
    (fun n => does_inc (w.drewN n) b wb wc r _ bv iv ov m x1 x2 (S.ref.mem.drewN n) (S.words.drewN n) S.apart hr hreg (S.sizes x1 (by simp)) (S.sizes x2 (by simp))) S.fin rfl rfl rfl rfl
theorem rs_load {w : World} {b wb wc g cap2 k : Nat} {L : List Said} {m : Mc} {bv iv ov : Value} {next : Int} {x1 x2 : ByteArray} (S : RStep w b wb wc g cap2 k L m bv iv ov [⟨#[108, 111, 97, 100]⟩, x1, x2] next) (r s : Nat) (hr : r < 8) (hreg : reg x1 = (r : Int)) (hs : s < 8) (hreg2 : reg x2 = (s : Int)) :
    Calls Tryz.prog 55 #[.pointer (some ⟨b, 0, none⟩)] w (StepPost w b g cap2 L (exec (.load r s) next m)) := by
  by_cases hc : m.regs s < 0 ∨ 15 < m.regs s
  · rw [show exec (.load r s) next m = { m with fin := 3 } by simp only [exec]; rw [if_pos hc]]
    exact S.stuck (fun n => moves_none (w.drewN n) b wb wc 2 [⟨#[108, 111, 97, 100]⟩, x1, x2] next rfl (by decide) (S.words.drewN n) (by kernel_rfl) (by kernel_rfl) (by kernel_rfl) (by kernel_rfl) (by kernel_rfl) (by kernel_rfl))
      (fun n => does_load_out (w.drewN n) b wb wc r s _ bv iv ov m x1 x2 (S.ref.mem.drewN n) (S.words.drewN n) S.apart hr hreg hs hreg2 hc (S.sizes x1 (by simp)) (S.sizes x2 (by simp))) rfl rfl rfl rfl
  · rw [show exec (.load r s) next m = { m with regs := upd m.regs r (m.cells (m.regs s).toNat) }.goes next by simp only [exec]; rw [if_neg hc]]
    have hn : m.regs s = ((m.regs s).toNat : Int) := by omega
    exact S.does (fun n => moves_none (w.drewN n) b wb wc 2 [⟨#[108, 111, 97, 100]⟩, x1, x2] next rfl (by decide) (S.words.drewN n) (by kernel_rfl) (by kernel_rfl) (by kernel_rfl) (by kernel_rfl) (by kernel_rfl) (by kernel_rfl))
      (fun n => does_load_in (w.drewN n) b wb wc r s (m.regs s).toNat _ bv iv ov m x1 x2 (S.ref.mem.drewN n) (S.words.drewN n) S.apart hr hreg hs hreg2 hn (by omega) (S.sizes x1 (by simp)) (S.sizes x2 (by simp))) S.fin rfl rfl rfl rfl
theorem rs_store {w : World} {b wb wc g cap2 k : Nat} {L : List Said} {m : Mc} {bv iv ov : Value} {next : Int} {x1 x2 : ByteArray} (S : RStep w b wb wc g cap2 k L m bv iv ov [⟨#[115, 116, 111, 114, 101]⟩, x1, x2] next) (r s : Nat) (hr : r < 8) (hreg : reg x1 = (r : Int)) (hs : s < 8) (hreg2 : reg x2 = (s : Int)) :
    Calls Tryz.prog 55 #[.pointer (some ⟨b, 0, none⟩)] w (StepPost w b g cap2 L (exec (.store r s) next m)) := by
  by_cases hc : m.regs r < 0 ∨ 15 < m.regs r
  · rw [show exec (.store r s) next m = { m with fin := 3 } by simp only [exec]; rw [if_pos hc]]
    exact S.stuck (fun n => moves_none (w.drewN n) b wb wc 2 [⟨#[115, 116, 111, 114, 101]⟩, x1, x2] next rfl (by decide) (S.words.drewN n) (by kernel_rfl) (by kernel_rfl) (by kernel_rfl) (by kernel_rfl) (by kernel_rfl) (by kernel_rfl))
      (fun n => does_store_out (w.drewN n) b wb wc r _ bv iv ov m x1 x2 (S.ref.mem.drewN n) (S.words.drewN n) S.apart hr hreg hc (S.sizes x1 (by simp)) (S.sizes x2 (by simp))) rfl rfl rfl rfl
  · rw [show exec (.store r s) next m = { m with cells := upd m.cells (m.regs r).toNat (m.regs s) }.goes next by simp only [exec]; rw [if_neg hc]]
    have hn : m.regs r = ((m.regs r).toNat : Int) := by omega
    exact S.does (fun n => moves_none (w.drewN n) b wb wc 2 [⟨#[115, 116, 111, 114, 101]⟩, x1, x2] next rfl (by decide) (S.words.drewN n) (by kernel_rfl) (by kernel_rfl) (by kernel_rfl) (by kernel_rfl) (by kernel_rfl) (by kernel_rfl))
      (fun n => does_store_in (w.drewN n) b wb wc r s (m.regs r).toNat _ bv iv ov m x1 x2 (S.ref.mem.drewN n) (S.words.drewN n) S.apart hr hreg hs hreg2 hn (by omega) (S.sizes x1 (by simp)) (S.sizes x2 (by simp))) S.fin rfl rfl rfl rfl
theorem rs_jump {w : World} {b wb wc g cap2 k : Nat} {L : List Said} {m : Mc} {bv iv ov : Value} {next : Int} {x : ByteArray} (S : RStep w b wb wc g cap2 k L m bv iv ov [⟨#[106, 117, 109, 112]⟩, x] next) (j : Nat) (hlab : labOf L k x = (j : Int)) (hj : j ≤ L.length) :
    Calls Tryz.prog 55 #[.pointer (some ⟨b, 0, none⟩)] w (StepPost w b g cap2 L (exec (.jump (nextFrom L j)) next m)) := by
  exact S.moves (m1 := m) (nextFrom L j) 0 (fun n => (moves_jump (w.drewN n) b wb wc g cap2 k bv iv ov L m x next j (S.ref.mem.drewN n) (S.lines.drewN n) S.few S.lt S.at_ (S.words.drewN n) hlab hj).mono (by
    rintro e w' ⟨h1, q, rfl⟩
    exact ⟨h1, (S.ref.mem.drewN n).drewN q, ⟨rfl, rfl, rfl, Nat.le_refl _, fun _ _ _ => rfl⟩⟩)) S.fin (.inl rfl) rfl rfl rfl rfl
theorem rs_less {w : World} {b wb wc g cap2 k : Nat} {L : List Said} {m : Mc} {bv iv ov : Value} {next : Int} {x1 x2 x3 : ByteArray} (S : RStep w b wb wc g cap2 k L m bv iv ov [⟨#[108, 101, 115, 115]⟩, x1, x2, x3] next) (r s j : Nat) (hr : r < 8) (hreg : reg x1 = (r : Int)) (hs : s < 8) (hreg2 : reg x2 = (s : Int)) (hlab : labOf L k x3 = (j : Int)) (hj : j ≤ L.length) :
    Calls Tryz.prog 55 #[.pointer (some ⟨b, 0, none⟩)] w (StepPost w b g cap2 L (exec (.less r s (nextFrom L j)) next m)) := by
  by_cases hc : m.regs r < m.regs s
  · rw [show exec (.less r s (nextFrom L j)) next m = m.goes (nextFrom L j) by simp only [exec]; rw [if_pos hc]]
    exact S.moves (m1 := m) (nextFrom L j) 0 (fun n => (moves_less_yes (w.drewN n) b wb wc g cap2 k bv iv ov L m x1 x2 x3 next j r s (S.ref.mem.drewN n) (S.lines.drewN n) S.few S.lt S.at_ (S.words.drewN n) hlab hj hr hreg hs hreg2 (S.sizes x1 (by simp)) (S.sizes x2 (by simp)) hc).mono (by
      rintro e w' ⟨h1, q, rfl⟩
      exact ⟨h1, (S.ref.mem.drewN n).drewN q, ⟨rfl, rfl, rfl, Nat.le_refl _, fun _ _ _ => rfl⟩⟩)) S.fin (.inl rfl) rfl rfl rfl rfl
  · rw [show exec (.less r s (nextFrom L j)) next m = m.goes next by simp only [exec]; rw [if_neg hc]]
    exact S.moves (m1 := m) next 0 (fun n => (moves_less_no (w.drewN n) b wb wc g cap2 k bv iv ov L m x1 x2 x3 next j r s (S.ref.mem.drewN n) (S.lines.drewN n) S.few S.lt S.at_ (S.words.drewN n) hlab hj hr hreg hs hreg2 (S.sizes x1 (by simp)) (S.sizes x2 (by simp)) hc).mono (by
      rintro e w' ⟨h1, q, rfl⟩
      exact ⟨h1, (S.ref.mem.drewN n).drewN q, ⟨rfl, rfl, rfl, Nat.le_refl _, fun _ _ _ => rfl⟩⟩)) S.fin (.inl rfl) rfl rfl rfl rfl
theorem rs_same {w : World} {b wb wc g cap2 k : Nat} {L : List Said} {m : Mc} {bv iv ov : Value} {next : Int} {x1 x2 x3 : ByteArray} (S : RStep w b wb wc g cap2 k L m bv iv ov [⟨#[115, 97, 109, 101]⟩, x1, x2, x3] next) (r s j : Nat) (hr : r < 8) (hreg : reg x1 = (r : Int)) (hs : s < 8) (hreg2 : reg x2 = (s : Int)) (hlab : labOf L k x3 = (j : Int)) (hj : j ≤ L.length) :
    Calls Tryz.prog 55 #[.pointer (some ⟨b, 0, none⟩)] w (StepPost w b g cap2 L (exec (.same r s (nextFrom L j)) next m)) := by
  by_cases hc : m.regs r = m.regs s
  · rw [show exec (.same r s (nextFrom L j)) next m = m.goes (nextFrom L j) by simp only [exec]; rw [if_pos hc]]
    exact S.moves (m1 := m) (nextFrom L j) 0 (fun n => (moves_same_yes (w.drewN n) b wb wc g cap2 k bv iv ov L m x1 x2 x3 next j r s (S.ref.mem.drewN n) (S.lines.drewN n) S.few S.lt S.at_ (S.words.drewN n) hlab hj hr hreg hs hreg2 (S.sizes x1 (by simp)) (S.sizes x2 (by simp)) hc).mono (by
      rintro e w' ⟨h1, q, rfl⟩
      exact ⟨h1, (S.ref.mem.drewN n).drewN q, ⟨rfl, rfl, rfl, Nat.le_refl _, fun _ _ _ => rfl⟩⟩)) S.fin (.inl rfl) rfl rfl rfl rfl
  · rw [show exec (.same r s (nextFrom L j)) next m = m.goes next by simp only [exec]; rw [if_neg hc]]
    exact S.moves (m1 := m) next 0 (fun n => (moves_same_no (w.drewN n) b wb wc g cap2 k bv iv ov L m x1 x2 x3 next j r s (S.ref.mem.drewN n) (S.lines.drewN n) S.few S.lt S.at_ (S.words.drewN n) hlab hj hr hreg hs hreg2 (S.sizes x1 (by simp)) (S.sizes x2 (by simp)) hc).mono (by
      rintro e w' ⟨h1, q, rfl⟩
      exact ⟨h1, (S.ref.mem.drewN n).drewN q, ⟨rfl, rfl, rfl, Nat.le_refl _, fun _ _ _ => rfl⟩⟩)) S.fin (.inl rfl) rfl rfl rfl rfl
theorem rs_stop {w : World} {b wb wc g cap2 k : Nat} {L : List Said} {m : Mc} {bv iv ov : Value} {next : Int} (S : RStep w b wb wc g cap2 k L m bv iv ov [⟨#[115, 116, 111, 112]⟩] next)  :
    Calls Tryz.prog 55 #[.pointer (some ⟨b, 0, none⟩)] w (StepPost w b g cap2 L (exec .stop next m)) := by
  exact S.moves (m1 := { m with fin := 1 }) (-1) 1 (fun n => moves_stop (w.drewN n) b wb wc _ bv iv ov m next (S.ref.mem.drewN n) (S.words.drewN n)) rfl (.inr (.inl rfl)) rfl rfl rfl rfl

end Go.Proofs.YtfpgjkbjbbgciaaGreatDoor
