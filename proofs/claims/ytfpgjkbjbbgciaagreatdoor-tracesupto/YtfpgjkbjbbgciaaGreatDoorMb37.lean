import Derived.Test.YtfpgjkbjbbgciaaGreatDoorMb36
import Derived.Test.YtfpgjkbjbbgciaaGreatDoorMb34
import Derived.Deep.MidRow
namespace Go.Proofs.YtfpgjkbjbbgciaaGreatDoor
open Go.RowKit Sp

set_option maxRecDepth 100000 in
set_option maxHeartbeats 4000000 in
theorem branch_true (w : World) (b : Nat) (bv iv ov : Value) (m : Mc) (to : Int) (h : MchM w b bv iv ov m) (h0 : 0 ≤ m.steps) (h1 : m.steps ≤ 100000) :
    Calls Tryz.prog 269 #[.pointer (some ⟨b, 0, none⟩), .bool true, .int .i64 to] w fun e w' => e = .returned (.tuple #[]) ∧ MchM w' b bv iv ov (m.goes to) ∧ w.grownBy w' (some b) := by
  go_enter Tryz.func269, Tryz.ntmps269
  go_wp2_with (first | (go_at_call 228; refine (mgoto_any w b bv iv ov m to h h0 h1).mono ?_; rintro e w2 ⟨rfl, hM, hg⟩))
  go_end0
  exact ⟨rfl, hM, hg⟩
set_option maxRecDepth 100000 in
set_option maxHeartbeats 4000000 in
theorem branch_false (w : World) (b : Nat) (bv iv ov : Value) (m : Mc) (to : Int) (h : MchM w b bv iv ov m) (h0 : 0 ≤ m.steps) (h1 : m.steps ≤ 100000) (ha : 0 ≤ m.at') (hb : m.at' ≤ 100000) :
    Calls Tryz.prog 269 #[.pointer (some ⟨b, 0, none⟩), .bool false, .int .i64 to] w fun e w' => e = .returned (.tuple #[]) ∧ MchM w' b bv iv ov (m.goes (m.at' + 1)) ∧ w.grownBy w' (some b) := by
  go_enter Tryz.func269, Tryz.ntmps269
  go_wp2_with (first | (go_at_call 225; refine (mgoon_any w b bv iv ov m h h0 h1 ha hb).mono ?_; rintro e w2 ⟨rfl, hM, hg⟩))
  go_end0
  exact ⟨rfl, hM, hg⟩
set_option maxRecDepth 100000 in
set_option maxHeartbeats 4000000 in
theorem do_jump (w : World) (b : Nat) (bv iv ov : Value) (m : Mc) (to : Int) (h : MchM w b bv iv ov m) (h0 : 0 ≤ m.steps) (h1 : m.steps ≤ 100000) :
    Calls Tryz.prog 265 #[.agg #[.int .i64 to], .pointer (some ⟨b, 0, none⟩)] w fun e w' => e = .returned (.tuple #[]) ∧ MchM w' b bv iv ov (exec (.jump to) (m.at' + 1) m) ∧ w.grownBy w' (some b) := by
  have h2 := h.alloc (.cells #[.int .i64 to] 185)
  go_enter Tryz.func265, Tryz.ntmps265
  go_wp2_with (first | (go_at_call 228; refine (mgoto_any _ b bv iv ov m to h2 h0 h1).mono ?_; rintro e w2 ⟨rfl, hM, hg⟩))
  go_end0
  exact ⟨rfl, hM, grown_trans2 (World.grownBy_alloc w _ _) hg⟩
set_option maxRecDepth 100000 in
set_option maxHeartbeats 4000000 in
theorem do_less (w : World) (b : Nat) (bv iv ov : Value) (m : Mc) (r s : Nat) (hr : r < 8) (hs : s < 8) (to : Int) (h : MchM w b bv iv ov m) (h0 : 0 ≤ m.steps) (h1 : m.steps ≤ 100000) (ha : 0 ≤ m.at') (hb : m.at' ≤ 100000) :
    Calls Tryz.prog 267 #[.agg #[.int .i64 (r : Int), .int .i64 (s : Int), .int .i64 to], .pointer (some ⟨b, 0, none⟩)] w fun e w' => e = .returned (.tuple #[]) ∧ MchM w' b bv iv ov (exec (.less r s to) (m.at' + 1) m) ∧ w.grownBy w' (some b) := by
  have hl := h.lt
  have h2 := h.alloc (.cells #[.int .i64 (r : Int), .int .i64 (s : Int), .int .i64 to] 187)
  have hcr := h2.cR r hr
  have hr0 : (0 : Int) ≤ (r : Int) := by omega
  have hr8 : (r : Int) < 8 := by omega
  have hcs := h2.cR s hs
  have hs0 : (0 : Int) ≤ (s : Int) := by omega
  have hs8 : (s : Int) < 8 := by omega
  have hne4 : ¬ w.heap.size = b := by omega
  have hne5 : ¬ b = w.heap.size := by omega
  show Calls _ _ _ _ fun e w' => _ ∧ MchM w' b bv iv ov (m.goes (if m.regs r < m.regs s then to else m.at' + 1)) ∧ _
  by_cases ht : m.regs r < m.regs s
  · rw [if_pos ht]
    have hd : m.regs r < m.regs s := ht
    go_enter Tryz.func267, Tryz.ntmps267
    go_wp2_with fail
    refine wp_quiet_tail 18 (by kernel_rfl) (by kernel_rfl) ?_
    simp only [List.take_succ_cons, List.take_zero, List.drop_succ_cons, List.drop_zero]
    repeat (go_big_quiet_step (fail))
    refine wpQuiet_nil ?_
    rintro _ ⟨nr, rfl⟩
    go_wp2_with (first | (go_at_call 269; refine (branch_true _ b bv iv ov m to (h2.drewN nr) h0 h1).mono ?_; rintro e w2 ⟨rfl, hM, hg⟩))
    go_end0
    exact ⟨rfl, hM, grown_trans2 (World.grownBy_alloc w _ _) (grown_drewN hg)⟩
  · rw [if_neg ht]
    have hd : decide (m.regs r < m.regs s) = false := by simpa using ht
    go_enter Tryz.func267, Tryz.ntmps267
    go_wp2_with fail
    refine wp_quiet_tail 18 (by kernel_rfl) (by kernel_rfl) ?_
    simp only [List.take_succ_cons, List.take_zero, List.drop_succ_cons, List.drop_zero]
    repeat (go_big_quiet_step (fail))
    refine wpQuiet_nil ?_
    rintro _ ⟨nr, rfl⟩
    go_wp2_with (first | (go_at_call 269; refine (branch_false _ b bv iv ov m to (h2.drewN nr) h0 h1 ha hb).mono ?_; rintro e w2 ⟨rfl, hM, hg⟩))
    go_end0
    exact ⟨rfl, hM, grown_trans2 (World.grownBy_alloc w _ _) (grown_drewN hg)⟩
set_option maxRecDepth 100000 in
set_option maxHeartbeats 4000000 in
theorem do_same (w : World) (b : Nat) (bv iv ov : Value) (m : Mc) (r s : Nat) (hr : r < 8) (hs : s < 8) (to : Int) (h : MchM w b bv iv ov m) (h0 : 0 ≤ m.steps) (h1 : m.steps ≤ 100000) (ha : 0 ≤ m.at') (hb : m.at' ≤ 100000) :
    Calls Tryz.prog 274 #[.agg #[.int .i64 (r : Int), .int .i64 (s : Int), .int .i64 to], .pointer (some ⟨b, 0, none⟩)] w fun e w' => e = .returned (.tuple #[]) ∧ MchM w' b bv iv ov (exec (.same r s to) (m.at' + 1) m) ∧ w.grownBy w' (some b) := by
  have hl := h.lt
  have h2 := h.alloc (.cells #[.int .i64 (r : Int), .int .i64 (s : Int), .int .i64 to] 188)
  have hcr := h2.cR r hr
  have hr0 : (0 : Int) ≤ (r : Int) := by omega
  have hr8 : (r : Int) < 8 := by omega
  have hcs := h2.cR s hs
  have hs0 : (0 : Int) ≤ (s : Int) := by omega
  have hs8 : (s : Int) < 8 := by omega
  have hne4 : ¬ w.heap.size = b := by omega
  have hne5 : ¬ b = w.heap.size := by omega
  show Calls _ _ _ _ fun e w' => _ ∧ MchM w' b bv iv ov (m.goes (if m.regs r = m.regs s then to else m.at' + 1)) ∧ _
  by_cases ht : m.regs r = m.regs s
  · rw [if_pos ht]
    have hd : (m.regs r == m.regs s) = true := by simpa using ht
    go_enter Tryz.func274, Tryz.ntmps274
    go_wp2_with fail
    refine wp_quiet_tail 18 (by kernel_rfl) (by kernel_rfl) ?_
    simp only [List.take_succ_cons, List.take_zero, List.drop_succ_cons, List.drop_zero]
    repeat (go_big_quiet_step (fail))
    refine wpQuiet_nil ?_
    rintro _ ⟨nr, rfl⟩
    go_wp2_with (first | (go_at_call 269; refine (branch_true _ b bv iv ov m to (h2.drewN nr) h0 h1).mono ?_; rintro e w2 ⟨rfl, hM, hg⟩))
    go_end0
    exact ⟨rfl, hM, grown_trans2 (World.grownBy_alloc w _ _) (grown_drewN hg)⟩
  · rw [if_neg ht]
    have hd : (m.regs r == m.regs s) = false := by simpa using ht
    go_enter Tryz.func274, Tryz.ntmps274
    go_wp2_with fail
    refine wp_quiet_tail 18 (by kernel_rfl) (by kernel_rfl) ?_
    simp only [List.take_succ_cons, List.take_zero, List.drop_succ_cons, List.drop_zero]
    repeat (go_big_quiet_step (fail))
    refine wpQuiet_nil ?_
    rintro _ ⟨nr, rfl⟩
    go_wp2_with (first | (go_at_call 269; refine (branch_false _ b bv iv ov m to (h2.drewN nr) h0 h1 ha hb).mono ?_; rintro e w2 ⟨rfl, hM, hg⟩))
    go_end0
    exact ⟨rfl, hM, grown_trans2 (World.grownBy_alloc w _ _) (grown_drewN hg)⟩
set_option maxRecDepth 100000 in
set_option maxHeartbeats 4000000 in
theorem do_stop (w : World) (b : Nat) (bv iv ov : Value) (m : Mc) (h : MchM w b bv iv ov m) (h0 : 0 ≤ m.steps) (h1 : m.steps ≤ 100000) :
    Calls Tryz.prog 288 #[.agg #[], .pointer (some ⟨b, 0, none⟩)] w fun e w' => e = .returned (.tuple #[]) ∧ MchM w' b bv iv ov ({ m with steps := m.steps + 1, fin := 1 }) ∧ w.grownBy w' (some b) := by
  have h2 := h.alloc (.cells #[] 193)
  go_enter Tryz.func288, Tryz.ntmps288
  go_wp2_with (first | (go_at_call 290; refine (mstop_any _ b bv iv ov m h2 h0 h1).mono ?_; rintro e w2 ⟨rfl, hM, hg⟩))
  go_end0
  exact ⟨rfl, hM, grown_trans2 (World.grownBy_alloc w _ _) hg⟩
set_option maxRecDepth 100000 in
set_option maxHeartbeats 4000000 in
theorem do_load_out (w : World) (b : Nat) (bv iv ov : Value) (m : Mc) (r s : Nat) (_hr : r < 8) (hs : s < 8) (h : MchM w b bv iv ov m) (hn : m.regs s < 0 ∨ 15 < m.regs s) :
    Calls Tryz.prog 251 #[.agg #[.int .i64 (r : Int), .int .i64 (s : Int)], .pointer (some ⟨b, 0, none⟩)] w fun e w' => e = .returned (.tuple #[]) ∧ MchM w' b bv iv ov (exec (.load r s) (m.at' + 1) m) ∧ w.grownBy w' (some b) := by
  have hl := h.lt
  have h2 := h.alloc (.cells #[.int .i64 (r : Int), .int .i64 (s : Int)] 176)
  have hcs := h2.cR s hs
  have hs0 : (0 : Int) ≤ (s : Int) := by omega
  have hs8 : (s : Int) < 8 := by omega
  have hne4 : ¬ w.heap.size = b := by omega
  have hne5 : ¬ b = w.heap.size := by omega
  have e1 : exec (.load r s) (m.at' + 1) m = { m with fin := 3 } := if_pos hn
  rw [e1]
  go_enter Tryz.func251, Tryz.ntmps251
  go_wp2_with fail
  refine wp_quiet_tail 8 (by kernel_rfl) (by kernel_rfl) ?_
  simp only [List.take_succ_cons, List.take_zero, List.drop_succ_cons, List.drop_zero]
  repeat (go_big_quiet_step (fail))
  refine wpQuiet_nil ?_
  rintro _ ⟨nr, rfl⟩
  go_wp2_with (first | (go_at_call 253; refine (mcell_out _ b bv iv ov m _ (h2.drewN nr) hn).mono ?_; rintro e w2 ⟨rfl, hM, hg⟩))
  go_end0
  exact ⟨rfl, hM, grown_trans2 (World.grownBy_alloc w _ _) (grown_drewN hg)⟩
set_option maxRecDepth 100000 in
set_option maxHeartbeats 4000000 in
theorem do_load_in (w : World) (b : Nat) (bv iv ov : Value) (m : Mc) (r s n0 : Nat) (hr : r < 8) (hs : s < 8) (hn16 : n0 < 16) (hn : m.regs s = (n0 : Int)) (h : MchM w b bv iv ov m) (h0 : 0 ≤ m.steps) (h1 : m.steps ≤ 100000) (ha : 0 ≤ m.at') (hb : m.at' ≤ 100000) :
    Calls Tryz.prog 251 #[.agg #[.int .i64 (r : Int), .int .i64 (s : Int)], .pointer (some ⟨b, 0, none⟩)] w fun e w' => e = .returned (.tuple #[]) ∧ MchM w' b bv iv ov (exec (.load r s) (m.at' + 1) m) ∧ w.grownBy w' (some b) := by
  have hl := h.lt
  have h2 := h.alloc (.cells #[.int .i64 (r : Int), .int .i64 (s : Int)] 176)
  have hcr := h2.cR r hr
  have hr0 : (0 : Int) ≤ (r : Int) := by omega
  have hr8 : (r : Int) < 8 := by omega
  have hcs := h2.cR s hs
  have hs0 : (0 : Int) ≤ (s : Int) := by omega
  have hs8 : (s : Int) < 8 := by omega
  have hne4 : ¬ w.heap.size = b := by omega
  have hne5 : ¬ b = w.heap.size := by omega
  have hcn := h2.cC n0 hn16
  have hfn := h2.fz (8 + n0)
  have hfr := h2.fz r
  have e1 : exec (.load r s) (m.at' + 1) m = { m with regs := upd m.regs r (m.cells n0) }.goes (m.at' + 1) := by
    show (if _ then _ else _) = _
    rw [if_neg (by omega), hn]; rfl
  rw [e1]
  have hx := fun n => (h2.drewN n).setR r hr (m.cells n0)
  have hcall := fun n => mcell_in ((w.alloc (.cells #[.int .i64 (r : Int), .int .i64 (s : Int)] 176)).drewN n) b n0 bv iv ov m (h2.drewN n) hn16
  rw [hn] at hcs
  go_enter Tryz.func251, Tryz.ntmps251
  go_wp2_with fail
  go_quiet (first | (go_at_call 253; exact Calls.quiet_of_same (hcall _)))
  go_wp2_with fail
  refine wp_quiet_tail 9 (by kernel_rfl) (by kernel_rfl) ?_
  simp only [List.take_succ_cons, List.take_zero, List.drop_succ_cons, List.drop_zero]
  repeat (go_big_quiet_step (fail))
  refine wpQuiet_nil ?_
  rintro _ ⟨nr, rfl⟩
  rw [World.drewN_drewN]
  go_wp2_with (first | (go_at_call 225; refine (mgoon_any _ b bv iv ov _ (hx (nq + nr)) h0 h1 ha hb).mono ?_; rintro e w2 ⟨rfl, hM, hg⟩))
  go_end0
  exact ⟨rfl, hM, grown_trans2 grown_alloc_set hg⟩
set_option maxRecDepth 100000 in
set_option maxHeartbeats 4000000 in
theorem do_store_out (w : World) (b : Nat) (bv iv ov : Value) (m : Mc) (r s : Nat) (hr : r < 8) (_hs : s < 8) (h : MchM w b bv iv ov m) (hn : m.regs r < 0 ∨ 15 < m.regs r) :
    Calls Tryz.prog 256 #[.agg #[.int .i64 (r : Int), .int .i64 (s : Int)], .pointer (some ⟨b, 0, none⟩)] w fun e w' => e = .returned (.tuple #[]) ∧ MchM w' b bv iv ov (exec (.store r s) (m.at' + 1) m) ∧ w.grownBy w' (some b) := by
  have hl := h.lt
  have h2 := h.alloc (.cells #[.int .i64 (r : Int), .int .i64 (s : Int)] 178)
  have hcr := h2.cR r hr
  have hr0 : (0 : Int) ≤ (r : Int) := by omega
  have hr8 : (r : Int) < 8 := by omega
  have hne4 : ¬ w.heap.size = b := by omega
  have hne5 : ¬ b = w.heap.size := by omega
  have e1 : exec (.store r s) (m.at' + 1) m = { m with fin := 3 } := if_pos hn
  rw [e1]
  go_enter Tryz.func256, Tryz.ntmps256
  go_wp2_with fail
  refine wp_quiet_tail 8 (by kernel_rfl) (by kernel_rfl) ?_
  simp only [List.take_succ_cons, List.take_zero, List.drop_succ_cons, List.drop_zero]
  repeat (go_big_quiet_step (fail))
  refine wpQuiet_nil ?_
  rintro _ ⟨nr, rfl⟩
  go_wp2_with (first | (go_at_call 253; refine (mcell_out _ b bv iv ov m _ (h2.drewN nr) hn).mono ?_; rintro e w2 ⟨rfl, hM, hg⟩))
  go_end0
  exact ⟨rfl, hM, grown_trans2 (World.grownBy_alloc w _ _) (grown_drewN hg)⟩
set_option maxRecDepth 100000 in
set_option maxHeartbeats 4000000 in
theorem do_store_in (w : World) (b : Nat) (bv iv ov : Value) (m : Mc) (r s n0 : Nat) (hr : r < 8) (hs : s < 8) (hn16 : n0 < 16) (hn : m.regs r = (n0 : Int)) (h : MchM w b bv iv ov m) (h0 : 0 ≤ m.steps) (h1 : m.steps ≤ 100000) (ha : 0 ≤ m.at') (hb : m.at' ≤ 100000) :
    Calls Tryz.prog 256 #[.agg #[.int .i64 (r : Int), .int .i64 (s : Int)], .pointer (some ⟨b, 0, none⟩)] w fun e w' => e = .returned (.tuple #[]) ∧ MchM w' b bv iv ov (exec (.store r s) (m.at' + 1) m) ∧ w.grownBy w' (some b) := by
  have hl := h.lt
  have h2 := h.alloc (.cells #[.int .i64 (r : Int), .int .i64 (s : Int)] 178)
  have hcr := h2.cR r hr
  have hr0 : (0 : Int) ≤ (r : Int) := by omega
  have hr8 : (r : Int) < 8 := by omega
  have hcs := h2.cR s hs
  have hs0 : (0 : Int) ≤ (s : Int) := by omega
  have hs8 : (s : Int) < 8 := by omega
  have hne4 : ¬ w.heap.size = b := by omega
  have hne5 : ¬ b = w.heap.size := by omega
  have hcn := h2.cC n0 hn16
  have hfn := h2.fz (8 + n0)
  have hfr := h2.fz r
  have e1 : exec (.store r s) (m.at' + 1) m = { m with cells := upd m.cells n0 (m.regs s) }.goes (m.at' + 1) := by
    show (if _ then _ else _) = _
    rw [if_neg (by omega), hn]; rfl
  rw [e1]
  have hx := fun n => (h2.drewN n).setC n0 hn16 (m.regs s)
  have hcall := fun n => mcell_in ((w.alloc (.cells #[.int .i64 (r : Int), .int .i64 (s : Int)] 178)).drewN n) b n0 bv iv ov m (h2.drewN n) hn16
  rw [hn] at hcr
  go_enter Tryz.func256, Tryz.ntmps256
  go_wp2_with fail
  go_quiet (first | (go_at_call 253; exact Calls.quiet_of_same (hcall _)))
  go_wp2_with fail
  refine wp_quiet_tail 9 (by kernel_rfl) (by kernel_rfl) ?_
  simp only [List.take_succ_cons, List.take_zero, List.drop_succ_cons, List.drop_zero]
  repeat (go_big_quiet_step (fail))
  refine wpQuiet_nil ?_
  rintro _ ⟨nr, rfl⟩
  rw [World.drewN_drewN]
  go_wp2_with (first | (go_at_call 225; refine (mgoon_any _ b bv iv ov _ (hx (nq + nr)) h0 h1 ha hb).mono ?_; rintro e w2 ⟨rfl, hM, hg⟩))
  go_end0
  exact ⟨rfl, hM, grown_trans2 grown_alloc_set hg⟩

end Go.Proofs.YtfpgjkbjbbgciaaGreatDoor

namespace Go.Proofs.YtfpgjkbjbbgciaaGreatDoor
open Go.RowKit Sp

theorem exec_facts (i : Ins) (next : Int) (m : Mc) (h : m.fin = 0) :
    (((exec i next m).fin = 0 ∧ (exec i next m).steps = m.steps + 1) ∨ (((exec i next m).fin = 1 ∨ (exec i next m).fin = 2) ∧ (exec i next m).at' = -1 ∧ (exec i next m).steps = m.steps + 1) ∨ (((exec i next m).fin = 3 ∨ (exec i next m).fin = 4) ∧ (exec i next m).at' = m.at' ∧ (exec i next m).steps = m.steps)) ∧ (exec i next m).inp.length ≤ m.inp.length := by
  cases i with
  | load r s =>
    simp only [exec]
    split
    · exact ⟨.inr (.inr ⟨.inl rfl, rfl, rfl⟩), Nat.le_refl _⟩
    · exact ⟨.inl ⟨h, rfl⟩, Nat.le_refl _⟩
  | store r s =>
    simp only [exec]
    split
    · exact ⟨.inr (.inr ⟨.inl rfl, rfl, rfl⟩), Nat.le_refl _⟩
    · exact ⟨.inl ⟨h, rfl⟩, Nat.le_refl _⟩
  | call to =>
    simp only [exec]
    split
    · exact ⟨.inr (.inr ⟨.inr rfl, rfl, rfl⟩), Nat.le_refl _⟩
    · exact ⟨.inl ⟨h, rfl⟩, Nat.le_refl _⟩
  | back =>
    simp only [exec]
    split
    · exact ⟨.inr (.inl ⟨.inr rfl, rfl, rfl⟩), Nat.le_refl _⟩
    · exact ⟨.inl ⟨h, rfl⟩, Nat.le_refl _⟩
  | stop => exact ⟨.inr (.inl ⟨.inl rfl, rfl, rfl⟩), Nat.le_refl _⟩
  | read r =>
    refine ⟨.inl ⟨h, rfl⟩, ?_⟩
    show m.inp.tail.length ≤ _
    simp
  | set r k => exact ⟨.inl ⟨h, rfl⟩, Nat.le_refl _⟩
  | mov r s => exact ⟨.inl ⟨h, rfl⟩, Nat.le_refl _⟩
  | alu o r s t => exact ⟨.inl ⟨h, rfl⟩, Nat.le_refl _⟩
  | inc r k => exact ⟨.inl ⟨h, rfl⟩, Nat.le_refl _⟩
  | write r => exact ⟨.inl ⟨h, rfl⟩, Nat.le_refl _⟩
  | jump to => exact ⟨.inl ⟨h, rfl⟩, Nat.le_refl _⟩
  | less r s to => exact ⟨.inl ⟨h, rfl⟩, Nat.le_refl _⟩
  | same r s to => exact ⟨.inl ⟨h, rfl⟩, Nat.le_refl _⟩
/-- Where the machine stands, however it ended. -/
def AtOk (L : List Said) (m : Mc) : Prop := ((m.fin = 1 ∨ m.fin = 2) ∧ m.at' = -1) ∨ ((m.fin = 0 ∨ m.fin = 3 ∨ m.fin = 4) ∧ ValidAt L m.at')
theorem stepL_is {L : List Said} {m : Mc} (h : ValidAt L m.at') : ∃ i next, stepL L m = exec i next m := by
  obtain ⟨k, hk, hlt, _⟩ := h
  refine ⟨insQ L k L[k], nextFrom L (k + 1), ?_⟩
  unfold stepL
  rw [hk, Int.toNat_natCast, List.getElem?_eq_getElem hlt]
theorem step_at {L : List Said} {m : Mc} (I : InvR L m) (h : m.fin = 0) (hI : (stepL L m).fin = 0 → InvR L (stepL L m)) :
    AtOk L (stepL L m) ∧ (((stepL L m).fin = 3 ∨ (stepL L m).fin = 4) ∧ (stepL L m).steps = m.steps ∨ ((stepL L m).fin = 0 ∨ (stepL L m).fin = 1 ∨ (stepL L m).fin = 2) ∧ (stepL L m).steps = m.steps + 1) ∧ (stepL L m).inp.length ≤ m.inp.length := by
  obtain ⟨i, next, e⟩ := stepL_is I.at_
  have F := exec_facts i next m h
  rw [← e] at F
  obtain ⟨F, hin⟩ := F
  refine ⟨?_, ?_, hin⟩
  · rcases F with ⟨h1, _⟩ | ⟨h1, h2, _⟩ | ⟨h1, h2, _⟩
    · exact .inr ⟨.inl h1, (hI h1).at_⟩
    · exact .inl ⟨h1, h2⟩
    · exact .inr ⟨.inr h1, by rw [h2]; exact I.at_⟩
  · rcases F with ⟨h1, h2⟩ | ⟨h1, _, h2⟩ | ⟨h1, _, h2⟩
    · exact .inr ⟨.inl h1, h2⟩
    · exact .inr ⟨.inr h1, h2⟩
    · exact .inl ⟨h1, h2⟩
set_option maxRecDepth 100000 in
theorem step_ended (w : World) (b : Nat) (lv bv iv ov : Value) (m : Mc) (h : RefM w b lv bv iv ov m) (hz : (m.fin != 0) = true) :
    Calls Tryz.prog 55 #[.pointer (some ⟨b, 0, none⟩)] w fun e w' => e = .returned (.bool false) ∧ w' = w := by
  have cE := h.cE
  generalize m.fin = z at cE hz
  go_enter Tryz.func55, Tryz.ntmps55
  go_wp2
  go_ret
  exact ⟨rfl, rfl⟩
theorem begin_inv {L : List Said} (G : Good L) (inp : List Int) : InvR L (beginL L inp) := by
  obtain ⟨p, hp, h2, hz⟩ := G.head
  have e : firstFn L 0 = p := firstFn_is L 0 p hp h2 (by omega) (fun j h _ hb => hz j h hb)
  refine ⟨?_, by simp [beginL], rfl, by simp [beginL], ⟨1, rfl, by omega⟩, Int.le_refl _, Int.le_refl _⟩
  show ValidAt L (nextFrom L (firstFn L 0 + 1))
  rw [e]
  exact G.fn p hp h2

end Go.Proofs.YtfpgjkbjbbgciaaGreatDoor

namespace Go.Proofs.YtfpgjkbjbbgciaaGreatDoor
open Go.RowKit Sp

/-- A slice of numbers that is only read. -/
def SlN (w : World) (v : Value) (l : List Int) : Prop := ∃ ao cap, v = .slice ao l.length cap ∧ (0 < l.length → ∃ g o, ao = some ⟨g, o, none⟩ ∧ ∀ j (h : j < l.length), w.cell? ⟨g, o + j, none⟩ = some (.int .i64 l[j]))
theorem SlN.drewN {w : World} {v : Value} {l : List Int} (h : SlN w v l) (n : Nat) : SlN (w.drewN n) v l := h
theorem SlN.of_row {w : World} {B _n : Nat} {v : Value} {l : List Int} (h : w.ownsRow B 2 1 v l.length (i64s l)) : SlN w v l := by
  obtain ⟨ao, cap, rfl⟩ := slice_of h
  refine ⟨ao, cap, rfl, fun hp => ?_⟩
  obtain ⟨g, c, e, _, _⟩ := h.form hp
  simp only [Value.slice.injEq, true_and] at e
  obtain ⟨rfl, rfl⟩ := e
  refine ⟨g, 0, rfl, fun j hj => ?_⟩
  rw [Nat.zero_add, World.ownsRow.cellAt h j (by omega)]
  simp [hj]
set_option maxRecDepth 100000 in
set_option maxHeartbeats 4000000 in
theorem same_numbers (w : World) (va vb : Value) (l : List Int) (ha : SlN w va l) (hb : SlN w vb l) (hn : l.length ≤ 1048577) :
    Calls Tryz.prog 19 #[va, vb] w fun e w' => e = .returned (.bool true) ∧ ∃ n, w' = w.drewN n := by
  obtain ⟨ao, ca, rfl, hra⟩ := ha
  obtain ⟨bo, cb, rfl, hrb⟩ := hb
  go_enter Tryz.func19, Tryz.ntmps19
  go_wp2
  go_loopw [5] (fun ti wr => ∃ j n : Nat, j ≤ l.length ∧ ti = .int .i64 (j : Int) ∧ wr = w.drewN n) (fun ti _ => l.length - (intOf ti).toNat)
  case atStart => exact ⟨0, 0, by omega, rfl, rfl⟩
  case round =>
    obtain ⟨j, n, hj, rfl, rfl⟩ := hrel
    by_cases hlt : j < l.length
    · obtain ⟨ga, oa, rfl, hca⟩ := hra (by omega)
      obtain ⟨gb, ob, rfl, hcb⟩ := hrb (by omega)
      have c1 : (w.drewN n).cell? ⟨ga, oa + j, none⟩ = some (.int .i64 l[j]) := hca j hlt
      have c2 : (w.drewN n).cell? ⟨gb, ob + j, none⟩ = some (.int .i64 l[j]) := hcb j hlt
      have hn' : ∀ k, (w.drewN n).drewN k = w.drewN (n + k) := fun k => by rw [World.drewN_drewN]
      have HN : Hid (∀ k, (w.drewN n).drewN k = w.drewN (n + k)) := hn'
      clear hn' hca hcb hra hrb
      have hj0 : (0 : Int) ≤ (j : Int) := by omega
      have hj1 : (j : Int) < (l.length : Int) := by omega
      generalize l[j] = x at c1 c2
      generalize w.drewN n = W at c1 c2 HN ⊢
      go_wp2_with fail
      go_quiet (fail)
      go_wp2
      go_roundw
      case rel => exact ⟨j + 1, _, by omega, by go_num, HN.out nq⟩
      case measure => simp [intOf]; omega
    · go_wp2
      go_ret
      exact ⟨rfl, n, rfl⟩

end Go.Proofs.YtfpgjkbjbbgciaaGreatDoor

namespace Go.Proofs.YtfpgjkbjbbgciaaGreatDoor
open Go.RowKit Sp

theorem one_cells2 (w : World) (a : Value) : ∀ j u, [a][j]? = some u → (w.alloc (.cells #[a] 2)).cell? ((⟨w.heap.size, 0, none⟩ : Addr).add j) = some u := by
  intro j u hj
  have h1 := World.cell?_alloc_new (w := w) #[a] 2 j
  have h2 : (⟨w.heap.size, 0, none⟩ : Addr).add j = ⟨w.heap.size, j, none⟩ := by simp [Addr.add]; omega
  rw [h2, h1]
  rw [← List.getElem?_toArray] at hj
  exact hj
set_option maxRecDepth 100000 in
set_option maxHeartbeats 4000000 in
theorem lent_some (w : World) (g o cap : Nat) (l : List Int) (hp : 0 < l.length) (hc : ∀ j (h : j < l.length), w.cell? ⟨g, o + j, none⟩ = some (.int .i64 l[j])) (hn : l.length ≤ 1048576) :
    Calls Tryz.prog 17 #[.slice (some ⟨g, o, none⟩) l.length cap] w fun e w' => ∃ v, e = .returned v ∧ w'.ownsRow w.heap.size 2 1 v (l.length + 1) (i64s (l ++ [-77])) ∧ Below w.heap.size w w' := by
  obtain ⟨i0, hi0, hz0, hz1, hz2⟩ := info_parts Tryz.info2
  have hnil := World.ownsRow_nil w w.heap.size 2 1
  have hnews : ∀ j u, (i64s l)[j]? = some u → w.cell? ((⟨g, o, none⟩ : Addr).add j) = some u := by
    intro j u hj
    rw [List.getElem?_map] at hj
    cases hq : l[j]? with
    | none => rw [hq] at hj; cases hj
    | some x =>
      rw [hq] at hj
      obtain ⟨hlt, hx⟩ := List.getElem?_eq_some_iff.1 hq
      have := hc j hlt
      rw [hx] at this
      rw [Addr.add_mid, this]
      exact hj
  have hone : ∀ u ∈ i64s l, u.oneCell' = true := by
    intro u hu
    obtain ⟨x, _, rfl⟩ := List.mem_map.1 hu
    rfl
  have hl : (i64s l).length = l.length * 1 := by simp
  go_enter Tryz.func17, Tryz.ntmps17
  go_wp2_with (first
    | (at_builtin; refine wpList_append_own _ rfl _ _ 29 rfl w.heap.size 2 i0 (.int .i64 0) 1 8 Tryz.under29 hi0 hz0 hz1 hz2 rfl (by decide) _ _ _ rfl hnil ⟨g, o, none⟩ l.length cap (i64s l) rfl hl hnews hone (by unfold maxLen; omega) (by omega) (Nat.le_refl _) ?_))
  intro v1 w1 hown1 hgrow1 _
  have hb1 : Below w.heap.size w w1 := (Below.refl _ _).grown hgrow1 (Nat.le_refl _) (fun j hj => by cases hj)
  go_wp2_with (first
    | (at_builtin; refine wpList_append_own _ rfl _ _ 29 rfl w.heap.size 2 i0 (.int .i64 0) 1 8 Tryz.under29 hi0 hz0 hz1 hz2 rfl (by decide) _ _ _ rfl (hown1.alloc _) ⟨w1.heap.size, 0, none⟩ 1 1 [.int .i64 (-77)] rfl rfl (one_cells2 _ _) (by simp [Value.oneCell']) (by unfold maxLen; omega) (by omega) (by have := hb1.size; simp; omega) ?_))
  intro v2 w2 hown2 hgrow2 _
  have hb2 : Below w.heap.size w w2 := (hb1.alloc hb1.size _).grown hgrow2 (by have := hb1.size; simp; omega) (fun j hj => (hown1.lt j hj).1)
  go_wp2
  go_ret
  exact ⟨v2, rfl, by simpa [i64s] using hown2, hb2⟩
set_option maxRecDepth 100000 in
set_option maxHeartbeats 4000000 in
theorem lent_none (w : World) (ao : Option Addr) (cap : Nat) :
    Calls Tryz.prog 17 #[.slice ao 0 cap] w fun e w' => ∃ v, e = .returned v ∧ w'.ownsRow w.heap.size 2 1 v 1 (i64s [-77]) ∧ Below w.heap.size w w' := by
  obtain ⟨i0, hi0, hz0, hz1, hz2⟩ := info_parts Tryz.info2
  go_enter Tryz.func17, Tryz.ntmps17
  cases ao with
  | none =>
    go_wp2_with (first
      | (at_builtin; refine wpList_append_own _ rfl _ _ 29 rfl w.heap.size 2 i0 (.int .i64 0) 1 8 Tryz.under29 hi0 hz0 hz1 hz2 rfl (by decide) _ _ _ rfl ((World.ownsRow_nil w w.heap.size 2 1).alloc _) ⟨w.heap.size, 0, none⟩ 1 1 [.int .i64 (-77)] rfl rfl (one_cells2 _ _) (by simp [Value.oneCell']) (by unfold maxLen; omega) (by omega) (by simp) ?_))
    intro v2 w2 hown2 hgrow2 _
    have hb2 : Below w.heap.size w w2 := ((Below.refl _ w).alloc (Nat.le_refl _) _).grown hgrow2 (by simp) (fun j hj => by cases hj)
    go_wp2
    go_ret
    exact ⟨v2, rfl, by simpa [i64s] using hown2, hb2⟩
  | some p =>
    go_wp2_with (first
      | (at_builtin; refine wpList_append_own _ rfl _ _ 29 rfl w.heap.size 2 i0 (.int .i64 0) 1 8 Tryz.under29 hi0 hz0 hz1 hz2 rfl (by decide) _ _ _ rfl ((World.ownsRow_nil w w.heap.size 2 1).alloc _) ⟨w.heap.size, 0, none⟩ 1 1 [.int .i64 (-77)] rfl rfl (one_cells2 _ _) (by simp [Value.oneCell']) (by unfold maxLen; omega) (by omega) (by simp) ?_))
    intro v2 w2 hown2 hgrow2 _
    have hb2 : Below w.heap.size w w2 := ((Below.refl _ w).alloc (Nat.le_refl _) _).grown hgrow2 (by simp) (fun j hj => by cases hj)
    go_wp2
    go_ret
    exact ⟨v2, rfl, by simpa [i64s] using hown2, hb2⟩
theorem lent_any (w : World) (v : Value) (l : List Int) (h : SlN w v l) (hn : l.length ≤ 1048576) :
    Calls Tryz.prog 17 #[v] w fun e w' => ∃ u, e = .returned u ∧ w'.ownsRow w.heap.size 2 1 u (l.length + 1) (i64s (l ++ [-77])) ∧ Below w.heap.size w w' := by
  obtain ⟨ao, cap, rfl, hr⟩ := h
  by_cases hp : 0 < l.length
  · obtain ⟨g, o, rfl, hc⟩ := hr hp
    exact lent_some w g o cap l hp hc hn
  · have hl : l = [] := List.eq_nil_of_length_eq_zero (by omega)
    subst hl
    exact lent_none w ao cap

end Go.Proofs.YtfpgjkbjbbgciaaGreatDoor
