import Derived.Test.YtfpgjkbjbbgciaaGreatDoorMb27
import Derived.Test.YtfpgjkbjbbgciaaGreatDoorMb26
namespace Go.Proofs.YtfpgjkbjbbgciaaGreatDoor
open Go.RowKit Sp

set_option maxRecDepth 100000 in
set_option maxHeartbeats 4000000 in
theorem step_moved (w : World) (b wb wc nw g cap2 k : Nat) (bv iv ov : Value) (L : List Said) (m m' : Mc) (h : RefM w b (.slice (some ⟨g, 0, none⟩) L.length cap2) bv iv ov m) (hfin : m.fin = 0) (hat : m.at' = (k : Int)) (hk : k < L.length) (hn : L.length ≤ 300) (hL : LinesIn w g L) (hwd : w.cell? ⟨g, k * 2 + 1, none⟩ = some (.slice (some ⟨wb, 0, none⟩) nw wc)) (next : Int) (hnx : nextFrom L (k + 1) = next) (P : World → Value → Value → Value → Prop) (to z : Int) (hmv : ∀ n, Calls Tryz.prog 89 #[.pointer (some ⟨b, 0, none⟩), .slice (some ⟨wb, 0, none⟩) nw wc, .int .i64 next] (w.drewN n) fun e w' => e = .returned (.tuple #[.int .i64 to, .bool true]) ∧ ∃ bv' iv' ov', RefM w' b (.slice (some ⟨g, 0, none⟩) L.length cap2) bv' iv' ov' m' ∧ P w' bv' iv' ov') (hz : m'.fin = z) (hz3 : (z == 3) = false) (hz4 : (z == 4) = false) (hst : 0 ≤ m'.steps ∧ m'.steps ≤ 1000000) :
    Calls Tryz.prog 55 #[.pointer (some ⟨b, 0, none⟩)] w fun e w' => e = .returned (.bool true) ∧ ∃ w1 bv' iv' ov', RefM w' b (.slice (some ⟨g, 0, none⟩) L.length cap2) bv' iv' ov' (m'.goes to) ∧ P w1 bv' iv' ov' ∧ w1.grownBy w' (some b) := by
  have hce := h.cE
  rw [hfin] at hce
  have hcl := h.cL
  have hca := h.cAt
  rw [hat] at hca
  have hk0 : (0 : Int) ≤ (k : Int) := by omega
  have hk1 : (k : Int) < (L.length : Int) := by omega
  have hk2 : k * 2 ≤ 600 := by omega
  have g1 : ∀ W, LinesIn W g L → Calls Tryz.prog 88 #[.slice (some ⟨g, 0, none⟩) L.length cap2, .int .i64 ((k : Int) + 1)] W fun e w' => e = .returned (.int .i64 next) ∧ w' = W := fun W hW => by
    have := next_any L g cap2 (k + 1) W hW (by omega) (by omega)
    rw [hnx] at this
    simpa using this
  clear hnx
  go_enter Tryz.func55, Tryz.ntmps55
  go_wp2_with fail
  go_quiet (fail)
  replace h := h.drewN nq
  replace hL := hL.drewN nq
  have HV : Hid (∀ n, w.drewN (nq + n) = (w.drewN nq).drewN n) := fun n => by rw [World.drewN_drewN]
  replace hmv := fun n => hmv (nq + n)
  simp only [HV.out] at hmv
  clear hce hcl hca hwd HV
  generalize w.drewN nq = w1 at h hL hmv ⊢
  have hcl := h.cL
  have hca := h.cAt
  rw [hat] at hca
  go_wp2_with fail
  go_quiet (first | (go_at_call 88; exact Calls.quiet_of_same (g1 _ (hL.drewN _))))
  replace hmv := hmv nq
  clear hcl hca hL g1
  generalize w1.drewN nq = w2 at hmv ⊢
  go_wp2_with (first | (go_at_call 89; refine hmv.mono ?_; rintro e w3 ⟨rfl, bv', iv', ov', h3, hP⟩; have e3 := h3.cE; have s3 := h3.cS; have a3 := h3.cAt; have fs3 := h3.fz 4; have fa3 := h3.fz 1; rw [hz] at e3; obtain ⟨st0, st1⟩ := hst))
  go_ret
  exact ⟨rfl, w3, bv', iv', ov', (h3.setS _).setAt to, hP, grown_trans2 (grown_set (Below.refl _ _)) (grown_set (Below.refl _ _))⟩

set_option maxRecDepth 100000 in
set_option maxHeartbeats 4000000 in
theorem step_full (w : World) (b wb wc nw g cap2 k : Nat) (bv iv ov : Value) (L : List Said) (m m' : Mc) (h : RefM w b (.slice (some ⟨g, 0, none⟩) L.length cap2) bv iv ov m) (hfin : m.fin = 0) (hat : m.at' = (k : Int)) (hk : k < L.length) (hn : L.length ≤ 300) (hL : LinesIn w g L) (hwd : w.cell? ⟨g, k * 2 + 1, none⟩ = some (.slice (some ⟨wb, 0, none⟩) nw wc)) (next : Int) (hnx : nextFrom L (k + 1) = next) (P : World → Value → Value → Value → Prop) (to : Int) (hmv : ∀ n, Calls Tryz.prog 89 #[.pointer (some ⟨b, 0, none⟩), .slice (some ⟨wb, 0, none⟩) nw wc, .int .i64 next] (w.drewN n) fun e w' => e = .returned (.tuple #[.int .i64 to, .bool true]) ∧ ∃ bv' iv' ov', RefM w' b (.slice (some ⟨g, 0, none⟩) L.length cap2) bv' iv' ov' m' ∧ P w' bv' iv' ov') (hz : m'.fin = 4) :
    Calls Tryz.prog 55 #[.pointer (some ⟨b, 0, none⟩)] w fun e w' => e = .returned (.bool false) ∧ ∃ bv' iv' ov', RefM w' b (.slice (some ⟨g, 0, none⟩) L.length cap2) bv' iv' ov' m' ∧ P w' bv' iv' ov' := by
  have hce := h.cE
  rw [hfin] at hce
  have hcl := h.cL
  have hca := h.cAt
  rw [hat] at hca
  have hk0 : (0 : Int) ≤ (k : Int) := by omega
  have hk1 : (k : Int) < (L.length : Int) := by omega
  have hk2 : k * 2 ≤ 600 := by omega
  have g1 : ∀ W, LinesIn W g L → Calls Tryz.prog 88 #[.slice (some ⟨g, 0, none⟩) L.length cap2, .int .i64 ((k : Int) + 1)] W fun e w' => e = .returned (.int .i64 next) ∧ w' = W := fun W hW => by
    have := next_any L g cap2 (k + 1) W hW (by omega) (by omega)
    rw [hnx] at this
    simpa using this
  clear hnx
  go_enter Tryz.func55, Tryz.ntmps55
  go_wp2_with fail
  go_quiet (fail)
  replace h := h.drewN nq
  replace hL := hL.drewN nq
  have HV : Hid (∀ n, w.drewN (nq + n) = (w.drewN nq).drewN n) := fun n => by rw [World.drewN_drewN]
  replace hmv := fun n => hmv (nq + n)
  simp only [HV.out] at hmv
  clear hce hcl hca hwd HV
  generalize w.drewN nq = w1 at h hL hmv ⊢
  have hcl := h.cL
  have hca := h.cAt
  rw [hat] at hca
  go_wp2_with fail
  go_quiet (first | (go_at_call 88; exact Calls.quiet_of_same (g1 _ (hL.drewN _))))
  replace hmv := hmv nq
  clear hcl hca hL g1
  generalize w1.drewN nq = w2 at hmv ⊢
  go_wp2_with (first | (go_at_call 89; refine hmv.mono ?_; rintro e w3 ⟨rfl, bv', iv', ov', h3, hP⟩; have e3 := h3.cE; rw [hz] at e3))
  go_ret
  exact ⟨rfl, bv', iv', ov', h3, hP⟩

set_option maxRecDepth 100000 in
set_option maxHeartbeats 4000000 in
theorem step_done (w : World) (b wb wc nw g cap2 k : Nat) (bv iv ov : Value) (L : List Said) (m m' : Mc) (h : RefM w b (.slice (some ⟨g, 0, none⟩) L.length cap2) bv iv ov m) (hfin : m.fin = 0) (hat : m.at' = (k : Int)) (hk : k < L.length) (hn : L.length ≤ 300) (hL : LinesIn w g L) (hwd : w.cell? ⟨g, k * 2 + 1, none⟩ = some (.slice (some ⟨wb, 0, none⟩) nw wc)) (next : Int) (hnx : nextFrom L (k + 1) = next) (P : World → Value → Value → Value → Prop) (z : Int) (hmv : ∀ n, Calls Tryz.prog 89 #[.pointer (some ⟨b, 0, none⟩), .slice (some ⟨wb, 0, none⟩) nw wc, .int .i64 next] (w.drewN n) fun e w' => e = .returned (.tuple #[.int .i64 next, .bool false]) ∧ w' = w.drewN n) (hdo : ∀ n, Calls Tryz.prog 90 #[.pointer (some ⟨b, 0, none⟩), .slice (some ⟨wb, 0, none⟩) nw wc] (w.drewN n) fun e w' => e = .returned (.tuple #[]) ∧ ∃ bv' iv' ov', RefM w' b (.slice (some ⟨g, 0, none⟩) L.length cap2) bv' iv' ov' m' ∧ P w' bv' iv' ov') (hz : m'.fin = z) (hz3 : (z == 3) = false) (hz4 : (z == 4) = false) (hst : 0 ≤ m'.steps ∧ m'.steps ≤ 1000000) :
    Calls Tryz.prog 55 #[.pointer (some ⟨b, 0, none⟩)] w fun e w' => e = .returned (.bool true) ∧ ∃ w1 bv' iv' ov', RefM w' b (.slice (some ⟨g, 0, none⟩) L.length cap2) bv' iv' ov' (m'.goes next) ∧ P w1 bv' iv' ov' ∧ w1.grownBy w' (some b) := by
  have hce := h.cE
  rw [hfin] at hce
  have hcl := h.cL
  have hca := h.cAt
  rw [hat] at hca
  have hk0 : (0 : Int) ≤ (k : Int) := by omega
  have hk1 : (k : Int) < (L.length : Int) := by omega
  have hk2 : k * 2 ≤ 600 := by omega
  have g1 : ∀ W, LinesIn W g L → Calls Tryz.prog 88 #[.slice (some ⟨g, 0, none⟩) L.length cap2, .int .i64 ((k : Int) + 1)] W fun e w' => e = .returned (.int .i64 next) ∧ w' = W := fun W hW => by
    have := next_any L g cap2 (k + 1) W hW (by omega) (by omega)
    rw [hnx] at this
    simpa using this
  clear hnx
  go_enter Tryz.func55, Tryz.ntmps55
  go_wp2_with fail
  go_quiet (fail)
  replace h := h.drewN nq
  replace hL := hL.drewN nq
  have HV : Hid (∀ n, w.drewN (nq + n) = (w.drewN nq).drewN n) := fun n => by rw [World.drewN_drewN]
  replace hmv := fun n => hmv (nq + n)
  replace hdo := fun n => hdo (nq + n)
  simp only [HV.out] at hmv hdo
  clear hce hcl hca hwd HV
  generalize w.drewN nq = w1 at h hL hmv hdo ⊢
  have hcl := h.cL
  have hca := h.cAt
  rw [hat] at hca
  go_wp2_with fail
  go_quiet (first | (go_at_call 88; exact Calls.quiet_of_same (g1 _ (hL.drewN _))))
  replace hmv := hmv nq
  replace hdo := hdo nq
  clear hcl hca hL g1
  generalize w1.drewN nq = w2 at hmv hdo ⊢
  go_wp2_with (first | (go_at_call 89; refine hmv.mono ?_; rintro e wx ⟨rfl, hww⟩; have hw2 := hww.symm; subst hw2) | (go_at_call 90; refine hdo.mono ?_; rintro e w3 ⟨rfl, bv', iv', ov', h3, hP⟩; have e3 := h3.cE; have s3 := h3.cS; have a3 := h3.cAt; have fs3 := h3.fz 4; have fa3 := h3.fz 1; rw [hz] at e3; obtain ⟨st0, st1⟩ := hst))
  go_ret
  exact ⟨rfl, w3, bv', iv', ov', (h3.setS _).setAt next, hP, grown_trans2 (grown_set (Below.refl _ _)) (grown_set (Below.refl _ _))⟩

set_option maxRecDepth 100000 in
set_option maxHeartbeats 4000000 in
theorem step_stuck (w : World) (b wb wc nw g cap2 k : Nat) (bv iv ov : Value) (L : List Said) (m m' : Mc) (h : RefM w b (.slice (some ⟨g, 0, none⟩) L.length cap2) bv iv ov m) (hfin : m.fin = 0) (hat : m.at' = (k : Int)) (hk : k < L.length) (hn : L.length ≤ 300) (hL : LinesIn w g L) (hwd : w.cell? ⟨g, k * 2 + 1, none⟩ = some (.slice (some ⟨wb, 0, none⟩) nw wc)) (next : Int) (hnx : nextFrom L (k + 1) = next) (P : World → Value → Value → Value → Prop) (hmv : ∀ n, Calls Tryz.prog 89 #[.pointer (some ⟨b, 0, none⟩), .slice (some ⟨wb, 0, none⟩) nw wc, .int .i64 next] (w.drewN n) fun e w' => e = .returned (.tuple #[.int .i64 next, .bool false]) ∧ w' = w.drewN n) (hdo : ∀ n, Calls Tryz.prog 90 #[.pointer (some ⟨b, 0, none⟩), .slice (some ⟨wb, 0, none⟩) nw wc] (w.drewN n) fun e w' => e = .returned (.tuple #[]) ∧ ∃ bv' iv' ov', RefM w' b (.slice (some ⟨g, 0, none⟩) L.length cap2) bv' iv' ov' m' ∧ P w' bv' iv' ov') (hz : m'.fin = 3) :
    Calls Tryz.prog 55 #[.pointer (some ⟨b, 0, none⟩)] w fun e w' => e = .returned (.bool false) ∧ ∃ bv' iv' ov', RefM w' b (.slice (some ⟨g, 0, none⟩) L.length cap2) bv' iv' ov' m' ∧ P w' bv' iv' ov' := by
  have hce := h.cE
  rw [hfin] at hce
  have hcl := h.cL
  have hca := h.cAt
  rw [hat] at hca
  have hk0 : (0 : Int) ≤ (k : Int) := by omega
  have hk1 : (k : Int) < (L.length : Int) := by omega
  have hk2 : k * 2 ≤ 600 := by omega
  have g1 : ∀ W, LinesIn W g L → Calls Tryz.prog 88 #[.slice (some ⟨g, 0, none⟩) L.length cap2, .int .i64 ((k : Int) + 1)] W fun e w' => e = .returned (.int .i64 next) ∧ w' = W := fun W hW => by
    have := next_any L g cap2 (k + 1) W hW (by omega) (by omega)
    rw [hnx] at this
    simpa using this
  clear hnx
  go_enter Tryz.func55, Tryz.ntmps55
  go_wp2_with fail
  go_quiet (fail)
  replace h := h.drewN nq
  replace hL := hL.drewN nq
  have HV : Hid (∀ n, w.drewN (nq + n) = (w.drewN nq).drewN n) := fun n => by rw [World.drewN_drewN]
  replace hmv := fun n => hmv (nq + n)
  replace hdo := fun n => hdo (nq + n)
  simp only [HV.out] at hmv hdo
  clear hce hcl hca hwd HV
  generalize w.drewN nq = w1 at h hL hmv hdo ⊢
  have hcl := h.cL
  have hca := h.cAt
  rw [hat] at hca
  go_wp2_with fail
  go_quiet (first | (go_at_call 88; exact Calls.quiet_of_same (g1 _ (hL.drewN _))))
  replace hmv := hmv nq
  replace hdo := hdo nq
  clear hcl hca hL g1
  generalize w1.drewN nq = w2 at hmv hdo ⊢
  go_wp2_with (first | (go_at_call 89; refine hmv.mono ?_; rintro e wx ⟨rfl, hww⟩; have hw2 := hww.symm; subst hw2) | (go_at_call 90; refine hdo.mono ?_; rintro e w3 ⟨rfl, bv', iv', ov', h3, hP⟩; have e3 := h3.cE; rw [hz] at e3))
  go_ret
  exact ⟨rfl, bv', iv', ov', h3, hP⟩

end Go.Proofs.YtfpgjkbjbbgciaaGreatDoor

namespace Go.Proofs.YtfpgjkbjbbgciaaGreatDoor
open Go.RowKit Sp

set_option maxRecDepth 100000 in
set_option maxHeartbeats 4000000 in
theorem does_add (w : World) (b wb cap r s t : Nat) (lv bv iv ov : Value) (m : Mc) (x1 x2 x3 : ByteArray) (h : RefM w b lv bv iv ov m) (hw : WdIn w wb [⟨#[97, 100, 100]⟩, x1, x2, x3]) (_hne : ¬ wb = b) (hr : r < 8) (hreg : reg x1 = (r : Int)) (hs : s < 8) (hreg2 : reg x2 = (s : Int)) (ht : t < 8) (hreg3 : reg x3 = (t : Int)) (hx1 : x1.size ≤ 1048576) (hx2 : x2.size ≤ 1048576) (hx3 : x3.size ≤ 1048576) :
    Calls Tryz.prog 90 #[.pointer (some ⟨b, 0, none⟩), .slice (some ⟨wb, 0, none⟩) 4 cap] w fun e w' => e = .returned (.tuple #[]) ∧ RefM w' b lv bv iv ov { m with regs := upd m.regs r (reckonS 0 (m.regs s) (m.regs t)) } ∧ w.grownBy w' (some b) := by
  have c0 := hw 0 (by simp)
  have c1 := hw 1 (by simp)
  have c2 := hw 2 (by simp)
  have c3 := hw 3 (by simp)
  simp only [List.getElem_cons_zero, List.getElem_cons_succ] at c0 c1 c2 c3
  have hcr := h.cR r hr
  have hfz := h.fz (5 + r)
  have hr0 : (0 : Int) ≤ (r : Int) := by omega
  have hr8 : (r : Int) < 8 := by omega
  have g1 := reg_known x1 r hreg hx1
  have hcs := h.cR s hs
  have hs0 : (0 : Int) ≤ (s : Int) := by omega
  have hs8 : (s : Int) < 8 := by omega
  have hct := h.cR t ht
  have ht0 : (0 : Int) ≤ (t : Int) := by omega
  have ht8 : (t : Int) < 8 := by omega
  have g2 := reg_known x2 s hreg2 hx2
  have g3 := reg_known x3 t hreg3 hx3
  have g4 := fun W => reckon_add (m.regs s) (m.regs t) W
  generalize reckonS 0 (m.regs s) (m.regs t) = v at g4 ⊢
  go_enter Tryz.func90, Tryz.ntmps90
  go_wp2_with (first | (go_at_call 75; refine (g1 _).mono ?_; rintro e wx ⟨rfl, hww⟩; have hw2 := hww.symm; subst hw2))
  refine wp_quiet_tail 30 (by kernel_rfl) (by kernel_rfl) ?_
  simp only [List.take_succ_cons, List.take_zero, List.drop_succ_cons, List.drop_zero]
  repeat (go_big_quiet_step (first | (go_at_call 111; exact Calls.quiet_of_same (g4 _)) | (go_at_call_of 75 (Value.string x2); exact Calls.quiet_of_same (g2 _)) | (go_at_call_of 75 (Value.string x3); exact Calls.quiet_of_same (g3 _))))
  refine wpQuiet_nil ?_
  rintro _ ⟨nq, rfl⟩
  go_wp2
  go_end0
  exact ⟨rfl, (h.drewN nq).setR r hr _, grown_set (below_drewN _ _)⟩

end Go.Proofs.YtfpgjkbjbbgciaaGreatDoor

namespace Go.Proofs.YtfpgjkbjbbgciaaGreatDoor
open Go.RowKit Sp

set_option maxRecDepth 100000 in
set_option maxHeartbeats 4000000 in
theorem does_sub (w : World) (b wb cap r s t : Nat) (lv bv iv ov : Value) (m : Mc) (x1 x2 x3 : ByteArray) (h : RefM w b lv bv iv ov m) (hw : WdIn w wb [⟨#[115, 117, 98]⟩, x1, x2, x3]) (_hne : ¬ wb = b) (hr : r < 8) (hreg : reg x1 = (r : Int)) (hs : s < 8) (hreg2 : reg x2 = (s : Int)) (ht : t < 8) (hreg3 : reg x3 = (t : Int)) (hx1 : x1.size ≤ 1048576) (hx2 : x2.size ≤ 1048576) (hx3 : x3.size ≤ 1048576) :
    Calls Tryz.prog 90 #[.pointer (some ⟨b, 0, none⟩), .slice (some ⟨wb, 0, none⟩) 4 cap] w fun e w' => e = .returned (.tuple #[]) ∧ RefM w' b lv bv iv ov { m with regs := upd m.regs r (reckonS 1 (m.regs s) (m.regs t)) } ∧ w.grownBy w' (some b) := by
  have c0 := hw 0 (by simp)
  have c1 := hw 1 (by simp)
  have c2 := hw 2 (by simp)
  have c3 := hw 3 (by simp)
  simp only [List.getElem_cons_zero, List.getElem_cons_succ] at c0 c1 c2 c3
  have hcr := h.cR r hr
  have hfz := h.fz (5 + r)
  have hr0 : (0 : Int) ≤ (r : Int) := by omega
  have hr8 : (r : Int) < 8 := by omega
  have g1 := reg_known x1 r hreg hx1
  have hcs := h.cR s hs
  have hs0 : (0 : Int) ≤ (s : Int) := by omega
  have hs8 : (s : Int) < 8 := by omega
  have hct := h.cR t ht
  have ht0 : (0 : Int) ≤ (t : Int) := by omega
  have ht8 : (t : Int) < 8 := by omega
  have g2 := reg_known x2 s hreg2 hx2
  have g3 := reg_known x3 t hreg3 hx3
  have g4 := fun W => reckon_sub (m.regs s) (m.regs t) W
  generalize reckonS 1 (m.regs s) (m.regs t) = v at g4 ⊢
  go_enter Tryz.func90, Tryz.ntmps90
  go_wp2_with (first | (go_at_call 75; refine (g1 _).mono ?_; rintro e wx ⟨rfl, hww⟩; have hw2 := hww.symm; subst hw2))
  refine wp_quiet_tail 30 (by kernel_rfl) (by kernel_rfl) ?_
  simp only [List.take_succ_cons, List.take_zero, List.drop_succ_cons, List.drop_zero]
  repeat (go_big_quiet_step (first | (go_at_call 111; exact Calls.quiet_of_same (g4 _)) | (go_at_call_of 75 (Value.string x2); exact Calls.quiet_of_same (g2 _)) | (go_at_call_of 75 (Value.string x3); exact Calls.quiet_of_same (g3 _))))
  refine wpQuiet_nil ?_
  rintro _ ⟨nq, rfl⟩
  go_wp2
  go_end0
  exact ⟨rfl, (h.drewN nq).setR r hr _, grown_set (below_drewN _ _)⟩

end Go.Proofs.YtfpgjkbjbbgciaaGreatDoor

namespace Go.Proofs.YtfpgjkbjbbgciaaGreatDoor
open Go.RowKit Sp

set_option maxRecDepth 100000 in
set_option maxHeartbeats 4000000 in
theorem does_mul (w : World) (b wb cap r s t : Nat) (lv bv iv ov : Value) (m : Mc) (x1 x2 x3 : ByteArray) (h : RefM w b lv bv iv ov m) (hw : WdIn w wb [⟨#[109, 117, 108]⟩, x1, x2, x3]) (_hne : ¬ wb = b) (hr : r < 8) (hreg : reg x1 = (r : Int)) (hs : s < 8) (hreg2 : reg x2 = (s : Int)) (ht : t < 8) (hreg3 : reg x3 = (t : Int)) (hx1 : x1.size ≤ 1048576) (hx2 : x2.size ≤ 1048576) (hx3 : x3.size ≤ 1048576) :
    Calls Tryz.prog 90 #[.pointer (some ⟨b, 0, none⟩), .slice (some ⟨wb, 0, none⟩) 4 cap] w fun e w' => e = .returned (.tuple #[]) ∧ RefM w' b lv bv iv ov { m with regs := upd m.regs r (reckonS 2 (m.regs s) (m.regs t)) } ∧ w.grownBy w' (some b) := by
  have c0 := hw 0 (by simp)
  have c1 := hw 1 (by simp)
  have c2 := hw 2 (by simp)
  have c3 := hw 3 (by simp)
  simp only [List.getElem_cons_zero, List.getElem_cons_succ] at c0 c1 c2 c3
  have hcr := h.cR r hr
  have hfz := h.fz (5 + r)
  have hr0 : (0 : Int) ≤ (r : Int) := by omega
  have hr8 : (r : Int) < 8 := by omega
  have g1 := reg_known x1 r hreg hx1
  have hcs := h.cR s hs
  have hs0 : (0 : Int) ≤ (s : Int) := by omega
  have hs8 : (s : Int) < 8 := by omega
  have hct := h.cR t ht
  have ht0 : (0 : Int) ≤ (t : Int) := by omega
  have ht8 : (t : Int) < 8 := by omega
  have g2 := reg_known x2 s hreg2 hx2
  have g3 := reg_known x3 t hreg3 hx3
  have g4 := fun W => reckon_mul (m.regs s) (m.regs t) W
  generalize reckonS 2 (m.regs s) (m.regs t) = v at g4 ⊢
  go_enter Tryz.func90, Tryz.ntmps90
  go_wp2_with (first | (go_at_call 75; refine (g1 _).mono ?_; rintro e wx ⟨rfl, hww⟩; have hw2 := hww.symm; subst hw2))
  refine wp_quiet_tail 30 (by kernel_rfl) (by kernel_rfl) ?_
  simp only [List.take_succ_cons, List.take_zero, List.drop_succ_cons, List.drop_zero]
  repeat (go_big_quiet_step (first | (go_at_call 111; exact Calls.quiet_of_same (g4 _)) | (go_at_call_of 75 (Value.string x2); exact Calls.quiet_of_same (g2 _)) | (go_at_call_of 75 (Value.string x3); exact Calls.quiet_of_same (g3 _))))
  refine wpQuiet_nil ?_
  rintro _ ⟨nq, rfl⟩
  go_wp2
  go_end0
  exact ⟨rfl, (h.drewN nq).setR r hr _, grown_set (below_drewN _ _)⟩

end Go.Proofs.YtfpgjkbjbbgciaaGreatDoor
