import Derived.StillTail
import Derived.BigQuiet
import Derived.Test.YtfpgjkbjbbgciaaGreatDoorMb26
/- A region that draws its order: a head that only reads (calls of functions that only read with it), and a tail that every order leaves to the end. One walk serves. -/
namespace Go.Proofs.YtfpgjkbjbbgciaaGreatDoor

section
variable {P : Program} {ops : Array Oper} {md : Region.Mode} {C : World → Prop}

/-- Whatever order is picked, as long as the head lasts. -/
def anyHead (P : Program) (md : Region.Mode) (ops : Array Oper) (C : World → Prop) (n : Nat) (L : Array Bool → Act → Prop) : Nat → Array Bool → Act → Prop
  | 0, listed, a => L listed a
  | f + 1, listed, a => ¬ Region.ready md ops listed = [] ∧ ∀ i ∈ Region.ready md ops listed, i < n ∧ qOp P ops C i (anyHead P md ops C n L f (listed.setIfInBounds i true)) a

theorem any_of_head {n g : Nat} {L : Array Bool → Act → Prop} {Q : Exit → Act → World → Prop} (hL : ∀ listed a w, C w → L listed a → wpAny P md ops Q g listed a w) (f : Nat) :
    ∀ (listed : Array Bool) (a : Act) (w : World), C w → anyHead P md ops C n L f listed a → wpAny P md ops Q (f + g) listed a w := by
  induction f with
  | zero => intro listed a w hw h; rw [Nat.zero_add]; exact hL _ _ _ hw h
  | succ f ih =>
    intro listed a w hw h
    rw [show f + 1 + g = (f + g) + 1 by omega]
    exact ⟨fun h0 => absurd h0 h.1, fun i hi => wpOp_of_qOp hw (fun a' w' hw' h' => ih _ a' w' hw' h') (h.2 i hi).2⟩

theorem head_below {n i : Nat} {listed : Array Bool} (hs : Region.sinkB md ops n = true) (hc : Region.chainB md ops n = true) (hn : n < ops.size) (hin : i < n) (inv : HeadInv md ops n listed) (hr : i ∈ Region.ready md ops listed) {j : Nat} (hj : j ∈ Region.ready md ops listed) : j < n := by
  by_cases h : j < n
  · exact h
  · exact absurd hj (tail_waits hs hc hn inv _ i rfl hin (mem_ready.1 hr).1 j (by omega))

theorem head_first {n i : Nat} {oi : Oper} {v : Value} {L : Array Bool → Act → Prop} (hi : ops[i]? = some oi) (hsel : ∀ (j : Nat) (o : Oper) cs b, ops[j]? = some o → o.op ≠ .select cs b)
    (hs : Region.sinkB md ops n = true) (hc : Region.chainB md ops n = true) (hn : n < ops.size) (hin : i < n)
    (hdone : ∀ listed a, L listed a → ∀ j ∈ Region.ready md ops listed, n ≤ j) (f : Nat) :
    ∀ (listed : Array Bool) (a : Act), HeadInv md ops n listed →
      (∀ j oj, ops[j]? = some oj → j ≠ i → listed.getD j true = false → (∀ e ∈ oj.after, Region.binds md e = true → e.on ≠ i) → oi.apart ops oj = true) →
      i ∈ Region.ready md ops listed → YieldsIn P ops C oi v a →
      anyHead P md ops C n L f (listed.setIfInBounds i true) (a.put oi.dst v) → anyHead P md ops C n L (f + 1) listed a := by
  induction f with
  | zero =>
    intro listed a inv _ hr hy H
    refine ⟨fun h => (by rw [h] at hr; cases hr), fun j hj => ?_⟩
    have hjn := head_below hs hc hn hin inv hr hj
    by_cases e : j = i
    · exact ⟨hjn, by rw [e]; exact hy.qOp hi H⟩
    · have := hdone _ _ H j (ready_mono hj e); omega
  | succ f ih =>
    intro listed a inv hfree hr hy H
    refine ⟨fun h => (by rw [h] at hr; cases hr), fun j hj => ?_⟩
    have hjn := head_below hs hc hn hin inv hr hj
    by_cases e : j = i
    · exact ⟨hjn, by rw [e]; exact hy.qOp hi H⟩
    · obtain ⟨hjun, oj, hoj, hall⟩ := mem_ready.1 hj
      have hun := (mem_ready.1 hr).1
      have hnot : ∀ d ∈ oj.after, Region.binds md d = true → d.on ≠ i := fun d hd hb heq => by
        have h1 := hall d hd hb
        rw [heq, getD_both hun] at h1
        cases h1
      have h2 := qOp_put hoj (hfree j oj hoj e hjun hnot) (fun cs b => hsel i oi cs b hi) (fun cs b => hsel j oj cs b hoj) hy (H.2 j (ready_mono hj e)).2
      refine ⟨hjn, qOp_mono (fun a' h3 => ih (listed.setIfInBounds j true) a' (inv.set hj hjn) (fun k ok hk hki hku hno => ?_) (ready_mono hr (Ne.symm e)) h3.1 (by rw [Array.setIfInBounds_comm _ _ e]; exact h3.2)) h2⟩
      refine hfree k ok hk hki ?_ hno
      by_cases hjk : j = k
      · rw [← hjk]; exact hjun
      · rw [getD_set_ne true hjk] at hku; exact hku

theorem head_lex {n g : Nat} {R : Act → Prop} (hsel : Region.noSelect ops = true) (hs : Region.sinkB md ops n = true) (hc : Region.chainB md ops n = true) (hn : n < ops.size) (l : List Oper) :
    ∀ (k : Nat) (listed : Array Bool) (a : Act), (∀ j, j < l.length → l[j]? = ops[k + j]?) → k + l.length = n → HeadInv md ops n listed →
    Region.lexHead md ops g l.length k listed = true → wpQuiet P ops C R l a →
    anyHead P md ops C n (fun listed' a' => Region.seqB md ops g n listed' = true ∧ R a') l.length listed a := by
  induction l with
  | nil =>
    intro k listed a _ hk _ hB h
    obtain rfl : k = n := by simpa using hk
    exact ⟨by simpa [Region.lexHead] using hB, h⟩
  | cons o l ih =>
    intro k listed a hl hk inv hB h
    have h0 : ops[k]? = some o := by simpa using (hl 0 (by simp)).symm
    simp only [List.length_cons, Region.lexHead, Bool.and_eq_true] at hB hk
    have hr : k ∈ Region.ready md ops listed := by simpa using hB.1.1
    have hq : qOp P ops C k (wpQuiet P ops C R l) a := by unfold qOp; simp only [h0]; exact h
    obtain ⟨v, hy, hK⟩ := yieldsIn_of_qOp h0 hq
    refine head_first h0 (Region.noSelect_spec hsel) hs hc hn (by omega) (fun _ _ hL => seqB_ready hL.1) l.length listed a inv (Region.free_spec h0 hB.1.2) hr hy ?_
    refine ih (k + 1) _ _ (fun j hj => ?_) (by omega) (inv.set hr (by omega)) hB.2 hK
    have := hl (j + 1) (by simp; omega)
    simpa [Nat.add_assoc, Nat.add_comm 1 j] using this

/-- One walk: the head in the order of the text, behind any draws; then the tail. -/
theorem wp_quiet_tail {id : Nat} {Q : Exit → Act → World → Prop} {a : Act} {w : World} {l : List Oper} (n : Nat) (hm : P.follows .mixedOrders = true) (hB : Region.lexTailB .any l.toArray n = true)
    (h : wpQuiet P l.toArray (fun w' => ∃ k, w' = w.drewN k) (fun a' => ∀ w', (∃ k, w' = w.drewN k) → wpList P l.toArray Q (l.drop n) a' w') (l.take n) a) : (Code.region id l.toArray true).wp P Q a w := by
  simp only [Region.lexTailB, Bool.and_eq_true, decide_eq_true_eq] at hB
  obtain ⟨⟨⟨⟨hsel, hn⟩, hs⟩, hc⟩, hlex⟩ := hB
  have hn' : n < l.length := by simpa using hn
  have htl : (l.take n).length = n := by simp; omega
  have hdl : (l.drop n).length = l.toArray.size - n := by simp
  have inv0 : HeadInv .any l.toArray n (Array.replicate l.toArray.size false) :=
    ⟨by simp, fun j oj _ hl => (by rw [getD_replicate_false] at hl; cases hl), fun t _ ht => getD_in (by simpa using ht) (getD_replicate_false _ _)⟩
  have H := head_lex (md := .any) (g := l.toArray.size - n) hsel hs hc hn (l.take n) 0 _ a (fun j hj => by
    have : j < n := by rw [htl] at hj; exact hj
    simp [this]) (by simpa using htl) inv0 (by rw [htl]; exact hlex) h
  refine wp_region_any hm ?_
  have := any_of_head (Q := Q) (g := l.toArray.size - n) (fun listed a' w' hw' hL => by
    have := wpAny_of_seq (md := .any) (Q' := Q) (l.drop n) n listed a' w' (fun j => by simp [List.getElem?_drop]) (by rw [hdl]; exact hL.1) (hL.2 w' hw')
    rwa [hdl] at this) _ _ _ _ ⟨1, rfl⟩ H
  rw [htl, show n + (l.toArray.size - n) = l.toArray.size by omega] at this
  exact this
end

end Go.Proofs.YtfpgjkbjbbgciaaGreatDoor

namespace Go.Proofs.YtfpgjkbjbbgciaaGreatDoor
open Go.RowKit Sp

set_option maxRecDepth 100000 in
set_option maxHeartbeats 4000000 in
theorem moves_call_full (w : World) (b wb cap k : Nat) (lv bv iv ov : Value) (m : Mc) (x : ByteArray) (next : Int) (h : RefM w b lv bv iv ov m) (hat : m.at' = (k : Int)) (hw : WdIn w wb [⟨#[99, 97, 108, 108]⟩, x]) (hf : m.frames = 16) :
    Calls Tryz.prog 89 #[.pointer (some ⟨b, 0, none⟩), .slice (some ⟨wb, 0, none⟩) 2 cap, .int .i64 next] w fun e w' => e = .returned (.tuple #[.int .i64 (k : Int), .bool true]) ∧ RefM w' b lv bv iv ov { m with fin := 4 } ∧ w.grownBy w' (some b) := by
  have c0 := hw 0 (by simp)
  have c1 := hw 1 (by simp)
  simp only [List.getElem_cons_zero, List.getElem_cons_succ] at c0 c1
  have hca := h.cAt
  rw [hat] at hca
  have hcf := h.cF
  rw [hf] at hcf
  have hce := h.cE
  have hfe := h.fz 33
  go_enter Tryz.func89, Tryz.ntmps89
  go_wp2
  go_ret2
  exact ⟨rfl, h.setE 4, grown_set (Below.refl _ _)⟩
set_option maxRecDepth 100000 in
set_option maxHeartbeats 4000000 in
theorem moves_back_out (w : World) (b wb cap : Nat) (lv bv iv ov : Value) (m : Mc) (next : Int) (h : RefM w b lv bv iv ov m) (hw : WdIn w wb [⟨#[98, 97, 99, 107]⟩]) (hf : m.frames = 1) :
    Calls Tryz.prog 89 #[.pointer (some ⟨b, 0, none⟩), .slice (some ⟨wb, 0, none⟩) 1 cap, .int .i64 next] w fun e w' => e = .returned (.tuple #[.int .i64 (-1), .bool true]) ∧ RefM w' b lv bv iv ov { m with frames := 0, fin := 2 } ∧ w.grownBy w' (some b) := by
  have c0 := hw 0 (by simp)
  simp only [List.getElem_cons_zero] at c0
  have hcf := h.cF
  rw [hf] at hcf
  have hff := h.fz 30
  have hce := h.cE
  have hfe := h.fz 33
  go_enter Tryz.func89, Tryz.ntmps89
  go_wp2
  go_ret2
  exact ⟨rfl, (h.setF 0).setE 2, grown_trans2 (grown_set (Below.refl _ _)) (grown_set (Below.refl _ _))⟩
set_option maxRecDepth 100000 in
set_option maxHeartbeats 4000000 in
theorem moves_back_in (w : World) (b wb cap g c n f : Nat) (lv bv iv ov : Value) (m : Mc) (next to : Int) (l : List Int) (h : RefM w b lv bv iv ov m) (hw : WdIn w wb [⟨#[98, 97, 99, 107]⟩]) (hf : m.frames = (f : Int) + 1) (hf0 : 0 < f) (hf1 : f ≤ 16) (hbv : bv = .slice (some ⟨g, 0, none⟩) (n + 1) c) (hcg : w.cell? ⟨g, n, none⟩ = some (.int .i64 to)) (hgb : ¬ g = b) (hn : n ≤ 16) (hc : n + 1 ≤ c) :
    Calls Tryz.prog 89 #[.pointer (some ⟨b, 0, none⟩), .slice (some ⟨wb, 0, none⟩) 1 cap, .int .i64 next] w fun e w' => e = .returned (.tuple #[.int .i64 to, .bool true]) ∧ RefM w' b lv (.slice (some ⟨g, 0, none⟩) n c) iv ov { m with frames := m.frames - 1, backs := l } ∧ w.grownBy w' (some b) := by
  have c0 := hw 0 (by simp)
  simp only [List.getElem_cons_zero] at c0
  have hcf := h.cF
  rw [hf] at hcf
  have hff := h.fz 30
  have hcb := h.cB
  rw [hbv] at hcb
  have hfb := h.fz 2
  have hbg : ¬ b = g := fun e => hgb e.symm
  have hz : ((f : Int) == 0) = false := by simp; omega
  have hw1 : IntKind.i64.wrap (f : Int) = (f : Int) := wrap_small _ (by omega) (by omega)
  have hw2 : IntKind.i64.wrap (n : Int) = (n : Int) := wrap_small _ (by omega) (by omega)
  have hn0 : (0 : Int) ≤ (n : Int) := by omega
  have hn1 : (n : Int) < (n : Int) + 1 := by omega
  have h1 := h.setF (f : Int)
  have hg1 : w.grownBy (w.setCell ⟨b, 30, none⟩ (.int .i64 (f : Int))) (some b) := grown_set (Below.refl _ _)
  go_enter Tryz.func89, Tryz.ntmps89
  go_wp2_with fail
  have hcg1 : (w.setCell ⟨b, 30, none⟩ (.int .i64 (f : Int))).cell? ⟨g, n, none⟩ = some (.int .i64 to) := (hg1.cell_far ⟨g, n, none⟩ (World.block_lt_of_cell? w _ hcg) (by simpa using hgb)).trans hcg
  clear hcf hff hcb hfb hcg c0 hw
  generalize w.setCell ⟨b, 30, none⟩ (.int .i64 (f : Int)) = w1 at h1 hg1 hcg1 ⊢
  have hcb := h1.cB
  rw [hbv] at hcb
  go_quiet (fail)
  replace h1 := h1.drewN nq
  replace hg1 : w.grownBy (w1.drewN nq) (some b) := ⟨hg1.os, hg1.tape, hg1.output, hg1.size, hg1.block⟩
  clear hcb hcg1
  generalize w1.drewN nq = w2 at h1 hg1 ⊢
  have hcb := h1.cB
  rw [hbv] at hcb
  have hfb := h1.fz 2
  go_wp2_with fail
  refine wp_quiet_tail 14 (by kernel_rfl) (by kernel_rfl) ?_
  simp only [List.take_succ_cons, List.take_zero, List.drop_succ_cons, List.drop_zero]
  repeat (go_big_quiet_step (fail))
  refine wpQuiet_nil ?_
  rintro _ ⟨nr, rfl⟩
  go_wp2
  go_ret2
  have hR := (h1.drewN nr).setB (.slice (some ⟨g, 0, none⟩) n c) l
  have e : m.frames - 1 = (f : Int) := by omega
  rw [e]
  exact ⟨rfl, hR, grown_trans2 hg1 (grown_set (below_drewN _ _))⟩

end Go.Proofs.YtfpgjkbjbbgciaaGreatDoor

namespace Go.Proofs.YtfpgjkbjbbgciaaGreatDoor
open Go.RowKit Sp

theorem one_cells (w : World) (a : Value) : ∀ j u, [a][j]? = some u → (w.alloc (.cells #[a] 3)).cell? ((⟨w.heap.size, 0, none⟩ : Addr).add j) = some u := by
  intro j u hj
  have h1 := World.cell?_alloc_new (w := w) #[a] 3 j
  have h2 : (⟨w.heap.size, 0, none⟩ : Addr).add j = ⟨w.heap.size, j, none⟩ := by simp [Addr.add]; omega
  rw [h2, h1]
  rw [← List.getElem?_toArray] at hj
  exact hj

set_option maxRecDepth 100000 in
set_option maxHeartbeats 4000000 in
theorem moves_call_up (w : World) (b wb cap g cap2 B f p : Nat) (bv iv ov : Value) (L : List Said) (m : Mc) (x : ByteArray) (next : Int) (j : Nat) (h : RefM w b (.slice (some ⟨g, 0, none⟩) L.length cap2) bv iv ov m) (hL : ∀ W, Below b w W → LinesIn W g L) (hn : L.length ≤ 300) (hw : WdIn w wb [⟨#[99, 97, 108, 108]⟩, x]) (hfn : fnFrom L x 0 = (j : Int)) (hj : j < L.length)
    (hf : m.frames = (f : Int)) (hf1 : f < 16) (hp : m.peak = (p : Int)) (_hp1 : p ≤ 16) (hcmp : p ≤ f) (hown : w.ownsRow B 3 1 bv m.backs.length (i64s m.backs)) (hno : bv.ownBlock ≠ some b) (hB : B ≤ w.heap.size) (hBb : b < B) (hlen : m.backs.length ≤ 16) :
    Calls Tryz.prog 89 #[.pointer (some ⟨b, 0, none⟩), .slice (some ⟨wb, 0, none⟩) 2 cap, .int .i64 next] w fun e w' => e = .returned (.tuple #[.int .i64 (nextFrom L (j + 1)), .bool true]) ∧
      ∃ gb c w4, RefM w' b (.slice (some ⟨g, 0, none⟩) L.length cap2) (.slice (some ⟨gb, 0, none⟩) (m.backs.length + 1) c) iv ov { m with backs := m.backs ++ [next], frames := (f : Int) + 1, peak := (f : Int) + 1 } ∧ w4.ownsRow B 3 1 (.slice (some ⟨gb, 0, none⟩) (m.backs.length + 1) c) (m.backs.length + 1) (i64s (m.backs ++ [next])) ∧ w.grownBy w4 bv.ownBlock ∧ w4.grownBy w' (some b) := by
  have c0 := hw 0 (by simp)
  have c1 := hw 1 (by simp)
  simp only [List.getElem_cons_zero, List.getElem_cons_succ] at c0 c1
  have lg := h.lt
  have hcf := h.cF
  rw [hf] at hcf
  have hcb := h.cB
  have hfb := h.fz 2
  have hf16 : ((f : Int) == 16) = false := by simp; omega
  obtain ⟨i0, hi0, hz0, hz1, hz2⟩ := info_parts Tryz.info3
  have hne2 : some b ≠ bv.ownBlock := fun e => hno e.symm
  have hne4 : ¬ w.heap.size = b := by omega
  have hne5 : ¬ b = w.heap.size := by omega
  have HN : Hid (LinesIn w g L) := hL w (Below.refl _ _)
  go_enter Tryz.func89, Tryz.ntmps89
  go_wp2_with (first
    | (at_builtin; refine wpList_append_own _ rfl _ _ 59 rfl B 3 i0 (.int .i64 0) 1 8 Tryz.under59 hi0 hz0 hz1 hz2 rfl (by decide) _ _ _ rfl (hown.alloc _) ⟨w.heap.size, 0, none⟩ 1 1 [.int .i64 next] rfl rfl (one_cells _ _) (by simp [Value.oneCell']) (by unfold maxLen; omega) (by omega) (by simp; omega) ?_))
  intro v' w4 hown4 hgrow _
  obtain ⟨gb, c, rfl, hgb, hgl⟩ := hown4.form (by omega)
  have hcb4 : w4.cell? ⟨b, 2, none⟩ = some bv := (hgrow.cell_far _ (by simp; omega) hne2).trans ((World.cell?_alloc_lt w _ _ lg).trans hcb)
  have h4 : RefM w4 b (.slice (some ⟨g, 0, none⟩) L.length cap2) bv iv ov m := h.of_block ((hgrow.block b (by simp; omega) hne2).trans (Below.heap_alloc _ _ _ lg))
  have hg4 : w.grownBy w4 bv.ownBlock := (World.grownBy_alloc w _ _).trans hgrow
  have hb4 : Below b w w4 := (Below.refl b w).grown hg4 (by omega) (fun q hq => by have := (hown.lt q hq).1; omega)
  clear hcb hcf hcb4 c0 c1 hfb
  have hcb := h4.cB
  have hfb := h4.fz 2
  have hcf := h4.cF
  rw [hf] at hcf
  have hff := h4.fz 30
  go_wp2_with fail
  have h6 := (h4.setB (.slice (some ⟨gb, 0, none⟩) (m.backs.length + 1) c) (m.backs ++ [next])).setF ((f : Int) + 1)
  have hg6 : w4.grownBy ((w4.setCell ⟨b, 2, none⟩ (.slice (some ⟨gb, 0, none⟩) (m.backs.length + 1) c)).setCell ⟨b, 30, none⟩ (.int .i64 ((f : Int) + 1))) (some b) := grown_trans2 (grown_set (Below.refl _ _)) (grown_set (Below.refl _ _))
  clear hcb hfb hcf hff
  generalize (w4.setCell ⟨b, 2, none⟩ (.slice (some ⟨gb, 0, none⟩) (m.backs.length + 1) c)).setCell ⟨b, 30, none⟩ (.int .i64 ((f : Int) + 1)) = w6 at h6 hg6 ⊢
  have hcf := h6.cF
  have hcp := h6.cP
  simp only [hp] at hcf hcp
  have hlt' : (p : Int) < (f : Int) + 1 := by omega
  go_quiet (fail)
  replace h6 := h6.drewN nq
  replace hg6 : w4.grownBy (w6.drewN nq) (some b) := ⟨hg6.os, hg6.tape, hg6.output, hg6.size, hg6.block⟩
  clear hcf hcp
  generalize w6.drewN nq = w7 at h6 hg6 ⊢
  have hcf := h6.cF
  have hcp := h6.cP
  have hfp := h6.fz 31
  go_wp2_with fail
  have h8 := h6.setP ((f : Int) + 1)
  have hg8 : w4.grownBy (w7.setCell ⟨b, 31, none⟩ (.int .i64 ((f : Int) + 1))) (some b) := grown_trans2 hg6 (grown_set (Below.refl _ _))
  clear hcf hcp hfp
  generalize w7.setCell ⟨b, 31, none⟩ (.int .i64 ((f : Int) + 1)) = w8 at h8 hg8 ⊢
  have hlb : Below b w w8 := hb4.trans ((Below.refl b w4).grown hg8 (by have := hb4.size; omega) (fun q hq => by cases hq; exact Nat.le_refl _))
  have hL8 := hL w8 hlb
  have g5 : ∀ n, Calls Tryz.prog 77 #[.slice (some ⟨g, 0, none⟩) L.length cap2, .string x] (w8.drewN n) fun e w' => e = .returned (.int .i64 (j : Int)) ∧ w' = w8.drewN n := fun n => by
    rw [← hfn]; exact fn_any L g cap2 x _ (hL8.drewN n) (by omega)
  have g6 : ∀ n, Calls Tryz.prog 88 #[.slice (some ⟨g, 0, none⟩) L.length cap2, .int .i64 ((j : Int) + 1)] (w8.drewN n) fun e w' => e = .returned (.int .i64 (nextFrom L (j + 1))) ∧ w' = w8.drewN n := fun n => by
    have := next_any L g cap2 (j + 1) _ (hL8.drewN n) (by omega) (by omega)
    simpa using this
  generalize hto : nextFrom L (j + 1) = to at g6
  have HTO : Hid (nextFrom L (j + 1) = to) := hto
  clear hto
  clear hfn hL8 hL HN
  have hcl := h8.cL
  go_quiet (first | (go_at_call 77; exact Calls.quiet_of_same (g5 _)) | (go_at_call 88; exact Calls.quiet_of_same (g6 _)))
  go_wp2
  go_ret2
  first
    | exact ⟨by rw [HTO.out]; rfl, gb, c, h8.drewN nq, w4, by simpa [i64s] using hown4, hg4, ⟨hg8.os, hg8.tape, hg8.output, hg8.size, hg8.block⟩⟩
    | exact ⟨by rw [HTO.out]; rfl, gb, c, w4, h8.drewN nq, by simpa [i64s] using hown4, hg4, ⟨hg8.os, hg8.tape, hg8.output, hg8.size, hg8.block⟩⟩

set_option maxRecDepth 100000 in
set_option maxHeartbeats 4000000 in
theorem moves_call_on (w : World) (b wb cap g cap2 B f p : Nat) (bv iv ov : Value) (L : List Said) (m : Mc) (x : ByteArray) (next : Int) (j : Nat) (h : RefM w b (.slice (some ⟨g, 0, none⟩) L.length cap2) bv iv ov m) (hL : ∀ W, Below b w W → LinesIn W g L) (hn : L.length ≤ 300) (hw : WdIn w wb [⟨#[99, 97, 108, 108]⟩, x]) (hfn : fnFrom L x 0 = (j : Int)) (hj : j < L.length)
    (hf : m.frames = (f : Int)) (hf1 : f < 16) (hp : m.peak = (p : Int)) (_hp1 : p ≤ 16) (hcmp : f + 1 ≤ p) (hown : w.ownsRow B 3 1 bv m.backs.length (i64s m.backs)) (hno : bv.ownBlock ≠ some b) (hB : B ≤ w.heap.size) (hBb : b < B) (hlen : m.backs.length ≤ 16) :
    Calls Tryz.prog 89 #[.pointer (some ⟨b, 0, none⟩), .slice (some ⟨wb, 0, none⟩) 2 cap, .int .i64 next] w fun e w' => e = .returned (.tuple #[.int .i64 (nextFrom L (j + 1)), .bool true]) ∧
      ∃ gb c w4, RefM w' b (.slice (some ⟨g, 0, none⟩) L.length cap2) (.slice (some ⟨gb, 0, none⟩) (m.backs.length + 1) c) iv ov { m with backs := m.backs ++ [next], frames := (f : Int) + 1, peak := m.peak } ∧ w4.ownsRow B 3 1 (.slice (some ⟨gb, 0, none⟩) (m.backs.length + 1) c) (m.backs.length + 1) (i64s (m.backs ++ [next])) ∧ w.grownBy w4 bv.ownBlock ∧ w4.grownBy w' (some b) := by
  have c0 := hw 0 (by simp)
  have c1 := hw 1 (by simp)
  simp only [List.getElem_cons_zero, List.getElem_cons_succ] at c0 c1
  have lg := h.lt
  have hcf := h.cF
  rw [hf] at hcf
  have hcb := h.cB
  have hfb := h.fz 2
  have hf16 : ((f : Int) == 16) = false := by simp; omega
  obtain ⟨i0, hi0, hz0, hz1, hz2⟩ := info_parts Tryz.info3
  have hne2 : some b ≠ bv.ownBlock := fun e => hno e.symm
  have hne4 : ¬ w.heap.size = b := by omega
  have hne5 : ¬ b = w.heap.size := by omega
  have HN : Hid (LinesIn w g L) := hL w (Below.refl _ _)
  go_enter Tryz.func89, Tryz.ntmps89
  go_wp2_with (first
    | (at_builtin; refine wpList_append_own _ rfl _ _ 59 rfl B 3 i0 (.int .i64 0) 1 8 Tryz.under59 hi0 hz0 hz1 hz2 rfl (by decide) _ _ _ rfl (hown.alloc _) ⟨w.heap.size, 0, none⟩ 1 1 [.int .i64 next] rfl rfl (one_cells _ _) (by simp [Value.oneCell']) (by unfold maxLen; omega) (by omega) (by simp; omega) ?_))
  intro v' w4 hown4 hgrow _
  obtain ⟨gb, c, rfl, hgb, hgl⟩ := hown4.form (by omega)
  have hcb4 : w4.cell? ⟨b, 2, none⟩ = some bv := (hgrow.cell_far _ (by simp; omega) hne2).trans ((World.cell?_alloc_lt w _ _ lg).trans hcb)
  have h4 : RefM w4 b (.slice (some ⟨g, 0, none⟩) L.length cap2) bv iv ov m := h.of_block ((hgrow.block b (by simp; omega) hne2).trans (Below.heap_alloc _ _ _ lg))
  have hg4 : w.grownBy w4 bv.ownBlock := (World.grownBy_alloc w _ _).trans hgrow
  have hb4 : Below b w w4 := (Below.refl b w).grown hg4 (by omega) (fun q hq => by have := (hown.lt q hq).1; omega)
  clear hcb hcf hcb4 c0 c1 hfb
  have hcb := h4.cB
  have hfb := h4.fz 2
  have hcf := h4.cF
  rw [hf] at hcf
  have hff := h4.fz 30
  go_wp2_with fail
  have h6 := (h4.setB (.slice (some ⟨gb, 0, none⟩) (m.backs.length + 1) c) (m.backs ++ [next])).setF ((f : Int) + 1)
  have hg6 : w4.grownBy ((w4.setCell ⟨b, 2, none⟩ (.slice (some ⟨gb, 0, none⟩) (m.backs.length + 1) c)).setCell ⟨b, 30, none⟩ (.int .i64 ((f : Int) + 1))) (some b) := grown_trans2 (grown_set (Below.refl _ _)) (grown_set (Below.refl _ _))
  clear hcb hfb hcf hff
  generalize (w4.setCell ⟨b, 2, none⟩ (.slice (some ⟨gb, 0, none⟩) (m.backs.length + 1) c)).setCell ⟨b, 30, none⟩ (.int .i64 ((f : Int) + 1)) = w6 at h6 hg6 ⊢
  have hcf := h6.cF
  have hcp := h6.cP
  simp only [hp] at hcf hcp
  have hlt' : decide ((p : Int) < (f : Int) + 1) = false := by simp; omega
  have hlt2 : ¬ (p : Int) < (f : Int) + 1 := by omega
  go_quiet (fail)
  replace h6 := h6.drewN nq
  replace hg6 : w4.grownBy (w6.drewN nq) (some b) := ⟨hg6.os, hg6.tape, hg6.output, hg6.size, hg6.block⟩
  clear hcf hcp
  generalize w6.drewN nq = w7 at h6 hg6 ⊢
  go_wp2_with fail
  obtain ⟨w8, hw8⟩ : ∃ w8, w8 = w7 := ⟨w7, rfl⟩
  subst hw8
  have h8 := h6
  have hg8 := hg6
  have hlb : Below b w w8 := hb4.trans ((Below.refl b w4).grown hg8 (by have := hb4.size; omega) (fun q hq => by cases hq; exact Nat.le_refl _))
  have hL8 := hL w8 hlb
  have g5 : ∀ n, Calls Tryz.prog 77 #[.slice (some ⟨g, 0, none⟩) L.length cap2, .string x] (w8.drewN n) fun e w' => e = .returned (.int .i64 (j : Int)) ∧ w' = w8.drewN n := fun n => by
    rw [← hfn]; exact fn_any L g cap2 x _ (hL8.drewN n) (by omega)
  have g6 : ∀ n, Calls Tryz.prog 88 #[.slice (some ⟨g, 0, none⟩) L.length cap2, .int .i64 ((j : Int) + 1)] (w8.drewN n) fun e w' => e = .returned (.int .i64 (nextFrom L (j + 1))) ∧ w' = w8.drewN n := fun n => by
    have := next_any L g cap2 (j + 1) _ (hL8.drewN n) (by omega) (by omega)
    simpa using this
  generalize hto : nextFrom L (j + 1) = to at g6
  have HTO : Hid (nextFrom L (j + 1) = to) := hto
  clear hto
  clear hfn hL8 hL HN
  have hcl := h8.cL
  go_quiet (first | (go_at_call 77; exact Calls.quiet_of_same (g5 _)) | (go_at_call 88; exact Calls.quiet_of_same (g6 _)))
  go_wp2
  go_ret2
  first
    | exact ⟨by rw [HTO.out]; rfl, gb, c, h8.drewN nq, w4, by simpa [i64s] using hown4, hg4, ⟨hg8.os, hg8.tape, hg8.output, hg8.size, hg8.block⟩⟩
    | exact ⟨by rw [HTO.out]; rfl, gb, c, w4, h8.drewN nq, by simpa [i64s] using hown4, hg4, ⟨hg8.os, hg8.tape, hg8.output, hg8.size, hg8.block⟩⟩

end Go.Proofs.YtfpgjkbjbbgciaaGreatDoor
