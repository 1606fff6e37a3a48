import Derived.Test.YtfpgjkbjbbgciaaGreatDoorMa51
namespace Go.Proofs.YtfpgjkbjbbgciaaGreatDoor
open Go.RowKit Sp

theorem names_of {F : List FnM} {G : List Fn} (hG : Hid (F.map FnM.fn = G)) : F.map FnM.name = G.map Fn.name := by
  rw [← hG.out, names_fn]
theorem PIn.alloc {B : Nat} {w : World} {pm : Nat} {v : Value} {F : List FnM} (h : PIn B w pm v F) (o : Obj) : PIn B (w.alloc o) pm v F := h.of_blocks fun _b _ hb => Below.heap_alloc _ _ _ hb
theorem PIn.below {B : Nat} {w w' : World} {pm : Nat} {v : Value} {F : List FnM} (h : PIn B w pm v F) (hb : Below w.heap.size w w') : PIn B w' pm v F := h.of_blocks fun b _ hl => hb.block b hl
theorem nm_no {B : Nat} {w : World} {pm : Nat} {v : Value} {F : List FnM} {G : List Fn} (h : PIn B w pm v F) (hG : Hid (F.map FnM.fn = G)) (hF : 0 < F.length) (hn : F.length ≤ 300) (hb : ∀ f ∈ F, f.its.length ≤ 300 ∧ ∀ i ∈ f.its, ItOk i) (l : Int) (hm : Hid (missK (G.map Fn.name) G = some l)) :
    Calls Tryz.prog 69 #[.agg #[v, .map (some pm)]] w fun e w' => e = refusal 4 l ∧ Below w.heap.size w w' := by
  have := cnames_any w B pm v F h hF hn hb
  rw [names_of hG, hG.out] at this
  refine this.mono ?_
  rintro e w' ⟨hbb, ⟨l', h1, h2⟩ | ⟨h1, _⟩⟩
  · rw [hm.out] at h1; cases h1; exact ⟨h2, hbb⟩
  · rw [hm.out] at h1; cases h1
theorem nm_yes {B : Nat} {w : World} {pm : Nat} {v : Value} {F : List FnM} {G : List Fn} (h : PIn B w pm v F) (hG : Hid (F.map FnM.fn = G)) (hF : 0 < F.length) (hn : F.length ≤ 300) (hb : ∀ f ∈ F, f.its.length ≤ 300 ∧ ∀ i ∈ f.its, ItOk i) (hm : Hid (missK (G.map Fn.name) G = none)) :
    Calls Tryz.prog 69 #[.agg #[v, .map (some pm)]] w fun e w' => e = .returned (.tuple #[]) ∧ Below w.heap.size w w' := by
  have := cnames_any w B pm v F h hF hn hb
  rw [names_of hG, hG.out] at this
  refine this.mono ?_
  rintro e w' ⟨hbb, ⟨l', h1, h2⟩ | ⟨_, h1⟩⟩
  · rw [hm.out] at h1; cases h1
  · exact ⟨h1, hbb⟩
theorem end_no {B : Nat} {w : World} {pm : Nat} {v : Value} {F : List FnM} {G : List Fn} (h : PIn B w pm v F) (hG : Hid (F.map FnM.fn = G)) (hF : 0 < F.length) (hn : F.length ≤ 300) (hb : ∀ f ∈ F, f.its.length ≤ 300 ∧ ∀ i ∈ f.its, ItOk i) (l : Int) (hm : Hid (endK G = some l)) :
    Calls Tryz.prog 70 #[.agg #[v, .map (some pm)]] w fun e w' => e = refusal 5 l ∧ Below w.heap.size w w' := by
  have := cends_any w B pm v F h hF hn hb
  rw [hG.out] at this
  refine this.mono ?_
  rintro e w' ⟨hbb, ⟨l', h1, h2⟩ | ⟨h1, _⟩⟩
  · rw [hm.out] at h1; cases h1; exact ⟨h2, hbb⟩
  · rw [hm.out] at h1; cases h1
theorem end_yes {B : Nat} {w : World} {pm : Nat} {v : Value} {F : List FnM} {G : List Fn} (h : PIn B w pm v F) (hG : Hid (F.map FnM.fn = G)) (hF : 0 < F.length) (hn : F.length ≤ 300) (hb : ∀ f ∈ F, f.its.length ≤ 300 ∧ ∀ i ∈ f.its, ItOk i) (hm : Hid (endK G = none)) :
    Calls Tryz.prog 70 #[.agg #[v, .map (some pm)]] w fun e w' => e = .returned (.tuple #[]) ∧ Below w.heap.size w w' := by
  have := cends_any w B pm v F h hF hn hb
  rw [hG.out] at this
  refine this.mono ?_
  rintro e w' ⟨hbb, ⟨l', h1, h2⟩ | ⟨_, h1⟩⟩
  · rw [hm.out] at h1; cases h1
  · exact ⟨h1, hbb⟩
theorem addK_pos (F : List Fn) (k : Key) (h : 0 < F.length) : 0 < (addK F k).length := by
  unfold addK
  split
  · simp
  · split
    · exact h
    · simp
theorem fold_pos (K : List Key) (F : List Fn) (h : 0 < F.length) : 0 < (K.foldl addK F).length := by
  induction K generalizing F with
  | nil => exact h
  | cons k r ih => exact ih _ (addK_pos F k h)
theorem fold_first (k : Key) (r : List Key) (hs : k.sort = 0) : 0 < ((k :: r).foldl addK []).length := by
  rw [List.foldl_cons, addK_begin _ _ hs]
  exact fold_pos r _ (by simp)
theorem two_in {w w' : World} {a b : Value} (hb : Below (w.alloc (.cells #[a, b] 83)).heap.size (w.alloc (.cells #[a, b] 83)) w') :
    w'.cell? ⟨w.heap.size, 0, none⟩ = some a ∧ w'.cell? ⟨w.heap.size, 1, none⟩ = some b ∧ w'.frozen? ⟨w.heap.size, 0, none⟩ = false ∧ w'.frozen? ⟨w.heap.size, 1, none⟩ = false := by
  have hh : w'.heap[w.heap.size]? = some (.cells #[a, b] 83 (0, 0)) := (hb.block _ (by simp)).trans (heap_alloc_new w _)
  exact ⟨by rw [cell_of_row w' _ 0 _ _ _ hh]; rfl, by rw [cell_of_row w' _ 1 _ _ _ hh]; rfl, frozen_of_row w' _ 0 _ _ hh, frozen_of_row w' _ 1 _ _ hh⟩

set_option maxRecDepth 100000 in
set_option maxHeartbeats 1000000 in
theorem cread_miss (s : ByteArray) (k : Key) (r : List Key) (h : Sts s (k :: r)) (hs : k.sort = 0) (ht : twiceK [] (k :: r) = none) (G : List Fn) (hG : (k :: r).foldl addK [] = G) (l : Int) (hm : missK (G.map Fn.name) G = some l) : ReadsAs s (4, l) := by
  intro w hw
  have hw1 : LibW (w.alloc Z33) := hw.below ((Below.refl _ _).alloc (Nat.le_refl _) _)
  have hcall := csize_near s (w.alloc Z33) h.h4 h.h3
  have hcall2 := h.begins hs (w.alloc Z33) hw1
  have HT : Hid (twiceK [] (k :: r) = none) := ht
  have HG : Hid ((k :: r).foldl addK [] = G) := hG
  have HM : Hid (missK (G.map Fn.name) G = some l) := hm
  have hG0 : 0 < G.length := by rw [← hG]; exact fold_first k r hs
  clear h hs ht hG hm
  generalize k :: r = K at hcall2 HT HG
  go_enter Tryz.func44, Tryz.ntmps44
  go_wp2_with (first
    | (go_at_call 65; refine hcall.mono ?_; rintro e w1 ⟨rfl, hww⟩; subst hww)
    | (go_at_call 66; refine hcall2.mono ?_; rintro e w2 ⟨hb2, v, i, t, rfl, hown, hk, hl, hnm, hns⟩)
    | (go_at_call 67; refine (start_ok w2 _ v i t hown hl hns).mono ?_; rintro e w3 ⟨rfl, hww⟩; have h2 := hww.symm; subst h2)
    | (go_at_call 68; refine (prog_ok _ _ v i t K hown hk hl hnm hns HT G HG hG0).mono ?_; rintro e w4 ⟨hb4, pm, ao, n, cap, F, rfl, hpin, hFG, hF0, hFn, hFi⟩)
    | (go_at_call 69; refine (nm_no (hpin.alloc _) hFG hF0 hFn hFi l HM).mono ?_; rintro e w5 ⟨rfl, hb5⟩))
  exact ⟨rfl, ((one_box _ _ hb2).trans (hb4.mono (one_box _ _ hb2).size)).trans ((one_box _ _ hb5).mono ((one_box _ _ hb2).trans (hb4.mono (one_box _ _ hb2).size)).size), .inr ⟨by simp, rfl⟩⟩
set_option maxRecDepth 100000 in
set_option maxHeartbeats 1000000 in
theorem cread_end (s : ByteArray) (k : Key) (r : List Key) (h : Sts s (k :: r)) (hs : k.sort = 0) (ht : twiceK [] (k :: r) = none) (G : List Fn) (hG : (k :: r).foldl addK [] = G) (hm : missK (G.map Fn.name) G = none) (l : Int) (he : endK G = some l) : ReadsAs s (5, l) := by
  intro w hw
  have hw1 : LibW (w.alloc Z33) := hw.below ((Below.refl _ _).alloc (Nat.le_refl _) _)
  have hcall := csize_near s (w.alloc Z33) h.h4 h.h3
  have hcall2 := h.begins hs (w.alloc Z33) hw1
  have HT : Hid (twiceK [] (k :: r) = none) := ht
  have HG : Hid ((k :: r).foldl addK [] = G) := hG
  have HM : Hid (missK (G.map Fn.name) G = none) := hm
  have HE : Hid (endK G = some l) := he
  have hG0 : 0 < G.length := by rw [← hG]; exact fold_first k r hs
  clear h hs ht hG hm he
  generalize k :: r = K at hcall2 HT HG
  go_enter Tryz.func44, Tryz.ntmps44
  go_wp2_with (first
    | (go_at_call 65; refine hcall.mono ?_; rintro e w1 ⟨rfl, hww⟩; subst hww)
    | (go_at_call 66; refine hcall2.mono ?_; rintro e w2 ⟨hb2, v, i, t, rfl, hown, hk, hl, hnm, hns⟩)
    | (go_at_call 67; refine (start_ok w2 _ v i t hown hl hns).mono ?_; rintro e w3 ⟨rfl, hww⟩; have h2 := hww.symm; subst h2)
    | (go_at_call 68; refine (prog_ok _ _ v i t K hown hk hl hnm hns HT G HG hG0).mono ?_; rintro e w4 ⟨hb4, pm, ao, n, cap, F, rfl, hpin, hFG, hF0, hFn, hFi⟩)
    | (go_at_call 69; refine (nm_yes (hpin.alloc _) hFG hF0 hFn hFi HM).mono ?_; rintro e w5 ⟨rfl, hb5⟩; obtain ⟨t0, t1, _, _⟩ := two_in hb5)
    | (go_at_call 70; refine (end_no ((hpin.alloc _).below hb5) hFG hF0 hFn hFi l HE).mono ?_; rintro e w6 ⟨rfl, hb6⟩))
  exact ⟨rfl, ((one_box _ _ hb2).trans (hb4.mono (one_box _ _ hb2).size)).trans ((one_box _ _ (hb5.trans (hb6.mono hb5.size))).mono ((one_box _ _ hb2).trans (hb4.mono (one_box _ _ hb2).size)).size), .inr ⟨by simp, rfl⟩⟩

set_option maxRecDepth 100000 in
set_option maxHeartbeats 1000000 in
theorem cread_prog (s : ByteArray) (k : Key) (r : List Key) (h : Sts s (k :: r)) (hs : k.sort = 0) (ht : twiceK [] (k :: r) = none) (G : List Fn) (hG : (k :: r).foldl addK [] = G) (hm : missK (G.map Fn.name) G = none) (he : endK G = none) (w : World) (hw : LibW w) :
    Calls Tryz.prog 44 #[.string s] w fun e w' => Below w.heap.size w w' ∧ ∃ pm ao n cap F, e = .returned (.agg #[.slice ao n cap, .map (some pm)]) ∧ PIn w.heap.size w' pm (.slice ao n cap) F ∧ Hid (F.map FnM.fn = G) ∧ 0 < F.length ∧ F.length ≤ 300 ∧ (∀ f ∈ F, f.its.length ≤ 300 ∧ ∀ i ∈ f.its, ItOk i) := by
  have hw1 : LibW (w.alloc Z33) := hw.below ((Below.refl _ _).alloc (Nat.le_refl _) _)
  have hcall := csize_near s (w.alloc Z33) h.h4 h.h3
  have hcall2 := h.begins hs (w.alloc Z33) hw1
  have HT : Hid (twiceK [] (k :: r) = none) := ht
  have HG : Hid ((k :: r).foldl addK [] = G) := hG
  have HM : Hid (missK (G.map Fn.name) G = none) := hm
  have HE : Hid (endK G = none) := he
  have hG0 : 0 < G.length := by rw [← hG]; exact fold_first k r hs
  clear h hs ht hG hm he
  generalize k :: r = K at hcall2 HT HG
  go_enter Tryz.func44, Tryz.ntmps44
  go_wp2_with (first
    | (go_at_call 65; refine hcall.mono ?_; rintro e w1 ⟨rfl, hww⟩; subst hww)
    | (go_at_call 66; refine hcall2.mono ?_; rintro e w2 ⟨hb2, v, i, t, rfl, hown, hk, hl, hnm, hns⟩)
    | (go_at_call 67; refine (start_ok w2 _ v i t hown hl hns).mono ?_; rintro e w3 ⟨rfl, hww⟩; have h2 := hww.symm; subst h2)
    | (go_at_call 68; refine (prog_ok _ _ v i t K hown hk hl hnm hns HT G HG hG0).mono ?_; rintro e w4 ⟨hb4, pm, ao, n, cap, F, rfl, hpin, hFG, hF0, hFn, hFi⟩)
    | (go_at_call 69; refine (nm_yes (hpin.alloc _) hFG hF0 hFn hFi HM).mono ?_; rintro e w5 ⟨rfl, hb5⟩; obtain ⟨t0, t1, _, _⟩ := two_in hb5)
    | (go_at_call 70; refine (end_yes ((hpin.alloc _).below hb5) hFG hF0 hFn hFi HE).mono ?_; rintro e w6 ⟨rfl, hb6⟩; have hb56 := hb5.trans (hb6.mono hb5.size); have hbz := one_box _ _ hb56; have hz := (hb2.trans (hb4.mono hb2.size)).trans (hbz.mono (hb2.trans (hb4.mono hb2.size)).size); obtain ⟨s0, s1, _, _⟩ := two_in hb56; obtain ⟨r0, r1, f0, f1⟩ := two_in hz))
  have q0 := World.cell?_setCell_same (w6.setCell ⟨w.heap.size, 0, none⟩ (.slice ao n cap)) ⟨w.heap.size, 1, none⟩ (.map (some pm)) (u := .map none) (by rw [World.cell?_setCell_other]; exact r1; simp)
  have q1 : ((w6.setCell ⟨w.heap.size, 0, none⟩ (.slice ao n cap)).setCell ⟨w.heap.size, 1, none⟩ (.map (some pm))).cell? ⟨w.heap.size, 0, none⟩ = some (.slice ao n cap) := by
    rw [World.cell?_setCell_other]
    · exact World.cell?_setCell_same w6 _ _ r0
    · simp
  refine bodyPost_ret (v := .agg #[.slice ao n cap, .map (some pm)]) (by simp [results, Tryz.results44, go_sem, q0, q1]) rfl ⟨?_, pm, ao, n, cap, F, rfl, ?_, hFG, hF0, hFn, hFi⟩
  · exact ((one_box _ _ hz).setCell (p := ⟨w.heap.size, 0, none⟩) (Nat.le_refl _) _).setCell (p := ⟨w.heap.size, 1, none⟩) (Nat.le_refl _) _
  · have hw4 : (w.alloc Z33).heap.size ≤ w2.heap.size := hb2.size
    have hz3 : (w.alloc Z33).heap.size = w.heap.size + 1 := by simp
    have p6 := ((hpin.alloc (.cells #[.slice ao n cap, .map (some pm)] 83)).below hb56)
    exact (p6.of_blocks (w' := ((w6.setCell ⟨w.heap.size, 0, none⟩ (.slice ao n cap)).setCell ⟨w.heap.size, 1, none⟩ (.map (some pm)))) (fun b hb _ => by rw [Below.heap_setCell _ _ _ _ (by show ¬ b = w.heap.size; omega), Below.heap_setCell _ _ _ _ (by show ¬ b = w.heap.size; omega)])).mono (by omega)
theorem cread_ok (s : ByteArray) (k : Key) (r : List Key) (h : Sts s (k :: r)) (hs : k.sort = 0) (ht : twiceK [] (k :: r) = none) (G : List Fn) (hG : (k :: r).foldl addK [] = G) (hm : missK (G.map Fn.name) G = none) (he : endK G = none) : ReadsAs s (0, 0) := by
  intro w hw
  refine (cread_prog s k r h hs ht G hG hm he w hw).mono ?_
  rintro e w' ⟨hb, pm, ao, n, cap, F, rfl, _⟩
  exact ⟨hb, .inl ⟨rfl, _, rfl⟩⟩

/-- The program's reading is the document's. -/
theorem reads_any (s : ByteArray) (hs : s.size ≤ 1048576) : ReadsAs s (readS s) := by
  unfold readS
  by_cases h : 4000 < s.size ∨ 300 < (lines s).length
  · rw [if_pos h]; exact cread_far s hs h
  · rw [if_neg h]
    have h4 : s.size ≤ 4000 := by omega
    have h3 : (lines s).length ≤ 300 := by omega
    by_cases hok : ∀ x ∈ lines s, (say x).ok = true
    · rw [sayAt_ok _ hok 0, start_keys _ hok]
      have S : Sts s (keysTo (lines s) (lines s).length) := ⟨h4, h3, hok, rfl⟩
      generalize keysTo (lines s) (lines s).length = K at S
      cases K with
      | nil => exact cread_none s S
      | cons k r =>
        unfold sayK
        dsimp only
        by_cases h0 : k.sort = 0
        · rw [if_pos h0]
          cases ht : twiceK [] (k :: r) with
          | some l => exact cread_twice s k r S h0 l ht
          | none =>
            generalize hG : (k :: r).foldl addK [] = G
            cases hm : missK (G.map Fn.name) G with
            | some l => exact cread_miss s k r S h0 ht G hG l hm
            | none =>
              cases he : endK G with
              | some l => exact cread_end s k r S h0 ht G hG hm l he
              | none => exact cread_ok s k r S h0 ht G hG hm he
        · rw [if_neg h0]
          exact cread_start s k r S h0
    · exact cread_no s h4 h3 hok

end Go.Proofs.YtfpgjkbjbbgciaaGreatDoor
