import Derived.Test.YtfpgjkbjbbgciaaGreatDoorMa50
import Derived.Test.YtfpgjkbjbbgciaaGreatDoorMa29
namespace Go.Proofs.YtfpgjkbjbbgciaaGreatDoor
open Go.RowKit Sp

theorem keysTo_len (A : List ByteArray) (n : Nat) : (keysTo A n).length ≤ n := by
  induction n with
  | zero => simp [keysTo]
  | succ n ih =>
    unfold keysTo
    rw [List.length_append]
    split
    · simp; omega
    · split <;> simp <;> omega
theorem keysTo_mem (A : List ByteArray) (n : Nat) (k : Key) (h : k ∈ keysTo A n) : ∃ x ∈ A, ∃ l, k = keyQ (say x) l := by
  induction n with
  | zero => simp [keysTo] at h
  | succ n ih =>
    unfold keysTo at h
    rw [List.mem_append] at h
    rcases h with h | h
    · exact ih h
    · split at h
      · simp at h
      · rename_i x hx
        split at h
        · simp at h
        · simp at h
          exact ⟨x, List.mem_of_getElem? hx, _, h⟩
theorem getD_size (l : List ByteArray) (n k : Nat) (h : ∀ y ∈ l, y.size ≤ n) : (l[k]?.getD ⟨#[]⟩).size ≤ n := by
  cases hk : l[k]? with
  | none => exact Nat.zero_le _
  | some y => exact h y (List.mem_of_getElem? hk)
theorem nameK_size (sh : List UInt8) (r : List ByteArray) (n k : Nat) (h : ∀ y ∈ r, y.size ≤ n) : (nameK sh r k).size ≤ n := by
  induction k with
  | zero => exact Nat.zero_le _
  | succ k ih =>
    unfold nameK
    split
    · exact getD_size r n k h
    · exact ih
theorem kept_size (x : ByteArray) : ∀ y ∈ (say x).kept, y.size ≤ x.size := by
  unfold say
  split
  · have hw : ∀ y ∈ words x, y.size ≤ x.size := fun y hy => (words_sizes x y hy).2
    generalize words x = l at hw
    unfold sayW
    split
    · simp
    · rename_i a r
      split
      · exact hw
      · split
        · intro y hy
          simp at hy
          subst hy
          rw [ByteArray.size_extract]
          have := hw a (by simp)
          omega
        · exact hw
  · simp
theorem nameQ_size (x : ByteArray) : (nameQ (say x)).size ≤ x.size := by
  have h := kept_size x
  unfold nameQ
  split
  · exact getD_size _ _ 1 h
  · split
    · exact getD_size _ _ 0 h
    · exact nameK_size _ _ _ _ (fun y hy => h y (List.mem_of_mem_tail hy))
theorem sayK_ne (K : List Key) : ¬ (sayK K).1 = 1 := by
  unfold sayK
  cases K with
  | nil => decide
  | cons k r =>
    dsimp only
    split
    · unfold orElse
      split
      · exact (by decide : ¬ (3 : Int) = 1)
      · split
        · exact (by decide : ¬ (4 : Int) = 1)
        · split
          · exact (by decide : ¬ (5 : Int) = 1)
          · exact (by decide : ¬ (0 : Int) = 1)
    · exact (by decide : ¬ (2 : Int) = 1)
theorem sayAt_ok (A : List ByteArray) (h : ∀ x ∈ A, (say x).ok = true) (i : Nat) : sayAt A i = startAt (A.map say) 0 := by
  by_cases hi : i < A.length
  · rw [sayAt_on A i hi (h _ (List.getElem_mem hi))]
    exact sayAt_ok A h (i + 1)
  · exact sayAt_end A i hi
termination_by A.length - i

abbrev Z33 : Obj := .cells #[.slice none 0 0, .map none] 83

/-- The statements of a text that may not be said. -/
theorem csts_no (s : ByteArray) (w : World) (hw : LibW w) (h4 : s.size ≤ 4000) (h3 : (lines s).length ≤ 300) (hno : ¬ ∀ x ∈ lines s, (say x).ok = true) :
    Calls Tryz.prog 66 #[.string s] w fun e w' => Below w.heap.size w w' ∧ ¬ sayAt (lines s) 0 = (0, 0) ∧ e = refusal (sayAt (lines s) 0).1 (sayAt (lines s) 0).2 := by
  refine (csts_any s w hw h4 h3).mono ?_
  rintro e w' ⟨hb, ⟨i, h1, h2⟩ | ⟨_, h, _⟩⟩
  · rw [h1]
    exact ⟨hb, by simp, h2⟩
  · exact absurd h hno
theorem csts_yes (s : ByteArray) (w : World) (hw : LibW w) (h4 : s.size ≤ 4000) (h3 : (lines s).length ≤ 300) (hok : ∀ x ∈ lines s, (say x).ok = true) :
    Calls Tryz.prog 66 #[.string s] w fun e w' => Below w.heap.size w w' ∧ ∃ v its, e = .returned v ∧ w'.ownsRow w.heap.size 135 8 v its.length (stmCells its) ∧ its.map It.key = keysTo (lines s) (lines s).length ∧ its.length ≤ 300 ∧ ∀ i ∈ its, ItOk i := by
  refine (csts_any s w hw h4 h3).mono ?_
  rintro e w' ⟨hb, ⟨i, h1, h2⟩ | ⟨_, h, v, its, h5, h6, h7⟩⟩
  · exfalso
    have h := sayAt_ok (lines s) hok 0
    rw [h1, start_keys _ hok] at h
    have := sayK_ne (keysTo (lines s) (lines s).length)
    rw [← h] at this
    exact this rfl
  · refine ⟨hb, v, its, h5, h6, h7, ?_, ?_⟩
    · have := keysTo_len (lines s) (lines s).length
      rw [← h7] at this
      simp at this
      omega
    · intro i hi
      have hk : i.key ∈ keysTo (lines s) (lines s).length := by rw [← h7]; exact List.mem_map_of_mem hi
      obtain ⟨x, hx, l, hl⟩ := keysTo_mem _ _ _ hk
      have e1 : i.nm = nameQ (say x) := by have := congrArg Key.nm hl; exact this
      refine ⟨?_, fun hs => ?_⟩
      · rw [e1]
        have := nameQ_size x
        have := lines_sizes s x hx
        omega
      · have e2 : i.word = wordK (say x) := by have := congrArg Key.word hl; exact this
        have e3 : i.sort = sortK (say x) := by have := congrArg Key.sort hl; exact this
        rw [e2]
        rw [hs] at e3
        unfold wordK
        rw [if_neg]
        intro h5
        unfold sortK at e3
        rw [h5] at e3
        simp at e3

set_option maxRecDepth 100000 in
theorem cread_far (s : ByteArray) (hs : s.size ≤ 1048576) (h : 4000 < s.size ∨ 300 < (lines s).length) : ReadsAs s (6, 0) := by
  intro w hw
  have hcall := csize_far s (w.alloc Z33) hs h
  clear h
  go_enter Tryz.func44, Tryz.ntmps44
  go_wp2_with (first | (go_at_call 65; refine hcall.mono ?_; rintro e w1 ⟨rfl, hww⟩; subst hww))
  exact ⟨rfl, (Below.refl _ _).alloc (Nat.le_refl _) _, .inr ⟨by simp, rfl⟩⟩
set_option maxRecDepth 100000 in
theorem cread_no (s : ByteArray) (h4 : s.size ≤ 4000) (h3 : (lines s).length ≤ 300) (hno : ¬ ∀ x ∈ lines s, (say x).ok = true) : ReadsAs s (sayAt (lines s) 0) := by
  intro w hw
  have hw1 : LibW (w.alloc Z33) := hw.below ((Below.refl _ _).alloc (Nat.le_refl _) _)
  have hcall := csize_near s (w.alloc Z33) h4 h3
  have hcall2 := csts_no s (w.alloc Z33) hw1 h4 h3 hno
  clear hno
  generalize sayAt (lines s) 0 = R at hcall2 ⊢
  go_enter Tryz.func44, Tryz.ntmps44
  go_wp2_with (first
    | (go_at_call 65; refine hcall.mono ?_; rintro e w1 ⟨rfl, hww⟩; subst hww)
    | (go_at_call 66; refine hcall2.mono ?_; rintro e w2 ⟨hb2, hR, rfl⟩))
  exact ⟨rfl, one_box _ _ hb2, .inr ⟨hR, rfl⟩⟩

/-- From the statements on. -/
structure Sts (s : ByteArray) (K : List Key) : Prop where
  h4 : s.size ≤ 4000
  h3 : (lines s).length ≤ 300
  ok : ∀ x ∈ lines s, (say x).ok = true
  keys : keysTo (lines s) (lines s).length = K
theorem Sts.call {s : ByteArray} {K : List Key} (h : Sts s K) (w : World) (hw : LibW w) :
    Calls Tryz.prog 66 #[.string s] w fun e w' => Below w.heap.size w w' ∧ ∃ v its, e = .returned v ∧ w'.ownsRow w.heap.size 135 8 v its.length (stmCells its) ∧ its.map It.key = K ∧ its.length ≤ 300 ∧ ∀ i ∈ its, ItOk i := by
  have := csts_yes s w hw h.h4 h.h3 h.ok
  rw [h.keys] at this
  exact this
theorem its_cons {its : List It} {k : Key} {r : List Key} (h : its.map It.key = k :: r) : ∃ i t, its = i :: t ∧ i.key = k := by
  cases its with
  | nil => simp at h
  | cons i t => simp at h; exact ⟨i, t, rfl, h.1⟩

set_option maxRecDepth 100000 in
theorem cread_none (s : ByteArray) (h : Sts s []) : ReadsAs s (2, 0) := by
  intro w hw
  have hw1 : LibW (w.alloc Z33) := hw.below ((Below.refl _ _).alloc (Nat.le_refl _) _)
  have hcall := csize_near s (w.alloc Z33) h.h4 h.h3
  have hcall2 := h.call (w.alloc Z33) hw1
  clear h
  go_enter Tryz.func44, Tryz.ntmps44
  go_wp2_with (first
    | (go_at_call 65; refine hcall.mono ?_; rintro e w1 ⟨rfl, hww⟩; subst hww)
    | (go_at_call 66; refine hcall2.mono ?_; rintro e w2 ⟨hb2, v, its, rfl, hown, hk, hl, hnm⟩; obtain rfl : its = [] := by simpa using hk)
    | (go_at_call 67; refine (cstart_none w2 _ v hown).mono ?_; rintro e w3 ⟨rfl, hww⟩; subst hww))
  exact ⟨rfl, one_box _ _ hb2, .inr ⟨by simp, rfl⟩⟩
set_option maxRecDepth 100000 in
theorem cread_start (s : ByteArray) (k : Key) (r : List Key) (h : Sts s (k :: r)) (hs : ¬ k.sort = 0) : ReadsAs s (2, k.line) := by
  intro w hw
  have hw1 : LibW (w.alloc Z33) := hw.below ((Below.refl _ _).alloc (Nat.le_refl _) _)
  have hcall := csize_near s (w.alloc Z33) h.h4 h.h3
  have hcall2 := (h.call (w.alloc Z33) hw1).mono (R' := fun e w' => Below (w.alloc Z33).heap.size (w.alloc Z33) w' ∧ ∃ v i t, e = .returned v ∧ w'.ownsRow (w.alloc Z33).heap.size 135 8 v (i :: t).length (stmCells (i :: t)) ∧ t.length ≤ 4096 ∧ ¬ i.sort = 0 ∧ i.line = k.line) (by
    rintro e w' ⟨hb, v, its, h1, h2, h3, h4, h5⟩
    obtain ⟨i, t, rfl, rfl⟩ := its_cons h3
    exact ⟨hb, v, i, t, h1, h2, by simp at h4; omega, hs, rfl⟩)
  clear h hs
  go_enter Tryz.func44, Tryz.ntmps44
  go_wp2_with (first
    | (go_at_call 65; refine hcall.mono ?_; rintro e w1 ⟨rfl, hww⟩; subst hww)
    | (go_at_call 66; refine hcall2.mono ?_; rintro e w2 ⟨hb2, v, i, t, rfl, hown, hl, hns, hline⟩)
    | (go_at_call 67; refine (cstart_bad w2 _ v i t hown hl hns).mono ?_; rintro e w3 ⟨rfl, hww⟩; subst hww))
  exact ⟨rfl, one_box _ _ hb2, .inr ⟨by simp, by simp⟩⟩

/-- The statements begin with a function. -/
theorem Sts.begins {s : ByteArray} {k : Key} {r : List Key} (h : Sts s (k :: r)) (hs : k.sort = 0) (w : World) (hw : LibW w) :
    Calls Tryz.prog 66 #[.string s] w fun e w' => Below w.heap.size w w' ∧ ∃ v i t, e = .returned v ∧ w'.ownsRow w.heap.size 135 8 v (i :: t).length (stmCells (i :: t)) ∧ (i :: t).map It.key = k :: r ∧ (i :: t).length ≤ 300 ∧ (∀ j ∈ i :: t, ItOk j) ∧ Hid (i.sort = 0) := by
  refine (h.call w hw).mono ?_
  rintro e w' ⟨hb, v, its, h1, h2, h3, h4, h5⟩
  obtain ⟨i, t, rfl, rfl⟩ := its_cons h3
  exact ⟨hb, v, i, t, h1, h2, h3, h4, h5, hs⟩
theorem start_ok (w : World) (B : Nat) (v : Value) (i : It) (t : List It) (h : w.ownsRow B 135 8 v (i :: t).length (stmCells (i :: t))) (hl : (i :: t).length ≤ 300) (hs : Hid (i.sort = 0)) :
    Calls Tryz.prog 67 #[v] w fun e w' => e = .returned (.tuple #[]) ∧ w' = w := cstart_good w B v i t h (by simp at hl; omega) hs.out
theorem prog_no (w : World) (B : Nat) (v : Value) (i : It) (t : List It) (K : List Key) (h : w.ownsRow B 135 8 v (i :: t).length (stmCells (i :: t))) (hk : (i :: t).map It.key = K) (hl : (i :: t).length ≤ 300) (hnm : ∀ j ∈ i :: t, ItOk j) (hs : Hid (i.sort = 0)) (l : Int) (htw : Hid (twiceK [] K = some l)) :
    Calls Tryz.prog 68 #[v] w fun e w' => Below w.heap.size w w' ∧ e = refusal 3 l := by
  have := cprog_any w B v (i :: t) h hl hnm (by simp) hs
  rw [hk] at this
  refine this.mono ?_
  rintro e w' ⟨hb, ⟨l', h1, h2⟩ | ⟨h1, _⟩⟩
  · rw [htw.out] at h1
    cases h1
    exact ⟨hb, h2⟩
  · rw [htw.out] at h1; cases h1
theorem prog_ok (w : World) (B : Nat) (v : Value) (i : It) (t : List It) (K : List Key) (h : w.ownsRow B 135 8 v (i :: t).length (stmCells (i :: t))) (hk : (i :: t).map It.key = K) (hl : (i :: t).length ≤ 300) (hnm : ∀ j ∈ i :: t, ItOk j) (hs : Hid (i.sort = 0)) (htw : Hid (twiceK [] K = none)) (G : List Fn) (hG : Hid (K.foldl addK [] = G)) (hG0 : 0 < G.length) :
    Calls Tryz.prog 68 #[v] w fun e w' => Below w.heap.size w w' ∧ ∃ pm ao n cap F, e = .returned (.agg #[.slice ao n cap, .map (some pm)]) ∧ PIn w.heap.size w' pm (.slice ao n cap) F ∧ Hid (F.map FnM.fn = G) ∧ 0 < F.length ∧ F.length ≤ 300 ∧ (∀ f ∈ F, f.its.length ≤ 300 ∧ ∀ i ∈ f.its, ItOk i) := by
  have := cprog_any w B v (i :: t) h hl hnm (by simp) hs
  rw [hk] at this
  have hKl : K.length ≤ 300 := by rw [← hk]; simpa using hl
  refine this.mono ?_
  rintro e w' ⟨hb, ⟨l', h1, h2⟩ | ⟨_, pm, v', F, h1, h2, h3, h4, h5⟩⟩
  · rw [htw.out] at h1; cases h1
  · rw [hG.out] at h3
    have hFG : F.length = G.length := by rw [← h3]; simp
    obtain ⟨ao, cap, rfl⟩ := slice_of h2.row
    exact ⟨hb, pm, ao, _, cap, F, h1, h2, h3, by omega, by omega, fun f hf => ⟨by have := (h5 f hf).1; omega, (h5 f hf).2⟩⟩

set_option maxRecDepth 100000 in
theorem cread_twice (s : ByteArray) (k : Key) (r : List Key) (h : Sts s (k :: r)) (hs : k.sort = 0) (l : Int) (ht : twiceK [] (k :: r) = some l) : ReadsAs s (3, l) := by
  intro w hw
  have hw1 : LibW (w.alloc Z33) := hw.below ((Below.refl _ _).alloc (Nat.le_refl _) _)
  have hcall := csize_near s (w.alloc Z33) h.h4 h.h3
  have hcall2 := h.begins hs (w.alloc Z33) hw1
  have HT : Hid (twiceK [] (k :: r) = some l) := ht
  clear h hs ht
  generalize k :: r = K at hcall2 HT
  go_enter Tryz.func44, Tryz.ntmps44
  go_wp2_with (first
    | (go_at_call 65; refine hcall.mono ?_; rintro e w1 ⟨rfl, hww⟩; subst hww)
    | (go_at_call 66; refine hcall2.mono ?_; rintro e w2 ⟨hb2, v, i, t, rfl, hown, hk, hl, hnm, hns⟩)
    | (go_at_call 67; refine (start_ok w2 _ v i t hown hl hns).mono ?_; rintro e w3 ⟨rfl, hww⟩; have h2 := hww.symm; subst h2)
    | (go_at_call 68; refine (prog_no _ _ v i t K hown hk hl hnm hns l HT).mono ?_; rintro e w4 ⟨hb4, rfl⟩))
  exact ⟨rfl, (one_box _ _ hb2).trans (hb4.mono (one_box _ _ hb2).size), .inr ⟨by simp, rfl⟩⟩

end Go.Proofs.YtfpgjkbjbbgciaaGreatDoor
