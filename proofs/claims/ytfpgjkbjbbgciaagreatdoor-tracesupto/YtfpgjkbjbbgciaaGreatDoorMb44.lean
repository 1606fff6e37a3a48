import Derived.Test.YtfpgjkbjbbgciaaGreatDoorMb35
import Derived.Test.YtfpgjkbjbbgciaaGreatDoorMb43
namespace Go.Proofs.YtfpgjkbjbbgciaaGreatDoor
open Sp
/- The places of instructions, counted along the lines. Plain maths. -/

/-- How many instructions stand ahead of a line. -/
def cnt (L : List Said) : Nat → Nat
  | 0 => 0
  | i + 1 => cnt L i + (match L[i]? with | none => 0 | some q => if q.kind = 105 then 1 else 0)
theorem cnt_ins (L : List Said) (i : Nat) (h : i < L.length) (h5 : L[i].kind = 105) : cnt L (i + 1) = cnt L i + 1 := by simp [cnt, List.getElem?_eq_getElem h, h5]
theorem cnt_no (L : List Said) (i : Nat) (h : i < L.length) (h5 : ¬ L[i].kind = 105) : cnt L (i + 1) = cnt L i := by simp [cnt, List.getElem?_eq_getElem h, h5]
theorem cnt_mono (L : List Said) (i d : Nat) : cnt L i ≤ cnt L (i + d) := by
  induction d with
  | zero => exact Nat.le_refl _
  | succ d ih => exact Nat.le_trans ih (Nat.le_add_right _ _)
theorem cnt_le (L : List Said) {i j : Nat} (h : i ≤ j) : cnt L i ≤ cnt L j := by
  obtain ⟨d, rfl⟩ := Nat.exists_eq_add_of_le h
  exact cnt_mono L i d
theorem cnt_few (L : List Said) (i : Nat) : cnt L i ≤ i := by
  induction i with
  | zero => exact Nat.le_refl _
  | succ i ih =>
    show cnt L i + _ ≤ i + 1
    have : (match L[i]? with | none => 0 | some q => if q.kind = 105 then 1 else 0) ≤ 1 := by
      split
      · omega
      · split <;> omega
    omega
/-- No function begins between two lines. -/
def NoFn (L : List Said) (i j : Nat) : Prop := ∀ m (hm : m < L.length), i ≤ m → m ≤ j → ¬ L[m].kind = 102
theorem NoFn.one {L : List Said} {i : Nat} {hi : i < L.length} (h : ¬ L[i].kind = 102) : NoFn L i i := fun m hm a b => by
  have e : m = i := by omega
  subst e; exact h
theorem NoFn.cons {L : List Said} {i j : Nat} {hi : i < L.length} (h : ¬ L[i].kind = 102) (h2 : NoFn L (i + 1) j) : NoFn L i j := fun m hm a b => by
  by_cases e : m = i
  · subst e; exact h
  · exact h2 m hm (by omega) b
theorem NoFn.trans {L : List Said} {i j k l : Nat} (h : NoFn L i j) (h2 : NoFn L k l) (hk : k ≤ j + 1) : NoFn L i l := fun m hm a b => by
  by_cases e : m ≤ j
  · exact h m hm a e
  · exact h2 m hm (by omega) b

theorem next_cnt (L : List Said) (i j : Nat) (h : nextFrom L i = (j : Int)) : ∃ hj : j < L.length, i ≤ j ∧ L[j].kind = 105 ∧ cnt L j = cnt L i ∧ NoFn L i j := by
  by_cases hi : i < L.length
  · by_cases h1 : L[i].kind = 102
    · rw [nextFrom_f L i hi h1] at h; omega
    · by_cases h5 : L[i].kind = 105
      · rw [nextFrom_hit L i hi h5] at h
        have e : i = j := by omega
        subst e
        exact ⟨hi, Nat.le_refl _, h5, rfl, .one (hi := hi) h1⟩
      · rw [nextFrom_on L i hi h1 h5] at h
        obtain ⟨hj, a, b, c, d⟩ := next_cnt L (i + 1) j h
        exact ⟨hj, by omega, b, by rw [c, cnt_no L i hi h5], .cons (hi := hi) h1 d⟩
  · rw [nextFrom_end L i hi] at h; omega
termination_by L.length - i

theorem endsK_cons (k j : Key) (r : List Key) : endsK (k :: j :: r) = endsK (j :: r) := by simp [endsK]
theorem ends_next (L : List Said) (i : Nat) (h : endsK (bodyFrom L i) = true) : ∃ j : Nat, nextFrom L i = (j : Int) := by
  by_cases hi : i < L.length
  · by_cases h1 : L[i].kind = 102
    · rw [bodyFrom_f L i hi h1] at h; simp [endsK] at h
    · by_cases h5 : L[i].kind = 105
      · exact ⟨i, nextFrom_hit L i hi h5⟩
      · rw [nextFrom_on L i hi h1 h5]
        by_cases h0 : L[i].kind = 0
        · rw [bodyFrom_0 L i hi h0] at h
          exact ends_next L (i + 1) h
        · rw [bodyFrom_on L i hi h0 h1] at h
          refine ends_next L (i + 1) ?_
          cases hb : bodyFrom L (i + 1) with
          | nil => rw [hb] at h; simp [endsK, keyQ, wordK, h5, ends_none] at h
          | cons k r => rw [hb, endsK_cons] at h; exact h
  · rw [bodyFrom_end L i hi] at h; simp [endsK] at h
termination_by L.length - i
theorem ends_on (L : List Said) (i : Nat) (hi : i < L.length) (h1 : ¬ L[i].kind = 102) (h : endsK (bodyFrom L i) = true) (hne : bodyFrom L (i + 1) ≠ []) : endsK (bodyFrom L (i + 1)) = true := by
  by_cases h0 : L[i].kind = 0
  · rw [bodyFrom_0 L i hi h0] at h; exact h
  · rw [bodyFrom_on L i hi h0 h1] at h
    cases hb : bodyFrom L (i + 1) with
    | nil => exact absurd hb hne
    | cons k r => rw [hb, endsK_cons] at h; exact h
theorem ends_to (L : List Said) (i : Nat) (h : endsK (bodyFrom L i) = true) (d : Nat) (hd : i + d ≤ L.length) (hno : ∀ m (hm : m < L.length), i ≤ m → m < i + d → ¬ L[m].kind = 102) (hne : bodyFrom L (i + d) ≠ []) : endsK (bodyFrom L (i + d)) = true := by
  induction d with
  | zero => exact h
  | succ d ih =>
    have hm : i + d < L.length := by omega
    have h1 := hno (i + d) hm (by omega) (by omega)
    refine ends_on L (i + d) hm h1 (ih (by omega) (fun m hm a b => hno m hm a (by omega)) ?_) hne
    by_cases h0 : L[i + d].kind = 0
    · rw [bodyFrom_0 L _ hm h0]; exact hne
    · rw [bodyFrom_on L _ hm h0 h1]; simp
/-- Behind any line of a function at which something is still said, there is an instruction. -/
theorem next_there (L : List Said) (i j : Nat) (hij : i ≤ j) (hj : j < L.length) (h : endsK (bodyFrom L i) = true) (hno : NoFn L i j) (hne : bodyFrom L j ≠ []) : ∃ k : Nat, nextFrom L j = (k : Int) := by
  obtain ⟨d, rfl⟩ := Nat.exists_eq_add_of_le hij
  exact ends_next L _ (ends_to L i h d (by omega) (fun m hm a b => hno m hm a (by omega)) hne)

theorem its_split {its : List It} {k : Key} {b : List Key} (h : its.map It.key = k :: b) : ∃ t r, its = t :: r ∧ t.key = k ∧ r.map It.key = b := by
  cases its with
  | nil => simp at h
  | cons t r => simp at h; exact ⟨t, r, rfl, h.1, h.2⟩
theorem insOf_l {t : It} (r : List It) (h : t.sort = 1) : insOf (t :: r) = insOf r := by simp [insOf, h]
theorem insOf_i {t : It} (r : List It) (h : t.sort = 2) : insOf (t :: r) = t :: insOf r := by simp [insOf, h]
theorem kind_i {L : List Said} (hw : WfAll L) {i : Nat} (hi : i < L.length) (h0 : ¬ L[i].kind = 0) (h1 : ¬ L[i].kind = 102) (h2 : ¬ L[i].kind = 108) : L[i].kind = 105 := by
  have := hw.at i hi
  unfold Wf at this; omega
/-- An instruction of a function: its line. -/
theorem body_ins (L : List Said) (hw : WfAll L) (i : Nat) (its : List It) (h : its.map It.key = bodyFrom L i) (m : Nat) (it : It) (hm : (insOf its)[m]? = some it) :
    ∃ j, ∃ hj : j < L.length, i ≤ j ∧ L[j].kind = 105 ∧ it.key = keyQ L[j] ((j : Int) + 1) ∧ cnt L j = cnt L i + m ∧ NoFn L i j := by
  by_cases hi : i < L.length
  · by_cases h1 : L[i].kind = 102
    · rw [bodyFrom_f L i hi h1] at h
      have e : its = [] := by simpa using h
      subst e; simp [insOf] at hm
    · by_cases h0 : L[i].kind = 0
      · rw [bodyFrom_0 L i hi h0] at h
        obtain ⟨j, hj, a, b, c, d, e⟩ := body_ins L hw (i + 1) its h m it hm
        exact ⟨j, hj, by omega, b, c, by rw [d, cnt_no L i hi (by omega)], .cons (hi := hi) h1 e⟩
      · rw [bodyFrom_on L i hi h0 h1] at h
        obtain ⟨t, r, rfl, ht, hr⟩ := its_split h
        by_cases h2 : L[i].kind = 108
        · have hs : t.sort = 1 := (congrArg Key.sort ht).trans (sortK_l _ h2)
          rw [insOf_l r hs] at hm
          obtain ⟨j, hj, a, b, c, d, e⟩ := body_ins L hw (i + 1) r hr m it hm
          exact ⟨j, hj, by omega, b, c, by rw [d, cnt_no L i hi (by omega)], .cons (hi := hi) h1 e⟩
        · have h5 := kind_i hw hi h0 h1 h2
          have hs : t.sort = 2 := (congrArg Key.sort ht).trans (sortK_i _ h1 h2)
          rw [insOf_i r hs] at hm
          cases m with
          | zero =>
            have e : t = it := by simpa using hm
            subst e
            exact ⟨i, hi, Nat.le_refl _, h5, ht, rfl, .one (hi := hi) h1⟩
          | succ m =>
            rw [List.getElem?_cons_succ] at hm
            obtain ⟨j, hj, a, b, c, d, e⟩ := body_ins L hw (i + 1) r hr m it hm
            exact ⟨j, hj, by omega, b, c, by rw [d, cnt_ins L i hi h5]; omega, .cons (hi := hi) h1 e⟩
  · rw [bodyFrom_end L i hi] at h
    have e : its = [] := by simpa using h
    subst e; simp [insOf] at hm
termination_by L.length - i
/-- And the other way round. -/
theorem body_line (L : List Said) (hw : WfAll L) (i : Nat) (its : List It) (h : its.map It.key = bodyFrom L i) (j : Nat) (hj : j < L.length) (hij : i ≤ j) (h5 : L[j].kind = 105) (hno : NoFn L i j) :
    ∃ it, (insOf its)[cnt L j - cnt L i]? = some it ∧ it.key = keyQ L[j] ((j : Int) + 1) := by
  have hi : i < L.length := by omega
  have h1 := hno i hi (Nat.le_refl _) hij
  have hno' : NoFn L (i + 1) j := fun m hm a b => hno m hm (by omega) b
  by_cases e0 : i = j
  · subst e0
    rw [bodyFrom_on L i hi (by omega) h1] at h
    obtain ⟨t, r, rfl, ht, hr⟩ := its_split h
    have hs : t.sort = 2 := (congrArg Key.sort ht).trans (sortK_i _ h1 (by omega))
    exact ⟨t, by rw [insOf_i r hs, Nat.sub_self]; rfl, ht⟩
  · by_cases h0 : L[i].kind = 0
    · rw [bodyFrom_0 L i hi h0] at h
      rw [← cnt_no L i hi (by omega)]
      exact body_line L hw (i + 1) its h j hj (by omega) h5 hno'
    · rw [bodyFrom_on L i hi h0 h1] at h
      obtain ⟨t, r, rfl, ht, hr⟩ := its_split h
      obtain ⟨it, hit, hk⟩ := body_line L hw (i + 1) r hr j hj (by omega) h5 hno'
      by_cases h2 : L[i].kind = 108
      · have hs : t.sort = 1 := (congrArg Key.sort ht).trans (sortK_l _ h2)
        rw [insOf_l r hs, ← cnt_no L i hi (by omega)]
        exact ⟨it, hit, hk⟩
      · have h5' := kind_i hw hi h0 h1 h2
        have hs : t.sort = 2 := (congrArg Key.sort ht).trans (sortK_i _ h1 h2)
        have hle := cnt_le L (show i + 1 ≤ j by omega)
        have hc := cnt_ins L i hi h5'
        rw [insOf_i r hs, show cnt L j - cnt L i = (cnt L j - cnt L (i + 1)) + 1 by omega]
        exact ⟨it, by rw [List.getElem?_cons_succ]; exact hit, hk⟩
termination_by L.length - i
/-- A label of a function: its line. -/
theorem body_lab (L : List Said) (hw : WfAll L) (x : ByteArray) (i : Nat) (its : List It) (h : its.map It.key = bodyFrom L i) (n j : Nat) (hl : labFrom L x i = (j : Int)) :
    findE (labsFrom n its) x = some (n + (cnt L j - cnt L i)) ∧ ∃ hj : j < L.length, i ≤ j ∧ L[j].kind = 108 ∧ NoFn L i j := by
  by_cases hi : i < L.length
  · by_cases h1 : L[i].kind = 102
    · rw [labFrom_f L x i hi h1] at hl; omega
    · by_cases h0 : L[i].kind = 0
      · rw [bodyFrom_0 L i hi h0] at h
        rw [labFrom_on L x i hi h1 (by simp [isLab, h0])] at hl
        obtain ⟨a, hj, b, c, d⟩ := body_lab L hw x (i + 1) its h n j hl
        exact ⟨by rw [a, cnt_no L i hi (by omega)], hj, by omega, c, .cons (hi := hi) h1 d⟩
      · rw [bodyFrom_on L i hi h0 h1] at h
        obtain ⟨t, r, rfl, ht, hr⟩ := its_split h
        rw [labsFrom_cons]
        by_cases h2 : L[i].kind = 108
        · have hs : t.sort = 1 := (congrArg Key.sort ht).trans (sortK_l _ h2)
          have hnm : t.nm = L[i].word 0 := (congrArg Key.nm ht).trans (nameQ_l _ h2)
          rw [if_pos hs]
          by_cases h3 : eqW (L[i].word 0) x = true
          · rw [labFrom_hit L x i hi h1 (by simp [isLab, h2, h3])] at hl
            have e : i = j := by omega
            subst e
            refine ⟨?_, hi, Nat.le_refl _, h2, .one (hi := hi) h1⟩
            unfold findE
            rw [if_pos (by rw [hnm]; exact h3)]
            simp
          · rw [labFrom_on L x i hi h1 (by simp [isLab, h3])] at hl
            obtain ⟨a, hj, b, c, d⟩ := body_lab L hw x (i + 1) r hr n j hl
            refine ⟨?_, hj, by omega, c, .cons (hi := hi) h1 d⟩
            unfold findE
            rw [if_neg (by rw [hnm]; exact h3), a, cnt_no L i hi (by omega)]
        · have h5 := kind_i hw hi h0 h1 h2
          have hs : t.sort = 2 := (congrArg Key.sort ht).trans (sortK_i _ h1 h2)
          rw [if_neg (by omega)]
          rw [labFrom_on L x i hi h1 (by simp [isLab, h2])] at hl
          obtain ⟨a, hj, b, c, d⟩ := body_lab L hw x (i + 1) r hr (n + 1) j hl
          have hle := cnt_le L b
          have hc := cnt_ins L i hi h5
          refine ⟨?_, hj, by omega, c, .cons (hi := hi) h1 d⟩
          rw [a]
          congr 1
          omega
  · rw [labFrom_end L x i hi] at hl; omega
termination_by L.length - i
theorem fns_split {F : List FnM} {f : Fn} {b : List Fn} (h : F.map FnM.fn = f :: b) : ∃ t r, F = t :: r ∧ t.fn = f ∧ r.map FnM.fn = b := by
  cases F with
  | nil => simp at h
  | cons t r => simp at h; exact ⟨t, r, rfl, h.1, h.2⟩
theorem lenF_cons (f : FnM) (F : List FnM) : lenF (f :: F) = (insOf f.its).length + lenF F := by simp [lenF]
/-- A function: its line. -/
theorem fns_at (L : List Said) (hw : WfAll L) (i : Nat) (its : List It) (h : its.map It.key = bodyFrom L i) (F : List FnM) (hF : F.map FnM.fn = fnsFrom L i) (k : Nat) (f : FnM) (hk : F[k]? = some f) :
    ∃ o, ∃ ho : o < L.length, i ≤ o ∧ L[o].kind = 102 ∧ f.line = (o : Int) + 1 ∧ f.its.map It.key = bodyFrom L (o + 1) ∧ cnt L o = cnt L i + (insOf its).length + lenF (F.take k) := by
  by_cases hi : i < L.length
  · by_cases h1 : L[i].kind = 102
    · rw [bodyFrom_f L i hi h1] at h
      have e : its = [] := by simpa using h
      subst e
      rw [fnsFrom_f L i hi h1] at hF
      obtain ⟨t, r, rfl, ht, hr⟩ := fns_split hF
      have hb : t.its.map It.key = bodyFrom L (i + 1) := congrArg Fn.body ht
      have hl : t.line = (i : Int) + 1 := congrArg Fn.line ht
      cases k with
      | zero =>
        have e : t = f := by simpa using hk
        subst e
        exact ⟨i, hi, Nat.le_refl _, h1, hl, hb, by simp [insOf, lenF]⟩
      | succ k =>
        rw [List.getElem?_cons_succ] at hk
        obtain ⟨o, ho, a, b, c, d, e⟩ := fns_at L hw (i + 1) t.its hb r hr k f hk
        exact ⟨o, ho, by omega, b, c, d, by rw [e, cnt_no L i hi (by omega), List.take_succ_cons, lenF_cons]; simp [insOf]; omega⟩
    · rw [fnsFrom_on L i hi h1] at hF
      by_cases h0 : L[i].kind = 0
      · rw [bodyFrom_0 L i hi h0] at h
        obtain ⟨o, ho, a, b, c, d, e⟩ := fns_at L hw (i + 1) its h F hF k f hk
        exact ⟨o, ho, by omega, b, c, d, by rw [e, cnt_no L i hi (by omega)]⟩
      · rw [bodyFrom_on L i hi h0 h1] at h
        obtain ⟨t, r, rfl, ht, hr⟩ := its_split h
        obtain ⟨o, ho, a, b, c, d, e⟩ := fns_at L hw (i + 1) r hr F hF k f hk
        by_cases h2 : L[i].kind = 108
        · have hs : t.sort = 1 := (congrArg Key.sort ht).trans (sortK_l _ h2)
          exact ⟨o, ho, by omega, b, c, d, by rw [e, cnt_no L i hi (by omega), insOf_l r hs]⟩
        · have h5 := kind_i hw hi h0 h1 h2
          have hs : t.sort = 2 := (congrArg Key.sort ht).trans (sortK_i _ h1 h2)
          exact ⟨o, ho, by omega, b, c, d, by rw [e, cnt_ins L i hi h5, insOf_i r hs, List.length_cons]; omega⟩
  · rw [fnsFrom_end L i hi] at hF
    have e : F = [] := by simpa using hF
    subst e; simp at hk
termination_by L.length - i
theorem fns_name (L : List Said) (x : ByteArray) (i : Nat) (F : List FnM) (hF : F.map FnM.fn = fnsFrom L i) (n o : Nat) (hl : fnFrom L x i = (o : Int)) :
    ∃ k f, F[k]? = some f ∧ findE (placesFrom n F) x = some (n + k) ∧ f.line = (o : Int) + 1 := by
  by_cases hi : i < L.length
  · by_cases h1 : L[i].kind = 102
    · rw [fnsFrom_f L i hi h1] at hF
      obtain ⟨t, r, rfl, ht, hr⟩ := fns_split hF
      have hnm : t.name = L[i].word 1 := congrArg Fn.name ht
      have hln : t.line = (i : Int) + 1 := congrArg Fn.line ht
      rw [placesFrom_cons]
      by_cases h3 : eqW (L[i].word 1) x = true
      · rw [fnFrom_hit L x i hi (by simp [isFn, h1, h3])] at hl
        refine ⟨0, t, rfl, ?_, by omega⟩
        unfold findE
        rw [if_pos (by rw [hnm]; exact h3)]
        simp
      · rw [fnFrom_on L x i hi (by simp [isFn, h3])] at hl
        obtain ⟨k, f, a, b, c⟩ := fns_name L x (i + 1) r hr (n + 1) o hl
        refine ⟨k + 1, f, by rw [List.getElem?_cons_succ]; exact a, ?_, c⟩
        unfold findE
        rw [if_neg (by rw [hnm]; exact h3), b]
        congr 1; omega
    · rw [fnsFrom_on L i hi h1] at hF
      rw [fnFrom_on L x i hi (by simp [isFn, h1])] at hl
      exact fns_name L x (i + 1) F hF n o hl
  · rw [fnFrom_end L x i hi] at hl; omega
termination_by L.length - i
/-- Ahead of the first function nothing is said. -/
theorem body_none (L : List Said) (i : Nat) (k : Key) (r : List Key) (h : keysFrom L i = k :: r) (hs : k.sort = 0) : bodyFrom L i = [] := by
  by_cases hi : i < L.length
  · by_cases h0 : L[i].kind = 0
    · rw [keysFrom_0 L i hi h0] at h
      rw [bodyFrom_0 L i hi h0]
      exact body_none L (i + 1) k r h hs
    · rw [keysFrom_on L i hi h0] at h
      have hk : keyQ L[i] ((i : Int) + 1) = k := by injection h
      by_cases h1 : L[i].kind = 102
      · exact bodyFrom_f L i hi h1
      · exact absurd ((congrArg Key.sort hk).trans hs) (sortK_n _ h1)
  · exact bodyFrom_end L i hi
termination_by L.length - i
theorem fns_all (L : List Said) (i : Nat) (k : Key) (r : List Key) (h : keysFrom L i = k :: r) (hs : k.sort = 0) : (k :: r).foldl addK [] = fnsFrom L i := by
  by_cases hi : i < L.length
  · by_cases h0 : L[i].kind = 0
    · rw [keysFrom_0 L i hi h0] at h
      rw [fnsFrom_on L i hi (by omega)]
      exact fns_all L (i + 1) k r h hs
    · rw [keysFrom_on L i hi h0] at h
      have hk : keyQ L[i] ((i : Int) + 1) = k := by injection h
      by_cases h1 : L[i].kind = 102
      · rw [← h, List.foldl_cons, addK_begin _ _ (sortK_f _ h1), fold_fns, fnsFrom_f L i hi h1]
        simp [keyQ, nameQ_f _ h1]
      · exact absurd ((congrArg Key.sort hk).trans hs) (sortK_n _ h1)
  · rw [keysFrom_end L i hi] at h; cases h
termination_by L.length - i

end Go.Proofs.YtfpgjkbjbbgciaaGreatDoor
