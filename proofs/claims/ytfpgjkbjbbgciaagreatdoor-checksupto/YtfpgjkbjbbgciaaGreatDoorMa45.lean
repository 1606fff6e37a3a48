import Derived.Test.YtfpgjkbjbbgciaaGreatDoorMa39
namespace Go.Proofs.YtfpgjkbjbbgciaaGreatDoor
open Sp

theorem fnFrom_lt (L : List Said) (x : ByteArray) (k : Nat) (hk : k < L.length) (hx : isFn L[k] x = true) (i : Nat) (hi : i ≤ k) : decide (fnFrom L x i < k) = true ↔ ∃ j, ∃ h : j < L.length, i ≤ j ∧ j < k ∧ isFn L[j] x = true := by
  by_cases hik : i = k
  · subst hik
    rw [fnFrom_hit L x i hk hx]
    simp
    intro j h1 h2 h3; omega
  · have h : i < L.length := by omega
    by_cases hf : isFn L[i] x = true
    · rw [fnFrom_hit L x i h hf]
      constructor
      · intro _; exact ⟨i, h, Nat.le_refl _, by omega, hf⟩
      · intro _; simp; omega
    · rw [fnFrom_on L x i h (by simpa using hf), fnFrom_lt L x k hk hx (i + 1) (by omega)]
      constructor
      · rintro ⟨j, hj, h1, h2, h3⟩; exact ⟨j, hj, by omega, h2, h3⟩
      · rintro ⟨j, hj, h1, h2, h3⟩
        refine ⟨j, hj, ?_, h2, h3⟩
        rcases Nat.lt_or_eq_of_le h1 with h1 | h1
        · omega
        · subst h1; exact absurd h3 hf
termination_by k - i
theorem labFrom_lt (L : List Said) (x : ByteArray) (k : Nat) (hk : k < L.length) (hx : isLab L[k] x = true) (hk1 : ¬ L[k].kind = 102) (i : Nat) (hi : i ≤ k) (hno : ∀ j, ∀ h : j < L.length, i ≤ j → j < k → ¬ L[j].kind = 102) : decide (labFrom L x i < k) = true ↔ ∃ j, ∃ h : j < L.length, i ≤ j ∧ j < k ∧ isLab L[j] x = true := by
  by_cases hik : i = k
  · subst hik
    rw [labFrom_hit L x i hk hk1 hx]
    simp
    intro j h1 h2 h3; omega
  · have h : i < L.length := by omega
    have h1 := hno i h (Nat.le_refl _) (by omega)
    by_cases hf : isLab L[i] x = true
    · rw [labFrom_hit L x i h h1 hf]
      constructor
      · intro _; exact ⟨i, h, Nat.le_refl _, by omega, hf⟩
      · intro _; simp; omega
    · rw [labFrom_on L x i h h1 (by simpa using hf), labFrom_lt L x k hk hx hk1 (i + 1) (by omega) (fun j h a b => hno j h (by omega) b)]
      constructor
      · rintro ⟨j, hj, h1, h2, h3⟩; exact ⟨j, hj, by omega, h2, h3⟩
      · rintro ⟨j, hj, h1, h2, h3⟩
        refine ⟨j, hj, ?_, h2, h3⟩
        rcases Nat.lt_or_eq_of_le h1 with h1 | h1
        · omega
        · subst h1; exact absurd h3 hf
termination_by k - i

/-- What the program has kept of the lines before. -/
structure Inv (L : List Said) (j o : Nat) (F : List Fn) (f : Fn) : Prop where
  own : owner L j = (o : Int)
  le : o ≤ j
  names : ∀ x, ((F ++ [f]).map Fn.name).any (fun y => eqW y x) = true ↔ ∃ i, ∃ h : i < L.length, i < j + 1 ∧ isFn L[i] x = true
  labs : ∀ x, (labsOf f.body).any (fun y => eqW y x) = true ↔ ∃ i, ∃ h : i < L.length, o + 1 ≤ i ∧ i < j + 1 ∧ isLab L[i] x = true
  nof : ∀ i, ∀ h : i < L.length, o + 1 ≤ i → i < j + 1 → ¬ L[i].kind = 102

theorem labs_snoc (b : List Key) (k : Key) (x : ByteArray) : (labsOf (b ++ [k])).any (fun y => eqW y x) = ((labsOf b).any (fun y => eqW y x) || (decide (k.sort = 1) && eqW k.nm x)) := by
  unfold labsOf
  rw [List.filter_append, List.map_append, List.any_append]
  by_cases h : k.sort = 1 <;> simp [h]
theorem Inv.more {L : List Said} {j o : Nat} {F : List Fn} {f : Fn} (I : Inv L j o F f) (h : j + 1 < L.length) (h1 : ¬ L[j + 1].kind = 102) (b' : List Key)
    (hb : ∀ x, (labsOf b').any (fun y => eqW y x) = ((labsOf f.body).any (fun y => eqW y x) || isLab L[j + 1] x)) : Inv L (j + 1) o F ⟨f.name, f.line, b'⟩ := by
  refine ⟨(owner_succ L j h h1).trans I.own, by have := I.le; omega, ?_, ?_, ?_⟩
  · intro x
    have := I.names x
    simp only [List.map_append, List.map_cons, List.map_nil] at this ⊢
    rw [this]
    constructor
    · rintro ⟨i, hi, h2, h3⟩; exact ⟨i, hi, by omega, h3⟩
    · rintro ⟨i, hi, h2, h3⟩
      refine ⟨i, hi, ?_, h3⟩
      by_cases e : i = j + 1
      · subst e; simp [isFn, h1] at h3
      · omega
  · intro x
    rw [hb, Bool.or_eq_true, I.labs x]
    have := I.le
    constructor
    · rintro (⟨i, hi, h2, h3, h4⟩ | h4)
      · exact ⟨i, hi, h2, by omega, h4⟩
      · exact ⟨j + 1, h, by omega, by omega, h4⟩
    · rintro ⟨i, hi, h2, h3, h4⟩
      by_cases e : i = j + 1
      · subst e; exact .inr h4
      · exact .inl ⟨i, hi, h2, by omega, h4⟩
  · intro i hi h2 h3
    by_cases e : i = j + 1
    · subst e; exact h1
    · exact I.nof i hi h2 (by omega)
theorem Inv.next {L : List Said} {j o : Nat} {F : List Fn} {f : Fn} (I : Inv L j o F f) (h : j + 1 < L.length) (h1 : L[j + 1].kind = 102) (l : Int) : Inv L (j + 1) (j + 1) (F ++ [f]) ⟨L[j + 1].word 1, l, []⟩ := by
  refine ⟨owner_is L (j + 1) h h1, Nat.le_refl _, ?_, ?_, ?_⟩
  · intro x
    rw [List.map_append, List.any_append, Bool.or_eq_true, I.names x]
    constructor
    · rintro (⟨i, hi, h2, h3⟩ | h3)
      · exact ⟨i, hi, by omega, h3⟩
      · exact ⟨j + 1, h, by omega, by simpa [isFn, h1] using h3⟩
    · rintro ⟨i, hi, h2, h3⟩
      by_cases e : i = j + 1
      · subst e; exact .inr (by simpa [isFn, h1] using h3)
      · exact .inl ⟨i, hi, by omega, h3⟩
  · intro x
    simp [labsOf]
    intro i hi h2 h3; omega
  · intro i hi h2 h3; omega

theorem pass0 (L : List Said) (hw : WfAll L) (c : Int × Int) (j o : Nat) (F : List Fn) (f : Fn) (I : Inv L j o F f) : pass L 0 (j + 1) c = orElse 3 (twiceK (F ++ [f]) (keysFrom L (j + 1))) c := by
  by_cases h : j + 1 < L.length
  · by_cases h0 : L[j + 1].kind = 0
    · have hb : badB L 0 (j + 1) = false := by simp [badB, twiceB, List.getElem?_eq_getElem h, h0]
      rw [pass_on L 0 (j + 1) c h hb, keysFrom_0 L (j + 1) h h0]
      exact pass0 L hw c (j + 1) o F f (I.more h (by omega) f.body (by intro x; simp [isLab, h0]))
    · rw [keysFrom_on L (j + 1) h h0]
      by_cases h1 : L[j + 1].kind = 102
      · have hb : badB L 0 (j + 1) = bad0 (F ++ [f]) (keyQ L[j + 1] (((j + 1 : Nat) : Int) + 1)) := by
          have e : badB L 0 (j + 1) = decide (fnFrom L (L[j + 1].word 1) 0 < ((j + 1 : Nat) : Int)) := by simp [badB, twiceB, List.getElem?_eq_getElem h, h1]
          rw [e, Bool.eq_iff_iff, fnFrom_lt L _ (j + 1) h (by simp [isFn, h1, eqW]) 0 (Nat.zero_le _)]
          have e2 : bad0 (F ++ [f]) (keyQ L[j + 1] (((j + 1 : Nat) : Int) + 1)) = ((F ++ [f]).map Fn.name).any (fun y => eqW y (L[j + 1].word 1)) := by
            unfold bad0 keyQ
            dsimp only
            rw [if_pos (sortK_f _ h1), nameQ_f _ h1]
          rw [e2, I.names]
          constructor
          · rintro ⟨i, hi, _, h2, h3⟩; exact ⟨i, hi, h2, h3⟩
          · rintro ⟨i, hi, h2, h3⟩; exact ⟨i, hi, Nat.zero_le _, h2, h3⟩
        unfold twiceK
        cases hk : bad0 (F ++ [f]) (keyQ L[j + 1] (((j + 1 : Nat) : Int) + 1)) with
        | true => rw [pass_bad L 0 (j + 1) c h (hb.trans hk)]; rfl
        | false =>
          rw [pass_on L 0 (j + 1) c h (hb.trans hk), addK_begin _ _ (sortK_f _ h1)]
          have hI := I.next h h1 (((j + 1 : Nat) : Int) + 1)
          rw [pass0 L hw c (j + 1) _ _ _ hI]
          simp [keyQ, nameQ_f _ h1]
      · by_cases h2 : L[j + 1].kind = 108
        · have hb : badB L 0 (j + 1) = bad0 (F ++ [f]) (keyQ L[j + 1] (((j + 1 : Nat) : Int) + 1)) := by
            have ho : owner L (j + 1) = (o : Int) := (owner_succ L j h h1).trans I.own
            have e : badB L 0 (j + 1) = decide (labFrom L (L[j + 1].word 0) (o + 1) < ((j + 1 : Nat) : Int)) := by
              simp only [badB, twiceB, List.getElem?_eq_getElem h, h2, labOf, ho]
              rfl
            have hle := I.le
            rw [e, Bool.eq_iff_iff, labFrom_lt L _ (j + 1) h (by simp [isLab, h2, eqW]) h1 (o + 1) (by omega) I.nof]
            have e2 : bad0 (F ++ [f]) (keyQ L[j + 1] (((j + 1 : Nat) : Int) + 1)) = (labsOf f.body).any (fun y => eqW y (L[j + 1].word 0)) := by
              unfold bad0 keyQ
              dsimp only
              rw [if_neg (sortK_n _ h1), if_pos (sortK_l _ h2), nameQ_l _ h2]
              simp
            rw [e2, I.labs]
          unfold twiceK
          cases hk : bad0 (F ++ [f]) (keyQ L[j + 1] (((j + 1 : Nat) : Int) + 1)) with
          | true => rw [pass_bad L 0 (j + 1) c h (hb.trans hk)]; rfl
          | false =>
            rw [pass_on L 0 (j + 1) c h (hb.trans hk), addK_more _ _ _ (sortK_n _ h1)]
            have hI := I.more h h1 (f.body ++ [keyQ L[j + 1] (((j + 1 : Nat) : Int) + 1)]) (by
              intro x
              rw [labs_snoc]
              simp [keyQ, sortK_l _ h2, nameQ_l _ h2, isLab, h2])
            rw [pass0 L hw c (j + 1) _ _ _ hI]
            rfl
        · have hb : badB L 0 (j + 1) = false := by simp [badB, twiceB, List.getElem?_eq_getElem h, h1, h2]
          have hk : bad0 (F ++ [f]) (keyQ L[j + 1] (((j + 1 : Nat) : Int) + 1)) = false := by
            simp [bad0, keyQ, sortK_i _ h1 h2]
          unfold twiceK
          rw [hk, pass_on L 0 (j + 1) c h hb, addK_more _ _ _ (sortK_n _ h1)]
          have hI := I.more h h1 (f.body ++ [keyQ L[j + 1] (((j + 1 : Nat) : Int) + 1)]) (by
            intro x
            rw [labs_snoc]
            simp [keyQ, sortK_i _ h1 h2, isLab, h2])
          rw [pass0 L hw c (j + 1) _ _ _ hI]
          rfl
  · rw [pass_end L 0 (j + 1) c h, keysFrom_end L _ h]; rfl
termination_by L.length - j

/-- What the program says of its statements. -/
def sayK (K : List Key) : Int × Int :=
  match K with
  | [] => (2, 0)
  | k :: _ => if k.sort = 0 then orElse 3 (twiceK [] K) (orElse 4 (missK ((K.foldl addK []).map Fn.name) (K.foldl addK [])) (orElse 5 (endK (K.foldl addK [])) (0, 0))) else (2, k.line)

theorem pass_skip (L : List Said) (q i : Nat) (c : Int × Int) (h : i < L.length) (h0 : L[i].kind = 0) : pass L q i c = pass L q (i + 1) c := by
  refine pass_on L q i c h ?_
  unfold badB
  split
  · simp [twiceB, List.getElem?_eq_getElem h, h0]
  · split
    · simp [missingB, List.getElem?_eq_getElem h, h0]
    · simp [endlessB, List.getElem?_eq_getElem h, h0]
theorem pass_skips (L : List Said) (q p : Nat) (c : Int × Int) (hp : p ≤ L.length) (hz : ∀ j, ∀ h : j < L.length, j < p → L[j].kind = 0) : pass L q 0 c = pass L q p c := by
  induction p with
  | zero => rfl
  | succ p ih => rw [ih (by omega) (fun j h h' => hz j h (by omega)), pass_skip L q p c (by omega) (hz p (by omega) (by omega))]
theorem fns_skips (L : List Said) (p : Nat) (hp : p ≤ L.length) (hz : ∀ j, ∀ h : j < L.length, j < p → L[j].kind = 0) : fnsFrom L 0 = fnsFrom L p := by
  induction p with
  | zero => rfl
  | succ p ih => rw [ih (by omega) (fun j h h' => hz j h (by omega)), fnsFrom_on L p (by omega) (by rw [hz p (by omega) (by omega)]; decide)]

theorem start_any (L : List Said) (hw : WfAll L) (hn : NmOk L) (i : Nat) (hi : i ≤ L.length) (hz : ∀ j, ∀ h : j < L.length, j < i → L[j].kind = 0) : startAt L i = sayK (keysFrom L i) := by
  by_cases h : i < L.length
  · by_cases h0 : L[i].kind = 0
    · rw [startAt_on L i h h0, keysFrom_0 L i h h0]
      refine start_any L hw hn (i + 1) h (fun j hj h' => ?_)
      by_cases e : j = i
      · subst e; exact h0
      · exact hz j hj (by omega)
    · by_cases h1 : L[i].kind = 102
      · rw [startAt_f L i h h0 h1]
        have hF : (keysFrom L i).foldl addK [] = fnsFrom L i := by
          rw [keysFrom_on L i h h0, List.foldl_cons, addK_begin _ _ (sortK_f _ h1), fold_fns, fnsFrom_f L i h h1]
          simp [keyQ, nameQ_f _ h1]
        have hN : ∀ x, ((fnsFrom L i).map Fn.name).any (fun y => eqW y x) = decide (0 ≤ fnFrom L x 0) := by
          intro x; rw [← fns_skips L i hi hz]; exact fns_any L 0 x
        have ho := owner_is L i h h1
        have p1 : ∀ c, pass L 1 0 c = orElse 4 (missK ((fnsFrom L i).map Fn.name) (fnsFrom L i)) c := by
          intro c
          have hb : badB L 1 i = false := by simp [badB, missingB, List.getElem?_eq_getElem h, h1]
          rw [pass_skips L 1 i c hi hz, pass_on L 1 i c h hb, pass1 L hw hn _ hN c i i ho (labsOf (bodyFrom L (i + 1))) (fun x => labs_any L (i + 1) x)]
          conv => rhs; rw [fnsFrom_f L i h h1]
          rw [fnsFrom_f L i h h1]
          rfl
        have p2 : ∀ c, pass L 2 0 c = orElse 5 (endK (fnsFrom L i)) c := by
          intro c; rw [pass_skips L 2 i c hi hz, pass2 L hw i c]
        have I : Inv L i i [] ⟨L[i].word 1, (i : Int) + 1, []⟩ := by
          refine ⟨ho, Nat.le_refl _, ?_, ?_, ?_⟩
          · intro x
            constructor
            · intro h3; exact ⟨i, h, by omega, by simpa [isFn, h1] using h3⟩
            · rintro ⟨j, hj, h2, h3⟩
              by_cases e : j = i
              · subst e; simpa [isFn, h1] using h3
              · have := hz j hj (by omega)
                simp [isFn, this] at h3
          · intro x
            simp [labsOf]
            intro j hj h2 h3; omega
          · intro j hj h2 h3; omega
        have p0 : ∀ c, pass L 0 0 c = orElse 3 (twiceK [] (keysFrom L i)) c := by
          intro c
          have hb : badB L 0 i = false := by
            have e : badB L 0 i = decide (fnFrom L (L[i].word 1) 0 < (i : Int)) := by simp [badB, twiceB, List.getElem?_eq_getElem h, h1]
            rw [e, Bool.eq_false_iff]
            intro h2
            obtain ⟨j, hj, _, h3, h4⟩ := (fnFrom_lt L _ i h (by simp [isFn, h1, eqW]) 0 (Nat.zero_le _)).1 h2
            have := hz j hj h3
            simp [isFn, this] at h4
          rw [pass_skips L 0 i c hi hz, pass_on L 0 i c h hb, pass0 L hw c i i [] _ I, keysFrom_on L i h h0]
          conv => rhs; unfold twiceK
          rw [addK_begin _ _ (sortK_f _ h1)]
          simp [bad0, keyQ, sortK_f _ h1, nameQ_f _ h1]
        have ht : tail L 0 = pass L 0 0 (pass L 1 0 (pass L 2 0 (0, 0))) := rfl
        rw [ht, p0, p1, p2]
        unfold sayK
        rw [hF]
        conv => rhs; rw [keysFrom_on L i h h0]
        dsimp only
        rw [if_pos (show (keyQ L[i] ((i : Int) + 1)).sort = 0 from sortK_f _ h1), ← keysFrom_on L i h h0]
      · rw [startAt_n L i h h0 h1, keysFrom_on L i h h0]
        unfold sayK
        dsimp only
        rw [if_neg (show ¬ (keyQ L[i] ((i : Int) + 1)).sort = 0 from sortK_n _ h1)]
        rfl
  · rw [startAt_end L i h, keysFrom_end L i h]; rfl
termination_by L.length - i

theorem nm_ok (s : ByteArray) (h : (say s).ok = true) (h5 : (say s).kind = 105) (ha : asksLab ((say s).word 0) = true ∨ asksFn ((say s).word 0) = true) : nameQ (say s) = (say s).last := by
  have hv : validAt s 0 = true := by
    cases hv : validAt s 0 with
    | true => rfl
    | false => rw [say_invalid s hv] at h; cases h
  rw [say_words s hv] at h h5 ha ⊢
  generalize words s = l at h h5 ha ⊢
  cases l with
  | nil => simp [sayW] at h5
  | cons x r =>
    have e : sayW (x :: r) = ⟨105, x :: r, if shapeOf x = [63] ∨ ¬ (x :: r).length = (shapeOf x).length + 1 then false else opsOk (shapeOf x) r⟩ := by
      unfold sayW at h5 ⊢
      dsimp only at h5 ⊢
      split at h5
      · simp at h5
      · rename_i hf
        rw [if_neg hf]
        split at h5
        · simp at h5
        · rename_i hg
          rw [if_neg hg]
    rw [e] at h ha ⊢
    have hx : (⟨105, x :: r, if shapeOf x = [63] ∨ ¬ (x :: r).length = (shapeOf x).length + 1 then false else opsOk (shapeOf x) r⟩ : Said).word 0 = x := rfl
    rw [hx] at ha
    have hl : (x :: r).length = (shapeOf x).length + 1 := by
      by_cases hc : shapeOf x = [63] ∨ ¬ (x :: r).length = (shapeOf x).length + 1
      · simp only [if_pos hc] at h; cases h
      · rcases Classical.em ((x :: r).length = (shapeOf x).length + 1) with h' | h'
        · exact h'
        · exact absurd (.inr h') hc
    have hsh : shapeOf x = [78] ∨ shapeOf x = [82, 82, 78] := by
      unfold asksLab asksFn isW at ha
      simp only [Bool.or_eq_true, beq_iff_eq] at ha
      unfold shapeOf isW
      rcases ha with ((ha | ha) | ha) | ha <;> rw [ha] <;> decide
    unfold nameQ Said.last
    rw [if_neg (show ¬ (105 : Int) = 102 by decide), if_neg (show ¬ (105 : Int) = 108 by decide), hx]
    rcases hsh with hs | hs
    · rw [hs] at hl ⊢
      match r, hl with
      | [a], _ => rfl
    · rw [hs] at hl ⊢
      match r, hl with
      | [a, b, c], _ => rfl
/-- The reading, as the program does it. -/
theorem start_keys (A : List ByteArray) (hok : ∀ x ∈ A, (say x).ok = true) : startAt (A.map say) 0 = sayK (keysTo A A.length) := by
  rw [keys_all A]
  refine start_any _ ?_ ?_ 0 (Nat.zero_le _) (fun j h h' => absurd h' (Nat.not_lt_zero _))
  · intro q hq
    obtain ⟨x, hx, rfl⟩ := List.mem_map.1 hq
    exact say_wf x (hok x hx)
  · intro q hq
    obtain ⟨x, hx, rfl⟩ := List.mem_map.1 hq
    exact nm_ok x (hok x hx)

end Go.Proofs.YtfpgjkbjbbgciaaGreatDoor
