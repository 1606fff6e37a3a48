import Derived.Test.YtfpgjkbjbbgciaaGreatDoorMa35
namespace Go.Proofs.YtfpgjkbjbbgciaaGreatDoor
open Sp

/-- A function, as the program keeps it. -/
structure Fn where
  name : ByteArray
  line : Int
  body : List Key
def labsOf (b : List Key) : List ByteArray := (b.filter (fun k => decide (k.sort = 1))).map Key.nm
def addK (F : List Fn) (k : Key) : List Fn :=
  if k.sort = 0 then F ++ [⟨k.nm, k.line, []⟩]
  else match F.getLast? with
    | none => F
    | some f => F.dropLast ++ [⟨f.name, f.line, f.body ++ [k]⟩]
theorem addK_begin (F : List Fn) (k : Key) (h : k.sort = 0) : addK F k = F ++ [⟨k.nm, k.line, []⟩] := by simp [addK, h]
theorem addK_more (F : List Fn) (f : Fn) (k : Key) (h : ¬ k.sort = 0) : addK (F ++ [f]) k = F ++ [⟨f.name, f.line, f.body ++ [k]⟩] := by simp [addK, h]
/-- Does a name stand twice? -/
def bad0 (F : List Fn) (k : Key) : Bool :=
  if k.sort = 0 then (F.map Fn.name).any (fun y => eqW y k.nm)
  else if k.sort = 1 then (match F.getLast? with | none => false | some f => (labsOf f.body).any (fun y => eqW y k.nm)) else false

/-- From a line on: what is said up to the next function. -/
def bodyFrom (L : List Said) (i : Nat) : List Key :=
  if h : i < L.length then (if L[i].kind = 102 then [] else if L[i].kind = 0 then bodyFrom L (i + 1) else keyQ L[i] ((i : Int) + 1) :: bodyFrom L (i + 1)) else []
termination_by L.length - i
def fnsFrom (L : List Said) (i : Nat) : List Fn :=
  if h : i < L.length then (if L[i].kind = 102 then ⟨L[i].word 1, (i : Int) + 1, bodyFrom L (i + 1)⟩ :: fnsFrom L (i + 1) else fnsFrom L (i + 1)) else []
termination_by L.length - i
def keysFrom (L : List Said) (i : Nat) : List Key :=
  if h : i < L.length then (if L[i].kind = 0 then keysFrom L (i + 1) else keyQ L[i] ((i : Int) + 1) :: keysFrom L (i + 1)) else []
termination_by L.length - i
theorem bodyFrom_end (L : List Said) (i : Nat) (h : ¬ i < L.length) : bodyFrom L i = [] := by rw [bodyFrom, dif_neg h]
theorem bodyFrom_f (L : List Said) (i : Nat) (h : i < L.length) (h1 : L[i].kind = 102) : bodyFrom L i = [] := by rw [bodyFrom, dif_pos h, if_pos h1]
theorem bodyFrom_0 (L : List Said) (i : Nat) (h : i < L.length) (h0 : L[i].kind = 0) : bodyFrom L i = bodyFrom L (i + 1) := by rw [bodyFrom, dif_pos h, if_neg (by omega), if_pos h0]
theorem bodyFrom_on (L : List Said) (i : Nat) (h : i < L.length) (h0 : ¬ L[i].kind = 0) (h1 : ¬ L[i].kind = 102) : bodyFrom L i = keyQ L[i] ((i : Int) + 1) :: bodyFrom L (i + 1) := by rw [bodyFrom, dif_pos h, if_neg h1, if_neg h0]
theorem fnsFrom_end (L : List Said) (i : Nat) (h : ¬ i < L.length) : fnsFrom L i = [] := by rw [fnsFrom, dif_neg h]
theorem fnsFrom_f (L : List Said) (i : Nat) (h : i < L.length) (h1 : L[i].kind = 102) : fnsFrom L i = ⟨L[i].word 1, (i : Int) + 1, bodyFrom L (i + 1)⟩ :: fnsFrom L (i + 1) := by rw [fnsFrom, dif_pos h, if_pos h1]
theorem fnsFrom_on (L : List Said) (i : Nat) (h : i < L.length) (h1 : ¬ L[i].kind = 102) : fnsFrom L i = fnsFrom L (i + 1) := by rw [fnsFrom, dif_pos h, if_neg h1]
theorem keysFrom_end (L : List Said) (i : Nat) (h : ¬ i < L.length) : keysFrom L i = [] := by rw [keysFrom, dif_neg h]
theorem keysFrom_0 (L : List Said) (i : Nat) (h : i < L.length) (h0 : L[i].kind = 0) : keysFrom L i = keysFrom L (i + 1) := by rw [keysFrom, dif_pos h, if_pos h0]
theorem keysFrom_on (L : List Said) (i : Nat) (h : i < L.length) (h0 : ¬ L[i].kind = 0) : keysFrom L i = keyQ L[i] ((i : Int) + 1) :: keysFrom L (i + 1) := by rw [keysFrom, dif_pos h, if_neg h0]

theorem sortK_f (q : Said) (h : q.kind = 102) : sortK q = 0 := by simp [sortK, h]
theorem sortK_l (q : Said) (h : q.kind = 108) : sortK q = 1 := by simp [sortK, h]
theorem sortK_i (q : Said) (h1 : ¬ q.kind = 102) (h2 : ¬ q.kind = 108) : sortK q = 2 := by simp [sortK, h1, h2]
theorem sortK_n (q : Said) (h1 : ¬ q.kind = 102) : ¬ sortK q = 0 := by unfold sortK; rw [if_neg h1]; split <;> decide
theorem nameQ_f (q : Said) (h : q.kind = 102) : nameQ q = q.word 1 := by simp [nameQ, h]
theorem nameQ_l (q : Said) (h : q.kind = 108) : nameQ q = q.word 0 := by simp [nameQ, h]

/-- The program's functions are the text's. -/
theorem fold_fns (L : List Said) (i : Nat) (F : List Fn) (f : Fn) : (keysFrom L i).foldl addK (F ++ [f]) = F ++ (⟨f.name, f.line, f.body ++ bodyFrom L i⟩ :: fnsFrom L i) := by
  by_cases h : i < L.length
  · by_cases h0 : L[i].kind = 0
    · rw [keysFrom_0 L i h h0, bodyFrom_0 L i h h0, fnsFrom_on L i h (by omega)]
      exact fold_fns L (i + 1) F f
    · rw [keysFrom_on L i h h0, List.foldl_cons]
      by_cases h1 : L[i].kind = 102
      · rw [addK_begin _ _ (sortK_f _ h1), fold_fns L (i + 1) (F ++ [f]) _, bodyFrom_f L i h h1, fnsFrom_f L i h h1]
        simp [keyQ, nameQ_f _ h1]
      · rw [addK_more _ _ _ (sortK_n _ h1), fold_fns L (i + 1) F _, bodyFrom_on L i h h0 h1, fnsFrom_on L i h h1]
        simp
  · rw [keysFrom_end L i h, bodyFrom_end L i h, fnsFrom_end L i h]
    simp
termination_by L.length - i
theorem keysTo_from (A : List ByteArray) (i : Nat) : keysTo A A.length = keysTo A (min i A.length) ++ keysFrom (A.map say) i := by
  by_cases h : i < A.length
  · have hL : i < (A.map say).length := by simpa using h
    have hg : (A.map say)[i] = say A[i] := by simp
    rw [keysTo_from A (i + 1), Nat.min_eq_left (show i + 1 ≤ A.length from h), Nat.min_eq_left (Nat.le_of_lt h)]
    by_cases h0 : (say A[i]).kind = 0
    · rw [keysTo_skip A i h h0, keysFrom_0 _ i hL (by rw [hg]; exact h0)]
    · rw [keysTo_add A i h h0, keysFrom_on _ i hL (by rw [hg]; exact h0), hg]
      simp
  · rw [keysFrom_end _ i (by simpa using h), Nat.min_eq_right (by omega)]
    simp
termination_by A.length - i
theorem keys_all (A : List ByteArray) : keysTo A A.length = keysFrom (A.map say) 0 := by
  rw [keysTo_from A 0]; simp [keysTo]

/-- A label of a function. -/
theorem labs_any (L : List Said) (i : Nat) (x : ByteArray) : (labsOf (bodyFrom L i)).any (fun y => eqW y x) = decide (0 ≤ labFrom L x i) := by
  by_cases h : i < L.length
  · by_cases h1 : L[i].kind = 102
    · rw [bodyFrom_f L i h h1, labFrom_f L x i h h1]; rfl
    · by_cases h0 : L[i].kind = 0
      · rw [bodyFrom_0 L i h h0, labFrom_on L x i h h1 (by simp [isLab, h0])]
        exact labs_any L (i + 1) x
      · rw [bodyFrom_on L i h h0 h1]
        by_cases h2 : L[i].kind = 108
        · have e : labsOf (keyQ L[i] ((i : Int) + 1) :: bodyFrom L (i + 1)) = L[i].word 0 :: labsOf (bodyFrom L (i + 1)) := by
            simp [labsOf, keyQ, sortK_l _ h2, nameQ_l _ h2]
          rw [e, List.any_cons]
          by_cases h3 : eqW (L[i].word 0) x = true
          · rw [labFrom_hit L x i h h1 (by simp [isLab, h2, h3]), h3]
            simp
          · rw [labFrom_on L x i h h1 (by simp [isLab, h3]), labs_any L (i + 1) x]
            simp [h3]
        · have e : labsOf (keyQ L[i] ((i : Int) + 1) :: bodyFrom L (i + 1)) = labsOf (bodyFrom L (i + 1)) := by
            simp [labsOf, keyQ, sortK_i _ h1 h2]
          rw [e, labFrom_on L x i h h1 (by simp [isLab, h2])]
          exact labs_any L (i + 1) x
  · rw [bodyFrom_end L i h, labFrom_end L x i h]; rfl
termination_by L.length - i
theorem fns_any (L : List Said) (i : Nat) (x : ByteArray) : ((fnsFrom L i).map Fn.name).any (fun y => eqW y x) = decide (0 ≤ fnFrom L x i) := by
  by_cases h : i < L.length
  · by_cases h1 : L[i].kind = 102
    · rw [fnsFrom_f L i h h1, List.map_cons, List.any_cons]
      by_cases h3 : eqW (L[i].word 1) x = true
      · rw [fnFrom_hit L x i h (by simp [isFn, h1, h3])]
        simp [h3]
      · rw [fnFrom_on L x i h (by simp [isFn, h3]), fns_any L (i + 1) x]
        simp [h3]
    · rw [fnsFrom_on L i h h1, fnFrom_on L x i h (by simp [isFn, h1])]
      exact fns_any L (i + 1) x
  · rw [fnsFrom_end L i h, fnFrom_end L x i h]; rfl
termination_by L.length - i

/-- What a function must end with. -/
def endsK (b : List Key) : Bool := match b.getLast? with | none => false | some k => ends k.word
theorem ends_none : ends ⟨#[]⟩ = false := by simp [ends, isW, ByteArray.toList_eq]
def WfAll (L : List Said) : Prop := ∀ q ∈ L, Wf q
theorem WfAll.at {L : List Said} (hw : WfAll L) (i : Nat) (h : i < L.length) : Wf L[i] := hw _ (List.getElem_mem h)
theorem end_any (L : List Said) (hw : WfAll L) (i : Nat) (e : Bool) : endAt L i e = (match (bodyFrom L i).getLast? with | none => e | some k => ends k.word) := by
  by_cases h : i < L.length
  · by_cases h1 : L[i].kind = 102
    · rw [bodyFrom_f L i h h1, endAt_f L i e h h1]; rfl
    · rw [endAt_on L i e h h1, end_any L hw (i + 1)]
      by_cases h0 : L[i].kind = 0
      · rw [bodyFrom_0 L i h h0]
        simp [h0]
      · rw [bodyFrom_on L i h h0 h1, List.getLast?_cons]
        cases hb : (bodyFrom L (i + 1)).getLast? with
        | some k => rfl
        | none =>
          by_cases h2 : L[i].kind = 108
          · simp [h2, keyQ, wordK, ends_none]
          · have h5 : L[i].kind = 105 := by
              have := hw.at i h
              unfold Wf at this; omega
            simp [h5, keyQ, wordK]
  · rw [bodyFrom_end L i h, endAt_end L i e h]; rfl
termination_by L.length - i

end Go.Proofs.YtfpgjkbjbbgciaaGreatDoor
