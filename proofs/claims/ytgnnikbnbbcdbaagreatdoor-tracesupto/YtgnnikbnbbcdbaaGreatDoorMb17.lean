import Derived.Test.YtgnnikbnbbcdbaaGreatDoorMb16
import Derived.Deep.AppendLies
import Derived.Deep.RegionHeld3
import Derived.Deep.DrawnRows
namespace Go.Proofs.YtgnnikbnbbcdbaaGreatDoor
open Sp

/-- A function, as the program keeps it. -/
structure Fn where
  name : ByteArray
  line : Int
  body : List Key
def labsOf (b : List Key) : List ByteArray := (b.filter (fun k => decide (k.sort = 1))).map Key.nm
def addK (F : List Fn) (k : Key) : List Fn :=
  if k.sort = 0 then F ++ [⟨k.nm, k.line, []⟩]
  else match F.getLast? with
    | none => F
    | some f => F.dropLast ++ [⟨f.name, f.line, f.body ++ [k]⟩]
theorem addK_begin (F : List Fn) (k : Key) (h : k.sort = 0) : addK F k = F ++ [⟨k.nm, k.line, []⟩] := by simp [addK, h]
theorem addK_more (F : List Fn) (f : Fn) (k : Key) (h : ¬ k.sort = 0) : addK (F ++ [f]) k = F ++ [⟨f.name, f.line, f.body ++ [k]⟩] := by simp [addK, h]
/-- Does a name stand twice? -/
def bad0 (F : List Fn) (k : Key) : Bool :=
  if k.sort = 0 then (F.map Fn.name).any (fun y => eqW y k.nm)
  else if k.sort = 1 then (match F.getLast? with | none => false | some f => (labsOf f.body).any (fun y => eqW y k.nm)) else false

/-- From a line on: what is said up to the next function. -/
def bodyFrom (L : List Said) (i : Nat) : List Key :=
  if h : i < L.length then (if L[i].kind = 102 then [] else if L[i].kind = 0 then bodyFrom L (i + 1) else keyQ L[i] ((i : Int) + 1) :: bodyFrom L (i + 1)) else []
termination_by L.length - i
def fnsFrom (L : List Said) (i : Nat) : List Fn :=
  if h : i < L.length then (if L[i].kind = 102 then ⟨L[i].word 1, (i : Int) + 1, bodyFrom L (i + 1)⟩ :: fnsFrom L (i + 1) else fnsFrom L (i + 1)) else []
termination_by L.length - i
def keysFrom (L : List Said) (i : Nat) : List Key :=
  if h : i < L.length then (if L[i].kind = 0 then keysFrom L (i + 1) else keyQ L[i] ((i : Int) + 1) :: keysFrom L (i + 1)) else []
termination_by L.length - i
theorem bodyFrom_end (L : List Said) (i : Nat) (h : ¬ i < L.length) : bodyFrom L i = [] := by rw [bodyFrom, dif_neg h]
theorem bodyFrom_f (L : List Said) (i : Nat) (h : i < L.length) (h1 : L[i].kind = 102) : bodyFrom L i = [] := by rw [bodyFrom, dif_pos h, if_pos h1]
theorem bodyFrom_0 (L : List Said) (i : Nat) (h : i < L.length) (h0 : L[i].kind = 0) : bodyFrom L i = bodyFrom L (i + 1) := by rw [bodyFrom, dif_pos h, if_neg (by omega), if_pos h0]
theorem bodyFrom_on (L : List Said) (i : Nat) (h : i < L.length) (h0 : ¬ L[i].kind = 0) (h1 : ¬ L[i].kind = 102) : bodyFrom L i = keyQ L[i] ((i : Int) + 1) :: bodyFrom L (i + 1) := by rw [bodyFrom, dif_pos h, if_neg h1, if_neg h0]
theorem fnsFrom_end (L : List Said) (i : Nat) (h : ¬ i < L.length) : fnsFrom L i = [] := by rw [fnsFrom, dif_neg h]
theorem fnsFrom_f (L : List Said) (i : Nat) (h : i < L.length) (h1 : L[i].kind = 102) : fnsFrom L i = ⟨L[i].word 1, (i : Int) + 1, bodyFrom L (i + 1)⟩ :: fnsFrom L (i + 1) := by rw [fnsFrom, dif_pos h, if_pos h1]
theorem fnsFrom_on (L : List Said) (i : Nat) (h : i < L.length) (h1 : ¬ L[i].kind = 102) : fnsFrom L i = fnsFrom L (i + 1) := by rw [fnsFrom, dif_pos h, if_neg h1]
theorem keysFrom_end (L : List Said) (i : Nat) (h : ¬ i < L.length) : keysFrom L i = [] := by rw [keysFrom, dif_neg h]
theorem keysFrom_0 (L : List Said) (i : Nat) (h : i < L.length) (h0 : L[i].kind = 0) : keysFrom L i = keysFrom L (i + 1) := by rw [keysFrom, dif_pos h, if_pos h0]
theorem keysFrom_on (L : List Said) (i : Nat) (h : i < L.length) (h0 : ¬ L[i].kind = 0) : keysFrom L i = keyQ L[i] ((i : Int) + 1) :: keysFrom L (i + 1) := by rw [keysFrom, dif_pos h, if_neg h0]

theorem sortK_f (q : Said) (h : q.kind = 102) : sortK q = 0 := by simp [sortK, h]
theorem sortK_l (q : Said) (h : q.kind = 108) : sortK q = 1 := by simp [sortK, h]
theorem sortK_i (q : Said) (h1 : ¬ q.kind = 102) (h2 : ¬ q.kind = 108) : sortK q = 2 := by simp [sortK, h1, h2]
theorem sortK_n (q : Said) (h1 : ¬ q.kind = 102) : ¬ sortK q = 0 := by unfold sortK; rw [if_neg h1]; split <;> decide
theorem nameQ_f (q : Said) (h : q.kind = 102) : nameQ q = q.word 1 := by simp [nameQ, h]
theorem nameQ_l (q : Said) (h : q.kind = 108) : nameQ q = q.word 0 := by simp [nameQ, h]

/-- The program's functions are the text's. -/
theorem fold_fns (L : List Said) (i : Nat) (F : List Fn) (f : Fn) : (keysFrom L i).foldl addK (F ++ [f]) = F ++ (⟨f.name, f.line, f.body ++ bodyFrom L i⟩ :: fnsFrom L i) := by
  by_cases h : i < L.length
  · by_cases h0 : L[i].kind = 0
    · rw [keysFrom_0 L i h h0, bodyFrom_0 L i h h0, fnsFrom_on L i h (by omega)]
      exact fold_fns L (i + 1) F f
    · rw [keysFrom_on L i h h0, List.foldl_cons]
      by_cases h1 : L[i].kind = 102
      · rw [addK_begin _ _ (sortK_f _ h1), fold_fns L (i + 1) (F ++ [f]) _, bodyFrom_f L i h h1, fnsFrom_f L i h h1]
        simp [keyQ, nameQ_f _ h1]
      · rw [addK_more _ _ _ (sortK_n _ h1), fold_fns L (i + 1) F _, bodyFrom_on L i h h0 h1, fnsFrom_on L i h h1]
        simp
  · rw [keysFrom_end L i h, bodyFrom_end L i h, fnsFrom_end L i h]
    simp
termination_by L.length - i
theorem keysTo_from (A : List ByteArray) (i : Nat) : keysTo A A.length = keysTo A (min i A.length) ++ keysFrom (A.map say) i := by
  by_cases h : i < A.length
  · have hL : i < (A.map say).length := by simpa using h
    have hg : (A.map say)[i] = say A[i] := by simp
    rw [keysTo_from A (i + 1), Nat.min_eq_left (show i + 1 ≤ A.length from h), Nat.min_eq_left (Nat.le_of_lt h)]
    by_cases h0 : (say A[i]).kind = 0
    · rw [keysTo_skip A i h h0, keysFrom_0 _ i hL (by rw [hg]; exact h0)]
    · rw [keysTo_add A i h h0, keysFrom_on _ i hL (by rw [hg]; exact h0), hg]
      simp
  · rw [keysFrom_end _ i (by simpa using h), Nat.min_eq_right (by omega)]
    simp
termination_by A.length - i
theorem keys_all (A : List ByteArray) : keysTo A A.length = keysFrom (A.map say) 0 := by
  rw [keysTo_from A 0]; simp [keysTo]

/-- A label of a function. -/
theorem labs_any (L : List Said) (i : Nat) (x : ByteArray) : (labsOf (bodyFrom L i)).any (fun y => eqW y x) = decide (0 ≤ labFrom L x i) := by
  by_cases h : i < L.length
  · by_cases h1 : L[i].kind = 102
    · rw [bodyFrom_f L i h h1, labFrom_f L x i h h1]; rfl
    · by_cases h0 : L[i].kind = 0
      · rw [bodyFrom_0 L i h h0, labFrom_on L x i h h1 (by simp [isLab, h0])]
        exact labs_any L (i + 1) x
      · rw [bodyFrom_on L i h h0 h1]
        by_cases h2 : L[i].kind = 108
        · have e : labsOf (keyQ L[i] ((i : Int) + 1) :: bodyFrom L (i + 1)) = L[i].word 0 :: labsOf (bodyFrom L (i + 1)) := by
            simp [labsOf, keyQ, sortK_l _ h2, nameQ_l _ h2]
          rw [e, List.any_cons]
          by_cases h3 : eqW (L[i].word 0) x = true
          · rw [labFrom_hit L x i h h1 (by simp [isLab, h2, h3]), h3]
            simp
          · rw [labFrom_on L x i h h1 (by simp [isLab, h3]), labs_any L (i + 1) x]
            simp [h3]
        · have e : labsOf (keyQ L[i] ((i : Int) + 1) :: bodyFrom L (i + 1)) = labsOf (bodyFrom L (i + 1)) := by
            simp [labsOf, keyQ, sortK_i _ h1 h2]
          rw [e, labFrom_on L x i h h1 (by simp [isLab, h2])]
          exact labs_any L (i + 1) x
  · rw [bodyFrom_end L i h, labFrom_end L x i h]; rfl
termination_by L.length - i
theorem fns_any (L : List Said) (i : Nat) (x : ByteArray) : ((fnsFrom L i).map Fn.name).any (fun y => eqW y x) = decide (0 ≤ fnFrom L x i) := by
  by_cases h : i < L.length
  · by_cases h1 : L[i].kind = 102
    · rw [fnsFrom_f L i h h1, List.map_cons, List.any_cons]
      by_cases h3 : eqW (L[i].word 1) x = true
      · rw [fnFrom_hit L x i h (by simp [isFn, h1, h3])]
        simp [h3]
      · rw [fnFrom_on L x i h (by simp [isFn, h3]), fns_any L (i + 1) x]
        simp [h3]
    · rw [fnsFrom_on L i h h1, fnFrom_on L x i h (by simp [isFn, h1])]
      exact fns_any L (i + 1) x
  · rw [fnsFrom_end L i h, fnFrom_end L x i h]; rfl
termination_by L.length - i

/-- What a function must end with. -/
def endsK (b : List Key) : Bool := match b.getLast? with | none => false | some k => ends k.word
theorem ends_none : ends ⟨#[]⟩ = false := by simp [ends, isW, ByteArray.toList_eq]
def WfAll (L : List Said) : Prop := ∀ q ∈ L, Wf q
theorem WfAll.at {L : List Said} (hw : WfAll L) (i : Nat) (h : i < L.length) : Wf L[i] := hw _ (List.getElem_mem h)
theorem end_any (L : List Said) (hw : WfAll L) (i : Nat) (e : Bool) : endAt L i e = (match (bodyFrom L i).getLast? with | none => e | some k => ends k.word) := by
  by_cases h : i < L.length
  · by_cases h1 : L[i].kind = 102
    · rw [bodyFrom_f L i h h1, endAt_f L i e h h1]; rfl
    · rw [endAt_on L i e h h1, end_any L hw (i + 1)]
      by_cases h0 : L[i].kind = 0
      · rw [bodyFrom_0 L i h h0]
        simp [h0]
      · rw [bodyFrom_on L i h h0 h1, List.getLast?_cons]
        cases hb : (bodyFrom L (i + 1)).getLast? with
        | some k => rfl
        | none =>
          by_cases h2 : L[i].kind = 108
          · simp [h2, keyQ, wordK, ends_none]
          · have h5 : L[i].kind = 105 := by
              have := hw.at i h
              unfold Wf at this; omega
            simp [h5, keyQ, wordK]
  · rw [bodyFrom_end L i h, endAt_end L i e h]; rfl
termination_by L.length - i

end Go.Proofs.YtgnnikbnbbcdbaaGreatDoor

namespace Go.Proofs.YtgnnikbnbbcdbaaGreatDoor
open Sp

/-- Does a statement name what is not there? -/
def badKey (names labs : List ByteArray) (k : Key) : Bool :=
  (asksLab k.word && !labs.any (fun y => eqW y k.nm)) || (asksFn k.word && !names.any (fun y => eqW y k.nm))
def missBody (names labs : List ByteArray) (b : List Key) : Option Int := (b.find? (badKey names labs)).map Key.line
def missK (names : List ByteArray) : List Fn → Option Int
  | [] => none
  | f :: r => match missBody names (labsOf f.body) f.body with | some l => some l | none => missK names r
def endK : List Fn → Option Int
  | [] => none
  | f :: r => if endsK f.body = true then endK r else some f.line
def twiceK : List Fn → List Key → Option Int
  | _, [] => none
  | F, k :: r => if bad0 F k = true then some k.line else twiceK (addK F k) r
def orElse (e : Int) (o : Option Int) (c : Int × Int) : Int × Int := match o with | some l => (e, l) | none => c

theorem pass2 (L : List Said) (hw : WfAll L) (i : Nat) (c : Int × Int) : pass L 2 i c = orElse 5 (endK (fnsFrom L i)) c := by
  by_cases h : i < L.length
  · have hb : badB L 2 i = (if L[i].kind = 102 then !endAt L (i + 1) false else false) := by
      simp [badB, endlessB, List.getElem?_eq_getElem h]
    by_cases h1 : L[i].kind = 102
    · rw [if_pos h1, end_any L hw (i + 1) false] at hb
      change badB L 2 i = !endsK (bodyFrom L (i + 1)) at hb
      rw [fnsFrom_f L i h h1]
      cases he : endsK (bodyFrom L (i + 1)) with
      | true =>
        rw [pass_on L 2 i c h (by rw [hb, he]; rfl), pass2 L hw (i + 1) c]
        simp [endK, he]
      | false =>
        rw [pass_bad L 2 i c h (by rw [hb, he]; rfl)]
        simp [endK, he, orElse]
    · rw [if_neg h1] at hb
      rw [pass_on L 2 i c h hb, fnsFrom_on L i h h1]
      exact pass2 L hw (i + 1) c
  · rw [pass_end L 2 i c h, fnsFrom_end L i h]; rfl
termination_by L.length - i

def NmOk (L : List Said) : Prop := ∀ q ∈ L, q.kind = 105 → (asksLab (q.word 0) = true ∨ asksFn (q.word 0) = true) → nameQ q = q.last
theorem asks_both (x : ByteArray) (h : asksLab x = true) : asksFn x = false := by
  unfold asksLab isW at h
  unfold asksFn isW
  simp only [Bool.or_eq_true, beq_iff_eq] at h
  rcases h with (h | h) | h <;> rw [h] <;> decide
theorem asksLab_none : asksLab ⟨#[]⟩ = false := by simp [asksLab, isW, ByteArray.toList_eq]
theorem asksFn_none : asksFn ⟨#[]⟩ = false := by simp [asksFn, isW, ByteArray.toList_eq]

theorem miss_at (L : List Said) (_hw : WfAll L) (hn : NmOk L) (names labs : List ByteArray) (i o : Nat) (h : i < L.length) (ho : owner L i = (o : Int))
    (hN : ∀ x, names.any (fun y => eqW y x) = decide (0 ≤ fnFrom L x 0)) (hL : ∀ x, labs.any (fun y => eqW y x) = decide (0 ≤ labFrom L x (o + 1))) :
    badB L 1 i = badKey names labs (keyQ L[i] ((i : Int) + 1)) := by
  have e : badB L 1 i = missingB L i := by simp [badB]
  rw [e]
  unfold missingB
  rw [List.getElem?_eq_getElem h]
  dsimp only
  by_cases h5 : L[i].kind = 105
  · rw [if_pos h5]
    have hlab : labOf L i L[i].last = labFrom L L[i].last (o + 1) := by
      unfold labOf
      rw [ho]
      congr 1
    have ew : wordK L[i] = L[i].word 0 := by simp [wordK, h5]
    unfold badKey keyQ
    dsimp only
    rw [ew, hlab, hN, hL]
    by_cases h1 : asksLab (L[i].word 0) = true
    · rw [if_pos h1, hn _ (List.getElem_mem h) h5 (.inl h1), h1, asks_both _ h1]
      simp [← Int.not_le]
    · rw [if_neg h1]
      by_cases h2 : asksFn (L[i].word 0) = true
      · rw [if_pos h2, hn _ (List.getElem_mem h) h5 (.inr h2), h2]
        simp [h1, ← Int.not_le]
      · rw [if_neg h2]
        simp [h1, h2]
  · rw [if_neg h5]
    have ew : wordK L[i] = ⟨#[]⟩ := by simp [wordK, h5]
    unfold badKey keyQ
    dsimp only
    rw [ew, asksLab_none, asksFn_none]
    rfl
theorem find_cons (names labs : List ByteArray) (k : Key) (b : List Key) : missBody names labs (k :: b) = if badKey names labs k = true then some k.line else missBody names labs b := by
  unfold missBody
  rw [List.find?_cons]
  cases badKey names labs k <;> rfl

theorem pass1 (L : List Said) (hw : WfAll L) (hn : NmOk L) (names : List ByteArray) (hN : ∀ x, names.any (fun y => eqW y x) = decide (0 ≤ fnFrom L x 0)) (c : Int × Int) (i o : Nat) (ho : owner L i = (o : Int)) (labs : List ByteArray)
    (hL : ∀ x, labs.any (fun y => eqW y x) = decide (0 ≤ labFrom L x (o + 1))) :
    pass L 1 (i + 1) c = orElse 4 (match missBody names labs (bodyFrom L (i + 1)) with | some l => some l | none => missK names (fnsFrom L (i + 1))) c := by
  by_cases h : i + 1 < L.length
  · by_cases h1 : L[i + 1].kind = 102
    · have ho' := owner_is L (i + 1) h h1
      have hb : badB L 1 (i + 1) = false := by simp [badB, missingB, List.getElem?_eq_getElem h, h1]
      rw [pass_on L 1 (i + 1) c h hb, bodyFrom_f L (i + 1) h h1, fnsFrom_f L (i + 1) h h1, pass1 L hw hn names hN c (i + 1) (i + 1) ho' (labsOf (bodyFrom L (i + 1 + 1))) (fun x => labs_any L (i + 1 + 1) x)]
      rfl
    · have ho' : owner L (i + 1) = (o : Int) := (owner_succ L i h h1).trans ho
      have hb := miss_at L hw hn names labs (i + 1) o h ho' hN hL
      rw [fnsFrom_on L (i + 1) h h1]
      by_cases h0 : L[i + 1].kind = 0
      · have hb : badB L 1 (i + 1) = false := by simp [badB, missingB, List.getElem?_eq_getElem h, h0]
        rw [pass_on L 1 (i + 1) c h hb, bodyFrom_0 L (i + 1) h h0]
        exact pass1 L hw hn names hN c (i + 1) o ho' labs hL
      · rw [bodyFrom_on L (i + 1) h h0 h1, find_cons]
        cases hk : badKey names labs (keyQ L[i + 1] (((i + 1 : Nat) : Int) + 1)) with
        | true => rw [pass_bad L 1 (i + 1) c h (hb.trans hk)]; rfl
        | false =>
          rw [pass_on L 1 (i + 1) c h (hb.trans hk)]
          exact pass1 L hw hn names hN c (i + 1) o ho' labs hL
  · rw [pass_end L 1 (i + 1) c h, bodyFrom_end L _ h, fnsFrom_end L _ h]; rfl
termination_by L.length - i

end Go.Proofs.YtgnnikbnbbcdbaaGreatDoor

namespace Go.Proofs.YtgnnikbnbbcdbaaGreatDoor
open Go.RowKit Sp

/-! ### What a statement names -/
set_option maxRecDepth 100000 in
theorem namesFn_any (sort line : Int) (word : ByteArray) (a b c n : Int) (nm : ByteArray) (w : World) :
    Calls Tryz.prog 104 #[stm sort line word a b c n nm] w fun e w' => e = .returned (.bool (asksFn word)) ∧ Below w.heap.size w w' := by
  cases h : (word.toList == [99, 97, 108, 108]) with
  | true =>
    have e : asksFn word = true := h
    rw [e]
    have hw := isW_eq word _ h
    subst hw
    clear h e
    go_enter Tryz.func104, Tryz.ntmps104
    go_wp2
    go_ret
    exact ⟨rfl, (Below.refl _ _).alloc (Nat.le_refl _) _⟩
  | false =>
    have e : asksFn word = false := h
    rw [e]
    clear e
    go_enter Tryz.func104, Tryz.ntmps104
    go_wp2
    go_ret
    exact ⟨rfl, (Below.refl _ _).alloc (Nat.le_refl _) _⟩
set_option maxRecDepth 100000 in
theorem namesLab_any (sort line : Int) (word : ByteArray) (a b c n : Int) (nm : ByteArray) (w : World) :
    Calls Tryz.prog 102 #[stm sort line word a b c n nm] w fun e w' => e = .returned (.bool (asksLab word)) ∧ Below w.heap.size w w' := by
  have e : asksLab word = (word.toList == [106, 117, 109, 112] || word.toList == [108, 101, 115, 115] || word.toList == [115, 97, 109, 101]) := rfl
  rw [e]
  clear e
  cases h1 : (word.toList == [106, 117, 109, 112]) with
  | true =>
    have hw := isW_eq word _ h1
    subst hw
    clear h1
    go_enter Tryz.func102, Tryz.ntmps102
    go_wp2
    go_ret
    exact ⟨rfl, (Below.refl _ _).alloc (Nat.le_refl _) _⟩
  | false =>
    cases h2 : (word.toList == [108, 101, 115, 115]) with
    | true =>
      have hw := isW_eq word _ h2
      subst hw
      clear h1 h2
      go_enter Tryz.func102, Tryz.ntmps102
      go_wp2
      go_ret
      exact ⟨rfl, (Below.refl _ _).alloc (Nat.le_refl _) _⟩
    | false =>
      cases h3 : (word.toList == [115, 97, 109, 101]) with
      | true =>
        have hw := isW_eq word _ h3
        subst hw
        clear h1 h2 h3
        go_enter Tryz.func102, Tryz.ntmps102
        go_wp2
        go_ret
        exact ⟨rfl, (Below.refl _ _).alloc (Nat.le_refl _) _⟩
      | false =>
        go_enter Tryz.func102, Tryz.ntmps102
        go_wp2
        go_ret
        exact ⟨rfl, (Below.refl _ _).alloc (Nat.le_refl _) _⟩
set_option maxRecDepth 100000 in
theorem mayEnd_any (sort line : Int) (word : ByteArray) (a b c n : Int) (nm : ByteArray) (w : World) :
    Calls Tryz.prog 132 #[stm sort line word a b c n nm] w fun e w' => e = .returned (.bool (ends word)) ∧ Below w.heap.size w w' := by
  have e : ends word = (word.toList == [106, 117, 109, 112] || word.toList == [98, 97, 99, 107] || word.toList == [115, 116, 111, 112]) := rfl
  rw [e]
  clear e
  cases h1 : (word.toList == [106, 117, 109, 112]) with
  | true =>
    have hw := isW_eq word _ h1
    subst hw
    clear h1
    go_enter Tryz.func132, Tryz.ntmps132
    go_wp2
    go_ret
    exact ⟨rfl, (Below.refl _ _).alloc (Nat.le_refl _) _⟩
  | false =>
    cases h2 : (word.toList == [98, 97, 99, 107]) with
    | true =>
      have hw := isW_eq word _ h2
      subst hw
      clear h1 h2
      go_enter Tryz.func132, Tryz.ntmps132
      go_wp2
      go_ret
      exact ⟨rfl, (Below.refl _ _).alloc (Nat.le_refl _) _⟩
    | false =>
      cases h3 : (word.toList == [115, 116, 111, 112]) with
      | true =>
        have hw := isW_eq word _ h3
        subst hw
        clear h1 h2 h3
        go_enter Tryz.func132, Tryz.ntmps132
        go_wp2
        go_ret
        exact ⟨rfl, (Below.refl _ _).alloc (Nat.le_refl _) _⟩
      | false =>
        go_enter Tryz.func132, Tryz.ntmps132
        go_wp2
        go_ret
        exact ⟨rfl, (Below.refl _ _).alloc (Nat.le_refl _) _⟩

/-! ### Rows of statements -/
theorem stmCells_len (l : List It) : (stmCells l).length = l.length * 8 := by
  induction l with
  | nil => rfl
  | cons i l ih => simp [stmCells] at ih ⊢; omega
theorem stmCells_at (l : List It) (k : Nat) (h : k < l.length) (j : Nat) (hj : j < 8) : (stmCells l)[k * 8 + j]? = l[k].cells[j]? := by
  induction l generalizing k with
  | nil => simp at h
  | cons i l ih =>
    have e : stmCells (i :: l) = i.cells ++ stmCells l := by simp [stmCells]
    rw [e]
    cases k with
    | zero =>
      rw [List.getElem?_append_left (by simp; omega)]
      simp
    | succ k =>
      rw [List.getElem?_append_right (by simp; omega)]
      have := ih k (by simpa using h)
      simp only [List.getElem_cons_succ]
      rw [← this]
      congr 1
      simp; omega
/-- Where a row's statements lie. -/
theorem stms_at {w : World} {B : Nat} {v : Value} {its : List It} (h : w.ownsRow B 135 8 v its.length (stmCells its)) (hp : 0 < its.length) :
    ∃ g cap, v = .slice (some ⟨g, 0, none⟩) its.length cap ∧ B ≤ g ∧ g < w.heap.size ∧ ∀ k (hk : k < its.length),
      w.cell? ⟨g, k * 8, none⟩ = some (.int .i64 its[k].sort) ∧ w.cell? ⟨g, k * 8 + 1, none⟩ = some (.int .i64 its[k].line) ∧ w.cell? ⟨g, k * 8 + 2, none⟩ = some (.string its[k].word) ∧
      w.cell? ⟨g, k * 8 + 3, none⟩ = some (.int .i64 its[k].a) ∧ w.cell? ⟨g, k * 8 + 4, none⟩ = some (.int .i64 its[k].b) ∧ w.cell? ⟨g, k * 8 + 5, none⟩ = some (.int .i64 its[k].c) ∧
      w.cell? ⟨g, k * 8 + 6, none⟩ = some (.int .i64 its[k].n) ∧ w.cell? ⟨g, k * 8 + 7, none⟩ = some (.string its[k].nm) := by
  obtain ⟨g, cap, rfl, hb, hlt⟩ := h.form hp
  refine ⟨g, cap, rfl, hb, hlt, fun k hk => ?_⟩
  have H : ∀ j, j < 8 → w.cell? ⟨g, k * 8 + j, none⟩ = its[k].cells[j]? := fun j hj => by
    rw [World.ownsRow.cellAt h (k * 8 + j) (by omega), stmCells_at its k hk j hj]
  exact ⟨H 0 (by omega), H 1 (by omega), H 2 (by omega), H 3 (by omega), H 4 (by omega), H 5 (by omega), H 6 (by omega), H 7 (by omega)⟩

set_option maxRecDepth 100000 in
theorem cstart_none (w : World) (B : Nat) (v : Value) (h : w.ownsRow B 135 8 v 0 (stmCells [])) :
    Calls Tryz.prog 67 #[v] w fun e w' => e = refusal 2 0 ∧ w' = w := by
  have hv : ∃ ao cap, v = .slice ao 0 cap := by
    rcases h.2 with ⟨hv, _⟩ | ⟨g, cap, cur, hv, _⟩
    · exact ⟨none, 0, hv⟩
    · exact ⟨_, cap, hv⟩
  obtain ⟨ao, cap, rfl⟩ := hv
  go_enter Tryz.func67, Tryz.ntmps67
  go_wp2_with (go_at_call 79; refine (raise_any _ _ _).mono ?_; rintro e wx ⟨rfl, hww⟩; subst hww)
  exact ⟨rfl, rfl, rfl⟩
set_option maxRecDepth 100000 in
theorem cstart_bad (w : World) (B : Nat) (v : Value) (i : It) (r : List It) (h : w.ownsRow B 135 8 v (i :: r).length (stmCells (i :: r))) (hn : r.length ≤ 4096) (hs : ¬ i.sort = 0) :
    Calls Tryz.prog 67 #[v] w fun e w' => e = refusal 2 i.line ∧ w' = w := by
  obtain ⟨g, cap, rfl, _, _, hc⟩ := stms_at h (by simp)
  obtain ⟨h0, h1, _⟩ := hc 0 (by simp)
  simp only [List.getElem_cons_zero, Nat.zero_mul, Nat.zero_add] at h0 h1
  have hlen : (i :: r).length = r.length + 1 := by simp
  rw [hlen]
  have hs' : (i.sort == 0) = false := by simpa using hs
  clear hc hlen h
  go_enter Tryz.func67, Tryz.ntmps67
  go_wp2_with (go_at_call 79; refine (raise_any _ _ _).mono ?_; rintro e wx ⟨rfl, hww⟩; subst hww)
  all_goals exact ⟨rfl, rfl, rfl⟩
set_option maxRecDepth 100000 in
theorem cstart_good (w : World) (B : Nat) (v : Value) (i : It) (r : List It) (h : w.ownsRow B 135 8 v (i :: r).length (stmCells (i :: r))) (hn : r.length ≤ 4096) (hs : i.sort = 0) :
    Calls Tryz.prog 67 #[v] w fun e w' => e = .returned (.tuple #[]) ∧ w' = w := by
  obtain ⟨g, cap, rfl, _, _, hc⟩ := stms_at h (by simp)
  obtain ⟨h0, h1, _⟩ := hc 0 (by simp)
  simp only [List.getElem_cons_zero, Nat.zero_mul, Nat.zero_add] at h0 h1
  have hlen : (i :: r).length = r.length + 1 := by simp
  rw [hlen]
  rw [hs] at h0
  clear hc hlen h
  go_enter Tryz.func67, Tryz.ntmps67
  go_wp2
  go_end0
  exact ⟨rfl, rfl⟩

end Go.Proofs.YtgnnikbnbbcdbaaGreatDoor

namespace Go.Proofs.YtgnnikbnbbcdbaaGreatDoor
open Go.RowKit Sp

attribute [local go_sem ↓] Go.wp_at_zero Go.wp_at_succ

theorem frozen_two (w : World) (a b : Obj) (p : Addr) (h : p.block < w.heap.size) : ((w.alloc a).alloc b).drew.frozen? p = w.frozen? p :=
  World.frozen?_of_block (w := w) ((((Below.refl w.heap.size w).alloc (Nat.le_refl _) a).alloc (by simp) b).drew.block p.block h)

theorem cell_two (w : World) (a b : Obj) (p : Addr) (h : p.block < w.heap.size) : ((w.alloc a).alloc b).drew.cell? p = w.cell? p :=
  World.cell?_of_block (w := w) ((((Below.refl w.heap.size w).alloc (Nat.le_refl _) a).alloc (by simp) b).drew.block p.block h)
theorem news_two (w : World) (a : Obj) (cs : Array Value) (t : TypeId) : ((w.alloc a).alloc (.cells cs t)).drew.heap[w.heap.size + 1]? = some (.cells cs t (0, 0)) := by
  have h := heap_alloc_new (w.alloc a) (.cells cs t)
  rw [show (w.alloc a).heap.size = w.heap.size + 1 by simp] at h
  exact h

theorem grown_two {w w1 : World} {a b : Obj} {row : Option Nat} (h : ((w.alloc a).alloc b).drew.grownBy w1 row) : w.grownBy w1 row :=
  ((World.grownBy_alloc w a row).trans (World.grownBy_alloc _ b row)).trans ⟨h.os, h.tape, h.output, h.size, h.block⟩

set_option maxRecDepth 100000 in
set_option maxHeartbeats 3200000 in
theorem add_plain (w : World) (B fg o : Nat) (bv : Value) (its : List It) (i : It) (hs : ¬ i.sort = 1)
    (hc : w.cell? ⟨fg, o + 2, none⟩ = some bv) (hf : w.frozen? ⟨fg, o + 2, none⟩ = false) (hown : w.ownsRow B 135 8 bv its.length (stmCells its)) (hne : bv.ownBlock ≠ some fg) (hB : B ≤ w.heap.size) (hn : its.length ≤ 4096) :
    Calls Tryz.prog 101 #[.pointer (some ⟨fg, o, none⟩), stm i.sort i.line i.word i.a i.b i.c i.n i.nm] w fun e w' => e = .returned (.tuple #[]) ∧
      ∃ g cap w1, w' = w1.setCell ⟨fg, o + 2, none⟩ (.slice (some ⟨g, 0, none⟩) (its.length + 1) cap) ∧ w.grownBy w1 bv.ownBlock ∧
        w1.ownsRow B 135 8 (.slice (some ⟨g, 0, none⟩) (its.length + 1) cap) (its.length + 1) (stmCells (its ++ [i])) ∧ (bv.ownBlock = some g ∨ w.heap.size ≤ g) := by
  obtain ⟨i0, hi0, hz0, hz1, hz2⟩ := info_parts Tryz.info135
  have lg : fg < w.heap.size := World.block_lt_of_cell? w _ hc
  have hs' : (i.sort == 1) = false := by simpa using hs
  have hlt : ∀ b, bv.ownBlock = some b → b < w.heap.size := fun b hb => (hown.lt b hb).2
  have hne2 : some fg ≠ bv.ownBlock := fun e => hne e.symm
  have hne3 : some w.heap.size ≠ bv.ownBlock := fun e => by have := hlt _ e.symm; omega
  have hne4 : ¬ w.heap.size = fg := by omega
  have hne5 : ¬ fg = w.heap.size := by omega
  go_enter Tryz.func101, Tryz.ntmps101
  go_wp2_with fail
  go_region_law
    ((refine step_append_lies _ (by rfl) _ _ _ (by rfl) B 135 i0 _ 8 80 Tryz.under116 hi0 hz0 hz1 hz2 rfl (by omega) bv its.length (stmCells its) (by rfl) (((hown.alloc _).alloc _).drew)
        ⟨w.heap.size + 1, 0, none⟩ 1 1 i.cells (by rfl) (by rfl) (World.news_of_block (cs := i.cells.toArray) (t := 135) (fr := (0, 0)) (news_two w _ _ _)) (eight_one i)
        (by omega) (by unfold maxLen; omega) (by omega) (by simp; omega) (w.heap.size + 1 + 1) (by simp) ?_; intro g cap w1 hown1 hgrow hat hltg; have hfz : w1.frozen? ⟨fg, o + 2, none⟩ = false := (hgrow.frozen_far _ (by simp; omega) hne2).trans ((frozen_two w _ _ _ lg).trans hf); have hcz : w1.cell? ⟨fg, o + 2, none⟩ = some bv := (hgrow.cell_far _ (by simp; omega) hne2).trans ((cell_two w _ _ _ lg).trans hc)))
  all_goals go_end0
  all_goals exact ⟨rfl, g, cap, w1, rfl, grown_two hgrow, by rw [stmCells_snoc]; exact hown1, by rcases hat with h | h; exact .inl h; exact .inr (by omega)⟩

end Go.Proofs.YtgnnikbnbbcdbaaGreatDoor
