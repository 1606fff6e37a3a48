import Derived.Test.YtfpgjkbjbbgciaaGreatDoorMa38
namespace Go.Proofs.YtfpgjkbjbbgciaaGreatDoor
open Sp

/-- Does a statement name what is not there? -/
def badKey (names labs : List ByteArray) (k : Key) : Bool :=
  (asksLab k.word && !labs.any (fun y => eqW y k.nm)) || (asksFn k.word && !names.any (fun y => eqW y k.nm))
def missBody (names labs : List ByteArray) (b : List Key) : Option Int := (b.find? (badKey names labs)).map Key.line
def missK (names : List ByteArray) : List Fn → Option Int
  | [] => none
  | f :: r => match missBody names (labsOf f.body) f.body with | some l => some l | none => missK names r
def endK : List Fn → Option Int
  | [] => none
  | f :: r => if endsK f.body = true then endK r else some f.line
def twiceK : List Fn → List Key → Option Int
  | _, [] => none
  | F, k :: r => if bad0 F k = true then some k.line else twiceK (addK F k) r
def orElse (e : Int) (o : Option Int) (c : Int × Int) : Int × Int := match o with | some l => (e, l) | none => c

theorem pass2 (L : List Said) (hw : WfAll L) (i : Nat) (c : Int × Int) : pass L 2 i c = orElse 5 (endK (fnsFrom L i)) c := by
  by_cases h : i < L.length
  · have hb : badB L 2 i = (if L[i].kind = 102 then !endAt L (i + 1) false else false) := by
      simp [badB, endlessB, List.getElem?_eq_getElem h]
    by_cases h1 : L[i].kind = 102
    · rw [if_pos h1, end_any L hw (i + 1) false] at hb
      change badB L 2 i = !endsK (bodyFrom L (i + 1)) at hb
      rw [fnsFrom_f L i h h1]
      cases he : endsK (bodyFrom L (i + 1)) with
      | true =>
        rw [pass_on L 2 i c h (by rw [hb, he]; rfl), pass2 L hw (i + 1) c]
        simp [endK, he]
      | false =>
        rw [pass_bad L 2 i c h (by rw [hb, he]; rfl)]
        simp [endK, he, orElse]
    · rw [if_neg h1] at hb
      rw [pass_on L 2 i c h hb, fnsFrom_on L i h h1]
      exact pass2 L hw (i + 1) c
  · rw [pass_end L 2 i c h, fnsFrom_end L i h]; rfl
termination_by L.length - i

def NmOk (L : List Said) : Prop := ∀ q ∈ L, q.kind = 105 → (asksLab (q.word 0) = true ∨ asksFn (q.word 0) = true) → nameQ q = q.last
theorem asks_both (x : ByteArray) (h : asksLab x = true) : asksFn x = false := by
  unfold asksLab isW at h
  unfold asksFn isW
  simp only [Bool.or_eq_true, beq_iff_eq] at h
  rcases h with (h | h) | h <;> rw [h] <;> decide
theorem asksLab_none : asksLab ⟨#[]⟩ = false := by simp [asksLab, isW, ByteArray.toList_eq]
theorem asksFn_none : asksFn ⟨#[]⟩ = false := by simp [asksFn, isW, ByteArray.toList_eq]

theorem miss_at (L : List Said) (_hw : WfAll L) (hn : NmOk L) (names labs : List ByteArray) (i o : Nat) (h : i < L.length) (ho : owner L i = (o : Int))
    (hN : ∀ x, names.any (fun y => eqW y x) = decide (0 ≤ fnFrom L x 0)) (hL : ∀ x, labs.any (fun y => eqW y x) = decide (0 ≤ labFrom L x (o + 1))) :
    badB L 1 i = badKey names labs (keyQ L[i] ((i : Int) + 1)) := by
  have e : badB L 1 i = missingB L i := by simp [badB]
  rw [e]
  unfold missingB
  rw [List.getElem?_eq_getElem h]
  dsimp only
  by_cases h5 : L[i].kind = 105
  · rw [if_pos h5]
    have hlab : labOf L i L[i].last = labFrom L L[i].last (o + 1) := by
      unfold labOf
      rw [ho]
      congr 1
    have ew : wordK L[i] = L[i].word 0 := by simp [wordK, h5]
    unfold badKey keyQ
    dsimp only
    rw [ew, hlab, hN, hL]
    by_cases h1 : asksLab (L[i].word 0) = true
    · rw [if_pos h1, hn _ (List.getElem_mem h) h5 (.inl h1), h1, asks_both _ h1]
      simp [← Int.not_le]
    · rw [if_neg h1]
      by_cases h2 : asksFn (L[i].word 0) = true
      · rw [if_pos h2, hn _ (List.getElem_mem h) h5 (.inr h2), h2]
        simp [h1, ← Int.not_le]
      · rw [if_neg h2]
        simp [h1, h2]
  · rw [if_neg h5]
    have ew : wordK L[i] = ⟨#[]⟩ := by simp [wordK, h5]
    unfold badKey keyQ
    dsimp only
    rw [ew, asksLab_none, asksFn_none]
    rfl
theorem find_cons (names labs : List ByteArray) (k : Key) (b : List Key) : missBody names labs (k :: b) = if badKey names labs k = true then some k.line else missBody names labs b := by
  unfold missBody
  rw [List.find?_cons]
  cases badKey names labs k <;> rfl

theorem pass1 (L : List Said) (hw : WfAll L) (hn : NmOk L) (names : List ByteArray) (hN : ∀ x, names.any (fun y => eqW y x) = decide (0 ≤ fnFrom L x 0)) (c : Int × Int) (i o : Nat) (ho : owner L i = (o : Int)) (labs : List ByteArray)
    (hL : ∀ x, labs.any (fun y => eqW y x) = decide (0 ≤ labFrom L x (o + 1))) :
    pass L 1 (i + 1) c = orElse 4 (match missBody names labs (bodyFrom L (i + 1)) with | some l => some l | none => missK names (fnsFrom L (i + 1))) c := by
  by_cases h : i + 1 < L.length
  · by_cases h1 : L[i + 1].kind = 102
    · have ho' := owner_is L (i + 1) h h1
      have hb : badB L 1 (i + 1) = false := by simp [badB, missingB, List.getElem?_eq_getElem h, h1]
      rw [pass_on L 1 (i + 1) c h hb, bodyFrom_f L (i + 1) h h1, fnsFrom_f L (i + 1) h h1, pass1 L hw hn names hN c (i + 1) (i + 1) ho' (labsOf (bodyFrom L (i + 1 + 1))) (fun x => labs_any L (i + 1 + 1) x)]
      rfl
    · have ho' : owner L (i + 1) = (o : Int) := (owner_succ L i h h1).trans ho
      have hb := miss_at L hw hn names labs (i + 1) o h ho' hN hL
      rw [fnsFrom_on L (i + 1) h h1]
      by_cases h0 : L[i + 1].kind = 0
      · have hb : badB L 1 (i + 1) = false := by simp [badB, missingB, List.getElem?_eq_getElem h, h0]
        rw [pass_on L 1 (i + 1) c h hb, bodyFrom_0 L (i + 1) h h0]
        exact pass1 L hw hn names hN c (i + 1) o ho' labs hL
      · rw [bodyFrom_on L (i + 1) h h0 h1, find_cons]
        cases hk : badKey names labs (keyQ L[i + 1] (((i + 1 : Nat) : Int) + 1)) with
        | true => rw [pass_bad L 1 (i + 1) c h (hb.trans hk)]; rfl
        | false =>
          rw [pass_on L 1 (i + 1) c h (hb.trans hk)]
          exact pass1 L hw hn names hN c (i + 1) o ho' labs hL
  · rw [pass_end L 1 (i + 1) c h, bodyFrom_end L _ h, fnsFrom_end L _ h]; rfl
termination_by L.length - i

end Go.Proofs.YtfpgjkbjbbgciaaGreatDoor
