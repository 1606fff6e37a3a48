import Derived.Test.YtfpgjkbjbbgciaaGreatDoorMa10
namespace Go.Proofs.YtfpgjkbjbbgciaaGreatDoor.Sp

/-- Is a word an operand of that kind? -/
def opOk (k : UInt8) (x : ByteArray) : Bool := if k = 82 then decide (0 ≤ reg x) else if k = 75 then (numOf x).2 else isName x
/-- From an operand on. -/
def opsOk : List UInt8 → List ByteArray → Bool
  | [], _ => true
  | k :: ks, x :: xs => opOk k x && opsOk ks xs
  | _ :: _, [] => true
def lastB (s : ByteArray) : Int := bt s (s.size - 1)
def isFunc (x : ByteArray) : Bool := isW x [102, 117, 110, 99]
/-- What a line's words say: the kind, the words that are kept, whether it may be said. -/
structure Said where
  kind : Int
  kept : List ByteArray
  ok : Bool
def sayW (l : List ByteArray) : Said :=
  match l with
  | [] => ⟨0, [], true⟩
  | x :: r =>
    if isFunc x = true then ⟨102, l, decide (l.length = 2) && isName (l.getLast?.getD ByteArray.empty)⟩
    else if l.length = 1 ∧ lastB x = 58 then ⟨108, [x.extract 0 (x.size - 1)], isName (x.extract 0 (x.size - 1))⟩
    else ⟨105, l, if shapeOf x = [63] ∨ ¬ l.length = (shapeOf x).length + 1 then false else opsOk (shapeOf x) r⟩
def say (s : ByteArray) : Said := if validAt s 0 = true then sayW (words s) else ⟨0, [], false⟩

theorem flush_sizes (s now : ByteArray) (l : List ByteArray) (hl : ∀ x ∈ l, 1 ≤ x.size ∧ x.size ≤ s.size) (hn : now.size ≤ s.size) : ∀ x ∈ flush now l, 1 ≤ x.size ∧ x.size ≤ s.size := by
  intro x hx
  unfold flush at hx
  split at hx
  · exact hl x hx
  · rw [List.mem_append] at hx
    rcases hx with hx | hx
    · exact hl x hx
    · simp at hx; subst hx; omega
theorem wordsAt_sizes (s : ByteArray) (i : Nat) (now : ByteArray) (l : List ByteArray) (hl : ∀ x ∈ l, 1 ≤ x.size ∧ x.size ≤ s.size) (hn : now.size ≤ i) (hi : i ≤ s.size) : ∀ x ∈ wordsAt s i now l, 1 ≤ x.size ∧ x.size ≤ s.size := by
  by_cases h : i < s.size
  · by_cases h1 : bt s i = 32 ∨ bt s i = 9 ∨ bt s i = 59
    · by_cases h2 : bt s i = 59
      · rw [wordsAt_stop s i now l h h2]; exact flush_sizes s now l hl (by omega)
      · rw [wordsAt_cut s i now l h (by omega)]
        exact wordsAt_sizes s (i + 1) _ _ (flush_sizes s now l hl (by omega)) (by simp) (by omega)
    · rw [wordsAt_on s i now l h h1]
      exact wordsAt_sizes s (i + 1) _ _ hl (by rw [ByteArray.size_append, ByteArray.size_extract]; omega) (by omega)
  · rw [wordsAt_end s i now l h]; exact flush_sizes s now l hl (by omega)
termination_by s.size - i
theorem words_sizes (s : ByteArray) : ∀ x ∈ words s, 1 ≤ x.size ∧ x.size ≤ s.size := wordsAt_sizes s 0 _ _ (by simp) (by simp) (by omega)

theorem opsOk_step (ks : List UInt8) (xs : List ByteArray) (i : Nat) (hk : i < ks.length) (hx : i < xs.length) : opsOk (ks.drop i) (xs.drop i) = (opOk ks[i] xs[i] && opsOk (ks.drop (i + 1)) (xs.drop (i + 1))) := by
  rw [List.drop_eq_getElem_cons hk, List.drop_eq_getElem_cons hx]; rfl

end Go.Proofs.YtfpgjkbjbbgciaaGreatDoor.Sp

namespace Go.Proofs.YtfpgjkbjbbgciaaGreatDoor.Sp

def Wf (q : Said) : Prop := (q.kind = 0 ∧ q.kept.length = 0) ∨ (q.kind = 102 ∧ q.kept.length = 2) ∨ (q.kind = 108 ∧ q.kept.length = 1) ∨ (q.kind = 105 ∧ 1 ≤ q.kept.length ∧ q.kept.length ≤ 4)
def eqW (a b : ByteArray) : Bool := a.toList == b.toList
def Said.word (q : Said) (i : Nat) : ByteArray := q.kept[i]?.getD ByteArray.empty
def isFn (q : Said) (x : ByteArray) : Bool := decide (q.kind = 102) && eqW (q.word 1) x
def isLab (q : Said) (x : ByteArray) : Bool := decide (q.kind = 108) && eqW (q.word 0) x
/-- The line at which the function of a name begins, from a line on; -1: there is none. -/
def fnFrom (L : List Said) (x : ByteArray) (i : Nat) : Int :=
  if h : i < L.length then (if isFn L[i] x = true then (i : Int) else fnFrom L x (i + 1)) else -1
termination_by L.length - i
def owner (L : List Said) : Nat → Int
  | 0 => if (L[0]?.map Said.kind) = some 102 then 0 else -1
  | k + 1 => if (L[k + 1]?.map Said.kind) = some 102 then ((k + 1 : Nat) : Int) else owner L k
def labFrom (L : List Said) (x : ByteArray) (i : Nat) : Int :=
  if h : i < L.length then (if L[i].kind = 102 then -1 else if isLab L[i] x = true then (i : Int) else labFrom L x (i + 1)) else -1
termination_by L.length - i
def labOf (L : List Said) (k : Nat) (x : ByteArray) : Int := labFrom L x (owner L k + 1).toNat
theorem fnFrom_end (L : List Said) (x : ByteArray) (i : Nat) (h : ¬ i < L.length) : fnFrom L x i = -1 := by rw [fnFrom, dif_neg h]
theorem fnFrom_hit (L : List Said) (x : ByteArray) (i : Nat) (h : i < L.length) (h' : isFn L[i] x = true) : fnFrom L x i = i := by rw [fnFrom, dif_pos h, if_pos h']
theorem fnFrom_on (L : List Said) (x : ByteArray) (i : Nat) (h : i < L.length) (h' : isFn L[i] x = false) : fnFrom L x i = fnFrom L x (i + 1) := by rw [fnFrom, dif_pos h, if_neg (by simp [h'])]
theorem labFrom_end (L : List Said) (x : ByteArray) (i : Nat) (h : ¬ i < L.length) : labFrom L x i = -1 := by rw [labFrom, dif_neg h]
theorem labFrom_f (L : List Said) (x : ByteArray) (i : Nat) (h : i < L.length) (h' : L[i].kind = 102) : labFrom L x i = -1 := by rw [labFrom, dif_pos h, if_pos h']
theorem labFrom_hit (L : List Said) (x : ByteArray) (i : Nat) (h : i < L.length) (h0 : ¬ L[i].kind = 102) (h' : isLab L[i] x = true) : labFrom L x i = i := by rw [labFrom, dif_pos h, if_neg h0, if_pos h']
theorem labFrom_on (L : List Said) (x : ByteArray) (i : Nat) (h : i < L.length) (h0 : ¬ L[i].kind = 102) (h' : isLab L[i] x = false) : labFrom L x i = labFrom L x (i + 1) := by rw [labFrom, dif_pos h, if_neg h0, if_neg (by simp [h'])]
theorem owner_is (L : List Said) (k : Nat) (h : k < L.length) (h' : L[k].kind = 102) : owner L k = k := by
  cases k with
  | zero => unfold owner; rw [List.getElem?_eq_getElem h]; simp [h']
  | succ k => unfold owner; rw [List.getElem?_eq_getElem h]; simp [h']
theorem owner_zero (L : List Said) (h : 0 < L.length) (h' : ¬ L[0].kind = 102) : owner L 0 = -1 := by
  unfold owner; rw [List.getElem?_eq_getElem h]; simp [h']
theorem owner_succ (L : List Said) (k : Nat) (h : k + 1 < L.length) (h' : ¬ L[k + 1].kind = 102) : owner L (k + 1) = owner L k := by
  conv => lhs; unfold owner
  rw [List.getElem?_eq_getElem h]; simp [h']
theorem owner_bd (L : List Said) (k : Nat) : -1 ≤ owner L k ∧ owner L k ≤ k := by
  induction k with
  | zero => unfold owner; split <;> simp
  | succ k ih => unfold owner; split <;> omega

end Go.Proofs.YtfpgjkbjbbgciaaGreatDoor.Sp

namespace Go.Proofs.YtfpgjkbjbbgciaaGreatDoor.Sp

def twiceB (L : List Said) (k : Nat) : Bool :=
  match L[k]? with
  | none => false
  | some q => if q.kind = 102 then decide (fnFrom L (q.word 1) 0 < k) else if q.kind = 108 then decide (labOf L k (q.word 0) < k) else false
def Said.last (q : Said) : ByteArray := q.word (q.kept.length - 1)
def asksLab (x : ByteArray) : Bool := isW x [106, 117, 109, 112] || isW x [108, 101, 115, 115] || isW x [115, 97, 109, 101]
def asksFn (x : ByteArray) : Bool := isW x [99, 97, 108, 108]
def missingB (L : List Said) (k : Nat) : Bool :=
  match L[k]? with
  | none => false
  | some q => if q.kind = 105 then (if asksLab (q.word 0) = true then decide (labOf L k q.last < 0) else if asksFn (q.word 0) = true then decide (fnFrom L q.last 0 < 0) else false) else false
def ends (x : ByteArray) : Bool := isW x [106, 117, 109, 112] || isW x [98, 97, 99, 107] || isW x [115, 116, 111, 112]
/-- Does the last thing that is said from a line on, up to the next function, end it? -/
def endAt (L : List Said) (i : Nat) (e : Bool) : Bool :=
  if h : i < L.length then
    if L[i].kind = 102 then e
    else endAt L (i + 1) (if L[i].kind = 108 then false else if L[i].kind = 105 then ends (L[i].word 0) else e)
  else e
termination_by L.length - i
def endlessB (L : List Said) (k : Nat) : Bool :=
  match L[k]? with
  | none => false
  | some q => if q.kind = 102 then !endAt L (k + 1) false else false
theorem endAt_end (L : List Said) (i : Nat) (e : Bool) (h : ¬ i < L.length) : endAt L i e = e := by rw [endAt, dif_neg h]
theorem endAt_f (L : List Said) (i : Nat) (e : Bool) (h : i < L.length) (h' : L[i].kind = 102) : endAt L i e = e := by rw [endAt, dif_pos h, if_pos h']
theorem endAt_on (L : List Said) (i : Nat) (e : Bool) (h : i < L.length) (h' : ¬ L[i].kind = 102) : endAt L i e = endAt L (i + 1) (if L[i].kind = 108 then false else if L[i].kind = 105 then ends (L[i].word 0) else e) := by
  conv => lhs; rw [endAt, dif_pos h, if_neg h']

end Go.Proofs.YtfpgjkbjbbgciaaGreatDoor.Sp
