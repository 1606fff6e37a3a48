import GoSem.Claim
/- Plain functions on bytes: what the document's reading of a text is. Nothing of the dump. -/
namespace Go.Proofs.YtbkefkaedohhcaaGreatDoor.Sp

/-- The byte at a place, as a number (0 beyond the end). -/
def bt (s : ByteArray) (k : Nat) : Int := ((s.data[k]?.getD 0).toNat : Int)
theorem bt_eq (s : ByteArray) (k : Nat) (h : k < s.size) : ((s[k]'h).toNat : Int) = bt s k := by
  have h' : k < s.data.size := h
  unfold bt
  rw [Array.getElem?_eq_getElem h']
  rfl
theorem bt_lo (s : ByteArray) (k : Nat) : 0 ≤ bt s k ∧ bt s k ≤ 255 := by
  unfold bt
  have := (s.data[k]?.getD 0).toNat_lt
  omega

def regB (s : ByteArray) : Bool := decide (s.size = 2) && decide (bt s 0 = 114) && decide (48 ≤ bt s 1) && decide (bt s 1 ≤ 55)
def reg (s : ByteArray) : Int := if regB s = true then bt s 1 - 48 else -1

/-- `k` further bytes of a character. -/
def conts (s : ByteArray) (i : Nat) : Nat → Int → Option Int
  | 0, v => some v
  | k + 1, v => if i < s.size ∧ 128 ≤ bt s i ∧ bt s i ≤ 191 then conts s (i + 1) k (64 * v + bt s i - 128) else none
def chrEnd (n least : Int) : Option Int → Int × Int
  | none => (0, 0)
  | some v => if v < least ∨ 1114111 < v ∨ (55296 ≤ v ∧ v ≤ 57343) then (0, 0) else (n, v)
def chr (s : ByteArray) (i : Nat) : Int × Int :=
  if bt s i < 128 then (1, bt s i)
  else if 194 ≤ bt s i ∧ bt s i < 224 then chrEnd 2 128 (conts s (i + 1) 1 (bt s i - 192))
  else if 224 ≤ bt s i ∧ bt s i < 240 then chrEnd 3 2048 (conts s (i + 1) 2 (bt s i - 224))
  else if 240 ≤ bt s i ∧ bt s i < 245 then chrEnd 4 65536 (conts s (i + 1) 3 (bt s i - 240))
  else (0, 0)

end Go.Proofs.YtbkefkaedohhcaaGreatDoor.Sp

namespace Go.Proofs.YtbkefkaedohhcaaGreatDoor.Sp

theorem conts_bd (s : ByteArray) (i k : Nat) (v u : Int) (h : conts s i k v = some u) : i + k ≤ s.size ∨ k = 0 := by
  induction k generalizing i v with
  | zero => exact .inr rfl
  | succ k ih =>
    unfold conts at h
    split at h
    · rename_i hc
      rcases ih _ _ h with h' | h'
      · exact .inl (by omega)
      · subst h'; exact .inl (by omega)
    · cases h
theorem chrEnd_bd (n least : Int) (o : Option Int) : (chrEnd n least o = (0, 0)) ∨ (∃ v, o = some v ∧ chrEnd n least o = (n, v) ∧ least ≤ v ∧ v ≤ 1114111) := by
  cases o with
  | none => exact .inl rfl
  | some v =>
    by_cases h : v < least ∨ 1114111 < v ∨ (55296 ≤ v ∧ v ≤ 57343)
    · exact .inl (if_pos h)
    · exact .inr ⟨v, rfl, if_neg h, by omega, by omega⟩
theorem chr_bd (s : ByteArray) (i : Nat) (hi : i < s.size) : chr s i = (0, 0) ∨ (1 ≤ (chr s i).1 ∧ (chr s i).1 ≤ 4 ∧ i + (chr s i).1 ≤ s.size ∧ 0 ≤ (chr s i).2 ∧ (chr s i).2 ≤ 1114111) := by
  have hb := bt_lo s i
  unfold chr
  split
  · exact .inr ⟨by simp, by simp, by simp; omega, by simpa using hb.1, by simp; omega⟩
  split
  · rcases chrEnd_bd 2 128 (conts s (i + 1) 1 (bt s i - 192)) with h | ⟨v, h1, h2, h3, h4⟩
    · exact .inl h
    · rw [h2]
      rcases conts_bd _ _ _ _ _ h1 with h | h
      · exact .inr ⟨by simp, by simp, by simp; omega, by simp; omega, by simpa using h4⟩
      · omega
  split
  · rcases chrEnd_bd 3 2048 (conts s (i + 1) 2 (bt s i - 224)) with h | ⟨v, h1, h2, h3, h4⟩
    · exact .inl h
    · rw [h2]
      rcases conts_bd _ _ _ _ _ h1 with h | h
      · exact .inr ⟨by simp, by simp, by simp; omega, by simp; omega, by simpa using h4⟩
      · omega
  split
  · rcases chrEnd_bd 4 65536 (conts s (i + 1) 3 (bt s i - 240)) with h | ⟨v, h1, h2, h3, h4⟩
    · exact .inl h
    · rw [h2]
      rcases conts_bd _ _ _ _ _ h1 with h | h
      · exact .inr ⟨by simp, by simp, by simp; omega, by simp; omega, by simpa using h4⟩
      · omega
  · exact .inl rfl

def chrN (s : ByteArray) (i : Nat) : Nat := (chr s i).1.toNat
theorem chrN_pos (s : ByteArray) (i : Nat) (hi : i < s.size) (h : ¬ (chr s i).1 = 0) : ((chrN s i : Nat) : Int) = (chr s i).1 ∧ 1 ≤ chrN s i ∧ chrN s i ≤ 4 ∧ i + chrN s i ≤ s.size ∧ 0 ≤ (chr s i).2 ∧ (chr s i).2 ≤ 1114111 := by
  rcases chr_bd s i hi with h' | h'
  · rw [h'] at h; simp at h
  · unfold chrN; omega

/-- Are the bytes from a place on UTF-8? -/
def validAt (s : ByteArray) (i : Nat) : Bool :=
  if _hi : i < s.size then
    if _h : (chr s i).1 = 0 then false else validAt s (i + chrN s i)
  else true
termination_by s.size - i
decreasing_by have := chrN_pos s i _hi _h; omega
theorem validAt_end (s : ByteArray) (i : Nat) (h : ¬ i < s.size) : validAt s i = true := by
  rw [validAt, dif_neg h]
theorem validAt_bad (s : ByteArray) (i : Nat) (h : i < s.size) (h0 : (chr s i).1 = 0) : validAt s i = false := by
  rw [validAt, dif_pos h, dif_pos h0]
theorem validAt_next (s : ByteArray) (i : Nat) (h : i < s.size) (h0 : ¬ (chr s i).1 = 0) : validAt s i = validAt s (i + chrN s i) := by
  rw [validAt, dif_pos h, dif_neg h0]

def smallB (c : Int) : Bool := decide (97 ≤ c ∧ c ≤ 122 ∨ c = 95 ∨ 945 ≤ c ∧ c ≤ 969)
def digitB (c : Int) : Bool := decide (48 ≤ c ∧ c ≤ 57)
/-- How many characters of a name stand from a place on; none: one of them may not. -/
def nameAt (s : ByteArray) (i : Nat) (c : Nat) : Option Nat :=
  if hi : i < s.size then
    if h : (chr s i).1 = 0 then none
    else if smallB (chr s i).2 = true ∨ (digitB (chr s i).2 = true ∧ ¬ i = 0) then nameAt s (i + chrN s i) (c + 1) else none
  else some c
termination_by s.size - i
decreasing_by have := chrN_pos s i hi h; omega
def nameEnd : Option Nat → Bool
  | none => false
  | some c => decide (1 ≤ c ∧ c ≤ 12)
def isName (s : ByteArray) : Bool := nameEnd (nameAt s 0 0)
theorem nameAt_end (s : ByteArray) (i c : Nat) (h : ¬ i < s.size) : nameAt s i c = some c := by
  rw [nameAt, dif_neg h]
theorem nameAt_bad (s : ByteArray) (i c : Nat) (h : i < s.size) (h0 : (chr s i).1 = 0) : nameAt s i c = none := by
  rw [nameAt, dif_pos h, dif_pos h0]
theorem nameAt_next (s : ByteArray) (i c : Nat) (h : i < s.size) (h0 : ¬ (chr s i).1 = 0) (h1 : smallB (chr s i).2 = true ∨ (digitB (chr s i).2 = true ∧ ¬ i = 0)) : nameAt s i c = nameAt s (i + chrN s i) (c + 1) := by
  rw [nameAt, dif_pos h, dif_neg h0, if_pos h1]
theorem nameAt_not (s : ByteArray) (i c : Nat) (h : i < s.size) (h0 : ¬ (chr s i).1 = 0) (h1 : ¬ (smallB (chr s i).2 = true ∨ (digitB (chr s i).2 = true ∧ ¬ i = 0))) : nameAt s i c = none := by
  rw [nameAt, dif_pos h, dif_neg h0, if_neg h1]

end Go.Proofs.YtbkefkaedohhcaaGreatDoor.Sp

namespace Go.Proofs.YtbkefkaedohhcaaGreatDoor.Sp

/-- The least of the numbers, behind a name. -/
def least : Int := -9223372036854775808
def numBad (n d : Int) : Bool := decide (d < 0) || decide (9 < d) || decide (n < (least + d).tdiv 10)
/-- The number that the digits from a place on are, kept below nought. -/
def numAt (s : ByteArray) (i : Nat) (n : Int) : Option Int :=
  if i < s.size then
    if numBad n (bt s i - 48) = true then none else numAt s (i + 1) (10 * n - (bt s i - 48))
  else some n
termination_by s.size - i
theorem numAt_end (s : ByteArray) (i : Nat) (n : Int) (h : ¬ i < s.size) : numAt s i n = some n := by
  rw [numAt, if_neg h]
theorem numAt_bad (s : ByteArray) (i : Nat) (n : Int) (h : i < s.size) (h' : numBad n (bt s i - 48) = true) : numAt s i n = none := by
  rw [numAt, if_pos h, if_pos h']
theorem numAt_next (s : ByteArray) (i : Nat) (n : Int) (h : i < s.size) (h' : ¬ numBad n (bt s i - 48) = true) : numAt s i n = numAt s (i + 1) (10 * n - (bt s i - 48)) := by
  rw [numAt, if_pos h, if_neg h']
def numEnd (minus : Bool) : Option Int → Int × Bool
  | none => (0, false)
  | some n => if minus = true then (n, true) else (if n = least then least else -n, decide (least < n))
def minusB (s : ByteArray) : Bool := decide (0 < s.size) && decide (bt s 0 = 45)
def numOf (s : ByteArray) : Int × Bool :=
  if minusB s = true then (if s.size = 1 then (0, false) else numEnd true (numAt s 1 0))
  else (if s.size = 0 then (0, false) else numEnd false (numAt s 0 0))
theorem tdiv_low (d : Int) (h : d ≤ 9) : (least + d).tdiv 10 = -((9223372036854775808 - d) / 10) := by
  have e : least + d = -(9223372036854775808 - d) := by unfold least; omega
  rw [e, Int.neg_tdiv, Int.tdiv_eq_ediv_of_nonneg (by omega)]
theorem num_step (n d : Int) (h : ¬ numBad n d = true) (h0 : least ≤ n) (h1 : n ≤ 0) : least ≤ 10 * n - d ∧ 10 * n - d ≤ 0 ∧ 0 ≤ d ∧ d ≤ 9 := by
  simp [numBad] at h
  obtain ⟨⟨h2, h3⟩, h4⟩ := h
  rw [tdiv_low d h3] at h4
  unfold least at *
  omega

end Go.Proofs.YtbkefkaedohhcaaGreatDoor.Sp

namespace Go.Proofs.YtbkefkaedohhcaaGreatDoor.Sp

/-- The lines from a place on, the first of which began at another. -/
def linesAt (s : ByteArray) (from0 i : Nat) : List ByteArray :=
  if i < s.size then
    if bt s i = 10 then s.extract from0 i :: linesAt s (i + 1) (i + 1) else linesAt s from0 (i + 1)
  else [s.extract from0 s.size]
termination_by s.size - i
theorem linesAt_end (s : ByteArray) (from0 i : Nat) (h : ¬ i < s.size) : linesAt s from0 i = [s.extract from0 s.size] := by
  rw [linesAt, if_neg h]
theorem linesAt_cut (s : ByteArray) (from0 i : Nat) (h : i < s.size) (h' : bt s i = 10) : linesAt s from0 i = s.extract from0 i :: linesAt s (i + 1) (i + 1) := by
  rw [linesAt, if_pos h, if_pos h']
theorem linesAt_on (s : ByteArray) (from0 i : Nat) (h : i < s.size) (h' : ¬ bt s i = 10) : linesAt s from0 i = linesAt s from0 (i + 1) := by
  rw [linesAt, if_pos h, if_neg h']
def lines (s : ByteArray) : List ByteArray := linesAt s 0 0

/-- The words of a line from a place on; `now` is the word that stands there. -/
def blankB (c : Int) : Bool := decide (c = 32 ∨ c = 9 ∨ c = 59)
def flush (now : ByteArray) (l : List ByteArray) : List ByteArray := if now.size = 0 then l else l ++ [now]
def wordsAt (s : ByteArray) (i : Nat) (now : ByteArray) (l : List ByteArray) : List ByteArray :=
  if i < s.size then
    if blankB (bt s i) = false then wordsAt s (i + 1) (now ++ s.extract i (i + 1)) l
    else if bt s i = 59 then flush now l
    else wordsAt s (i + 1) ByteArray.empty (flush now l)
  else flush now l
termination_by s.size - i
def words (s : ByteArray) : List ByteArray := wordsAt s 0 ByteArray.empty []
theorem wordsAt_end (s : ByteArray) (i : Nat) (now : ByteArray) (l : List ByteArray) (h : ¬ i < s.size) : wordsAt s i now l = flush now l := by
  rw [wordsAt, if_neg h]
theorem wordsAt_on (s : ByteArray) (i : Nat) (now : ByteArray) (l : List ByteArray) (h : i < s.size) (h' : ¬ (bt s i = 32 ∨ bt s i = 9 ∨ bt s i = 59)) : wordsAt s i now l = wordsAt s (i + 1) (now ++ s.extract i (i + 1)) l := by
  rw [wordsAt, if_pos h, if_pos (by simpa [blankB] using h')]
theorem wordsAt_stop (s : ByteArray) (i : Nat) (now : ByteArray) (l : List ByteArray) (h : i < s.size) (h' : bt s i = 59) : wordsAt s i now l = flush now l := by
  rw [wordsAt, if_pos h, if_neg (by simp [blankB, h']), if_pos h']
theorem wordsAt_cut (s : ByteArray) (i : Nat) (now : ByteArray) (l : List ByteArray) (h : i < s.size) (h' : bt s i = 32 ∨ bt s i = 9) : wordsAt s i now l = wordsAt s (i + 1) ByteArray.empty (flush now l) := by
  rw [wordsAt, if_pos h, if_neg (by simp [blankB]; omega), if_neg (by omega)]

end Go.Proofs.YtbkefkaedohhcaaGreatDoor.Sp

namespace Go.Proofs.YtbkefkaedohhcaaGreatDoor.Sp

/-- Is a word this one? -/
def isW (s : ByteArray) (l : List UInt8) : Bool := s.toList == l
/-- The operands that an instruction's word asks for: 82 a register, 75 a number, 78 a name; 63 alone: there is no such instruction. -/
def shapeOf (s : ByteArray) : List UInt8 :=
  if isW s [115, 101, 116] || isW s [105, 110, 99] then [82, 75] else
  if isW s [109, 111, 118] || isW s [108, 111, 97, 100] || isW s [115, 116, 111, 114, 101] then [82, 82] else
  if isW s [97, 100, 100] || isW s [115, 117, 98] || isW s [109, 117, 108] then [82, 82, 82] else
  if isW s [114, 101, 97, 100] || isW s [119, 114, 105, 116, 101] then [82] else
  if isW s [106, 117, 109, 112] || isW s [99, 97, 108, 108] then [78] else
  if isW s [108, 101, 115, 115] || isW s [115, 97, 109, 101] then [82, 82, 78] else
  if isW s [98, 97, 99, 107] || isW s [115, 116, 111, 112] then [] else
  [63]

end Go.Proofs.YtbkefkaedohhcaaGreatDoor.Sp

namespace Go.Proofs.YtbkefkaedohhcaaGreatDoor.Sp

/-- Is a word an operand of that kind? -/
def opOk (k : UInt8) (x : ByteArray) : Bool := if k = 82 then decide (0 ≤ reg x) else if k = 75 then (numOf x).2 else isName x
/-- From an operand on. -/
def opsOk : List UInt8 → List ByteArray → Bool
  | [], _ => true
  | k :: ks, x :: xs => opOk k x && opsOk ks xs
  | _ :: _, [] => true
def lastB (s : ByteArray) : Int := bt s (s.size - 1)
def isFunc (x : ByteArray) : Bool := isW x [102, 117, 110, 99]
/-- What a line's words say: the kind, the words that are kept, whether it may be said. -/
structure Said where
  kind : Int
  kept : List ByteArray
  ok : Bool
def sayW (l : List ByteArray) : Said :=
  match l with
  | [] => ⟨0, [], true⟩
  | x :: r =>
    if isFunc x = true then ⟨102, l, decide (l.length = 2) && isName (l.getLast?.getD ByteArray.empty)⟩
    else if l.length = 1 ∧ lastB x = 58 then ⟨108, [x.extract 0 (x.size - 1)], isName (x.extract 0 (x.size - 1))⟩
    else ⟨105, l, if shapeOf x = [63] ∨ ¬ l.length = (shapeOf x).length + 1 then false else opsOk (shapeOf x) r⟩
def say (s : ByteArray) : Said := if validAt s 0 = true then sayW (words s) else ⟨0, [], false⟩

theorem flush_sizes (s now : ByteArray) (l : List ByteArray) (hl : ∀ x ∈ l, 1 ≤ x.size ∧ x.size ≤ s.size) (hn : now.size ≤ s.size) : ∀ x ∈ flush now l, 1 ≤ x.size ∧ x.size ≤ s.size := by
  intro x hx
  unfold flush at hx
  split at hx
  · exact hl x hx
  · rw [List.mem_append] at hx
    rcases hx with hx | hx
    · exact hl x hx
    · simp at hx; subst hx; omega
theorem wordsAt_sizes (s : ByteArray) (i : Nat) (now : ByteArray) (l : List ByteArray) (hl : ∀ x ∈ l, 1 ≤ x.size ∧ x.size ≤ s.size) (hn : now.size ≤ i) (hi : i ≤ s.size) : ∀ x ∈ wordsAt s i now l, 1 ≤ x.size ∧ x.size ≤ s.size := by
  by_cases h : i < s.size
  · by_cases h1 : bt s i = 32 ∨ bt s i = 9 ∨ bt s i = 59
    · by_cases h2 : bt s i = 59
      · rw [wordsAt_stop s i now l h h2]; exact flush_sizes s now l hl (by omega)
      · rw [wordsAt_cut s i now l h (by omega)]
        exact wordsAt_sizes s (i + 1) _ _ (flush_sizes s now l hl (by omega)) (by simp) (by omega)
    · rw [wordsAt_on s i now l h h1]
      exact wordsAt_sizes s (i + 1) _ _ hl (by rw [ByteArray.size_append, ByteArray.size_extract]; omega) (by omega)
  · rw [wordsAt_end s i now l h]; exact flush_sizes s now l hl (by omega)
termination_by s.size - i
theorem words_sizes (s : ByteArray) : ∀ x ∈ words s, 1 ≤ x.size ∧ x.size ≤ s.size := wordsAt_sizes s 0 _ _ (by simp) (by simp) (by omega)

theorem opsOk_step (ks : List UInt8) (xs : List ByteArray) (i : Nat) (hk : i < ks.length) (hx : i < xs.length) : opsOk (ks.drop i) (xs.drop i) = (opOk ks[i] xs[i] && opsOk (ks.drop (i + 1)) (xs.drop (i + 1))) := by
  rw [List.drop_eq_getElem_cons hk, List.drop_eq_getElem_cons hx]; rfl

end Go.Proofs.YtbkefkaedohhcaaGreatDoor.Sp

namespace Go.Proofs.YtbkefkaedohhcaaGreatDoor.Sp

def Wf (q : Said) : Prop := (q.kind = 0 ∧ q.kept.length = 0) ∨ (q.kind = 102 ∧ q.kept.length = 2) ∨ (q.kind = 108 ∧ q.kept.length = 1) ∨ (q.kind = 105 ∧ 1 ≤ q.kept.length ∧ q.kept.length ≤ 4)
def eqW (a b : ByteArray) : Bool := a.toList == b.toList
def Said.word (q : Said) (i : Nat) : ByteArray := q.kept[i]?.getD ByteArray.empty
def isFn (q : Said) (x : ByteArray) : Bool := decide (q.kind = 102) && eqW (q.word 1) x
def isLab (q : Said) (x : ByteArray) : Bool := decide (q.kind = 108) && eqW (q.word 0) x
/-- The line at which the function of a name begins, from a line on; -1: there is none. -/
def fnFrom (L : List Said) (x : ByteArray) (i : Nat) : Int :=
  if h : i < L.length then (if isFn L[i] x = true then (i : Int) else fnFrom L x (i + 1)) else -1
termination_by L.length - i
def owner (L : List Said) : Nat → Int
  | 0 => if (L[0]?.map Said.kind) = some 102 then 0 else -1
  | k + 1 => if (L[k + 1]?.map Said.kind) = some 102 then ((k + 1 : Nat) : Int) else owner L k
def labFrom (L : List Said) (x : ByteArray) (i : Nat) : Int :=
  if h : i < L.length then (if L[i].kind = 102 then -1 else if isLab L[i] x = true then (i : Int) else labFrom L x (i + 1)) else -1
termination_by L.length - i
def labOf (L : List Said) (k : Nat) (x : ByteArray) : Int := labFrom L x (owner L k + 1).toNat
theorem fnFrom_end (L : List Said) (x : ByteArray) (i : Nat) (h : ¬ i < L.length) : fnFrom L x i = -1 := by rw [fnFrom, dif_neg h]
theorem fnFrom_hit (L : List Said) (x : ByteArray) (i : Nat) (h : i < L.length) (h' : isFn L[i] x = true) : fnFrom L x i = i := by rw [fnFrom, dif_pos h, if_pos h']
theorem fnFrom_on (L : List Said) (x : ByteArray) (i : Nat) (h : i < L.length) (h' : isFn L[i] x = false) : fnFrom L x i = fnFrom L x (i + 1) := by rw [fnFrom, dif_pos h, if_neg (by simp [h'])]
theorem labFrom_end (L : List Said) (x : ByteArray) (i : Nat) (h : ¬ i < L.length) : labFrom L x i = -1 := by rw [labFrom, dif_neg h]
theorem labFrom_f (L : List Said) (x : ByteArray) (i : Nat) (h : i < L.length) (h' : L[i].kind = 102) : labFrom L x i = -1 := by rw [labFrom, dif_pos h, if_pos h']
theorem labFrom_hit (L : List Said) (x : ByteArray) (i : Nat) (h : i < L.length) (h0 : ¬ L[i].kind = 102) (h' : isLab L[i] x = true) : labFrom L x i = i := by rw [labFrom, dif_pos h, if_neg h0, if_pos h']
theorem labFrom_on (L : List Said) (x : ByteArray) (i : Nat) (h : i < L.length) (h0 : ¬ L[i].kind = 102) (h' : isLab L[i] x = false) : labFrom L x i = labFrom L x (i + 1) := by rw [labFrom, dif_pos h, if_neg h0, if_neg (by simp [h'])]
theorem owner_is (L : List Said) (k : Nat) (h : k < L.length) (h' : L[k].kind = 102) : owner L k = k := by
  cases k with
  | zero => unfold owner; rw [List.getElem?_eq_getElem h]; simp [h']
  | succ k => unfold owner; rw [List.getElem?_eq_getElem h]; simp [h']
theorem owner_zero (L : List Said) (h : 0 < L.length) (h' : ¬ L[0].kind = 102) : owner L 0 = -1 := by
  unfold owner; rw [List.getElem?_eq_getElem h]; simp [h']
theorem owner_succ (L : List Said) (k : Nat) (h : k + 1 < L.length) (h' : ¬ L[k + 1].kind = 102) : owner L (k + 1) = owner L k := by
  conv => lhs; unfold owner
  rw [List.getElem?_eq_getElem h]; simp [h']
theorem owner_bd (L : List Said) (k : Nat) : -1 ≤ owner L k ∧ owner L k ≤ k := by
  induction k with
  | zero => unfold owner; split <;> simp
  | succ k ih => unfold owner; split <;> omega

end Go.Proofs.YtbkefkaedohhcaaGreatDoor.Sp

namespace Go.Proofs.YtbkefkaedohhcaaGreatDoor.Sp

def twiceB (L : List Said) (k : Nat) : Bool :=
  match L[k]? with
  | none => false
  | some q => if q.kind = 102 then decide (fnFrom L (q.word 1) 0 < k) else if q.kind = 108 then decide (labOf L k (q.word 0) < k) else false
def Said.last (q : Said) : ByteArray := q.word (q.kept.length - 1)
def asksLab (x : ByteArray) : Bool := isW x [106, 117, 109, 112] || isW x [108, 101, 115, 115] || isW x [115, 97, 109, 101]
def asksFn (x : ByteArray) : Bool := isW x [99, 97, 108, 108]
def missingB (L : List Said) (k : Nat) : Bool :=
  match L[k]? with
  | none => false
  | some q => if q.kind = 105 then (if asksLab (q.word 0) = true then decide (labOf L k q.last < 0) else if asksFn (q.word 0) = true then decide (fnFrom L q.last 0 < 0) else false) else false
def ends (x : ByteArray) : Bool := isW x [106, 117, 109, 112] || isW x [98, 97, 99, 107] || isW x [115, 116, 111, 112]
/-- Does the last thing that is said from a line on, up to the next function, end it? -/
def endAt (L : List Said) (i : Nat) (e : Bool) : Bool :=
  if h : i < L.length then
    if L[i].kind = 102 then e
    else endAt L (i + 1) (if L[i].kind = 108 then false else if L[i].kind = 105 then ends (L[i].word 0) else e)
  else e
termination_by L.length - i
def endlessB (L : List Said) (k : Nat) : Bool :=
  match L[k]? with
  | none => false
  | some q => if q.kind = 102 then !endAt L (k + 1) false else false
theorem endAt_end (L : List Said) (i : Nat) (e : Bool) (h : ¬ i < L.length) : endAt L i e = e := by rw [endAt, dif_neg h]
theorem endAt_f (L : List Said) (i : Nat) (e : Bool) (h : i < L.length) (h' : L[i].kind = 102) : endAt L i e = e := by rw [endAt, dif_pos h, if_pos h']
theorem endAt_on (L : List Said) (i : Nat) (e : Bool) (h : i < L.length) (h' : ¬ L[i].kind = 102) : endAt L i e = endAt L (i + 1) (if L[i].kind = 108 then false else if L[i].kind = 105 then ends (L[i].word 0) else e) := by
  conv => lhs; rw [endAt, dif_pos h, if_neg h']

end Go.Proofs.YtbkefkaedohhcaaGreatDoor.Sp

namespace Go.Proofs.YtbkefkaedohhcaaGreatDoor.Sp

def badB (L : List Said) (q k : Nat) : Bool := if q = 0 then twiceB L k else if q = 1 then missingB L k else endlessB L k
/-- One look over all lines, from a line on; `c`: what comes behind it. -/
def pass (L : List Said) (q j : Nat) (c : Int × Int) : Int × Int :=
  if j < L.length then (if badB L q j = true then (3 + (q : Int), (j : Int) + 1) else pass L q (j + 1) c) else c
termination_by L.length - j
theorem pass_end (L : List Said) (q j : Nat) (c : Int × Int) (h : ¬ j < L.length) : pass L q j c = c := by rw [pass, if_neg h]
theorem pass_bad (L : List Said) (q j : Nat) (c : Int × Int) (h : j < L.length) (h' : badB L q j = true) : pass L q j c = (3 + (q : Int), (j : Int) + 1) := by rw [pass, if_pos h, if_pos h']
theorem pass_on (L : List Said) (q j : Nat) (c : Int × Int) (h : j < L.length) (h' : badB L q j = false) : pass L q j c = pass L q (j + 1) c := by rw [pass, if_pos h, if_neg (by simp [h'])]
def tail (L : List Said) (q : Nat) : Int × Int := if q = 0 then pass L 0 0 (pass L 1 0 (pass L 2 0 (0, 0))) else if q = 1 then pass L 1 0 (pass L 2 0 (0, 0)) else if q = 2 then pass L 2 0 (0, 0) else (0, 0)
theorem tail_step (L : List Said) (q : Nat) (h : q < 3) : tail L q = pass L q 0 (tail L (q + 1)) := by
  match q, h with
  | 0, _ => rfl
  | 1, _ => rfl
  | 2, _ => rfl
/-- The first line that says something, from a line on. -/
def startAt (L : List Said) (i : Nat) : Int × Int :=
  if h : i < L.length then (if L[i].kind = 0 then startAt L (i + 1) else if L[i].kind = 102 then tail L 0 else (2, (i : Int) + 1)) else (2, 0)
termination_by L.length - i
theorem startAt_end (L : List Said) (i : Nat) (h : ¬ i < L.length) : startAt L i = (2, 0) := by rw [startAt, dif_neg h]
theorem startAt_on (L : List Said) (i : Nat) (h : i < L.length) (h' : L[i].kind = 0) : startAt L i = startAt L (i + 1) := by rw [startAt, dif_pos h, if_pos h']
theorem startAt_f (L : List Said) (i : Nat) (h : i < L.length) (h' : ¬ L[i].kind = 0) (h2 : L[i].kind = 102) : startAt L i = tail L 0 := by rw [startAt, dif_pos h, if_neg h', if_pos h2]
theorem startAt_n (L : List Said) (i : Nat) (h : i < L.length) (h' : ¬ L[i].kind = 0) (h2 : ¬ L[i].kind = 102) : startAt L i = (2, (i : Int) + 1) := by rw [startAt, dif_pos h, if_neg h', if_neg h2]
/-- The first line that may not be said, from a line on. -/
def sayAt (A : List ByteArray) (i : Nat) : Int × Int :=
  if h : i < A.length then (if (say A[i]).ok = true then sayAt A (i + 1) else (1, (i : Int) + 1)) else startAt (A.map say) 0
termination_by A.length - i
theorem sayAt_end (A : List ByteArray) (i : Nat) (h : ¬ i < A.length) : sayAt A i = startAt (A.map say) 0 := by rw [sayAt, dif_neg h]
theorem sayAt_on (A : List ByteArray) (i : Nat) (h : i < A.length) (h' : (say A[i]).ok = true) : sayAt A i = sayAt A (i + 1) := by rw [sayAt, dif_pos h, if_pos h']
theorem sayAt_bad (A : List ByteArray) (i : Nat) (h : i < A.length) (h' : (say A[i]).ok = false) : sayAt A i = (1, (i : Int) + 1) := by rw [sayAt, dif_pos h, if_neg (by simp [h'])]
def readS (s : ByteArray) : Int × Int := if 4000 < s.size ∨ 300 < (lines s).length then (6, 0) else sayAt (lines s) 0

theorem linesAt_len (s : ByteArray) (f i : Nat) : 1 ≤ (linesAt s f i).length ∧ (linesAt s f i).length ≤ s.size - i + 1 := by
  by_cases h : i < s.size
  · by_cases h' : bt s i = 10
    · rw [linesAt_cut s f i h h']
      have := linesAt_len s (i + 1) (i + 1)
      simp; omega
    · rw [linesAt_on s f i h h']
      have := linesAt_len s f (i + 1)
      omega
  · rw [linesAt_end s f i h]; simp
termination_by s.size - i
theorem lines_len (s : ByteArray) : 1 ≤ (lines s).length ∧ (lines s).length ≤ s.size + 1 := linesAt_len s 0 0
theorem linesAt_sizes (s : ByteArray) (f i : Nat) : ∀ x ∈ linesAt s f i, x.size ≤ s.size := by
  by_cases h : i < s.size
  · by_cases h' : bt s i = 10
    · rw [linesAt_cut s f i h h']
      intro x hx
      rw [List.mem_cons] at hx
      rcases hx with rfl | hx
      · rw [ByteArray.size_extract]; omega
      · exact linesAt_sizes s (i + 1) (i + 1) x hx
    · rw [linesAt_on s f i h h']
      exact linesAt_sizes s f (i + 1)
  · rw [linesAt_end s f i h]
    intro x hx
    simp at hx; subst hx
    rw [ByteArray.size_extract]; omega
termination_by s.size - i
theorem lines_sizes (s : ByteArray) : ∀ x ∈ lines s, x.size ≤ s.size := linesAt_sizes s 0 0

theorem say_wf (s : ByteArray) (h : (say s).ok = true) : Wf (say s) := by
  unfold say at h ⊢
  split at h
  · rename_i hv
    rw [if_pos hv]
    generalize words s = l at h ⊢
    unfold sayW at h ⊢
    split at h
    · exact .inl ⟨rfl, rfl⟩
    · rename_i x r
      by_cases hf : isFunc x = true
      · rw [if_pos hf] at h ⊢
        simp only [Bool.and_eq_true, decide_eq_true_eq] at h
        exact .inr (.inl ⟨rfl, h.1⟩)
      · rw [if_neg hf] at h ⊢
        by_cases hl : (x :: r).length = 1 ∧ lastB x = 58
        · rw [if_pos hl] at h ⊢
          exact .inr (.inr (.inl ⟨rfl, rfl⟩))
        · rw [if_neg hl] at h ⊢
          simp only at h
          split at h
          · cases h
          · rename_i hs
            refine .inr (.inr (.inr ⟨rfl, by simp, ?_⟩))
            have h3 : (shapeOf x).length ≤ 3 := by
              unfold shapeOf
              repeat' split
              all_goals decide
            have h4 : (x :: r).length = (shapeOf x).length + 1 := by
              rcases Classical.em ((x :: r).length = (shapeOf x).length + 1) with h | h
              · exact h
              · exact absurd (.inr h) hs
            show (x :: r).length ≤ 4
            omega
  · cases h

end Go.Proofs.YtbkefkaedohhcaaGreatDoor.Sp
