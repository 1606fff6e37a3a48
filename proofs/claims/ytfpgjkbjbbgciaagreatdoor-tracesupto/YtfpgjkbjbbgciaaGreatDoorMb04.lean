import Derived.Test.YtfpgjkbjbbgciaaGreatDoorMb01
import Derived.Lib.ParseIntB
import Derived.Test.YtfpgjkbjbbgciaaGreatDoorMb02
import Derived.Test.YtfpgjkbjbbgciaaGreatDoorMb03
import Derived.Lib.RuneCountTail
import Derived.WalkSmall
namespace Go.Proofs.YtfpgjkbjbbgciaaGreatDoor.Sp

def numL : List UInt8 → Int → Option Int
  | [], n => some n
  | c :: r, n => if numBad n ((c.toNat : Int) - 48) = true then none else numL r (10 * n - ((c.toNat : Int) - 48))
theorem bt_drop (s : ByteArray) (i : Nat) (h : i < s.size) : ∃ c r, s.data.toList.drop i = c :: r ∧ (c.toNat : Int) = bt s i ∧ r = s.data.toList.drop (i + 1) := by
  have h' : i < s.data.toList.length := by simpa using h
  refine ⟨s.data.toList[i], s.data.toList.drop (i + 1), List.drop_eq_getElem_cons h', ?_, rfl⟩
  unfold bt
  have h2 : i < s.data.size := h
  rw [Array.getElem?_eq_getElem h2]
  simp
theorem numAt_L (s : ByteArray) (i : Nat) (n : Int) : numAt s i n = numL (s.data.toList.drop i) n := by
  by_cases h : i < s.size
  · obtain ⟨c, r, h1, h2, h3⟩ := bt_drop s i h
    rw [h1]
    cases hb : numBad n (bt s i - 48) with
    | true => rw [numAt_bad s i n h hb]; simp [numL, h2, hb]
    | false =>
      rw [numAt_next s i n h (by simp [hb]), numAt_L s (i + 1), ← h3]
      simp [numL, h2, hb]
  · rw [numAt_end s i n h, List.drop_of_length_le (by simpa using h)]; rfl
termination_by s.size - i

def digitsB : List UInt8 → Bool
  | [] => true
  | c :: r => decide (48 ≤ c.toNat ∧ c.toNat ≤ 57) && digitsB r
theorem numBad_iff (a : Nat) (d : Int) (h0 : 0 ≤ d) (h9 : d ≤ 9) : numBad (-(a : Int)) d = decide (9223372036854775808 < 10 * (a : Int) + d) := by
  unfold numBad
  rw [tdiv_low d h9]
  by_cases h : 9223372036854775808 < 10 * (a : Int) + d
  · have : -(a : Int) < -((9223372036854775808 - d) / 10) := by omega
    simp [h, this]
  · have : ¬ -(a : Int) < -((9223372036854775808 - d) / 10) := by omega
    have h1 : ¬ d < 0 := by omega
    have h2 : ¬ 9 < d := by omega
    simp [h, this, h1, h2]
theorem parseM_mono (M : Nat) (l : List UInt8) (a u : Nat) (h : Lib.parseUintM M a l = .ok u) : a ≤ u := by
  induction l generalizing a with
  | nil => simp [Lib.parseUintM] at h; omega
  | cons c r ih =>
    unfold Lib.parseUintM at h
    split at h
    · split at h
      · cases h
      · split at h
        · cases h
        · have := ih _ h; omega
    · cases h
def magEnd : Lib.NumEnd Nat → Option Int
  | .ok u => if u ≤ 9223372036854775808 then some (-(u : Int)) else none
  | _ => none
theorem numL_mag (l : List UInt8) (a : Nat) (hd : digitsB l = true) (ha : a ≤ 9223372036854775808) : numL l (-(a : Int)) = magEnd (Lib.parseUintM (2 ^ 64 - 1) a l) := by
  induction l generalizing a with
  | nil => simp [numL, Lib.parseUintM, magEnd, ha]
  | cons c r ih =>
    simp only [digitsB, Bool.and_eq_true, decide_eq_true_eq] at hd
    obtain ⟨hc, hr⟩ := hd
    unfold numL Lib.parseUintM
    rw [if_pos hc, numBad_iff a _ (by omega) (by omega)]
    by_cases hb : 9223372036854775808 < 10 * (a : Int) + ((c.toNat : Int) - 48)
    · rw [if_pos (by simpa using hb)]
      split
      · rfl
      · split
        · rfl
        · cases he : Lib.parseUintM (2 ^ 64 - 1) (a * 10 + (c.toNat - 48)) r with
          | ok u =>
            have := parseM_mono _ _ _ _ he
            simp [magEnd]; omega
          | «syntax» => rfl
          | range => rfl
    · rw [if_neg (by simpa using hb), if_neg (by omega), if_neg (by omega)]
      have e : 10 * -(a : Int) - ((c.toNat : Int) - 48) = -((a * 10 + (c.toNat - 48) : Nat) : Int) := by omega
      rw [e]
      exact ih _ hr (by omega)
theorem numL_not (l : List UInt8) (n : Int) (hd : digitsB l = false) : numL l n = none := by
  induction l generalizing n with
  | nil => simp [digitsB] at hd
  | cons c r ih =>
    unfold numL
    cases hb : numBad n ((c.toNat : Int) - 48) with
    | true => rfl
    | false =>
      have hr : digitsB r = false := by
        simp only [digitsB] at hd
        have hc : 48 ≤ c.toNat ∧ c.toNat ≤ 57 := by
          simp [numBad] at hb
          omega
        simpa [hc] using hd
      simp only [Bool.false_eq_true, if_false]
      exact ih _ hr
/-- The word without its sign. -/
def bare (l : List UInt8) : List UInt8 := match l with | 45 :: r => r | l => l

theorem minus_head (s : ByteArray) : minusB s = (match s.data.toList with | 45 :: _ => true | _ => false) := by
  by_cases h : 0 < s.size
  · obtain ⟨c, r, h1, h2, _⟩ := bt_drop s 0 h
    rw [List.drop_zero] at h1
    rw [h1]
    unfold minusB
    rw [← h2]
    by_cases hc : c = 45
    · subst hc; simp [h]
    · have : ¬ (c.toNat : Int) = 45 := by
        intro e; apply hc; exact UInt8.toNat_inj.1 (by simp; omega)
      simp [h, this]
      split
      · rename_i heq; simp at heq; exact absurd heq.1 hc
      · rfl
  · have h0 : s.data.toList = [] := List.eq_nil_of_length_eq_zero (by simpa using h)
    rw [h0]
    simp [minusB, h]

theorem num_none (s : ByteArray) (h : digitsB (bare s.data.toList) = false) : (numOf s).2 = false := by
  have hm := minus_head s
  unfold numOf
  split at hm
  · rename_i r heq
    rw [hm, if_pos rfl]
    rw [heq] at h
    split
    · rfl
    · rw [numAt_L, heq]
      simp only [List.drop_succ_cons, List.drop_zero]
      rw [numL_not r 0 (by simpa [bare] using h)]; rfl
  · rename_i hne
    rw [hm, if_neg (by simp)]
    have hb : bare s.data.toList = s.data.toList := by
      unfold bare; split
      · rename_i r heq; exact absurd heq (hne r)
      · rfl
    rw [hb] at h
    split
    · rfl
    · rw [numAt_L, List.drop_zero, numL_not _ 0 h]; rfl

theorem num_some (s : ByteArray) (h : digitsB (bare s.data.toList) = true) : (∀ v, Lib.parseIntB 64 s.data.toList = .ok v → numOf s = (v, true)) ∧ (Lib.parseIntB 64 s.data.toList = .«syntax» → (numOf s).2 = false) ∧ (Lib.parseIntB 64 s.data.toList = .range → (numOf s).2 = false) := by
  have hm := minus_head s
  have hsz : s.data.toList.length = s.size := by simp
  split at hm
  · rename_i r heq
    have hr : digitsB r = true := by rw [heq] at h; simpa [bare] using h
    rw [heq] at hsz ⊢
    have e : numOf s = if s.size = 1 then (0, false) else numEnd true (numAt s 1 0) := by unfold numOf; rw [hm, if_pos rfl]
    rw [e, numAt_L, heq]
    simp only [List.drop_succ_cons, List.drop_zero]
    have hmag := numL_mag r 0 hr (by omega)
    simp only [Int.ofNat_zero, Int.neg_zero] at hmag
    rw [hmag]
    simp only [List.length_cons] at hsz
    have hp : Lib.parseIntB 64 (45 :: r) = (match Lib.parseUintB 64 r with | .«syntax» => .«syntax» | .range => .range | .ok u => if 9223372036854775808 < u then .range else .ok (-(u : Int))) := by
      unfold Lib.parseIntB
      simp
      cases Lib.parseUintB 64 r <;> rfl
    rw [hp]
    unfold Lib.parseUintB
    by_cases h0 : r = []
    · subst h0
      have : s.size = 1 := by simp at hsz; omega
      simp [this]
    · have h1 : ¬ s.size = 1 := by cases r with | nil => exact absurd rfl h0 | cons a b => simp at hsz; omega
      rw [if_neg h0, if_neg h1]
      cases he : Lib.parseUintM (2 ^ 64 - 1) 0 r with
      | «syntax» => simp [magEnd, numEnd]
      | range => simp [magEnd, numEnd]
      | ok u =>
        by_cases hu : u ≤ 9223372036854775808
        · have hu' : ¬ 9223372036854775808 < u := by omega
          simp [magEnd, hu, hu', numEnd]
        · have hu' : 9223372036854775808 < u := by omega
          simp [magEnd, hu, hu', numEnd]
  · rename_i hne
    have hb : bare s.data.toList = s.data.toList := by
      unfold bare; split
      · rename_i r heq; exact absurd heq (hne r)
      · rfl
    rw [hb] at h
    have e : numOf s = if s.size = 0 then (0, false) else numEnd false (numAt s 0 0) := by unfold numOf; rw [hm, if_neg (by simp)]
    rw [e, numAt_L, List.drop_zero]
    have hmag := numL_mag s.data.toList 0 h (by omega)
    simp only [Int.ofNat_zero, Int.neg_zero] at hmag
    rw [hmag]
    generalize s.data.toList = l at *
    cases l with
    | nil =>
      have : s.size = 0 := by simpa using hsz.symm
      simp [this, Lib.parseIntB]
    | cons c r =>
      have h1 : ¬ s.size = 0 := by simp at hsz; omega
      rw [if_neg h1]
      simp only [digitsB, Bool.and_eq_true, decide_eq_true_eq] at h
      have c1 : ¬ c.toNat = 43 := by omega
      have c2 : ¬ c.toNat = 45 := by omega
      have hp : Lib.parseIntB 64 (c :: r) = (match Lib.parseUintB 64 (c :: r) with | .«syntax» => .«syntax» | .range => .range | .ok u => if 9223372036854775808 ≤ u then .range else .ok (u : Int)) := by
        unfold Lib.parseIntB
        simp [c1, c2]
        cases Lib.parseUintB 64 (c :: r) <;> rfl
      rw [hp]
      unfold Lib.parseUintB
      rw [if_neg (by simp)]
      cases he : Lib.parseUintM (2 ^ 64 - 1) 0 (c :: r) with
      | «syntax» => simp [magEnd, numEnd]
      | range => simp [magEnd, numEnd]
      | ok u =>
        by_cases hu : 9223372036854775808 ≤ u
        · by_cases hu2 : u ≤ 9223372036854775808
          · have hu3 : u = 9223372036854775808 := by omega
            subst hu3
            simp [magEnd, numEnd, least]
          · simp [magEnd, numEnd, hu, hu2]
        · have hu2 : u ≤ 9223372036854775808 := by omega
          have hu3 : ¬ (-(u : Int)) = least := by unfold least; omega
          have hu4 : least < -(u : Int) := by unfold least; omega
          simp [magEnd, numEnd, hu, hu2, hu3, hu4]

end Go.Proofs.YtfpgjkbjbbgciaaGreatDoor.Sp

namespace Go.Proofs.YtfpgjkbjbbgciaaGreatDoor
open Go.RowKit Sp

/-- What a refusal's panic looks like. -/
abbrev refusal (e l : Int) : Ending := .panicked [{ v := .iface 115 (.agg #[.int .i64 e, .int .i64 l]), recovered := false }]

set_option maxRecDepth 100000 in
theorem raise_any (e l : Int) (w : World) : Calls Tryz.prog 79 #[.int .i64 e, .int .i64 l] w fun en w' => en = refusal e l ∧ w' = w := by
  go_enter Tryz.func79, Tryz.ntmps79
  go_wp2
  exact ⟨rfl, rfl, rfl⟩

theorem ret_ib2 {k : IntKind} {a c : Int} {b d : Bool} (h : a = c) (h' : b = d) : Ending.returned (.tuple #[.int k a, .bool b]) = .returned (.tuple #[.int k c, .bool d]) := by rw [h, h']
def regOk (s : ByteArray) : Bool := decide (0 ≤ reg s)
def regVal (s : ByteArray) : Int := if 0 ≤ reg s then reg s else 0
set_option maxRecDepth 100000 in
set_option maxHeartbeats 1000000 in
theorem creg_any (s : ByteArray) (w : World) (_hs : s.size ≤ maxLen) :
    Calls Tryz.prog 165 #[.string s] w fun e w' => e = .returned (.tuple #[.int .i64 (regVal s), .bool (regOk s)]) ∧ w' = w := by
  unfold maxLen at _hs
  have no : ¬ (s.size = 2 ∧ bt s 0 = 114 ∧ 48 ≤ bt s 1 ∧ bt s 1 ≤ 55) → (0 : Int) = regVal s ∧ false = regOk s := by
    intro h
    have e := reg_no s h
    unfold regVal regOk
    rw [← e]; simp
  have yes : (h : s.size = 2) → (h0 : bt s 0 = 114) → (h1 : 48 ≤ bt s 1) → (h2 : bt s 1 ≤ 55) → bt s 1 - 48 = regVal s ∧ true = regOk s := by
    intro h h0 h1 h2
    have e := reg_yes s h h0 h1 h2
    unfold regVal regOk
    rw [← e, if_pos (by omega)]
    simp; omega
  have NO := Hid.out (p := ¬ (s.size = 2 ∧ bt s 0 = 114 ∧ 48 ≤ bt s 1 ∧ bt s 1 ≤ 55) → (0 : Int) = regVal s ∧ false = regOk s) no
  have HNO : Hid (¬ (s.size = 2 ∧ bt s 0 = 114 ∧ 48 ≤ bt s 1 ∧ bt s 1 ≤ 55) → (0 : Int) = regVal s ∧ false = regOk s) := no
  have HYES : Hid ((h : s.size = 2) → (h0 : bt s 0 = 114) → (h1 : 48 ≤ bt s 1) → (h2 : bt s 1 ≤ 55) → bt s 1 - 48 = regVal s ∧ true = regOk s) := yes
  clear no yes NO
  by_cases h : s.size = 2
  · have H0 : Hid (((s[0]'(by omega)).toNat : Int) = bt s 0) := bt_eq s 0 (by omega)
    have H1 : Hid (((s[1]'(by omega)).toNat : Int) = bt s 1) := bt_eq s 1 (by omega)
    have b0 : 0 ≤ ((s[1]'(by omega)).toNat : Int) := by omega
    have b1 : ((s[1]'(by omega)).toNat : Int) ≤ 255 := by have := (s[1]'(by omega)).toNat_lt; omega
    go_enter Tryz.func165, Tryz.ntmps165
    go_wp2
    go_ways
    all_goals go_ret2
    all_goals have e0 := H0.out
    all_goals have e1 := H1.out
    all_goals first
      | (have q := HNO.out (by omega); exact ⟨ret_ib2 q.1 q.2, rfl⟩)
      | (have q := HYES.out h (by omega) (by omega) (by omega); exact ⟨ret_ib2 (by rw [← q.1, ← e1]) q.2, rfl⟩)
  · go_enter Tryz.func165, Tryz.ntmps165
    go_wp2
    go_ret2
    have q := HNO.out (by omega)
    exact ⟨ret_ib2 q.1 q.2, rfl⟩

/-- What of the library's own variables the reading looks at. -/
structure LibW (w : World) : Prop where
  tabs : Lib.Utf8Tabs 1 2 w
  most : ∃ m, w.cell? ⟨0, 0, none⟩ = some (.int .i64 m)
  syn : ∃ tp p, w.var? Tryz.prog "strconv.ErrSyntax" = some #[.iface tp p]
  rng : ∃ tp p, w.var? Tryz.prog "strconv.ErrRange" = some #[.iface tp p]
  low : 8 ≤ w.heap.size

set_option maxRecDepth 100000 in
theorem broken_any (s : ByteArray) (pos : Nat) (w : World) (hw : Lib.Utf8Tabs 1 2 w) (hp : pos < s.size) :
    Calls Tryz.prog 126 #[.string (s.extract pos s.size)] w fun e w' => e = .returned (.bool (((Utf8.decode s pos).2 : Int) == 1)) ∧ Below w.heap.size w w' := by
  have hd : Lib.decodeGo (s.extract pos s.size) = Utf8.decode s pos := by
    unfold Lib.decodeGo
    rw [if_neg (by rw [ByteArray.size_extract]; omega)]
    exact Lib.tail_decode s pos 0
  have hc := Tryz.utf8_DecodeRuneInString (s.extract pos s.size) w hw
  rw [hd] at hc
  have hle : (Utf8.decode s pos).2 ≤ 4 := by
    by_cases h0 : (chr s pos).1 = 0
    · rw [(dec_chr s pos).1 h0]; decide
    · rw [(dec_chr s pos).2 h0]
      have := chrN_pos s pos hp h0
      show (chr s pos).1.toNat ≤ 4
      omega
  generalize Utf8.decode s pos = d at hc hle
  go_enter Tryz.func126, Tryz.ntmps126
  go_wp2_with (go_at_call 146; refine hc.mono ?_; rintro e w' ⟨rfl, hb⟩)
  go_ret
  exact ⟨rfl, hb⟩

end Go.Proofs.YtfpgjkbjbbgciaaGreatDoor

namespace Go.Proofs.YtfpgjkbjbbgciaaGreatDoor.Sp

/-- The lines from a place on, the first of which began at another. -/
def linesAt (s : ByteArray) (from0 i : Nat) : List ByteArray :=
  if i < s.size then
    if bt s i = 10 then s.extract from0 i :: linesAt s (i + 1) (i + 1) else linesAt s from0 (i + 1)
  else [s.extract from0 s.size]
termination_by s.size - i
theorem linesAt_end (s : ByteArray) (from0 i : Nat) (h : ¬ i < s.size) : linesAt s from0 i = [s.extract from0 s.size] := by
  rw [linesAt, if_neg h]
theorem linesAt_cut (s : ByteArray) (from0 i : Nat) (h : i < s.size) (h' : bt s i = 10) : linesAt s from0 i = s.extract from0 i :: linesAt s (i + 1) (i + 1) := by
  rw [linesAt, if_pos h, if_pos h']
theorem linesAt_on (s : ByteArray) (from0 i : Nat) (h : i < s.size) (h' : ¬ bt s i = 10) : linesAt s from0 i = linesAt s from0 (i + 1) := by
  rw [linesAt, if_pos h, if_neg h']
def lines (s : ByteArray) : List ByteArray := linesAt s 0 0

/-- The words of a line from a place on; `now` is the word that stands there. -/
def blankB (c : Int) : Bool := decide (c = 32 ∨ c = 9 ∨ c = 59)
def flush (now : ByteArray) (l : List ByteArray) : List ByteArray := if now.size = 0 then l else l ++ [now]
def wordsAt (s : ByteArray) (i : Nat) (now : ByteArray) (l : List ByteArray) : List ByteArray :=
  if i < s.size then
    if blankB (bt s i) = false then wordsAt s (i + 1) (now ++ s.extract i (i + 1)) l
    else if bt s i = 59 then flush now l
    else wordsAt s (i + 1) ByteArray.empty (flush now l)
  else flush now l
termination_by s.size - i
def words (s : ByteArray) : List ByteArray := wordsAt s 0 ByteArray.empty []
theorem wordsAt_end (s : ByteArray) (i : Nat) (now : ByteArray) (l : List ByteArray) (h : ¬ i < s.size) : wordsAt s i now l = flush now l := by
  rw [wordsAt, if_neg h]
theorem wordsAt_on (s : ByteArray) (i : Nat) (now : ByteArray) (l : List ByteArray) (h : i < s.size) (h' : ¬ (bt s i = 32 ∨ bt s i = 9 ∨ bt s i = 59)) : wordsAt s i now l = wordsAt s (i + 1) (now ++ s.extract i (i + 1)) l := by
  rw [wordsAt, if_pos h, if_pos (by simpa [blankB] using h')]
theorem wordsAt_stop (s : ByteArray) (i : Nat) (now : ByteArray) (l : List ByteArray) (h : i < s.size) (h' : bt s i = 59) : wordsAt s i now l = flush now l := by
  rw [wordsAt, if_pos h, if_neg (by simp [blankB, h']), if_pos h']
theorem wordsAt_cut (s : ByteArray) (i : Nat) (now : ByteArray) (l : List ByteArray) (h : i < s.size) (h' : bt s i = 32 ∨ bt s i = 9) : wordsAt s i now l = wordsAt s (i + 1) ByteArray.empty (flush now l) := by
  rw [wordsAt, if_pos h, if_neg (by simp [blankB]; omega), if_neg (by omega)]

end Go.Proofs.YtfpgjkbjbbgciaaGreatDoor.Sp

namespace Go.Proofs.YtfpgjkbjbbgciaaGreatDoor.Sp

/-- Is a word this one? -/
def isW (s : ByteArray) (l : List UInt8) : Bool := s.toList == l
/-- The operands that an instruction's word asks for: 82 a register, 75 a number, 78 a name; 63 alone: there is no such instruction. -/
def shapeOf (s : ByteArray) : List UInt8 :=
  if isW s [115, 101, 116] || isW s [105, 110, 99] then [82, 75] else
  if isW s [109, 111, 118] || isW s [108, 111, 97, 100] || isW s [115, 116, 111, 114, 101] then [82, 82] else
  if isW s [97, 100, 100] || isW s [115, 117, 98] || isW s [109, 117, 108] then [82, 82, 82] else
  if isW s [114, 101, 97, 100] || isW s [119, 114, 105, 116, 101] then [82] else
  if isW s [106, 117, 109, 112] || isW s [99, 97, 108, 108] then [78] else
  if isW s [108, 101, 115, 115] || isW s [115, 97, 109, 101] then [82, 82, 78] else
  if isW s [98, 97, 99, 107] || isW s [115, 116, 111, 112] then [] else
  [63]

end Go.Proofs.YtfpgjkbjbbgciaaGreatDoor.Sp

namespace Go.Proofs.YtfpgjkbjbbgciaaGreatDoor.Sp

/-- Is a word an operand of that kind? -/
def opOk (k : UInt8) (x : ByteArray) : Bool := if k = 82 then decide (0 ≤ reg x) else if k = 75 then (numOf x).2 else isName x
/-- From an operand on. -/
def opsOk : List UInt8 → List ByteArray → Bool
  | [], _ => true
  | k :: ks, x :: xs => opOk k x && opsOk ks xs
  | _ :: _, [] => true
def lastB (s : ByteArray) : Int := bt s (s.size - 1)
def isFunc (x : ByteArray) : Bool := isW x [102, 117, 110, 99]
/-- What a line's words say: the kind, the words that are kept, whether it may be said. -/
structure Said where
  kind : Int
  kept : List ByteArray
  ok : Bool
def sayW (l : List ByteArray) : Said :=
  match l with
  | [] => ⟨0, [], true⟩
  | x :: r =>
    if isFunc x = true then ⟨102, l, decide (l.length = 2) && isName (l.getLast?.getD ByteArray.empty)⟩
    else if l.length = 1 ∧ lastB x = 58 then ⟨108, [x.extract 0 (x.size - 1)], isName (x.extract 0 (x.size - 1))⟩
    else ⟨105, l, if shapeOf x = [63] ∨ ¬ l.length = (shapeOf x).length + 1 then false else opsOk (shapeOf x) r⟩
def say (s : ByteArray) : Said := if validAt s 0 = true then sayW (words s) else ⟨0, [], false⟩

theorem flush_sizes (s now : ByteArray) (l : List ByteArray) (hl : ∀ x ∈ l, 1 ≤ x.size ∧ x.size ≤ s.size) (hn : now.size ≤ s.size) : ∀ x ∈ flush now l, 1 ≤ x.size ∧ x.size ≤ s.size := by
  intro x hx
  unfold flush at hx
  split at hx
  · exact hl x hx
  · rw [List.mem_append] at hx
    rcases hx with hx | hx
    · exact hl x hx
    · simp at hx; subst hx; omega
theorem wordsAt_sizes (s : ByteArray) (i : Nat) (now : ByteArray) (l : List ByteArray) (hl : ∀ x ∈ l, 1 ≤ x.size ∧ x.size ≤ s.size) (hn : now.size ≤ i) (hi : i ≤ s.size) : ∀ x ∈ wordsAt s i now l, 1 ≤ x.size ∧ x.size ≤ s.size := by
  by_cases h : i < s.size
  · by_cases h1 : bt s i = 32 ∨ bt s i = 9 ∨ bt s i = 59
    · by_cases h2 : bt s i = 59
      · rw [wordsAt_stop s i now l h h2]; exact flush_sizes s now l hl (by omega)
      · rw [wordsAt_cut s i now l h (by omega)]
        exact wordsAt_sizes s (i + 1) _ _ (flush_sizes s now l hl (by omega)) (by simp) (by omega)
    · rw [wordsAt_on s i now l h h1]
      exact wordsAt_sizes s (i + 1) _ _ hl (by rw [ByteArray.size_append, ByteArray.size_extract]; omega) (by omega)
  · rw [wordsAt_end s i now l h]; exact flush_sizes s now l hl (by omega)
termination_by s.size - i
theorem words_sizes (s : ByteArray) : ∀ x ∈ words s, 1 ≤ x.size ∧ x.size ≤ s.size := wordsAt_sizes s 0 _ _ (by simp) (by simp) (by omega)

theorem opsOk_step (ks : List UInt8) (xs : List ByteArray) (i : Nat) (hk : i < ks.length) (hx : i < xs.length) : opsOk (ks.drop i) (xs.drop i) = (opOk ks[i] xs[i] && opsOk (ks.drop (i + 1)) (xs.drop (i + 1))) := by
  rw [List.drop_eq_getElem_cons hk, List.drop_eq_getElem_cons hx]; rfl

end Go.Proofs.YtfpgjkbjbbgciaaGreatDoor.Sp

namespace Go.Proofs.YtfpgjkbjbbgciaaGreatDoor.Sp

def Wf (q : Said) : Prop := (q.kind = 0 ∧ q.kept.length = 0) ∨ (q.kind = 102 ∧ q.kept.length = 2) ∨ (q.kind = 108 ∧ q.kept.length = 1) ∨ (q.kind = 105 ∧ 1 ≤ q.kept.length ∧ q.kept.length ≤ 4)
def eqW (a b : ByteArray) : Bool := a.toList == b.toList
def Said.word (q : Said) (i : Nat) : ByteArray := q.kept[i]?.getD ByteArray.empty
def isFn (q : Said) (x : ByteArray) : Bool := decide (q.kind = 102) && eqW (q.word 1) x
def isLab (q : Said) (x : ByteArray) : Bool := decide (q.kind = 108) && eqW (q.word 0) x
/-- The line at which the function of a name begins, from a line on; -1: there is none. -/
def fnFrom (L : List Said) (x : ByteArray) (i : Nat) : Int :=
  if h : i < L.length then (if isFn L[i] x = true then (i : Int) else fnFrom L x (i + 1)) else -1
termination_by L.length - i
def owner (L : List Said) : Nat → Int
  | 0 => if (L[0]?.map Said.kind) = some 102 then 0 else -1
  | k + 1 => if (L[k + 1]?.map Said.kind) = some 102 then ((k + 1 : Nat) : Int) else owner L k
def labFrom (L : List Said) (x : ByteArray) (i : Nat) : Int :=
  if h : i < L.length then (if L[i].kind = 102 then -1 else if isLab L[i] x = true then (i : Int) else labFrom L x (i + 1)) else -1
termination_by L.length - i
def labOf (L : List Said) (k : Nat) (x : ByteArray) : Int := labFrom L x (owner L k + 1).toNat
theorem fnFrom_end (L : List Said) (x : ByteArray) (i : Nat) (h : ¬ i < L.length) : fnFrom L x i = -1 := by rw [fnFrom, dif_neg h]
theorem fnFrom_hit (L : List Said) (x : ByteArray) (i : Nat) (h : i < L.length) (h' : isFn L[i] x = true) : fnFrom L x i = i := by rw [fnFrom, dif_pos h, if_pos h']
theorem fnFrom_on (L : List Said) (x : ByteArray) (i : Nat) (h : i < L.length) (h' : isFn L[i] x = false) : fnFrom L x i = fnFrom L x (i + 1) := by rw [fnFrom, dif_pos h, if_neg (by simp [h'])]
theorem labFrom_end (L : List Said) (x : ByteArray) (i : Nat) (h : ¬ i < L.length) : labFrom L x i = -1 := by rw [labFrom, dif_neg h]
theorem labFrom_f (L : List Said) (x : ByteArray) (i : Nat) (h : i < L.length) (h' : L[i].kind = 102) : labFrom L x i = -1 := by rw [labFrom, dif_pos h, if_pos h']
theorem labFrom_hit (L : List Said) (x : ByteArray) (i : Nat) (h : i < L.length) (h0 : ¬ L[i].kind = 102) (h' : isLab L[i] x = true) : labFrom L x i = i := by rw [labFrom, dif_pos h, if_neg h0, if_pos h']
theorem labFrom_on (L : List Said) (x : ByteArray) (i : Nat) (h : i < L.length) (h0 : ¬ L[i].kind = 102) (h' : isLab L[i] x = false) : labFrom L x i = labFrom L x (i + 1) := by rw [labFrom, dif_pos h, if_neg h0, if_neg (by simp [h'])]
theorem owner_is (L : List Said) (k : Nat) (h : k < L.length) (h' : L[k].kind = 102) : owner L k = k := by
  cases k with
  | zero => unfold owner; rw [List.getElem?_eq_getElem h]; simp [h']
  | succ k => unfold owner; rw [List.getElem?_eq_getElem h]; simp [h']
theorem owner_zero (L : List Said) (h : 0 < L.length) (h' : ¬ L[0].kind = 102) : owner L 0 = -1 := by
  unfold owner; rw [List.getElem?_eq_getElem h]; simp [h']
theorem owner_succ (L : List Said) (k : Nat) (h : k + 1 < L.length) (h' : ¬ L[k + 1].kind = 102) : owner L (k + 1) = owner L k := by
  conv => lhs; unfold owner
  rw [List.getElem?_eq_getElem h]; simp [h']
theorem owner_bd (L : List Said) (k : Nat) : -1 ≤ owner L k ∧ owner L k ≤ k := by
  induction k with
  | zero => unfold owner; split <;> simp
  | succ k ih => unfold owner; split <;> omega

end Go.Proofs.YtfpgjkbjbbgciaaGreatDoor.Sp

namespace Go.Proofs.YtfpgjkbjbbgciaaGreatDoor.Sp

def twiceB (L : List Said) (k : Nat) : Bool :=
  match L[k]? with
  | none => false
  | some q => if q.kind = 102 then decide (fnFrom L (q.word 1) 0 < k) else if q.kind = 108 then decide (labOf L k (q.word 0) < k) else false
def Said.last (q : Said) : ByteArray := q.word (q.kept.length - 1)
def asksLab (x : ByteArray) : Bool := isW x [106, 117, 109, 112] || isW x [108, 101, 115, 115] || isW x [115, 97, 109, 101]
def asksFn (x : ByteArray) : Bool := isW x [99, 97, 108, 108]
def missingB (L : List Said) (k : Nat) : Bool :=
  match L[k]? with
  | none => false
  | some q => if q.kind = 105 then (if asksLab (q.word 0) = true then decide (labOf L k q.last < 0) else if asksFn (q.word 0) = true then decide (fnFrom L q.last 0 < 0) else false) else false
def ends (x : ByteArray) : Bool := isW x [106, 117, 109, 112] || isW x [98, 97, 99, 107] || isW x [115, 116, 111, 112]
/-- Does the last thing that is said from a line on, up to the next function, end it? -/
def endAt (L : List Said) (i : Nat) (e : Bool) : Bool :=
  if h : i < L.length then
    if L[i].kind = 102 then e
    else endAt L (i + 1) (if L[i].kind = 108 then false else if L[i].kind = 105 then ends (L[i].word 0) else e)
  else e
termination_by L.length - i
def endlessB (L : List Said) (k : Nat) : Bool :=
  match L[k]? with
  | none => false
  | some q => if q.kind = 102 then !endAt L (k + 1) false else false
theorem endAt_end (L : List Said) (i : Nat) (e : Bool) (h : ¬ i < L.length) : endAt L i e = e := by rw [endAt, dif_neg h]
theorem endAt_f (L : List Said) (i : Nat) (e : Bool) (h : i < L.length) (h' : L[i].kind = 102) : endAt L i e = e := by rw [endAt, dif_pos h, if_pos h']
theorem endAt_on (L : List Said) (i : Nat) (e : Bool) (h : i < L.length) (h' : ¬ L[i].kind = 102) : endAt L i e = endAt L (i + 1) (if L[i].kind = 108 then false else if L[i].kind = 105 then ends (L[i].word 0) else e) := by
  conv => lhs; rw [endAt, dif_pos h, if_neg h']

end Go.Proofs.YtfpgjkbjbbgciaaGreatDoor.Sp
