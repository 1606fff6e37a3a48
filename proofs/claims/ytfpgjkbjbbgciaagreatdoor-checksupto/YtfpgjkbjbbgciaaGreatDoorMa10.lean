import Derived.Test.YtfpgjkbjbbgciaaGreatDoorMa05
import Derived.Test.YtfpgjkbjbbgciaaGreatDoorMa07
import Derived.Test.YtfpgjkbjbbgciaaGreatDoorMa08
import Derived.Test.YtfpgjkbjbbgciaaGreatDoorMa09
import Derived.Lib.RuneCountTail
import Derived.WalkSmall
import Derived.Test.YtfpgjkbjbbgciaaGreatDoorMa06
namespace Go.Proofs.YtfpgjkbjbbgciaaGreatDoor
open Go.RowKit Sp

/-- What a refusal's panic looks like. -/
abbrev refusal (e l : Int) : Ending := .panicked [{ v := .iface 115 (.agg #[.int .i64 e, .int .i64 l]), recovered := false }]

set_option maxRecDepth 100000 in
theorem raise_any (e l : Int) (w : World) : Calls Tryz.prog 79 #[.int .i64 e, .int .i64 l] w fun en w' => en = refusal e l ∧ w' = w := by
  go_enter Tryz.func79, Tryz.ntmps79
  go_wp2
  exact ⟨rfl, rfl, rfl⟩

theorem ret_ib2 {k : IntKind} {a c : Int} {b d : Bool} (h : a = c) (h' : b = d) : Ending.returned (.tuple #[.int k a, .bool b]) = .returned (.tuple #[.int k c, .bool d]) := by rw [h, h']
def regOk (s : ByteArray) : Bool := decide (0 ≤ reg s)
def regVal (s : ByteArray) : Int := if 0 ≤ reg s then reg s else 0
set_option maxRecDepth 100000 in
set_option maxHeartbeats 1000000 in
theorem creg_any (s : ByteArray) (w : World) (_hs : s.size ≤ maxLen) :
    Calls Tryz.prog 165 #[.string s] w fun e w' => e = .returned (.tuple #[.int .i64 (regVal s), .bool (regOk s)]) ∧ w' = w := by
  unfold maxLen at _hs
  have no : ¬ (s.size = 2 ∧ bt s 0 = 114 ∧ 48 ≤ bt s 1 ∧ bt s 1 ≤ 55) → (0 : Int) = regVal s ∧ false = regOk s := by
    intro h
    have e := reg_no s h
    unfold regVal regOk
    rw [← e]; simp
  have yes : (h : s.size = 2) → (h0 : bt s 0 = 114) → (h1 : 48 ≤ bt s 1) → (h2 : bt s 1 ≤ 55) → bt s 1 - 48 = regVal s ∧ true = regOk s := by
    intro h h0 h1 h2
    have e := reg_yes s h h0 h1 h2
    unfold regVal regOk
    rw [← e, if_pos (by omega)]
    simp; omega
  have NO := Hid.out (p := ¬ (s.size = 2 ∧ bt s 0 = 114 ∧ 48 ≤ bt s 1 ∧ bt s 1 ≤ 55) → (0 : Int) = regVal s ∧ false = regOk s) no
  have HNO : Hid (¬ (s.size = 2 ∧ bt s 0 = 114 ∧ 48 ≤ bt s 1 ∧ bt s 1 ≤ 55) → (0 : Int) = regVal s ∧ false = regOk s) := no
  have HYES : Hid ((h : s.size = 2) → (h0 : bt s 0 = 114) → (h1 : 48 ≤ bt s 1) → (h2 : bt s 1 ≤ 55) → bt s 1 - 48 = regVal s ∧ true = regOk s) := yes
  clear no yes NO
  by_cases h : s.size = 2
  · have H0 : Hid (((s[0]'(by omega)).toNat : Int) = bt s 0) := bt_eq s 0 (by omega)
    have H1 : Hid (((s[1]'(by omega)).toNat : Int) = bt s 1) := bt_eq s 1 (by omega)
    have b0 : 0 ≤ ((s[1]'(by omega)).toNat : Int) := by omega
    have b1 : ((s[1]'(by omega)).toNat : Int) ≤ 255 := by have := (s[1]'(by omega)).toNat_lt; omega
    go_enter Tryz.func165, Tryz.ntmps165
    go_wp2
    go_ways
    all_goals go_ret2
    all_goals have e0 := H0.out
    all_goals have e1 := H1.out
    all_goals first
      | (have q := HNO.out (by omega); exact ⟨ret_ib2 q.1 q.2, rfl⟩)
      | (have q := HYES.out h (by omega) (by omega) (by omega); exact ⟨ret_ib2 (by rw [← q.1, ← e1]) q.2, rfl⟩)
  · go_enter Tryz.func165, Tryz.ntmps165
    go_wp2
    go_ret2
    have q := HNO.out (by omega)
    exact ⟨ret_ib2 q.1 q.2, rfl⟩

/-- What of the library's own variables the reading looks at. -/
structure LibW (w : World) : Prop where
  tabs : Lib.Utf8Tabs 1 2 w
  most : ∃ m, w.cell? ⟨0, 0, none⟩ = some (.int .i64 m)
  syn : ∃ tp p, w.var? Tryz.prog "strconv.ErrSyntax" = some #[.iface tp p]
  rng : ∃ tp p, w.var? Tryz.prog "strconv.ErrRange" = some #[.iface tp p]
  low : 8 ≤ w.heap.size

set_option maxRecDepth 100000 in
theorem broken_any (s : ByteArray) (pos : Nat) (w : World) (hw : Lib.Utf8Tabs 1 2 w) (hp : pos < s.size) :
    Calls Tryz.prog 126 #[.string (s.extract pos s.size)] w fun e w' => e = .returned (.bool (((Utf8.decode s pos).2 : Int) == 1)) ∧ Below w.heap.size w w' := by
  have hd : Lib.decodeGo (s.extract pos s.size) = Utf8.decode s pos := by
    unfold Lib.decodeGo
    rw [if_neg (by rw [ByteArray.size_extract]; omega)]
    exact Lib.tail_decode s pos 0
  have hc := Tryz.utf8_DecodeRuneInString (s.extract pos s.size) w hw
  rw [hd] at hc
  have hle : (Utf8.decode s pos).2 ≤ 4 := by
    by_cases h0 : (chr s pos).1 = 0
    · rw [(dec_chr s pos).1 h0]; decide
    · rw [(dec_chr s pos).2 h0]
      have := chrN_pos s pos hp h0
      show (chr s pos).1.toNat ≤ 4
      omega
  generalize Utf8.decode s pos = d at hc hle
  go_enter Tryz.func126, Tryz.ntmps126
  go_wp2_with (go_at_call 146; refine hc.mono ?_; rintro e w' ⟨rfl, hb⟩)
  go_ret
  exact ⟨rfl, hb⟩

end Go.Proofs.YtfpgjkbjbbgciaaGreatDoor

namespace Go.Proofs.YtfpgjkbjbbgciaaGreatDoor.Sp

/-- The lines from a place on, the first of which began at another. -/
def linesAt (s : ByteArray) (from0 i : Nat) : List ByteArray :=
  if i < s.size then
    if bt s i = 10 then s.extract from0 i :: linesAt s (i + 1) (i + 1) else linesAt s from0 (i + 1)
  else [s.extract from0 s.size]
termination_by s.size - i
theorem linesAt_end (s : ByteArray) (from0 i : Nat) (h : ¬ i < s.size) : linesAt s from0 i = [s.extract from0 s.size] := by
  rw [linesAt, if_neg h]
theorem linesAt_cut (s : ByteArray) (from0 i : Nat) (h : i < s.size) (h' : bt s i = 10) : linesAt s from0 i = s.extract from0 i :: linesAt s (i + 1) (i + 1) := by
  rw [linesAt, if_pos h, if_pos h']
theorem linesAt_on (s : ByteArray) (from0 i : Nat) (h : i < s.size) (h' : ¬ bt s i = 10) : linesAt s from0 i = linesAt s from0 (i + 1) := by
  rw [linesAt, if_pos h, if_neg h']
def lines (s : ByteArray) : List ByteArray := linesAt s 0 0

/-- The words of a line from a place on; `now` is the word that stands there. -/
def blankB (c : Int) : Bool := decide (c = 32 ∨ c = 9 ∨ c = 59)
def flush (now : ByteArray) (l : List ByteArray) : List ByteArray := if now.size = 0 then l else l ++ [now]
def wordsAt (s : ByteArray) (i : Nat) (now : ByteArray) (l : List ByteArray) : List ByteArray :=
  if i < s.size then
    if blankB (bt s i) = false then wordsAt s (i + 1) (now ++ s.extract i (i + 1)) l
    else if bt s i = 59 then flush now l
    else wordsAt s (i + 1) ByteArray.empty (flush now l)
  else flush now l
termination_by s.size - i
def words (s : ByteArray) : List ByteArray := wordsAt s 0 ByteArray.empty []
theorem wordsAt_end (s : ByteArray) (i : Nat) (now : ByteArray) (l : List ByteArray) (h : ¬ i < s.size) : wordsAt s i now l = flush now l := by
  rw [wordsAt, if_neg h]
theorem wordsAt_on (s : ByteArray) (i : Nat) (now : ByteArray) (l : List ByteArray) (h : i < s.size) (h' : ¬ (bt s i = 32 ∨ bt s i = 9 ∨ bt s i = 59)) : wordsAt s i now l = wordsAt s (i + 1) (now ++ s.extract i (i + 1)) l := by
  rw [wordsAt, if_pos h, if_pos (by simpa [blankB] using h')]
theorem wordsAt_stop (s : ByteArray) (i : Nat) (now : ByteArray) (l : List ByteArray) (h : i < s.size) (h' : bt s i = 59) : wordsAt s i now l = flush now l := by
  rw [wordsAt, if_pos h, if_neg (by simp [blankB, h']), if_pos h']
theorem wordsAt_cut (s : ByteArray) (i : Nat) (now : ByteArray) (l : List ByteArray) (h : i < s.size) (h' : bt s i = 32 ∨ bt s i = 9) : wordsAt s i now l = wordsAt s (i + 1) ByteArray.empty (flush now l) := by
  rw [wordsAt, if_pos h, if_neg (by simp [blankB]; omega), if_neg (by omega)]

end Go.Proofs.YtfpgjkbjbbgciaaGreatDoor.Sp

namespace Go.Proofs.YtfpgjkbjbbgciaaGreatDoor.Sp

/-- Is a word this one? -/
def isW (s : ByteArray) (l : List UInt8) : Bool := s.toList == l
/-- The operands that an instruction's word asks for: 82 a register, 75 a number, 78 a name; 63 alone: there is no such instruction. -/
def shapeOf (s : ByteArray) : List UInt8 :=
  if isW s [115, 101, 116] || isW s [105, 110, 99] then [82, 75] else
  if isW s [109, 111, 118] || isW s [108, 111, 97, 100] || isW s [115, 116, 111, 114, 101] then [82, 82] else
  if isW s [97, 100, 100] || isW s [115, 117, 98] || isW s [109, 117, 108] then [82, 82, 82] else
  if isW s [114, 101, 97, 100] || isW s [119, 114, 105, 116, 101] then [82] else
  if isW s [106, 117, 109, 112] || isW s [99, 97, 108, 108] then [78] else
  if isW s [108, 101, 115, 115] || isW s [115, 97, 109, 101] then [82, 82, 78] else
  if isW s [98, 97, 99, 107] || isW s [115, 116, 111, 112] then [] else
  [63]

end Go.Proofs.YtfpgjkbjbbgciaaGreatDoor.Sp
