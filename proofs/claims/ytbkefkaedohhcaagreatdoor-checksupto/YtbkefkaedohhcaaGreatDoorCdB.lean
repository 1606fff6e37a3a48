import Derived.Test.YtbkefkaedohhcaaGreatDoorCdA
import Derived.Test.YtbkefkaedohhcaaGreatDoorRfD
import Derived.Test.YtbkefkaedohhcaaGreatDoorShelf
import Derived.Test.YtbkefkaedohhcaaGreatDoorSpecM
import Derived.Lib.RuneCountTail
import Derived.WalkSmall
namespace Go.Proofs.YtbkefkaedohhcaaGreatDoor
open Go.RowKit Sp

/-- What a refusal's panic looks like. -/
abbrev refusal (e l : Int) : Ending := .panicked [{ v := .iface 83 (.agg #[.int .i64 e, .int .i64 l]), recovered := false }]

set_option maxRecDepth 100000 in
theorem raise_any (e l : Int) (w : World) : Calls Tryz.prog 57 #[.int .i64 e, .int .i64 l] w fun en w' => en = refusal e l ∧ w' = w := by
  go_enter Tryz.func57, Tryz.ntmps57
  go_wp2
  exact ⟨rfl, rfl, rfl⟩

theorem ret_ib2 {k : IntKind} {a c : Int} {b d : Bool} (h : a = c) (h' : b = d) : Ending.returned (.tuple #[.int k a, .bool b]) = .returned (.tuple #[.int k c, .bool d]) := by rw [h, h']
def regOk (s : ByteArray) : Bool := decide (0 ≤ reg s)
def regVal (s : ByteArray) : Int := if 0 ≤ reg s then reg s else 0
set_option maxRecDepth 100000 in
set_option maxHeartbeats 1000000 in
theorem creg_any (s : ByteArray) (w : World) (_hs : s.size ≤ maxLen) :
    Calls Tryz.prog 123 #[.string s] w fun e w' => e = .returned (.tuple #[.int .i64 (regVal s), .bool (regOk s)]) ∧ w' = w := by
  unfold maxLen at _hs
  have no : ¬ (s.size = 2 ∧ bt s 0 = 114 ∧ 48 ≤ bt s 1 ∧ bt s 1 ≤ 55) → (0 : Int) = regVal s ∧ false = regOk s := by
    intro h
    have e := reg_no s h
    unfold regVal regOk
    rw [← e]; simp
  have yes : (h : s.size = 2) → (h0 : bt s 0 = 114) → (h1 : 48 ≤ bt s 1) → (h2 : bt s 1 ≤ 55) → bt s 1 - 48 = regVal s ∧ true = regOk s := by
    intro h h0 h1 h2
    have e := reg_yes s h h0 h1 h2
    unfold regVal regOk
    rw [← e, if_pos (by omega)]
    simp; omega
  have NO := Hid.out (p := ¬ (s.size = 2 ∧ bt s 0 = 114 ∧ 48 ≤ bt s 1 ∧ bt s 1 ≤ 55) → (0 : Int) = regVal s ∧ false = regOk s) no
  have HNO : Hid (¬ (s.size = 2 ∧ bt s 0 = 114 ∧ 48 ≤ bt s 1 ∧ bt s 1 ≤ 55) → (0 : Int) = regVal s ∧ false = regOk s) := no
  have HYES : Hid ((h : s.size = 2) → (h0 : bt s 0 = 114) → (h1 : 48 ≤ bt s 1) → (h2 : bt s 1 ≤ 55) → bt s 1 - 48 = regVal s ∧ true = regOk s) := yes
  clear no yes NO
  by_cases h : s.size = 2
  · have H0 : Hid (((s[0]'(by omega)).toNat : Int) = bt s 0) := bt_eq s 0 (by omega)
    have H1 : Hid (((s[1]'(by omega)).toNat : Int) = bt s 1) := bt_eq s 1 (by omega)
    have b0 : 0 ≤ ((s[1]'(by omega)).toNat : Int) := by omega
    have b1 : ((s[1]'(by omega)).toNat : Int) ≤ 255 := by have := (s[1]'(by omega)).toNat_lt; omega
    go_enter Tryz.func123, Tryz.ntmps123
    go_wp2
    go_ways
    all_goals go_ret2
    all_goals have e0 := H0.out
    all_goals have e1 := H1.out
    all_goals first
      | (have q := HNO.out (by omega); exact ⟨ret_ib2 q.1 q.2, rfl⟩)
      | (have q := HYES.out h (by omega) (by omega) (by omega); exact ⟨ret_ib2 (by rw [← q.1, ← e1]) q.2, rfl⟩)
  · go_enter Tryz.func123, Tryz.ntmps123
    go_wp2
    go_ret2
    have q := HNO.out (by omega)
    exact ⟨ret_ib2 q.1 q.2, rfl⟩

/-- What of the library's own variables the reading looks at. -/
structure LibW (w : World) : Prop where
  tabs : Lib.Utf8Tabs 1 2 w
  most : ∃ m, w.cell? ⟨0, 0, none⟩ = some (.int .i64 m)
  syn : ∃ tp p, w.var? Tryz.prog "strconv.ErrSyntax" = some #[.iface tp p]
  rng : ∃ tp p, w.var? Tryz.prog "strconv.ErrRange" = some #[.iface tp p]
  low : 8 ≤ w.heap.size

set_option maxRecDepth 100000 in
theorem broken_any (s : ByteArray) (pos : Nat) (w : World) (hw : Lib.Utf8Tabs 1 2 w) (hp : pos < s.size) :
    Calls Tryz.prog 98 #[.string (s.extract pos s.size)] w fun e w' => e = .returned (.bool (((Utf8.decode s pos).2 : Int) == 1)) ∧ Below w.heap.size w w' := by
  have hd : Lib.decodeGo (s.extract pos s.size) = Utf8.decode s pos := by
    unfold Lib.decodeGo
    rw [if_neg (by rw [ByteArray.size_extract]; omega)]
    exact Lib.tail_decode s pos 0
  have hc := Tryz.utf8_DecodeRuneInString (s.extract pos s.size) w hw
  rw [hd] at hc
  have hle : (Utf8.decode s pos).2 ≤ 4 := by
    by_cases h0 : (chr s pos).1 = 0
    · rw [(dec_chr s pos).1 h0]; decide
    · rw [(dec_chr s pos).2 h0]
      have := chrN_pos s pos hp h0
      show (chr s pos).1.toNat ≤ 4
      omega
  generalize Utf8.decode s pos = d at hc hle
  go_enter Tryz.func98, Tryz.ntmps98
  go_wp2_with (go_at_call 110; refine hc.mono ?_; rintro e w' ⟨rfl, hb⟩)
  go_ret
  exact ⟨rfl, hb⟩

end Go.Proofs.YtbkefkaedohhcaaGreatDoor
