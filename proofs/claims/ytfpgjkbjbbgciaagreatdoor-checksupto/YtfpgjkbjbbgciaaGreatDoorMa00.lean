import GoSem.Claim
/- Plain functions on bytes: what the document's reading of a text is. Nothing of the dump. -/
namespace Go.Proofs.YtfpgjkbjbbgciaaGreatDoor.Sp

/-- The byte at a place, as a number (0 beyond the end). -/
def bt (s : ByteArray) (k : Nat) : Int := ((s.data[k]?.getD 0).toNat : Int)
theorem bt_eq (s : ByteArray) (k : Nat) (h : k < s.size) : ((s[k]'h).toNat : Int) = bt s k := by
  have h' : k < s.data.size := h
  unfold bt
  rw [Array.getElem?_eq_getElem h']
  rfl
theorem bt_lo (s : ByteArray) (k : Nat) : 0 ≤ bt s k ∧ bt s k ≤ 255 := by
  unfold bt
  have := (s.data[k]?.getD 0).toNat_lt
  omega

def regB (s : ByteArray) : Bool := decide (s.size = 2) && decide (bt s 0 = 114) && decide (48 ≤ bt s 1) && decide (bt s 1 ≤ 55)
def reg (s : ByteArray) : Int := if regB s = true then bt s 1 - 48 else -1

/-- `k` further bytes of a character. -/
def conts (s : ByteArray) (i : Nat) : Nat → Int → Option Int
  | 0, v => some v
  | k + 1, v => if i < s.size ∧ 128 ≤ bt s i ∧ bt s i ≤ 191 then conts s (i + 1) k (64 * v + bt s i - 128) else none
def chrEnd (n least : Int) : Option Int → Int × Int
  | none => (0, 0)
  | some v => if v < least ∨ 1114111 < v ∨ (55296 ≤ v ∧ v ≤ 57343) then (0, 0) else (n, v)
def chr (s : ByteArray) (i : Nat) : Int × Int :=
  if bt s i < 128 then (1, bt s i)
  else if 194 ≤ bt s i ∧ bt s i < 224 then chrEnd 2 128 (conts s (i + 1) 1 (bt s i - 192))
  else if 224 ≤ bt s i ∧ bt s i < 240 then chrEnd 3 2048 (conts s (i + 1) 2 (bt s i - 224))
  else if 240 ≤ bt s i ∧ bt s i < 245 then chrEnd 4 65536 (conts s (i + 1) 3 (bt s i - 240))
  else (0, 0)

end Go.Proofs.YtfpgjkbjbbgciaaGreatDoor.Sp
