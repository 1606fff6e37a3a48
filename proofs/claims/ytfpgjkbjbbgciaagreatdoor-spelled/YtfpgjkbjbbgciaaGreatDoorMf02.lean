import Derived.Test.YtfpgjkbjbbgciaaGreatDoorMf00
set_option maxRecDepth 100000
set_option maxHeartbeats 8000000
namespace Go.Proofs.YtfpgjkbjbbgciaaGreatDoor.Sp
theorem zhf (s : ByteArray) (i k : Nat) (v u : Int) (h : zc3 s i k v = some u) : i + k ≤ s.size ∨ k = 0:=by
 induction k generalizing i v with
 | zero => exact .inr rfl
 | succ k ih =>
  unfold zc3 at h
  split at h
  ·rename_i hc
   rcases ih _ _ h with h' | h'
   ·exact .inl (by omega)
   ·subst h'; exact .inl (by omega)
  ·cases h
theorem zaZ (n least : Int) (o : Option Int) : (zcs n least o = (0,0)) ∨ (∃ v,o = some v ∧ zcs n least o = (n,v) ∧ least ≤ v ∧ v ≤ 1114111):=by
 cases o with
 | none => exact .inl rfl
 | some v =>
  by_cases h : v < least ∨ 1114111 < v ∨ (55296 ≤ v ∧ v ≤ 57343)
  ·exact .inl (if_pos h)
  ·exact .inr ⟨v,rfl,if_neg h,by omega,by omega⟩
theorem zr4 (s : ByteArray) (i : Nat) (hi : i < s.size) : chr s i = (0,0) ∨ (1 ≤ (chr s i).1 ∧ (chr s i).1 ≤ 4 ∧ i + (chr s i).1 ≤ s.size ∧ 0 ≤ (chr s i).2 ∧ (chr s i).2 ≤ 1114111):=by
 have hb:=zr3 s i
 unfold chr
 split
 ·exact .inr ⟨by simp,by simp,by simp; omega,by simpa using hb.1,by simp; omega⟩
 split
 ·rcases zaZ 2 128 (zc3 s (i + 1) 1 (bt s i - 192)) with h | ⟨v,h1,h2,h3,h4⟩
  ·exact .inl h
  ·rw [h2]
   rcases zhf _ _ _ _ _ h1 with h | h
   ·exact .inr ⟨by simp,by simp,by simp; omega,by simp; omega,by simpa using h4⟩
   ·omega
 split
 ·rcases zaZ 3 2048 (zc3 s (i + 1) 2 (bt s i - 224)) with h | ⟨v,h1,h2,h3,h4⟩
  ·exact .inl h
  ·rw [h2]
   rcases zhf _ _ _ _ _ h1 with h | h
   ·exact .inr ⟨by simp,by simp,by simp; omega,by simp; omega,by simpa using h4⟩
   ·omega
 split
 ·rcases zaZ 4 65536 (zc3 s (i + 1) 3 (bt s i - 240)) with h | ⟨v,h1,h2,h3,h4⟩
  ·exact .inl h
  ·rw [h2]
   rcases zhf _ _ _ _ _ h1 with h | h
   ·exact .inr ⟨by simp,by simp,by simp; omega,by simp; omega,by simpa using h4⟩
   ·omega
 ·exact .inl rfl
def chrN (s : ByteArray) (i : Nat) : Nat:=(chr s i).1.toNat
theorem zcc (s : ByteArray) (i : Nat) (hi : i < s.size) (h : ¬ (chr s i).1 = 0) : ((chrN s i : Nat) : Int) = (chr s i).1 ∧ 1 ≤ chrN s i ∧ chrN s i ≤ 4 ∧ i + chrN s i ≤ s.size ∧ 0 ≤ (chr s i).2 ∧ (chr s i).2 ≤ 1114111:=by
 rcases zr4 s i hi with h' | h'
 ·rw [h'] at h; simp at h
 ·unfold chrN; omega
def zar (s : ByteArray) (i : Nat) : Bool :=
 if _hi : i < s.size then
  if _h : (chr s i).1 = 0 then false else zar s (i + chrN s i)
 else true
termination_by s.size - i
decreasing_by have:=zcc s i _hi _h; omega
theorem zf4 (s : ByteArray) (i : Nat) (h : ¬ i < s.size) : zar s i = true:=by
 rw [zar,dif_neg h]
theorem ziY (s : ByteArray) (i : Nat) (h : i < s.size) (h0 : (chr s i).1 = 0) : zar s i = false:=by
 rw [zar,dif_pos h,dif_pos h0]
theorem zeY (s : ByteArray) (i : Nat) (h : i < s.size) (h0 : ¬ (chr s i).1 = 0) : zar s i = zar s (i + chrN s i):=by
 rw [zar,dif_pos h,dif_neg h0]
def zbZ (c : Int) : Bool:=decide (97 ≤ c ∧ c ≤ 122 ∨ c = 95 ∨ 945 ≤ c ∧ c ≤ 969)
def zaD (c : Int) : Bool:=decide (48 ≤ c ∧ c ≤ 57)
def zbP (s : ByteArray) (i : Nat) (c : Nat) : Option Nat :=
 if hi : i < s.size then
  if h : (chr s i).1 = 0 then none
  else if zbZ (chr s i).2 = true ∨ (zaD (chr s i).2 = true ∧ ¬ i = 0) then zbP s (i + chrN s i) (c + 1) else none
 else some c
termination_by s.size - i
decreasing_by have:=zcc s i hi h; omega
def zcf : Option Nat → Bool
 | none => false
 | some c => decide (1 ≤ c ∧ c ≤ 12)
def zau (s : ByteArray) : Bool:=zcf (zbP s 0 0)
theorem zg5 (s : ByteArray) (i c : Nat) (h : ¬ i < s.size) : zbP s i c = some c:=by
 rw [zbP,dif_neg h]
theorem zlc (s : ByteArray) (i c : Nat) (h : i < s.size) (h0 : (chr s i).1 = 0) : zbP s i c = none:=by
 rw [zbP,dif_pos h,dif_pos h0]
theorem zdC (s : ByteArray) (i c : Nat) (h : i < s.size) (h0 : ¬ (chr s i).1 = 0) (h1 : zbZ (chr s i).2 = true ∨ (zaD (chr s i).2 = true ∧ ¬ i = 0)) : zbP s i c = zbP s (i + chrN s i) (c + 1):=by
 rw [zbP,dif_pos h,dif_neg h0,if_pos h1]
theorem zg6 (s : ByteArray) (i c : Nat) (h : i < s.size) (h0 : ¬ (chr s i).1 = 0) (h1 : ¬ (zbZ (chr s i).2 = true ∨ (zaD (chr s i).2 = true ∧ ¬ i = 0))) : zbP s i c = none:=by
 rw [zbP,dif_pos h,dif_neg h0,if_neg h1]
end Go.Proofs.YtfpgjkbjbbgciaaGreatDoor.Sp
namespace Go.Proofs.YtfpgjkbjbbgciaaGreatDoor
open Go.RowKit Sp
theorem zjo (c : Nat) (h : 1 ≤ c) : decide ((c : Int) ≤ 12) = zcf (some c):=by
 unfold zcf
 by_cases h' : c ≤ 12
 ·simp [h,h']; omega
 ·simp [h']; omega
theorem zlk (c : Nat) (h : ¬ 1 ≤ c) : false = zcf (some c):=by
 unfold zcf; simp; omega
theorem zac {a b c : World} {q : Option Nat} (h : a.grownBy b q) (k : b.grownBy c q) : a.grownBy c q :=
 ⟨k.os.trans h.os,k.tape.trans h.tape,k.output.trans h.output,Nat.le_trans h.size k.size,fun i hi hne => (k.block i (Nat.lt_of_lt_of_le hi h.size) hne).trans (h.block i hi hne)⟩
end Go.Proofs.YtfpgjkbjbbgciaaGreatDoor
