import Derived.Test.YtfpgjkbjbbgciaaGreatDoorMf00
set_option maxRecDepth 100000
set_option maxHeartbeats 8000000
namespace Go.Proofs.YtfpgjkbjbbgciaaGreatDoor
open Go.RowKit Sp
theorem zbN {a b : Bool} (h : a = b) : Ending.returned (.bool a) = .returned (.bool b):=by rw [h]
theorem zr9 (s : ByteArray) (h : ¬ (s.size = 2 ∧ bt s 0 = 114 ∧ 48 ≤ bt s 1 ∧ bt s 1 ≤ 55)) : (-1 : Int) = reg s:=by
 unfold reg regB; simp; omega
theorem zq9 (s : ByteArray) (h : s.size = 2) (h0 : bt s 0 = 114) (h1 : 48 ≤ bt s 1) (h2 : bt s 1 ≤ 55) : bt s 1 - 48 = reg s:=by
 unfold reg regB; simp [h,h0,h1,h2]
end Go.Proofs.YtfpgjkbjbbgciaaGreatDoor
namespace Go.Proofs.YtfpgjkbjbbgciaaGreatDoor.Sp
def zbl (s : ByteArray) (from0 i : Nat) : List ByteArray :=
 if i < s.size then
  if bt s i = 10 then s.extract from0 i :: zbl s (i + 1) (i + 1) else zbl s from0 (i + 1)
 else [s.extract from0 s.size]
termination_by s.size - i
theorem zdD (s : ByteArray) (from0 i : Nat) (h : ¬ i < s.size) : zbl s from0 i = [s.extract from0 s.size]:=by
 rw [zbl,if_neg h]
theorem zdE (s : ByteArray) (from0 i : Nat) (h : i < s.size) (h' : bt s i = 10) : zbl s from0 i = s.extract from0 i :: zbl s (i + 1) (i + 1):=by
 rw [zbl,if_pos h,if_pos h']
theorem ze5 (s : ByteArray) (from0 i : Nat) (h : i < s.size) (h' : ¬ bt s i = 10) : zbl s from0 i = zbl s from0 (i + 1):=by
 rw [zbl,if_pos h,if_neg h']
def lines (s : ByteArray) : List ByteArray:=zbl s 0 0
def zkm (c : Int) : Bool:=decide (c = 32 ∨ c = 9 ∨ c = 59)
def flush (now : ByteArray) (l : List ByteArray) : List ByteArray:=if now.size = 0 then l else l ++ [now]
def zay (s : ByteArray) (i : Nat) (now : ByteArray) (l : List ByteArray) : List ByteArray :=
 if i < s.size then
  if zkm (bt s i) = false then zay s (i + 1) (now ++ s.extract i (i + 1)) l
  else if bt s i = 59 then flush now l
  else zay s (i + 1) ByteArray.empty (flush now l)
 else flush now l
termination_by s.size - i
def zs4 (s : ByteArray) : List ByteArray:=zay s 0 ByteArray.empty []
theorem zch (s : ByteArray) (i : Nat) (now : ByteArray) (l : List ByteArray) (h : ¬ i < s.size) : zay s i now l = flush now l:=by
 rw [zay,if_neg h]
theorem zdm (s : ByteArray) (i : Nat) (now : ByteArray) (l : List ByteArray) (h : i < s.size) (h' : ¬ (bt s i = 32 ∨ bt s i = 9 ∨ bt s i = 59)) : zay s i now l = zay s (i + 1) (now ++ s.extract i (i + 1)) l:=by
 rw [zay,if_pos h,if_pos (by simpa [zkm] using h')]
theorem zbQ (s : ByteArray) (i : Nat) (now : ByteArray) (l : List ByteArray) (h : i < s.size) (h' : bt s i = 59) : zay s i now l = flush now l:=by
 rw [zay,if_pos h,if_neg (by simp [zkm,h']),if_pos h']
theorem zb4 (s : ByteArray) (i : Nat) (now : ByteArray) (l : List ByteArray) (h : i < s.size) (h' : bt s i = 32 ∨ bt s i = 9) : zay s i now l = zay s (i + 1) ByteArray.empty (flush now l):=by
 rw [zay,if_pos h,if_neg (by simp [zkm]; omega),if_neg (by omega)]
theorem zks (s : ByteArray) (j : Nat) : bt s j = ((s.get! j).toNat : Int):=by
 unfold bt ByteArray.get!
 cases h : s.data[j]? with
 | none =>
  have : ¬ j < s.data.size:=by
   intro hj; rw [Array.getElem?_eq_getElem hj] at h; cases h
  simp [getElem!_def,h]
  rfl
 | some v => simp [getElem!_def,h]
def chrB (i z : Nat) (b0 b1 b2 b3 : Int) : Int × Int :=
 if b0 < 128 then (1,b0)
 else if 194 ≤ b0 ∧ b0 < 224 then zcs 2 128 (if i + 1 < z ∧ 128 ≤ b1 ∧ b1 ≤ 191 then some (64 * (b0 - 192) + b1 - 128) else none)
 else if 224 ≤ b0 ∧ b0 < 240 then zcs 3 2048 (if i + 1 < z ∧ 128 ≤ b1 ∧ b1 ≤ 191 then (if i + 1 + 1 < z ∧ 128 ≤ b2 ∧ b2 ≤ 191 then some (64 * (64 * (b0 - 224) + b1 - 128) + b2 - 128) else none) else none)
 else if 240 ≤ b0 ∧ b0 < 245 then zcs 4 65536 (if i + 1 < z ∧ 128 ≤ b1 ∧ b1 ≤ 191 then (if i + 1 + 1 < z ∧ 128 ≤ b2 ∧ b2 ≤ 191 then (if i + 1 + 1 + 1 < z ∧ 128 ≤ b3 ∧ b3 ≤ 191 then some (64 * (64 * (64 * (b0 - 240) + b1 - 128) + b2 - 128) + b3 - 128) else none) else none) else none)
 else (0,0)
theorem zsn (s : ByteArray) (i : Nat) : chr s i = chrB i s.size (bt s i) (bt s (i + 1)) (bt s (i + 2)) (bt s (i + 3)):=rfl
theorem decB (i z b0 b1 b2 b3 : Nat) (h0 : b0 < 256) (h1 : b1 < 256) (h2 : b2 < 256) (h3 : b3 < 256) :
  ((chrB i z b0 b1 b2 b3).1 = 0 → Lib.decodeN (z - i) b0 b1 b2 b3 = (65533,1)) ∧ (¬ (chrB i z b0 b1 b2 b3).1 = 0 → Lib.decodeN (z - i) b0 b1 b2 b3 = ((chrB i z b0 b1 b2 b3).2.toNat,(chrB i z b0 b1 b2 b3).1.toNat)):=by
 unfold chrB
 split
 ·refine ⟨fun h => absurd h (by simp),fun _ => ?_⟩
  unfold Lib.decodeN
  rw [if_pos (by omega)]
  exact Prod.ext (by simp) rfl
 split
 ·split
  ·by_cases hb : 64 * ((b0 : Int) - 192) + b1 - 128 < 128 ∨ 1114111 < 64 * ((b0 : Int) - 192) + b1 - 128 ∨ (55296 ≤ 64 * ((b0 : Int) - 192) + b1 - 128 ∧ 64 * ((b0 : Int) - 192) + b1 - 128 ≤ 57343)
   ·rw [zcs,if_pos hb]
    refine ⟨fun _ => ?_,fun h => absurd rfl h⟩
    unfold Lib.decodeN
    repeat' split
    all_goals first | rfl | (exfalso; omega)
   ·rw [zcs,if_neg hb]
    refine ⟨fun h => absurd h (by simp),fun _ => ?_⟩
    unfold Lib.decodeN
    repeat' split
    all_goals first | (exfalso; omega) | (apply Prod.ext <;> simp only <;> omega)
  ·refine ⟨fun _ => ?_,fun h => absurd rfl h⟩
   unfold Lib.decodeN
   repeat' split
   all_goals first | rfl | (exfalso; omega)
 split
 ·split
  ·split
   ·by_cases hb : 64 * (64 * ((b0 : Int) - 224) + b1 - 128) + b2 - 128 < 2048 ∨ 1114111 < 64 * (64 * ((b0 : Int) - 224) + b1 - 128) + b2 - 128 ∨ (55296 ≤ 64 * (64 * ((b0 : Int) - 224) + b1 - 128) + b2 - 128 ∧ 64 * (64 * ((b0 : Int) - 224) + b1 - 128) + b2 - 128 ≤ 57343)
    ·rw [zcs,if_pos hb]
     refine ⟨fun _ => ?_,fun h => absurd rfl h⟩
     unfold Lib.decodeN
     repeat' split
     all_goals first | rfl | (exfalso; omega)
    ·rw [zcs,if_neg hb]
     refine ⟨fun h => absurd h (by simp),fun _ => ?_⟩
     unfold Lib.decodeN
     repeat' split
     all_goals first | (exfalso; omega) | (apply Prod.ext <;> simp only <;> omega)
   ·refine ⟨fun _ => ?_,fun h => absurd rfl h⟩
    unfold Lib.decodeN
    repeat' split
    all_goals first | rfl | (exfalso; omega)
  ·refine ⟨fun _ => ?_,fun h => absurd rfl h⟩
   unfold Lib.decodeN
   repeat' split
   all_goals first | rfl | (exfalso; omega)
 split
 ·split
  ·split
   ·split
    ·by_cases hb : 64 * (64 * (64 * ((b0 : Int) - 240) + b1 - 128) + b2 - 128) + b3 - 128 < 65536 ∨ 1114111 < 64 * (64 * (64 * ((b0 : Int) - 240) + b1 - 128) + b2 - 128) + b3 - 128 ∨ (55296 ≤ 64 * (64 * (64 * ((b0 : Int) - 240) + b1 - 128) + b2 - 128) + b3 - 128 ∧ 64 * (64 * (64 * ((b0 : Int) - 240) + b1 - 128) + b2 - 128) + b3 - 128 ≤ 57343)
     ·rw [zcs,if_pos hb]
      refine ⟨fun _ => ?_,fun h => absurd rfl h⟩
      unfold Lib.decodeN
      repeat' split
      all_goals first | rfl | (exfalso; omega)
     ·rw [zcs,if_neg hb]
      refine ⟨fun h => absurd h (by simp),fun _ => ?_⟩
      unfold Lib.decodeN
      repeat' split
      all_goals first | (exfalso; omega) | (apply Prod.ext <;> simp only <;> omega)
    ·refine ⟨fun _ => ?_,fun h => absurd rfl h⟩
     unfold Lib.decodeN
     repeat' split
     all_goals first | rfl | (exfalso; omega)
   ·refine ⟨fun _ => ?_,fun h => absurd rfl h⟩
    unfold Lib.decodeN
    repeat' split
    all_goals first | rfl | (exfalso; omega)
  ·refine ⟨fun _ => ?_,fun h => absurd rfl h⟩
   unfold Lib.decodeN
   repeat' split
   all_goals first | rfl | (exfalso; omega)
 ·refine ⟨fun _ => ?_,fun h => absurd rfl h⟩
  unfold Lib.decodeN
  repeat' split
  all_goals first | rfl | (exfalso; omega)
theorem ze8 (s : ByteArray) (i : Nat) : ((chr s i).1 = 0 → Utf8.decode s i = (65533,1)) ∧ (¬ (chr s i).1 = 0 → Utf8.decode s i = ((chr s i).2.toNat,(chr s i).1.toNat)):=by
 rw [zsn,Lib.decode_at,zks s i,zks s (i + 1),zks s (i + 2),zks s (i + 3)]
 exact decB i s.size _ _ _ _ (s.get! i).toNat_lt (s.get! (i + 1)).toNat_lt (s.get! (i + 2)).toNat_lt (s.get! (i + 3)).toNat_lt
end Go.Proofs.YtfpgjkbjbbgciaaGreatDoor.Sp
