import Derived.Test.YtfpgjkbjbbgciaaGreatDoorMe00
import Derived.Test.YtfpgjkbjbbgciaaGreatDoorProg
import Derived.WalkKit
import Derived.WalkSpells
import Derived.WalkLawsBesides
import Derived.Lib.Strings
import Derived.Deep.Light
import Derived.Lib.DecodeN
import Derived.Lib.OthersKept
import Derived.Shelf.Small.Wraps
import Derived.Shelf.LaysM
import Derived.Shelf.LaysC
import Derived.Shelf.Strconv.ParseIntPublic10
import Derived.Shelf.Strconv.ErrVarParseInt
import Derived.Shelf.Strings.Count
import Derived.Shelf.Strings.Prefix
import Derived.Shelf.Strings.Split
import Derived.Shelf.Unicode.DecodeAny
import Derived.Lib.ParseIntB
import Derived.Lib.RuneCountTail
import Derived.WalkSmall
import Derived.Lib.AtoiErrMem
import Derived.BigQuiet
import Derived.Deep.RegionHeld3
import Derived.Lib.SplitLaws
import Derived.Maps.Own
import Derived.Maps.OwnOps
import Derived.Maps.OwnSet
import Derived.Maps.AppendAt
import Derived.Maps.Views
import Derived.Deep.AppendLies
import Derived.Deep.DrawnRows
import Derived.RegionDies
import Derived.StillTail
set_option maxRecDepth 100000
set_option maxHeartbeats 8000000
namespace Go.Proofs.YtfpgjkbjbbgciaaGreatDoor
open Go.RowKit Sp
theorem zc8 {a b : Bool} (h : a = b) : Ending.returned (.bool a) = .returned (.bool b):=by rw [h]
end Go.Proofs.YtfpgjkbjbbgciaaGreatDoor
namespace Go.Proofs.YtfpgjkbjbbgciaaGreatDoor
open Go.RowKit Sp
attribute [local go_sem ↓] Go.wp_at_zero Go.wp_at_succ
theorem Tryz.info2 : (Tryz.prog.info? 2).map (fun i => (i.zero,i.size,i.bytes)) = some (some (.int .i64 0),1,8):=by kernel_rfl
theorem Tryz.info3 : (Tryz.prog.info? 3).map (fun i => (i.zero,i.size,i.bytes)) = some (some (.int .i64 0),1,8):=by kernel_rfl
theorem Tryz.under29 : Tryz.prog.underlying 29 = some (.slice 2):=by kernel_rfl
theorem Tryz.under59 : Tryz.prog.underlying 59 = some (.slice 3):=by kernel_rfl
end Go.Proofs.YtfpgjkbjbbgciaaGreatDoor
namespace Go.Proofs.YtfpgjkbjbbgciaaGreatDoor
open Go.RowKit Sp
theorem zwm (s : ByteArray) (h : ¬ (s.size = 2 ∧ bt s 0 = 114 ∧ 48 ≤ bt s 1 ∧ bt s 1 ≤ 55)) : (-1 : Int) = reg s:=by
 unfold reg regB; simp; omega
theorem zuP (s : ByteArray) (h : s.size = 2) (h0 : bt s 0 = 114) (h1 : 48 ≤ bt s 1) (h2 : bt s 1 ≤ 55) : bt s 1 - 48 = reg s:=by
 unfold reg regB; simp [h,h0,h1,h2]
theorem Tryz.info9 : (Tryz.prog.info? 9).map (fun i => (i.zero,i.size,i.bytes)) = some (some (.string ByteArray.empty),1,16):=by kernel_rfl
theorem Tryz.under67 : Tryz.prog.underlying 67 = some (.slice 9):=by kernel_rfl
theorem zg6 (s : ByteArray) : ∀ u ∈ [Value.string s],u.oneCell' = true:=by
 intro u hu; simp at hu; subst hu; rfl
end Go.Proofs.YtfpgjkbjbbgciaaGreatDoor
namespace Go.Proofs.YtfpgjkbjbbgciaaGreatDoor.Sp
def zbN (s : ByteArray) (from0 i : Nat) : List ByteArray :=
 if i < s.size then
  if bt s i = 10 then s.extract from0 i :: zbN s (i + 1) (i + 1) else zbN s from0 (i + 1)
 else [s.extract from0 s.size]
termination_by s.size - i
theorem ze9 (s : ByteArray) (from0 i : Nat) (h : ¬ i < s.size) : zbN s from0 i = [s.extract from0 s.size]:=by
 rw [zbN,if_neg h]
theorem zeA (s : ByteArray) (from0 i : Nat) (h : i < s.size) (h' : bt s i = 10) : zbN s from0 i = s.extract from0 i :: zbN s (i + 1) (i + 1):=by
 rw [zbN,if_pos h,if_pos h']
theorem zfD (s : ByteArray) (from0 i : Nat) (h : i < s.size) (h' : ¬ bt s i = 10) : zbN s from0 i = zbN s from0 (i + 1):=by
 rw [zbN,if_pos h,if_neg h']
def lines (s : ByteArray) : List ByteArray:=zbN s 0 0
def zmW (c : Int) : Bool:=decide (c = 32 ∨ c = 9 ∨ c = 59)
def flush (now : ByteArray) (l : List ByteArray) : List ByteArray:=if now.size = 0 then l else l ++ [now]
def zaF (s : ByteArray) (i : Nat) (now : ByteArray) (l : List ByteArray) : List ByteArray :=
 if i < s.size then
  if zmW (bt s i) = false then zaF s (i + 1) (now ++ s.extract i (i + 1)) l
  else if bt s i = 59 then flush now l
  else zaF s (i + 1) ByteArray.empty (flush now l)
 else flush now l
termination_by s.size - i
def words (s : ByteArray) : List ByteArray:=zaF s 0 ByteArray.empty []
theorem zcR (s : ByteArray) (i : Nat) (now : ByteArray) (l : List ByteArray) (h : ¬ i < s.size) : zaF s i now l = flush now l:=by
 rw [zaF,if_neg h]
theorem zek (s : ByteArray) (i : Nat) (now : ByteArray) (l : List ByteArray) (h : i < s.size) (h' : ¬ (bt s i = 32 ∨ bt s i = 9 ∨ bt s i = 59)) : zaF s i now l = zaF s (i + 1) (now ++ s.extract i (i + 1)) l:=by
 rw [zaF,if_pos h,if_pos (by simpa [zmW] using h')]
theorem zcB (s : ByteArray) (i : Nat) (now : ByteArray) (l : List ByteArray) (h : i < s.size) (h' : bt s i = 59) : zaF s i now l = flush now l:=by
 rw [zaF,if_pos h,if_neg (by simp [zmW,h']),if_pos h']
theorem zch (s : ByteArray) (i : Nat) (now : ByteArray) (l : List ByteArray) (h : i < s.size) (h' : bt s i = 32 ∨ bt s i = 9) : zaF s i now l = zaF s (i + 1) ByteArray.empty (flush now l):=by
 rw [zaF,if_pos h,if_neg (by simp [zmW]; omega),if_neg (by omega)]
end Go.Proofs.YtfpgjkbjbbgciaaGreatDoor.Sp
namespace Go.Proofs.YtfpgjkbjbbgciaaGreatDoor
open Go.RowKit Sp
theorem zgS {W w1 : World} {B : Nat} (hb : Below B W w1) : (∀ b o,b < B → w1.cell? ⟨b,o,none⟩ = W.cell? ⟨b,o,none⟩) ∧ (∀ b o,b < B → w1.frozen? ⟨b,o,none⟩ = W.frozen? ⟨b,o,none⟩) :=
 ⟨fun b o h => hb.cell (p:=⟨b,o,none⟩) h,fun b o h => hb.frozen (p:=⟨b,o,none⟩) h⟩
theorem zwo {w : World} {B : Nat} {v : Value} {l : List ByteArray} (h : w.ownsRow B 9 1 v l.length (l.map Value.string)) (hl : 0 < l.length) :
  ∃ g cap,v = .slice (some ⟨g,0,none⟩) l.length cap ∧ l.length ≤ cap ∧ cap ≤ maxLen ∧ B ≤ g ∧ g < w.heap.size ∧ ∀ j (hj : j < l.length),w.cell? ⟨g,j,none⟩ = some (.string l[j]):=by
 rcases h.2 with ⟨_,h2⟩ | ⟨g,cap,cur,hv,hg,hh,hc,hm,hs,hx⟩
 ·simp at h2; subst h2; simp at hl
 ·refine ⟨g,cap,hv,hc,hm,hg,(Array.getElem?_eq_some_iff.1 hh).1,fun j hj => ?_⟩
  subst hv
  rw [World.ownsRow.cellAt h j (by omega)]
  simp [hj]
theorem zb5 {w : World} {b b' : Nat} {e : TypeId} {size n : Nat} {v : Value} {xs : List Value} (h : w.ownsRow b e size v n xs) (hb : b' ≤ b) : w.ownsRow b' e size v n xs:=by
 refine ⟨h.1,?_⟩
 rcases h.2 with h2 | ⟨g,cap,cur,hv,hg,r⟩
 ·exact .inl h2
 ·exact .inr ⟨g,cap,cur,hv,by omega,r⟩
theorem zl4 (w : World) (o1 o2 : Obj) {w1 : World} (hb : Below ((w.alloc o1).alloc o2).heap.size ((w.alloc o1).alloc o2) w1) : Below w.heap.size w w1 :=
 (((Below.refl _ _).alloc (Nat.le_refl _) _).alloc (by simp) _).trans (hb.mono (by simp; omega))
structure TwoKept (w w' : World) (g : Nat) : Prop where
 far : w.heap.size + 2 ≤ g
 lt : g < w'.heap.size
 below : Below w.heap.size w w'
 c0 : w'.cell? ⟨w.heap.size,0,none⟩ = some (.int .u8 0)
 c1 : w'.cell? ⟨w.heap.size,1,none⟩ = some (.slice none 0 0)
 d0 : w'.cell? ⟨w.heap.size + 1,0,none⟩ = some (.int .u8 0)
 d1 : w'.cell? ⟨w.heap.size + 1,1,none⟩ = some (.slice none 0 0)
 e0 : w'.frozen? ⟨w.heap.size,0,none⟩ = false
 e1 : w'.frozen? ⟨w.heap.size,1,none⟩ = false
 f0 : w'.frozen? ⟨w.heap.size + 1,0,none⟩ = false
 f1 : w'.frozen? ⟨w.heap.size + 1,1,none⟩ = false
theorem size_extract (s : ByteArray) : (s.extract 1 s.size).size = s.size - 1:=by
 rw [ByteArray.size_extract]; omega
theorem zfk (now : ByteArray) (l : List ByteArray) (h : ¬ now.size = 0) : flush now l = l ++ [now]:=by unfold flush; rw [if_neg h]
def SlB (w : World) (b : Nat) (v : Value) (l : List Int) : Prop:=∃ ao cap,v = .slice ao l.length cap ∧ l.length ≤ cap ∧ (0 < l.length → ∃ g o,ao = some ⟨g,o,none⟩ ∧ g < b ∧ g < w.heap.size ∧ ∀ j (h : j < l.length),w.cell? ⟨g,o + j,none⟩ = some (.int .i64 l[j]))
theorem SlB.below {w w' : World} {b : Nat} {v : Value} {l : List Int} (h : SlB w b v l) (hb : Below b w w') : SlB w' b v l:=by
 obtain ⟨ao,cap,h1,h2,h3⟩:=h
 refine ⟨ao,cap,h1,h2,fun hp => ?_⟩
 obtain ⟨g,o,e,hg,hg2,hc⟩:=h3 hp
 exact ⟨g,o,e,hg,Nat.lt_of_lt_of_le hg2 hb.size,fun j hj => (hb.cell (p:=⟨g,o + j,none⟩) hg).trans (hc j hj)⟩
end Go.Proofs.YtfpgjkbjbbgciaaGreatDoor
namespace Go.Proofs.YtfpgjkbjbbgciaaGreatDoor.Sp
theorem zjc (s : ByteArray) (i k : Nat) (v u : Int) (h : zdo s i k v = some u) : i + k ≤ s.size ∨ k = 0:=by
 induction k generalizing i v with
 | zero => exact .inr rfl
 | succ k ih =>
  unfold zdo at h
  split at h
  ·rename_i hc
   rcases ih _ _ h with h' | h'
   ·exact .inl (by omega)
   ·subst h'; exact .inl (by omega)
  ·cases h
theorem zbB (n least : Int) (o : Option Int) : (zdb n least o = (0,0)) ∨ (∃ v,o = some v ∧ zdb n least o = (n,v) ∧ least ≤ v ∧ v ≤ 1114111):=by
 cases o with
 | none => exact .inl rfl
 | some v =>
  by_cases h : v < least ∨ 1114111 < v ∨ (55296 ≤ v ∧ v ≤ 57343)
  ·exact .inl (if_pos h)
  ·exact .inr ⟨v,rfl,if_neg h,by omega,by omega⟩
theorem zwn (s : ByteArray) (i : Nat) (hi : i < s.size) : chr s i = (0,0) ∨ (1 ≤ (chr s i).1 ∧ (chr s i).1 ≤ 4 ∧ i + (chr s i).1 ≤ s.size ∧ 0 ≤ (chr s i).2 ∧ (chr s i).2 ≤ 1114111):=by
 have hb:=zwl s i
 unfold chr
 split
 ·exact .inr ⟨by simp,by simp,by simp; omega,by simpa using hb.1,by simp; omega⟩
 split
 ·rcases zbB 2 128 (zdo s (i + 1) 1 (bt s i - 192)) with h | ⟨v,h1,h2,h3,h4⟩
  ·exact .inl h
  ·rw [h2]
   rcases zjc _ _ _ _ _ h1 with h | h
   ·exact .inr ⟨by simp,by simp,by simp; omega,by simp; omega,by simpa using h4⟩
   ·omega
 split
 ·rcases zbB 3 2048 (zdo s (i + 1) 2 (bt s i - 224)) with h | ⟨v,h1,h2,h3,h4⟩
  ·exact .inl h
  ·rw [h2]
   rcases zjc _ _ _ _ _ h1 with h | h
   ·exact .inr ⟨by simp,by simp,by simp; omega,by simp; omega,by simpa using h4⟩
   ·omega
 split
 ·rcases zbB 4 65536 (zdo s (i + 1) 3 (bt s i - 240)) with h | ⟨v,h1,h2,h3,h4⟩
  ·exact .inl h
  ·rw [h2]
   rcases zjc _ _ _ _ _ h1 with h | h
   ·exact .inr ⟨by simp,by simp,by simp; omega,by simp; omega,by simpa using h4⟩
   ·omega
 ·exact .inl rfl
def chrN (s : ByteArray) (i : Nat) : Nat:=(chr s i).1.toNat
theorem zcL (s : ByteArray) (i : Nat) (hi : i < s.size) (h : ¬ (chr s i).1 = 0) : ((chrN s i : Nat) : Int) = (chr s i).1 ∧ 1 ≤ chrN s i ∧ chrN s i ≤ 4 ∧ i + chrN s i ≤ s.size ∧ 0 ≤ (chr s i).2 ∧ (chr s i).2 ≤ 1114111:=by
 rcases zwn s i hi with h' | h'
 ·rw [h'] at h; simp at h
 ·unfold chrN; omega
def za3 (s : ByteArray) (i : Nat) : Bool :=
 if _hi : i < s.size then
  if _h : (chr s i).1 = 0 then false else za3 s (i + chrN s i)
 else true
termination_by s.size - i
decreasing_by have:=zcL s i _hi _h; omega
theorem zgN (s : ByteArray) (i : Nat) (h : ¬ i < s.size) : za3 s i = true:=by
 rw [za3,dif_neg h]
theorem zlz (s : ByteArray) (i : Nat) (h : i < s.size) (h0 : (chr s i).1 = 0) : za3 s i = false:=by
 rw [za3,dif_pos h,dif_pos h0]
theorem zgg (s : ByteArray) (i : Nat) (h : i < s.size) (h0 : ¬ (chr s i).1 = 0) : za3 s i = za3 s (i + chrN s i):=by
 rw [za3,dif_pos h,dif_neg h0]
def zcI (c : Int) : Bool:=decide (97 ≤ c ∧ c ≤ 122 ∨ c = 95 ∨ 945 ≤ c ∧ c ≤ 969)
def zba (c : Int) : Bool:=decide (48 ≤ c ∧ c ≤ 57)
def zcA (s : ByteArray) (i : Nat) (c : Nat) : Option Nat :=
 if hi : i < s.size then
  if h : (chr s i).1 = 0 then none
  else if zcI (chr s i).2 = true ∨ (zba (chr s i).2 = true ∧ ¬ i = 0) then zcA s (i + chrN s i) (c + 1) else none
 else some c
termination_by s.size - i
decreasing_by have:=zcL s i hi h; omega
def zcQ : Option Nat → Bool
 | none => false
 | some c => decide (1 ≤ c ∧ c ≤ 12)
def za7 (s : ByteArray) : Bool:=zcQ (zcA s 0 0)
theorem zio (s : ByteArray) (i c : Nat) (h : ¬ i < s.size) : zcA s i c = some c:=by
 rw [zcA,dif_neg h]
theorem znX (s : ByteArray) (i c : Nat) (h : i < s.size) (h0 : (chr s i).1 = 0) : zcA s i c = none:=by
 rw [zcA,dif_pos h,dif_pos h0]
theorem ze7 (s : ByteArray) (i c : Nat) (h : i < s.size) (h0 : ¬ (chr s i).1 = 0) (h1 : zcI (chr s i).2 = true ∨ (zba (chr s i).2 = true ∧ ¬ i = 0)) : zcA s i c = zcA s (i + chrN s i) (c + 1):=by
 rw [zcA,dif_pos h,dif_neg h0,if_pos h1]
theorem zip (s : ByteArray) (i c : Nat) (h : i < s.size) (h0 : ¬ (chr s i).1 = 0) (h1 : ¬ (zcI (chr s i).2 = true ∨ (zba (chr s i).2 = true ∧ ¬ i = 0))) : zcA s i c = none:=by
 rw [zcA,dif_pos h,dif_neg h0,if_neg h1]
end Go.Proofs.YtfpgjkbjbbgciaaGreatDoor.Sp
namespace Go.Proofs.YtfpgjkbjbbgciaaGreatDoor
open Go.RowKit Sp
theorem zl0 (c : Nat) (h : 1 ≤ c) : decide ((c : Int) ≤ 12) = zcQ (some c):=by
 unfold zcQ
 by_cases h' : c ≤ 12
 ·simp [h,h']; omega
 ·simp [h']; omega
theorem znY (c : Nat) (h : ¬ 1 ≤ c) : false = zcQ (some c):=by
 unfold zcQ; simp; omega
theorem zag {a b c : World} {q : Option Nat} (h : a.grownBy b q) (k : b.grownBy c q) : a.grownBy c q :=
 ⟨k.os.trans h.os,k.tape.trans h.tape,k.output.trans h.output,Nat.le_trans h.size k.size,fun i hi hne => (k.block i (Nat.lt_of_lt_of_le hi h.size) hne).trans (h.block i hi hne)⟩
end Go.Proofs.YtfpgjkbjbbgciaaGreatDoor
namespace Go.Proofs.YtfpgjkbjbbgciaaGreatDoor.Sp
def isW (s : ByteArray) (l : List UInt8) : Bool:=s.toList == l
def zaa (s : ByteArray) : List UInt8 :=
 if isW s [115,101,116] || isW s [105,110,99] then [82,75] else
 if isW s [109,111,118] || isW s [108,111,97,100] || isW s [115,116,111,114,101] then [82,82] else
 if isW s [97,100,100] || isW s [115,117,98] || isW s [109,117,108] then [82,82,82] else
 if isW s [114,101,97,100] || isW s [119,114,105,116,101] then [82] else
 if isW s [106,117,109,112] || isW s [99,97,108,108] then [78] else
 if isW s [108,101,115,115] || isW s [115,97,109,101] then [82,82,78] else
 if isW s [98,97,99,107] || isW s [115,116,111,112] then [] else
 [63]
theorem zmS (s : ByteArray) (j : Nat) : bt s j = ((s.get! j).toNat : Int):=by
 unfold bt ByteArray.get!
 cases h : s.data[j]? with
 | none =>
  have : ¬ j < s.data.size:=by
   intro hj; rw [Array.getElem?_eq_getElem hj] at h; cases h
  simp [getElem!_def,h]
  rfl
 | some v => simp [getElem!_def,h]
def chrB (i z : Nat) (b0 b1 b2 b3 : Int) : Int × Int :=
 if b0 < 128 then (1,b0)
 else if 194 ≤ b0 ∧ b0 < 224 then zdb 2 128 (if i + 1 < z ∧ 128 ≤ b1 ∧ b1 ≤ 191 then some (64 * (b0 - 192) + b1 - 128) else none)
 else if 224 ≤ b0 ∧ b0 < 240 then zdb 3 2048 (if i + 1 < z ∧ 128 ≤ b1 ∧ b1 ≤ 191 then (if i + 1 + 1 < z ∧ 128 ≤ b2 ∧ b2 ≤ 191 then some (64 * (64 * (b0 - 224) + b1 - 128) + b2 - 128) else none) else none)
 else if 240 ≤ b0 ∧ b0 < 245 then zdb 4 65536 (if i + 1 < z ∧ 128 ≤ b1 ∧ b1 ≤ 191 then (if i + 1 + 1 < z ∧ 128 ≤ b2 ∧ b2 ≤ 191 then (if i + 1 + 1 + 1 < z ∧ 128 ≤ b3 ∧ b3 ≤ 191 then some (64 * (64 * (64 * (b0 - 240) + b1 - 128) + b2 - 128) + b3 - 128) else none) else none) else none)
 else (0,0)
theorem zwY (s : ByteArray) (i : Nat) : chr s i = chrB i s.size (bt s i) (bt s (i + 1)) (bt s (i + 2)) (bt s (i + 3)):=rfl
theorem decB (i z b0 b1 b2 b3 : Nat) (h0 : b0 < 256) (h1 : b1 < 256) (h2 : b2 < 256) (h3 : b3 < 256) :
  ((chrB i z b0 b1 b2 b3).1 = 0 → Lib.decodeN (z - i) b0 b1 b2 b3 = (65533,1)) ∧ (¬ (chrB i z b0 b1 b2 b3).1 = 0 → Lib.decodeN (z - i) b0 b1 b2 b3 = ((chrB i z b0 b1 b2 b3).2.toNat,(chrB i z b0 b1 b2 b3).1.toNat)):=by
 unfold chrB
 split
 ·refine ⟨fun h => absurd h (by simp),fun _ => ?_⟩
  unfold Lib.decodeN
  rw [if_pos (by omega)]
  exact Prod.ext (by simp) rfl
 split
 ·split
  ·by_cases hb : 64 * ((b0 : Int) - 192) + b1 - 128 < 128 ∨ 1114111 < 64 * ((b0 : Int) - 192) + b1 - 128 ∨ (55296 ≤ 64 * ((b0 : Int) - 192) + b1 - 128 ∧ 64 * ((b0 : Int) - 192) + b1 - 128 ≤ 57343)
   ·rw [zdb,if_pos hb]
    refine ⟨fun _ => ?_,fun h => absurd rfl h⟩
    unfold Lib.decodeN
    repeat' split
    all_goals first | rfl | (exfalso; omega)
   ·rw [zdb,if_neg hb]
    refine ⟨fun h => absurd h (by simp),fun _ => ?_⟩
    unfold Lib.decodeN
    repeat' split
    all_goals first | (exfalso; omega) | (apply Prod.ext <;> simp only <;> omega)
  ·refine ⟨fun _ => ?_,fun h => absurd rfl h⟩
   unfold Lib.decodeN
   repeat' split
   all_goals first | rfl | (exfalso; omega)
 split
 ·split
  ·split
   ·by_cases hb : 64 * (64 * ((b0 : Int) - 224) + b1 - 128) + b2 - 128 < 2048 ∨ 1114111 < 64 * (64 * ((b0 : Int) - 224) + b1 - 128) + b2 - 128 ∨ (55296 ≤ 64 * (64 * ((b0 : Int) - 224) + b1 - 128) + b2 - 128 ∧ 64 * (64 * ((b0 : Int) - 224) + b1 - 128) + b2 - 128 ≤ 57343)
    ·rw [zdb,if_pos hb]
     refine ⟨fun _ => ?_,fun h => absurd rfl h⟩
     unfold Lib.decodeN
     repeat' split
     all_goals first | rfl | (exfalso; omega)
    ·rw [zdb,if_neg hb]
     refine ⟨fun h => absurd h (by simp),fun _ => ?_⟩
     unfold Lib.decodeN
     repeat' split
     all_goals first | (exfalso; omega) | (apply Prod.ext <;> simp only <;> omega)
   ·refine ⟨fun _ => ?_,fun h => absurd rfl h⟩
    unfold Lib.decodeN
    repeat' split
    all_goals first | rfl | (exfalso; omega)
  ·refine ⟨fun _ => ?_,fun h => absurd rfl h⟩
   unfold Lib.decodeN
   repeat' split
   all_goals first | rfl | (exfalso; omega)
 split
 ·split
  ·split
   ·split
    ·by_cases hb : 64 * (64 * (64 * ((b0 : Int) - 240) + b1 - 128) + b2 - 128) + b3 - 128 < 65536 ∨ 1114111 < 64 * (64 * (64 * ((b0 : Int) - 240) + b1 - 128) + b2 - 128) + b3 - 128 ∨ (55296 ≤ 64 * (64 * (64 * ((b0 : Int) - 240) + b1 - 128) + b2 - 128) + b3 - 128 ∧ 64 * (64 * (64 * ((b0 : Int) - 240) + b1 - 128) + b2 - 128) + b3 - 128 ≤ 57343)
     ·rw [zdb,if_pos hb]
      refine ⟨fun _ => ?_,fun h => absurd rfl h⟩
      unfold Lib.decodeN
      repeat' split
      all_goals first | rfl | (exfalso; omega)
     ·rw [zdb,if_neg hb]
      refine ⟨fun h => absurd h (by simp),fun _ => ?_⟩
      unfold Lib.decodeN
      repeat' split
      all_goals first | (exfalso; omega) | (apply Prod.ext <;> simp only <;> omega)
    ·refine ⟨fun _ => ?_,fun h => absurd rfl h⟩
     unfold Lib.decodeN
     repeat' split
     all_goals first | rfl | (exfalso; omega)
   ·refine ⟨fun _ => ?_,fun h => absurd rfl h⟩
    unfold Lib.decodeN
    repeat' split
    all_goals first | rfl | (exfalso; omega)
  ·refine ⟨fun _ => ?_,fun h => absurd rfl h⟩
   unfold Lib.decodeN
   repeat' split
   all_goals first | rfl | (exfalso; omega)
 ·refine ⟨fun _ => ?_,fun h => absurd rfl h⟩
  unfold Lib.decodeN
  repeat' split
  all_goals first | rfl | (exfalso; omega)
theorem zfB (s : ByteArray) (i : Nat) : ((chr s i).1 = 0 → Utf8.decode s i = (65533,1)) ∧ (¬ (chr s i).1 = 0 → Utf8.decode s i = ((chr s i).2.toNat,(chr s i).1.toNat)):=by
 rw [zwY,Lib.decode_at,zmS s i,zmS s (i + 1),zmS s (i + 2),zmS s (i + 3)]
 exact decB i s.size _ _ _ _ (s.get! i).toNat_lt (s.get! (i + 1)).toNat_lt (s.get! (i + 2)).toNat_lt (s.get! (i + 3)).toNat_lt
end Go.Proofs.YtfpgjkbjbbgciaaGreatDoor.Sp
