import Derived.Test.YtfpgjkbjbbgciaaGreatDoorMf00
set_option maxRecDepth 100000
set_option maxHeartbeats 8000000
namespace Go.Proofs.YtfpgjkbjbbgciaaGreatDoor.Sp
def least : Int:=-9223372036854775808
def zd4 (n d : Int) : Bool:=decide (d < 0) || decide (9 < d) || decide (n < (least + d).tdiv 10)
def ze4 (s : ByteArray) (i : Nat) (n : Int) : Option Int :=
 if i < s.size then
  if zd4 n (bt s i - 48) = true then none else ze4 s (i + 1) (10 * n - (bt s i - 48))
 else some n
termination_by s.size - i
theorem zmy (s : ByteArray) (i : Nat) (n : Int) (h : ¬ i < s.size) : ze4 s i n = some n:=by
 rw [ze4,if_neg h]
theorem zmz (s : ByteArray) (i : Nat) (n : Int) (h : i < s.size) (h' : zd4 n (bt s i - 48) = true) : ze4 s i n = none:=by
 rw [ze4,if_pos h,if_pos h']
theorem zld (s : ByteArray) (i : Nat) (n : Int) (h : i < s.size) (h' : ¬ zd4 n (bt s i - 48) = true) : ze4 s i n = ze4 s (i + 1) (10 * n - (bt s i - 48)):=by
 rw [ze4,if_pos h,if_neg h']
def zcg (minus : Bool) : Option Int → Int × Bool
 | none => (0,false)
 | some n => if minus = true then (n,true) else (if n = least then least else -n,decide (least < n))
def zeZ (s : ByteArray) : Bool:=decide (0 < s.size) && decide (bt s 0 = 45)
def zbj (s : ByteArray) : Int × Bool :=
 if zeZ s = true then (if s.size = 1 then (0,false) else zcg true (ze4 s 1 0))
 else (if s.size = 0 then (0,false) else zcg false (ze4 s 0 0))
theorem zo8 (d : Int) (h : d ≤ 9) : (least + d).tdiv 10 = -((9223372036854775808 - d) / 10):=by
 have e : least + d = -(9223372036854775808 - d):=by unfold least; omega
 rw [e,Int.neg_tdiv,Int.tdiv_eq_ediv_of_nonneg (by omega)]
end Go.Proofs.YtfpgjkbjbbgciaaGreatDoor.Sp
namespace Go.Proofs.YtfpgjkbjbbgciaaGreatDoor
open Go.RowKit Sp
theorem zhk {W w1 : World} {B : Nat} (hb : Below B W w1) : (∀ b o,b < B → w1.cell? ⟨b,o,none⟩ = W.cell? ⟨b,o,none⟩) ∧ (∀ b o,b < B → w1.frozen? ⟨b,o,none⟩ = W.frozen? ⟨b,o,none⟩) :=
 ⟨fun b o h => hb.cell (p:=⟨b,o,none⟩) h,fun b o h => hb.frozen (p:=⟨b,o,none⟩) h⟩
theorem zrA {w : World} {B : Nat} {v : Value} {l : List ByteArray} (h : w.ownsRow B 9 1 v l.length (l.map Value.string)) (hl : 0 < l.length) :
  ∃ g cap,v = .slice (some ⟨g,0,none⟩) l.length cap ∧ l.length ≤ cap ∧ cap ≤ maxLen ∧ B ≤ g ∧ g < w.heap.size ∧ ∀ j (hj : j < l.length),w.cell? ⟨g,j,none⟩ = some (.string l[j]):=by
 rcases h.2 with ⟨_,h2⟩ | ⟨g,cap,cur,hv,hg,hh,hc,hm,hs,hx⟩
 ·simp at h2; subst h2; simp at hl
 ·refine ⟨g,cap,hv,hc,hm,hg,(Array.getElem?_eq_some_iff.1 hh).1,fun j hj => ?_⟩
  subst hv
  rw [World.ownsRow.cellAt h j (by omega)]
  simp [hj]
theorem zbu {w : World} {b b' : Nat} {e : TypeId} {size n : Nat} {v : Value} {xs : List Value} (h : w.ownsRow b e size v n xs) (hb : b' ≤ b) : w.ownsRow b' e size v n xs:=by
 refine ⟨h.1,?_⟩
 rcases h.2 with h2 | ⟨g,cap,cur,hv,hg,r⟩
 ·exact .inl h2
 ·exact .inr ⟨g,cap,cur,hv,by omega,r⟩
theorem zqA (w : World) (o1 o2 : Obj) {w1 : World} (hb : Below ((w.alloc o1).alloc o2).heap.size ((w.alloc o1).alloc o2) w1) : Below w.heap.size w w1 :=
 (((Below.refl _ _).alloc (Nat.le_refl _) _).alloc (by simp) _).trans (hb.mono (by simp; omega))
theorem Tryz.info9 : (Tryz.prog.info? 9).map (fun i => (i.zero,i.size,i.bytes)) = some (some (.string ByteArray.empty),1,16):=by kernel_rfl
theorem Tryz.under67 : Tryz.prog.underlying 67 = some (.slice 9):=by kernel_rfl
theorem zcv (s : ByteArray) : ∀ u ∈ [Value.string s],u.oneCell' = true:=by
 intro u hu; simp at hu; subst hu; rfl
end Go.Proofs.YtfpgjkbjbbgciaaGreatDoor
namespace Go.Proofs.YtfpgjkbjbbgciaaGreatDoor.Sp
def isW (s : ByteArray) (l : List UInt8) : Bool:=s.toList == l
def zaa (s : ByteArray) : List UInt8 :=
 if isW s [115,101,116] || isW s [105,110,99] then [82,75] else
 if isW s [109,111,118] || isW s [108,111,97,100] || isW s [115,116,111,114,101] then [82,82] else
 if isW s [97,100,100] || isW s [115,117,98] || isW s [109,117,108] then [82,82,82] else
 if isW s [114,101,97,100] || isW s [119,114,105,116,101] then [82] else
 if isW s [106,117,109,112] || isW s [99,97,108,108] then [78] else
 if isW s [108,101,115,115] || isW s [115,97,109,101] then [82,82,78] else
 if isW s [98,97,99,107] || isW s [115,116,111,112] then [] else
 [63]
end Go.Proofs.YtfpgjkbjbbgciaaGreatDoor.Sp
namespace Go.Proofs.YtfpgjkbjbbgciaaGreatDoor
open Go.RowKit Sp
end Go.Proofs.YtfpgjkbjbbgciaaGreatDoor
namespace Go.Proofs.YtfpgjkbjbbgciaaGreatDoor.Sp
def numL : List UInt8 → Int → Option Int
 | [],n => some n
 | c :: r,n => if zd4 n ((c.toNat : Int) - 48) = true then none else numL r (10 * n - ((c.toNat : Int) - 48))
theorem zfE (s : ByteArray) (i : Nat) (h : i < s.size) : ∃ c r,s.data.toList.drop i = c :: r ∧ (c.toNat : Int) = bt s i ∧ r = s.data.toList.drop (i + 1):=by
 have h' : i < s.data.toList.length:=by simpa using h
 refine ⟨s.data.toList[i],s.data.toList.drop (i + 1),List.drop_eq_getElem_cons h',?_,rfl⟩
 unfold bt
 have h2 : i < s.data.size:=h
 rw [Array.getElem?_eq_getElem h2]
 simp
theorem zdM (s : ByteArray) (i : Nat) (n : Int) : ze4 s i n = numL (s.data.toList.drop i) n:=by
 by_cases h : i < s.size
 ·obtain ⟨c,r,h1,h2,h3⟩:=zfE s i h
  rw [h1]
  cases hb : zd4 n (bt s i - 48) with
  | true => rw [zmz s i n h hb]; simp [numL,h2,hb]
  | false =>
   rw [zld s i n h (by simp [hb]),zdM s (i + 1),← h3]
   simp [numL,h2,hb]
 ·rw [zmy s i n h,List.drop_of_length_le (by simpa using h)]; rfl
termination_by s.size - i
def za7 : List UInt8 → Bool
 | [] => true
 | c :: r => decide (48 ≤ c.toNat ∧ c.toNat ≤ 57) && za7 r
theorem ze7 (a : Nat) (d : Int) (h0 : 0 ≤ d) (h9 : d ≤ 9) : zd4 (-(a : Int)) d = decide (9223372036854775808 < 10 * (a : Int) + d):=by
 unfold zd4
 rw [zo8 d h9]
 by_cases h : 9223372036854775808 < 10 * (a : Int) + d
 ·have : -(a : Int) < -((9223372036854775808 - d) / 10):=by omega
  simp [h,this]
 ·have : ¬ -(a : Int) < -((9223372036854775808 - d) / 10):=by omega
  have h1 : ¬ d < 0:=by omega
  have h2 : ¬ 9 < d:=by omega
  simp [h,this,h1,h2]
theorem zjb (M : Nat) (l : List UInt8) (a u : Nat) (h : Lib.parseUintM M a l = .ok u) : a ≤ u:=by
 induction l generalizing a with
 | nil => simp [Lib.parseUintM] at h; omega
 | cons c r ih =>
  unfold Lib.parseUintM at h
  split at h
  ·split at h
   ·cases h
   ·split at h
    ·cases h
    ·have:=ih _ h; omega
  ·cases h
def zcM : Lib.NumEnd Nat → Option Int
 | .ok u => if u ≤ 9223372036854775808 then some (-(u : Int)) else none
 | _ => none
theorem zkn (l : List UInt8) (a : Nat) (hd : za7 l = true) (ha : a ≤ 9223372036854775808) : numL l (-(a : Int)) = zcM (Lib.parseUintM (2 ^ 64 - 1) a l):=by
 induction l generalizing a with
 | nil => simp [numL,Lib.parseUintM,zcM,ha]
 | cons c r ih =>
  simp only [za7,Bool.and_eq_true,decide_eq_true_eq] at hd
  obtain ⟨hc,hr⟩:=hd
  unfold numL Lib.parseUintM
  rw [if_pos hc,ze7 a _ (by omega) (by omega)]
  by_cases hb : 9223372036854775808 < 10 * (a : Int) + ((c.toNat : Int) - 48)
  ·rw [if_pos (by simpa using hb)]
   split
   ·rfl
   ·split
    ·rfl
    ·cases he : Lib.parseUintM (2 ^ 64 - 1) (a * 10 + (c.toNat - 48)) r with
     | ok u =>
      have:=zjb _ _ _ _ he
      simp [zcM]; omega
     | «syntax» => rfl
     | range => rfl
  ·rw [if_neg (by simpa using hb),if_neg (by omega),if_neg (by omega)]
   have e : 10 * -(a : Int) - ((c.toNat : Int) - 48) = -((a * 10 + (c.toNat - 48) : Nat) : Int):=by omega
   rw [e]
   exact ih _ hr (by omega)
theorem zko (l : List UInt8) (n : Int) (hd : za7 l = false) : numL l n = none:=by
 induction l generalizing n with
 | nil => simp [za7] at hd
 | cons c r ih =>
  unfold numL
  cases hb : zd4 n ((c.toNat : Int) - 48) with
  | true => rfl
  | false =>
   have hr : za7 r = false:=by
    simp only [za7] at hd
    have hc : 48 ≤ c.toNat ∧ c.toNat ≤ 57:=by
     simp [zd4] at hb
     omega
    simpa [hc] using hd
   simp only [Bool.false_eq_true,if_false]
   exact ih _ hr
def bare (l : List UInt8) : List UInt8:=match l with | 45 :: r => r | l => l
theorem zg8 (s : ByteArray) : zeZ s = (match s.data.toList with | 45 :: _ => true | _ => false):=by
 by_cases h : 0 < s.size
 ·obtain ⟨c,r,h1,h2,_⟩:=zfE s 0 h
  rw [List.drop_zero] at h1
  rw [h1]
  unfold zeZ
  rw [← h2]
  by_cases hc : c = 45
  ·subst hc; simp [h]
  ·have : ¬ (c.toNat : Int) = 45:=by
    intro e; apply hc; exact UInt8.toNat_inj.1 (by simp; omega)
   simp [h,this]
   split
   ·rename_i heq; simp at heq; exact absurd heq.1 hc
   ·rfl
 ·have h0 : s.data.toList = []:=List.eq_nil_of_length_eq_zero (by simpa using h)
  rw [h0]
  simp [zeZ,h]
theorem zo9 (s : ByteArray) (h : za7 (bare s.data.toList) = false) : (zbj s).2 = false:=by
 have hm:=zg8 s
 unfold zbj
 split at hm
 ·rename_i r heq
  rw [hm,if_pos rfl]
  rw [heq] at h
  split
  ·rfl
  ·rw [zdM,heq]
   simp only [List.drop_succ_cons,List.drop_zero]
   rw [zko r 0 (by simpa [bare] using h)]; rfl
 ·rename_i hne
  rw [hm,if_neg (by simp)]
  have hb : bare s.data.toList = s.data.toList:=by
   unfold bare; split
   ·rename_i r heq; exact absurd heq (hne r)
   ·rfl
  rw [hb] at h
  split
  ·rfl
  ·rw [zdM,List.drop_zero,zko _ 0 h]; rfl
theorem zoA (s : ByteArray) (h : za7 (bare s.data.toList) = true) : (∀ v,Lib.parseIntB 64 s.data.toList = .ok v → zbj s = (v,true)) ∧ (Lib.parseIntB 64 s.data.toList = .«syntax» → (zbj s).2 = false) ∧ (Lib.parseIntB 64 s.data.toList = .range → (zbj s).2 = false):=by
 have hm:=zg8 s
 have hsz : s.data.toList.length = s.size:=by simp
 split at hm
 ·rename_i r heq
  have hr : za7 r = true:=by rw [heq] at h; simpa [bare] using h
  rw [heq] at hsz ⊢
  have e : zbj s = if s.size = 1 then (0,false) else zcg true (ze4 s 1 0):=by unfold zbj; rw [hm,if_pos rfl]
  rw [e,zdM,heq]
  simp only [List.drop_succ_cons,List.drop_zero]
  have hmag:=zkn r 0 hr (by omega)
  simp only [Int.ofNat_zero,Int.neg_zero] at hmag
  rw [hmag]
  simp only [List.length_cons] at hsz
  have hp : Lib.parseIntB 64 (45 :: r) = (match Lib.parseUintB 64 r with | .«syntax» => .«syntax» | .range => .range | .ok u => if 9223372036854775808 < u then .range else .ok (-(u : Int))):=by
   unfold Lib.parseIntB
   simp
   cases Lib.parseUintB 64 r <;> rfl
  rw [hp]
  unfold Lib.parseUintB
  by_cases h0 : r = []
  ·subst h0
   have : s.size = 1:=by simp at hsz; omega
   simp [this]
  ·have h1 : ¬ s.size = 1:=by cases r with | nil => exact absurd rfl h0 | cons a b => simp at hsz; omega
   rw [if_neg h0,if_neg h1]
   cases he : Lib.parseUintM (2 ^ 64 - 1) 0 r with
   | «syntax» => simp [zcM,zcg]
   | range => simp [zcM,zcg]
   | ok u =>
    by_cases hu : u ≤ 9223372036854775808
    ·have hu' : ¬ 9223372036854775808 < u:=by omega
     simp [zcM,hu,hu',zcg]
    ·have hu' : 9223372036854775808 < u:=by omega
     simp [zcM,hu,hu',zcg]
 ·rename_i hne
  have hb : bare s.data.toList = s.data.toList:=by
   unfold bare; split
   ·rename_i r heq; exact absurd heq (hne r)
   ·rfl
  rw [hb] at h
  have e : zbj s = if s.size = 0 then (0,false) else zcg false (ze4 s 0 0):=by unfold zbj; rw [hm,if_neg (by simp)]
  rw [e,zdM,List.drop_zero]
  have hmag:=zkn s.data.toList 0 h (by omega)
  simp only [Int.ofNat_zero,Int.neg_zero] at hmag
  rw [hmag]
  generalize s.data.toList = l at *
  cases l with
  | nil =>
   have : s.size = 0:=by simpa using hsz.symm
   simp [this,Lib.parseIntB]
  | cons c r =>
   have h1 : ¬ s.size = 0:=by simp at hsz; omega
   rw [if_neg h1]
   simp only [za7,Bool.and_eq_true,decide_eq_true_eq] at h
   have c1 : ¬ c.toNat = 43:=by omega
   have c2 : ¬ c.toNat = 45:=by omega
   have hp : Lib.parseIntB 64 (c :: r) = (match Lib.parseUintB 64 (c :: r) with | .«syntax» => .«syntax» | .range => .range | .ok u => if 9223372036854775808 ≤ u then .range else .ok (u : Int)):=by
    unfold Lib.parseIntB
    simp [c1,c2]
    cases Lib.parseUintB 64 (c :: r) <;> rfl
   rw [hp]
   unfold Lib.parseUintB
   rw [if_neg (by simp)]
   cases he : Lib.parseUintM (2 ^ 64 - 1) 0 (c :: r) with
   | «syntax» => simp [zcM,zcg]
   | range => simp [zcM,zcg]
   | ok u =>
    by_cases hu : 9223372036854775808 ≤ u
    ·by_cases hu2 : u ≤ 9223372036854775808
     ·have hu3 : u = 9223372036854775808:=by omega
      subst hu3
      simp [zcM,zcg,least]
     ·simp [zcM,zcg,hu,hu2]
    ·have hu2 : u ≤ 9223372036854775808:=by omega
     have hu3 : ¬ (-(u : Int)) = least:=by unfold least; omega
     have hu4 : least < -(u : Int):=by unfold least; omega
     simp [zcM,zcg,hu,hu2,hu3,hu4]
end Go.Proofs.YtfpgjkbjbbgciaaGreatDoor.Sp
