import Derived.Test.YtfpgjkbjbbgciaaGreatDoorMf01
import Derived.Test.YtfpgjkbjbbgciaaGreatDoorMf02
import Derived.Test.YtfpgjkbjbbgciaaGreatDoorMf05
set_option maxRecDepth 100000
set_option maxHeartbeats 8000000
namespace Go.Proofs.YtfpgjkbjbbgciaaGreatDoor.Sp
theorem zja (s : ByteArray) (a b c : Nat) (h1 : a ≤ b) (h2 : b ≤ c) : s.extract a b ++ s.extract b c = s.extract a c:=by
 apply ByteArray.ext
 rw [ByteArray.data_append,ByteArray.data_extract,ByteArray.data_extract,ByteArray.data_extract]
 rw [Array.extract_append_extract]
 congr 1 <;> omega
theorem zq0 (s : ByteArray) (a : Nat) : s.extract a a = ByteArray.empty:=by
 apply ByteArray.ext
 rw [ByteArray.data_extract]
 simp
 omega
theorem zm1 (s : ByteArray) (n i : Nat) (now : ByteArray) (l : List ByteArray) (hn : i + n ≤ s.size) (h : ∀ j,i ≤ j → j < i + n → ¬ (bt s j = 32 ∨ bt s j = 9 ∨ bt s j = 59)) : zay s i now l = zay s (i + n) (now ++ s.extract i (i + n)) l:=by
 induction n generalizing i now with
 | zero =>
  rw [Nat.add_zero,zq0]
  congr 1
  simp
 | succ n ih =>
  rw [zdm s i now l (by omega) (h i (by omega) (by omega)),ih (i + 1) _ (by omega) (fun j h1 h2 => h j (by omega) (by omega))]
  rw [show i + 1 + n = i + (n + 1) by omega]
  congr 1
  rw [ByteArray.append_assoc,zja s i (i + 1) (i + (n + 1)) (by omega) (by omega)]
theorem zdL (s : ByteArray) (k i : Nat) (v u : Int) (h : zc3 s i k v = some u) : ∀ j,i ≤ j → j < i + k → 128 ≤ bt s j:=by
 induction k generalizing i v with
 | zero => intro j h1 h2; omega
 | succ k ih =>
  unfold zc3 at h
  split at h
  ·rename_i hc
   intro j h1 h2
   by_cases hj : j = i
   ·subst hj; omega
   ·exact ih _ _ h j (by omega) (by omega)
  ·cases h
theorem zfC (s : ByteArray) (i : Nat) (hi : i < s.size) (h0 : ¬ (chr s i).1 = 0) : (bt s i < 128 ∧ chr s i = (1,bt s i)) ∨ (128 ≤ (chr s i).2 ∧ ∀ j,i ≤ j → j < i + chrN s i → 128 ≤ bt s j):=by
 by_cases h : bt s i < 128
 ·left; exact ⟨h,by unfold chr; rw [if_pos h]⟩
 ·right
  unfold chrN
  unfold chr at h0 ⊢
  rw [if_neg h] at h0 ⊢
  split at h0
  ·rename_i hc
   rw [if_pos hc]
   rcases zaZ 2 128 (zc3 s (i + 1) 1 (bt s i - 192)) with h' | ⟨v,h1,h2,h3,_⟩
   ·rw [h'] at h0; exact absurd rfl h0
   ·rw [h2]
    refine ⟨h3,fun j a b => ?_⟩
    by_cases hj : j = i
    ·subst hj; omega
    ·exact zdL s 1 (i + 1) _ _ h1 j (by omega) (by simp at b; omega)
  ·rename_i hc
   rw [if_neg hc]
   split at h0
   ·rename_i hd
    rw [if_pos hd]
    rcases zaZ 3 2048 (zc3 s (i + 1) 2 (bt s i - 224)) with h' | ⟨v,h1,h2,h3,_⟩
    ·rw [h'] at h0; exact absurd rfl h0
    ·rw [h2]
     refine ⟨by show 128 ≤ v; omega,fun j a b => ?_⟩
     by_cases hj : j = i
     ·subst hj; omega
     ·exact zdL s 2 (i + 1) _ _ h1 j (by omega) (by simp at b; omega)
   ·rename_i hd
    rw [if_neg hd]
    split at h0
    ·rename_i he
     rw [if_pos he]
     rcases zaZ 4 65536 (zc3 s (i + 1) 3 (bt s i - 240)) with h' | ⟨v,h1,h2,h3,_⟩
     ·rw [h'] at h0; exact absurd rfl h0
     ·rw [h2]
      refine ⟨by show 128 ≤ v; omega,fun j a b => ?_⟩
      by_cases hj : j = i
      ·subst hj; omega
      ·exact zdL s 3 (i + 1) _ _ h1 j (by omega) (by simp at b; omega)
    ·exact absurd rfl h0
theorem zdo (s : ByteArray) (i : Nat) (now : ByteArray) (l : List ByteArray) (hi : i < s.size) (h0 : ¬ (chr s i).1 = 0) (hc : ¬ ((chr s i).2 = 32 ∨ (chr s i).2 = 9 ∨ (chr s i).2 = 59)) : zay s i now l = zay s (i + chrN s i) (now ++ s.extract i (i + chrN s i)) l:=by
 have hp:=zcc s i hi h0
 refine zm1 s (chrN s i) i now l (by omega) (fun j h1 h2 => ?_)
 rcases zfC s i hi h0 with ⟨ha,hb⟩ | ⟨_,hb⟩
 ·have hN : chrN s i = 1:=by unfold chrN; rw [hb]; rfl
  have : j = i:=by omega
  subst this
  rw [hb] at hc
  exact hc
 ·have:=hb j h1 h2; omega
theorem zfD (s : ByteArray) (i : Nat) (hi : i < s.size) (h0 : ¬ (chr s i).1 = 0) (hc : (chr s i).2 < 128) : bt s i = (chr s i).2 ∧ chrN s i = 1:=by
 rcases zfC s i hi h0 with ⟨ha,hb⟩ | ⟨hb,_⟩
 ·unfold chrN; rw [hb]; exact ⟨rfl,rfl⟩
 ·omega
def pre (p : List UInt8) : List (List UInt8) → List (List UInt8)
 | h :: t => (p ++ h) :: t
 | [] => [p]
def zbm : List UInt8 → List (List UInt8)
 | [] => [[]]
 | c :: r => if c = 10 then [] :: zbm r else pre [c] (zbm r)
theorem zjc (l : List (List UInt8)) (h : l ≠ []) : pre [] l = l:=by
 cases l with
 | nil => exact absurd rfl h
 | cons a b => rfl
theorem zfF (l : List UInt8) : zbm l ≠ []:=by
 cases l with
 | nil => simp [zbm]
 | cons c r =>
  unfold zbm
  split
  ·simp
  ·cases zbm r <;> simp [pre]
theorem zq1 (p q : List UInt8) (l : List (List UInt8)) : pre p (pre q l) = pre (p ++ q) l:=by
 cases l <;> simp [pre]
theorem zhg (s : ByteArray) (f i : Nat) (hf : f ≤ i) (hi : i ≤ s.size) : (zbl s f i).map (·.data.toList) = pre ((s.data.toList.drop f).take (i - f)) (zbm (s.data.toList.drop i)):=by
 by_cases h : i < s.size
 ·obtain ⟨c,r,h1,h2,h3⟩:=zfE s i h
  by_cases h10 : bt s i = 10
  ·rw [zdE s f i h h10,List.map_cons,zhg s (i + 1) (i + 1) (by omega) (by omega),h1,← h3]
   have hc : c = 10:=by
    apply UInt8.toNat_inj.1
    have : (c.toNat : Int) = 10:=by omega
    simp; omega
   subst hc
   simp only [Nat.sub_self,List.take_zero]
   rw [zjc _ (zfF _)]
   simp [zbm,pre]
  ·rw [ze5 s f i h h10,zhg s f (i + 1) (by omega) (by omega),h1,← h3]
   have hc : ¬ c = 10:=by
    intro e; apply h10; rw [← h2,e]; rfl
   simp only [zbm,hc,if_false]
   rw [zq1]
   congr 1
   have e : i + 1 - f = (i - f) + 1:=by omega
   rw [e,List.take_add_one]
   congr 1
   rw [List.getElem?_drop]
   have e2 : f + (i - f) = i:=by omega
   rw [e2]
   have h5 : s.data.toList[i]? = some c:=by
    have : (s.data.toList.drop i)[0]? = some c:=by rw [h1]; rfl
    rw [List.getElem?_drop] at this
    simpa using this
   rw [h5]; rfl
 ·have hz : i = s.size:=by omega
  rw [zdD s f i h]
  have hl : s.data.toList.drop i = []:=List.drop_of_length_le (by simp; omega)
  rw [hl]
  simp [zbm,pre,hz]
termination_by s.size - i
theorem zq2 (l : List UInt8) : Lib.splitK [10] 0 (Lib.count l [10]) l = zbm l:=by
 induction l with
 | nil => rw [Lib.count_miss (by simp [Lib.index])]; rfl
 | cons c r ih =>
  by_cases hc : c = 10
  ·subst hc
   rw [Lib.count_cons_eq,Nat.add_comm]
   have hix : Lib.index (10 :: r) [10] = 0:=by rw [Lib.index]; simp [List.isPrefixOf]
   unfold Lib.splitK
   rw [hix]
   simp only [zbm,if_true]
   rw [← ih]
   simp
  ·rw [Lib.count_cons_ne c 10 r hc]
   have hp : ([10] : List UInt8).isPrefixOf (c :: r) = false:=by simp [List.isPrefixOf,Ne.symm hc]
   have hix : Lib.index (c :: r) [10] = if Lib.index r [10] == -1 then -1 else Lib.index r [10] + 1:=by rw [Lib.index,hp]; simp
   simp only [zbm,hc,if_false]
   rw [← ih]
   by_cases hm : Lib.index r [10] = -1
   ·rw [Lib.count_miss hm]; rfl
   ·have hge:=Lib.index_ge r [10]
    obtain ⟨j,hj⟩ : ∃ j : Nat,Lib.index r [10] = j:=⟨(Lib.index r [10]).toNat,by omega⟩
    rw [Lib.count_hit (by simp) hj,Nat.add_comm]
    unfold Lib.splitK
    rw [hix,hj]
    have b1 : (((j : Nat) : Int) == -1) = false:=by simp
    have b2 : (((j : Nat) : Int) + 1 == -1) = false:=by simp; omega
    simp only [b1,b2,if_false,Bool.false_eq_true]
    have e1 : ((j : Int) + 1).toNat = j + 1:=by omega
    have e2 : ((j : Nat) : Int).toNat = j:=by omega
    rw [e1,e2]
    simp [pre]
theorem zfG (s : ByteArray) : Lib.splitB ⟨#[10]⟩ 0 (Lib.countB s ⟨#[10]⟩) s = lines s:=by
 have h1 : (Lib.splitB ⟨#[10]⟩ 0 (Lib.countB s ⟨#[10]⟩) s).map (·.data.toList) = (lines s).map (·.data.toList):=by
  rw [Lib.splitB_data]
  have h2:=zhg s 0 0 (by omega) (by omega)
  simp only [List.drop_zero,Nat.sub_self,List.take_zero] at h2
  rw [zjc _ (zfF _)] at h2
  show Lib.splitK [10] 0 (Lib.count s.data.toList [10]) s.data.toList = (zbl s 0 0).map _
  rw [h2,zq2]
 refine (List.map_inj_right ?_).1 h1
 intro a b h
 exact ByteArray.ext (Array.ext' h)
theorem zcB (s : ByteArray) : (lines s).length = Lib.countByte s.data.toList 10 + 1 ∧ Lib.countB s ⟨#[10]⟩ + 1 = (lines s).length:=by
 have h:=Lib.splitB_all ⟨#[10]⟩ (by decide) 0 _ s rfl
 rw [zfG] at h
 refine ⟨?_,h.symm⟩
 rw [h]
 unfold Lib.countByte
 rw [← Lib.count_one]
end Go.Proofs.YtfpgjkbjbbgciaaGreatDoor.Sp
