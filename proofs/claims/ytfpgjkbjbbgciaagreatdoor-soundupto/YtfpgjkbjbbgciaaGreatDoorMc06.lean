import Derived.Test.YtfpgjkbjbbgciaaGreatDoorMc02
import Derived.Test.YtfpgjkbjbbgciaaGreatDoorMc03
import Derived.Lib.ParseIntB
set_option maxRecDepth 100000
set_option maxHeartbeats 8000000
namespace Go.Proofs.YtfpgjkbjbbgciaaGreatDoor.Sp
def numL : List UInt8 → Int → Option Int
 | [],n => some n
 | c :: r,n => if zcT n ((c.toNat : Int) - 48) = true then none else numL r (10 * n - ((c.toNat : Int) - 48))
theorem zjg (s : ByteArray) (i : Nat) (h : i < s.size) : ∃ c r,s.data.toList.drop i = c :: r ∧ (c.toNat : Int) = bt s i ∧ r = s.data.toList.drop (i + 1):=by
 have h' : i < s.data.toList.length:=by simpa using h
 refine ⟨s.data.toList[i],s.data.toList.drop (i + 1),List.drop_eq_getElem_cons h',?_,rfl⟩
 unfold bt
 have h2 : i < s.data.size:=h
 rw [Array.getElem?_eq_getElem h2]
 simp
theorem zgQ (s : ByteArray) (i : Nat) (n : Int) : zc1 s i n = numL (s.data.toList.drop i) n:=by
 by_cases h : i < s.size
 ·obtain ⟨c,r,h1,h2,h3⟩:=zjg s i h
  rw [h1]
  cases hb : zcT n (bt s i - 48) with
  | true => rw [zee s i n h hb]; simp [numL,h2,hb]
  | false =>
   rw [zd5 s i n h (by simp [hb]),zgQ s (i + 1),← h3]
   simp [numL,h2,hb]
 ·rw [zd4 s i n h,List.drop_of_length_le (by simpa using h)]; rfl
termination_by s.size - i
def zaQ : List UInt8 → Bool
 | [] => true
 | c :: r => decide (48 ≤ c.toNat ∧ c.toNat ≤ 57) && zaQ r
theorem zoe (a : Nat) (d : Int) (h0 : 0 ≤ d) (h9 : d ≤ 9) : zcT (-(a : Int)) d = decide (9223372036854775808 < 10 * (a : Int) + d):=by
 unfold zcT
 rw [zg9 d h9]
 by_cases h : 9223372036854775808 < 10 * (a : Int) + d
 ·have : -(a : Int) < -((9223372036854775808 - d) / 10):=by omega
  simp [h,this]
 ·have : ¬ -(a : Int) < -((9223372036854775808 - d) / 10):=by omega
  have h1 : ¬ d < 0:=by omega
  have h2 : ¬ 9 < d:=by omega
  simp [h,this,h1,h2]
theorem zlJ (M : Nat) (l : List UInt8) (a u : Nat) (h : Lib.parseUintM M a l = .ok u) : a ≤ u:=by
 induction l generalizing a with
 | nil => simp [Lib.parseUintM] at h; omega
 | cons c r ih =>
  unfold Lib.parseUintM at h
  split at h
  ·split at h
   ·cases h
   ·split at h
    ·cases h
    ·have:=ih _ h; omega
  ·cases h
def zea : Lib.NumEnd Nat → Option Int
 | .ok u => if u ≤ 9223372036854775808 then some (-(u : Int)) else none
 | _ => none
theorem zmX (l : List UInt8) (a : Nat) (hd : zaQ l = true) (ha : a ≤ 9223372036854775808) : numL l (-(a : Int)) = zea (Lib.parseUintM (2 ^ 64 - 1) a l):=by
 induction l generalizing a with
 | nil => simp [numL,Lib.parseUintM,zea,ha]
 | cons c r ih =>
  simp only [zaQ,Bool.and_eq_true,decide_eq_true_eq] at hd
  obtain ⟨hc,hr⟩:=hd
  unfold numL Lib.parseUintM
  rw [if_pos hc,zoe a _ (by omega) (by omega)]
  by_cases hb : 9223372036854775808 < 10 * (a : Int) + ((c.toNat : Int) - 48)
  ·rw [if_pos (by simpa using hb)]
   split
   ·rfl
   ·split
    ·rfl
    ·cases he : Lib.parseUintM (2 ^ 64 - 1) (a * 10 + (c.toNat - 48)) r with
     | ok u =>
      have:=zlJ _ _ _ _ he
      simp [zea]; omega
     | «syntax» => rfl
     | range => rfl
  ·rw [if_neg (by simpa using hb),if_neg (by omega),if_neg (by omega)]
   have e : 10 * -(a : Int) - ((c.toNat : Int) - 48) = -((a * 10 + (c.toNat - 48) : Nat) : Int):=by omega
   rw [e]
   exact ih _ hr (by omega)
theorem zmY (l : List UInt8) (n : Int) (hd : zaQ l = false) : numL l n = none:=by
 induction l generalizing n with
 | nil => simp [zaQ] at hd
 | cons c r ih =>
  unfold numL
  cases hb : zcT n ((c.toNat : Int) - 48) with
  | true => rfl
  | false =>
   have hr : zaQ r = false:=by
    simp only [zaQ] at hd
    have hc : 48 ≤ c.toNat ∧ c.toNat ≤ 57:=by
     simp [zcT] at hb
     omega
    simpa [hc] using hd
   simp only [Bool.false_eq_true,if_false]
   exact ih _ hr
def bare (l : List UInt8) : List UInt8:=match l with | 45 :: r => r | l => l
theorem zio (s : ByteArray) : zdl s = (match s.data.toList with | 45 :: _ => true | _ => false):=by
 by_cases h : 0 < s.size
 ·obtain ⟨c,r,h1,h2,_⟩:=zjg s 0 h
  rw [List.drop_zero] at h1
  rw [h1]
  unfold zdl
  rw [← h2]
  by_cases hc : c = 45
  ·subst hc; simp [h]
  ·have : ¬ (c.toNat : Int) = 45:=by
    intro e; apply hc; exact UInt8.toNat_inj.1 (by simp; omega)
   simp [h,this]
   split
   ·rename_i heq; simp at heq; exact absurd heq.1 hc
   ·rfl
 ·have h0 : s.data.toList = []:=List.eq_nil_of_length_eq_zero (by simpa using h)
  rw [h0]
  simp [zdl,h]
theorem zsQ (s : ByteArray) (h : zaQ (bare s.data.toList) = false) : (za6 s).2 = false:=by
 have hm:=zio s
 unfold za6
 split at hm
 ·rename_i r heq
  rw [hm,if_pos rfl]
  rw [heq] at h
  split
  ·rfl
  ·rw [zgQ,heq]
   simp only [List.drop_succ_cons,List.drop_zero]
   rw [zmY r 0 (by simpa [bare] using h)]; rfl
 ·rename_i hne
  rw [hm,if_neg (by simp)]
  have hb : bare s.data.toList = s.data.toList:=by
   unfold bare; split
   ·rename_i r heq; exact absurd heq (hne r)
   ·rfl
  rw [hb] at h
  split
  ·rfl
  ·rw [zgQ,List.drop_zero,zmY _ 0 h]; rfl
theorem zsR (s : ByteArray) (h : zaQ (bare s.data.toList) = true) : (∀ v,Lib.parseIntB 64 s.data.toList = .ok v → za6 s = (v,true)) ∧ (Lib.parseIntB 64 s.data.toList = .«syntax» → (za6 s).2 = false) ∧ (Lib.parseIntB 64 s.data.toList = .range → (za6 s).2 = false):=by
 have hm:=zio s
 have hsz : s.data.toList.length = s.size:=by simp
 split at hm
 ·rename_i r heq
  have hr : zaQ r = true:=by rw [heq] at h; simpa [bare] using h
  rw [heq] at hsz ⊢
  have e : za6 s = if s.size = 1 then (0,false) else zbj true (zc1 s 1 0):=by unfold za6; rw [hm,if_pos rfl]
  rw [e,zgQ,heq]
  simp only [List.drop_succ_cons,List.drop_zero]
  have hmag:=zmX r 0 hr (by omega)
  simp only [Int.ofNat_zero,Int.neg_zero] at hmag
  rw [hmag]
  simp only [List.length_cons] at hsz
  have hp : Lib.parseIntB 64 (45 :: r) = (match Lib.parseUintB 64 r with | .«syntax» => .«syntax» | .range => .range | .ok u => if 9223372036854775808 < u then .range else .ok (-(u : Int))):=by
   unfold Lib.parseIntB
   simp
   cases Lib.parseUintB 64 r <;> rfl
  rw [hp]
  unfold Lib.parseUintB
  by_cases h0 : r = []
  ·subst h0
   have : s.size = 1:=by simp at hsz; omega
   simp [this]
  ·have h1 : ¬ s.size = 1:=by cases r with | nil => exact absurd rfl h0 | cons a b => simp at hsz; omega
   rw [if_neg h0,if_neg h1]
   cases he : Lib.parseUintM (2 ^ 64 - 1) 0 r with
   | «syntax» => simp [zea,zbj]
   | range => simp [zea,zbj]
   | ok u =>
    by_cases hu : u ≤ 9223372036854775808
    ·have hu' : ¬ 9223372036854775808 < u:=by omega
     simp [zea,hu,hu',zbj]
    ·have hu' : 9223372036854775808 < u:=by omega
     simp [zea,hu,hu',zbj]
 ·rename_i hne
  have hb : bare s.data.toList = s.data.toList:=by
   unfold bare; split
   ·rename_i r heq; exact absurd heq (hne r)
   ·rfl
  rw [hb] at h
  have e : za6 s = if s.size = 0 then (0,false) else zbj false (zc1 s 0 0):=by unfold za6; rw [hm,if_neg (by simp)]
  rw [e,zgQ,List.drop_zero]
  have hmag:=zmX s.data.toList 0 h (by omega)
  simp only [Int.ofNat_zero,Int.neg_zero] at hmag
  rw [hmag]
  generalize s.data.toList = l at *
  cases l with
  | nil =>
   have : s.size = 0:=by simpa using hsz.symm
   simp [this,Lib.parseIntB]
  | cons c r =>
   have h1 : ¬ s.size = 0:=by simp at hsz; omega
   rw [if_neg h1]
   simp only [zaQ,Bool.and_eq_true,decide_eq_true_eq] at h
   have c1 : ¬ c.toNat = 43:=by omega
   have c2 : ¬ c.toNat = 45:=by omega
   have hp : Lib.parseIntB 64 (c :: r) = (match Lib.parseUintB 64 (c :: r) with | .«syntax» => .«syntax» | .range => .range | .ok u => if 9223372036854775808 ≤ u then .range else .ok (u : Int)):=by
    unfold Lib.parseIntB
    simp [c1,c2]
    cases Lib.parseUintB 64 (c :: r) <;> rfl
   rw [hp]
   unfold Lib.parseUintB
   rw [if_neg (by simp)]
   cases he : Lib.parseUintM (2 ^ 64 - 1) 0 (c :: r) with
   | «syntax» => simp [zea,zbj]
   | range => simp [zea,zbj]
   | ok u =>
    by_cases hu : 9223372036854775808 ≤ u
    ·by_cases hu2 : u ≤ 9223372036854775808
     ·have hu3 : u = 9223372036854775808:=by omega
      subst hu3
      simp [zea,zbj,least]
     ·simp [zea,zbj,hu,hu2]
    ·have hu2 : u ≤ 9223372036854775808:=by omega
     have hu3 : ¬ (-(u : Int)) = least:=by unfold least; omega
     have hu4 : least < -(u : Int):=by unfold least; omega
     simp [zea,zbj,hu,hu2,hu3,hu4]
end Go.Proofs.YtfpgjkbjbbgciaaGreatDoor.Sp
namespace Go.Proofs.YtfpgjkbjbbgciaaGreatDoor
open Go.RowKit Sp
theorem zgA (now : ByteArray) (l : List ByteArray) (h : now.size = 0) : zeO now l = l:=by unfold zeO; rw [if_pos h]
theorem zcV (now : ByteArray) (l : List ByteArray) (h : ¬ now.size = 0) : zeO now l = l ++ [now]:=by unfold zeO; rw [if_neg h]
theorem zqg (b : Int) : ((b != 32) = true ∧ (b != 9) = true ∧ (b != 59) = true ∧ ¬ (b = 32 ∨ b = 9 ∨ b = 59)) ∨ ((b != 32) = false ∧ (b == 59) = false ∧ b = 32) ∨ ((b != 32) = true ∧ (b != 9) = false ∧ (b == 59) = false ∧ b = 9) ∨ ((b != 32) = true ∧ (b != 9) = true ∧ (b != 59) = false ∧ (b == 59) = true ∧ b = 59):=by
 by_cases h1 : b = 32
 ·subst h1; simp
 ·by_cases h2 : b = 9
  ·subst h2; simp
  ·by_cases h3 : b = 59
   ·subst h3; simp
   ·left; simp [h1,h2,h3]
theorem zqh (now s : ByteArray) (k : Nat) (h : k < s.size) : (now ++ s.extract k (k + 1)).size = now.size + 1:=by
 rw [ByteArray.size_append,ByteArray.size_extract]; omega
theorem zgT (s : ByteArray) (w : World) (hs : s.size ≤ 1048576) :
  Calls Tryz.prog 72 #[.string s] w fun e w' => ∃ v,e = .returned v ∧ w'.ownsRow w.heap.size 9 1 v (words s).length ((words s).map Value.string) ∧ Below w.heap.size w w':=by
 obtain ⟨i0,hi,hz0,hz1,hz2⟩:=info_parts Tryz.info9
 go_enter Tryz.func72,Tryz.ntmps72
 go_wp2
 go_loopw [3,4,5] (fun v tn ti wr => ∃ (k : Nat) (now : ByteArray) (acc : List ByteArray),now.size ≤ k ∧ acc.length ≤ k ∧ ti = .int .i64 (k : Int) ∧ tn = .string now ∧ wr.ownsRow w.heap.size 9 1 v acc.length (acc.map Value.string) ∧ Below w.heap.size w wr ∧ (k ≤ s.size ∧ words s = zax s k now acc ∨ k = s.size + 1 ∧ words s = acc)) (fun _ _ ti _ => s.size + 1 - (intOf ti).toNat)
 case atStart => exact ⟨0,ByteArray.empty,[],by simp,by simp,rfl,rfl,World.ownsRow_nil _ _ _ _,Below.refl _ _,.inl ⟨by omega,rfl⟩⟩
 case round =>
  obtain ⟨k,now,acc,hn,hacc,rfl,rfl,hown,hnx,hR⟩:=hrel
  have HR : Hid (k ≤ s.size ∧ words s = zax s k now acc ∨ k = s.size + 1 ∧ words s = acc):=hR
  clear hR
  have hsz:=hnx.size
  by_cases hlt : k < s.size
  ·have HW : Hid (words s = zax s k now acc):=by rcases HR.out with h | h; exact h.2; omega
   clear HR
   have hc0 : 0 ≤ (s[k].toNat : Int):=by omega
   have hc1 : (s[k].toNat : Int) ≤ 255:=by have:=s[k].toNat_lt; omega
   have HE : Hid ((s[k].toNat : Int) = bt s k):=zd3 s k hlt
   rcases zqg (s[k].toNat : Int) with ⟨h1,h2,h3,h4⟩ | ⟨h1,h3,h4⟩ | ⟨h1,h2,h3,h4⟩ | ⟨h1,h2,h3,h5,h4⟩
   ·have HF : Hid (words s = zax s (k + 1) (now ++ s.extract k (k + 1)) acc):=by
     rw [HW.out,ze2 s k now acc hlt (by have:=HE.out; omega)]; rfl
    have hnow:=zqh now s k hlt
    have HN : Hid ((now ++ s.extract k (k + 1)).size = now.size + 1):=hnow
    clear hnow h4
    go_wp2
    go_roundw
    case rel => exact ⟨k + 1,now ++ s.extract k (k + 1),acc,by have:=HN.out; omega,by omega,by go_num,rfl,hown,hnx,.inl ⟨by omega,HF.out⟩⟩
    case measure => simp [intOf]; omega
   ·have H4 : Hid ((s[k].toNat : Int) = 32):=h4
    clear h4
    by_cases hz : now.size = 0
    ·have he:=zcE now hz
     have HF : Hid (words s = zax s (k + 1) ByteArray.empty acc):=by
      rw [HW.out,zbo s k now acc hlt (by have:=HE.out; have:=H4.out; omega),zgA now acc hz]; rfl
     go_wp2
     go_roundw
     case rel => exact ⟨k + 1,ByteArray.empty,acc,by simp,by omega,by go_num,rfl,hown,hnx,.inl ⟨by omega,HF.out⟩⟩
     case measure => simp [intOf]; omega
    ·have he:=zdi now hz
     have HF : Hid (words s = zax s (k + 1) ByteArray.empty (acc ++ [now])):=by
      rw [HW.out,zbo s k now acc hlt (by have:=HE.out; have:=H4.out; omega),zcV now acc hz]; rfl
     go_wp2_with (at_builtin; refine wpList_append_own _ rfl _ _ 67 rfl w.heap.size 9 i0 (.string ByteArray.empty) 1 16 Tryz.under67 hi hz0 hz1 hz2 rfl (by decide) _ _ _ rfl (hown.alloc _) ⟨wr.heap.size,0,none⟩ 1 1 [.string now] rfl rfl (cell_one_new _ _ _) (zcQ _) (by unfold maxLen; omega) (by omega) (by simp; omega) ?_)
     intro v' w1 hown' hgrow _
     have hb1:=ze6 hown hsz hnx hgrow
     clear hgrow
     go_wp2
     go_roundw
     case rel => exact ⟨k + 1,ByteArray.empty,acc ++ [now],by simp,by simp; omega,by go_num,rfl,by simpa using hown',hb1,.inl ⟨by omega,HF.out⟩⟩
     case measure => simp [intOf]; omega
   ·have H4 : Hid ((s[k].toNat : Int) = 9):=h4
    clear h4
    by_cases hz : now.size = 0
    ·have he:=zcE now hz
     have HF : Hid (words s = zax s (k + 1) ByteArray.empty acc):=by
      rw [HW.out,zbo s k now acc hlt (by have:=HE.out; have:=H4.out; omega),zgA now acc hz]; rfl
     go_wp2
     go_roundw
     case rel => exact ⟨k + 1,ByteArray.empty,acc,by simp,by omega,by go_num,rfl,hown,hnx,.inl ⟨by omega,HF.out⟩⟩
     case measure => simp [intOf]; omega
    ·have he:=zdi now hz
     have HF : Hid (words s = zax s (k + 1) ByteArray.empty (acc ++ [now])):=by
      rw [HW.out,zbo s k now acc hlt (by have:=HE.out; have:=H4.out; omega),zcV now acc hz]; rfl
     go_wp2_with (at_builtin; refine wpList_append_own _ rfl _ _ 67 rfl w.heap.size 9 i0 (.string ByteArray.empty) 1 16 Tryz.under67 hi hz0 hz1 hz2 rfl (by decide) _ _ _ rfl (hown.alloc _) ⟨wr.heap.size,0,none⟩ 1 1 [.string now] rfl rfl (cell_one_new _ _ _) (zcQ _) (by unfold maxLen; omega) (by omega) (by simp; omega) ?_)
     intro v' w1 hown' hgrow _
     have hb1:=ze6 hown hsz hnx hgrow
     clear hgrow
     go_wp2
     go_roundw
     case rel => exact ⟨k + 1,ByteArray.empty,acc ++ [now],by simp,by simp; omega,by go_num,rfl,by simpa using hown',hb1,.inl ⟨by omega,HF.out⟩⟩
     case measure => simp [intOf]; omega
   ·have H4 : Hid ((s[k].toNat : Int) = 59):=h4
    clear h4
    by_cases hz : now.size = 0
    ·have he:=zcE now hz
     have HF : Hid (words s = acc):=by
      rw [HW.out,zcr s k now acc hlt (by have:=HE.out; have:=H4.out; omega),zgA now acc hz]; rfl
     go_wp2
     go_ret
     exact ⟨_,rfl,by rw [HF.out]; exact hown,hnx⟩
    ·have he:=zdi now hz
     have HF : Hid (words s = acc ++ [now]):=by
      rw [HW.out,zcr s k now acc hlt (by have:=HE.out; have:=H4.out; omega),zcV now acc hz]; rfl
     go_wp2_with (at_builtin; refine wpList_append_own _ rfl _ _ 67 rfl w.heap.size 9 i0 (.string ByteArray.empty) 1 16 Tryz.under67 hi hz0 hz1 hz2 rfl (by decide) _ _ _ rfl (hown.alloc _) ⟨wr.heap.size,0,none⟩ 1 1 [.string now] rfl rfl (cell_one_new _ _ _) (zcQ _) (by unfold maxLen; omega) (by omega) (by simp; omega) ?_)
     intro v' w1 hown' hgrow _
     have hb1:=ze6 hown hsz hnx hgrow
     clear hgrow
     go_wp2
     go_ret
     exact ⟨_,rfl,by rw [HF.out]; simpa using hown',hb1⟩
  ·by_cases heq : k = s.size
   ·have HW : Hid (words s = zax s k now acc):=by rcases HR.out with h | h; exact h.2; omega
    clear HR
    have HQ : Hid (k = s.size):=heq
    have hle : k ≤ s.size:=by omega
    clear heq
    by_cases hz : now.size = 0
    ·have he:=zcE now hz
     have HF : Hid (words s = acc):=by
      rw [HW.out,zcF s k now acc hlt,zgA now acc hz]; rfl
     go_wp2
     go_roundw
     case rel => exact ⟨k + 1,ByteArray.empty,acc,by simp,by omega,by go_num,rfl,hown,hnx,.inr ⟨by have:=HQ.out; omega,HF.out⟩⟩
     case measure => simp [intOf]; omega
    ·have he:=zdi now hz
     have HF : Hid (words s = acc ++ [now]):=by
      rw [HW.out,zcF s k now acc hlt,zcV now acc hz]; rfl
     go_wp2_with (at_builtin; refine wpList_append_own _ rfl _ _ 67 rfl w.heap.size 9 i0 (.string ByteArray.empty) 1 16 Tryz.under67 hi hz0 hz1 hz2 rfl (by decide) _ _ _ rfl (hown.alloc _) ⟨wr.heap.size,0,none⟩ 1 1 [.string now] rfl rfl (cell_one_new _ _ _) (zcQ _) (by unfold maxLen; omega) (by omega) (by simp; omega) ?_)
     intro v' w1 hown' hgrow _
     have hb1:=ze6 hown hsz hnx hgrow
     clear hgrow
     go_wp2
     go_roundw
     case rel => exact ⟨k + 1,ByteArray.empty,acc ++ [now],by simp,by simp; omega,by go_num,rfl,by simpa using hown',hb1,.inr ⟨by have:=HQ.out; omega,HF.out⟩⟩
     case measure => simp [intOf]; omega
   ·have hgt : s.size < k:=by omega
    have HF : Hid (words s = acc):=by
     rcases HR.out with h | h
     ·omega
     ·exact h.2
    clear HR
    go_wp2
    go_ret
    exact ⟨_,rfl,by rw [HF.out]; exact hown,hnx⟩
end Go.Proofs.YtfpgjkbjbbgciaaGreatDoor
