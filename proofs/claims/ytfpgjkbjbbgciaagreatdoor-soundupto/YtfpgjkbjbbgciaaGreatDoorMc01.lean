import Derived.Test.YtfpgjkbjbbgciaaGreatDoorMc00
import Derived.Test.YtfpgjkbjbbgciaaGreatDoorProg
import Derived.WalkKit
import Derived.WalkSpells
import Derived.WalkLawsBesides
set_option maxRecDepth 100000
set_option maxHeartbeats 8000000
namespace Go.Proofs.YtfpgjkbjbbgciaaGreatDoor
open Go.RowKit Sp
theorem zbH {k : IntKind} {a b : Int} (h : a = b) : Ending.returned (.int k a) = .returned (.int k b):=by rw [h]
theorem zjR (s : ByteArray) (h : ¬ (s.size = 2 ∧ bt s 0 = 114 ∧ 48 ≤ bt s 1 ∧ bt s 1 ≤ 55)) : (-1 : Int) = reg s:=by
 unfold reg regB; simp; omega
theorem zpU (s : ByteArray) (h : s.size = 2) (h0 : bt s 0 = 114) (h1 : 48 ≤ bt s 1) (h2 : bt s 1 ≤ 55) : bt s 1 - 48 = reg s:=by
 unfold reg regB; simp [h,h0,h1,h2]
theorem zlD (s : ByteArray) (w : World) (_hs : s.size ≤ maxLen) :
  Calls Tryz.prog 75 #[.string s] w fun e w' => e = .returned (.int .i64 (reg s)) ∧ w' = w:=by
 unfold maxLen at _hs
 by_cases h : s.size = 2
 ·have e0:=zd3 s 0 (by omega)
  have e1:=zd3 s 1 (by omega)
  have H0 : Hid (((s[0]'(by omega)).toNat : Int) = bt s 0):=e0
  have H1 : Hid (((s[1]'(by omega)).toNat : Int) = bt s 1):=e1
  clear e0 e1
  go_enter Tryz.func75,Tryz.ntmps75
  go_wp2
  all_goals go_ret
  all_goals have e0:=H0.out
  all_goals have e1:=H1.out
  ·exact ⟨zbH (zjR s (by omega)),rfl⟩
  ·exact ⟨zbH (by rw [e1]; exact zpU s h (by omega) (by omega) (by omega)),rfl⟩
  ·exact ⟨zbH (zjR s (by omega)),rfl⟩
  ·exact ⟨zbH (zjR s (by omega)),rfl⟩
 ·go_enter Tryz.func75,Tryz.ntmps75
  go_wp2
  go_ret
  exact ⟨zbH (zjR s (by omega)),rfl⟩
theorem znX (s : ByteArray) (i k : Nat) (v : Int) (h : i < s.size) (h1 : 128 ≤ bt s i) (h2 : bt s i ≤ 191) : zb7 s i (k + 1) v = zb7 s (i + 1) k (64 * v + bt s i - 128):=by
 simp [zb7,h,h1,h2]
theorem zsD (s : ByteArray) (i k : Nat) (v : Int) (h : ¬ (i < s.size ∧ 128 ≤ bt s i ∧ bt s i ≤ 191)) : zb7 s i (k + 1) v = none:=by
 unfold zb7; rw [if_neg h]
theorem znY (n least v : Int) (h : v < least ∨ 1114111 < v ∨ (55296 ≤ v ∧ v ≤ 57343)) : zaL n least (some v) = (0,0):=by
 unfold zaL; exact if_pos h
theorem zlE (n least v : Int) (h : ¬ (v < least ∨ 1114111 < v ∨ (55296 ≤ v ∧ v ≤ 57343))) : zaL n least (some v) = (n,v):=by
 unfold zaL; exact if_neg h
theorem zez (s : ByteArray) (R : Int × Int) (n least v : Int) (j m : Nat) (hR : R = zaL n least (zb7 s j m v)) (hm : 0 < m) (h : ¬ (j < s.size ∧ 128 ≤ bt s j ∧ bt s j ≤ 191)) : 0 = R.1 ∧ 0 = R.2:=by
 obtain ⟨k,rfl⟩ : ∃ k,m = k + 1:=⟨m - 1,by omega⟩
 rw [hR,zsD s j k v h]; exact ⟨rfl,rfl⟩
theorem zjd (s : ByteArray) (R : Int × Int) (n least v : Int) (j m : Nat) (hR : R = zaL n least (zb7 s j m v)) (hm : 0 < m) (h0 : j < s.size) (h1 : 128 ≤ bt s j) (h2 : bt s j ≤ 191) : R = zaL n least (zb7 s (j + 1) (m - 1) (64 * v + bt s j - 128)):=by
 obtain ⟨k,rfl⟩ : ∃ k,m = k + 1:=⟨m - 1,by omega⟩
 rw [hR,znX s j k v h0 h1 h2]; rfl
theorem zlF (s : ByteArray) (R : Int × Int) (n least v : Int) (j m : Nat) (hR : R = zaL n least (zb7 s j m v)) (hm : m = 0) : R = zaL n least (some v):=by
 subst hm; rw [hR]; rfl
theorem zeM (R : Int × Int) (n least v : Int) (hR : R = zaL n least (some v)) (h : v < least ∨ 1114111 < v ∨ (55296 ≤ v ∧ v ≤ 57343)) : 0 = R.1 ∧ 0 = R.2:=by
 rw [hR,znY _ _ _ h]; exact ⟨rfl,rfl⟩
theorem zec (R : Int × Int) (n least v : Int) (hR : R = zaL n least (some v)) (h : ¬ (v < least ∨ 1114111 < v ∨ (55296 ≤ v ∧ v ≤ 57343))) : n = R.1 ∧ v = R.2:=by
 rw [hR,zlE _ _ _ h]; exact ⟨rfl,rfl⟩
theorem zcn {k l : IntKind} {a b : Int} {R : Int × Int} (h : a = R.1 ∧ b = R.2) : Ending.returned (.tuple #[.int k a,.int l b]) = .returned (.tuple #[.int k R.1,.int l R.2]):=by rw [h.1,h.2]
theorem zwJ (s : ByteArray) (i : Nat) (R : Int × Int) (h : chr s i = R) (b : Int) (e : b = bt s i) (h1 : b < 128) : (1 : Int) = R.1 ∧ b = R.2:=by
 subst e; rw [← h]; unfold chr; rw [if_pos h1]; exact ⟨rfl,rfl⟩
theorem zwK (s : ByteArray) (i : Nat) (R : Int × Int) (h : chr s i = R) (b : Int) (e : b = bt s i) (h1 : 194 ≤ b) (h2 : b < 224) : R = zaL 2 128 (zb7 s (i + 1) 1 (b - 192)):=by
 subst e; rw [← h]; unfold chr; rw [if_neg (by omega),if_pos ⟨h1,h2⟩]
theorem zwL (s : ByteArray) (i : Nat) (R : Int × Int) (h : chr s i = R) (b : Int) (e : b = bt s i) (h1 : 224 ≤ b) (h2 : b < 240) : R = zaL 3 2048 (zb7 s (i + 1) 2 (b - 224)):=by
 subst e; rw [← h]; unfold chr; rw [if_neg (by omega),if_neg (by omega),if_pos ⟨h1,h2⟩]
theorem zwM (s : ByteArray) (i : Nat) (R : Int × Int) (h : chr s i = R) (b : Int) (e : b = bt s i) (h1 : 240 ≤ b) (h2 : b < 245) : R = zaL 4 65536 (zb7 s (i + 1) 3 (b - 240)):=by
 subst e; rw [← h]; unfold chr; rw [if_neg (by omega),if_neg (by omega),if_neg (by omega),if_pos ⟨h1,h2⟩]
theorem zwj (s : ByteArray) (i : Nat) (R : Int × Int) (h : chr s i = R) (b : Int) (e : b = bt s i) (h1 : 128 ≤ b) (h2 : b < 194 ∨ 245 ≤ b) : (0 : Int) = R.1 ∧ (0 : Int) = R.2:=by
 subst e; rw [← h]; unfold chr; rw [if_neg (by omega),if_neg (by omega),if_neg (by omega),if_neg (by omega)]; exact ⟨rfl,rfl⟩
theorem zsE (s : ByteArray) (i : Nat) (w : World) (_hs : s.size ≤ 140737488355328) (hi : i < s.size) (R : Int × Int) (HR : Hid (chr s i = R)) (h1 : (s[i].toNat : Int) < 128) :
  Calls Tryz.prog 106 #[.string s,.int .i64 (i : Int)] w fun e w' => e = .returned (.tuple #[.int .i64 R.1,.int .i64 R.2]) ∧ w' = w:=by
 have hb0 : 0 ≤ (s[i].toNat : Int):=by omega
 have hb1 : (s[i].toNat : Int) ≤ 255:=by have:=s[i].toNat_lt; omega
 have HE0 : Hid ((s[i].toNat : Int) = bt s i):=zd3 s i hi
 go_enter Tryz.func106,Tryz.ntmps106
 go_wp2
 go_ret2
 exact ⟨zcn (zwJ s i R HR.out _ HE0.out (by omega)),rfl⟩
theorem zsF (s : ByteArray) (i : Nat) (w : World) (_hs : s.size ≤ 140737488355328) (hi : i < s.size) (R : Int × Int) (HR : Hid (chr s i = R)) (h1 : 128 ≤ (s[i].toNat : Int)) (h2 : (s[i].toNat : Int) < 194) :
  Calls Tryz.prog 106 #[.string s,.int .i64 (i : Int)] w fun e w' => e = .returned (.tuple #[.int .i64 R.1,.int .i64 R.2]) ∧ w' = w:=by
 have hb0 : 0 ≤ (s[i].toNat : Int):=by omega
 have hb1 : (s[i].toNat : Int) ≤ 255:=by have:=s[i].toNat_lt; omega
 have HE0 : Hid ((s[i].toNat : Int) = bt s i):=zd3 s i hi
 go_enter Tryz.func106,Tryz.ntmps106
 go_wp2
 go_ret2
 exact ⟨zcn (zwj s i R HR.out _ HE0.out (by omega) (by omega)),rfl⟩
theorem zsG (s : ByteArray) (i : Nat) (w : World) (_hs : s.size ≤ 140737488355328) (hi : i < s.size) (R : Int × Int) (HR : Hid (chr s i = R)) (h1 : 245 ≤ (s[i].toNat : Int)) :
  Calls Tryz.prog 106 #[.string s,.int .i64 (i : Int)] w fun e w' => e = .returned (.tuple #[.int .i64 R.1,.int .i64 R.2]) ∧ w' = w:=by
 have hb0 : 0 ≤ (s[i].toNat : Int):=by omega
 have hb1 : (s[i].toNat : Int) ≤ 255:=by have:=s[i].toNat_lt; omega
 have HE0 : Hid ((s[i].toNat : Int) = bt s i):=zd3 s i hi
 go_enter Tryz.func106,Tryz.ntmps106
 go_wp2
 go_ret2
 exact ⟨zcn (zwj s i R HR.out _ HE0.out (by omega) (by omega)),rfl⟩
theorem zsH (s : ByteArray) (i : Nat) (w : World) (hs : s.size ≤ 140737488355328) (hi : i < s.size) (R : Int × Int) (HR : Hid (chr s i = R)) (h1 : 194 ≤ (s[i].toNat : Int)) (h2 : (s[i].toNat : Int) < 224) :
  Calls Tryz.prog 106 #[.string s,.int .i64 (i : Int)] w fun e w' => e = .returned (.tuple #[.int .i64 R.1,.int .i64 R.2]) ∧ w' = w:=by
 have hb0 : 0 ≤ (s[i].toNat : Int):=by omega
 have hb1 : (s[i].toNat : Int) ≤ 255:=by have:=s[i].toNat_lt; omega
 have HE0 : Hid ((s[i].toNat : Int) = bt s i):=zd3 s i hi
 go_enter Tryz.func106,Tryz.ntmps106
 go_wp2
 go_loop [9,10] (fun tv ti => ∃ (j : Nat) (v : Int),j ≤ i + 2 ∧ ti = .int .i64 (j : Int) ∧ tv = .int .i64 v ∧ 0 ≤ v ∧ (j = i + 1 ∧ v ≤ 31 ∨ j = i + 2 ∧ v ≤ 2047 ∨ j = i + 3 ∧ v ≤ 131071 ∨ j = i + 4 ∧ v ≤ 8388607) ∧ R = zaL ((2 : Nat) : Int) 128 (zb7 s j (i + 2 - j) v)) (fun _ ti => i + 2 - (intOf ti).toNat)
 case atStart => exact ⟨i + 1,(s[i].toNat : Int) - 192,by omega,by go_num,rfl,by omega,by omega,(zwK s i R HR.out _ HE0.out (by omega) (by omega)).trans (by rw [show i + 2 - (i + 1) = 2 - 1 from by omega]; rfl)⟩
 case round =>
  obtain ⟨j,v,hj,rfl,rfl,hv,hd,hR⟩:=hrel
  have HR2 : Hid (R = zaL ((2 : Nat) : Int) 128 (zb7 s j (i + 2 - j) v)):=hR
  clear hR
  by_cases hlt : j < i + 2
  ·by_cases hlen : j < s.size
   ·have hc0 : 0 ≤ (s[j].toNat : Int):=by omega
    have hc1 : (s[j].toNat : Int) ≤ 255:=by have:=s[j].toNat_lt; omega
    have HE : Hid ((s[j].toNat : Int) = bt s j):=zd3 s j hlen
    go_wp2
    all_goals first
     | (go_ret2; have e:=HE.out; exact ⟨zcn (zez s R _ _ v j _ HR2.out (by omega) (by omega)),rfl⟩)
     | (go_round
        case rel => have e:=HE.out; exact ⟨j + 1,64 * v + bt s j - 128,by omega,by go_num,by rw [← e],by omega,by omega,(zjd s R _ _ v j _ HR2.out (by omega) hlen (by omega) (by omega)).trans (by rw [show i + 2 - j - 1 = i + 2 - (j + 1) from by omega])⟩
        case measure => simp [intOf]; omega)
   ·go_wp2
    go_ret2
    exact ⟨zcn (zez s R _ _ v j _ HR2.out (by omega) (by omega)),rfl⟩
  ·have HF : Hid (R = zaL ((2 : Nat) : Int) 128 (some v)):=zlF s R _ _ v j _ HR2.out (by omega)
   go_wp2
   all_goals
    go_ret2
    first
     | exact ⟨zcn (zeM R _ _ v HF.out (by omega)),rfl⟩
     | exact ⟨zcn (zec R _ _ v HF.out (by omega)),rfl⟩
theorem zsI (s : ByteArray) (i : Nat) (w : World) (hs : s.size ≤ 140737488355328) (hi : i < s.size) (R : Int × Int) (HR : Hid (chr s i = R)) (h1 : 224 ≤ (s[i].toNat : Int)) (h2 : (s[i].toNat : Int) < 240) :
  Calls Tryz.prog 106 #[.string s,.int .i64 (i : Int)] w fun e w' => e = .returned (.tuple #[.int .i64 R.1,.int .i64 R.2]) ∧ w' = w:=by
 have hb0 : 0 ≤ (s[i].toNat : Int):=by omega
 have hb1 : (s[i].toNat : Int) ≤ 255:=by have:=s[i].toNat_lt; omega
 have HE0 : Hid ((s[i].toNat : Int) = bt s i):=zd3 s i hi
 go_enter Tryz.func106,Tryz.ntmps106
 go_wp2
 go_loop [9,10] (fun tv ti => ∃ (j : Nat) (v : Int),j ≤ i + 3 ∧ ti = .int .i64 (j : Int) ∧ tv = .int .i64 v ∧ 0 ≤ v ∧ (j = i + 1 ∧ v ≤ 31 ∨ j = i + 2 ∧ v ≤ 2047 ∨ j = i + 3 ∧ v ≤ 131071 ∨ j = i + 4 ∧ v ≤ 8388607) ∧ R = zaL ((3 : Nat) : Int) 2048 (zb7 s j (i + 3 - j) v)) (fun _ ti => i + 3 - (intOf ti).toNat)
 case atStart => exact ⟨i + 1,(s[i].toNat : Int) - 224,by omega,by go_num,rfl,by omega,by omega,(zwL s i R HR.out _ HE0.out (by omega) (by omega)).trans (by rw [show i + 3 - (i + 1) = 3 - 1 from by omega]; rfl)⟩
 case round =>
  obtain ⟨j,v,hj,rfl,rfl,hv,hd,hR⟩:=hrel
  have HR2 : Hid (R = zaL ((3 : Nat) : Int) 2048 (zb7 s j (i + 3 - j) v)):=hR
  clear hR
  by_cases hlt : j < i + 3
  ·by_cases hlen : j < s.size
   ·have hc0 : 0 ≤ (s[j].toNat : Int):=by omega
    have hc1 : (s[j].toNat : Int) ≤ 255:=by have:=s[j].toNat_lt; omega
    have HE : Hid ((s[j].toNat : Int) = bt s j):=zd3 s j hlen
    go_wp2
    all_goals first
     | (go_ret2; have e:=HE.out; exact ⟨zcn (zez s R _ _ v j _ HR2.out (by omega) (by omega)),rfl⟩)
     | (go_round
        case rel => have e:=HE.out; exact ⟨j + 1,64 * v + bt s j - 128,by omega,by go_num,by rw [← e],by omega,by omega,(zjd s R _ _ v j _ HR2.out (by omega) hlen (by omega) (by omega)).trans (by rw [show i + 3 - j - 1 = i + 3 - (j + 1) from by omega])⟩
        case measure => simp [intOf]; omega)
   ·go_wp2
    go_ret2
    exact ⟨zcn (zez s R _ _ v j _ HR2.out (by omega) (by omega)),rfl⟩
  ·have HF : Hid (R = zaL ((3 : Nat) : Int) 2048 (some v)):=zlF s R _ _ v j _ HR2.out (by omega)
   go_wp2
   all_goals
    go_ret2
    first
     | exact ⟨zcn (zeM R _ _ v HF.out (by omega)),rfl⟩
     | exact ⟨zcn (zec R _ _ v HF.out (by omega)),rfl⟩
theorem zsJ (s : ByteArray) (i : Nat) (w : World) (hs : s.size ≤ 140737488355328) (hi : i < s.size) (R : Int × Int) (HR : Hid (chr s i = R)) (h1 : 240 ≤ (s[i].toNat : Int)) (h2 : (s[i].toNat : Int) < 245) :
  Calls Tryz.prog 106 #[.string s,.int .i64 (i : Int)] w fun e w' => e = .returned (.tuple #[.int .i64 R.1,.int .i64 R.2]) ∧ w' = w:=by
 have hb0 : 0 ≤ (s[i].toNat : Int):=by omega
 have hb1 : (s[i].toNat : Int) ≤ 255:=by have:=s[i].toNat_lt; omega
 have HE0 : Hid ((s[i].toNat : Int) = bt s i):=zd3 s i hi
 go_enter Tryz.func106,Tryz.ntmps106
 go_wp2
 go_loop [9,10] (fun tv ti => ∃ (j : Nat) (v : Int),j ≤ i + 4 ∧ ti = .int .i64 (j : Int) ∧ tv = .int .i64 v ∧ 0 ≤ v ∧ (j = i + 1 ∧ v ≤ 31 ∨ j = i + 2 ∧ v ≤ 2047 ∨ j = i + 3 ∧ v ≤ 131071 ∨ j = i + 4 ∧ v ≤ 8388607) ∧ R = zaL ((4 : Nat) : Int) 65536 (zb7 s j (i + 4 - j) v)) (fun _ ti => i + 4 - (intOf ti).toNat)
 case atStart => exact ⟨i + 1,(s[i].toNat : Int) - 240,by omega,by go_num,rfl,by omega,by omega,(zwM s i R HR.out _ HE0.out (by omega) (by omega)).trans (by rw [show i + 4 - (i + 1) = 4 - 1 from by omega]; rfl)⟩
 case round =>
  obtain ⟨j,v,hj,rfl,rfl,hv,hd,hR⟩:=hrel
  have HR2 : Hid (R = zaL ((4 : Nat) : Int) 65536 (zb7 s j (i + 4 - j) v)):=hR
  clear hR
  by_cases hlt : j < i + 4
  ·by_cases hlen : j < s.size
   ·have hc0 : 0 ≤ (s[j].toNat : Int):=by omega
    have hc1 : (s[j].toNat : Int) ≤ 255:=by have:=s[j].toNat_lt; omega
    have HE : Hid ((s[j].toNat : Int) = bt s j):=zd3 s j hlen
    go_wp2
    all_goals first
     | (go_ret2; have e:=HE.out; exact ⟨zcn (zez s R _ _ v j _ HR2.out (by omega) (by omega)),rfl⟩)
     | (go_round
        case rel => have e:=HE.out; exact ⟨j + 1,64 * v + bt s j - 128,by omega,by go_num,by rw [← e],by omega,by omega,(zjd s R _ _ v j _ HR2.out (by omega) hlen (by omega) (by omega)).trans (by rw [show i + 4 - j - 1 = i + 4 - (j + 1) from by omega])⟩
        case measure => simp [intOf]; omega)
   ·go_wp2
    go_ret2
    exact ⟨zcn (zez s R _ _ v j _ HR2.out (by omega) (by omega)),rfl⟩
  ·have HF : Hid (R = zaL ((4 : Nat) : Int) 65536 (some v)):=zlF s R _ _ v j _ HR2.out (by omega)
   go_wp2
   all_goals
    go_ret2
    first
     | exact ⟨zcn (zeM R _ _ v HF.out (by omega)),rfl⟩
     | exact ⟨zcn (zec R _ _ v HF.out (by omega)),rfl⟩
theorem zgL (s : ByteArray) (i : Nat) (w : World) (hs : s.size ≤ 140737488355328) (hi : i < s.size) :
  Calls Tryz.prog 106 #[.string s,.int .i64 (i : Int)] w fun e w' => e = .returned (.tuple #[.int .i64 (chr s i).1,.int .i64 (chr s i).2]) ∧ w' = w:=by
 by_cases h1 : (s[i].toNat : Int) < 128
 ·exact zsE s i w hs hi _ rfl h1
 by_cases h2 : (s[i].toNat : Int) < 194
 ·exact zsF s i w hs hi _ rfl (by omega) h2
 by_cases h3 : (s[i].toNat : Int) < 224
 ·exact zsH s i w hs hi _ rfl (by omega) h3
 by_cases h4 : (s[i].toNat : Int) < 240
 ·exact zsI s i w hs hi _ rfl (by omega) h4
 by_cases h5 : (s[i].toNat : Int) < 245
 ·exact zsJ s i w hs hi _ rfl (by omega) h5
 ·exact zsG s i w hs hi _ rfl (by omega)
end Go.Proofs.YtfpgjkbjbbgciaaGreatDoor
