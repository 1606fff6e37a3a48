import Derived.Test.YtfpgjkbjbbgciaaGreatDoorMc01
import Derived.Test.YtfpgjkbjbbgciaaGreatDoorMc02
import Derived.Test.YtfpgjkbjbbgciaaGreatDoorMc03
import Derived.Lib.OthersKept
import Derived.Lib.ParseIntB
import Derived.Lib.RuneCountTail
import Derived.WalkSmall
set_option maxRecDepth 100000
set_option maxHeartbeats 8000000
namespace Go.Proofs.YtfpgjkbjbbgciaaGreatDoor
open Go.RowKit Sp
abbrev zah (e l : Int) : Ending:=.panicked [{ v:=.iface 115 (.agg #[.int .i64 e,.int .i64 l]),recovered:=false }]
theorem zaw (e l : Int) (w : World) : Calls Tryz.prog 79 #[.int .i64 e,.int .i64 l] w fun en w' => en = zah e l ∧ w' = w:=by
 go_enter Tryz.func79,Tryz.ntmps79
 go_wp2
 exact ⟨rfl,rfl,rfl⟩
theorem zef {k : IntKind} {a c : Int} {b d : Bool} (h : a = c) (h' : b = d) : Ending.returned (.tuple #[.int k a,.bool b]) = .returned (.tuple #[.int k c,.bool d]):=by rw [h,h']
def zeH (s : ByteArray) : Bool:=decide (0 ≤ reg s)
def za5 (s : ByteArray) : Int:=if 0 ≤ reg s then reg s else 0
theorem zjh (s : ByteArray) (w : World) (_hs : s.size ≤ maxLen) :
  Calls Tryz.prog 165 #[.string s] w fun e w' => e = .returned (.tuple #[.int .i64 (za5 s),.bool (zeH s)]) ∧ w' = w:=by
 unfold maxLen at _hs
 have no : ¬ (s.size = 2 ∧ bt s 0 = 114 ∧ 48 ≤ bt s 1 ∧ bt s 1 ≤ 55) → (0 : Int) = za5 s ∧ false = zeH s:=by
  intro h
  have e:=zjR s h
  unfold za5 zeH
  rw [← e]; simp
 have yes : (h : s.size = 2) → (h0 : bt s 0 = 114) → (h1 : 48 ≤ bt s 1) → (h2 : bt s 1 ≤ 55) → bt s 1 - 48 = za5 s ∧ true = zeH s:=by
  intro h h0 h1 h2
  have e:=zpU s h h0 h1 h2
  unfold za5 zeH
  rw [← e,if_pos (by omega)]
  simp; omega
 have NO:=Hid.out (p:=¬ (s.size = 2 ∧ bt s 0 = 114 ∧ 48 ≤ bt s 1 ∧ bt s 1 ≤ 55) → (0 : Int) = za5 s ∧ false = zeH s) no
 have HNO : Hid (¬ (s.size = 2 ∧ bt s 0 = 114 ∧ 48 ≤ bt s 1 ∧ bt s 1 ≤ 55) → (0 : Int) = za5 s ∧ false = zeH s):=no
 have HYES : Hid ((h : s.size = 2) → (h0 : bt s 0 = 114) → (h1 : 48 ≤ bt s 1) → (h2 : bt s 1 ≤ 55) → bt s 1 - 48 = za5 s ∧ true = zeH s):=yes
 clear no yes NO
 by_cases h : s.size = 2
 ·have H0 : Hid (((s[0]'(by omega)).toNat : Int) = bt s 0):=zd3 s 0 (by omega)
  have H1 : Hid (((s[1]'(by omega)).toNat : Int) = bt s 1):=zd3 s 1 (by omega)
  have b0 : 0 ≤ ((s[1]'(by omega)).toNat : Int):=by omega
  have b1 : ((s[1]'(by omega)).toNat : Int) ≤ 255:=by have:=(s[1]'(by omega)).toNat_lt; omega
  go_enter Tryz.func165,Tryz.ntmps165
  go_wp2
  go_ways
  all_goals go_ret2
  all_goals have e0:=H0.out
  all_goals have e1:=H1.out
  all_goals first
   | (have q:=HNO.out (by omega); exact ⟨zef q.1 q.2,rfl⟩)
   | (have q:=HYES.out h (by omega) (by omega) (by omega); exact ⟨zef (by rw [← q.1,← e1]) q.2,rfl⟩)
 ·go_enter Tryz.func165,Tryz.ntmps165
  go_wp2
  go_ret2
  have q:=HNO.out (by omega)
  exact ⟨zef q.1 q.2,rfl⟩
structure LibW (w : World) : Prop where
 tabs : Lib.Utf8Tabs 1 2 w
 most : ∃ m,w.cell? ⟨0,0,none⟩ = some (.int .i64 m)
 syn : ∃ tp p,w.var? Tryz.prog "strconv.ErrSyntax" = some #[.iface tp p]
 rng : ∃ tp p,w.var? Tryz.prog "strconv.ErrRange" = some #[.iface tp p]
 low : 8 ≤ w.heap.size
theorem ze0 (s : ByteArray) (pos : Nat) (w : World) (hw : Lib.Utf8Tabs 1 2 w) (hp : pos < s.size) :
  Calls Tryz.prog 126 #[.string (s.extract pos s.size)] w fun e w' => e = .returned (.bool (((Utf8.decode s pos).2 : Int) == 1)) ∧ Below w.heap.size w w':=by
 have hd : Lib.decodeGo (s.extract pos s.size) = Utf8.decode s pos:=by
  unfold Lib.decodeGo
  rw [if_neg (by rw [ByteArray.size_extract]; omega)]
  exact Lib.tail_decode s pos 0
 have hc:=Tryz.utf8_DecodeRuneInString (s.extract pos s.size) w hw
 rw [hd] at hc
 have hle : (Utf8.decode s pos).2 ≤ 4:=by
  by_cases h0 : (chr s pos).1 = 0
  ·rw [(zfK s pos).1 h0]; decide
  ·rw [(zfK s pos).2 h0]
   have:=zcy s pos hp h0
   show (chr s pos).1.toNat ≤ 4
   omega
 generalize Utf8.decode s pos = d at hc hle
 go_enter Tryz.func126,Tryz.ntmps126
 go_wp2_with (go_at_call 146; refine hc.mono ?_; rintro e w' ⟨rfl,hb⟩)
 go_ret
 exact ⟨rfl,hb⟩
end Go.Proofs.YtfpgjkbjbbgciaaGreatDoor
namespace Go.Proofs.YtfpgjkbjbbgciaaGreatDoor.Sp
theorem zlQ (s : ByteArray) (a b c : Nat) (h1 : a ≤ b) (h2 : b ≤ c) : s.extract a b ++ s.extract b c = s.extract a c:=by
 apply ByteArray.ext
 rw [ByteArray.data_append,ByteArray.data_extract,ByteArray.data_extract,ByteArray.data_extract]
 rw [Array.extract_append_extract]
 congr 1 <;> omega
theorem zuZ (s : ByteArray) (a : Nat) : s.extract a a = ByteArray.empty:=by
 apply ByteArray.ext
 rw [ByteArray.data_extract]
 simp
 omega
theorem zq1 (s : ByteArray) (n i : Nat) (now : ByteArray) (l : List ByteArray) (hn : i + n ≤ s.size) (h : ∀ j,i ≤ j → j < i + n → ¬ (bt s j = 32 ∨ bt s j = 9 ∨ bt s j = 59)) : zax s i now l = zax s (i + n) (now ++ s.extract i (i + n)) l:=by
 induction n generalizing i now with
 | zero =>
  rw [Nat.add_zero,zuZ]
  congr 1
  simp
 | succ n ih =>
  rw [ze2 s i now l (by omega) (h i (by omega) (by omega)),ih (i + 1) _ (by omega) (fun j h1 h2 => h j (by omega) (by omega))]
  rw [show i + 1 + n = i + (n + 1) by omega]
  congr 1
  rw [ByteArray.append_assoc,zlQ s i (i + 1) (i + (n + 1)) (by omega) (by omega)]
theorem zeU (s : ByteArray) (k i : Nat) (v u : Int) (h : zb7 s i k v = some u) : ∀ j,i ≤ j → j < i + k → 128 ≤ bt s j:=by
 induction k generalizing i v with
 | zero => intro j h1 h2; omega
 | succ k ih =>
  unfold zb7 at h
  split at h
  ·rename_i hc
   intro j h1 h2
   by_cases hj : j = i
   ·subst hj; omega
   ·exact ih _ _ h j (by omega) (by omega)
  ·cases h
theorem zgX (s : ByteArray) (i : Nat) (hi : i < s.size) (h0 : ¬ (chr s i).1 = 0) : (bt s i < 128 ∧ chr s i = (1,bt s i)) ∨ (128 ≤ (chr s i).2 ∧ ∀ j,i ≤ j → j < i + chrN s i → 128 ≤ bt s j):=by
 by_cases h : bt s i < 128
 ·left; exact ⟨h,by unfold chr; rw [if_pos h]⟩
 ·right
  unfold chrN
  unfold chr at h0 ⊢
  rw [if_neg h] at h0 ⊢
  split at h0
  ·rename_i hc
   rw [if_pos hc]
   rcases zb8 2 128 (zb7 s (i + 1) 1 (bt s i - 192)) with h' | ⟨v,h1,h2,h3,_⟩
   ·rw [h'] at h0; exact absurd rfl h0
   ·rw [h2]
    refine ⟨h3,fun j a b => ?_⟩
    by_cases hj : j = i
    ·subst hj; omega
    ·exact zeU s 1 (i + 1) _ _ h1 j (by omega) (by simp at b; omega)
  ·rename_i hc
   rw [if_neg hc]
   split at h0
   ·rename_i hd
    rw [if_pos hd]
    rcases zb8 3 2048 (zb7 s (i + 1) 2 (bt s i - 224)) with h' | ⟨v,h1,h2,h3,_⟩
    ·rw [h'] at h0; exact absurd rfl h0
    ·rw [h2]
     refine ⟨by show 128 ≤ v; omega,fun j a b => ?_⟩
     by_cases hj : j = i
     ·subst hj; omega
     ·exact zeU s 2 (i + 1) _ _ h1 j (by omega) (by simp at b; omega)
   ·rename_i hd
    rw [if_neg hd]
    split at h0
    ·rename_i he
     rw [if_pos he]
     rcases zb8 4 65536 (zb7 s (i + 1) 3 (bt s i - 240)) with h' | ⟨v,h1,h2,h3,_⟩
     ·rw [h'] at h0; exact absurd rfl h0
     ·rw [h2]
      refine ⟨by show 128 ≤ v; omega,fun j a b => ?_⟩
      by_cases hj : j = i
      ·subst hj; omega
      ·exact zeU s 3 (i + 1) _ _ h1 j (by omega) (by simp at b; omega)
    ·exact absurd rfl h0
theorem ze8 (s : ByteArray) (i : Nat) (now : ByteArray) (l : List ByteArray) (hi : i < s.size) (h0 : ¬ (chr s i).1 = 0) (hc : ¬ ((chr s i).2 = 32 ∨ (chr s i).2 = 9 ∨ (chr s i).2 = 59)) : zax s i now l = zax s (i + chrN s i) (now ++ s.extract i (i + chrN s i)) l:=by
 have hp:=zcy s i hi h0
 refine zq1 s (chrN s i) i now l (by omega) (fun j h1 h2 => ?_)
 rcases zgX s i hi h0 with ⟨ha,hb⟩ | ⟨_,hb⟩
 ·have hN : chrN s i = 1:=by unfold chrN; rw [hb]; rfl
  have : j = i:=by omega
  subst this
  rw [hb] at hc
  exact hc
 ·have:=hb j h1 h2; omega
theorem zgY (s : ByteArray) (i : Nat) (hi : i < s.size) (h0 : ¬ (chr s i).1 = 0) (hc : (chr s i).2 < 128) : bt s i = (chr s i).2 ∧ chrN s i = 1:=by
 rcases zgX s i hi h0 with ⟨ha,hb⟩ | ⟨hb,_⟩
 ·unfold chrN; rw [hb]; exact ⟨rfl,rfl⟩
 ·omega
end Go.Proofs.YtfpgjkbjbbgciaaGreatDoor.Sp
namespace Go.Proofs.YtfpgjkbjbbgciaaGreatDoor
open Go.RowKit Sp
theorem zbQ {a b : ByteArray} (h : a = b) : Ending.returned (.string a) = .returned (.string b):=by rw [h]
theorem zap (s : ByteArray) (l : List UInt8) (h : (s.toList == l) = true) : s = ⟨l.toArray⟩:=by
 rw [beq_iff_eq,ByteArray.toList_eq] at h
 rw [← h]
theorem zqi (w : World) :
  Calls Tryz.prog 74 #[.string ⟨#[115,101,116]⟩] w fun e w' => e = .returned (.string ⟨(zaa ⟨#[115,101,116]⟩).toArray⟩) ∧ w' = w:=by
 go_enter Tryz.func74,Tryz.ntmps74
 go_wp2
 go_ret
 exact ⟨zbQ (by kernel_rfl),rfl⟩
theorem zqj (w : World) :
  Calls Tryz.prog 74 #[.string ⟨#[105,110,99]⟩] w fun e w' => e = .returned (.string ⟨(zaa ⟨#[105,110,99]⟩).toArray⟩) ∧ w' = w:=by
 go_enter Tryz.func74,Tryz.ntmps74
 go_wp2
 go_ret
 exact ⟨zbQ (by kernel_rfl),rfl⟩
theorem zqk (w : World) :
  Calls Tryz.prog 74 #[.string ⟨#[109,111,118]⟩] w fun e w' => e = .returned (.string ⟨(zaa ⟨#[109,111,118]⟩).toArray⟩) ∧ w' = w:=by
 go_enter Tryz.func74,Tryz.ntmps74
 go_wp2
 go_ret
 exact ⟨zbQ (by kernel_rfl),rfl⟩
theorem zoh (w : World) :
  Calls Tryz.prog 74 #[.string ⟨#[108,111,97,100]⟩] w fun e w' => e = .returned (.string ⟨(zaa ⟨#[108,111,97,100]⟩).toArray⟩) ∧ w' = w:=by
 go_enter Tryz.func74,Tryz.ntmps74
 go_wp2
 go_ret
 exact ⟨zbQ (by kernel_rfl),rfl⟩
theorem zlN (w : World) :
  Calls Tryz.prog 74 #[.string ⟨#[115,116,111,114,101]⟩] w fun e w' => e = .returned (.string ⟨(zaa ⟨#[115,116,111,114,101]⟩).toArray⟩) ∧ w' = w:=by
 go_enter Tryz.func74,Tryz.ntmps74
 go_wp2
 go_ret
 exact ⟨zbQ (by kernel_rfl),rfl⟩
theorem zql (w : World) :
  Calls Tryz.prog 74 #[.string ⟨#[97,100,100]⟩] w fun e w' => e = .returned (.string ⟨(zaa ⟨#[97,100,100]⟩).toArray⟩) ∧ w' = w:=by
 go_enter Tryz.func74,Tryz.ntmps74
 go_wp2
 go_ret
 exact ⟨zbQ (by kernel_rfl),rfl⟩
theorem zqm (w : World) :
  Calls Tryz.prog 74 #[.string ⟨#[115,117,98]⟩] w fun e w' => e = .returned (.string ⟨(zaa ⟨#[115,117,98]⟩).toArray⟩) ∧ w' = w:=by
 go_enter Tryz.func74,Tryz.ntmps74
 go_wp2
 go_ret
 exact ⟨zbQ (by kernel_rfl),rfl⟩
theorem zqn (w : World) :
  Calls Tryz.prog 74 #[.string ⟨#[109,117,108]⟩] w fun e w' => e = .returned (.string ⟨(zaa ⟨#[109,117,108]⟩).toArray⟩) ∧ w' = w:=by
 go_enter Tryz.func74,Tryz.ntmps74
 go_wp2
 go_ret
 exact ⟨zbQ (by kernel_rfl),rfl⟩
theorem zoi (w : World) :
  Calls Tryz.prog 74 #[.string ⟨#[114,101,97,100]⟩] w fun e w' => e = .returned (.string ⟨(zaa ⟨#[114,101,97,100]⟩).toArray⟩) ∧ w' = w:=by
 go_enter Tryz.func74,Tryz.ntmps74
 go_wp2
 go_ret
 exact ⟨zbQ (by kernel_rfl),rfl⟩
theorem zlO (w : World) :
  Calls Tryz.prog 74 #[.string ⟨#[119,114,105,116,101]⟩] w fun e w' => e = .returned (.string ⟨(zaa ⟨#[119,114,105,116,101]⟩).toArray⟩) ∧ w' = w:=by
 go_enter Tryz.func74,Tryz.ntmps74
 go_wp2
 go_ret
 exact ⟨zbQ (by kernel_rfl),rfl⟩
theorem zoj (w : World) :
  Calls Tryz.prog 74 #[.string ⟨#[106,117,109,112]⟩] w fun e w' => e = .returned (.string ⟨(zaa ⟨#[106,117,109,112]⟩).toArray⟩) ∧ w' = w:=by
 go_enter Tryz.func74,Tryz.ntmps74
 go_wp2
 go_ret
 exact ⟨zbQ (by kernel_rfl),rfl⟩
theorem zok (w : World) :
  Calls Tryz.prog 74 #[.string ⟨#[99,97,108,108]⟩] w fun e w' => e = .returned (.string ⟨(zaa ⟨#[99,97,108,108]⟩).toArray⟩) ∧ w' = w:=by
 go_enter Tryz.func74,Tryz.ntmps74
 go_wp2
 go_ret
 exact ⟨zbQ (by kernel_rfl),rfl⟩
theorem zol (w : World) :
  Calls Tryz.prog 74 #[.string ⟨#[108,101,115,115]⟩] w fun e w' => e = .returned (.string ⟨(zaa ⟨#[108,101,115,115]⟩).toArray⟩) ∧ w' = w:=by
 go_enter Tryz.func74,Tryz.ntmps74
 go_wp2
 go_ret
 exact ⟨zbQ (by kernel_rfl),rfl⟩
theorem zom (w : World) :
  Calls Tryz.prog 74 #[.string ⟨#[115,97,109,101]⟩] w fun e w' => e = .returned (.string ⟨(zaa ⟨#[115,97,109,101]⟩).toArray⟩) ∧ w' = w:=by
 go_enter Tryz.func74,Tryz.ntmps74
 go_wp2
 go_ret
 exact ⟨zbQ (by kernel_rfl),rfl⟩
theorem zon (w : World) :
  Calls Tryz.prog 74 #[.string ⟨#[98,97,99,107]⟩] w fun e w' => e = .returned (.string ⟨(zaa ⟨#[98,97,99,107]⟩).toArray⟩) ∧ w' = w:=by
 go_enter Tryz.func74,Tryz.ntmps74
 go_wp2
 go_ret
 exact ⟨zbQ (by kernel_rfl),rfl⟩
theorem zoo (w : World) :
  Calls Tryz.prog 74 #[.string ⟨#[115,116,111,112]⟩] w fun e w' => e = .returned (.string ⟨(zaa ⟨#[115,116,111,112]⟩).toArray⟩) ∧ w' = w:=by
 go_enter Tryz.func74,Tryz.ntmps74
 go_wp2
 go_ret
 exact ⟨zbQ (by kernel_rfl),rfl⟩
theorem zop (s : ByteArray) (w : World) (h0 : (s.toList == [115,101,116]) = false) (h1 : (s.toList == [105,110,99]) = false) (h2 : (s.toList == [109,111,118]) = false) (h3 : (s.toList == [108,111,97,100]) = false) (h4 : (s.toList == [115,116,111,114,101]) = false) (h5 : (s.toList == [97,100,100]) = false) (h6 : (s.toList == [115,117,98]) = false) (h7 : (s.toList == [109,117,108]) = false) (h8 : (s.toList == [114,101,97,100]) = false) (h9 : (s.toList == [119,114,105,116,101]) = false) (h10 : (s.toList == [106,117,109,112]) = false) (h11 : (s.toList == [99,97,108,108]) = false) (h12 : (s.toList == [108,101,115,115]) = false) (h13 : (s.toList == [115,97,109,101]) = false) (h14 : (s.toList == [98,97,99,107]) = false) (h15 : (s.toList == [115,116,111,112]) = false) :
  Calls Tryz.prog 74 #[.string s] w fun e w' => e = .returned (.string ⟨(zaa s).toArray⟩) ∧ w' = w:=by
 have HR : Hid (([63] : List UInt8) = zaa s):=by
  simp only [Hid,zaa,isW,h0,h1,h2,h3,h4,h5,h6,h7,h8,h9,h10,h11,h12,h13,h14,h15]
  simp
 go_enter Tryz.func74,Tryz.ntmps74
 go_wp2
 go_ret
 exact ⟨zbQ (by rw [← HR.out]),rfl⟩
theorem zqo (s : ByteArray) (w : World) :
  Calls Tryz.prog 74 #[.string s] w fun e w' => e = .returned (.string ⟨(zaa s).toArray⟩) ∧ w' = w:=by
 cases h0 : (s.toList == [115,101,116]) with
 | true => rw [zap s _ h0]; exact zqi w
 | false =>
 cases h1 : (s.toList == [105,110,99]) with
 | true => rw [zap s _ h1]; exact zqj w
 | false =>
 cases h2 : (s.toList == [109,111,118]) with
 | true => rw [zap s _ h2]; exact zqk w
 | false =>
 cases h3 : (s.toList == [108,111,97,100]) with
 | true => rw [zap s _ h3]; exact zoh w
 | false =>
 cases h4 : (s.toList == [115,116,111,114,101]) with
 | true => rw [zap s _ h4]; exact zlN w
 | false =>
 cases h5 : (s.toList == [97,100,100]) with
 | true => rw [zap s _ h5]; exact zql w
 | false =>
 cases h6 : (s.toList == [115,117,98]) with
 | true => rw [zap s _ h6]; exact zqm w
 | false =>
 cases h7 : (s.toList == [109,117,108]) with
 | true => rw [zap s _ h7]; exact zqn w
 | false =>
 cases h8 : (s.toList == [114,101,97,100]) with
 | true => rw [zap s _ h8]; exact zoi w
 | false =>
 cases h9 : (s.toList == [119,114,105,116,101]) with
 | true => rw [zap s _ h9]; exact zlO w
 | false =>
 cases h10 : (s.toList == [106,117,109,112]) with
 | true => rw [zap s _ h10]; exact zoj w
 | false =>
 cases h11 : (s.toList == [99,97,108,108]) with
 | true => rw [zap s _ h11]; exact zok w
 | false =>
 cases h12 : (s.toList == [108,101,115,115]) with
 | true => rw [zap s _ h12]; exact zol w
 | false =>
 cases h13 : (s.toList == [115,97,109,101]) with
 | true => rw [zap s _ h13]; exact zom w
 | false =>
 cases h14 : (s.toList == [98,97,99,107]) with
 | true => rw [zap s _ h14]; exact zon w
 | false =>
 cases h15 : (s.toList == [115,116,111,112]) with
 | true => rw [zap s _ h15]; exact zoo w
 | false =>
 exact zop s w h0 h1 h2 h3 h4 h5 h6 h7 h8 h9 h10 h11 h12 h13 h14 h15
end Go.Proofs.YtfpgjkbjbbgciaaGreatDoor
