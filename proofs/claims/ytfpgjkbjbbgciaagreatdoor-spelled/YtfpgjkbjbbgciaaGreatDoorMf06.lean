import Derived.Test.YtfpgjkbjbbgciaaGreatDoorMf03
import Derived.Test.YtfpgjkbjbbgciaaGreatDoorMf04
import Derived.Test.YtfpgjkbjbbgciaaGreatDoorMf05
set_option maxRecDepth 100000
set_option maxHeartbeats 8000000
namespace Go.Proofs.YtfpgjkbjbbgciaaGreatDoor
open Go.RowKit Sp
abbrev zap (e l : Int) : Ending:=.panicked [{ v:=.iface 115 (.agg #[.int .i64 e,.int .i64 l]),recovered:=false }]
theorem zaj (e l : Int) (w : World) : Calls Tryz.prog 79 #[.int .i64 e,.int .i64 l] w fun en w' => en = zap e l ∧ w' = w:=by
 go_enter Tryz.func79,Tryz.ntmps79
 go_wp2
 exact ⟨rfl,rfl,rfl⟩
theorem zcU {k : IntKind} {a c : Int} {b d : Bool} (h : a = c) (h' : b = d) : Ending.returned (.tuple #[.int k a,.bool b]) = .returned (.tuple #[.int k c,.bool d]):=by rw [h,h']
def zd2 (s : ByteArray) : Bool:=decide (0 ≤ reg s)
def zas (s : ByteArray) : Int:=if 0 ≤ reg s then reg s else 0
theorem zhi (s : ByteArray) (w : World) (_hs : s.size ≤ maxLen) :
  Calls Tryz.prog 165 #[.string s] w fun e w' => e = .returned (.tuple #[.int .i64 (zas s),.bool (zd2 s)]) ∧ w' = w:=by
 unfold maxLen at _hs
 have no : ¬ (s.size = 2 ∧ bt s 0 = 114 ∧ 48 ≤ bt s 1 ∧ bt s 1 ≤ 55) → (0 : Int) = zas s ∧ false = zd2 s:=by
  intro h
  have e:=zr9 s h
  unfold zas zd2
  rw [← e]; simp
 have yes : (h : s.size = 2) → (h0 : bt s 0 = 114) → (h1 : 48 ≤ bt s 1) → (h2 : bt s 1 ≤ 55) → bt s 1 - 48 = zas s ∧ true = zd2 s:=by
  intro h h0 h1 h2
  have e:=zq9 s h h0 h1 h2
  unfold zas zd2
  rw [← e,if_pos (by omega)]
  simp; omega
 have NO:=Hid.out (p:=¬ (s.size = 2 ∧ bt s 0 = 114 ∧ 48 ≤ bt s 1 ∧ bt s 1 ≤ 55) → (0 : Int) = zas s ∧ false = zd2 s) no
 have HNO : Hid (¬ (s.size = 2 ∧ bt s 0 = 114 ∧ 48 ≤ bt s 1 ∧ bt s 1 ≤ 55) → (0 : Int) = zas s ∧ false = zd2 s):=no
 have HYES : Hid ((h : s.size = 2) → (h0 : bt s 0 = 114) → (h1 : 48 ≤ bt s 1) → (h2 : bt s 1 ≤ 55) → bt s 1 - 48 = zas s ∧ true = zd2 s):=yes
 clear no yes NO
 by_cases h : s.size = 2
 ·have H0 : Hid (((s[0]'(by omega)).toNat : Int) = bt s 0):=zr2 s 0 (by omega)
  have H1 : Hid (((s[1]'(by omega)).toNat : Int) = bt s 1):=zr2 s 1 (by omega)
  have b0 : 0 ≤ ((s[1]'(by omega)).toNat : Int):=by omega
  have b1 : ((s[1]'(by omega)).toNat : Int) ≤ 255:=by have:=(s[1]'(by omega)).toNat_lt; omega
  go_enter Tryz.func165,Tryz.ntmps165
  go_wp2
  go_ways
  all_goals go_ret2
  all_goals have e0:=H0.out
  all_goals have e1:=H1.out
  all_goals first
   | (have q:=HNO.out (by omega); exact ⟨zcU q.1 q.2,rfl⟩)
   | (have q:=HYES.out h (by omega) (by omega) (by omega); exact ⟨zcU (by rw [← q.1,← e1]) q.2,rfl⟩)
 ·go_enter Tryz.func165,Tryz.ntmps165
  go_wp2
  go_ret2
  have q:=HNO.out (by omega)
  exact ⟨zcU q.1 q.2,rfl⟩
structure LibW (w : World) : Prop where
 tabs : Lib.Utf8Tabs 1 2 w
 most : ∃ m,w.cell? ⟨0,0,none⟩ = some (.int .i64 m)
 syn : ∃ tp p,w.var? Tryz.prog "strconv.ErrSyntax" = some #[.iface tp p]
 rng : ∃ tp p,w.var? Tryz.prog "strconv.ErrRange" = some #[.iface tp p]
 low : 8 ≤ w.heap.size
theorem zdr (s : ByteArray) (pos : Nat) (w : World) (hw : Lib.Utf8Tabs 1 2 w) (hp : pos < s.size) :
  Calls Tryz.prog 126 #[.string (s.extract pos s.size)] w fun e w' => e = .returned (.bool (((Utf8.decode s pos).2 : Int) == 1)) ∧ Below w.heap.size w w':=by
 have hd : Lib.decodeGo (s.extract pos s.size) = Utf8.decode s pos:=by
  unfold Lib.decodeGo
  rw [if_neg (by rw [ByteArray.size_extract]; omega)]
  exact Lib.tail_decode s pos 0
 have hc:=Tryz.utf8_DecodeRuneInString (s.extract pos s.size) w hw
 rw [hd] at hc
 have hle : (Utf8.decode s pos).2 ≤ 4:=by
  by_cases h0 : (chr s pos).1 = 0
  ·rw [(ze8 s pos).1 h0]; decide
  ·rw [(ze8 s pos).2 h0]
   have:=zcc s pos hp h0
   show (chr s pos).1.toNat ≤ 4
   omega
 generalize Utf8.decode s pos = d at hc hle
 go_enter Tryz.func126,Tryz.ntmps126
 go_wp2_with (go_at_call 146; refine hc.mono ?_; rintro e w' ⟨rfl,hb⟩)
 go_ret
 exact ⟨rfl,hb⟩
theorem zmE (l : List UInt8) : Lib.trimPrefix l [45] = bare l:=by
 unfold Lib.trimPrefix Lib.hasPrefix bare
 match l with
 | [] => rfl
 | c :: r =>
  by_cases h : c = 45
  ·subst h; simp [List.isPrefixOf]
  ·have : (45 == c) = false:=by simpa using fun e => h e.symm
   simp [List.isPrefixOf,this]
   split
   ·rename_i heq; simp at heq; exact absurd heq.1 h
   ·rfl
theorem zoL (l : List UInt8) : (bare l).length ≤ l.length:=by
 unfold bare; split <;> simp
theorem zjq (s : ByteArray) (i : Nat) (h : bt s i < 128) : chr s i = (1,bt s i):=by unfold chr; rw [if_pos h]
theorem zoM (s : ByteArray) (i : Nat) (h : ¬ bt s i < 128) (h0 : ¬ (chr s i).1 = 0) : 128 ≤ (chr s i).2:=by
 unfold chr at h0 ⊢
 rw [if_neg h] at h0 ⊢
 split at h0
 ·rename_i hc
  rw [if_pos hc]
  rcases zaZ 2 128 (zc3 s (i + 1) 1 (bt s i - 192)) with h | ⟨v,_,h2,h3,_⟩
  ·rw [h] at h0; exact absurd rfl h0
  ·rw [h2]; exact h3
 ·rename_i hc
  rw [if_neg hc]
  split at h0
  ·rename_i hd
   rw [if_pos hd]
   rcases zaZ 3 2048 (zc3 s (i + 1) 2 (bt s i - 224)) with h | ⟨v,_,h2,h3,_⟩
   ·rw [h] at h0; exact absurd rfl h0
   ·rw [h2]; show 128 ≤ v; omega
  ·rename_i hd
   rw [if_neg hd]
   split at h0
   ·rename_i he
    rw [if_pos he]
    rcases zaZ 4 65536 (zc3 s (i + 1) 3 (bt s i - 240)) with h | ⟨v,_,h2,h3,_⟩
    ·rw [h] at h0; exact absurd rfl h0
    ·rw [h2]; show 128 ≤ v; omega
   ·exact absurd rfl h0
theorem zmF (t : ByteArray) (i : Nat) (h : i < t.size) : za7 (t.data.toList.drop i) = (zaD (bt t i) && za7 (t.data.toList.drop (i + 1))):=by
 obtain ⟨c,r,h1,h2,h3⟩:=zfE t i h
 rw [h1,← h3,← h2]
 simp only [za7,zaD]
 congr 1
 by_cases hc : 48 ≤ c.toNat ∧ c.toNat ≤ 57
 ·have : (48 : Int) ≤ c.toNat ∧ (c.toNat : Int) ≤ 57:=by omega
  simp [hc,this]
 ·have : ¬ ((48 : Int) ≤ c.toNat ∧ (c.toNat : Int) ≤ 57):=by omega
  simp only [hc,this]
def zca (s : ByteArray) : Int:=if (zbj s).2 = true then (zbj s).1 else 0
theorem zoN (s : ByteArray) (w : World) (hw : LibW w) (hs : s.size ≤ 1048576) :
  Calls Tryz.prog 166 #[.string s] w fun e w' => e = .returned (.tuple #[.int .i64 (zca s),.bool (zbj s).2]) ∧ Below w.heap.size w w':=by
 have htrim:=Tryz.strings_TrimPrefix s ⟨#[45]⟩ w
 rw [show (⟨#[45]⟩ : ByteArray).data.toList = [45] from rfl,zmE] at htrim
 have HN : Hid (za7 (bare s.data.toList) = false → (zbj s).2 = false):=zo9 s
 have HS : Hid (za7 (bare s.data.toList) = true → (∀ v,Lib.parseIntB 64 s.data.toList = .ok v → zbj s = (v,true)) ∧ (Lib.parseIntB 64 s.data.toList = .«syntax» → (zbj s).2 = false) ∧ (Lib.parseIntB 64 s.data.toList = .range → (zbj s).2 = false)):=zoA s
 have htl : (bare s.data.toList).length ≤ s.size:=by have:=zoL s.data.toList; simpa using this
 obtain ⟨t,ht⟩ : ∃ t : ByteArray,t = ⟨(bare s.data.toList).toArray⟩:=⟨_,rfl⟩
 have htd : t.data.toList = bare s.data.toList:=by rw [ht]
 have hts : t.size ≤ 1048576:=by
  have : t.size = (bare s.data.toList).length:=by rw [← htd]; simp
  omega
 rw [← ht] at htrim
 rw [← htd] at HN HS
 clear ht htd htl
 obtain ⟨tp1,p1,hsyn⟩:=hw.syn
 obtain ⟨tp2,p2,hrng⟩:=hw.rng
 have hlow:=hw.low
 have hk0 : (w.iter t 0).heap[w.heap.size]? = some (.stringIter t 0):=World.iter_heap w t 0
 have hb0 : Below w.heap.size w (w.iter t 0):=(Below.refl _ w).alloc (Nat.le_refl _) _
 go_enter Tryz.func166,Tryz.ntmps166
 go_wp2_with (go_at_call 174; refine htrim.mono ?_; rintro e wx ⟨rfl,hww⟩; have h2:=hww.symm; subst h2)
 clear htrim
 go_loopw [5] (fun _ wr => ∃ pos : Nat,pos ≤ t.size ∧ wr.heap[w.heap.size]? = some (.stringIter t pos) ∧ Below w.heap.size w wr ∧ za7 t.data.toList = za7 (t.data.toList.drop pos)) (fun _ wr => t.size - wr.iterPos w.heap.size)
 case atStart => exact ⟨0,by omega,hk0,hb0,rfl⟩
 case round =>
  obtain ⟨pos,hp,hk,hnx,hR⟩:=hrel
  have HR : Hid (za7 t.data.toList = za7 (t.data.toList.drop pos)):=hR
  clear hR hk0 hb0
  have HMU : Hid (wr.iterPos w.heap.size = pos):=by unfold Hid; simp [World.iterPos,hk]
  by_cases hlt : pos < t.size
  ·have HD : Hid (za7 (t.data.toList.drop pos) = (zaD (bt t pos) && za7 (t.data.toList.drop (pos + 1)))):=zmF t pos hlt
   cases hd : zaD (bt t pos) with
   | true =>
    have hlow8 : bt t pos < 128:=by simp [zaD] at hd; omega
    have hc:=zjq t pos hlow8
    have hnext:=zek wr w.heap.size t pos hk hlt (by rw [hc]; simp)
    have hN : chrN t pos = 1:=by unfold chrN; rw [hc]; rfl
    rw [hN,hc] at hnext
    simp only at hnext
    have hb1:=Lib.below_iterAt hnx (Nat.le_refl _) t (pos + 1)
    have hk1:=Lib.iterAt_heap wr w.heap.size t pos (pos + 1) hk
    generalize wr.iterAt w.heap.size t (pos + 1) = W1 at hnext hb1 hk1
    have HMU1 : Hid (W1.iterPos w.heap.size = pos + 1):=by unfold Hid; simp [World.iterPos,hk1]
    have HQ : Hid (za7 t.data.toList = za7 (t.data.toList.drop (pos + 1))):=by unfold Hid; rw [HR.out,HD.out,hd]; rfl
    have hbl:=zr3 t pos
    clear hc hN
    go_wp2_with (go_at_call 163; refine (zaN _ _).mono ?_; rintro e wx ⟨rfl,hww⟩; have h2:=hww.symm; subst h2)
    go_roundw
    case rel => exact ⟨pos + 1,by omega,hk1,hb1,HQ.out⟩
    case measure => rw [HMU.out,HMU1.out]; omega
   | false =>
    have HF : Hid (za7 t.data.toList = false):=by unfold Hid; rw [HR.out,HD.out,hd]; rfl
    have HE : Hid ((0 : Int) = zca s ∧ false = (zbj s).2):=by
     have:=HN.out HF.out
     unfold Hid zca; rw [this]; simp
    by_cases h0 : (chr t pos).1 = 0
    ·have hnext:=zhh wr w.heap.size t pos hk hlt h0
     have hb1:=Lib.below_iterAt hnx (Nat.le_refl _) t (pos + 1)
     have hdd : zaD 65533 = false:=by decide
     generalize wr.iterAt w.heap.size t (pos + 1) = W1 at hnext hb1
     go_wp2_with (go_at_call 163; refine (zaN _ _).mono ?_; rintro e wx ⟨rfl,hww⟩; have h2:=hww.symm; subst h2)
     go_ret2
     exact ⟨zcU HE.out.1 HE.out.2,hb1⟩
    ·have hdd : zaD (chr t pos).2 = false:=by
      by_cases hl : bt t pos < 128
      ·rw [zjq t pos hl]; exact hd
      ·have:=zoM t pos hl h0
       simp [zaD]; omega
     have hnext:=zek wr w.heap.size t pos hk hlt h0
     have hb1:=Lib.below_iterAt hnx (Nat.le_refl _) t (pos + chrN t pos)
     have hpp:=zcc t pos hlt h0
     obtain ⟨_,_,_,_,hp5,hp6⟩:=hpp
     generalize wr.iterAt w.heap.size t (pos + chrN t pos) = W1 at hnext hb1
     go_wp2_with (go_at_call 163; refine (zaN _ _).mono ?_; rintro e wx ⟨rfl,hww⟩; have h2:=hww.symm; subst h2)
     go_ret2
     exact ⟨zcU HE.out.1 HE.out.2,hb1⟩
  ·have hnext : ∀ ty,(Instr.next (.pointer (some ⟨w.heap.size,0,none⟩)) true ty).run Tryz.prog wr = .ok (.tuple #[.bool false]) wr:=fun ty => Lib.run_next_end_at wr w.heap.size t pos ty hk hlt
   have HF : Hid (za7 t.data.toList = true):=by unfold Hid; rw [HR.out,List.drop_of_length_le (by simpa using hlt)]; rfl
   obtain ⟨S1,S2,S3⟩:=HS.out HF.out
   have HS1:=Hid.out (p:=∀ v,Lib.parseIntB 64 s.data.toList = .ok v → zbj s = (v,true)) S1
   have hg7 : Tryz.prog.globalNamed "strconv.ErrSyntax" = some 3:=by kernel_rfl
   have hg8 : Tryz.prog.globalNamed "strconv.ErrRange" = some 4:=by kernel_rfl
   have hsyn':=var?_below hnx hg7 (by omega) hsyn
   have hrng':=var?_below hnx hg8 (by omega) hrng
   clear hg7 hg8
   cases hpi : Lib.parseIntB 64 s.data.toList with
   | ok v =>
    have hq:=S1 v hpi
    have HE : Hid (v = zca s ∧ true = (zbj s).2):=by unfold Hid zca; rw [hq]; simp
    have hcall:=Tryz.strconv_ParseInt_10_at64_ok s (by omega) v hpi wr
    clear hq S1 S2 S3 HS1 HN HS hpi hsyn hrng hsyn' hrng'
    go_wp2_with (go_at_call 175; refine hcall.mono ?_; rintro e wx ⟨rfl,hww⟩)
    go_ret2
    refine ⟨zcU HE.out.1 HE.out.2,?_⟩
    rcases hww with rfl | ⟨x,rfl⟩
    ·exact hnx
    ·exact hnx.trans ((Lib.bytesWorld_below wr 5 x).mono hnx.size)
   | «syntax» =>
    have hq:=S2 hpi
    have HE : Hid ((0 : Int) = zca s ∧ false = (zbj s).2):=by unfold Hid zca; rw [hq]; simp
    have hcall:=Tryz.strconv_ParseInt_10_at64_syntax_var s (by omega) hpi tp1 p1 wr hsyn'
    clear hq S1 S2 S3 HS1 HN HS hpi hsyn hrng hsyn' hrng'
    go_wp2_with (go_at_call 175; refine hcall.mono ?_; rintro e wx ⟨N,rfl,hN,hNc,hbx⟩)
    go_ret2
    exact ⟨zcU HE.out.1 HE.out.2,hnx.trans (hbx.mono hnx.size)⟩
   | range =>
    have hq:=S3 hpi
    have HE : Hid ((0 : Int) = zca s ∧ false = (zbj s).2):=by unfold Hid zca; rw [hq]; simp
    have hcall:=Tryz.strconv_ParseInt_10_at64_range_var s (by omega) hpi tp2 p2 wr hrng'
    generalize Lib.intSat 64 s.data.toList = sat at hcall
    clear hq S1 S2 S3 HS1 HN HS hpi hsyn hrng hsyn' hrng'
    go_wp2_with (go_at_call 175; refine hcall.mono ?_; rintro e wx ⟨N,rfl,hN,hNc,hbx⟩)
    go_ret2
    exact ⟨zcU HE.out.1 HE.out.2,hnx.trans (hbx.mono hnx.size)⟩
end Go.Proofs.YtfpgjkbjbbgciaaGreatDoor
