import Derived.Test.YtfpgjkbjbbgciaaGreatDoorMc04
import Derived.Test.YtfpgjkbjbbgciaaGreatDoorMc08
import Derived.Defers
import Derived.Recover
import Derived.Lib.AtoiErrMem
import Derived.Deep.RegionHeld3
import Derived.Lib.SplitLaws
import Derived.Maps.Own
import Derived.Maps.OwnOps
import Derived.Maps.OwnSet
import Derived.Maps.AppendAt
import Derived.Maps.Views
import Derived.Deep.AppendLies
import Derived.Deep.DrawnRows
import Derived.RegionDies
import Derived.Maps.RangeWalk
import Derived.Deep.MidRow
set_option maxRecDepth 100000
set_option maxHeartbeats 8000000
namespace Go.Proofs.YtfpgjkbjbbgciaaGreatDoor.Sp
def zc2 (L : List Said) (k : Nat) : Bool :=
 match L[k]? with
 | none => false
 | some q => if q.kind = 102 then decide (zaE L (q.word 1) 0 < k) else if q.kind = 108 then decide (zbM L k (q.word 0) < k) else false
def Said.last (q : Said) : ByteArray:=q.word (q.kept.length - 1)
def zaF (x : ByteArray) : Bool:=isW x [106,117,109,112] || isW x [108,101,115,115] || isW x [115,97,109,101]
def zcs (x : ByteArray) : Bool:=isW x [99,97,108,108]
def zaD (L : List Said) (k : Nat) : Bool :=
 match L[k]? with
 | none => false
 | some q => if q.kind = 105 then (if zaF (q.word 0) = true then decide (zbM L k q.last < 0) else if zcs (q.word 0) = true then decide (zaE L q.last 0 < 0) else false) else false
def ends (x : ByteArray) : Bool:=isW x [106,117,109,112] || isW x [98,97,99,107] || isW x [115,116,111,112]
def zdK (L : List Said) (i : Nat) (e : Bool) : Bool :=
 if h : i < L.length then
  if L[i].kind = 102 then e
  else zdK L (i + 1) (if L[i].kind = 108 then false else if L[i].kind = 105 then ends (L[i].word 0) else e)
 else e
termination_by L.length - i
def zaZ (L : List Said) (k : Nat) : Bool :=
 match L[k]? with
 | none => false
 | some q => if q.kind = 102 then !zdK L (k + 1) false else false
theorem zgR (L : List Said) (i : Nat) (e : Bool) (h : ¬ i < L.length) : zdK L i e = e:=by rw [zdK,dif_neg h]
theorem zlK (L : List Said) (i : Nat) (e : Bool) (h : i < L.length) (h' : L[i].kind = 102) : zdK L i e = e:=by rw [zdK,dif_pos h,if_pos h']
theorem zds (L : List Said) (i : Nat) (e : Bool) (h : i < L.length) (h' : ¬ L[i].kind = 102) : zdK L i e = zdK L (i + 1) (if L[i].kind = 108 then false else if L[i].kind = 105 then ends (L[i].word 0) else e):=by
 conv => lhs; rw [zdK,dif_pos h,if_neg h']
end Go.Proofs.YtfpgjkbjbbgciaaGreatDoor.Sp
namespace Go.Proofs.YtfpgjkbjbbgciaaGreatDoor
open Go.RowKit Sp
def zdx (s : ByteArray) (R : Int × Int) : Prop:=∀ w,LibW w → Calls Tryz.prog 44 #[.string s] w fun e w' =>
 Below w.heap.size w w' ∧ (R = (0,0) ∧ (∃ v,e = .returned v) ∨ ¬ R = (0,0) ∧ e = zah R.1 R.2)
end Go.Proofs.YtfpgjkbjbbgciaaGreatDoor
namespace Go.Proofs.YtfpgjkbjbbgciaaGreatDoor
open Go.RowKit Sp
attribute [local go_sem ↓] Go.wp_at_zero Go.wp_at_succ
end Go.Proofs.YtfpgjkbjbbgciaaGreatDoor
namespace Go.Proofs.YtfpgjkbjbbgciaaGreatDoor
open Go.RowKit Sp
theorem zjU (W : World) (v : Value) : (Instr.typeAssert (.iface 115 v) 20 115 true).run Tryz.prog W = .ok (.tuple #[v,.bool true]) W:=by kernel_rfl
theorem zlL {w : World} {b : Nat} {x y : Value} (hx : w.cell? ⟨b,0,none⟩ = some x) (hy : w.cell? ⟨b + 1,0,none⟩ = some y) (e l : Value) (o : Obj) :
  Below b w (((w.setCell ⟨b,0,none⟩ e).setCell ⟨b + 1,0,none⟩ l).alloc o).drew ∧ (((w.setCell ⟨b,0,none⟩ e).setCell ⟨b + 1,0,none⟩ l).alloc o).drew.cell? ⟨b,0,none⟩ = some e ∧ (((w.setCell ⟨b,0,none⟩ e).setCell ⟨b + 1,0,none⟩ l).alloc o).drew.cell? ⟨b + 1,0,none⟩ = some l:=by
 have hlt1 : b + 1 < w.heap.size:=by have:=World.block_lt_of_cell? w _ hy; simpa using this
 refine ⟨((((Below.refl b w).setCell (p:=⟨b,0,none⟩) (Nat.le_refl _) _).setCell (p:=⟨b + 1,0,none⟩) (Nat.le_succ b) _).alloc (by simp [World.setCell]; omega) _).drew,?_,?_⟩
 ·show (((w.setCell ⟨b,0,none⟩ e).setCell ⟨b + 1,0,none⟩ l).alloc o).cell? ⟨b,0,none⟩ = some e
  rw [World.cell?_alloc_lt _ o ⟨b,0,none⟩ (by simp [World.setCell]; omega),World.cell?_setCell_other]
  ·exact World.cell?_setCell_same w _ _ hx
  ·simp
 ·show (((w.setCell ⟨b,0,none⟩ e).setCell ⟨b + 1,0,none⟩ l).alloc o).cell? ⟨b + 1,0,none⟩ = some l
  rw [World.cell?_alloc_lt _ o ⟨b + 1,0,none⟩ (by simp [World.setCell]; omega)]
  refine World.cell?_setCell_same (u:=y) _ _ _ ?_
  rw [World.cell?_setCell_other]
  ·exact hy
  ·simp
theorem zji (b : Nat) (x y e l : Int) (w : World) (hx : w.cell? ⟨b,0,none⟩ = some (.int .i64 x)) (hy : w.cell? ⟨b + 1,0,none⟩ = some (.int .i64 y)) (fx : w.frozen? ⟨b,0,none⟩ = false) (fy : w.frozen? ⟨b + 1,0,none⟩ = false) :
  CallsD Tryz.prog 64 #[.pointer (some ⟨b,0,none⟩),.pointer (some ⟨b + 1,0,none⟩)] (.panicking ({ v:=.iface 115 (.agg #[.int .i64 e,.int .i64 l]),recovered:=false } :: [])) w fun en u' w' =>
   en = .returned (.tuple #[]) ∧ u' = .panicking ({ v:=.iface 115 (.agg #[.int .i64 e,.int .i64 l]),recovered:=true } :: []) ∧ Below b w w' ∧ w'.cell? ⟨b,0,none⟩ = some (.int .i64 e) ∧ w'.cell? ⟨b + 1,0,none⟩ = some (.int .i64 l):=by
 have has:=zjU
 refine callsD_of_wpS Tryz.func64 rfl fun c₀ cs hu => ?_
 apply wpS_seq
 apply wpS_region
 simp [wpOpsS,go_sem,recoverD,hu,Tryz.ntmps64,Exit.thenS]
 refine wpS_of_wp ?_
 have hlt1 : b + 1 < w.heap.size:=by have:=World.block_lt_of_cell? w _ hy; simpa using this
 have hlt0 : b < w.heap.size:=by omega
 have hn1 : ¬ b = w.heap.size:=by omega
 have hn2 : ¬ b + 1 = w.heap.size:=by omega
 go_wp2
 go_region
 all_goals exact ⟨rfl,_,rfl,.tuple #[],by simp [results,Tryz.results64],rfl,rfl,zlL hx hy _ _ _⟩
theorem zog (b : Nat) (w : World) :
  CallsD Tryz.prog 64 #[.pointer (some ⟨b,0,none⟩),.pointer (some ⟨b + 1,0,none⟩)] .returning w fun en u' w' => en = .returned (.tuple #[]) ∧ u' = .returning ∧ w' = w:=by
 refine callsD_of_wpS Tryz.func64 rfl fun c₀ cs hu => ?_
 apply wpS_seq
 apply wpS_region
 simp [wpOpsS,go_sem,recoverD,hu,Tryz.ntmps64,Exit.thenS]
 refine wpS_of_wp ?_
 go_wp2
 exact ⟨rfl,.returning,by rw [← hu],.tuple #[],by simp [results,Tryz.results64],rfl,rfl,rfl⟩
end Go.Proofs.YtfpgjkbjbbgciaaGreatDoor
namespace Go.Proofs.YtfpgjkbjbbgciaaGreatDoor.Sp
def badB (L : List Said) (q k : Nat) : Bool:=if q = 0 then zc2 L k else if q = 1 then zaD L k else zaZ L k
def pass (L : List Said) (q j : Nat) (c : Int × Int) : Int × Int :=
 if j < L.length then (if badB L q j = true then (3 + (q : Int),(j : Int) + 1) else pass L q (j + 1) c) else c
termination_by L.length - j
theorem zdt (L : List Said) (q j : Nat) (c : Int × Int) (h : ¬ j < L.length) : pass L q j c = c:=by rw [pass,if_neg h]
theorem zdf (L : List Said) (q j : Nat) (c : Int × Int) (h : j < L.length) (h' : badB L q j = true) : pass L q j c = (3 + (q : Int),(j : Int) + 1):=by rw [pass,if_pos h,if_pos h']
theorem zbP (L : List Said) (q j : Nat) (c : Int × Int) (h : j < L.length) (h' : badB L q j = false) : pass L q j c = pass L q (j + 1) c:=by rw [pass,if_pos h,if_neg (by simp [h'])]
def tail (L : List Said) (q : Nat) : Int × Int:=if q = 0 then pass L 0 0 (pass L 1 0 (pass L 2 0 (0,0))) else if q = 1 then pass L 1 0 (pass L 2 0 (0,0)) else if q = 2 then pass L 2 0 (0,0) else (0,0)
theorem zgS (L : List Said) (q : Nat) (h : q < 3) : tail L q = pass L q 0 (tail L (q + 1)):=by
 match q,h with
 | 0,_ => rfl
 | 1,_ => rfl
 | 2,_ => rfl
def zba (L : List Said) (i : Nat) : Int × Int :=
 if h : i < L.length then (if L[i].kind = 0 then zba L (i + 1) else if L[i].kind = 102 then tail L 0 else (2,(i : Int) + 1)) else (2,0)
termination_by L.length - i
theorem zdL (L : List Said) (i : Nat) (h : ¬ i < L.length) : zba L i = (2,0):=by rw [zba,dif_neg h]
theorem ze4 (L : List Said) (i : Nat) (h : i < L.length) (h' : L[i].kind = 0) : zba L i = zba L (i + 1):=by rw [zba,dif_pos h,if_pos h']
theorem zfr (L : List Said) (i : Nat) (h : i < L.length) (h' : ¬ L[i].kind = 0) (h2 : L[i].kind = 102) : zba L i = tail L 0:=by rw [zba,dif_pos h,if_neg h',if_pos h2]
theorem zfs (L : List Said) (i : Nat) (h : i < L.length) (h' : ¬ L[i].kind = 0) (h2 : ¬ L[i].kind = 102) : zba L i = (2,(i : Int) + 1):=by rw [zba,dif_pos h,if_neg h',if_neg h2]
def zb1 (A : List ByteArray) (i : Nat) : Int × Int :=
 if h : i < A.length then (if (say A[i]).ok = true then zb1 A (i + 1) else (1,(i : Int) + 1)) else zba (A.map say) 0
termination_by A.length - i
theorem zft (A : List ByteArray) (i : Nat) (h : ¬ i < A.length) : zb1 A i = zba (A.map say) 0:=by rw [zb1,dif_neg h]
theorem ze5 (A : List ByteArray) (i : Nat) (h : i < A.length) (h' : (say A[i]).ok = true) : zb1 A i = zb1 A (i + 1):=by rw [zb1,dif_pos h,if_pos h']
theorem zd7 (A : List ByteArray) (i : Nat) (h : i < A.length) (h' : (say A[i]).ok = false) : zb1 A i = (1,(i : Int) + 1):=by rw [zb1,dif_pos h,if_neg (by simp [h'])]
def zbN (s : ByteArray) : Int × Int:=if 4000 < s.size ∨ 300 < (lines s).length then (6,0) else zb1 (lines s) 0
theorem zeR (s : ByteArray) (f i : Nat) : 1 ≤ (zbI s f i).length ∧ (zbI s f i).length ≤ s.size - i + 1:=by
 by_cases h : i < s.size
 ·by_cases h' : bt s i = 10
  ·rw [zdH s f i h h']
   have:=zeR s (i + 1) (i + 1)
   simp; omega
  ·rw [ze1 s f i h h']
   have:=zeR s f (i + 1)
   omega
 ·rw [zdG s f i h]; simp
termination_by s.size - i
theorem zfu (s : ByteArray) : 1 ≤ (lines s).length ∧ (lines s).length ≤ s.size + 1:=zeR s 0 0
theorem zdM (s : ByteArray) (f i : Nat) : ∀ x ∈ zbI s f i,x.size ≤ s.size:=by
 by_cases h : i < s.size
 ·by_cases h' : bt s i = 10
  ·rw [zdH s f i h h']
   intro x hx
   rw [List.mem_cons] at hx
   rcases hx with rfl | hx
   ·rw [ByteArray.size_extract]; omega
   ·exact zdM s (i + 1) (i + 1) x hx
  ·rw [ze1 s f i h h']
   exact zdM s f (i + 1)
 ·rw [zdG s f i h]
  intro x hx
  simp at hx; subst hx
  rw [ByteArray.size_extract]; omega
termination_by s.size - i
theorem zdN (s : ByteArray) : ∀ x ∈ lines s,x.size ≤ s.size:=zdM s 0 0
theorem zqc (s : ByteArray) (h : (say s).ok = true) : Wf (say s):=by
 unfold say at h ⊢
 split at h
 ·rename_i hv
  rw [if_pos hv]
  generalize words s = l at h ⊢
  unfold sayW at h ⊢
  split at h
  ·exact .inl ⟨rfl,rfl⟩
  ·rename_i x r
   by_cases hf : zjT x = true
   ·rw [if_pos hf] at h ⊢
    simp only [Bool.and_eq_true,decide_eq_true_eq] at h
    exact .inr (.inl ⟨rfl,h.1⟩)
   ·rw [if_neg hf] at h ⊢
    by_cases hl : (x :: r).length = 1 ∧ zfo x = 58
    ·rw [if_pos hl] at h ⊢
     exact .inr (.inr (.inl ⟨rfl,rfl⟩))
    ·rw [if_neg hl] at h ⊢
     simp only at h
     split at h
     ·cases h
     ·rename_i hs
      refine .inr (.inr (.inr ⟨rfl,by simp,?_⟩))
      have h3 : (zaa x).length ≤ 3:=by
       unfold zaa
       repeat' split
       all_goals decide
      have h4 : (x :: r).length = (zaa x).length + 1:=by
       rcases Classical.em ((x :: r).length = (zaa x).length + 1) with h | h
       ·exact h
       ·exact absurd (.inr h) hs
      show (x :: r).length ≤ 4
      omega
 ·cases h
end Go.Proofs.YtfpgjkbjbbgciaaGreatDoor.Sp
namespace Go.Proofs.YtfpgjkbjbbgciaaGreatDoor
open Go.RowKit Sp
theorem zqy (L : List Said) (k : Nat) (h : k < L.length) (h1 : (L[k].kind != 105) = true) : zaD L k = false:=by
 simp at h1
 unfold zaD; rw [List.getElem?_eq_getElem h]; simp only [h1,if_false]
theorem zfv (L : List Said) (k m : Nat) (h : k < L.length) (h1 : (L[k].kind != 105) = false) (hl : L[k].kept.length = m + 1) (h2 : zaF (L[k].kept[0]) = true) : zaD L k = decide (zbM L k (L[k].kept[m]) < 0):=by
 simp at h1
 unfold zaD Said.last; rw [List.getElem?_eq_getElem h]; simp only [h1,if_true,zc3 _ 0 (show 0 < L[k].kept.length by omega),h2,hl]
 rw [zc3 _ (m + 1 - 1) (by omega)]; rfl
theorem zjZ (L : List Said) (k m : Nat) (h : k < L.length) (h1 : (L[k].kind != 105) = false) (hl : L[k].kept.length = m + 1) (h2 : zaF (L[k].kept[0]) = false) (h3 : zcs (L[k].kept[0]) = true) : zaD L k = decide (zaE L (L[k].kept[m]) 0 < 0):=by
 simp at h1
 unfold zaD Said.last; rw [List.getElem?_eq_getElem h]; simp only [h1,if_true,zc3 _ 0 (show 0 < L[k].kept.length by omega),h2,h3,hl]
 rw [zc3 _ (m + 1 - 1) (by omega)]; rfl
theorem zqz (L : List Said) (k m : Nat) (h : k < L.length) (h1 : (L[k].kind != 105) = false) (hl : L[k].kept.length = m + 1) (h2 : zaF (L[k].kept[0]) = false) (h3 : zcs (L[k].kept[0]) = false) : zaD L k = false:=by
 simp at h1
 unfold zaD; rw [List.getElem?_eq_getElem h]; simp [h1,zc3 _ 0 (show 0 < L[k].kept.length by omega),h2,h3]
theorem zka (x : ByteArray) (h : (x.toList == [106,117,109,112]) = true) : zaF x = true:=by simp [zaF,isW,h]
theorem zkb (x : ByteArray) (h : (x.toList == [108,101,115,115]) = true) : zaF x = true:=by simp [zaF,isW,h]
theorem zkc (x : ByteArray) (h : (x.toList == [115,97,109,101]) = true) : zaF x = true:=by simp [zaF,isW,h]
theorem zir (x : ByteArray) (h : (x.toList == [106,117,109,112]) = false) (h1 : (x.toList == [108,101,115,115]) = false) (h2 : (x.toList == [115,97,109,101]) = false) : zaF x = false:=by simp [zaF,isW,h,h1,h2]
theorem zgU (L : List Said) (g cap k : Nat) (w : World) (hL : LinesIn w g L) (hn : L.length ≤ 1048577) (hk : k < L.length) :
  Calls Tryz.prog 48 #[.slice (some ⟨g,0,none⟩) L.length cap,.int .i64 (k : Int)] w fun e w' => e = .returned (.bool (zaD L k)) ∧ w' = w:=by
 have hc:=hL.kind k hk
 have hb:=zdw (hL.wf k hk)
 cases h105 : (L[k].kind != 105) with
 | true =>
  have HT : Hid (false = zaD L k):=(zqy L k hk h105).symm
  go_enter Tryz.func48,Tryz.ntmps48
  go_wp2
  go_ret
  exact ⟨za3 HT.out,rfl⟩
 | false =>
  have h2:=wf_i (hL.wf k hk) (by simp at h105; simpa using h105)
  have hlen : 0 < L[k].kept.length:=by omega
  obtain ⟨m,hm⟩ : ∃ m,L[k].kept.length = m + 1:=⟨L[k].kept.length - 1,by omega⟩
  have hm3 : m ≤ 3:=by omega
  obtain ⟨b,c,hw,hwc⟩:=hL.words k hk (by omega)
  have hw0:=hwc 0 hlen
  have hlm : m < L[k].kept.length:=by omega
  have hwm:=hwc m hlm
  rw [hm] at hw
  have HM : Hid (L[k].kept.length = m + 1):=hm
  clear hwc hm h2
  cases j1 : ((L[k].kept[0]'hlen).toList == [106,117,109,112]) with
  | true =>
   have HT : Hid (decide (zbM L k (L[k].kept[m]'hlm) < 0) = zaD L k):=(zfv L k m hk h105 HM.out (zka _ j1)).symm
   go_enter Tryz.func48,Tryz.ntmps48
   go_wp2_with (go_at_call 78; refine (zeT L g cap k _ _ hL hn hk).mono ?_; rintro e w' ⟨rfl,rfl⟩)
   go_ret
   exact ⟨za3 HT.out,rfl⟩
  | false =>
   cases j2 : ((L[k].kept[0]'hlen).toList == [108,101,115,115]) with
   | true =>
    have HT : Hid (decide (zbM L k (L[k].kept[m]'hlm) < 0) = zaD L k):=(zfv L k m hk h105 HM.out (zkb _ j2)).symm
    go_enter Tryz.func48,Tryz.ntmps48
    go_wp2_with (go_at_call 78; refine (zeT L g cap k _ _ hL hn hk).mono ?_; rintro e w' ⟨rfl,rfl⟩)
    go_ret
    exact ⟨za3 HT.out,rfl⟩
   | false =>
    cases j3 : ((L[k].kept[0]'hlen).toList == [115,97,109,101]) with
    | true =>
     have HT : Hid (decide (zbM L k (L[k].kept[m]'hlm) < 0) = zaD L k):=(zfv L k m hk h105 HM.out (zkc _ j3)).symm
     go_enter Tryz.func48,Tryz.ntmps48
     go_wp2_with (go_at_call 78; refine (zeT L g cap k _ _ hL hn hk).mono ?_; rintro e w' ⟨rfl,rfl⟩)
     go_ret
     exact ⟨za3 HT.out,rfl⟩
    | false =>
     cases j4 : ((L[k].kept[0]'hlen).toList == [99,97,108,108]) with
     | true =>
      have HT : Hid (decide (zaE L (L[k].kept[m]'hlm) 0 < 0) = zaD L k):=(zjZ L k m hk h105 HM.out (zir _ j1 j2 j3) j4).symm
      go_enter Tryz.func48,Tryz.ntmps48
      go_wp2_with (go_at_call 77; refine (znb L g cap _ _ hL hn).mono ?_; rintro e w' ⟨rfl,rfl⟩)
      go_ret
      exact ⟨za3 HT.out,rfl⟩
     | false =>
      have HT : Hid (false = zaD L k):=(zqz L k m hk h105 HM.out (zir _ j1 j2 j3) j4).symm
      go_enter Tryz.func48,Tryz.ntmps48
      go_wp2
      go_ret
      exact ⟨za3 HT.out,rfl⟩
theorem zq0 (L : List Said) (k : Nat) (h : k < L.length) (h1 : (L[k].kind != 102) = true) : zaZ L k = false:=by
 simp at h1
 unfold zaZ; rw [List.getElem?_eq_getElem h]; simp only [h1,if_false]
theorem zgV (L : List Said) (k : Nat) (h : k < L.length) (h1 : (L[k].kind != 102) = false) : zaZ L k = !zdK L (k + 1) false:=by
 simp at h1
 unfold zaZ; rw [List.getElem?_eq_getElem h]; simp only [h1,if_true]
theorem zuW (L : List Said) (i : Nat) (e : Bool) (h : i < L.length) (h0 : (L[i].kind != 102) = true) (h1 : (L[i].kind == 108) = true) : zdK L i e = zdK L (i + 1) false:=by
 simp at h0 h1
 rw [zds L i e h h0,if_pos h1]
theorem zuX (L : List Said) (i : Nat) (e : Bool) (h : i < L.length) (h0 : (L[i].kind != 102) = true) (h1 : (L[i].kind == 108) = false) (h2 : (L[i].kind == 105) = true) (hl : 0 < L[i].kept.length) : zdK L i e = zdK L (i + 1) (ends (L[i].kept[0])):=by
 simp at h0 h1 h2
 rw [zds L i e h h0,if_neg h1,if_pos h2,zc3 _ 0 hl]
theorem zuY (L : List Said) (i : Nat) (e : Bool) (h : i < L.length) (h0 : (L[i].kind != 102) = true) (h1 : (L[i].kind == 108) = false) (h2 : (L[i].kind == 105) = false) : zdK L i e = zdK L (i + 1) e:=by
 simp at h0 h1 h2
 rw [zds L i e h h0,if_neg h1,if_neg h2]
theorem zwn (x : ByteArray) (h : (x.toList == [106,117,109,112]) = true) : ends x = true:=by simp [ends,isW,h]
theorem zwo (x : ByteArray) (h : (x.toList == [98,97,99,107]) = true) : ends x = true:=by simp [ends,isW,h]
theorem zuE (x : ByteArray) (h : (x.toList == [106,117,109,112]) = false) (h1 : (x.toList == [98,97,99,107]) = false) : ends x = (x.toList == [115,116,111,112]):=by simp [ends,isW,h,h1]
theorem zgW (L : List Said) (g cap k : Nat) (w : World) (hL : LinesIn w g L) (hn : L.length ≤ 1048577) (hk : k < L.length) :
  Calls Tryz.prog 49 #[.slice (some ⟨g,0,none⟩) L.length cap,.int .i64 (k : Int)] w fun e w' => e = .returned (.bool (zaZ L k)) ∧ w' = w:=by
 have hc:=hL.kind k hk
 have hb:=zdw (hL.wf k hk)
 cases h102 : (L[k].kind != 102) with
 | true =>
  have HT : Hid (false = zaZ L k):=(zq0 L k hk h102).symm
  go_enter Tryz.func49,Tryz.ntmps49
  go_wp2
  go_ret
  exact ⟨za3 HT.out,rfl⟩
 | false =>
  have HT : Hid (zaZ L k = !zdK L (k + 1) false):=zgV L k hk h102
  go_enter Tryz.func49,Tryz.ntmps49
  go_wp2
  clear hc hb
  go_loop [5,6] (fun te ti => ∃ (j : Nat) (e : Bool),j ≤ L.length ∧ ti = .int .i64 (j : Int) ∧ te = .bool e ∧ zaZ L k = !zdK L j e) (fun _ ti => L.length - (intOf ti).toNat)
  case atStart => exact ⟨k + 1,false,by omega,by go_num,rfl,HT.out⟩
  case round =>
   obtain ⟨j,e,hj,rfl,rfl,hR⟩:=hrel
   clear HT
   have HT : Hid (zaZ L k = !zdK L j e):=hR
   clear hR
   by_cases hlt : j < L.length
   ·have hc:=hL.kind j hlt
    have hb:=zdw (hL.wf j hlt)
    cases k102 : (L[j].kind != 102) with
    | false =>
     have HQ : Hid ((!e) = zaZ L k):=by unfold Hid; rw [HT.out,zlK L j e hlt (by simpa using k102)]
     go_wp2
     go_ret
     exact ⟨za3 HQ.out,rfl⟩
    | true =>
     cases k108 : (L[j].kind == 108) with
     | true =>
      have HQ : Hid (zaZ L k = !zdK L (j + 1) false):=by unfold Hid; rw [HT.out,zuW L j e hlt k102 k108]
      go_wp2
      go_round
      case rel => exact ⟨j + 1,false,by omega,by go_num,rfl,HQ.out⟩
      case measure => simp [intOf]; omega
     | false =>
      cases k105 : (L[j].kind == 105) with
      | false =>
       have HQ : Hid (zaZ L k = !zdK L (j + 1) e):=by unfold Hid; rw [HT.out,zuY L j e hlt k102 k108 k105]
       go_wp2
       go_round
       case rel => exact ⟨j + 1,e,by omega,by go_num,rfl,HQ.out⟩
       case measure => simp [intOf]; omega
      | true =>
       have h2:=wf_i (hL.wf j hlt) k105
       have hlen : 0 < L[j].kept.length:=by omega
       obtain ⟨b,c,hw,hwc⟩:=hL.words j hlt (by omega)
       have hw0:=hwc 0 hlen
       clear hwc
       have HQ : Hid (zaZ L k = !zdK L (j + 1) (ends (L[j].kept[0]))):=by unfold Hid; rw [HT.out,zuX L j e hlt k102 k108 k105 hlen]
       cases j1 : ((L[j].kept[0]'hlen).toList == [106,117,109,112]) with
       | true =>
        have HE : Hid (ends (L[j].kept[0]) = true):=zwn _ j1
        go_wp2
        go_round
        case rel => exact ⟨j + 1,true,by omega,by go_num,rfl,by rw [HQ.out,HE.out]⟩
        case measure => simp [intOf]; omega
       | false =>
        cases j2 : ((L[j].kept[0]'hlen).toList == [98,97,99,107]) with
        | true =>
         have HE : Hid (ends (L[j].kept[0]) = true):=zwo _ j2
         go_wp2
         go_round
         case rel => exact ⟨j + 1,true,by omega,by go_num,rfl,by rw [HQ.out,HE.out]⟩
         case measure => simp [intOf]; omega
        | false =>
         cases j3 : ((L[j].kept[0]'hlen).toList == [115,116,111,112]) with
         | true =>
          have HE : Hid (ends (L[j].kept[0]) = true):=(zuE _ j1 j2).trans j3
          go_wp2
          go_round
          case rel => exact ⟨j + 1,true,by omega,by go_num,rfl,by rw [HQ.out,HE.out]⟩
          case measure => simp [intOf]; omega
         | false =>
          have HE : Hid (ends (L[j].kept[0]) = false):=(zuE _ j1 j2).trans j3
          go_wp2
          go_round
          case rel => exact ⟨j + 1,false,by omega,by go_num,rfl,by rw [HQ.out,HE.out]⟩
          case measure => simp [intOf]; omega
   ·have HQ : Hid ((!e) = zaZ L k):=by unfold Hid; rw [HT.out,zgR L j e hlt]
    go_wp2
    go_ret
    exact ⟨za3 HQ.out,rfl⟩
theorem ze7 (x : ByteArray) (w : World) (sh : List UInt8) (HS : Hid (zaa x = sh)) :
  Calls Tryz.prog 74 #[.string x] w fun e w' => e = .returned (.string ⟨sh.toArray⟩) ∧ w' = w:=by
 rw [← HS.out]; exact zqo x w
theorem zwk (a b : Nat) (h : ¬ a = b) : ((a : Int) + 1 != (b : Int) + 1) = true:=by simp; omega
theorem zqr (s : ByteArray) (w : World) (hs : s.size ≤ 1048576) (hv : zak s 0 = true) (x : ByteArray) (hl : Hid (words s = [x])) (hx : x.size ≤ 1048576) (hx1 : 1 ≤ x.size) (hnf : (x.toList == [102,117,110,99]) = false) (hlast : ((x[x.size - 1].toNat : Int) == 58) = false) (sh : List UInt8) (HS : Hid (zaa x = sh)) (_hsh : sh.length ≤ 3) (h63 : (sh == [63]) = true) :
  Calls Tryz.prog 46 #[.string s] w (zbX w.heap.size w ⟨105,[x],false⟩):=by
 go_enter Tryz.func46,Tryz.ntmps46
 go_wp2_with (first
  | (go_at_call 71; refine (zbO s _ (by omega)).mono ?_; rintro e w' ⟨rfl,rfl⟩)
  | (go_at_call 74; refine (ze7 x _ sh HS).mono ?_; rintro e w' ⟨rfl,rfl⟩)
  | (go_at_call 72; refine (zcW s w (by omega) _ hl (by simp)).mono ?_; rintro e w1 ⟨g,cap,rfl,hcap,hmx,hcl,hown,K⟩; obtain ⟨hg3,hg2,hb,c0,c1,d0,d1,e0,e1,f0,f1⟩:=K; have hne : ¬ w.heap.size + 1 = g:=(by omega); have hne0 : ¬ w.heap.size = g:=(by omega); have hc0:=hcl 0 (by simp); simp only [List.getElem_cons_zero] at hc0))
 go_light
 obtain ⟨p0,p1⟩:=zbJ (W:=zeg w w1 105 (.slice (some ⟨g,0,none⟩) 1 cap)) (b:=w.heap.size) (za0 c0) (za0 c1)
 exact bodyPost_ret (v:=.tuple #[.agg #[.int .u8 105,.slice (some ⟨g,0,none⟩) 1 cap],.bool false]) (by simp [results,Tryz.results46,go_sem,p0,p1]) rfl (zbR (by simpa using hown) hb)
theorem zqs (s : ByteArray) (w : World) (hs : s.size ≤ 1048576) (hv : zak s 0 = true) (x : ByteArray) (hl : Hid (words s = [x])) (hx : x.size ≤ 1048576) (hx1 : 1 ≤ x.size) (hnf : (x.toList == [102,117,110,99]) = false) (hlast : ((x[x.size - 1].toNat : Int) == 58) = false) (sh : List UInt8) (HS : Hid (zaa x = sh)) (hsh : sh.length ≤ 3) (h63 : (sh == [63]) = false) (hne1 : ((1 : Int) != (sh.length : Int) + 1) = true) :
  Calls Tryz.prog 46 #[.string s] w (zbX w.heap.size w ⟨105,[x],false⟩):=by
 go_enter Tryz.func46,Tryz.ntmps46
 go_wp2_with (first
  | (go_at_call 71; refine (zbO s _ (by omega)).mono ?_; rintro e w' ⟨rfl,rfl⟩)
  | (go_at_call 74; refine (ze7 x _ sh HS).mono ?_; rintro e w' ⟨rfl,rfl⟩)
  | (go_at_call 72; refine (zcW s w (by omega) _ hl (by simp)).mono ?_; rintro e w1 ⟨g,cap,rfl,hcap,hmx,hcl,hown,K⟩; obtain ⟨hg3,hg2,hb,c0,c1,d0,d1,e0,e1,f0,f1⟩:=K; have hne : ¬ w.heap.size + 1 = g:=(by omega); have hne0 : ¬ w.heap.size = g:=(by omega); have hc0:=hcl 0 (by simp); simp only [List.getElem_cons_zero] at hc0))
 go_light
 obtain ⟨p0,p1⟩:=zbJ (W:=zeg w w1 105 (.slice (some ⟨g,0,none⟩) 1 cap)) (b:=w.heap.size) (za0 c0) (za0 c1)
 exact bodyPost_ret (v:=.tuple #[.agg #[.int .u8 105,.slice (some ⟨g,0,none⟩) 1 cap],.bool false]) (by simp [results,Tryz.results46,go_sem,p0,p1]) rfl (zbR (by simpa using hown) hb)
theorem zqt (s : ByteArray) (w : World) (hs : s.size ≤ 1048576) (hv : zak s 0 = true) (x : ByteArray) (r : List ByteArray) (hl : Hid (words s = x :: r)) (_hx : x.size ≤ 1048576) (_hx1 : 1 ≤ x.size) (hnf : (x.toList == [102,117,110,99]) = false) (hr : r.length ≤ 1048576) (hr1 : 1 ≤ r.length) (hr2 : ((r.length : Int) + 1 == 1) = false) (sh : List UInt8) (HS : Hid (zaa x = sh)) (_hsh : sh.length ≤ 3) (h63 : (sh == [63]) = true) :
  Calls Tryz.prog 46 #[.string s] w (zbX w.heap.size w ⟨105,x :: r,false⟩):=by
 go_enter Tryz.func46,Tryz.ntmps46
 go_wp2_with (first
  | (go_at_call 71; refine (zbO s _ (by omega)).mono ?_; rintro e w' ⟨rfl,rfl⟩)
  | (go_at_call 74; refine (ze7 x _ sh HS).mono ?_; rintro e w' ⟨rfl,rfl⟩)
  | (go_at_call 72; refine (zcW s w (by omega) _ hl (by simp)).mono ?_; rintro e w1 ⟨g,cap,rfl,hcap,hmx,hcl,hown,K⟩; obtain ⟨hg3,hg2,hb,c0,c1,d0,d1,e0,e1,f0,f1⟩:=K; have hne : ¬ w.heap.size + 1 = g:=(by omega); have hne0 : ¬ w.heap.size = g:=(by omega); have hc0:=hcl 0 (by simp); simp only [List.getElem_cons_zero] at hc0))
 go_light
 obtain ⟨p0,p1⟩:=zbJ (W:=zeg w w1 105 (.slice (some ⟨g,0,none⟩) (r.length + 1) cap)) (b:=w.heap.size) (za0 c0) (za0 c1)
 exact bodyPost_ret (v:=.tuple #[.agg #[.int .u8 105,.slice (some ⟨g,0,none⟩) (r.length + 1) cap],.bool false]) (by simp [results,Tryz.results46,go_sem,p0,p1]) rfl (zbR (by simpa using hown) hb)
theorem zqu (s : ByteArray) (w : World) (hs : s.size ≤ 1048576) (hv : zak s 0 = true) (x : ByteArray) (r : List ByteArray) (hl : Hid (words s = x :: r)) (_hx : x.size ≤ 1048576) (_hx1 : 1 ≤ x.size) (hnf : (x.toList == [102,117,110,99]) = false) (hr : r.length ≤ 1048576) (hr1 : 1 ≤ r.length) (hr2 : ((r.length : Int) + 1 == 1) = false) (sh : List UInt8) (HS : Hid (zaa x = sh)) (hsh : sh.length ≤ 3) (h63 : (sh == [63]) = false) (hne1 : ((r.length : Int) + 1 != (sh.length : Int) + 1) = true) :
  Calls Tryz.prog 46 #[.string s] w (zbX w.heap.size w ⟨105,x :: r,false⟩):=by
 go_enter Tryz.func46,Tryz.ntmps46
 go_wp2_with (first
  | (go_at_call 71; refine (zbO s _ (by omega)).mono ?_; rintro e w' ⟨rfl,rfl⟩)
  | (go_at_call 74; refine (ze7 x _ sh HS).mono ?_; rintro e w' ⟨rfl,rfl⟩)
  | (go_at_call 72; refine (zcW s w (by omega) _ hl (by simp)).mono ?_; rintro e w1 ⟨g,cap,rfl,hcap,hmx,hcl,hown,K⟩; obtain ⟨hg3,hg2,hb,c0,c1,d0,d1,e0,e1,f0,f1⟩:=K; have hne : ¬ w.heap.size + 1 = g:=(by omega); have hne0 : ¬ w.heap.size = g:=(by omega); have hc0:=hcl 0 (by simp); simp only [List.getElem_cons_zero] at hc0))
 go_light
 obtain ⟨p0,p1⟩:=zbJ (W:=zeg w w1 105 (.slice (some ⟨g,0,none⟩) (r.length + 1) cap)) (b:=w.heap.size) (za0 c0) (za0 c1)
 exact bodyPost_ret (v:=.tuple #[.agg #[.int .u8 105,.slice (some ⟨g,0,none⟩) (r.length + 1) cap],.bool false]) (by simp [results,Tryz.results46,go_sem,p0,p1]) rfl (zbR (by simpa using hown) hb)
end Go.Proofs.YtfpgjkbjbbgciaaGreatDoor
namespace Go.Proofs.YtfpgjkbjbbgciaaGreatDoor.Sp
inductive Ins where
 | set (r : Nat) (k : Int)
 | mov (r s : Nat)
 | alu (o : Nat) (r s t : Nat)
 | inc (r : Nat) (k : Int)
 | load (r s : Nat)
 | store (r s : Nat)
 | read (r : Nat)
 | write (r : Nat)
 | jump (to : Int)
 | less (r s : Nat) (to : Int)
 | same (r s : Nat) (to : Int)
 | call (to : Int)
 | back
 | stop
structure Mc where
 at' : Int
 backs : List Int
 inp : List Int
 steps : Int
 regs : Nat → Int
 cells : Nat → Int
 out : List Int
 frames : Int
 peak : Int
 fin : Int
def upd (f : Nat → Int) (i : Nat) (v : Int) : Nat → Int:=fun j => if j = i then v else f j
theorem zf4 (f : Nat → Int) (i : Nat) (v : Int) : upd f i v i = v:=by simp [upd]
theorem zen (f : Nat → Int) (i j : Nat) (v : Int) (h : ¬ j = i) : upd f i v j = f j:=by simp [upd,h]
def w64 (x : Int) : Int:=(x + 9223372036854775808) % 18446744073709551616 - 9223372036854775808
def zbv (o : Nat) (a b : Int) : Int:=if o = 0 then w64 (a + b) else if o = 1 then w64 (a - b) else w64 (a * b)
def Mc.goes (m : Mc) (to : Int) : Mc:={ m with steps:=m.steps + 1,at':=to }
def exec (i : Ins) (next : Int) (m : Mc) : Mc :=
 match i with
 | .set r k => { m with regs:=upd m.regs r k }.goes next
 | .mov r s => { m with regs:=upd m.regs r (m.regs s) }.goes next
 | .alu o r s t => { m with regs:=upd m.regs r (zbv o (m.regs s) (m.regs t)) }.goes next
 | .inc r k => { m with regs:=upd m.regs r (w64 (m.regs r + k)) }.goes next
 | .load r s => if m.regs s < 0 ∨ 15 < m.regs s then { m with fin:=3 } else { m with regs:=upd m.regs r (m.cells (m.regs s).toNat) }.goes next
 | .store r s => if m.regs r < 0 ∨ 15 < m.regs r then { m with fin:=3 } else { m with cells:=upd m.cells (m.regs r).toNat (m.regs s) }.goes next
 | .read r => { m with regs:=upd m.regs r (m.inp.headD 0),inp:=m.inp.tail }.goes next
 | .write r => { m with out:=m.out ++ [m.regs r] }.goes next
 | .jump to => m.goes to
 | .less r s to => m.goes (if m.regs r < m.regs s then to else next)
 | .same r s to => m.goes (if m.regs r = m.regs s then to else next)
 | .call to => if m.frames = 16 then { m with fin:=4 } else { m with backs:=m.backs ++ [next],frames:=m.frames + 1,peak:=max m.peak (m.frames + 1) }.goes to
 | .back => if m.frames = 1 then { m with frames:=0,fin:=2 }.goes (-1) else { m with frames:=m.frames - 1,backs:=m.backs.dropLast }.goes (m.backs.getLastD 0)
 | .stop => { m with fin:=1 }.goes (-1)
def zac (L : List Said) (i : Nat) : Int :=
 if h : i < L.length then (if L[i].kind = 102 then -1 else if L[i].kind = 105 then (i : Int) else zac L (i + 1)) else -1
termination_by L.length - i
theorem zgw (L : List Said) (i : Nat) (h : ¬ i < L.length) : zac L i = -1:=by rw [zac,dif_neg h]
theorem zi6 (L : List Said) (i : Nat) (h : i < L.length) (h' : L[i].kind = 102) : zac L i = -1:=by rw [zac,dif_pos h,if_pos h']
theorem zeo (L : List Said) (i : Nat) (h : i < L.length) (h' : L[i].kind = 105) : zac L i = i:=by rw [zac,dif_pos h,if_neg (by omega),if_pos h']
theorem zdU (L : List Said) (i : Nat) (h : i < L.length) (h0 : ¬ L[i].kind = 102) (h' : ¬ L[i].kind = 105) : zac L i = zac L (i + 1):=by rw [zac,dif_pos h,if_neg h0,if_neg h']
def regN (x : ByteArray) : Nat:=(reg x).toNat
def zeI (L : List Said) (k : Nat) (x : ByteArray) : Int:=zac L (zbM L k x).toNat
def fnTo (L : List Said) (x : ByteArray) : Int:=zac L (zaE L x 0 + 1).toNat
def insQ (L : List Said) (k : Nat) (q : Said) : Ins :=
 if isW (q.word 0) [106,117,109,112] = true then .jump (zeI L k q.last)
 else if isW (q.word 0) [108,101,115,115] = true then .less (regN (q.word 1)) (regN (q.word 2)) (zeI L k q.last)
 else if isW (q.word 0) [115,97,109,101] = true then .same (regN (q.word 1)) (regN (q.word 2)) (zeI L k q.last)
 else if isW (q.word 0) [99,97,108,108] = true then .call (fnTo L q.last)
 else if isW (q.word 0) [98,97,99,107] = true then .back
 else if isW (q.word 0) [115,116,111,112] = true then .stop
 else if isW (q.word 0) [115,101,116] = true then .set (regN (q.word 1)) (za6 (q.word 2)).1
 else if isW (q.word 0) [109,111,118] = true then .mov (regN (q.word 1)) (regN (q.word 2))
 else if isW (q.word 0) [97,100,100] = true then .alu 0 (regN (q.word 1)) (regN (q.word 2)) (regN (q.word 3))
 else if isW (q.word 0) [115,117,98] = true then .alu 1 (regN (q.word 1)) (regN (q.word 2)) (regN (q.word 3))
 else if isW (q.word 0) [109,117,108] = true then .alu 2 (regN (q.word 1)) (regN (q.word 2)) (regN (q.word 3))
 else if isW (q.word 0) [105,110,99] = true then .inc (regN (q.word 1)) (za6 (q.word 2)).1
 else if isW (q.word 0) [108,111,97,100] = true then .load (regN (q.word 1)) (regN (q.word 2))
 else if isW (q.word 0) [115,116,111,114,101] = true then .store (regN (q.word 1)) (regN (q.word 2))
 else if isW (q.word 0) [114,101,97,100] = true then .read (regN (q.word 1))
 else .write (regN (q.word 1))
def zb9 (L : List Said) (m : Mc) : Mc :=
 match L[m.at'.toNat]? with
 | none => m
 | some q => exec (insQ L m.at'.toNat q) (zac L (m.at'.toNat + 1)) m
def runS (f : Mc → Mc) : Nat → Mc → Mc
 | 0,m => m
 | n + 1,m => if m.fin = 0 then runS f n (f m) else m
theorem zcY (f : Mc → Mc) (n : Nat) (m : Mc) (h : ¬ m.fin = 0) : runS f n m = m:=by
 cases n with
 | zero => rfl
 | succ n => show (if m.fin = 0 then _ else _) = m; rw [if_neg h]
theorem zcj (f : Mc → Mc) (n : Nat) (m : Mc) (h : m.fin = 0) : runS f (n + 1) m = runS f n (f m):=by
 show (if m.fin = 0 then _ else _) = _; rw [if_pos h]
def zcp (L : List Said) (i : Nat) : Nat:=if h : i < L.length then (if L[i].kind = 102 then i else zcp L (i + 1)) else i
termination_by L.length - i
def zdB (L : List Said) (inp : List Int) : Mc:=⟨zac L (zcp L 0 + 1),[],inp,0,fun _ => 0,fun _ => 0,[],1,1,0⟩
def Mc.line (m : Mc) : Int:=if m.fin = 1 ∨ m.fin = 2 then 0 else m.at' + 1
end Go.Proofs.YtfpgjkbjbbgciaaGreatDoor.Sp
