import Derived.Test.YtfpgjkbjbbgciaaGreatDoorMc01
import Derived.Test.YtfpgjkbjbbgciaaGreatDoorMc03
import Derived.StillTail
import Derived.BigQuiet
import Derived.Lib.Strings
import Derived.Deep.Light
set_option maxRecDepth 100000
set_option maxHeartbeats 8000000
namespace Go.Proofs.YtfpgjkbjbbgciaaGreatDoor
open Go.RowKit Sp
theorem za3 {a b : Bool} (h : a = b) : Ending.returned (.bool a) = .returned (.bool b):=by rw [h]
theorem zbO (s : ByteArray) (w : World) (hs : s.size ≤ 140737488355328) :
  Calls Tryz.prog 71 #[.string s] w fun e w' => e = .returned (.bool (zak s 0)) ∧ w' = w:=by
 go_enter Tryz.func71,Tryz.ntmps71
 go_wp2
 go_loop [3] (fun ti => ∃ j : Nat,j ≤ s.size ∧ ti = .int .i64 (j : Int) ∧ zak s 0 = zak s j) (fun ti => s.size - (intOf ti).toNat)
 case atStart => exact ⟨0,by omega,rfl,rfl⟩
 case round =>
  obtain ⟨j,hj,rfl,hR⟩:=hrel
  have HR : Hid (zak s 0 = zak s j):=hR
  clear hR
  by_cases hlt : j < s.size
  ·by_cases h0 : (chr s j).1 = 0
   ·go_wp2_with (go_at_call 106; refine (zgL s j _ hs hlt).mono ?_; rintro e w' ⟨rfl,rfl⟩)
    go_ret
    exact ⟨za3 (by rw [HR.out,zgN s j hlt h0]),rfl⟩
   ·have hp:=zcy s j hlt h0
    obtain ⟨hp1,hp2,hp3,hp4,_,_⟩:=hp
    have HP : Hid (((chrN s j : Nat) : Int) = (chr s j).1):=hp1
    have hq1 : 1 ≤ (chr s j).1:=by omega
    have hq2 : (chr s j).1 ≤ 4:=by omega
    have hq : ((chr s j).1 == 0) = false:=by simpa using h0
    clear hp1
    go_wp2_with (go_at_call 106; refine (zgL s j _ hs hlt).mono ?_; rintro e w' ⟨rfl,rfl⟩)
    go_round
    case rel => have e:=HP.out; exact ⟨j + chrN s j,by omega,by go_num,by rw [HR.out,zgn s j hlt h0]⟩
    case measure => have e:=HP.out; simp [intOf]; omega
  ·go_wp2
   go_ret
   exact ⟨za3 (by rw [HR.out,zgM s j hlt]),rfl⟩
theorem zgO (c : Int) (h : 97 ≤ c ∧ c ≤ 122 ∨ c = 95 ∨ 945 ≤ c ∧ c ≤ 969) : zcz c = true:=by simpa [zcz] using h
theorem zsK (c : Int) (h : ¬ (97 ≤ c ∧ c ≤ 122 ∨ c = 95 ∨ 945 ≤ c ∧ c ≤ 969)) : ¬ zcz c = true:=by simpa [zcz] using h
theorem zpV (c : Int) (h : 48 ≤ c ∧ c ≤ 57) : zaO c = true:=by simpa [zaO] using h
theorem zsL (c : Int) (h : ¬ (48 ≤ c ∧ c ≤ 57)) : ¬ zaO c = true:=by simpa [zaO] using h
theorem zuO (c : Int) (j : Nat) (h : 97 ≤ c ∧ c ≤ 122 ∨ 95 ≤ c ∧ c ≤ 95 ∨ 945 ≤ c ∧ c ≤ 969 ∨ (48 ≤ c ∧ c ≤ 57) ∧ ¬ j = 0) : zcz c = true ∨ zaO c = true ∧ ¬ j = 0:=by
 rcases h with h | h | h | ⟨h,h'⟩
 ·exact .inl (zgO c (by omega))
 ·exact .inl (zgO c (by omega))
 ·exact .inl (zgO c (by omega))
 ·exact .inr ⟨zpV c h,h'⟩
theorem zsM (c : Int) (j : Nat) (h : ¬ (97 ≤ c ∧ c ≤ 122 ∨ 95 ≤ c ∧ c ≤ 95 ∨ 945 ≤ c ∧ c ≤ 969 ∨ (48 ≤ c ∧ c ≤ 57) ∧ ¬ j = 0)) : ¬ (zcz c = true ∨ zaO c = true ∧ ¬ j = 0):=by
 intro hh
 rcases hh with h1 | ⟨h1,h2⟩
 ·exact absurd h1 (zsK c (by omega))
 ·exact absurd h1 (zsL c (by omega))
theorem zpW (c : Int) (j : Nat) (h0 : 0 ≤ c) (h1 : c ≤ 1114111) : ((97 ≤ c ∧ c ≤ 122) ∨ (95 ≤ c ∧ c ≤ 95 ∧ (c == 95) = true) ∨ (945 ≤ c ∧ c ≤ 969 ∧ (c == 95) = false) ∨ (48 ≤ c ∧ c ≤ 57 ∧ ((j : Int) == 0) = false ∧ (c == 95) = false)) ∨
  ((48 ≤ c ∧ c ≤ 57 ∧ ((j : Int) == 0) = true ∧ (c == 95) = false) ∨ (0 ≤ c ∧ c < 48 ∧ (c == 95) = false) ∨ (57 < c ∧ c < 95 ∧ (c == 95) = false) ∨ (95 < c ∧ c < 97 ∧ (c == 95) = false) ∨ (122 < c ∧ c < 945 ∧ (c == 95) = false) ∨ (969 < c ∧ c ≤ 1114111 ∧ (c == 95) = false)):=by
 by_cases h : (j : Int) = 0
 ·by_cases h' : c = 95 <;> simp [h,h'] <;> omega
 ·by_cases h' : c = 95 <;> simp [h'] <;> omega
theorem zgP (c : Nat) (h : 1 ≤ c) : decide ((c : Int) ≤ 12) = zc0 (some c):=by
 unfold zc0
 by_cases h' : c ≤ 12
 ·simp [h,h']; omega
 ·simp [h']; omega
theorem zim (c : Nat) (h : ¬ 1 ≤ c) : false = zc0 (some c):=by
 unfold zc0; simp; omega
theorem zg8 (s : ByteArray) (w : World) (hs : s.size ≤ 140737488355328) :
  Calls Tryz.prog 73 #[.string s] w fun e w' => e = .returned (.bool (zaz s)) ∧ w' = w:=by
 go_enter Tryz.func73,Tryz.ntmps73
 go_wp2
 go_loop [3,4] (fun tc ti => ∃ j c : Nat,j ≤ s.size ∧ c ≤ j ∧ ti = .int .i64 (j : Int) ∧ tc = .int .i64 (c : Int) ∧ zaz s = zc0 (zcB s j c)) (fun _ ti => s.size - (intOf ti).toNat)
 case atStart => exact ⟨0,0,by omega,by omega,rfl,rfl,rfl⟩
 case round =>
  obtain ⟨j,c,hj,hc,rfl,rfl,hR⟩:=hrel
  have HR : Hid (zaz s = zc0 (zcB s j c)):=hR
  clear hR
  by_cases hlt : j < s.size
  ·by_cases h0 : (chr s j).1 = 0
   ·have h2 : (chr s j).2 = 0:=by
     rcases zuA s j hlt with h | h
     ·rw [h]
     ·omega
    go_wp2_with (go_at_call 106; refine (zgL s j _ hs hlt).mono ?_; rintro e w' ⟨rfl,rfl⟩)
    go_ret
    exact ⟨za3 (by rw [HR.out,zil s j c hlt h0]; rfl),rfl⟩
   ·have hp:=zcy s j hlt h0
    obtain ⟨hp1,hp2,hp3,hp4,hp5,hp6⟩:=hp
    have HP : Hid (((chrN s j : Nat) : Int) = (chr s j).1):=hp1
    have hq1 : 1 ≤ (chr s j).1:=by omega
    have hq2 : (chr s j).1 ≤ 4:=by omega
    have hq : ((chr s j).1 == 0) = false:=by simpa using h0
    clear hp1
    rcases zpW (chr s j).2 j hp5 hp6 with hw | hw
    ·have HI : Hid (zaz s = zc0 (zcB s (j + chrN s j) (c + 1))):=by
      rw [HR.out,zeN s j c hlt h0 (zuO _ _ (by simp only [beq_eq_false_iff_ne,ne_eq] at hw; omega))]; rfl
     rcases hw with ⟨h,h'⟩ | ⟨h,h',hx⟩ | ⟨h,h',hx⟩ | ⟨h,h',hz,hx⟩
     all_goals
      go_wp2_with (go_at_call 106; refine (zgL s j _ hs hlt).mono ?_; rintro e w' ⟨rfl,rfl⟩)
      go_round
      case rel => have e:=HP.out; exact ⟨j + chrN s j,c + 1,by omega,by omega,by go_num,by go_num,HI.out⟩
      case measure => have e:=HP.out; simp [intOf]; omega
    ·have HI : Hid (false = zaz s):=by
      rw [HR.out,zfJ s j c hlt h0 (zsM _ _ (by simp only [beq_iff_eq] at hw; omega))]; rfl
     rcases hw with ⟨h,h',hz,hx⟩ | ⟨h,h',hx⟩ | ⟨h,h',hx⟩ | ⟨h,h',hx⟩ | ⟨h,h',hx⟩ | ⟨h,h',hx⟩
     all_goals
      go_wp2_with (go_at_call 106; refine (zgL s j _ hs hlt).mono ?_; rintro e w' ⟨rfl,rfl⟩)
     all_goals first
      | (exfalso; omega)
      | (exfalso; rename_i hh; simp only [Bool.not_eq_false',decide_eq_true_eq] at hh; omega)
      | (go_ret; exact ⟨za3 HI.out,rfl⟩)
  ·have HF : Hid (zaz s = zc0 (some c)):=by rw [HR.out,zik s j c hlt]; rfl
   by_cases h1 : 1 ≤ c
   ·go_wp2
    go_ret
    exact ⟨za3 (by rw [HF.out]; exact zgP c h1),rfl⟩
   ·go_wp2
    go_ret
    exact ⟨za3 (by rw [HF.out]; exact zim c h1),rfl⟩
end Go.Proofs.YtfpgjkbjbbgciaaGreatDoor
namespace Go.Proofs.YtfpgjkbjbbgciaaGreatDoor.Sp
def opOk (k : UInt8) (x : ByteArray) : Bool:=if k = 82 then decide (0 ≤ reg x) else if k = 75 then (za6 x).2 else zaz x
def zaK : List UInt8 → List ByteArray → Bool
 | [],_ => true
 | k :: ks,x :: xs => opOk k x && zaK ks xs
 | _ :: _,[] => true
def zfo (s : ByteArray) : Int:=bt s (s.size - 1)
def zjT (x : ByteArray) : Bool:=isW x [102,117,110,99]
structure Said where
 kind : Int
 kept : List ByteArray
 ok : Bool
def sayW (l : List ByteArray) : Said :=
 match l with
 | [] => ⟨0,[],true⟩
 | x :: r =>
  if zjT x = true then ⟨102,l,decide (l.length = 2) && zaz (l.getLast?.getD ByteArray.empty)⟩
  else if l.length = 1 ∧ zfo x = 58 then ⟨108,[x.extract 0 (x.size - 1)],zaz (x.extract 0 (x.size - 1))⟩
  else ⟨105,l,if zaa x = [63] ∨ ¬ l.length = (zaa x).length + 1 then false else zaK (zaa x) r⟩
def say (s : ByteArray) : Said:=if zak s 0 = true then sayW (words s) else ⟨0,[],false⟩
theorem zeP (s now : ByteArray) (l : List ByteArray) (hl : ∀ x ∈ l,1 ≤ x.size ∧ x.size ≤ s.size) (hn : now.size ≤ s.size) : ∀ x ∈ zeO now l,1 ≤ x.size ∧ x.size ≤ s.size:=by
 intro x hx
 unfold zeO at hx
 split at hx
 ·exact hl x hx
 ·rw [List.mem_append] at hx
  rcases hx with hx | hx
  ·exact hl x hx
  ·simp at hx; subst hx; omega
theorem zdI (s : ByteArray) (i : Nat) (now : ByteArray) (l : List ByteArray) (hl : ∀ x ∈ l,1 ≤ x.size ∧ x.size ≤ s.size) (hn : now.size ≤ i) (hi : i ≤ s.size) : ∀ x ∈ zax s i now l,1 ≤ x.size ∧ x.size ≤ s.size:=by
 by_cases h : i < s.size
 ·by_cases h1 : bt s i = 32 ∨ bt s i = 9 ∨ bt s i = 59
  ·by_cases h2 : bt s i = 59
   ·rw [zcr s i now l h h2]; exact zeP s now l hl (by omega)
   ·rw [zbo s i now l h (by omega)]
    exact zdI s (i + 1) _ _ (zeP s now l hl (by omega)) (by simp) (by omega)
  ·rw [ze2 s i now l h h1]
   exact zdI s (i + 1) _ _ hl (by rw [ByteArray.size_append,ByteArray.size_extract]; omega) (by omega)
 ·rw [zcF s i now l h]; exact zeP s now l hl (by omega)
termination_by s.size - i
theorem zeQ (s : ByteArray) : ∀ x ∈ words s,1 ≤ x.size ∧ x.size ≤ s.size:=zdI s 0 _ _ (by simp) (by simp) (by omega)
theorem zip (ks : List UInt8) (xs : List ByteArray) (i : Nat) (hk : i < ks.length) (hx : i < xs.length) : zaK (ks.drop i) (xs.drop i) = (opOk ks[i] xs[i] && zaK (ks.drop (i + 1)) (xs.drop (i + 1))):=by
 rw [List.drop_eq_getElem_cons hk,List.drop_eq_getElem_cons hx]; rfl
def Wf (q : Said) : Prop:=(q.kind = 0 ∧ q.kept.length = 0) ∨ (q.kind = 102 ∧ q.kept.length = 2) ∨ (q.kind = 108 ∧ q.kept.length = 1) ∨ (q.kind = 105 ∧ 1 ≤ q.kept.length ∧ q.kept.length ≤ 4)
def eqW (a b : ByteArray) : Bool:=a.toList == b.toList
def Said.word (q : Said) (i : Nat) : ByteArray:=q.kept[i]?.getD ByteArray.empty
def isFn (q : Said) (x : ByteArray) : Bool:=decide (q.kind = 102) && eqW (q.word 1) x
def zcG (q : Said) (x : ByteArray) : Bool:=decide (q.kind = 108) && eqW (q.word 0) x
def zaE (L : List Said) (x : ByteArray) (i : Nat) : Int :=
 if h : i < L.length then (if isFn L[i] x = true then (i : Int) else zaE L x (i + 1)) else -1
termination_by L.length - i
def zbW (L : List Said) : Nat → Int
 | 0 => if (L[0]?.map Said.kind) = some 102 then 0 else -1
 | k + 1 => if (L[k + 1]?.map Said.kind) = some 102 then ((k + 1 : Nat) : Int) else zbW L k
def zaR (L : List Said) (x : ByteArray) (i : Nat) : Int :=
 if h : i < L.length then (if L[i].kind = 102 then -1 else if zcG L[i] x = true then (i : Int) else zaR L x (i + 1)) else -1
termination_by L.length - i
def zbM (L : List Said) (k : Nat) (x : ByteArray) : Int:=zaR L x (zbW L k + 1).toNat
theorem ze3 (L : List Said) (x : ByteArray) (i : Nat) (h : ¬ i < L.length) : zaE L x i = -1:=by rw [zaE,dif_neg h]
theorem zdj (L : List Said) (x : ByteArray) (i : Nat) (h : i < L.length) (h' : isFn L[i] x = true) : zaE L x i = i:=by rw [zaE,dif_pos h,if_pos h']
theorem zcU (L : List Said) (x : ByteArray) (i : Nat) (h : i < L.length) (h' : isFn L[i] x = false) : zaE L x i = zaE L x (i + 1):=by rw [zaE,dif_pos h,if_neg (by simp [h'])]
theorem zdJ (L : List Said) (x : ByteArray) (i : Nat) (h : ¬ i < L.length) : zaR L x i = -1:=by rw [zaR,dif_neg h]
theorem zfp (L : List Said) (x : ByteArray) (i : Nat) (h : i < L.length) (h' : L[i].kind = 102) : zaR L x i = -1:=by rw [zaR,dif_pos h,if_pos h']
theorem zcH (L : List Said) (x : ByteArray) (i : Nat) (h : i < L.length) (h0 : ¬ L[i].kind = 102) (h' : zcG L[i] x = true) : zaR L x i = i:=by rw [zaR,dif_pos h,if_neg h0,if_pos h']
theorem zbD (L : List Said) (x : ByteArray) (i : Nat) (h : i < L.length) (h0 : ¬ L[i].kind = 102) (h' : zcG L[i] x = false) : zaR L x i = zaR L x (i + 1):=by rw [zaR,dif_pos h,if_neg h0,if_neg (by simp [h'])]
theorem zfq (L : List Said) (k : Nat) (h : k < L.length) (h' : L[k].kind = 102) : zbW L k = k:=by
 cases k with
 | zero => unfold zbW; rw [List.getElem?_eq_getElem h]; simp [h']
 | succ k => unfold zbW; rw [List.getElem?_eq_getElem h]; simp [h']
theorem zof (L : List Said) (h : 0 < L.length) (h' : ¬ L[0].kind = 102) : zbW L 0 = -1:=by
 unfold zbW; rw [List.getElem?_eq_getElem h]; simp [h']
theorem zd6 (L : List Said) (k : Nat) (h : k + 1 < L.length) (h' : ¬ L[k + 1].kind = 102) : zbW L (k + 1) = zbW L k:=by
 conv => lhs; unfold zbW
 rw [List.getElem?_eq_getElem h]; simp [h']
theorem zsS (L : List Said) (k : Nat) : -1 ≤ zbW L k ∧ zbW L k ≤ k:=by
 induction k with
 | zero => unfold zbW; split <;> simp
 | succ k ih => unfold zbW; split <;> omega
end Go.Proofs.YtfpgjkbjbbgciaaGreatDoor.Sp
namespace Go.Proofs.YtfpgjkbjbbgciaaGreatDoor
section
variable {P : Program} {ops : Array Oper} {md : Region.Mode} {C : World → Prop}
def zhp (P : Program) (md : Region.Mode) (ops : Array Oper) (C : World → Prop) (n : Nat) (L : Array Bool → Act → Prop) : Nat → Array Bool → Act → Prop
 | 0,listed,a => L listed a
 | f + 1,listed,a => ¬ Region.ready md ops listed = [] ∧ ∀ i ∈ Region.ready md ops listed,i < n ∧ qOp P ops C i (zhp P md ops C n L f (listed.setIfInBounds i true)) a
theorem zhq {n g : Nat} {L : Array Bool → Act → Prop} {Q : Exit → Act → World → Prop} (hL : ∀ listed a w,C w → L listed a → wpAny P md ops Q g listed a w) (f : Nat) :
  ∀ (listed : Array Bool) (a : Act) (w : World),C w → zhp P md ops C n L f listed a → wpAny P md ops Q (f + g) listed a w:=by
 induction f with
 | zero => intro listed a w hw h; rw [Nat.zero_add]; exact hL _ _ _ hw h
 | succ f ih =>
  intro listed a w hw h
  rw [show f + 1 + g = (f + g) + 1 by omega]
  exact ⟨fun h0 => absurd h0 h.1,fun i hi => wpOp_of_qOp hw (fun a' w' hw' h' => ih _ a' w' hw' h') (h.2 i hi).2⟩
theorem zi7 {n i : Nat} {listed : Array Bool} (hs : Region.sinkB md ops n = true) (hc : Region.chainB md ops n = true) (hn : n < ops.size) (hin : i < n) (inv : HeadInv md ops n listed) (hr : i ∈ Region.ready md ops listed) {j : Nat} (hj : j ∈ Region.ready md ops listed) : j < n:=by
 by_cases h : j < n
 ·exact h
 ·exact absurd hj (tail_waits hs hc hn inv _ i rfl hin (mem_ready.1 hr).1 j (by omega))
theorem zoO {n i : Nat} {oi : Oper} {v : Value} {L : Array Bool → Act → Prop} (hi : ops[i]? = some oi) (hsel : ∀ (j : Nat) (o : Oper) cs b,ops[j]? = some o → o.op ≠ .select cs b)
  (hs : Region.sinkB md ops n = true) (hc : Region.chainB md ops n = true) (hn : n < ops.size) (hin : i < n)
  (hdone : ∀ listed a,L listed a → ∀ j ∈ Region.ready md ops listed,n ≤ j) (f : Nat) :
  ∀ (listed : Array Bool) (a : Act),HeadInv md ops n listed →
   (∀ j oj,ops[j]? = some oj → j ≠ i → listed.getD j true = false → (∀ e ∈ oj.after,Region.binds md e = true → e.on ≠ i) → oi.apart ops oj = true) →
   i ∈ Region.ready md ops listed → YieldsIn P ops C oi v a →
   zhp P md ops C n L f (listed.setIfInBounds i true) (a.put oi.dst v) → zhp P md ops C n L (f + 1) listed a:=by
 induction f with
 | zero =>
  intro listed a inv _ hr hy H
  refine ⟨fun h => (by rw [h] at hr; cases hr),fun j hj => ?_⟩
  have hjn:=zi7 hs hc hn hin inv hr hj
  by_cases e : j = i
  ·exact ⟨hjn,by rw [e]; exact hy.qOp hi H⟩
  ·have:=hdone _ _ H j (ready_mono hj e); omega
 | succ f ih =>
  intro listed a inv hfree hr hy H
  refine ⟨fun h => (by rw [h] at hr; cases hr),fun j hj => ?_⟩
  have hjn:=zi7 hs hc hn hin inv hr hj
  by_cases e : j = i
  ·exact ⟨hjn,by rw [e]; exact hy.qOp hi H⟩
  ·obtain ⟨hjun,oj,hoj,hall⟩:=mem_ready.1 hj
   have hun:=(mem_ready.1 hr).1
   have hnot : ∀ d ∈ oj.after,Region.binds md d = true → d.on ≠ i:=fun d hd hb heq => by
    have h1:=hall d hd hb
    rw [heq,getD_both hun] at h1
    cases h1
   have h2:=qOp_put hoj (hfree j oj hoj e hjun hnot) (fun cs b => hsel i oi cs b hi) (fun cs b => hsel j oj cs b hoj) hy (H.2 j (ready_mono hj e)).2
   refine ⟨hjn,qOp_mono (fun a' h3 => ih (listed.setIfInBounds j true) a' (inv.set hj hjn) (fun k ok hk hki hku hno => ?_) (ready_mono hr (Ne.symm e)) h3.1 (by rw [Array.setIfInBounds_comm _ _ e]; exact h3.2)) h2⟩
   refine hfree k ok hk hki ?_ hno
   by_cases hjk : j = k
   ·rw [← hjk]; exact hjun
   ·rw [getD_set_ne true hjk] at hku; exact hku
theorem znr {n g : Nat} {R : Act → Prop} (hsel : Region.noSelect ops = true) (hs : Region.sinkB md ops n = true) (hc : Region.chainB md ops n = true) (hn : n < ops.size) (l : List Oper) :
  ∀ (k : Nat) (listed : Array Bool) (a : Act),(∀ j,j < l.length → l[j]? = ops[k + j]?) → k + l.length = n → HeadInv md ops n listed →
  Region.lexHead md ops g l.length k listed = true → wpQuiet P ops C R l a →
  zhp P md ops C n (fun listed' a' => Region.seqB md ops g n listed' = true ∧ R a') l.length listed a:=by
 induction l with
 | nil =>
  intro k listed a _ hk _ hB h
  obtain rfl : k = n:=by simpa using hk
  exact ⟨by simpa [Region.lexHead] using hB,h⟩
 | cons o l ih =>
  intro k listed a hl hk inv hB h
  have h0 : ops[k]? = some o:=by simpa using (hl 0 (by simp)).symm
  simp only [List.length_cons,Region.lexHead,Bool.and_eq_true] at hB hk
  have hr : k ∈ Region.ready md ops listed:=by simpa using hB.1.1
  have hq : qOp P ops C k (wpQuiet P ops C R l) a:=by unfold qOp; simp only [h0]; exact h
  obtain ⟨v,hy,hK⟩:=yieldsIn_of_qOp h0 hq
  refine zoO h0 (Region.noSelect_spec hsel) hs hc hn (by omega) (fun _ _ hL => seqB_ready hL.1) l.length listed a inv (Region.free_spec h0 hB.1.2) hr hy ?_
  refine ih (k + 1) _ _ (fun j hj => ?_) (by omega) (inv.set hr (by omega)) hB.2 hK
  have:=hl (j + 1) (by simp; omega)
  simpa [Nat.add_assoc,Nat.add_comm 1 j] using this
theorem zdg {id : Nat} {Q : Exit → Act → World → Prop} {a : Act} {w : World} {l : List Oper} (n : Nat) (hm : P.follows .mixedOrders = true) (hB : Region.lexTailB .any l.toArray n = true)
  (h : wpQuiet P l.toArray (fun w' => ∃ k,w' = w.drewN k) (fun a' => ∀ w',(∃ k,w' = w.drewN k) → wpList P l.toArray Q (l.drop n) a' w') (l.take n) a) : (Code.region id l.toArray true).wp P Q a w:=by
 simp only [Region.lexTailB,Bool.and_eq_true,decide_eq_true_eq] at hB
 obtain ⟨⟨⟨⟨hsel,hn⟩,hs⟩,hc⟩,hlex⟩:=hB
 have hn' : n < l.length:=by simpa using hn
 have htl : (l.take n).length = n:=by simp; omega
 have hdl : (l.drop n).length = l.toArray.size - n:=by simp
 have inv0 : HeadInv .any l.toArray n (Array.replicate l.toArray.size false) :=
  ⟨by simp,fun j oj _ hl => (by rw [getD_replicate_false] at hl; cases hl),fun t _ ht => getD_in (by simpa using ht) (getD_replicate_false _ _)⟩
 have H:=znr (md:=.any) (g:=l.toArray.size - n) hsel hs hc hn (l.take n) 0 _ a (fun j hj => by
  have : j < n:=by rw [htl] at hj; exact hj
  simp [this]) (by simpa using htl) inv0 (by rw [htl]; exact hlex) h
 refine wp_region_any hm ?_
 have:=zhq (Q:=Q) (g:=l.toArray.size - n) (fun listed a' w' hw' hL => by
  have:=wpAny_of_seq (md:=.any) (Q':=Q) (l.drop n) n listed a' w' (fun j => by simp [List.getElem?_drop]) (by rw [hdl]; exact hL.1) (hL.2 w' hw')
  rwa [hdl] at this) _ _ _ _ ⟨1,rfl⟩ H
 rw [htl,show n + (l.toArray.size - n) = l.toArray.size by omega] at this
 exact this
end
end Go.Proofs.YtfpgjkbjbbgciaaGreatDoor
namespace Go.Proofs.YtfpgjkbjbbgciaaGreatDoor
open Go.RowKit Sp
structure LinesIn (w : World) (g : Nat) (L : List Said) : Prop where
 kind : ∀ i (h : i < L.length),w.cell? ⟨g,i * 2,none⟩ = some (.int .u8 L[i].kind)
 words : ∀ i (h : i < L.length),0 < L[i].kept.length → ∃ b c,w.cell? ⟨g,i * 2 + 1,none⟩ = some (.slice (some ⟨b,0,none⟩) L[i].kept.length c) ∧ ∀ j (hj : j < L[i].kept.length),w.cell? ⟨b,j,none⟩ = some (.string L[i].kept[j])
 wf : ∀ i (h : i < L.length),Wf L[i]
theorem zdw {q : Said} (h : Wf q) : 0 ≤ q.kind ∧ q.kind ≤ 255:=by unfold Wf at h; omega
theorem zqx (L : List Said) (g cap k : Nat) (w : World) (hL : LinesIn w g L) (hn : L.length ≤ 1048577) (hk : k < L.length) :
  Calls Tryz.prog 107 #[.slice (some ⟨g,0,none⟩) L.length cap,.int .i64 (k : Int)] w fun e w' => e = .returned (.int .i64 (zbW L k)) ∧ w' = w:=by
 go_enter Tryz.func107,Tryz.ntmps107
 go_wp2
 go_loop [1] (fun t => ∃ j : Nat,j ≤ k + 1 ∧ t = .int .i64 ((j : Int) - 1) ∧ (j = 0 ∧ zbW L k = -1 ∨ 1 ≤ j ∧ zbW L k = zbW L (j - 1))) (fun t => (intOf t + 1).toNat)
 case atStart => exact ⟨k + 1,by omega,by go_num,.inr ⟨by omega,rfl⟩⟩
 case round =>
  obtain ⟨j,hj,rfl,hR⟩:=hrel
  have HR : Hid (j = 0 ∧ zbW L k = -1 ∨ 1 ≤ j ∧ zbW L k = zbW L (j - 1)):=hR
  clear hR
  by_cases h0 : j = 0
  ·have HQ : Hid (zbW L k = -1):=by rcases HR.out with h | h; exact h.2; omega
   subst h0
   go_wp2
   go_ret
   exact ⟨zbH (by rw [HQ.out]),rfl⟩
  ·obtain ⟨m,rfl⟩ : ∃ m,j = m + 1:=⟨j - 1,by omega⟩
   have HQ : Hid (zbW L k = zbW L m):=by rcases HR.out with h | h; omega; exact h.2
   clear HR
   have hm : m < L.length:=by omega
   have hc:=hL.kind m hm
   have hb:=zdw (hL.wf m hm)
   have ec : ((m + 1 : Nat) : Int) - 1 = (m : Int):=by omega
   rw [ec]
   cases h102 : (L[m].kind != 102) with
   | false =>
    have HZ : Hid (zbW L m = m):=zfq L m hm (by simpa using h102)
    go_wp2
    go_ret
    exact ⟨zbH (by rw [HQ.out,HZ.out]),rfl⟩
   | true =>
    go_wp2
    go_round
    case rel =>
     refine ⟨m,by omega,rfl,?_⟩
     cases m with
     | zero => exact .inl ⟨rfl,HQ.out.trans (zof L hm (by simpa using h102))⟩
     | succ m => exact .inr ⟨by omega,HQ.out.trans (zd6 L m hm (by simpa using h102))⟩
    case measure => simp [intOf]
theorem zc3 (q : Said) (i : Nat) (h : i < q.kept.length) : q.word i = q.kept[i]:=by
 unfold Said.word; rw [List.getElem?_eq_getElem h]; rfl
theorem wf_f {q : Said} (h : Wf q) (h' : (q.kind == 102) = true) : q.kept.length = 2:=by
 rw [beq_iff_eq] at h'; unfold Wf at h; omega
theorem wf_l {q : Said} (h : Wf q) (h' : (q.kind == 108) = true) : q.kept.length = 1:=by
 rw [beq_iff_eq] at h'; unfold Wf at h; omega
theorem wf_i {q : Said} (h : Wf q) (h' : (q.kind == 105) = true) : 1 ≤ q.kept.length ∧ q.kept.length ≤ 4:=by
 rw [beq_iff_eq] at h'; unfold Wf at h; omega
theorem zuR (q : Said) (x : ByteArray) (h : (q.kind == 102) = false) : isFn q x = false:=by
 simp at h; simp [isFn,h]
theorem zuS (q : Said) (x : ByteArray) (h : (q.kind == 102) = true) : isFn q x = eqW (q.word 1) x:=by
 simp at h; simp [isFn,h]
theorem zsZ (q : Said) (x : ByteArray) (h : (q.kind == 108) = false) : zcG q x = false:=by
 simp at h; simp [zcG,h]
theorem zta (q : Said) (x : ByteArray) (h : (q.kind == 108) = true) : zcG q x = eqW (q.word 0) x:=by
 simp at h; simp [zcG,h]
theorem znb (L : List Said) (g cap : Nat) (x : ByteArray) (w : World) (hL : LinesIn w g L) (hn : L.length ≤ 1048577) :
  Calls Tryz.prog 77 #[.slice (some ⟨g,0,none⟩) L.length cap,.string x] w fun e w' => e = .returned (.int .i64 (zaE L x 0)) ∧ w' = w:=by
 go_enter Tryz.func77,Tryz.ntmps77
 go_wp2
 go_loop [5] (fun t => ∃ j : Nat,j ≤ L.length ∧ t = .int .i64 (j : Int) ∧ zaE L x 0 = zaE L x j) (fun t => L.length - (intOf t).toNat)
 case atStart => exact ⟨0,by omega,rfl,rfl⟩
 case round =>
  obtain ⟨j,hj,rfl,hR⟩:=hrel
  have HR : Hid (zaE L x 0 = zaE L x j):=hR
  clear hR
  by_cases hlt : j < L.length
  ·have hc:=hL.kind j hlt
   have hb:=zdw (hL.wf j hlt)
   cases h102 : (L[j].kind == 102) with
   | false =>
    have HQ : Hid (zaE L x 0 = zaE L x (j + 1)):=HR.out.trans (zcU L x j hlt (zuR _ x h102))
    go_wp2
    go_round
    case rel => exact ⟨j + 1,by omega,by go_num,HQ.out⟩
    case measure => simp [intOf]; omega
   | true =>
    have h2:=wf_f (hL.wf j hlt) h102
    have hlen : 1 < L[j].kept.length:=by omega
    obtain ⟨b,c,hw,hwc⟩:=hL.words j hlt (by omega)
    have hw1:=hwc 1 hlen
    clear hwc
    have hfe:=zuS L[j] x h102
    rw [zc3 _ 1 hlen] at hfe
    have HF : Hid (isFn L[j] x = eqW (L[j].kept[1]) x):=hfe
    clear hfe
    rw [h2] at hw
    cases heq : ((L[j].kept[1]'hlen).toList == x.toList) with
    | true =>
     have HQ : Hid (zaE L x 0 = j):=HR.out.trans (zdj L x j hlt (HF.out.trans heq))
     go_wp2
     go_ret
     exact ⟨zbH (by rw [HQ.out]),rfl⟩
    | false =>
     have HQ : Hid (zaE L x 0 = zaE L x (j + 1)):=HR.out.trans (zcU L x j hlt (HF.out.trans heq))
     go_wp2
     go_round
     case rel => exact ⟨j + 1,by omega,by go_num,HQ.out⟩
     case measure => simp [intOf]; omega
  ·have HQ : Hid (zaE L x 0 = -1):=HR.out.trans (ze3 L x j hlt)
   go_wp2
   go_ret
   exact ⟨zbH (by rw [HQ.out]),rfl⟩
theorem zeT (L : List Said) (g cap k : Nat) (x : ByteArray) (w : World) (hL : LinesIn w g L) (hn : L.length ≤ 1048577) (hk : k < L.length) :
  Calls Tryz.prog 78 #[.slice (some ⟨g,0,none⟩) L.length cap,.int .i64 (k : Int),.string x] w fun e w' => e = .returned (.int .i64 (zbM L k x)) ∧ w' = w:=by
 have ho:=zsS L k
 obtain ⟨m,hm⟩ : ∃ m : Nat,zbW L k + 1 = (m : Int):=⟨(zbW L k + 1).toNat,by omega⟩
 have HM : Hid (zbW L k + 1 = (m : Int)):=hm
 have HL : Hid (zbM L k x = zaR L x m):=by unfold Hid zbM; rw [hm]; rfl
 have hml : m ≤ L.length:=by omega
 go_enter Tryz.func78,Tryz.ntmps78
 go_wp2_with (go_at_call 107; refine (zqx L g cap k _ hL hn hk).mono ?_; rintro e w' ⟨rfl,rfl⟩)
 go_loop [7] (fun t => ∃ j : Nat,j ≤ L.length ∧ t = .int .i64 (j : Int) ∧ zbM L k x = zaR L x j) (fun t => L.length - (intOf t).toNat)
 case atStart => exact ⟨m,hml,by first | rfl | rw [HM.out],HL.out⟩
 case round =>
  obtain ⟨j,hj,rfl,hR⟩:=hrel
  have HR : Hid (zbM L k x = zaR L x j):=hR
  clear hR hm HL HM
  by_cases hlt : j < L.length
  ·have hc:=hL.kind j hlt
   have hb:=zdw (hL.wf j hlt)
   cases h102 : (L[j].kind != 102) with
   | false =>
    have HQ : Hid (zbM L k x = -1):=HR.out.trans (zfp L x j hlt (by simpa using h102))
    go_wp2
    go_ret
    exact ⟨zbH (by rw [HQ.out]),rfl⟩
   | true =>
    have hnf : ¬ L[j].kind = 102:=by simpa using h102
    have HNF : Hid (¬ L[j].kind = 102):=hnf
    clear hnf
    cases h108 : (L[j].kind == 108) with
    | false =>
     have HQ : Hid (zbM L k x = zaR L x (j + 1)):=HR.out.trans (zbD L x j hlt HNF.out (zsZ _ x h108))
     go_wp2
     go_round
     case rel => exact ⟨j + 1,by omega,by go_num,HQ.out⟩
     case measure => simp [intOf]; omega
    | true =>
     have h2:=wf_l (hL.wf j hlt) h108
     have hlen : 0 < L[j].kept.length:=by omega
     obtain ⟨b,c,hw,hwc⟩:=hL.words j hlt (by omega)
     have hw1:=hwc 0 hlen
     clear hwc
     have hfe:=zta L[j] x h108
     rw [zc3 _ 0 hlen] at hfe
     have HF : Hid (zcG L[j] x = eqW (L[j].kept[0]) x):=hfe
     clear hfe
     rw [h2] at hw
     cases heq : ((L[j].kept[0]'hlen).toList == x.toList) with
     | true =>
      have HQ : Hid (zbM L k x = j):=HR.out.trans (zcH L x j hlt HNF.out (HF.out.trans heq))
      go_wp2
      go_ret
      exact ⟨zbH (by rw [HQ.out]),rfl⟩
     | false =>
      have HQ : Hid (zbM L k x = zaR L x (j + 1)):=HR.out.trans (zbD L x j hlt HNF.out (HF.out.trans heq))
      go_wp2
      go_round
      case rel => exact ⟨j + 1,by omega,by go_num,HQ.out⟩
      case measure => simp [intOf]; omega
  ·have HQ : Hid (zbM L k x = -1):=HR.out.trans (zdJ L x j hlt)
   go_wp2
   go_ret
   exact ⟨zbH (by rw [HQ.out]),rfl⟩
end Go.Proofs.YtfpgjkbjbbgciaaGreatDoor
