import Derived.Test.YtfpgjkbjbbgciaaGreatDoorMe00
import Derived.Lib.ParseIntB
import Derived.StillTail
import Derived.BigQuiet
set_option maxRecDepth 100000
set_option maxHeartbeats 8000000
namespace Go.Proofs.YtfpgjkbjbbgciaaGreatDoor.Sp
def numL : List UInt8 → Int → Option Int
 | [],n => some n
 | c :: r,n => if zdp n ((c.toNat : Int) - 48) = true then none else numL r (10 * n - ((c.toNat : Int) - 48))
theorem zgO (s : ByteArray) (i : Nat) (h : i < s.size) : ∃ c r,s.data.toList.drop i = c :: r ∧ (c.toNat : Int) = bt s i ∧ r = s.data.toList.drop (i + 1):=by
 have h' : i < s.data.toList.length:=by simpa using h
 refine ⟨s.data.toList[i],s.data.toList.drop (i + 1),List.drop_eq_getElem_cons h',?_,rfl⟩
 unfold bt
 have h2 : i < s.data.size:=h
 rw [Array.getElem?_eq_getElem h2]
 simp
theorem ze8 (s : ByteArray) (i : Nat) (n : Int) : ze3 s i n = numL (s.data.toList.drop i) n:=by
 by_cases h : i < s.size
 ·obtain ⟨c,r,h1,h2,h3⟩:=zgO s i h
  rw [h1]
  cases hb : zdp n (bt s i - 48) with
  | true => rw [zjI s i n h hb]; simp [numL,h2,hb]
  | false =>
   rw [ziq s i n h (by simp [hb]),ze8 s (i + 1),← h3]
   simp [numL,h2,hb]
 ·rw [zjH s i n h,List.drop_of_length_le (by simpa using h)]; rfl
termination_by s.size - i
def zaR : List UInt8 → Bool
 | [] => true
 | c :: r => decide (48 ≤ c.toNat ∧ c.toNat ≤ 57) && zaR r
theorem zfC (a : Nat) (d : Int) (h0 : 0 ≤ d) (h9 : d ≤ 9) : zdp (-(a : Int)) d = decide (9223372036854775808 < 10 * (a : Int) + d):=by
 unfold zdp
 rw [zmT d h9]
 by_cases h : 9223372036854775808 < 10 * (a : Int) + d
 ·have : -(a : Int) < -((9223372036854775808 - d) / 10):=by omega
  simp [h,this]
 ·have : ¬ -(a : Int) < -((9223372036854775808 - d) / 10):=by omega
  have h1 : ¬ d < 0:=by omega
  have h2 : ¬ 9 < d:=by omega
  simp [h,this,h1,h2]
theorem zl1 (M : Nat) (l : List UInt8) (a u : Nat) (h : Lib.parseUintM M a l = .ok u) : a ≤ u:=by
 induction l generalizing a with
 | nil => simp [Lib.parseUintM] at h; omega
 | cons c r ih =>
  unfold Lib.parseUintM at h
  split at h
  ·split at h
   ·cases h
   ·split at h
    ·cases h
    ·have:=ih _ h; omega
  ·cases h
def zdI : Lib.NumEnd Nat → Option Int
 | .ok u => if u ≤ 9223372036854775808 then some (-(u : Int)) else none
 | _ => none
theorem zmU (l : List UInt8) (a : Nat) (hd : zaR l = true) (ha : a ≤ 9223372036854775808) : numL l (-(a : Int)) = zdI (Lib.parseUintM (2 ^ 64 - 1) a l):=by
 induction l generalizing a with
 | nil => simp [numL,Lib.parseUintM,zdI,ha]
 | cons c r ih =>
  simp only [zaR,Bool.and_eq_true,decide_eq_true_eq] at hd
  obtain ⟨hc,hr⟩:=hd
  unfold numL Lib.parseUintM
  rw [if_pos hc,zfC a _ (by omega) (by omega)]
  by_cases hb : 9223372036854775808 < 10 * (a : Int) + ((c.toNat : Int) - 48)
  ·rw [if_pos (by simpa using hb)]
   split
   ·rfl
   ·split
    ·rfl
    ·cases he : Lib.parseUintM (2 ^ 64 - 1) (a * 10 + (c.toNat - 48)) r with
     | ok u =>
      have:=zl1 _ _ _ _ he
      simp [zdI]; omega
     | «syntax» => rfl
     | range => rfl
  ·rw [if_neg (by simpa using hb),if_neg (by omega),if_neg (by omega)]
   have e : 10 * -(a : Int) - ((c.toNat : Int) - 48) = -((a * 10 + (c.toNat - 48) : Nat) : Int):=by omega
   rw [e]
   exact ih _ hr (by omega)
theorem zmV (l : List UInt8) (n : Int) (hd : zaR l = false) : numL l n = none:=by
 induction l generalizing n with
 | nil => simp [zaR] at hd
 | cons c r ih =>
  unfold numL
  cases hb : zdp n ((c.toNat : Int) - 48) with
  | true => rfl
  | false =>
   have hr : zaR r = false:=by
    simp only [zaR] at hd
    have hc : 48 ≤ c.toNat ∧ c.toNat ≤ 57:=by
     simp [zdp] at hb
     omega
    simpa [hc] using hd
   simp only [Bool.false_eq_true,if_false]
   exact ih _ hr
def bare (l : List UInt8) : List UInt8:=match l with | 45 :: r => r | l => l
theorem zir (s : ByteArray) : zgh s = (match s.data.toList with | 45 :: _ => true | _ => false):=by
 by_cases h : 0 < s.size
 ·obtain ⟨c,r,h1,h2,_⟩:=zgO s 0 h
  rw [List.drop_zero] at h1
  rw [h1]
  unfold zgh
  rw [← h2]
  by_cases hc : c = 45
  ·subst hc; simp [h]
  ·have : ¬ (c.toNat : Int) = 45:=by
    intro e; apply hc; exact UInt8.toNat_inj.1 (by simp; omega)
   simp [h,this]
   split
   ·rename_i heq; simp at heq; exact absurd heq.1 hc
   ·rfl
 ·have h0 : s.data.toList = []:=List.eq_nil_of_length_eq_zero (by simpa using h)
  rw [h0]
  simp [zgh,h]
theorem zsG (s : ByteArray) (h : zaR (bare s.data.toList) = false) : (zbv s).2 = false:=by
 have hm:=zir s
 unfold zbv
 split at hm
 ·rename_i r heq
  rw [hm,if_pos rfl]
  rw [heq] at h
  split
  ·rfl
  ·rw [ze8,heq]
   simp only [List.drop_succ_cons,List.drop_zero]
   rw [zmV r 0 (by simpa [bare] using h)]; rfl
 ·rename_i hne
  rw [hm,if_neg (by simp)]
  have hb : bare s.data.toList = s.data.toList:=by
   unfold bare; split
   ·rename_i r heq; exact absurd heq (hne r)
   ·rfl
  rw [hb] at h
  split
  ·rfl
  ·rw [ze8,List.drop_zero,zmV _ 0 h]; rfl
theorem zsH (s : ByteArray) (h : zaR (bare s.data.toList) = true) : (∀ v,Lib.parseIntB 64 s.data.toList = .ok v → zbv s = (v,true)) ∧ (Lib.parseIntB 64 s.data.toList = .«syntax» → (zbv s).2 = false) ∧ (Lib.parseIntB 64 s.data.toList = .range → (zbv s).2 = false):=by
 have hm:=zir s
 have hsz : s.data.toList.length = s.size:=by simp
 split at hm
 ·rename_i r heq
  have hr : zaR r = true:=by rw [heq] at h; simpa [bare] using h
  rw [heq] at hsz ⊢
  have e : zbv s = if s.size = 1 then (0,false) else zcJ true (ze3 s 1 0):=by unfold zbv; rw [hm,if_pos rfl]
  rw [e,ze8,heq]
  simp only [List.drop_succ_cons,List.drop_zero]
  have hmag:=zmU r 0 hr (by omega)
  simp only [Int.ofNat_zero,Int.neg_zero] at hmag
  rw [hmag]
  simp only [List.length_cons] at hsz
  have hp : Lib.parseIntB 64 (45 :: r) = (match Lib.parseUintB 64 r with | .«syntax» => .«syntax» | .range => .range | .ok u => if 9223372036854775808 < u then .range else .ok (-(u : Int))):=by
   unfold Lib.parseIntB
   simp
   cases Lib.parseUintB 64 r <;> rfl
  rw [hp]
  unfold Lib.parseUintB
  by_cases h0 : r = []
  ·subst h0
   have : s.size = 1:=by simp at hsz; omega
   simp [this]
  ·have h1 : ¬ s.size = 1:=by cases r with | nil => exact absurd rfl h0 | cons a b => simp at hsz; omega
   rw [if_neg h0,if_neg h1]
   cases he : Lib.parseUintM (2 ^ 64 - 1) 0 r with
   | «syntax» => simp [zdI,zcJ]
   | range => simp [zdI,zcJ]
   | ok u =>
    by_cases hu : u ≤ 9223372036854775808
    ·have hu' : ¬ 9223372036854775808 < u:=by omega
     simp [zdI,hu,hu',zcJ]
    ·have hu' : 9223372036854775808 < u:=by omega
     simp [zdI,hu,hu',zcJ]
 ·rename_i hne
  have hb : bare s.data.toList = s.data.toList:=by
   unfold bare; split
   ·rename_i r heq; exact absurd heq (hne r)
   ·rfl
  rw [hb] at h
  have e : zbv s = if s.size = 0 then (0,false) else zcJ false (ze3 s 0 0):=by unfold zbv; rw [hm,if_neg (by simp)]
  rw [e,ze8,List.drop_zero]
  have hmag:=zmU s.data.toList 0 h (by omega)
  simp only [Int.ofNat_zero,Int.neg_zero] at hmag
  rw [hmag]
  generalize s.data.toList = l at *
  cases l with
  | nil =>
   have : s.size = 0:=by simpa using hsz.symm
   simp [this,Lib.parseIntB]
  | cons c r =>
   have h1 : ¬ s.size = 0:=by simp at hsz; omega
   rw [if_neg h1]
   simp only [zaR,Bool.and_eq_true,decide_eq_true_eq] at h
   have c1 : ¬ c.toNat = 43:=by omega
   have c2 : ¬ c.toNat = 45:=by omega
   have hp : Lib.parseIntB 64 (c :: r) = (match Lib.parseUintB 64 (c :: r) with | .«syntax» => .«syntax» | .range => .range | .ok u => if 9223372036854775808 ≤ u then .range else .ok (u : Int)):=by
    unfold Lib.parseIntB
    simp [c1,c2]
    cases Lib.parseUintB 64 (c :: r) <;> rfl
   rw [hp]
   unfold Lib.parseUintB
   rw [if_neg (by simp)]
   cases he : Lib.parseUintM (2 ^ 64 - 1) 0 (c :: r) with
   | «syntax» => simp [zdI,zcJ]
   | range => simp [zdI,zcJ]
   | ok u =>
    by_cases hu : 9223372036854775808 ≤ u
    ·by_cases hu2 : u ≤ 9223372036854775808
     ·have hu3 : u = 9223372036854775808:=by omega
      subst hu3
      simp [zdI,zcJ,least]
     ·simp [zdI,zcJ,hu,hu2]
    ·have hu2 : u ≤ 9223372036854775808:=by omega
     have hu3 : ¬ (-(u : Int)) = least:=by unfold least; omega
     have hu4 : least < -(u : Int):=by unfold least; omega
     simp [zdI,zcJ,hu,hu2,hu3,hu4]
end Go.Proofs.YtfpgjkbjbbgciaaGreatDoor.Sp
namespace Go.Proofs.YtfpgjkbjbbgciaaGreatDoor
section
variable {P : Program} {ops : Array Oper} {md : Region.Mode} {C : World → Prop}
def zhl (P : Program) (md : Region.Mode) (ops : Array Oper) (C : World → Prop) (n : Nat) (L : Array Bool → Act → Prop) : Nat → Array Bool → Act → Prop
 | 0,listed,a => L listed a
 | f + 1,listed,a => ¬ Region.ready md ops listed = [] ∧ ∀ i ∈ Region.ready md ops listed,i < n ∧ qOp P ops C i (zhl P md ops C n L f (listed.setIfInBounds i true)) a
theorem zhm {n g : Nat} {L : Array Bool → Act → Prop} {Q : Exit → Act → World → Prop} (hL : ∀ listed a w,C w → L listed a → wpAny P md ops Q g listed a w) (f : Nat) :
  ∀ (listed : Array Bool) (a : Act) (w : World),C w → zhl P md ops C n L f listed a → wpAny P md ops Q (f + g) listed a w:=by
 induction f with
 | zero => intro listed a w hw h; rw [Nat.zero_add]; exact hL _ _ _ hw h
 | succ f ih =>
  intro listed a w hw h
  rw [show f + 1 + g = (f + g) + 1 by omega]
  exact ⟨fun h0 => absurd h0 h.1,fun i hi => wpOp_of_qOp hw (fun a' w' hw' h' => ih _ a' w' hw' h') (h.2 i hi).2⟩
theorem zi5 {n i : Nat} {listed : Array Bool} (hs : Region.sinkB md ops n = true) (hc : Region.chainB md ops n = true) (hn : n < ops.size) (hin : i < n) (inv : HeadInv md ops n listed) (hr : i ∈ Region.ready md ops listed) {j : Nat} (hj : j ∈ Region.ready md ops listed) : j < n:=by
 by_cases h : j < n
 ·exact h
 ·exact absurd hj (tail_waits hs hc hn inv _ i rfl hin (mem_ready.1 hr).1 j (by omega))
theorem zow {n i : Nat} {oi : Oper} {v : Value} {L : Array Bool → Act → Prop} (hi : ops[i]? = some oi) (hsel : ∀ (j : Nat) (o : Oper) cs b,ops[j]? = some o → o.op ≠ .select cs b)
  (hs : Region.sinkB md ops n = true) (hc : Region.chainB md ops n = true) (hn : n < ops.size) (hin : i < n)
  (hdone : ∀ listed a,L listed a → ∀ j ∈ Region.ready md ops listed,n ≤ j) (f : Nat) :
  ∀ (listed : Array Bool) (a : Act),HeadInv md ops n listed →
   (∀ j oj,ops[j]? = some oj → j ≠ i → listed.getD j true = false → (∀ e ∈ oj.after,Region.binds md e = true → e.on ≠ i) → oi.apart ops oj = true) →
   i ∈ Region.ready md ops listed → YieldsIn P ops C oi v a →
   zhl P md ops C n L f (listed.setIfInBounds i true) (a.put oi.dst v) → zhl P md ops C n L (f + 1) listed a:=by
 induction f with
 | zero =>
  intro listed a inv _ hr hy H
  refine ⟨fun h => (by rw [h] at hr; cases hr),fun j hj => ?_⟩
  have hjn:=zi5 hs hc hn hin inv hr hj
  by_cases e : j = i
  ·exact ⟨hjn,by rw [e]; exact hy.qOp hi H⟩
  ·have:=hdone _ _ H j (ready_mono hj e); omega
 | succ f ih =>
  intro listed a inv hfree hr hy H
  refine ⟨fun h => (by rw [h] at hr; cases hr),fun j hj => ?_⟩
  have hjn:=zi5 hs hc hn hin inv hr hj
  by_cases e : j = i
  ·exact ⟨hjn,by rw [e]; exact hy.qOp hi H⟩
  ·obtain ⟨hjun,oj,hoj,hall⟩:=mem_ready.1 hj
   have hun:=(mem_ready.1 hr).1
   have hnot : ∀ d ∈ oj.after,Region.binds md d = true → d.on ≠ i:=fun d hd hb heq => by
    have h1:=hall d hd hb
    rw [heq,getD_both hun] at h1
    cases h1
   have h2:=qOp_put hoj (hfree j oj hoj e hjun hnot) (fun cs b => hsel i oi cs b hi) (fun cs b => hsel j oj cs b hoj) hy (H.2 j (ready_mono hj e)).2
   refine ⟨hjn,qOp_mono (fun a' h3 => ih (listed.setIfInBounds j true) a' (inv.set hj hjn) (fun k ok hk hki hku hno => ?_) (ready_mono hr (Ne.symm e)) h3.1 (by rw [Array.setIfInBounds_comm _ _ e]; exact h3.2)) h2⟩
   refine hfree k ok hk hki ?_ hno
   by_cases hjk : j = k
   ·rw [← hjk]; exact hjun
   ·rw [getD_set_ne true hjk] at hku; exact hku
theorem zni {n g : Nat} {R : Act → Prop} (hsel : Region.noSelect ops = true) (hs : Region.sinkB md ops n = true) (hc : Region.chainB md ops n = true) (hn : n < ops.size) (l : List Oper) :
  ∀ (k : Nat) (listed : Array Bool) (a : Act),(∀ j,j < l.length → l[j]? = ops[k + j]?) → k + l.length = n → HeadInv md ops n listed →
  Region.lexHead md ops g l.length k listed = true → wpQuiet P ops C R l a →
  zhl P md ops C n (fun listed' a' => Region.seqB md ops g n listed' = true ∧ R a') l.length listed a:=by
 induction l with
 | nil =>
  intro k listed a _ hk _ hB h
  obtain rfl : k = n:=by simpa using hk
  exact ⟨by simpa [Region.lexHead] using hB,h⟩
 | cons o l ih =>
  intro k listed a hl hk inv hB h
  have h0 : ops[k]? = some o:=by simpa using (hl 0 (by simp)).symm
  simp only [List.length_cons,Region.lexHead,Bool.and_eq_true] at hB hk
  have hr : k ∈ Region.ready md ops listed:=by simpa using hB.1.1
  have hq : qOp P ops C k (wpQuiet P ops C R l) a:=by unfold qOp; simp only [h0]; exact h
  obtain ⟨v,hy,hK⟩:=yieldsIn_of_qOp h0 hq
  refine zow h0 (Region.noSelect_spec hsel) hs hc hn (by omega) (fun _ _ hL => seqB_ready hL.1) l.length listed a inv (Region.free_spec h0 hB.1.2) hr hy ?_
  refine ih (k + 1) _ _ (fun j hj => ?_) (by omega) (inv.set hr (by omega)) hB.2 hK
  have:=hl (j + 1) (by simp; omega)
  simpa [Nat.add_assoc,Nat.add_comm 1 j] using this
theorem zan {id : Nat} {Q : Exit → Act → World → Prop} {a : Act} {w : World} {l : List Oper} (n : Nat) (hm : P.follows .mixedOrders = true) (hB : Region.lexTailB .any l.toArray n = true)
  (h : wpQuiet P l.toArray (fun w' => ∃ k,w' = w.drewN k) (fun a' => ∀ w',(∃ k,w' = w.drewN k) → wpList P l.toArray Q (l.drop n) a' w') (l.take n) a) : (Code.region id l.toArray true).wp P Q a w:=by
 simp only [Region.lexTailB,Bool.and_eq_true,decide_eq_true_eq] at hB
 obtain ⟨⟨⟨⟨hsel,hn⟩,hs⟩,hc⟩,hlex⟩:=hB
 have hn' : n < l.length:=by simpa using hn
 have htl : (l.take n).length = n:=by simp; omega
 have hdl : (l.drop n).length = l.toArray.size - n:=by simp
 have inv0 : HeadInv .any l.toArray n (Array.replicate l.toArray.size false) :=
  ⟨by simp,fun j oj _ hl => (by rw [getD_replicate_false] at hl; cases hl),fun t _ ht => getD_in (by simpa using ht) (getD_replicate_false _ _)⟩
 have H:=zni (md:=.any) (g:=l.toArray.size - n) hsel hs hc hn (l.take n) 0 _ a (fun j hj => by
  have : j < n:=by rw [htl] at hj; exact hj
  simp [this]) (by simpa using htl) inv0 (by rw [htl]; exact hlex) h
 refine wp_region_any hm ?_
 have:=zhm (Q:=Q) (g:=l.toArray.size - n) (fun listed a' w' hw' hL => by
  have:=wpAny_of_seq (md:=.any) (Q':=Q) (l.drop n) n listed a' w' (fun j => by simp [List.getElem?_drop]) (by rw [hdl]; exact hL.1) (hL.2 w' hw')
  rwa [hdl] at this) _ _ _ _ ⟨1,rfl⟩ H
 rw [htl,show n + (l.toArray.size - n) = l.toArray.size by omega] at this
 exact this
end
end Go.Proofs.YtfpgjkbjbbgciaaGreatDoor
