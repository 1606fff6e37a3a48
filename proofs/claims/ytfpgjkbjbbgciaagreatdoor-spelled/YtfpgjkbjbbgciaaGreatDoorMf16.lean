import Derived.Test.YtfpgjkbjbbgciaaGreatDoorMf15
set_option maxRecDepth 100000
set_option maxHeartbeats 8000000
namespace Go.Proofs.YtfpgjkbjbbgciaaGreatDoor
open Sp
theorem zgb (L : List Said) (x : ByteArray) (k : Nat) (hk : k < L.length) (hx : isFn L[k] x = true) (i : Nat) (hi : i ≤ k) : decide (zba L x i < k) = true ↔ ∃ j,∃ h : j < L.length,i ≤ j ∧ j < k ∧ isFn L[j] x = true:=by
 by_cases hik : i = k
 ·subst hik
  rw [zc4 L x i hk hx]
  simp
  intro j h1 h2 h3; omega
 ·have h : i < L.length:=by omega
  by_cases hf : isFn L[i] x = true
  ·rw [zc4 L x i h hf]
   constructor
   ·intro _; exact ⟨i,h,Nat.le_refl _,by omega,hf⟩
   ·intro _; simp; omega
  ·rw [zci L x i h (by simpa using hf),zgb L x k hk hx (i + 1) (by omega)]
   constructor
   ·rintro ⟨j,hj,h1,h2,h3⟩; exact ⟨j,hj,by omega,h2,h3⟩
   ·rintro ⟨j,hj,h1,h2,h3⟩
    refine ⟨j,hj,?_,h2,h3⟩
    rcases Nat.lt_or_eq_of_le h1 with h1 | h1
    ·omega
    ·subst h1; exact absurd h3 hf
termination_by k - i
theorem zgN (L : List Said) (x : ByteArray) (k : Nat) (hk : k < L.length) (hx : zbU L[k] x = true) (hk1 : ¬ L[k].kind = 102) (i : Nat) (hi : i ≤ k) (hno : ∀ j,∀ h : j < L.length,i ≤ j → j < k → ¬ L[j].kind = 102) : decide (zaI L x i < k) = true ↔ ∃ j,∃ h : j < L.length,i ≤ j ∧ j < k ∧ zbU L[j] x = true:=by
 by_cases hik : i = k
 ·subst hik
  rw [zcj L x i hk hk1 hx]
  simp
  intro j h1 h2 h3; omega
 ·have h : i < L.length:=by omega
  have h1:=hno i h (Nat.le_refl _) (by omega)
  by_cases hf : zbU L[i] x = true
  ·rw [zcj L x i h h1 hf]
   constructor
   ·intro _; exact ⟨i,h,Nat.le_refl _,by omega,hf⟩
   ·intro _; simp; omega
  ·rw [zb7 L x i h h1 (by simpa using hf),zgN L x k hk hx hk1 (i + 1) (by omega) (fun j h a b => hno j h (by omega) b)]
   constructor
   ·rintro ⟨j,hj,h1,h2,h3⟩; exact ⟨j,hj,by omega,h2,h3⟩
   ·rintro ⟨j,hj,h1,h2,h3⟩
    refine ⟨j,hj,?_,h2,h3⟩
    rcases Nat.lt_or_eq_of_le h1 with h1 | h1
    ·omega
    ·subst h1; exact absurd h3 hf
termination_by k - i
structure Inv (L : List Said) (j o : Nat) (F : List Fn) (f : Fn) : Prop where
 own : zdH L j = (o : Int)
 le : o ≤ j
 names : ∀ x,((F ++ [f]).map Fn.name).any (fun y => eqW y x) = true ↔ ∃ i,∃ h : i < L.length,i < j + 1 ∧ isFn L[i] x = true
 labs : ∀ x,(labsOf f.body).any (fun y => eqW y x) = true ↔ ∃ i,∃ h : i < L.length,o + 1 ≤ i ∧ i < j + 1 ∧ zbU L[i] x = true
 nof : ∀ i,∀ h : i < L.length,o + 1 ≤ i → i < j + 1 → ¬ L[i].kind = 102
theorem zih (b : List Key) (k : Key) (x : ByteArray) : (labsOf (b ++ [k])).any (fun y => eqW y x) = ((labsOf b).any (fun y => eqW y x) || (decide (k.sort = 1) && eqW k.nm x)):=by
 unfold labsOf
 rw [List.filter_append,List.map_append,List.any_append]
 by_cases h : k.sort = 1 <;> simp [h]
theorem Inv.more {L : List Said} {j o : Nat} {F : List Fn} {f : Fn} (I : Inv L j o F f) (h : j + 1 < L.length) (h1 : ¬ L[j + 1].kind = 102) (b' : List Key)
  (hb : ∀ x,(labsOf b').any (fun y => eqW y x) = ((labsOf f.body).any (fun y => eqW y x) || zbU L[j + 1] x)) : Inv L (j + 1) o F ⟨f.name,f.line,b'⟩:=by
 refine ⟨(zc5 L j h h1).trans I.own,by have:=I.le; omega,?_,?_,?_⟩
 ·intro x
  have:=I.names x
  simp only [List.map_append,List.map_cons,List.map_nil] at this ⊢
  rw [this]
  constructor
  ·rintro ⟨i,hi,h2,h3⟩; exact ⟨i,hi,by omega,h3⟩
  ·rintro ⟨i,hi,h2,h3⟩
   refine ⟨i,hi,?_,h3⟩
   by_cases e : i = j + 1
   ·subst e; simp [isFn,h1] at h3
   ·omega
 ·intro x
  rw [hb,Bool.or_eq_true,I.labs x]
  have:=I.le
  constructor
  ·rintro (⟨i,hi,h2,h3,h4⟩ | h4)
   ·exact ⟨i,hi,h2,by omega,h4⟩
   ·exact ⟨j + 1,h,by omega,by omega,h4⟩
  ·rintro ⟨i,hi,h2,h3,h4⟩
   by_cases e : i = j + 1
   ·subst e; exact .inr h4
   ·exact .inl ⟨i,hi,h2,by omega,h4⟩
 ·intro i hi h2 h3
  by_cases e : i = j + 1
  ·subst e; exact h1
  ·exact I.nof i hi h2 (by omega)
theorem Inv.next {L : List Said} {j o : Nat} {F : List Fn} {f : Fn} (I : Inv L j o F f) (h : j + 1 < L.length) (h1 : L[j + 1].kind = 102) (l : Int) : Inv L (j + 1) (j + 1) (F ++ [f]) ⟨L[j + 1].word 1,l,[]⟩:=by
 refine ⟨zec L (j + 1) h h1,Nat.le_refl _,?_,?_,?_⟩
 ·intro x
  rw [List.map_append,List.any_append,Bool.or_eq_true,I.names x]
  constructor
  ·rintro (⟨i,hi,h2,h3⟩ | h3)
   ·exact ⟨i,hi,by omega,h3⟩
   ·exact ⟨j + 1,h,by omega,by simpa [isFn,h1] using h3⟩
  ·rintro ⟨i,hi,h2,h3⟩
   by_cases e : i = j + 1
   ·subst e; exact .inr (by simpa [isFn,h1] using h3)
   ·exact .inl ⟨i,hi,by omega,h3⟩
 ·intro x
  simp [labsOf]
  intro i hi h2 h3; omega
 ·intro i hi h2 h3; omega
theorem znk (L : List Said) (hw : WfAll L) (c : Int × Int) (j o : Nat) (F : List Fn) (f : Fn) (I : Inv L j o F f) : pass L 0 (j + 1) c = zcO 3 (za5 (F ++ [f]) (zaC L (j + 1))) c:=by
 by_cases h : j + 1 < L.length
 ·by_cases h0 : L[j + 1].kind = 0
  ·have hb : badB L 0 (j + 1) = false:=by simp [badB,zd5,List.getElem?_eq_getElem h,h0]
   rw [zbF L 0 (j + 1) c h hb,zce L (j + 1) h h0]
   exact znk L hw c (j + 1) o F f (I.more h (by omega) f.body (by intro x; simp [zbU,h0]))
  ·rw [zaP L (j + 1) h h0]
   by_cases h1 : L[j + 1].kind = 102
   ·have hb : badB L 0 (j + 1) = bad0 (F ++ [f]) (keyQ L[j + 1] (((j + 1 : Nat) : Int) + 1)):=by
     have e : badB L 0 (j + 1) = decide (zba L (L[j + 1].word 1) 0 < ((j + 1 : Nat) : Int)):=by simp [badB,zd5,List.getElem?_eq_getElem h,h1]
     rw [e,Bool.eq_iff_iff,zgb L _ (j + 1) h (by simp [isFn,h1,eqW]) 0 (Nat.zero_le _)]
     have e2 : bad0 (F ++ [f]) (keyQ L[j + 1] (((j + 1 : Nat) : Int) + 1)) = ((F ++ [f]).map Fn.name).any (fun y => eqW y (L[j + 1].word 1)):=by
      unfold bad0 keyQ
      dsimp only
      rw [if_pos (zcV _ h1),zeF _ h1]
     rw [e2,I.names]
     constructor
     ·rintro ⟨i,hi,_,h2,h3⟩; exact ⟨i,hi,h2,h3⟩
     ·rintro ⟨i,hi,h2,h3⟩; exact ⟨i,hi,Nat.zero_le _,h2,h3⟩
    unfold za5
    cases hk : bad0 (F ++ [f]) (keyQ L[j + 1] (((j + 1 : Nat) : Int) + 1)) with
    | true => rw [zef L 0 (j + 1) c h (hb.trans hk)]; rfl
    | false =>
     rw [zbF L 0 (j + 1) c h (hb.trans hk),zbB _ _ (zcV _ h1)]
     have hI:=I.next h h1 (((j + 1 : Nat) : Int) + 1)
     rw [znk L hw c (j + 1) _ _ _ hI]
     simp [keyQ,zeF _ h1]
   ·by_cases h2 : L[j + 1].kind = 108
    ·have hb : badB L 0 (j + 1) = bad0 (F ++ [f]) (keyQ L[j + 1] (((j + 1 : Nat) : Int) + 1)):=by
      have ho : zdH L (j + 1) = (o : Int):=(zc5 L j h h1).trans I.own
      have e : badB L 0 (j + 1) = decide (zaI L (L[j + 1].word 0) (o + 1) < ((j + 1 : Nat) : Int)):=by
       simp only [badB,zd5,List.getElem?_eq_getElem h,h2,zf6,ho]
       rfl
      have hle:=I.le
      rw [e,Bool.eq_iff_iff,zgN L _ (j + 1) h (by simp [zbU,h2,eqW]) h1 (o + 1) (by omega) I.nof]
      have e2 : bad0 (F ++ [f]) (keyQ L[j + 1] (((j + 1 : Nat) : Int) + 1)) = (labsOf f.body).any (fun y => eqW y (L[j + 1].word 0)):=by
       unfold bad0 keyQ
       dsimp only
       rw [if_neg (zdV _ h1),if_pos (zdU _ h2),zhn _ h2]
       simp
      rw [e2,I.labs]
     unfold za5
     cases hk : bad0 (F ++ [f]) (keyQ L[j + 1] (((j + 1 : Nat) : Int) + 1)) with
     | true => rw [zef L 0 (j + 1) c h (hb.trans hk)]; rfl
     | false =>
      rw [zbF L 0 (j + 1) c h (hb.trans hk),zep _ _ _ (zdV _ h1)]
      have hI:=I.more h h1 (f.body ++ [keyQ L[j + 1] (((j + 1 : Nat) : Int) + 1)]) (by
       intro x
       rw [zih]
       simp [keyQ,zdU _ h2,zhn _ h2,zbU,h2])
      rw [znk L hw c (j + 1) _ _ _ hI]
      rfl
    ·have hb : badB L 0 (j + 1) = false:=by simp [badB,zd5,List.getElem?_eq_getElem h,h1,h2]
     have hk : bad0 (F ++ [f]) (keyQ L[j + 1] (((j + 1 : Nat) : Int) + 1)) = false:=by
      simp [bad0,keyQ,zcW _ h1 h2]
     unfold za5
     rw [hk,zbF L 0 (j + 1) c h hb,zep _ _ _ (zdV _ h1)]
     have hI:=I.more h h1 (f.body ++ [keyQ L[j + 1] (((j + 1 : Nat) : Int) + 1)]) (by
      intro x
      rw [zih]
      simp [keyQ,zcW _ h1 h2,zbU,h2])
     rw [znk L hw c (j + 1) _ _ _ hI]
     rfl
 ·rw [zee L 0 (j + 1) c h,zbS L _ h]; rfl
termination_by L.length - j
def sayK (K : List Key) : Int × Int :=
 match K with
 | [] => (2,0)
 | k :: _ => if k.sort = 0 then zcO 3 (za5 [] K) (zcO 4 (zbI ((K.foldl addK []).map Fn.name) (K.foldl addK [])) (zcO 5 (endK (K.foldl addK [])) (0,0))) else (2,k.line)
theorem znl (L : List Said) (q i : Nat) (c : Int × Int) (h : i < L.length) (h0 : L[i].kind = 0) : pass L q i c = pass L q (i + 1) c:=by
 refine zbF L q i c h ?_
 unfold badB
 split
 ·simp [zd5,List.getElem?_eq_getElem h,h0]
 ·split
  ·simp [zb2,List.getElem?_eq_getElem h,h0]
  ·simp [zct,List.getElem?_eq_getElem h,h0]
theorem zeJ (L : List Said) (q p : Nat) (c : Int × Int) (hp : p ≤ L.length) (hz : ∀ j,∀ h : j < L.length,j < p → L[j].kind = 0) : pass L q 0 c = pass L q p c:=by
 induction p with
 | zero => rfl
 | succ p ih => rw [ih (by omega) (fun j h h' => hz j h (by omega)),znl L q p c (by omega) (hz p (by omega) (by omega))]
theorem znm (L : List Said) (p : Nat) (hp : p ≤ L.length) (hz : ∀ j,∀ h : j < L.length,j < p → L[j].kind = 0) : za3 L 0 = za3 L p:=by
 induction p with
 | zero => rfl
 | succ p ih => rw [ih (by omega) (fun j h h' => hz j h (by omega)),zbh L p (by omega) (by rw [hz p (by omega) (by omega)]; decide)]
theorem zii (L : List Said) (hw : WfAll L) (hn : NmOk L) (i : Nat) (hi : i ≤ L.length) (hz : ∀ j,∀ h : j < L.length,j < i → L[j].kind = 0) : zaV L i = sayK (zaC L i):=by
 by_cases h : i < L.length
 ·by_cases h0 : L[i].kind = 0
  ·rw [zg7 L i h h0,zce L i h h0]
   refine zii L hw hn (i + 1) h (fun j hj h' => ?_)
   by_cases e : j = i
   ·subst e; exact h0
   ·exact hz j hj (by omega)
  ·by_cases h1 : L[i].kind = 102
   ·rw [zfA L i h h0 h1]
    have hF : (zaC L i).foldl addK [] = za3 L i:=by
     rw [zaP L i h h0,List.foldl_cons,zbB _ _ (zcV _ h1),zeq,zbn L i h h1]
     simp [keyQ,zeF _ h1]
    have hN : ∀ x,((za3 L i).map Fn.name).any (fun y => eqW y x) = decide (0 ≤ zba L x 0):=by
     intro x; rw [← znm L i hi hz]; exact zjy L 0 x
    have ho:=zec L i h h1
    have p1 : ∀ c,pass L 1 0 c = zcO 4 (zbI ((za3 L i).map Fn.name) (za3 L i)) c:=by
     intro c
     have hb : badB L 1 i = false:=by simp [badB,zb2,List.getElem?_eq_getElem h,h1]
     rw [zeJ L 1 i c hi hz,zbF L 1 i c h hb,zpg L hw hn _ hN c i i ho (labsOf (zah L (i + 1))) (fun x => zer L (i + 1) x)]
     conv => rhs; rw [zbn L i h h1]
     rw [zbn L i h h1]
     rfl
    have p2 : ∀ c,pass L 2 0 c = zcO 5 (endK (za3 L i)) c:=by
     intro c; rw [zeJ L 2 i c hi hz,zqJ L hw i c]
    have I : Inv L i i [] ⟨L[i].word 1,(i : Int) + 1,[]⟩:=by
     refine ⟨ho,Nat.le_refl _,?_,?_,?_⟩
     ·intro x
      constructor
      ·intro h3; exact ⟨i,h,by omega,by simpa [isFn,h1] using h3⟩
      ·rintro ⟨j,hj,h2,h3⟩
       by_cases e : j = i
       ·subst e; simpa [isFn,h1] using h3
       ·have:=hz j hj (by omega)
        simp [isFn,this] at h3
     ·intro x
      simp [labsOf]
      intro j hj h2 h3; omega
     ·intro j hj h2 h3; omega
    have p0 : ∀ c,pass L 0 0 c = zcO 3 (za5 [] (zaC L i)) c:=by
     intro c
     have hb : badB L 0 i = false:=by
      have e : badB L 0 i = decide (zba L (L[i].word 1) 0 < (i : Int)):=by simp [badB,zd5,List.getElem?_eq_getElem h,h1]
      rw [e,Bool.eq_false_iff]
      intro h2
      obtain ⟨j,hj,_,h3,h4⟩:=(zgb L _ i h (by simp [isFn,h1,eqW]) 0 (Nat.zero_le _)).1 h2
      have:=hz j hj h3
      simp [isFn,this] at h4
     rw [zeJ L 0 i c hi hz,zbF L 0 i c h hb,znk L hw c i i [] _ I,zaP L i h h0]
     conv => rhs; unfold za5
     rw [zbB _ _ (zcV _ h1)]
     simp [bad0,keyQ,zcV _ h1,zeF _ h1]
    have ht : tail L 0 = pass L 0 0 (pass L 1 0 (pass L 2 0 (0,0))):=rfl
    rw [ht,p0,p1,p2]
    unfold sayK
    rw [hF]
    conv => rhs; rw [zaP L i h h0]
    dsimp only
    rw [if_pos (show (keyQ L[i] ((i : Int) + 1)).sort = 0 from zcV _ h1),← zaP L i h h0]
   ·rw [zhB L i h h0 h1,zaP L i h h0]
    unfold sayK
    dsimp only
    rw [if_neg (show ¬ (keyQ L[i] ((i : Int) + 1)).sort = 0 from zdV _ h1)]
    rfl
 ·rw [zf9 L i h,zbS L i h]; rfl
termination_by L.length - i
theorem zso (s : ByteArray) (h : (say s).ok = true) (h5 : (say s).kind = 105) (ha : zaz ((say s).word 0) = true ∨ zaQ ((say s).word 0) = true) : zc0 (say s) = (say s).last:=by
 have hv : zar s 0 = true:=by
  cases hv : zar s 0 with
  | true => rfl
  | false => rw [zdT s hv] at h; cases h
 rw [zfV s hv] at h h5 ha ⊢
 generalize zs4 s = l at h h5 ha ⊢
 cases l with
 | nil => simp [sayW] at h5
 | cons x r =>
  have e : sayW (x :: r) = ⟨105,x :: r,if zaa x = [63] ∨ ¬ (x :: r).length = (zaa x).length + 1 then false else zav (zaa x) r⟩:=by
   unfold sayW at h5 ⊢
   dsimp only at h5 ⊢
   split at h5
   ·simp at h5
   ·rename_i hf
    rw [if_neg hf]
    split at h5
    ·simp at h5
    ·rename_i hg
     rw [if_neg hg]
  rw [e] at h ha ⊢
  have hx : (⟨105,x :: r,if zaa x = [63] ∨ ¬ (x :: r).length = (zaa x).length + 1 then false else zav (zaa x) r⟩ : Said).word 0 = x:=rfl
  rw [hx] at ha
  have hl : (x :: r).length = (zaa x).length + 1:=by
   by_cases hc : zaa x = [63] ∨ ¬ (x :: r).length = (zaa x).length + 1
   ·simp only [if_pos hc] at h; cases h
   ·rcases Classical.em ((x :: r).length = (zaa x).length + 1) with h' | h'
    ·exact h'
    ·exact absurd (.inr h') hc
  have hsh : zaa x = [78] ∨ zaa x = [82,82,78]:=by
   unfold zaz zaQ isW at ha
   simp only [Bool.or_eq_true,beq_iff_eq] at ha
   unfold zaa isW
   rcases ha with ((ha | ha) | ha) | ha <;> rw [ha] <;> decide
  unfold zc0 Said.last
  rw [if_neg (show ¬ (105 : Int) = 102 by decide),if_neg (show ¬ (105 : Int) = 108 by decide),hx]
  rcases hsh with hs | hs
  ·rw [hs] at hl ⊢
   match r,hl with
   | [a],_ => rfl
  ·rw [hs] at hl ⊢
   match r,hl with
   | [a,b,c],_ => rfl
theorem zds (A : List ByteArray) (hok : ∀ x ∈ A,(say x).ok = true) : zaV (A.map say) 0 = sayK (za8 A A.length):=by
 rw [zho A]
 refine zii _ ?_ ?_ 0 (Nat.zero_le _) (fun j h h' => absurd h' (Nat.not_lt_zero _))
 ·intro q hq
  obtain ⟨x,hx,rfl⟩:=List.mem_map.1 hq
  exact zqo x (hok x hx)
 ·intro q hq
  obtain ⟨x,hx,rfl⟩:=List.mem_map.1 hq
  exact zso x (hok x hx)
end Go.Proofs.YtfpgjkbjbbgciaaGreatDoor
namespace Go.Proofs.YtfpgjkbjbbgciaaGreatDoor
section
variable {P : Program} {ops : Array Oper} {md : Region.Mode} {C : World → Prop}
def zfT (P : Program) (md : Region.Mode) (ops : Array Oper) (C : World → Prop) (n : Nat) (L : Array Bool → Act → Prop) : Nat → Array Bool → Act → Prop
 | 0,listed,a => L listed a
 | f + 1,listed,a => ¬ Region.ready md ops listed = [] ∧ ∀ i ∈ Region.ready md ops listed,i < n ∧ qOp P ops C i (zfT P md ops C n L f (listed.setIfInBounds i true)) a
theorem zju {n g : Nat} {L : Array Bool → Act → Prop} {Q : Exit → Act → World → Prop} (hL : ∀ listed a w,C w → L listed a → wpAny P md ops Q g listed a w) (f : Nat) :
  ∀ (listed : Array Bool) (a : Act) (w : World),C w → zfT P md ops C n L f listed a → wpAny P md ops Q (f + g) listed a w:=by
 induction f with
 | zero => intro listed a w hw h; rw [Nat.zero_add]; exact hL _ _ _ hw h
 | succ f ih =>
  intro listed a w hw h
  rw [show f + 1 + g = (f + g) + 1 by omega]
  exact ⟨fun h0 => absurd h0 h.1,fun i hi => wpOp_of_qOp hw (fun a' w' hw' h' => ih _ a' w' hw' h') (h.2 i hi).2⟩
theorem zgE {n i : Nat} {listed : Array Bool} (hs : Region.sinkB md ops n = true) (hc : Region.chainB md ops n = true) (hn : n < ops.size) (hin : i < n) (inv : HeadInv md ops n listed) (hr : i ∈ Region.ready md ops listed) {j : Nat} (hj : j ∈ Region.ready md ops listed) : j < n:=by
 by_cases h : j < n
 ·exact h
 ·exact absurd hj (tail_waits hs hc hn inv _ i rfl hin (mem_ready.1 hr).1 j (by omega))
theorem zlu {n i : Nat} {oi : Oper} {v : Value} {L : Array Bool → Act → Prop} (hi : ops[i]? = some oi) (hsel : ∀ (j : Nat) (o : Oper) cs b,ops[j]? = some o → o.op ≠ .select cs b)
  (hs : Region.sinkB md ops n = true) (hc : Region.chainB md ops n = true) (hn : n < ops.size) (hin : i < n)
  (hdone : ∀ listed a,L listed a → ∀ j ∈ Region.ready md ops listed,n ≤ j) (f : Nat) :
  ∀ (listed : Array Bool) (a : Act),HeadInv md ops n listed →
   (∀ j oj,ops[j]? = some oj → j ≠ i → listed.getD j true = false → (∀ e ∈ oj.after,Region.binds md e = true → e.on ≠ i) → oi.apart ops oj = true) →
   i ∈ Region.ready md ops listed → YieldsIn P ops C oi v a →
   zfT P md ops C n L f (listed.setIfInBounds i true) (a.put oi.dst v) → zfT P md ops C n L (f + 1) listed a:=by
 induction f with
 | zero =>
  intro listed a inv _ hr hy H
  refine ⟨fun h => (by rw [h] at hr; cases hr),fun j hj => ?_⟩
  have hjn:=zgE hs hc hn hin inv hr hj
  by_cases e : j = i
  ·exact ⟨hjn,by rw [e]; exact hy.qOp hi H⟩
  ·have:=hdone _ _ H j (ready_mono hj e); omega
 | succ f ih =>
  intro listed a inv hfree hr hy H
  refine ⟨fun h => (by rw [h] at hr; cases hr),fun j hj => ?_⟩
  have hjn:=zgE hs hc hn hin inv hr hj
  by_cases e : j = i
  ·exact ⟨hjn,by rw [e]; exact hy.qOp hi H⟩
  ·obtain ⟨hjun,oj,hoj,hall⟩:=mem_ready.1 hj
   have hun:=(mem_ready.1 hr).1
   have hnot : ∀ d ∈ oj.after,Region.binds md d = true → d.on ≠ i:=fun d hd hb heq => by
    have h1:=hall d hd hb
    rw [heq,getD_both hun] at h1
    cases h1
   have h2:=qOp_put hoj (hfree j oj hoj e hjun hnot) (fun cs b => hsel i oi cs b hi) (fun cs b => hsel j oj cs b hoj) hy (H.2 j (ready_mono hj e)).2
   refine ⟨hjn,qOp_mono (fun a' h3 => ih (listed.setIfInBounds j true) a' (inv.set hj hjn) (fun k ok hk hki hku hno => ?_) (ready_mono hr (Ne.symm e)) h3.1 (by rw [Array.setIfInBounds_comm _ _ e]; exact h3.2)) h2⟩
   refine hfree k ok hk hki ?_ hno
   by_cases hjk : j = k
   ·rw [← hjk]; exact hjun
   ·rw [getD_set_ne true hjk] at hku; exact hku
theorem zpd {n g : Nat} {R : Act → Prop} (hsel : Region.noSelect ops = true) (hs : Region.sinkB md ops n = true) (hc : Region.chainB md ops n = true) (hn : n < ops.size) (l : List Oper) :
  ∀ (k : Nat) (listed : Array Bool) (a : Act),(∀ j,j < l.length → l[j]? = ops[k + j]?) → k + l.length = n → HeadInv md ops n listed →
  Region.lexHead md ops g l.length k listed = true → wpQuiet P ops C R l a →
  zfT P md ops C n (fun listed' a' => Region.seqB md ops g n listed' = true ∧ R a') l.length listed a:=by
 induction l with
 | nil =>
  intro k listed a _ hk _ hB h
  obtain rfl : k = n:=by simpa using hk
  exact ⟨by simpa [Region.lexHead] using hB,h⟩
 | cons o l ih =>
  intro k listed a hl hk inv hB h
  have h0 : ops[k]? = some o:=by simpa using (hl 0 (by simp)).symm
  simp only [List.length_cons,Region.lexHead,Bool.and_eq_true] at hB hk
  have hr : k ∈ Region.ready md ops listed:=by simpa using hB.1.1
  have hq : qOp P ops C k (wpQuiet P ops C R l) a:=by unfold qOp; simp only [h0]; exact h
  obtain ⟨v,hy,hK⟩:=yieldsIn_of_qOp h0 hq
  refine zlu h0 (Region.noSelect_spec hsel) hs hc hn (by omega) (fun _ _ hL => seqB_ready hL.1) l.length listed a inv (Region.free_spec h0 hB.1.2) hr hy ?_
  refine ih (k + 1) _ _ (fun j hj => ?_) (by omega) (inv.set hr (by omega)) hB.2 hK
  have:=hl (j + 1) (by simp; omega)
  simpa [Nat.add_assoc,Nat.add_comm 1 j] using this
theorem zag {id : Nat} {Q : Exit → Act → World → Prop} {a : Act} {w : World} {l : List Oper} (n : Nat) (hm : P.follows .mixedOrders = true) (hB : Region.lexTailB .any l.toArray n = true)
  (h : wpQuiet P l.toArray (fun w' => ∃ k,w' = w.drewN k) (fun a' => ∀ w',(∃ k,w' = w.drewN k) → wpList P l.toArray Q (l.drop n) a' w') (l.take n) a) : (Code.region id l.toArray true).wp P Q a w:=by
 simp only [Region.lexTailB,Bool.and_eq_true,decide_eq_true_eq] at hB
 obtain ⟨⟨⟨⟨hsel,hn⟩,hs⟩,hc⟩,hlex⟩:=hB
 have hn' : n < l.length:=by simpa using hn
 have htl : (l.take n).length = n:=by simp; omega
 have hdl : (l.drop n).length = l.toArray.size - n:=by simp
 have inv0 : HeadInv .any l.toArray n (Array.replicate l.toArray.size false) :=
  ⟨by simp,fun j oj _ hl => (by rw [getD_replicate_false] at hl; cases hl),fun t _ ht => getD_in (by simpa using ht) (getD_replicate_false _ _)⟩
 have H:=zpd (md:=.any) (g:=l.toArray.size - n) hsel hs hc hn (l.take n) 0 _ a (fun j hj => by
  have : j < n:=by rw [htl] at hj; exact hj
  simp [this]) (by simpa using htl) inv0 (by rw [htl]; exact hlex) h
 refine wp_region_any hm ?_
 have:=zju (Q:=Q) (g:=l.toArray.size - n) (fun listed a' w' hw' hL => by
  have:=wpAny_of_seq (md:=.any) (Q':=Q) (l.drop n) n listed a' w' (fun j => by simp [List.getElem?_drop]) (by rw [hdl]; exact hL.1) (hL.2 w' hw')
  rwa [hdl] at this) _ _ _ _ ⟨1,rfl⟩ H
 rw [htl,show n + (l.toArray.size - n) = l.toArray.size by omega] at this
 exact this
end
end Go.Proofs.YtfpgjkbjbbgciaaGreatDoor
namespace Go.Proofs.YtfpgjkbjbbgciaaGreatDoor.Sp
theorem zej (L : List Said) (q j : Nat) (c : Int × Int) (h : ∀ k,j ≤ k → k < L.length → badB L q k = false) : pass L q j c = c:=by
 by_cases hj : j < L.length
 ·rw [zbF L q j c hj (h j (Nat.le_refl _) hj)]
  exact zej L q (j + 1) c (fun k h1 h2 => h k (by omega) h2)
 ·exact zee L q j c hj
termination_by L.length - j
theorem zhD (A : List ByteArray) (i : Nat) (h : ∀ x ∈ A,(say x).ok = true) : zbs A i = zaV (A.map say) 0:=by
 by_cases hi : i < A.length
 ·rw [zeg A i hi (h _ (List.getElem_mem _))]
  exact zhD A (i + 1) h
 ·exact zfB A i hi
termination_by A.length - i
structure Prog (L : List Said) : Prop where
 ok : ∀ q ∈ L,q.ok = true
 start : ∃ q r,L = q :: r ∧ q.kind = 102
 twice : ∀ k,k < L.length → zd5 L k = false
 missing : ∀ k,k < L.length → zb2 L k = false
 endless : ∀ k,k < L.length → zct L k = false
theorem zm8 (s : ByteArray) (P : Prog ((lines s).map say)) : zd1 s = if 4000 < s.size ∨ 300 < (lines s).length then (6,0) else (0,0):=by
 unfold zd1
 split
 ·rfl
 ·rw [zhD _ _ (fun x hx => P.ok _ (List.mem_map_of_mem hx))]
  obtain ⟨q,r,hq,h2⟩:=P.start
  have hl : 0 < ((lines s).map say).length:=by rw [hq]; simp
  have h0 : ((lines s).map say)[0] = q:=by simp only [hq]; rfl
  rw [zfA _ 0 hl (by rw [h0,h2]; decide) (by rw [h0]; exact h2)]
  show pass _ 0 0 (pass _ 1 0 (pass _ 2 0 (0,0))) = _
  rw [zej _ 2 0 _ (fun k _ hk => P.endless k hk),zej _ 1 0 _ (fun k _ hk => P.missing k hk),zej _ 0 0 _ (fun k _ hk => P.twice k hk)]
structure Fs where
 name : List UInt8
 body : List Said
def Fs.said (f : Fs) : List Said:=⟨102,[ba [102,117,110,99],ba f.name],true⟩ :: f.body
def zaB (fs : List Fs) : List Said:=fs.flatMap Fs.said
def offF (fs : List Fs) (k : Nat) : Nat:=(zaB (fs.take k)).length
theorem zb8 (f : Fs) (fs : List Fs) : zaB (f :: fs) = f.said ++ zaB fs:=by simp [zaB]
theorem zm9 (a b : List Fs) : zaB (a ++ b) = zaB a ++ zaB b:=by simp [zaB]
def labI (x : ByteArray) : List Said → Option Nat
 | [] => none
 | q :: r => if zbU q x = true then some 0 else (labI x r).map (· + 1)
def zhE (l : List Said) : Prop:=∀ q ∈ l,¬ q.kind = 102
def Shut (l : List Said) : Prop:=l = [] ∨ ∃ q r,l = q :: r ∧ q.kind = 102
theorem zhF (fs : List Fs) : Shut (zaB fs):=by
 cases fs with
 | nil => exact .inl rfl
 | cons f t => exact .inr ⟨_,_,(by rw [zb8]; rfl),rfl⟩
theorem zfL {α : Type} (A : List α) (q : α) (R : List α) (h : A.length < (A ++ q :: R).length) : (A ++ q :: R)[A.length] = q:=by
 rw [List.getElem_append_right (Nat.le_refl _)]; simp
theorem zoI (A b R : List Said) (x : ByteArray) (hb : zhE b) (hR : Shut R) : zaI (A ++ (b ++ R)) x A.length = match labI x b with | none => -1 | some i => ((A.length + i : Nat) : Int):=by
 induction b generalizing A with
 | nil =>
  rcases hR with rfl | ⟨q,r,rfl,hq⟩
  ·rw [zdI _ _ _ (by simp)]; rfl
  ·rw [List.nil_append]
   rw [zf7 _ _ _ (by simp) (by rw [zfL]; exact hq)]; rfl
 | cons q t ih =>
  have hq:=hb q List.mem_cons_self
  have hlt : A.length < (A ++ (q :: t ++ R)).length:=by simp
  have e0 : (A ++ (q :: t ++ R))[A.length] = q:=zfL A q (t ++ R) hlt
  cases hl : zbU q x with
  | true =>
   rw [zcj _ _ _ hlt (by rw [e0]; exact hq) (by rw [e0]; exact hl)]
   simp [labI,hl]
  | false =>
   rw [zb7 _ _ _ hlt (by rw [e0]; exact hq) (by rw [e0]; exact hl)]
   have:=ih (A ++ [q]) (fun y hy => hb y (List.mem_cons_of_mem _ hy))
   rw [List.length_append,List.append_assoc] at this
   simp only [List.length_singleton,List.singleton_append] at this
   rw [List.cons_append,this]
   simp only [labI,hl]
   cases labI x t with
   | none => rfl
   | some i => show ((A.length + 1 + i : Nat) : Int) = ((A.length + (i + 1) : Nat) : Int); omega
theorem zli (A b R : List Said) (f : Said) (hf : f.kind = 102) (hb : zhE b) (j : Nat) (hj : j ≤ b.length) : zdH (A ++ (f :: b ++ R)) (A.length + j) = (A.length : Int):=by
 induction j with
 | zero =>
  have hlt : A.length < (A ++ (f :: b ++ R)).length:=by simp
  have:=zec (A ++ (f :: b ++ R)) A.length hlt (by rw [show (A ++ (f :: b ++ R))[A.length] = f from zfL A f (b ++ R) hlt]; exact hf)
  exact this
 | succ j ih =>
  have hlt : A.length + j + 1 < (A ++ (f :: b ++ R)).length:=by simp; omega
  have e : (A ++ (f :: b ++ R))[A.length + j + 1] = b[j]'(by omega):=by
   rw [List.getElem_append_right (by omega)]
   simp only [show A.length + j + 1 - A.length = j + 1 by omega,List.cons_append,List.getElem_cons_succ]
   rw [List.getElem_append_left (by omega)]
  rw [show A.length + (j + 1) = A.length + j + 1 by omega,zc5 _ _ hlt (by rw [e]; exact hb _ (List.getElem_mem _)),ih (by omega)]
theorem zoJ (A b R : List Said) (e : Bool) (hb : zhE b) (hR : Shut R) : zed (A ++ (b ++ R)) A.length e = b.foldl (fun e q => if q.kind = 108 then false else if q.kind = 105 then ends (q.word 0) else e) e:=by
 induction b generalizing A e with
 | nil =>
  rcases hR with rfl | ⟨q,r,rfl,hq⟩
  ·rw [zf8 _ _ _ (by simp)]; rfl
  ·rw [List.nil_append,ziZ _ _ _ (by simp) (by rw [zfL]; exact hq)]; rfl
 | cons q t ih =>
  have hq:=hb q List.mem_cons_self
  have hlt : A.length < (A ++ (q :: t ++ R)).length:=by simp
  have e0 : (A ++ (q :: t ++ R))[A.length] = q:=zfL A q (t ++ R) hlt
  rw [zdn _ _ _ hlt (by rw [e0]; exact hq),e0]
  have:=ih (A ++ [q]) (if q.kind = 108 then false else if q.kind = 105 then ends (q.word 0) else e) (fun y hy => hb y (List.mem_cons_of_mem _ hy))
  rw [List.length_append,List.append_assoc] at this
  simp only [List.length_singleton,List.singleton_append] at this
  rw [List.cons_append,this]
  rfl
end Go.Proofs.YtfpgjkbjbbgciaaGreatDoor.Sp
