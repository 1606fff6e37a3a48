import Derived.Test.YtfpgjkbjbbgciaaGreatDoorMc17
set_option maxRecDepth 100000
set_option maxHeartbeats 8000000
namespace Go.Proofs.YtfpgjkbjbbgciaaGreatDoor
open Sp
theorem zhm (L : List Said) (x : ByteArray) (k : Nat) (hk : k < L.length) (hx : isFn L[k] x = true) (i : Nat) (hi : i ≤ k) : decide (zaE L x i < k) = true ↔ ∃ j,∃ h : j < L.length,i ≤ j ∧ j < k ∧ isFn L[j] x = true:=by
 by_cases hik : i = k
 ·subst hik
  rw [zdj L x i hk hx]
  simp
  intro j h1 h2 h3; omega
 ·have h : i < L.length:=by omega
  by_cases hf : isFn L[i] x = true
  ·rw [zdj L x i h hf]
   constructor
   ·intro _; exact ⟨i,h,Nat.le_refl _,by omega,hf⟩
   ·intro _; simp; omega
  ·rw [zcU L x i h (by simpa using hf),zhm L x k hk hx (i + 1) (by omega)]
   constructor
   ·rintro ⟨j,hj,h1,h2,h3⟩; exact ⟨j,hj,by omega,h2,h3⟩
   ·rintro ⟨j,hj,h1,h2,h3⟩
    refine ⟨j,hj,?_,h2,h3⟩
    rcases Nat.lt_or_eq_of_le h1 with h1 | h1
    ·omega
    ·subst h1; exact absurd h3 hf
termination_by k - i
theorem zi2 (L : List Said) (x : ByteArray) (k : Nat) (hk : k < L.length) (hx : zcG L[k] x = true) (hk1 : ¬ L[k].kind = 102) (i : Nat) (hi : i ≤ k) (hno : ∀ j,∀ h : j < L.length,i ≤ j → j < k → ¬ L[j].kind = 102) : decide (zaR L x i < k) = true ↔ ∃ j,∃ h : j < L.length,i ≤ j ∧ j < k ∧ zcG L[j] x = true:=by
 by_cases hik : i = k
 ·subst hik
  rw [zcH L x i hk hk1 hx]
  simp
  intro j h1 h2 h3; omega
 ·have h : i < L.length:=by omega
  have h1:=hno i h (Nat.le_refl _) (by omega)
  by_cases hf : zcG L[i] x = true
  ·rw [zcH L x i h h1 hf]
   constructor
   ·intro _; exact ⟨i,h,Nat.le_refl _,by omega,hf⟩
   ·intro _; simp; omega
  ·rw [zbD L x i h h1 (by simpa using hf),zi2 L x k hk hx hk1 (i + 1) (by omega) (fun j h a b => hno j h (by omega) b)]
   constructor
   ·rintro ⟨j,hj,h1,h2,h3⟩; exact ⟨j,hj,by omega,h2,h3⟩
   ·rintro ⟨j,hj,h1,h2,h3⟩
    refine ⟨j,hj,?_,h2,h3⟩
    rcases Nat.lt_or_eq_of_le h1 with h1 | h1
    ·omega
    ·subst h1; exact absurd h3 hf
termination_by k - i
structure Inv (L : List Said) (j o : Nat) (F : List Fn) (f : Fn) : Prop where
 own : zbW L j = (o : Int)
 le : o ≤ j
 names : ∀ x,((F ++ [f]).map Fn.name).any (fun y => eqW y x) = true ↔ ∃ i,∃ h : i < L.length,i < j + 1 ∧ isFn L[i] x = true
 labs : ∀ x,(zbK f.body).any (fun y => eqW y x) = true ↔ ∃ i,∃ h : i < L.length,o + 1 ≤ i ∧ i < j + 1 ∧ zcG L[i] x = true
 nof : ∀ i,∀ h : i < L.length,o + 1 ≤ i → i < j + 1 → ¬ L[i].kind = 102
theorem zkz (b : List Key) (k : Key) (x : ByteArray) : (zbK (b ++ [k])).any (fun y => eqW y x) = ((zbK b).any (fun y => eqW y x) || (decide (k.sort = 1) && eqW k.nm x)):=by
 unfold zbK
 rw [List.filter_append,List.map_append,List.any_append]
 by_cases h : k.sort = 1 <;> simp [h]
theorem Inv.more {L : List Said} {j o : Nat} {F : List Fn} {f : Fn} (I : Inv L j o F f) (h : j + 1 < L.length) (h1 : ¬ L[j + 1].kind = 102) (b' : List Key)
  (hb : ∀ x,(zbK b').any (fun y => eqW y x) = ((zbK f.body).any (fun y => eqW y x) || zcG L[j + 1] x)) : Inv L (j + 1) o F ⟨f.name,f.line,b'⟩:=by
 refine ⟨(zd6 L j h h1).trans I.own,by have:=I.le; omega,?_,?_,?_⟩
 ·intro x
  have:=I.names x
  simp only [List.map_append,List.map_cons,List.map_nil] at this ⊢
  rw [this]
  constructor
  ·rintro ⟨i,hi,h2,h3⟩; exact ⟨i,hi,by omega,h3⟩
  ·rintro ⟨i,hi,h2,h3⟩
   refine ⟨i,hi,?_,h3⟩
   by_cases e : i = j + 1
   ·subst e; simp [isFn,h1] at h3
   ·omega
 ·intro x
  rw [hb,Bool.or_eq_true,I.labs x]
  have:=I.le
  constructor
  ·rintro (⟨i,hi,h2,h3,h4⟩ | h4)
   ·exact ⟨i,hi,h2,by omega,h4⟩
   ·exact ⟨j + 1,h,by omega,by omega,h4⟩
  ·rintro ⟨i,hi,h2,h3,h4⟩
   by_cases e : i = j + 1
   ·subst e; exact .inr h4
   ·exact .inl ⟨i,hi,h2,by omega,h4⟩
 ·intro i hi h2 h3
  by_cases e : i = j + 1
  ·subst e; exact h1
  ·exact I.nof i hi h2 (by omega)
theorem Inv.next {L : List Said} {j o : Nat} {F : List Fn} {f : Fn} (I : Inv L j o F f) (h : j + 1 < L.length) (h1 : L[j + 1].kind = 102) (l : Int) : Inv L (j + 1) (j + 1) (F ++ [f]) ⟨L[j + 1].word 1,l,[]⟩:=by
 refine ⟨zfq L (j + 1) h h1,Nat.le_refl _,?_,?_,?_⟩
 ·intro x
  rw [List.map_append,List.any_append,Bool.or_eq_true,I.names x]
  constructor
  ·rintro (⟨i,hi,h2,h3⟩ | h3)
   ·exact ⟨i,hi,by omega,h3⟩
   ·exact ⟨j + 1,h,by omega,by simpa [isFn,h1] using h3⟩
  ·rintro ⟨i,hi,h2,h3⟩
   by_cases e : i = j + 1
   ·subst e; exact .inr (by simpa [isFn,h1] using h3)
   ·exact .inl ⟨i,hi,by omega,h3⟩
 ·intro x
  simp [zbK]
  intro i hi h2 h3; omega
 ·intro i hi h2 h3; omega
theorem zqV (L : List Said) (hw : WfAll L) (c : Int × Int) (j o : Nat) (F : List Fn) (f : Fn) (I : Inv L j o F f) : pass L 0 (j + 1) c = zeb 3 (zaP (F ++ [f]) (zbb L (j + 1))) c:=by
 by_cases h : j + 1 < L.length
 ·by_cases h0 : L[j + 1].kind = 0
  ·have hb : badB L 0 (j + 1) = false:=by simp [badB,zc2,List.getElem?_eq_getElem h,h0]
   rw [zbP L 0 (j + 1) c h hb,zdk L (j + 1) h h0]
   exact zqV L hw c (j + 1) o F f (I.more h (by omega) f.body (by intro x; simp [zcG,h0]))
  ·rw [zbp L (j + 1) h h0]
   by_cases h1 : L[j + 1].kind = 102
   ·have hb : badB L 0 (j + 1) = bad0 (F ++ [f]) (keyQ L[j + 1] (((j + 1 : Nat) : Int) + 1)):=by
     have e : badB L 0 (j + 1) = decide (zaE L (L[j + 1].word 1) 0 < ((j + 1 : Nat) : Int)):=by simp [badB,zc2,List.getElem?_eq_getElem h,h1]
     rw [e,Bool.eq_iff_iff,zhm L _ (j + 1) h (by simp [isFn,h1,eqW]) 0 (Nat.zero_le _)]
     have e2 : bad0 (F ++ [f]) (keyQ L[j + 1] (((j + 1 : Nat) : Int) + 1)) = ((F ++ [f]).map Fn.name).any (fun y => eqW y (L[j + 1].word 1)):=by
      unfold bad0 keyQ
      dsimp only
      rw [if_pos (zei _ h1),zfR _ h1]
     rw [e2,I.names]
     constructor
     ·rintro ⟨i,hi,_,h2,h3⟩; exact ⟨i,hi,h2,h3⟩
     ·rintro ⟨i,hi,h2,h3⟩; exact ⟨i,hi,Nat.zero_le _,h2,h3⟩
    unfold zaP
    cases hk : bad0 (F ++ [f]) (keyQ L[j + 1] (((j + 1 : Nat) : Int) + 1)) with
    | true => rw [zdf L 0 (j + 1) c h (hb.trans hk)]; rfl
    | false =>
     rw [zbP L 0 (j + 1) c h (hb.trans hk),zcu _ _ (zei _ h1)]
     have hI:=I.next h h1 (((j + 1 : Nat) : Int) + 1)
     rw [zqV L hw c (j + 1) _ _ _ hI]
     simp [keyQ,zfR _ h1]
   ·by_cases h2 : L[j + 1].kind = 108
    ·have hb : badB L 0 (j + 1) = bad0 (F ++ [f]) (keyQ L[j + 1] (((j + 1 : Nat) : Int) + 1)):=by
      have ho : zbW L (j + 1) = (o : Int):=(zd6 L j h h1).trans I.own
      have e : badB L 0 (j + 1) = decide (zaR L (L[j + 1].word 0) (o + 1) < ((j + 1 : Nat) : Int)):=by
       simp only [badB,zc2,List.getElem?_eq_getElem h,h2,zbM,ho]
       rfl
      have hle:=I.le
      rw [e,Bool.eq_iff_iff,zi2 L _ (j + 1) h (by simp [zcG,h2,eqW]) h1 (o + 1) (by omega) I.nof]
      have e2 : bad0 (F ++ [f]) (keyQ L[j + 1] (((j + 1 : Nat) : Int) + 1)) = (zbK f.body).any (fun y => eqW y (L[j + 1].word 0)):=by
       unfold bad0 keyQ
       dsimp only
       rw [if_neg (zeZ _ h1),if_pos (zeY _ h2),zjo _ h2]
       simp
      rw [e2,I.labs]
     unfold zaP
     cases hk : bad0 (F ++ [f]) (keyQ L[j + 1] (((j + 1 : Nat) : Int) + 1)) with
     | true => rw [zdf L 0 (j + 1) c h (hb.trans hk)]; rfl
     | false =>
      rw [zbP L 0 (j + 1) c h (hb.trans hk),zf0 _ _ _ (zeZ _ h1)]
      have hI:=I.more h h1 (f.body ++ [keyQ L[j + 1] (((j + 1 : Nat) : Int) + 1)]) (by
       intro x
       rw [zkz]
       simp [keyQ,zeY _ h2,zjo _ h2,zcG,h2])
      rw [zqV L hw c (j + 1) _ _ _ hI]
      rfl
    ·have hb : badB L 0 (j + 1) = false:=by simp [badB,zc2,List.getElem?_eq_getElem h,h1,h2]
     have hk : bad0 (F ++ [f]) (keyQ L[j + 1] (((j + 1 : Nat) : Int) + 1)) = false:=by
      simp [bad0,keyQ,zej _ h1 h2]
     unfold zaP
     rw [hk,zbP L 0 (j + 1) c h hb,zf0 _ _ _ (zeZ _ h1)]
     have hI:=I.more h h1 (f.body ++ [keyQ L[j + 1] (((j + 1 : Nat) : Int) + 1)]) (by
      intro x
      rw [zkz]
      simp [keyQ,zej _ h1 h2,zcG,h2])
     rw [zqV L hw c (j + 1) _ _ _ hI]
     rfl
 ·rw [zdt L 0 (j + 1) c h,zcX L _ h]; rfl
termination_by L.length - j
def sayK (K : List Key) : Int × Int :=
 match K with
 | [] => (2,0)
 | k :: _ => if k.sort = 0 then zeb 3 (zaP [] K) (zeb 4 (zcA ((K.foldl addK []).map Fn.name) (K.foldl addK [])) (zeb 5 (endK (K.foldl addK [])) (0,0))) else (2,k.line)
theorem zqW (L : List Said) (q i : Nat) (c : Int × Int) (h : i < L.length) (h0 : L[i].kind = 0) : pass L q i c = pass L q (i + 1) c:=by
 refine zbP L q i c h ?_
 unfold badB
 split
 ·simp [zc2,List.getElem?_eq_getElem h,h0]
 ·split
  ·simp [zaD,List.getElem?_eq_getElem h,h0]
  ·simp [zaZ,List.getElem?_eq_getElem h,h0]
theorem zfU (L : List Said) (q p : Nat) (c : Int × Int) (hp : p ≤ L.length) (hz : ∀ j,∀ h : j < L.length,j < p → L[j].kind = 0) : pass L q 0 c = pass L q p c:=by
 induction p with
 | zero => rfl
 | succ p ih => rw [ih (by omega) (fun j h h' => hz j h (by omega)),zqW L q p c (by omega) (hz p (by omega) (by omega))]
theorem zqX (L : List Said) (p : Nat) (hp : p ≤ L.length) (hz : ∀ j,∀ h : j < L.length,j < p → L[j].kind = 0) : zaM L 0 = zaM L p:=by
 induction p with
 | zero => rfl
 | succ p ih => rw [ih (by omega) (fun j h h' => hz j h (by omega)),zbE L p (by omega) (by rw [hz p (by omega) (by omega)]; decide)]
theorem zk0 (L : List Said) (hw : WfAll L) (hn : NmOk L) (i : Nat) (hi : i ≤ L.length) (hz : ∀ j,∀ h : j < L.length,j < i → L[j].kind = 0) : zba L i = sayK (zbb L i):=by
 by_cases h : i < L.length
 ·by_cases h0 : L[i].kind = 0
  ·rw [ze4 L i h h0,zdk L i h h0]
   refine zk0 L hw hn (i + 1) h (fun j hj h' => ?_)
   by_cases e : j = i
   ·subst e; exact h0
   ·exact hz j hj (by omega)
  ·by_cases h1 : L[i].kind = 102
   ·rw [zfr L i h h0 h1]
    have hF : (zbb L i).foldl addK [] = zaM L i:=by
     rw [zbp L i h h0,List.foldl_cons,zcu _ _ (zei _ h1),zf1,zbT L i h h1]
     simp [keyQ,zfR _ h1]
    have hN : ∀ x,((zaM L i).map Fn.name).any (fun y => eqW y x) = decide (0 ≤ zaE L x 0):=by
     intro x; rw [← zqX L i hi hz]; exact zlY L 0 x
    have ho:=zfq L i h h1
    have p1 : ∀ c,pass L 1 0 c = zeb 4 (zcA ((zaM L i).map Fn.name) (zaM L i)) c:=by
     intro c
     have hb : badB L 1 i = false:=by simp [badB,zaD,List.getElem?_eq_getElem h,h1]
     rw [zfU L 1 i c hi hz,zbP L 1 i c h hb,ztu L hw hn _ hN c i i ho (zbK (zan L (i + 1))) (fun x => zf2 L (i + 1) x)]
     conv => rhs; rw [zbT L i h h1]
     rw [zbT L i h h1]
     rfl
    have p2 : ∀ c,pass L 2 0 c = zeb 5 (endK (zaM L i)) c:=by
     intro c; rw [zfU L 2 i c hi hz,zvl L hw i c]
    have I : Inv L i i [] ⟨L[i].word 1,(i : Int) + 1,[]⟩:=by
     refine ⟨ho,Nat.le_refl _,?_,?_,?_⟩
     ·intro x
      constructor
      ·intro h3; exact ⟨i,h,by omega,by simpa [isFn,h1] using h3⟩
      ·rintro ⟨j,hj,h2,h3⟩
       by_cases e : j = i
       ·subst e; simpa [isFn,h1] using h3
       ·have:=hz j hj (by omega)
        simp [isFn,this] at h3
     ·intro x
      simp [zbK]
      intro j hj h2 h3; omega
     ·intro j hj h2 h3; omega
    have p0 : ∀ c,pass L 0 0 c = zeb 3 (zaP [] (zbb L i)) c:=by
     intro c
     have hb : badB L 0 i = false:=by
      have e : badB L 0 i = decide (zaE L (L[i].word 1) 0 < (i : Int)):=by simp [badB,zc2,List.getElem?_eq_getElem h,h1]
      rw [e,Bool.eq_false_iff]
      intro h2
      obtain ⟨j,hj,_,h3,h4⟩:=(zhm L _ i h (by simp [isFn,h1,eqW]) 0 (Nat.zero_le _)).1 h2
      have:=hz j hj h3
      simp [isFn,this] at h4
     rw [zfU L 0 i c hi hz,zbP L 0 i c h hb,zqV L hw c i i [] _ I,zbp L i h h0]
     conv => rhs; unfold zaP
     rw [zcu _ _ (zei _ h1)]
     simp [bad0,keyQ,zei _ h1,zfR _ h1]
    have ht : tail L 0 = pass L 0 0 (pass L 1 0 (pass L 2 0 (0,0))):=rfl
    rw [ht,p0,p1,p2]
    unfold sayK
    rw [hF]
    conv => rhs; rw [zbp L i h h0]
    dsimp only
    rw [if_pos (show (keyQ L[i] ((i : Int) + 1)).sort = 0 from zei _ h1),← zbp L i h h0]
   ·rw [zfs L i h h0 h1,zbp L i h h0]
    unfold sayK
    dsimp only
    rw [if_neg (show ¬ (keyQ L[i] ((i : Int) + 1)).sort = 0 from zeZ _ h1)]
    rfl
 ·rw [zdL L i h,zcX L i h]; rfl
termination_by L.length - i
theorem zwO (s : ByteArray) (h : (say s).ok = true) (h5 : (say s).kind = 105) (ha : zaF ((say s).word 0) = true ∨ zcs ((say s).word 0) = true) : zdy (say s) = (say s).last:=by
 have hv : zak s 0 = true:=by
  cases hv : zak s 0 with
  | true => rfl
  | false => rw [zeX s hv] at h; cases h
 rw [zhh s hv] at h h5 ha ⊢
 generalize words s = l at h h5 ha ⊢
 cases l with
 | nil => simp [sayW] at h5
 | cons x r =>
  have e : sayW (x :: r) = ⟨105,x :: r,if zaa x = [63] ∨ ¬ (x :: r).length = (zaa x).length + 1 then false else zaK (zaa x) r⟩:=by
   unfold sayW at h5 ⊢
   dsimp only at h5 ⊢
   split at h5
   ·simp at h5
   ·rename_i hf
    rw [if_neg hf]
    split at h5
    ·simp at h5
    ·rename_i hg
     rw [if_neg hg]
  rw [e] at h ha ⊢
  have hx : (⟨105,x :: r,if zaa x = [63] ∨ ¬ (x :: r).length = (zaa x).length + 1 then false else zaK (zaa x) r⟩ : Said).word 0 = x:=rfl
  rw [hx] at ha
  have hl : (x :: r).length = (zaa x).length + 1:=by
   by_cases hc : zaa x = [63] ∨ ¬ (x :: r).length = (zaa x).length + 1
   ·simp only [if_pos hc] at h; cases h
   ·rcases Classical.em ((x :: r).length = (zaa x).length + 1) with h' | h'
    ·exact h'
    ·exact absurd (.inr h') hc
  have hsh : zaa x = [78] ∨ zaa x = [82,82,78]:=by
   unfold zaF zcs isW at ha
   simp only [Bool.or_eq_true,beq_iff_eq] at ha
   unfold zaa isW
   rcases ha with ((ha | ha) | ha) | ha <;> rw [ha] <;> decide
  unfold zdy Said.last
  rw [if_neg (show ¬ (105 : Int) = 102 by decide),if_neg (show ¬ (105 : Int) = 108 by decide),hx]
  rcases hsh with hs | hs
  ·rw [hs] at hl ⊢
   match r,hl with
   | [a],_ => rfl
  ·rw [hs] at hl ⊢
   match r,hl with
   | [a,b,c],_ => rfl
theorem ze9 (A : List ByteArray) (hok : ∀ x ∈ A,(say x).ok = true) : zba (A.map say) 0 = sayK (zaT A A.length):=by
 rw [zjp A]
 refine zk0 _ ?_ ?_ 0 (Nat.zero_le _) (fun j h h' => absurd h' (Nat.not_lt_zero _))
 ·intro q hq
  obtain ⟨x,hx,rfl⟩:=List.mem_map.1 hq
  exact zqc x (hok x hx)
 ·intro q hq
  obtain ⟨x,hx,rfl⟩:=List.mem_map.1 hq
  exact zwO x (hok x hx)
end Go.Proofs.YtfpgjkbjbbgciaaGreatDoor
