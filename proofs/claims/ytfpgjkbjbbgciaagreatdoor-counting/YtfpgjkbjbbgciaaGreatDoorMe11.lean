import Derived.Test.YtfpgjkbjbbgciaaGreatDoorMe10
set_option maxRecDepth 100000
set_option maxHeartbeats 8000000
namespace Go.Proofs.YtfpgjkbjbbgciaaGreatDoor
open Sp
theorem zhk (L : List Said) (x : ByteArray) (k : Nat) (hk : k < L.length) (hx : isFn L[k] x = true) (i : Nat) (hi : i ≤ k) : decide (zca L x i < k) = true ↔ ∃ j,∃ h : j < L.length,i ≤ j ∧ j < k ∧ isFn L[j] x = true:=by
 by_cases hik : i = k
 ·subst hik
  rw [zel L x i hk hx]
  simp
  intro j h1 h2 h3; omega
 ·have h : i < L.length:=by omega
  by_cases hf : isFn L[i] x = true
  ·rw [zel L x i h hf]
   constructor
   ·intro _; exact ⟨i,h,Nat.le_refl _,by omega,hf⟩
   ·intro _; simp; omega
  ·rw [zdN L x i h (by simpa using hf),zhk L x k hk hx (i + 1) (by omega)]
   constructor
   ·rintro ⟨j,hj,h1,h2,h3⟩; exact ⟨j,hj,by omega,h2,h3⟩
   ·rintro ⟨j,hj,h1,h2,h3⟩
    refine ⟨j,hj,?_,h2,h3⟩
    rcases Nat.lt_or_eq_of_le h1 with h1 | h1
    ·omega
    ·subst h1; exact absurd h3 hf
termination_by k - i
theorem zi4 (L : List Said) (x : ByteArray) (k : Nat) (hk : k < L.length) (hx : zdh L[k] x = true) (hk1 : ¬ L[k].kind = 102) (i : Nat) (hi : i ≤ k) (hno : ∀ j,∀ h : j < L.length,i ≤ j → j < k → ¬ L[j].kind = 102) : decide (zbo L x i < k) = true ↔ ∃ j,∃ h : j < L.length,i ≤ j ∧ j < k ∧ zdh L[j] x = true:=by
 by_cases hik : i = k
 ·subst hik
  rw [zd3 L x i hk hk1 hx]
  simp
  intro j h1 h2 h3; omega
 ·have h : i < L.length:=by omega
  have h1:=hno i h (Nat.le_refl _) (by omega)
  by_cases hf : zdh L[i] x = true
  ·rw [zd3 L x i h h1 hf]
   constructor
   ·intro _; exact ⟨i,h,Nat.le_refl _,by omega,hf⟩
   ·intro _; simp; omega
  ·rw [zc0 L x i h h1 (by simpa using hf),zi4 L x k hk hx hk1 (i + 1) (by omega) (fun j h a b => hno j h (by omega) b)]
   constructor
   ·rintro ⟨j,hj,h1,h2,h3⟩; exact ⟨j,hj,by omega,h2,h3⟩
   ·rintro ⟨j,hj,h1,h2,h3⟩
    refine ⟨j,hj,?_,h2,h3⟩
    rcases Nat.lt_or_eq_of_le h1 with h1 | h1
    ·omega
    ·subst h1; exact absurd h3 hf
termination_by k - i
structure Inv (L : List Said) (j o : Nat) (F : List Fn) (f : Fn) : Prop where
 own : zfe L j = (o : Int)
 le : o ≤ j
 names : ∀ x,((F ++ [f]).map Fn.name).any (fun y => eqW y x) = true ↔ ∃ i,∃ h : i < L.length,i < j + 1 ∧ isFn L[i] x = true
 labs : ∀ x,(zbK f.body).any (fun y => eqW y x) = true ↔ ∃ i,∃ h : i < L.length,o + 1 ≤ i ∧ i < j + 1 ∧ zdh L[i] x = true
 nof : ∀ i,∀ h : i < L.length,o + 1 ≤ i → i < j + 1 → ¬ L[i].kind = 102
theorem zkh (b : List Key) (k : Key) (x : ByteArray) : (zbK (b ++ [k])).any (fun y => eqW y x) = ((zbK b).any (fun y => eqW y x) || (decide (k.sort = 1) && eqW k.nm x)):=by
 unfold zbK
 rw [List.filter_append,List.map_append,List.any_append]
 by_cases h : k.sort = 1 <;> simp [h]
theorem Inv.more {L : List Said} {j o : Nat} {F : List Fn} {f : Fn} (I : Inv L j o F f) (h : j + 1 < L.length) (h1 : ¬ L[j + 1].kind = 102) (b' : List Key)
  (hb : ∀ x,(zbK b').any (fun y => eqW y x) = ((zbK f.body).any (fun y => eqW y x) || zdh L[j + 1] x)) : Inv L (j + 1) o F ⟨f.name,f.line,b'⟩:=by
 refine ⟨(zem L j h h1).trans I.own,by have:=I.le; omega,?_,?_,?_⟩
 ·intro x
  have:=I.names x
  simp only [List.map_append,List.map_cons,List.map_nil] at this ⊢
  rw [this]
  constructor
  ·rintro ⟨i,hi,h2,h3⟩; exact ⟨i,hi,by omega,h3⟩
  ·rintro ⟨i,hi,h2,h3⟩
   refine ⟨i,hi,?_,h3⟩
   by_cases e : i = j + 1
   ·subst e; simp [isFn,h1] at h3
   ·omega
 ·intro x
  rw [hb,Bool.or_eq_true,I.labs x]
  have:=I.le
  constructor
  ·rintro (⟨i,hi,h2,h3,h4⟩ | h4)
   ·exact ⟨i,hi,h2,by omega,h4⟩
   ·exact ⟨j + 1,h,by omega,by omega,h4⟩
  ·rintro ⟨i,hi,h2,h3,h4⟩
   by_cases e : i = j + 1
   ·subst e; exact .inr h4
   ·exact .inl ⟨i,hi,h2,by omega,h4⟩
 ·intro i hi h2 h3
  by_cases e : i = j + 1
  ·subst e; exact h1
  ·exact I.nof i hi h2 (by omega)
theorem Inv.next {L : List Said} {j o : Nat} {F : List Fn} {f : Fn} (I : Inv L j o F f) (h : j + 1 < L.length) (h1 : L[j + 1].kind = 102) (l : Int) : Inv L (j + 1) (j + 1) (F ++ [f]) ⟨L[j + 1].word 1,l,[]⟩:=by
 refine ⟨zg5 L (j + 1) h h1,Nat.le_refl _,?_,?_,?_⟩
 ·intro x
  rw [List.map_append,List.any_append,Bool.or_eq_true,I.names x]
  constructor
  ·rintro (⟨i,hi,h2,h3⟩ | h3)
   ·exact ⟨i,hi,by omega,h3⟩
   ·exact ⟨j + 1,h,by omega,by simpa [isFn,h1] using h3⟩
  ·rintro ⟨i,hi,h2,h3⟩
   by_cases e : i = j + 1
   ·subst e; exact .inr (by simpa [isFn,h1] using h3)
   ·exact .inl ⟨i,hi,by omega,h3⟩
 ·intro x
  simp [zbK]
  intro i hi h2 h3; omega
 ·intro i hi h2 h3; omega
theorem zq6 (L : List Said) (hw : WfAll L) (c : Int × Int) (j o : Nat) (F : List Fn) (f : Fn) (I : Inv L j o F f) : pass L 0 (j + 1) c = zdJ 3 (zaQ (F ++ [f]) (zaZ L (j + 1))) c:=by
 by_cases h : j + 1 < L.length
 ·by_cases h0 : L[j + 1].kind = 0
  ·have hb : badB L 0 (j + 1) = false:=by simp [badB,zff,List.getElem?_eq_getElem h,h0]
   rw [zci L 0 (j + 1) c h hb,zcO L (j + 1) h h0]
   exact zq6 L hw c (j + 1) o F f (I.more h (by omega) f.body (by intro x; simp [zdh,h0]))
  ·rw [zbr L (j + 1) h h0]
   by_cases h1 : L[j + 1].kind = 102
   ·have hb : badB L 0 (j + 1) = bad0 (F ++ [f]) (keyQ L[j + 1] (((j + 1 : Nat) : Int) + 1)):=by
     have e : badB L 0 (j + 1) = decide (zca L (L[j + 1].word 1) 0 < ((j + 1 : Nat) : Int)):=by simp [badB,zff,List.getElem?_eq_getElem h,h1]
     rw [e,Bool.eq_iff_iff,zhk L _ (j + 1) h (by simp [isFn,h1,eqW]) 0 (Nat.zero_le _)]
     have e2 : bad0 (F ++ [f]) (keyQ L[j + 1] (((j + 1 : Nat) : Int) + 1)) = ((F ++ [f]).map Fn.name).any (fun y => eqW y (L[j + 1].word 1)):=by
      unfold bad0 keyQ
      dsimp only
      rw [if_pos (zdQ _ h1),zfL _ h1]
     rw [e2,I.names]
     constructor
     ·rintro ⟨i,hi,_,h2,h3⟩; exact ⟨i,hi,h2,h3⟩
     ·rintro ⟨i,hi,h2,h3⟩; exact ⟨i,hi,Nat.zero_le _,h2,h3⟩
    unfold zaQ
    cases hk : bad0 (F ++ [f]) (keyQ L[j + 1] (((j + 1 : Nat) : Int) + 1)) with
    | true => rw [zeo L 0 (j + 1) c h (hb.trans hk)]; rfl
    | false =>
     rw [zci L 0 (j + 1) c h (hb.trans hk),zcn _ _ (zdQ _ h1)]
     have hI:=I.next h h1 (((j + 1 : Nat) : Int) + 1)
     rw [zq6 L hw c (j + 1) _ _ _ hI]
     simp [keyQ,zfL _ h1]
   ·by_cases h2 : L[j + 1].kind = 108
    ·have hb : badB L 0 (j + 1) = bad0 (F ++ [f]) (keyQ L[j + 1] (((j + 1 : Nat) : Int) + 1)):=by
      have ho : zfe L (j + 1) = (o : Int):=(zem L j h h1).trans I.own
      have e : badB L 0 (j + 1) = decide (zbo L (L[j + 1].word 0) (o + 1) < ((j + 1 : Nat) : Int)):=by
       simp only [badB,zff,List.getElem?_eq_getElem h,h2,zjf,ho]
       rfl
      have hle:=I.le
      rw [e,Bool.eq_iff_iff,zi4 L _ (j + 1) h (by simp [zdh,h2,eqW]) h1 (o + 1) (by omega) I.nof]
      have e2 : bad0 (F ++ [f]) (keyQ L[j + 1] (((j + 1 : Nat) : Int) + 1)) = (zbK f.body).any (fun y => eqW y (L[j + 1].word 0)):=by
       unfold bad0 keyQ
       dsimp only
       rw [if_neg (zeN _ h1),if_pos (zeM _ h2),zjj _ h2]
       simp
      rw [e2,I.labs]
     unfold zaQ
     cases hk : bad0 (F ++ [f]) (keyQ L[j + 1] (((j + 1 : Nat) : Int) + 1)) with
     | true => rw [zeo L 0 (j + 1) c h (hb.trans hk)]; rfl
     | false =>
      rw [zci L 0 (j + 1) c h (hb.trans hk),zfo _ _ _ (zeN _ h1)]
      have hI:=I.more h h1 (f.body ++ [keyQ L[j + 1] (((j + 1 : Nat) : Int) + 1)]) (by
       intro x
       rw [zkh]
       simp [keyQ,zeM _ h2,zjj _ h2,zdh,h2])
      rw [zq6 L hw c (j + 1) _ _ _ hI]
      rfl
    ·have hb : badB L 0 (j + 1) = false:=by simp [badB,zff,List.getElem?_eq_getElem h,h1,h2]
     have hk : bad0 (F ++ [f]) (keyQ L[j + 1] (((j + 1 : Nat) : Int) + 1)) = false:=by
      simp [bad0,keyQ,zdR _ h1 h2]
     unfold zaQ
     rw [hk,zci L 0 (j + 1) c h hb,zfo _ _ _ (zeN _ h1)]
     have hI:=I.more h h1 (f.body ++ [keyQ L[j + 1] (((j + 1 : Nat) : Int) + 1)]) (by
      intro x
      rw [zkh]
      simp [keyQ,zdR _ h1 h2,zdh,h2])
     rw [zq6 L hw c (j + 1) _ _ _ hI]
     rfl
 ·rw [zen L 0 (j + 1) c h,zcC L _ h]; rfl
termination_by L.length - j
def sayK (K : List Key) : Int × Int :=
 match K with
 | [] => (2,0)
 | k :: _ => if k.sort = 0 then zdJ 3 (zaQ [] K) (zdJ 4 (zcy ((K.foldl addK []).map Fn.name) (K.foldl addK [])) (zdJ 5 (endK (K.foldl addK [])) (0,0))) else (2,k.line)
theorem zq7 (L : List Said) (q i : Nat) (c : Int × Int) (h : i < L.length) (h0 : L[i].kind = 0) : pass L q i c = pass L q (i + 1) c:=by
 refine zci L q i c h ?_
 unfold badB
 split
 ·simp [zff,List.getElem?_eq_getElem h,h0]
 ·split
  ·simp [zcq,List.getElem?_eq_getElem h,h0]
  ·simp [zd4,List.getElem?_eq_getElem h,h0]
theorem zfO (L : List Said) (q p : Nat) (c : Int × Int) (hp : p ≤ L.length) (hz : ∀ j,∀ h : j < L.length,j < p → L[j].kind = 0) : pass L q 0 c = pass L q p c:=by
 induction p with
 | zero => rfl
 | succ p ih => rw [ih (by omega) (fun j h h' => hz j h (by omega)),zq7 L q p c (by omega) (hz p (by omega) (by omega))]
theorem zq8 (L : List Said) (p : Nat) (hp : p ≤ L.length) (hz : ∀ j,∀ h : j < L.length,j < p → L[j].kind = 0) : zaN L 0 = zaN L p:=by
 induction p with
 | zero => rfl
 | succ p ih => rw [ih (by omega) (fun j h h' => hz j h (by omega)),zbG L p (by omega) (by rw [hz p (by omega) (by omega)]; decide)]
theorem zki (L : List Said) (hw : WfAll L) (hn : NmOk L) (i : Nat) (hi : i ≤ L.length) (hz : ∀ j,∀ h : j < L.length,j < i → L[j].kind = 0) : zbq L i = sayK (zaZ L i):=by
 by_cases h : i < L.length
 ·by_cases h0 : L[i].kind = 0
  ·rw [zfF L i h h0,zcO L i h h0]
   refine zki L hw hn (i + 1) h (fun j hj h' => ?_)
   by_cases e : j = i
   ·subst e; exact h0
   ·exact hz j hj (by omega)
  ·by_cases h1 : L[i].kind = 102
   ·rw [zfh L i h h0 h1]
    have hF : (zaZ L i).foldl addK [] = zaN L i:=by
     rw [zbr L i h h0,List.foldl_cons,zcn _ _ (zdQ _ h1),zfp,zbO L i h h1]
     simp [keyQ,zfL _ h1]
    have hN : ∀ x,((zaN L i).map Fn.name).any (fun y => eqW y x) = decide (0 ≤ zca L x 0):=by
     intro x; rw [← zq8 L i hi hz]; exact zlD L 0 x
    have ho:=zg5 L i h h1
    have p1 : ∀ c,pass L 1 0 c = zdJ 4 (zcy ((zaN L i).map Fn.name) (zaN L i)) c:=by
     intro c
     have hb : badB L 1 i = false:=by simp [badB,zcq,List.getElem?_eq_getElem h,h1]
     rw [zfO L 1 i c hi hz,zci L 1 i c h hb,ztc L hw hn _ hN c i i ho (zbK (zal L (i + 1))) (fun x => zfq L (i + 1) x)]
     conv => rhs; rw [zbO L i h h1]
     rw [zbO L i h h1]
     rfl
    have p2 : ∀ c,pass L 2 0 c = zdJ 5 (endK (zaN L i)) c:=by
     intro c; rw [zfO L 2 i c hi hz,zve L hw i c]
    have I : Inv L i i [] ⟨L[i].word 1,(i : Int) + 1,[]⟩:=by
     refine ⟨ho,Nat.le_refl _,?_,?_,?_⟩
     ·intro x
      constructor
      ·intro h3; exact ⟨i,h,by omega,by simpa [isFn,h1] using h3⟩
      ·rintro ⟨j,hj,h2,h3⟩
       by_cases e : j = i
       ·subst e; simpa [isFn,h1] using h3
       ·have:=hz j hj (by omega)
        simp [isFn,this] at h3
     ·intro x
      simp [zbK]
      intro j hj h2 h3; omega
     ·intro j hj h2 h3; omega
    have p0 : ∀ c,pass L 0 0 c = zdJ 3 (zaQ [] (zaZ L i)) c:=by
     intro c
     have hb : badB L 0 i = false:=by
      have e : badB L 0 i = decide (zca L (L[i].word 1) 0 < (i : Int)):=by simp [badB,zff,List.getElem?_eq_getElem h,h1]
      rw [e,Bool.eq_false_iff]
      intro h2
      obtain ⟨j,hj,_,h3,h4⟩:=(zhk L _ i h (by simp [isFn,h1,eqW]) 0 (Nat.zero_le _)).1 h2
      have:=hz j hj h3
      simp [isFn,this] at h4
     rw [zfO L 0 i c hi hz,zci L 0 i c h hb,zq6 L hw c i i [] _ I,zbr L i h h0]
     conv => rhs; unfold zaQ
     rw [zcn _ _ (zdQ _ h1)]
     simp [bad0,keyQ,zdQ _ h1,zfL _ h1]
    have ht : tail L 0 = pass L 0 0 (pass L 1 0 (pass L 2 0 (0,0))):=rfl
    rw [ht,p0,p1,p2]
    unfold sayK
    rw [hF]
    conv => rhs; rw [zbr L i h h0]
    dsimp only
    rw [if_pos (show (keyQ L[i] ((i : Int) + 1)).sort = 0 from zdQ _ h1),← zbr L i h h0]
   ·rw [zgR L i h h0 h1,zbr L i h h0]
    unfold sayK
    dsimp only
    rw [if_neg (show ¬ (keyQ L[i] ((i : Int) + 1)).sort = 0 from zeN _ h1)]
    rfl
 ·rw [zeD L i h,zcC L i h]; rfl
termination_by L.length - i
theorem zwZ (s : ByteArray) (h : (say s).ok = true) (h5 : (say s).kind = 105) (ha : zbp ((say s).word 0) = true ∨ zcl ((say s).word 0) = true) : zdi (say s) = (say s).last:=by
 have hv : za3 s 0 = true:=by
  cases hv : za3 s 0 with
  | true => rfl
  | false => rw [zeL s hv] at h; cases h
 rw [zhe s hv] at h h5 ha ⊢
 generalize words s = l at h h5 ha ⊢
 cases l with
 | nil => simp [sayW] at h5
 | cons x r =>
  have e : sayW (x :: r) = ⟨105,x :: r,if zaa x = [63] ∨ ¬ (x :: r).length = (zaa x).length + 1 then false else zaG (zaa x) r⟩:=by
   unfold sayW at h5 ⊢
   dsimp only at h5 ⊢
   split at h5
   ·simp at h5
   ·rename_i hf
    rw [if_neg hf]
    split at h5
    ·simp at h5
    ·rename_i hg
     rw [if_neg hg]
  rw [e] at h ha ⊢
  have hx : (⟨105,x :: r,if zaa x = [63] ∨ ¬ (x :: r).length = (zaa x).length + 1 then false else zaG (zaa x) r⟩ : Said).word 0 = x:=rfl
  rw [hx] at ha
  have hl : (x :: r).length = (zaa x).length + 1:=by
   by_cases hc : zaa x = [63] ∨ ¬ (x :: r).length = (zaa x).length + 1
   ·simp only [if_pos hc] at h; cases h
   ·rcases Classical.em ((x :: r).length = (zaa x).length + 1) with h' | h'
    ·exact h'
    ·exact absurd (.inr h') hc
  have hsh : zaa x = [78] ∨ zaa x = [82,82,78]:=by
   unfold zbp zcl isW at ha
   simp only [Bool.or_eq_true,beq_iff_eq] at ha
   unfold zaa isW
   rcases ha with ((ha | ha) | ha) | ha <;> rw [ha] <;> decide
  unfold zdi Said.last
  rw [if_neg (show ¬ (105 : Int) = 102 by decide),if_neg (show ¬ (105 : Int) = 108 by decide),hx]
  rcases hsh with hs | hs
  ·rw [hs] at hl ⊢
   match r,hl with
   | [a],_ => rfl
  ·rw [hs] at hl ⊢
   match r,hl with
   | [a,b,c],_ => rfl
theorem zer (A : List ByteArray) (hok : ∀ x ∈ A,(say x).ok = true) : zbq (A.map say) 0 = sayK (zaT A A.length):=by
 rw [zjk A]
 refine zki _ ?_ ?_ 0 (Nat.zero_le _) (fun j h h' => absurd h' (Nat.not_lt_zero _))
 ·intro q hq
  obtain ⟨x,hx,rfl⟩:=List.mem_map.1 hq
  exact zuD x (hok x hx)
 ·intro q hq
  obtain ⟨x,hx,rfl⟩:=List.mem_map.1 hq
  exact zwZ x (hok x hx)
inductive Form : List ByteArray → Prop
 | set_ (x1 x2 : ByteArray) (hx1 : 0 ≤ reg x1) (hx2 : (zbv x2).2 = true) : Form [⟨#[115,101,116]⟩,x1,x2]
 | inc_ (x1 x2 : ByteArray) (hx1 : 0 ≤ reg x1) (hx2 : (zbv x2).2 = true) : Form [⟨#[105,110,99]⟩,x1,x2]
 | mov_ (x1 x2 : ByteArray) (hx1 : 0 ≤ reg x1) (hx2 : 0 ≤ reg x2) : Form [⟨#[109,111,118]⟩,x1,x2]
 | load_ (x1 x2 : ByteArray) (hx1 : 0 ≤ reg x1) (hx2 : 0 ≤ reg x2) : Form [⟨#[108,111,97,100]⟩,x1,x2]
 | store_ (x1 x2 : ByteArray) (hx1 : 0 ≤ reg x1) (hx2 : 0 ≤ reg x2) : Form [⟨#[115,116,111,114,101]⟩,x1,x2]
 | add_ (x1 x2 x3 : ByteArray) (hx1 : 0 ≤ reg x1) (hx2 : 0 ≤ reg x2) (hx3 : 0 ≤ reg x3) : Form [⟨#[97,100,100]⟩,x1,x2,x3]
 | sub_ (x1 x2 x3 : ByteArray) (hx1 : 0 ≤ reg x1) (hx2 : 0 ≤ reg x2) (hx3 : 0 ≤ reg x3) : Form [⟨#[115,117,98]⟩,x1,x2,x3]
 | mul_ (x1 x2 x3 : ByteArray) (hx1 : 0 ≤ reg x1) (hx2 : 0 ≤ reg x2) (hx3 : 0 ≤ reg x3) : Form [⟨#[109,117,108]⟩,x1,x2,x3]
 | read_ (x1 : ByteArray) (hx1 : 0 ≤ reg x1) : Form [⟨#[114,101,97,100]⟩,x1]
 | write_ (x1 : ByteArray) (hx1 : 0 ≤ reg x1) : Form [⟨#[119,114,105,116,101]⟩,x1]
 | jump_ (x1 : ByteArray) (hx1 : za7 x1 = true) : Form [⟨#[106,117,109,112]⟩,x1]
 | call_ (x1 : ByteArray) (hx1 : za7 x1 = true) : Form [⟨#[99,97,108,108]⟩,x1]
 | less_ (x1 x2 x3 : ByteArray) (hx1 : 0 ≤ reg x1) (hx2 : 0 ≤ reg x2) (hx3 : za7 x3 = true) : Form [⟨#[108,101,115,115]⟩,x1,x2,x3]
 | same_ (x1 x2 x3 : ByteArray) (hx1 : 0 ≤ reg x1) (hx2 : 0 ≤ reg x2) (hx3 : za7 x3 = true) : Form [⟨#[115,97,109,101]⟩,x1,x2,x3]
 | back_ : Form [⟨#[98,97,99,107]⟩]
 | stop_ : Form [⟨#[115,116,111,112]⟩]
theorem op_r (x : ByteArray) : opOk 82 x = decide (0 ≤ reg x):=rfl
theorem op_k (x : ByteArray) : opOk 75 x = (zbv x).2:=rfl
theorem op_n (x : ByteArray) : opOk 78 x = za7 x:=rfl
theorem zvn (x : ByteArray) (r : List ByteArray) (h : zg0 x r = true) : Form (x :: r):=by
 unfold zg0 at h
 cases h0 : (x.toList == [115,101,116]) with
 | true =>
  have:=zaD x _ h0
  subst this
  change (if zaa ⟨#[115,101,116]⟩ = [63] ∨ ¬ r.length = (zaa ⟨#[115,101,116]⟩).length then false else zaG (zaa ⟨#[115,101,116]⟩) r) = true at h
  rw [zgV] at h
  split at h
  ·cases h
  ·rename_i hc
   have hl : r.length = 2:=by
    rcases Nat.decEq r.length 2 with h' | h'
    ·exact absurd (.inr (by simpa using h')) hc
    ·exact h'
   match r,hl,h with
   | [x1,x2],_,h =>
    simp only [zaG,op_r,op_k,Bool.and_true,Bool.and_eq_true,decide_eq_true_eq] at h
    exact .set_ x1 x2 h.1 h.2
 | false =>
  cases h1 : (x.toList == [105,110,99]) with
  | true =>
   have:=zaD x _ h1
   subst this
   change (if zaa ⟨#[105,110,99]⟩ = [63] ∨ ¬ r.length = (zaa ⟨#[105,110,99]⟩).length then false else zaG (zaa ⟨#[105,110,99]⟩) r) = true at h
   rw [zgW] at h
   split at h
   ·cases h
   ·rename_i hc
    have hl : r.length = 2:=by
     rcases Nat.decEq r.length 2 with h' | h'
     ·exact absurd (.inr (by simpa using h')) hc
     ·exact h'
    match r,hl,h with
    | [x1,x2],_,h =>
     simp only [zaG,op_r,op_k,Bool.and_true,Bool.and_eq_true,decide_eq_true_eq] at h
     exact .inc_ x1 x2 h.1 h.2
  | false =>
   cases h2 : (x.toList == [109,111,118]) with
   | true =>
    have:=zaD x _ h2
    subst this
    change (if zaa ⟨#[109,111,118]⟩ = [63] ∨ ¬ r.length = (zaa ⟨#[109,111,118]⟩).length then false else zaG (zaa ⟨#[109,111,118]⟩) r) = true at h
    rw [zgX] at h
    split at h
    ·cases h
    ·rename_i hc
     have hl : r.length = 2:=by
      rcases Nat.decEq r.length 2 with h' | h'
      ·exact absurd (.inr (by simpa using h')) hc
      ·exact h'
     match r,hl,h with
     | [x1,x2],_,h =>
      simp only [zaG,op_r,Bool.and_true,Bool.and_eq_true,decide_eq_true_eq] at h
      exact .mov_ x1 x2 h.1 h.2
   | false =>
    cases h3 : (x.toList == [108,111,97,100]) with
    | true =>
     have:=zaD x _ h3
     subst this
     change (if zaa ⟨#[108,111,97,100]⟩ = [63] ∨ ¬ r.length = (zaa ⟨#[108,111,97,100]⟩).length then false else zaG (zaa ⟨#[108,111,97,100]⟩) r) = true at h
     rw [zgi] at h
     split at h
     ·cases h
     ·rename_i hc
      have hl : r.length = 2:=by
       rcases Nat.decEq r.length 2 with h' | h'
       ·exact absurd (.inr (by simpa using h')) hc
       ·exact h'
      match r,hl,h with
      | [x1,x2],_,h =>
       simp only [zaG,op_r,Bool.and_true,Bool.and_eq_true,decide_eq_true_eq] at h
       exact .load_ x1 x2 h.1 h.2
    | false =>
     cases h4 : (x.toList == [115,116,111,114,101]) with
     | true =>
      have:=zaD x _ h4
      subst this
      change (if zaa ⟨#[115,116,111,114,101]⟩ = [63] ∨ ¬ r.length = (zaa ⟨#[115,116,111,114,101]⟩).length then false else zaG (zaa ⟨#[115,116,111,114,101]⟩) r) = true at h
      rw [zfl] at h
      split at h
      ·cases h
      ·rename_i hc
       have hl : r.length = 2:=by
        rcases Nat.decEq r.length 2 with h' | h'
        ·exact absurd (.inr (by simpa using h')) hc
        ·exact h'
       match r,hl,h with
       | [x1,x2],_,h =>
        simp only [zaG,op_r,Bool.and_true,Bool.and_eq_true,decide_eq_true_eq] at h
        exact .store_ x1 x2 h.1 h.2
     | false =>
      cases h5 : (x.toList == [97,100,100]) with
      | true =>
       have:=zaD x _ h5
       subst this
       change (if zaa ⟨#[97,100,100]⟩ = [63] ∨ ¬ r.length = (zaa ⟨#[97,100,100]⟩).length then false else zaG (zaa ⟨#[97,100,100]⟩) r) = true at h
       rw [zgY] at h
       split at h
       ·cases h
       ·rename_i hc
        have hl : r.length = 3:=by
         rcases Nat.decEq r.length 3 with h' | h'
         ·exact absurd (.inr (by simpa using h')) hc
         ·exact h'
        match r,hl,h with
        | [x1,x2,x3],_,h =>
         simp only [zaG,op_r,Bool.and_true,Bool.and_eq_true,decide_eq_true_eq] at h
         exact .add_ x1 x2 x3 h.1 h.2.1 h.2.2
      | false =>
       cases h6 : (x.toList == [115,117,98]) with
       | true =>
        have:=zaD x _ h6
        subst this
        change (if zaa ⟨#[115,117,98]⟩ = [63] ∨ ¬ r.length = (zaa ⟨#[115,117,98]⟩).length then false else zaG (zaa ⟨#[115,117,98]⟩) r) = true at h
        rw [zgZ] at h
        split at h
        ·cases h
        ·rename_i hc
         have hl : r.length = 3:=by
          rcases Nat.decEq r.length 3 with h' | h'
          ·exact absurd (.inr (by simpa using h')) hc
          ·exact h'
         match r,hl,h with
         | [x1,x2,x3],_,h =>
          simp only [zaG,op_r,Bool.and_true,Bool.and_eq_true,decide_eq_true_eq] at h
          exact .sub_ x1 x2 x3 h.1 h.2.1 h.2.2
       | false =>
        cases h7 : (x.toList == [109,117,108]) with
        | true =>
         have:=zaD x _ h7
         subst this
         change (if zaa ⟨#[109,117,108]⟩ = [63] ∨ ¬ r.length = (zaa ⟨#[109,117,108]⟩).length then false else zaG (zaa ⟨#[109,117,108]⟩) r) = true at h
         rw [zha] at h
         split at h
         ·cases h
         ·rename_i hc
          have hl : r.length = 3:=by
           rcases Nat.decEq r.length 3 with h' | h'
           ·exact absurd (.inr (by simpa using h')) hc
           ·exact h'
          match r,hl,h with
          | [x1,x2,x3],_,h =>
           simp only [zaG,op_r,Bool.and_true,Bool.and_eq_true,decide_eq_true_eq] at h
           exact .mul_ x1 x2 x3 h.1 h.2.1 h.2.2
        | false =>
         cases h8 : (x.toList == [114,101,97,100]) with
         | true =>
          have:=zaD x _ h8
          subst this
          change (if zaa ⟨#[114,101,97,100]⟩ = [63] ∨ ¬ r.length = (zaa ⟨#[114,101,97,100]⟩).length then false else zaG (zaa ⟨#[114,101,97,100]⟩) r) = true at h
          rw [zgj] at h
          split at h
          ·cases h
          ·rename_i hc
           have hl : r.length = 1:=by
            rcases Nat.decEq r.length 1 with h' | h'
            ·exact absurd (.inr (by simpa using h')) hc
            ·exact h'
           match r,hl,h with
           | [x1],_,h =>
            simp only [zaG,op_r,Bool.and_true,decide_eq_true_eq] at h
            exact .read_ x1 h
         | false =>
          cases h9 : (x.toList == [119,114,105,116,101]) with
          | true =>
           have:=zaD x _ h9
           subst this
           change (if zaa ⟨#[119,114,105,116,101]⟩ = [63] ∨ ¬ r.length = (zaa ⟨#[119,114,105,116,101]⟩).length then false else zaG (zaa ⟨#[119,114,105,116,101]⟩) r) = true at h
           rw [zfm] at h
           split at h
           ·cases h
           ·rename_i hc
            have hl : r.length = 1:=by
             rcases Nat.decEq r.length 1 with h' | h'
             ·exact absurd (.inr (by simpa using h')) hc
             ·exact h'
            match r,hl,h with
            | [x1],_,h =>
             simp only [zaG,op_r,Bool.and_true,decide_eq_true_eq] at h
             exact .write_ x1 h
          | false =>
           cases h10 : (x.toList == [106,117,109,112]) with
           | true =>
            have:=zaD x _ h10
            subst this
            change (if zaa ⟨#[106,117,109,112]⟩ = [63] ∨ ¬ r.length = (zaa ⟨#[106,117,109,112]⟩).length then false else zaG (zaa ⟨#[106,117,109,112]⟩) r) = true at h
            rw [zgk] at h
            split at h
            ·cases h
            ·rename_i hc
             have hl : r.length = 1:=by
              rcases Nat.decEq r.length 1 with h' | h'
              ·exact absurd (.inr (by simpa using h')) hc
              ·exact h'
             match r,hl,h with
             | [x1],_,h =>
              simp only [zaG,op_n,Bool.and_true] at h
              exact .jump_ x1 h
           | false =>
            cases h11 : (x.toList == [99,97,108,108]) with
            | true =>
             have:=zaD x _ h11
             subst this
             change (if zaa ⟨#[99,97,108,108]⟩ = [63] ∨ ¬ r.length = (zaa ⟨#[99,97,108,108]⟩).length then false else zaG (zaa ⟨#[99,97,108,108]⟩) r) = true at h
             rw [zgl] at h
             split at h
             ·cases h
             ·rename_i hc
              have hl : r.length = 1:=by
               rcases Nat.decEq r.length 1 with h' | h'
               ·exact absurd (.inr (by simpa using h')) hc
               ·exact h'
              match r,hl,h with
              | [x1],_,h =>
               simp only [zaG,op_n,Bool.and_true] at h
               exact .call_ x1 h
            | false =>
             cases h12 : (x.toList == [108,101,115,115]) with
             | true =>
              have:=zaD x _ h12
              subst this
              change (if zaa ⟨#[108,101,115,115]⟩ = [63] ∨ ¬ r.length = (zaa ⟨#[108,101,115,115]⟩).length then false else zaG (zaa ⟨#[108,101,115,115]⟩) r) = true at h
              rw [zgm] at h
              split at h
              ·cases h
              ·rename_i hc
               have hl : r.length = 3:=by
                rcases Nat.decEq r.length 3 with h' | h'
                ·exact absurd (.inr (by simpa using h')) hc
                ·exact h'
               match r,hl,h with
               | [x1,x2,x3],_,h =>
                simp only [zaG,op_r,op_n,Bool.and_true,Bool.and_eq_true,decide_eq_true_eq] at h
                exact .less_ x1 x2 x3 h.1 h.2.1 h.2.2
             | false =>
              cases h13 : (x.toList == [115,97,109,101]) with
              | true =>
               have:=zaD x _ h13
               subst this
               change (if zaa ⟨#[115,97,109,101]⟩ = [63] ∨ ¬ r.length = (zaa ⟨#[115,97,109,101]⟩).length then false else zaG (zaa ⟨#[115,97,109,101]⟩) r) = true at h
               rw [zgn] at h
               split at h
               ·cases h
               ·rename_i hc
                have hl : r.length = 3:=by
                 rcases Nat.decEq r.length 3 with h' | h'
                 ·exact absurd (.inr (by simpa using h')) hc
                 ·exact h'
                match r,hl,h with
                | [x1,x2,x3],_,h =>
                 simp only [zaG,op_r,op_n,Bool.and_true,Bool.and_eq_true,decide_eq_true_eq] at h
                 exact .same_ x1 x2 x3 h.1 h.2.1 h.2.2
              | false =>
               cases h14 : (x.toList == [98,97,99,107]) with
               | true =>
                have:=zaD x _ h14
                subst this
                change (if zaa ⟨#[98,97,99,107]⟩ = [63] ∨ ¬ r.length = (zaa ⟨#[98,97,99,107]⟩).length then false else zaG (zaa ⟨#[98,97,99,107]⟩) r) = true at h
                rw [zgo] at h
                split at h
                ·cases h
                ·rename_i hc
                 have hl : r.length = 0:=by
                  rcases Nat.decEq r.length 0 with h' | h'
                  ·exact absurd (.inr (by simpa using h')) hc
                  ·exact h'
                 obtain rfl : r = []:=List.eq_nil_of_length_eq_zero hl
                 exact .back_
               | false =>
                cases h15 : (x.toList == [115,116,111,112]) with
                | true =>
                 have:=zaD x _ h15
                 subst this
                 change (if zaa ⟨#[115,116,111,112]⟩ = [63] ∨ ¬ r.length = (zaa ⟨#[115,116,111,112]⟩).length then false else zaG (zaa ⟨#[115,116,111,112]⟩) r) = true at h
                 rw [zgp] at h
                 split at h
                 ·cases h
                 ·rename_i hc
                  have hl : r.length = 0:=by
                   rcases Nat.decEq r.length 0 with h' | h'
                   ·exact absurd (.inr (by simpa using h')) hc
                   ·exact h'
                  obtain rfl : r = []:=List.eq_nil_of_length_eq_zero hl
                  exact .stop_
                | false =>
                 rw [if_pos (.inl (zmX x h0 h1 h2 h3 h4 h5 h6 h7 h8 h9 h10 h11 h12 h13 h14 h15))] at h; cases h
theorem zbd (x : ByteArray) (h : 0 ≤ reg x) : regN x < 8 ∧ reg x = (regN x : Int):=by
 have : reg x ≤ 7:=by
  unfold reg at h ⊢
  split
  ·rename_i hb
   unfold regB at hb
   simp at hb
   omega
  ·omega
 unfold regN
 omega
theorem zvo (s : ByteArray) (h : (say s).ok = true) (h5 : (say s).kind = 105) : Form (say s).kept:=by
 have hv : za3 s 0 = true:=by
  cases hv : za3 s 0 with
  | true => rfl
  | false => rw [zeL s hv] at h; cases h
 rw [zhe s hv] at h h5 ⊢
 generalize words s = l at h h5 ⊢
 cases l with
 | nil => simp [sayW] at h5
 | cons x r =>
  have e : sayW (x :: r) = ⟨105,x :: r,if zaa x = [63] ∨ ¬ (x :: r).length = (zaa x).length + 1 then false else zaG (zaa x) r⟩:=by
   unfold sayW at h5 ⊢
   dsimp only at h5 ⊢
   split at h5
   ·simp at h5
   ·rename_i hf
    rw [if_neg hf]
    split at h5
    ·simp at h5
    ·rename_i hg
     rw [if_neg hg]
  rw [e] at h ⊢
  refine zvn x r ?_
  simpa [zg0] using h
end Go.Proofs.YtfpgjkbjbbgciaaGreatDoor
