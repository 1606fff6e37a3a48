import Derived.Test.YtfpgjkbjbbgciaaGreatDoorMf33
set_option maxRecDepth 100000
set_option maxHeartbeats 8000000
namespace Go.Proofs.YtfpgjkbjbbgciaaGreatDoor
open Sp
def cnt (L : List Said) : Nat → Nat
 | 0 => 0
 | i + 1 => cnt L i + (match L[i]? with | none => 0 | some q => if q.kind = 105 then 1 else 0)
theorem zgk (L : List Said) (i : Nat) (h : i < L.length) (h5 : L[i].kind = 105) : cnt L (i + 1) = cnt L i + 1:=by simp [cnt,List.getElem?_eq_getElem h,h5]
theorem zdd (L : List Said) (i : Nat) (h : i < L.length) (h5 : ¬ L[i].kind = 105) : cnt L (i + 1) = cnt L i:=by simp [cnt,List.getElem?_eq_getElem h,h5]
theorem zpH (L : List Said) (i d : Nat) : cnt L i ≤ cnt L (i + d):=by
 induction d with
 | zero => exact Nat.le_refl _
 | succ d ih => exact Nat.le_trans ih (Nat.le_add_right _ _)
theorem zkB (L : List Said) {i j : Nat} (h : i ≤ j) : cnt L i ≤ cnt L j:=by
 obtain ⟨d,rfl⟩:=Nat.exists_eq_add_of_le h
 exact zpH L i d
theorem zrc (L : List Said) (i : Nat) : cnt L i ≤ i:=by
 induction i with
 | zero => exact Nat.le_refl _
 | succ i ih =>
  show cnt L i + _ ≤ i + 1
  have : (match L[i]? with | none => 0 | some q => if q.kind = 105 then 1 else 0) ≤ 1:=by
   split
   ·omega
   ·split <;> omega
  omega
def NoFn (L : List Said) (i j : Nat) : Prop:=∀ m (hm : m < L.length),i ≤ m → m ≤ j → ¬ L[m].kind = 102
theorem NoFn.one {L : List Said} {i : Nat} {hi : i < L.length} (h : ¬ L[i].kind = 102) : NoFn L i i:=fun m hm a b => by
 have e : m = i:=by omega
 subst e; exact h
theorem NoFn.cons {L : List Said} {i j : Nat} {hi : i < L.length} (h : ¬ L[i].kind = 102) (h2 : NoFn L (i + 1) j) : NoFn L i j:=fun m hm a b => by
 by_cases e : m = i
 ·subst e; exact h
 ·exact h2 m hm (by omega) b
theorem NoFn.trans {L : List Said} {i j k l : Nat} (h : NoFn L i j) (h2 : NoFn L k l) (hk : k ≤ j + 1) : NoFn L i l:=fun m hm a b => by
 by_cases e : m ≤ j
 ·exact h m hm a e
 ·exact h2 m hm (by omega) b
theorem zkC (L : List Said) (i j : Nat) (h : zan L i = (j : Int)) : ∃ hj : j < L.length,i ≤ j ∧ L[j].kind = 105 ∧ cnt L j = cnt L i ∧ NoFn L i j:=by
 by_cases hi : i < L.length
 ·by_cases h1 : L[i].kind = 102
  ·rw [zlj L i hi h1] at h; omega
  ·by_cases h5 : L[i].kind = 105
   ·rw [zfa L i hi h5] at h
    have e : i = j:=by omega
    subst e
    exact ⟨hi,Nat.le_refl _,h5,rfl,.one (hi:=hi) h1⟩
   ·rw [zdN L i hi h1 h5] at h
    obtain ⟨hj,a,b,c,d⟩:=zkC L (i + 1) j h
    exact ⟨hj,by omega,b,by rw [c,zdd L i hi h5],.cons (hi:=hi) h1 d⟩
 ·rw [zhI L i hi] at h; omega
termination_by L.length - i
theorem zde {its : List It} {k : Key} {b : List Key} (h : its.map It.key = k :: b) : ∃ t r,its = t :: r ∧ t.key = k ∧ r.map It.key = b:=by
 cases its with
 | nil => simp at h
 | cons t r => simp at h; exact ⟨t,r,rfl,h.1,h.2⟩
theorem zjQ {t : It} (r : List It) (h : t.sort = 1) : zaf (t :: r) = zaf r:=by simp [zaf,h]
theorem zhu {t : It} (r : List It) (h : t.sort = 2) : zaf (t :: r) = t :: zaf r:=by simp [zaf,h]
theorem zkD {L : List Said} (hw : WfAll L) {i : Nat} (hi : i < L.length) (h0 : ¬ L[i].kind = 0) (h1 : ¬ L[i].kind = 102) (h2 : ¬ L[i].kind = 108) : L[i].kind = 105:=by
 have:=hw.at i hi
 unfold Wf at this; omega
theorem zfx (L : List Said) (hw : WfAll L) (i : Nat) (its : List It) (h : its.map It.key = zah L i) (m : Nat) (it : It) (hm : (zaf its)[m]? = some it) :
  ∃ j,∃ hj : j < L.length,i ≤ j ∧ L[j].kind = 105 ∧ it.key = keyQ L[j] ((j : Int) + 1) ∧ cnt L j = cnt L i + m ∧ NoFn L i j:=by
 by_cases hi : i < L.length
 ·by_cases h1 : L[i].kind = 102
  ·rw [zbK L i hi h1] at h
   have e : its = []:=by simpa using h
   subst e; simp [zaf] at hm
  ·by_cases h0 : L[i].kind = 0
   ·rw [zbw L i hi h0] at h
    obtain ⟨j,hj,a,b,c,d,e⟩:=zfx L hw (i + 1) its h m it hm
    exact ⟨j,hj,by omega,b,c,by rw [d,zdd L i hi (by omega)],.cons (hi:=hi) h1 e⟩
   ·rw [zaX L i hi h0 h1] at h
    obtain ⟨t,r,rfl,ht,hr⟩:=zde h
    by_cases h2 : L[i].kind = 108
    ·have hs : t.sort = 1:=(congrArg Key.sort ht).trans (zdU _ h2)
     rw [zjQ r hs] at hm
     obtain ⟨j,hj,a,b,c,d,e⟩:=zfx L hw (i + 1) r hr m it hm
     exact ⟨j,hj,by omega,b,c,by rw [d,zdd L i hi (by omega)],.cons (hi:=hi) h1 e⟩
    ·have h5:=zkD hw hi h0 h1 h2
     have hs : t.sort = 2:=(congrArg Key.sort ht).trans (zcW _ h1 h2)
     rw [zhu r hs] at hm
     cases m with
     | zero =>
      have e : t = it:=by simpa using hm
      subst e
      exact ⟨i,hi,Nat.le_refl _,h5,ht,rfl,.one (hi:=hi) h1⟩
     | succ m =>
      rw [List.getElem?_cons_succ] at hm
      obtain ⟨j,hj,a,b,c,d,e⟩:=zfx L hw (i + 1) r hr m it hm
      exact ⟨j,hj,by omega,b,c,by rw [d,zgk L i hi h5]; omega,.cons (hi:=hi) h1 e⟩
 ·rw [zbC L i hi] at h
  have e : its = []:=by simpa using h
  subst e; simp [zaf] at hm
termination_by L.length - i
theorem zgl (L : List Said) (hw : WfAll L) (i : Nat) (its : List It) (h : its.map It.key = zah L i) (j : Nat) (hj : j < L.length) (hij : i ≤ j) (h5 : L[j].kind = 105) (hno : NoFn L i j) :
  ∃ it,(zaf its)[cnt L j - cnt L i]? = some it ∧ it.key = keyQ L[j] ((j : Int) + 1):=by
 have hi : i < L.length:=by omega
 have h1:=hno i hi (Nat.le_refl _) hij
 have hno' : NoFn L (i + 1) j:=fun m hm a b => hno m hm (by omega) b
 by_cases e0 : i = j
 ·subst e0
  rw [zaX L i hi (by omega) h1] at h
  obtain ⟨t,r,rfl,ht,hr⟩:=zde h
  have hs : t.sort = 2:=(congrArg Key.sort ht).trans (zcW _ h1 (by omega))
  exact ⟨t,by rw [zhu r hs,Nat.sub_self]; rfl,ht⟩
 ·by_cases h0 : L[i].kind = 0
  ·rw [zbw L i hi h0] at h
   rw [← zdd L i hi (by omega)]
   exact zgl L hw (i + 1) its h j hj (by omega) h5 hno'
  ·rw [zaX L i hi h0 h1] at h
   obtain ⟨t,r,rfl,ht,hr⟩:=zde h
   obtain ⟨it,hit,hk⟩:=zgl L hw (i + 1) r hr j hj (by omega) h5 hno'
   by_cases h2 : L[i].kind = 108
   ·have hs : t.sort = 1:=(congrArg Key.sort ht).trans (zdU _ h2)
    rw [zjQ r hs,← zdd L i hi (by omega)]
    exact ⟨it,hit,hk⟩
   ·have h5':=zkD hw hi h0 h1 h2
    have hs : t.sort = 2:=(congrArg Key.sort ht).trans (zcW _ h1 h2)
    have hle:=zkB L (show i + 1 ≤ j by omega)
    have hc:=zgk L i hi h5'
    rw [zhu r hs,show cnt L j - cnt L i = (cnt L j - cnt L (i + 1)) + 1 by omega]
    exact ⟨it,by rw [List.getElem?_cons_succ]; exact hit,hk⟩
termination_by L.length - i
theorem zfy (L : List Said) (hw : WfAll L) (x : ByteArray) (i : Nat) (its : List It) (h : its.map It.key = zah L i) (n j : Nat) (hl : zaI L x i = (j : Int)) :
  zbc (zaG n its) x = some (n + (cnt L j - cnt L i)) ∧ ∃ hj : j < L.length,i ≤ j ∧ L[j].kind = 108 ∧ NoFn L i j:=by
 by_cases hi : i < L.length
 ·by_cases h1 : L[i].kind = 102
  ·rw [zf7 L x i hi h1] at hl; omega
  ·by_cases h0 : L[i].kind = 0
   ·rw [zbw L i hi h0] at h
    rw [zb7 L x i hi h1 (by simp [zbU,h0])] at hl
    obtain ⟨a,hj,b,c,d⟩:=zfy L hw x (i + 1) its h n j hl
    exact ⟨by rw [a,zdd L i hi (by omega)],hj,by omega,c,.cons (hi:=hi) h1 d⟩
   ·rw [zaX L i hi h0 h1] at h
    obtain ⟨t,r,rfl,ht,hr⟩:=zde h
    rw [zbx]
    by_cases h2 : L[i].kind = 108
    ·have hs : t.sort = 1:=(congrArg Key.sort ht).trans (zdU _ h2)
     have hnm : t.nm = L[i].word 0:=(congrArg Key.nm ht).trans (zhn _ h2)
     rw [if_pos hs]
     by_cases h3 : eqW (L[i].word 0) x = true
     ·rw [zcj L x i hi h1 (by simp [zbU,h2,h3])] at hl
      have e : i = j:=by omega
      subst e
      refine ⟨?_,hi,Nat.le_refl _,h2,.one (hi:=hi) h1⟩
      unfold zbc
      rw [if_pos (by rw [hnm]; exact h3)]
      simp
     ·rw [zb7 L x i hi h1 (by simp [zbU,h3])] at hl
      obtain ⟨a,hj,b,c,d⟩:=zfy L hw x (i + 1) r hr n j hl
      refine ⟨?_,hj,by omega,c,.cons (hi:=hi) h1 d⟩
      unfold zbc
      rw [if_neg (by rw [hnm]; exact h3),a,zdd L i hi (by omega)]
    ·have h5:=zkD hw hi h0 h1 h2
     have hs : t.sort = 2:=(congrArg Key.sort ht).trans (zcW _ h1 h2)
     rw [if_neg (by omega)]
     rw [zb7 L x i hi h1 (by simp [zbU,h2])] at hl
     obtain ⟨a,hj,b,c,d⟩:=zfy L hw x (i + 1) r hr (n + 1) j hl
     have hle:=zkB L b
     have hc:=zgk L i hi h5
     refine ⟨?_,hj,by omega,c,.cons (hi:=hi) h1 d⟩
     rw [a]
     congr 1
     omega
 ·rw [zdI L x i hi] at hl; omega
termination_by L.length - i
theorem ziw {F : List FnM} {f : Fn} {b : List Fn} (h : F.map FnM.fn = f :: b) : ∃ t r,F = t :: r ∧ t.fn = f ∧ r.map FnM.fn = b:=by
 cases F with
 | nil => simp at h
 | cons t r => simp at h; exact ⟨t,r,rfl,h.1,h.2⟩
theorem zdf (f : FnM) (F : List FnM) : lenF (f :: F) = (zaf f.its).length + lenF F:=by simp [lenF]
theorem zkE (L : List Said) (hw : WfAll L) (i : Nat) (its : List It) (h : its.map It.key = zah L i) (F : List FnM) (hF : F.map FnM.fn = za3 L i) (k : Nat) (f : FnM) (hk : F[k]? = some f) :
  ∃ o,∃ ho : o < L.length,i ≤ o ∧ L[o].kind = 102 ∧ f.line = (o : Int) + 1 ∧ f.its.map It.key = zah L (o + 1) ∧ cnt L o = cnt L i + (zaf its).length + lenF (F.take k):=by
 by_cases hi : i < L.length
 ·by_cases h1 : L[i].kind = 102
  ·rw [zbK L i hi h1] at h
   have e : its = []:=by simpa using h
   subst e
   rw [zbn L i hi h1] at hF
   obtain ⟨t,r,rfl,ht,hr⟩:=ziw hF
   have hb : t.its.map It.key = zah L (i + 1):=congrArg Fn.body ht
   have hl : t.line = (i : Int) + 1:=congrArg Fn.line ht
   cases k with
   | zero =>
    have e : t = f:=by simpa using hk
    subst e
    exact ⟨i,hi,Nat.le_refl _,h1,hl,hb,by simp [zaf,lenF]⟩
   | succ k =>
    rw [List.getElem?_cons_succ] at hk
    obtain ⟨o,ho,a,b,c,d,e⟩:=zkE L hw (i + 1) t.its hb r hr k f hk
    exact ⟨o,ho,by omega,b,c,d,by rw [e,zdd L i hi (by omega),List.take_succ_cons,zdf]; simp [zaf]; omega⟩
  ·rw [zbh L i hi h1] at hF
   by_cases h0 : L[i].kind = 0
   ·rw [zbw L i hi h0] at h
    obtain ⟨o,ho,a,b,c,d,e⟩:=zkE L hw (i + 1) its h F hF k f hk
    exact ⟨o,ho,by omega,b,c,d,by rw [e,zdd L i hi (by omega)]⟩
   ·rw [zaX L i hi h0 h1] at h
    obtain ⟨t,r,rfl,ht,hr⟩:=zde h
    obtain ⟨o,ho,a,b,c,d,e⟩:=zkE L hw (i + 1) r hr F hF k f hk
    by_cases h2 : L[i].kind = 108
    ·have hs : t.sort = 1:=(congrArg Key.sort ht).trans (zdU _ h2)
     exact ⟨o,ho,by omega,b,c,d,by rw [e,zdd L i hi (by omega),zjQ r hs]⟩
    ·have h5:=zkD hw hi h0 h1 h2
     have hs : t.sort = 2:=(congrArg Key.sort ht).trans (zcW _ h1 h2)
     exact ⟨o,ho,by omega,b,c,d,by rw [e,zgk L i hi h5,zhu r hs,List.length_cons]; omega⟩
 ·rw [zbL L i hi] at hF
  have e : F = []:=by simpa using hF
  subst e; simp at hk
termination_by L.length - i
theorem zhv (L : List Said) (x : ByteArray) (i : Nat) (F : List FnM) (hF : F.map FnM.fn = za3 L i) (n o : Nat) (hl : zba L x i = (o : Int)) :
  ∃ k f,F[k]? = some f ∧ zbc (zaJ n F) x = some (n + k) ∧ f.line = (o : Int) + 1:=by
 by_cases hi : i < L.length
 ·by_cases h1 : L[i].kind = 102
  ·rw [zbn L i hi h1] at hF
   obtain ⟨t,r,rfl,ht,hr⟩:=ziw hF
   have hnm : t.name = L[i].word 1:=congrArg Fn.name ht
   have hln : t.line = (i : Int) + 1:=congrArg Fn.line ht
   rw [zco]
   by_cases h3 : eqW (L[i].word 1) x = true
   ·rw [zc4 L x i hi (by simp [isFn,h1,h3])] at hl
    refine ⟨0,t,rfl,?_,by omega⟩
    unfold zbc
    rw [if_pos (by rw [hnm]; exact h3)]
    simp
   ·rw [zci L x i hi (by simp [isFn,h3])] at hl
    obtain ⟨k,f,a,b,c⟩:=zhv L x (i + 1) r hr (n + 1) o hl
    refine ⟨k + 1,f,by rw [List.getElem?_cons_succ]; exact a,?_,c⟩
    unfold zbc
    rw [if_neg (by rw [hnm]; exact h3),b]
    congr 1; omega
  ·rw [zbh L i hi h1] at hF
   rw [zci L x i hi (by simp [isFn,h1])] at hl
   exact zhv L x (i + 1) F hF n o hl
 ·rw [ze6 L x i hi] at hl; omega
termination_by L.length - i
theorem zgm (L : List Said) (i : Nat) (k : Key) (r : List Key) (h : zaC L i = k :: r) (hs : k.sort = 0) : zah L i = []:=by
 by_cases hi : i < L.length
 ·by_cases h0 : L[i].kind = 0
  ·rw [zce L i hi h0] at h
   rw [zbw L i hi h0]
   exact zgm L (i + 1) k r h hs
  ·rw [zaP L i hi h0] at h
   have hk : keyQ L[i] ((i : Int) + 1) = k:=by injection h
   by_cases h1 : L[i].kind = 102
   ·exact zbK L i hi h1
   ·exact absurd ((congrArg Key.sort hk).trans hs) (zdV _ h1)
 ·exact zbC L i hi
termination_by L.length - i
theorem zjR (L : List Said) (i : Nat) (k : Key) (r : List Key) (h : zaC L i = k :: r) (hs : k.sort = 0) : (k :: r).foldl addK [] = za3 L i:=by
 by_cases hi : i < L.length
 ·by_cases h0 : L[i].kind = 0
  ·rw [zce L i hi h0] at h
   rw [zbh L i hi (by omega)]
   exact zjR L (i + 1) k r h hs
  ·rw [zaP L i hi h0] at h
   have hk : keyQ L[i] ((i : Int) + 1) = k:=by injection h
   by_cases h1 : L[i].kind = 102
   ·rw [← h,List.foldl_cons,zbB _ _ (zcV _ h1),zeq,zbn L i hi h1]
    simp [keyQ,zeF _ h1]
   ·exact absurd ((congrArg Key.sort hk).trans hs) (zdV _ h1)
 ·rw [zbS L i hi] at h; cases h
termination_by L.length - i
end Go.Proofs.YtfpgjkbjbbgciaaGreatDoor
