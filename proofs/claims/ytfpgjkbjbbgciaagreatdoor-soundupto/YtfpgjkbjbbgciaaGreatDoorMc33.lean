import Derived.Test.YtfpgjkbjbbgciaaGreatDoorMc32
set_option maxRecDepth 100000
set_option maxHeartbeats 8000000
namespace Go.Proofs.YtfpgjkbjbbgciaaGreatDoor
open Go.RowKit Sp
def zmp (f : Int → Int) : Ins → Ins
 | .jump to => .jump (f to)
 | .less r s to => .less r s (f to)
 | .same r s to => .same r s (f to)
 | .call to => .call (f to)
 | i => i
def lift (f : Int → Int) (m : Mc) : Mc:={ m with at':=if m.fin = 1 ∨ m.fin = 2 then -1 else f m.at',backs:=m.backs.map f }
structure SimOk (L : List Said) (C : List (Ins × Int)) (f : Int → Int) : Prop where
 line : ∀ p (h : p < C.length),∃ k : Nat,f (p : Int) = (k : Int) ∧ ∃ hk : k < L.length,insQ L k L[k] = zmp f C[p].1 ∧ C[p].2 = (k : Int) + 1 ∧ (p + 1 < C.length → ztI C.length p C[p].1 → (∀ to,C[p].1 ≠ .jump to) → C[p].1 ≠ .back → C[p].1 ≠ .stop → zac L (k + 1) = f ((p : Int) + 1))
theorem zgb {f : Int → Int} {m : Mc} (h : ¬ (m.fin = 1 ∨ m.fin = 2)) : lift f m = { m with at':=f m.at',backs:=m.backs.map f }:=by unfold lift; rw [if_neg h]
theorem zn0 {f : Int → Int} {m : Mc} (h : m.fin = 1 ∨ m.fin = 2) : lift f m = { m with at':=-1,backs:=m.backs.map f }:=by unfold lift; rw [if_pos h]
theorem zbw {f : Int → Int} {m1 : Mc} {z : Int} (h : m1.fin = 0) : lift f (m1.goes z) = { m1 with backs:=m1.backs.map f }.goes (f z):=by
 rw [zgb (by show ¬ (m1.fin = 1 ∨ m1.fin = 2); omega)]; rfl
theorem zrs {N : Nat} {f : Int → Int} {m : Mc} {i : Ins} {next : Int} (I : InvD N m) (hfin : m.fin = 0) (hnext : (∀ to,i ≠ .jump to) → i ≠ .back → i ≠ .stop → next = f (m.at' + 1)) :
  exec (zmp f i) next (lift f m) = lift f (zbl i m):=by
 have hl : lift f m = { m with at':=f m.at',backs:=m.backs.map f }:=zgb (by omega)
 have hf:=I.frames
 rw [if_neg (by omega)] at hf
 rw [hl]
 cases i with
 | set r k =>
  rw [zai (.inl rfl) hfin,hnext (by simp) (by simp) (by simp),show exec (.set r k) (m.at' + 1) m = Mc.goes { m with regs:=upd m.regs r k } (m.at' + 1) from rfl,zbw]
  ·rfl
  ·exact hfin
 | mov r s =>
  rw [zai (.inl rfl) hfin,hnext (by simp) (by simp) (by simp),show exec (.mov r s) (m.at' + 1) m = Mc.goes { m with regs:=upd m.regs r (m.regs s) } (m.at' + 1) from rfl,zbw]
  ·rfl
  ·exact hfin
 | alu o r s t =>
  rw [zai (.inl rfl) hfin,hnext (by simp) (by simp) (by simp),show exec (.alu o r s t) (m.at' + 1) m = Mc.goes { m with regs:=upd m.regs r (zbv o (m.regs s) (m.regs t)) } (m.at' + 1) from rfl,zbw]
  ·rfl
  ·exact hfin
 | inc r k =>
  rw [zai (.inl rfl) hfin,hnext (by simp) (by simp) (by simp),show exec (.inc r k) (m.at' + 1) m = Mc.goes { m with regs:=upd m.regs r (w64 (m.regs r + k)) } (m.at' + 1) from rfl,zbw]
  ·rfl
  ·exact hfin
 | read r =>
  rw [zai (.inl rfl) hfin,hnext (by simp) (by simp) (by simp),show exec (.read r) (m.at' + 1) m = Mc.goes { m with regs:=upd m.regs r (m.inp.headD 0),inp:=m.inp.tail } (m.at' + 1) from rfl,zbw]
  ·rfl
  ·exact hfin
 | write r =>
  rw [zai (.inl rfl) hfin,hnext (by simp) (by simp) (by simp),show exec (.write r) (m.at' + 1) m = Mc.goes { m with out:=m.out ++ [m.regs r] } (m.at' + 1) from rfl,zbw]
  ·rfl
  ·exact hfin
 | load r s =>
  by_cases hn : m.regs s < 0 ∨ 15 < m.regs s
  ·have e1 : exec (.load r s) (m.at' + 1) m = { m with fin:=3 }:=if_pos hn
   rw [zai (.inr (by rw [e1]; show (2 : Int) < 3; decide)) hfin,e1,zgb (by show ¬ ((3 : Int) = 1 ∨ (3 : Int) = 2); decide)]
   exact if_pos hn
  ·have e1 : exec (.load r s) (m.at' + 1) m = { m with regs:=upd m.regs r (m.cells (m.regs s).toNat) }.goes (m.at' + 1):=if_neg hn
   rw [zai (.inl (by rw [e1]; rfl)) hfin,e1,zbw,hnext (by simp) (by simp) (by simp)]
   exact if_neg hn
   exact hfin
 | store r s =>
  by_cases hn : m.regs r < 0 ∨ 15 < m.regs r
  ·have e1 : exec (.store r s) (m.at' + 1) m = { m with fin:=3 }:=if_pos hn
   rw [zai (.inr (by rw [e1]; show (2 : Int) < 3; decide)) hfin,e1,zgb (by show ¬ ((3 : Int) = 1 ∨ (3 : Int) = 2); decide)]
   exact if_pos hn
  ·have e1 : exec (.store r s) (m.at' + 1) m = { m with cells:=upd m.cells (m.regs r).toNat (m.regs s) }.goes (m.at' + 1):=if_neg hn
   rw [zai (.inl (by rw [e1]; rfl)) hfin,e1,zbw,hnext (by simp) (by simp) (by simp)]
   exact if_neg hn
   exact hfin
 | jump to =>
  rw [zai (.inl rfl) hfin,show exec (.jump to) (m.at' + 1) m = Mc.goes m to from rfl,zbw]
  ·rfl
  ·exact hfin
 | less r s to =>
  rw [zai (.inl rfl) hfin,hnext (by simp) (by simp) (by simp),show exec (.less r s to) (m.at' + 1) m = m.goes (if m.regs r < m.regs s then to else m.at' + 1) from rfl,zbw,apply_ite f]
  rfl
  exact hfin
 | same r s to =>
  rw [zai (.inl rfl) hfin,hnext (by simp) (by simp) (by simp),show exec (.same r s to) (m.at' + 1) m = m.goes (if m.regs r = m.regs s then to else m.at' + 1) from rfl,zbw,apply_ite f]
  rfl
  exact hfin
 | call to =>
  by_cases h16 : m.frames = 16
  ·have e1 : exec (.call to) (m.at' + 1) m = { m with fin:=4 }:=if_pos h16
   rw [zai (.inr (by rw [e1]; show (2 : Int) < 4; decide)) hfin,e1,zgb (by show ¬ ((4 : Int) = 1 ∨ (4 : Int) = 2); decide)]
   exact if_pos h16
  ·have e1 : exec (.call to) (m.at' + 1) m = { m with backs:=m.backs ++ [m.at' + 1],frames:=m.frames + 1,peak:=max m.peak (m.frames + 1) }.goes to:=if_neg h16
   rw [zai (.inl (by rw [e1]; rfl)) hfin,e1,zbw,hnext (by simp) (by simp) (by simp)]
   refine (if_neg h16).trans ?_
   simp [Mc.goes]
   exact hfin
 | back =>
  by_cases h1 : m.frames = 1
  ·have e0 : exec .back (m.at' + 1) m = { m with frames:=0,fin:=2 }.goes (-1):=if_pos h1
   have e1 : zbl .back m = { m with steps:=m.steps + 1,frames:=0,fin:=2 }:=by
    unfold zbl; rw [e0,if_pos (.inr rfl)]; rfl
   rw [e1,zn0 (.inr rfl)]
   exact if_pos h1
  ·have e0 : exec .back (m.at' + 1) m = { m with frames:=m.frames - 1,backs:=m.backs.dropLast }.goes (m.backs.getLastD 0):=if_neg h1
   obtain ⟨J,x,hJ⟩ : ∃ I x,m.backs = I ++ [x]:=by
    rcases List.eq_nil_or_concat m.backs with h | ⟨I,x,h⟩
    ·rw [h] at hf; simp at hf; omega
    ·exact ⟨I,x,by rw [h,List.concat_eq_append]⟩
   rw [zai (.inl (by rw [e0]; rfl)) hfin,e0,zbw]
   refine (if_neg h1).trans ?_
   simp [Mc.goes,hJ]
   exact hfin
 | stop =>
  have e1 : zbl .stop m = { m with steps:=m.steps + 1,fin:=1 }:=by
   unfold zbl; rw [show exec .stop (m.at' + 1) m = { m with fin:=1 }.goes (-1) from rfl,if_pos (.inl rfl)]; rfl
  rw [e1,zn0 (.inl rfl)]
  rfl
theorem ztJ {L : List Said} {C : List (Ins × Int)} {f : Int → Int} {m : Mc} (S : SimOk L C f) (K : CodeOk C) (I : InvD C.length m) (hfin : m.fin = 0) : zb9 L (lift f m) = lift f (zdh C m):=by
 obtain ⟨p,hp,hlt⟩:=I.at_
 obtain ⟨k,hk,hkl,hq,_,hn⟩:=S.line p hlt
 have hl : (lift f m).at' = (k : Int):=by rw [zgb (by omega)]; show f m.at' = _; rw [hp,hk]
 rw [zj3 hp hlt]
 unfold zb9
 rw [hl,Int.toNat_natCast,List.getElem?_eq_getElem hkl]
 show exec (insQ L k L[k]) (zac L (k + 1)) (lift f m) = _
 rw [hq]
 refine zrs I hfin (fun h1 h2 h3 => ?_)
 have hle:=K.leads p hlt
 have hp1 : p + 1 < C.length:=by
  revert hle h1 h2 h3
  generalize C[p].1 = i
  intro h1 h2 h3 hle
  cases i with
  | jump to => exact absurd rfl (h1 to)
  | back => exact absurd rfl h2
  | stop => exact absurd rfl h3
  | less r s to => exact hle.2
  | same r s to => exact hle.2
  | call to => exact hle.2
  | _ => exact hle
 rw [hn hp1 hle h1 h2 h3,hp]
theorem zvB {L : List Said} {C : List (Ins × Int)} {f : Int → Int} (S : SimOk L C f) (K : CodeOk C) (n : Nat) : ∀ {m : Mc},InvD C.length m → runS (zb9 L) n (lift f m) = lift f (runS (zdh C) n m) ∧ InvD C.length (runS (zdh C) n m):=by
 induction n with
 | zero => intro m I; exact ⟨rfl,I⟩
 | succ n ih =>
  intro m I
  have hlf : (lift f m).fin = m.fin:=rfl
  by_cases h : m.fin = 0
  ·rw [zcj _ _ _ h,zcj _ _ _ (by rw [hlf]; exact h),ztJ S K I h]
   obtain ⟨p,hp,hlt⟩:=I.at_
   refine ih ?_
   rw [zj3 hp hlt]
   exact I.step h hp (K.leads p hlt)
  ·rw [zcY _ _ _ h,zcY _ _ _ (by rw [hlf]; exact h)]
   exact ⟨rfl,I⟩
end Go.Proofs.YtfpgjkbjbbgciaaGreatDoor
namespace Go.Proofs.YtfpgjkbjbbgciaaGreatDoor
open Sp
def cnt (L : List Said) : Nat → Nat
 | 0 => 0
 | i + 1 => cnt L i + (match L[i]? with | none => 0 | some q => if q.kind = 105 then 1 else 0)
theorem zj4 (L : List Said) (i : Nat) (h : i < L.length) (h5 : L[i].kind = 105) : cnt L (i + 1) = cnt L i + 1:=by simp [cnt,List.getElem?_eq_getElem h,h5]
theorem zeL (L : List Said) (i : Nat) (h : i < L.length) (h5 : ¬ L[i].kind = 105) : cnt L (i + 1) = cnt L i:=by simp [cnt,List.getElem?_eq_getElem h,h5]
theorem ztK (L : List Said) (i d : Nat) : cnt L i ≤ cnt L (i + d):=by
 induction d with
 | zero => exact Nat.le_refl _
 | succ d ih => exact Nat.le_trans ih (Nat.le_add_right _ _)
theorem zuK (L : List Said) {i j : Nat} (h : i ≤ j) : cnt L i ≤ cnt L j:=by
 obtain ⟨d,rfl⟩:=Nat.exists_eq_add_of_le h
 exact ztK L i d
theorem zwQ (L : List Said) (i : Nat) : cnt L i ≤ i:=by
 induction i with
 | zero => exact Nat.le_refl _
 | succ i ih =>
  show cnt L i + _ ≤ i + 1
  have : (match L[i]? with | none => 0 | some q => if q.kind = 105 then 1 else 0) ≤ 1:=by
   split
   ·omega
   ·split <;> omega
  omega
def NoFn (L : List Said) (i j : Nat) : Prop:=∀ m (hm : m < L.length),i ≤ m → m ≤ j → ¬ L[m].kind = 102
theorem NoFn.one {L : List Said} {i : Nat} {hi : i < L.length} (h : ¬ L[i].kind = 102) : NoFn L i i:=fun m hm a b => by
 have e : m = i:=by omega
 subst e; exact h
theorem NoFn.cons {L : List Said} {i j : Nat} {hi : i < L.length} (h : ¬ L[i].kind = 102) (h2 : NoFn L (i + 1) j) : NoFn L i j:=fun m hm a b => by
 by_cases e : m = i
 ·subst e; exact h
 ·exact h2 m hm (by omega) b
theorem NoFn.trans {L : List Said} {i j k l : Nat} (h : NoFn L i j) (h2 : NoFn L k l) (hk : k ≤ j + 1) : NoFn L i l:=fun m hm a b => by
 by_cases e : m ≤ j
 ·exact h m hm a e
 ·exact h2 m hm (by omega) b
theorem ztL (L : List Said) (i j : Nat) (h : zac L i = (j : Int)) : ∃ hj : j < L.length,i ≤ j ∧ L[j].kind = 105 ∧ cnt L j = cnt L i ∧ NoFn L i j:=by
 by_cases hi : i < L.length
 ·by_cases h1 : L[i].kind = 102
  ·rw [zi6 L i hi h1] at h; omega
  ·by_cases h5 : L[i].kind = 105
   ·rw [zeo L i hi h5] at h
    have e : i = j:=by omega
    subst e
    exact ⟨hi,Nat.le_refl _,h5,rfl,.one (hi:=hi) h1⟩
   ·rw [zdU L i hi h1 h5] at h
    obtain ⟨hj,a,b,c,d⟩:=ztL L (i + 1) j h
    exact ⟨hj,by omega,b,by rw [c,zeL L i hi h5],.cons (hi:=hi) h1 d⟩
 ·rw [zgw L i hi] at h; omega
termination_by L.length - i
theorem zer {its : List It} {k : Key} {b : List Key} (h : its.map It.key = k :: b) : ∃ t r,its = t :: r ∧ t.key = k ∧ r.map It.key = b:=by
 cases its with
 | nil => simp at h
 | cons t r => simp at h; exact ⟨t,r,rfl,h.1,h.2⟩
theorem zmq {t : It} (r : List It) (h : t.sort = 1) : zaj (t :: r) = zaj r:=by simp [zaj,h]
theorem zj5 {t : It} (r : List It) (h : t.sort = 2) : zaj (t :: r) = t :: zaj r:=by simp [zaj,h]
theorem zn1 {L : List Said} (hw : WfAll L) {i : Nat} (hi : i < L.length) (h0 : ¬ L[i].kind = 0) (h1 : ¬ L[i].kind = 102) (h2 : ¬ L[i].kind = 108) : L[i].kind = 105:=by
 have:=hw.at i hi
 unfold Wf at this; omega
theorem zj6 (L : List Said) (hw : WfAll L) (i : Nat) (its : List It) (h : its.map It.key = zan L i) (m : Nat) (it : It) (hm : (zaj its)[m]? = some it) :
  ∃ j,∃ hj : j < L.length,i ≤ j ∧ L[j].kind = 105 ∧ it.key = keyQ L[j] ((j : Int) + 1) ∧ cnt L j = cnt L i + m ∧ NoFn L i j:=by
 by_cases hi : i < L.length
 ·by_cases h1 : L[i].kind = 102
  ·rw [zcJ L i hi h1] at h
   have e : its = []:=by simpa using h
   subst e; simp [zaj] at hm
  ·by_cases h0 : L[i].kind = 0
   ·rw [zbY L i hi h0] at h
    obtain ⟨j,hj,a,b,c,d,e⟩:=zj6 L hw (i + 1) its h m it hm
    exact ⟨j,hj,by omega,b,c,by rw [d,zeL L i hi (by omega)],.cons (hi:=hi) h1 e⟩
   ·rw [zb4 L i hi h0 h1] at h
    obtain ⟨t,r,rfl,ht,hr⟩:=zer h
    by_cases h2 : L[i].kind = 108
    ·have hs : t.sort = 1:=(congrArg Key.sort ht).trans (zeY _ h2)
     rw [zmq r hs] at hm
     obtain ⟨j,hj,a,b,c,d,e⟩:=zj6 L hw (i + 1) r hr m it hm
     exact ⟨j,hj,by omega,b,c,by rw [d,zeL L i hi (by omega)],.cons (hi:=hi) h1 e⟩
    ·have h5:=zn1 hw hi h0 h1 h2
     have hs : t.sort = 2:=(congrArg Key.sort ht).trans (zej _ h1 h2)
     rw [zj5 r hs] at hm
     cases m with
     | zero =>
      have e : t = it:=by simpa using hm
      subst e
      exact ⟨i,hi,Nat.le_refl _,h5,ht,rfl,.one (hi:=hi) h1⟩
     | succ m =>
      rw [List.getElem?_cons_succ] at hm
      obtain ⟨j,hj,a,b,c,d,e⟩:=zj6 L hw (i + 1) r hr m it hm
      exact ⟨j,hj,by omega,b,c,by rw [d,zj4 L i hi h5]; omega,.cons (hi:=hi) h1 e⟩
 ·rw [zcv L i hi] at h
  have e : its = []:=by simpa using h
  subst e; simp [zaj] at hm
termination_by L.length - i
theorem zkL (L : List Said) (hw : WfAll L) (i : Nat) (its : List It) (h : its.map It.key = zan L i) (j : Nat) (hj : j < L.length) (hij : i ≤ j) (h5 : L[j].kind = 105) (hno : NoFn L i j) :
  ∃ it,(zaj its)[cnt L j - cnt L i]? = some it ∧ it.key = keyQ L[j] ((j : Int) + 1):=by
 have hi : i < L.length:=by omega
 have h1:=hno i hi (Nat.le_refl _) hij
 have hno' : NoFn L (i + 1) j:=fun m hm a b => hno m hm (by omega) b
 by_cases e0 : i = j
 ·subst e0
  rw [zb4 L i hi (by omega) h1] at h
  obtain ⟨t,r,rfl,ht,hr⟩:=zer h
  have hs : t.sort = 2:=(congrArg Key.sort ht).trans (zej _ h1 (by omega))
  exact ⟨t,by rw [zj5 r hs,Nat.sub_self]; rfl,ht⟩
 ·by_cases h0 : L[i].kind = 0
  ·rw [zbY L i hi h0] at h
   rw [← zeL L i hi (by omega)]
   exact zkL L hw (i + 1) its h j hj (by omega) h5 hno'
  ·rw [zb4 L i hi h0 h1] at h
   obtain ⟨t,r,rfl,ht,hr⟩:=zer h
   obtain ⟨it,hit,hk⟩:=zkL L hw (i + 1) r hr j hj (by omega) h5 hno'
   by_cases h2 : L[i].kind = 108
   ·have hs : t.sort = 1:=(congrArg Key.sort ht).trans (zeY _ h2)
    rw [zmq r hs,← zeL L i hi (by omega)]
    exact ⟨it,hit,hk⟩
   ·have h5':=zn1 hw hi h0 h1 h2
    have hs : t.sort = 2:=(congrArg Key.sort ht).trans (zej _ h1 h2)
    have hle:=zuK L (show i + 1 ≤ j by omega)
    have hc:=zj4 L i hi h5'
    rw [zj5 r hs,show cnt L j - cnt L i = (cnt L j - cnt L (i + 1)) + 1 by omega]
    exact ⟨it,by rw [List.getElem?_cons_succ]; exact hit,hk⟩
termination_by L.length - i
theorem zj7 (L : List Said) (hw : WfAll L) (x : ByteArray) (i : Nat) (its : List It) (h : its.map It.key = zan L i) (n j : Nat) (hl : zaR L x i = (j : Int)) :
  zce (zbh n its) x = some (n + (cnt L j - cnt L i)) ∧ ∃ hj : j < L.length,i ≤ j ∧ L[j].kind = 108 ∧ NoFn L i j:=by
 by_cases hi : i < L.length
 ·by_cases h1 : L[i].kind = 102
  ·rw [zfp L x i hi h1] at hl; omega
  ·by_cases h0 : L[i].kind = 0
   ·rw [zbY L i hi h0] at h
    rw [zbD L x i hi h1 (by simp [zcG,h0])] at hl
    obtain ⟨a,hj,b,c,d⟩:=zj7 L hw x (i + 1) its h n j hl
    exact ⟨by rw [a,zeL L i hi (by omega)],hj,by omega,c,.cons (hi:=hi) h1 d⟩
   ·rw [zb4 L i hi h0 h1] at h
    obtain ⟨t,r,rfl,ht,hr⟩:=zer h
    rw [zbZ]
    by_cases h2 : L[i].kind = 108
    ·have hs : t.sort = 1:=(congrArg Key.sort ht).trans (zeY _ h2)
     have hnm : t.nm = L[i].word 0:=(congrArg Key.nm ht).trans (zjo _ h2)
     rw [if_pos hs]
     by_cases h3 : eqW (L[i].word 0) x = true
     ·rw [zcH L x i hi h1 (by simp [zcG,h2,h3])] at hl
      have e : i = j:=by omega
      subst e
      refine ⟨?_,hi,Nat.le_refl _,h2,.one (hi:=hi) h1⟩
      unfold zce
      rw [if_pos (by rw [hnm]; exact h3)]
      simp
     ·rw [zbD L x i hi h1 (by simp [zcG,h3])] at hl
      obtain ⟨a,hj,b,c,d⟩:=zj7 L hw x (i + 1) r hr n j hl
      refine ⟨?_,hj,by omega,c,.cons (hi:=hi) h1 d⟩
      unfold zce
      rw [if_neg (by rw [hnm]; exact h3),a,zeL L i hi (by omega)]
    ·have h5:=zn1 hw hi h0 h1 h2
     have hs : t.sort = 2:=(congrArg Key.sort ht).trans (zej _ h1 h2)
     rw [if_neg (by omega)]
     rw [zbD L x i hi h1 (by simp [zcG,h2])] at hl
     obtain ⟨a,hj,b,c,d⟩:=zj7 L hw x (i + 1) r hr (n + 1) j hl
     have hle:=zuK L b
     have hc:=zj4 L i hi h5
     refine ⟨?_,hj,by omega,c,.cons (hi:=hi) h1 d⟩
     rw [a]
     congr 1
     omega
 ·rw [zdJ L x i hi] at hl; omega
termination_by L.length - i
theorem zkM {F : List FnM} {f : Fn} {b : List Fn} (h : F.map FnM.fn = f :: b) : ∃ t r,F = t :: r ∧ t.fn = f ∧ r.map FnM.fn = b:=by
 cases F with
 | nil => simp at h
 | cons t r => simp at h; exact ⟨t,r,rfl,h.1,h.2⟩
theorem zes (f : FnM) (F : List FnM) : lenF (f :: F) = (zaj f.its).length + lenF F:=by simp [lenF]
theorem zrt (L : List Said) (hw : WfAll L) (i : Nat) (its : List It) (h : its.map It.key = zan L i) (F : List FnM) (hF : F.map FnM.fn = zaM L i) (k : Nat) (f : FnM) (hk : F[k]? = some f) :
  ∃ o,∃ ho : o < L.length,i ≤ o ∧ L[o].kind = 102 ∧ f.line = (o : Int) + 1 ∧ f.its.map It.key = zan L (o + 1) ∧ cnt L o = cnt L i + (zaj its).length + lenF (F.take k):=by
 by_cases hi : i < L.length
 ·by_cases h1 : L[i].kind = 102
  ·rw [zcJ L i hi h1] at h
   have e : its = []:=by simpa using h
   subst e
   rw [zbT L i hi h1] at hF
   obtain ⟨t,r,rfl,ht,hr⟩:=zkM hF
   have hb : t.its.map It.key = zan L (i + 1):=congrArg Fn.body ht
   have hl : t.line = (i : Int) + 1:=congrArg Fn.line ht
   cases k with
   | zero =>
    have e : t = f:=by simpa using hk
    subst e
    exact ⟨i,hi,Nat.le_refl _,h1,hl,hb,by simp [zaj,lenF]⟩
   | succ k =>
    rw [List.getElem?_cons_succ] at hk
    obtain ⟨o,ho,a,b,c,d,e⟩:=zrt L hw (i + 1) t.its hb r hr k f hk
    exact ⟨o,ho,by omega,b,c,d,by rw [e,zeL L i hi (by omega),List.take_succ_cons,zes]; simp [zaj]; omega⟩
  ·rw [zbE L i hi h1] at hF
   by_cases h0 : L[i].kind = 0
   ·rw [zbY L i hi h0] at h
    obtain ⟨o,ho,a,b,c,d,e⟩:=zrt L hw (i + 1) its h F hF k f hk
    exact ⟨o,ho,by omega,b,c,d,by rw [e,zeL L i hi (by omega)]⟩
   ·rw [zb4 L i hi h0 h1] at h
    obtain ⟨t,r,rfl,ht,hr⟩:=zer h
    obtain ⟨o,ho,a,b,c,d,e⟩:=zrt L hw (i + 1) r hr F hF k f hk
    by_cases h2 : L[i].kind = 108
    ·have hs : t.sort = 1:=(congrArg Key.sort ht).trans (zeY _ h2)
     exact ⟨o,ho,by omega,b,c,d,by rw [e,zeL L i hi (by omega),zmq r hs]⟩
    ·have h5:=zn1 hw hi h0 h1 h2
     have hs : t.sort = 2:=(congrArg Key.sort ht).trans (zej _ h1 h2)
     exact ⟨o,ho,by omega,b,c,d,by rw [e,zj4 L i hi h5,zj5 r hs,List.length_cons]; omega⟩
 ·rw [zcK L i hi] at hF
  have e : F = []:=by simpa using hF
  subst e; simp at hk
termination_by L.length - i
theorem zn2 (L : List Said) (x : ByteArray) (i : Nat) (F : List FnM) (hF : F.map FnM.fn = zaM L i) (n o : Nat) (hl : zaE L x i = (o : Int)) :
  ∃ k f,F[k]? = some f ∧ zce (zaJ n F) x = some (n + k) ∧ f.line = (o : Int) + 1:=by
 by_cases hi : i < L.length
 ·by_cases h1 : L[i].kind = 102
  ·rw [zbT L i hi h1] at hF
   obtain ⟨t,r,rfl,ht,hr⟩:=zkM hF
   have hnm : t.name = L[i].word 1:=congrArg Fn.name ht
   have hln : t.line = (i : Int) + 1:=congrArg Fn.line ht
   rw [zdn]
   by_cases h3 : eqW (L[i].word 1) x = true
   ·rw [zdj L x i hi (by simp [isFn,h1,h3])] at hl
    refine ⟨0,t,rfl,?_,by omega⟩
    unfold zce
    rw [if_pos (by rw [hnm]; exact h3)]
    simp
   ·rw [zcU L x i hi (by simp [isFn,h3])] at hl
    obtain ⟨k,f,a,b,c⟩:=zn2 L x (i + 1) r hr (n + 1) o hl
    refine ⟨k + 1,f,by rw [List.getElem?_cons_succ]; exact a,?_,c⟩
    unfold zce
    rw [if_neg (by rw [hnm]; exact h3),b]
    congr 1; omega
  ·rw [zbE L i hi h1] at hF
   rw [zcU L x i hi (by simp [isFn,h1])] at hl
   exact zn2 L x (i + 1) F hF n o hl
 ·rw [ze3 L x i hi] at hl; omega
termination_by L.length - i
theorem zhw (L : List Said) (i : Nat) (k : Key) (r : List Key) (h : zbb L i = k :: r) (hs : k.sort = 0) : zan L i = []:=by
 by_cases hi : i < L.length
 ·by_cases h0 : L[i].kind = 0
  ·rw [zdk L i hi h0] at h
   rw [zbY L i hi h0]
   exact zhw L (i + 1) k r h hs
  ·rw [zbp L i hi h0] at h
   have hk : keyQ L[i] ((i : Int) + 1) = k:=by injection h
   by_cases h1 : L[i].kind = 102
   ·exact zcJ L i hi h1
   ·exact absurd ((congrArg Key.sort hk).trans hs) (zeZ _ h1)
 ·exact zcv L i hi
termination_by L.length - i
theorem zmr (L : List Said) (i : Nat) (k : Key) (r : List Key) (h : zbb L i = k :: r) (hs : k.sort = 0) : (k :: r).foldl addK [] = zaM L i:=by
 by_cases hi : i < L.length
 ·by_cases h0 : L[i].kind = 0
  ·rw [zdk L i hi h0] at h
   rw [zbE L i hi (by omega)]
   exact zmr L (i + 1) k r h hs
  ·rw [zbp L i hi h0] at h
   have hk : keyQ L[i] ((i : Int) + 1) = k:=by injection h
   by_cases h1 : L[i].kind = 102
   ·rw [← h,List.foldl_cons,zcu _ _ (zei _ h1),zf1,zbT L i hi h1]
    simp [keyQ,zfR _ h1]
   ·exact absurd ((congrArg Key.sort hk).trans hs) (zeZ _ h1)
 ·rw [zcX L i hi] at h; cases h
termination_by L.length - i
def labM (F : List FnM) (k : Nat) (x : ByteArray) : Int:=(lenF (F.take k) : Int) + (((match F[k]? with | none => none | some f => zce (zcD f.its) x).getD 0 : Nat) : Int)
def fnM (F : List FnM) (x : ByteArray) : Int:=(lenF (F.take ((zce (zbs F) x).getD 0)) : Int)
def insX (w : ByteArray) (a b c n l f : Int) : Ins :=
 if isW w [106,117,109,112] = true then .jump l
 else if isW w [108,101,115,115] = true then .less a.toNat b.toNat l
 else if isW w [115,97,109,101] = true then .same a.toNat b.toNat l
 else if isW w [99,97,108,108] = true then .call f
 else if isW w [98,97,99,107] = true then .back
 else if isW w [115,116,111,112] = true then .stop
 else if isW w [115,101,116] = true then .set a.toNat n
 else if isW w [109,111,118] = true then .mov a.toNat b.toNat
 else if isW w [97,100,100] = true then .alu 0 a.toNat b.toNat c.toNat
 else if isW w [115,117,98] = true then .alu 1 a.toNat b.toNat c.toNat
 else if isW w [109,117,108] = true then .alu 2 a.toNat b.toNat c.toNat
 else if isW w [105,110,99] = true then .inc a.toNat n
 else if isW w [108,111,97,100] = true then .load a.toNat b.toNat
 else if isW w [115,116,111,114,101] = true then .store a.toNat b.toNat
 else if isW w [114,101,97,100] = true then .read a.toNat
 else .write a.toNat
def insM (F : List FnM) (k : Nat) (i : It) : Ins:=insX i.word i.a i.b i.c i.n (labM F k i.nm) (fnM F i.nm)
theorem zn3 (a b c n l f : Int) : insX ⟨#[115,101,116]⟩ a b c n l f = .set a.toNat n:=by kernel_rfl
theorem zn4 (a b c n l f : Int) : insX ⟨#[105,110,99]⟩ a b c n l f = .inc a.toNat n:=by kernel_rfl
theorem zn5 (a b c n l f : Int) : insX ⟨#[109,111,118]⟩ a b c n l f = .mov a.toNat b.toNat:=by kernel_rfl
theorem zkN (a b c n l f : Int) : insX ⟨#[108,111,97,100]⟩ a b c n l f = .load a.toNat b.toNat:=by kernel_rfl
theorem ziF (a b c n l f : Int) : insX ⟨#[115,116,111,114,101]⟩ a b c n l f = .store a.toNat b.toNat:=by kernel_rfl
theorem zn6 (a b c n l f : Int) : insX ⟨#[97,100,100]⟩ a b c n l f = .alu 0 a.toNat b.toNat c.toNat:=by kernel_rfl
theorem zn7 (a b c n l f : Int) : insX ⟨#[115,117,98]⟩ a b c n l f = .alu 1 a.toNat b.toNat c.toNat:=by kernel_rfl
theorem zn8 (a b c n l f : Int) : insX ⟨#[109,117,108]⟩ a b c n l f = .alu 2 a.toNat b.toNat c.toNat:=by kernel_rfl
theorem zkO (a b c n l f : Int) : insX ⟨#[114,101,97,100]⟩ a b c n l f = .read a.toNat:=by kernel_rfl
theorem ziG (a b c n l f : Int) : insX ⟨#[119,114,105,116,101]⟩ a b c n l f = .write a.toNat:=by kernel_rfl
theorem zkP (a b c n l f : Int) : insX ⟨#[106,117,109,112]⟩ a b c n l f = .jump l:=by kernel_rfl
theorem zkQ (a b c n l f : Int) : insX ⟨#[99,97,108,108]⟩ a b c n l f = .call f:=by kernel_rfl
theorem zkR (a b c n l f : Int) : insX ⟨#[108,101,115,115]⟩ a b c n l f = .less a.toNat b.toNat l:=by kernel_rfl
theorem zkS (a b c n l f : Int) : insX ⟨#[115,97,109,101]⟩ a b c n l f = .same a.toNat b.toNat l:=by kernel_rfl
theorem zhx (a b c n l f : Int) : insX ⟨#[98,97,99,107]⟩ a b c n l f = .back:=by kernel_rfl
theorem zkT (a b c n l f : Int) : insX ⟨#[115,116,111,112]⟩ a b c n l f = .stop:=by kernel_rfl
theorem zru (x1 x2 : ByteArray) (ok : Bool) : opQ ⟨105,[⟨#[115,101,116]⟩,x1,x2],ok⟩ = ⟨⟨#[]⟩,za5 x1,0,0,zcC x2⟩:=by kernel_rfl
theorem zrv (x1 x2 : ByteArray) (ok : Bool) : opQ ⟨105,[⟨#[105,110,99]⟩,x1,x2],ok⟩ = ⟨⟨#[]⟩,za5 x1,0,0,zcC x2⟩:=by kernel_rfl
theorem zrw (x1 x2 : ByteArray) (ok : Bool) : opQ ⟨105,[⟨#[109,111,118]⟩,x1,x2],ok⟩ = ⟨⟨#[]⟩,za5 x1,za5 x2,0,0⟩:=by kernel_rfl
theorem zn9 (x1 x2 : ByteArray) (ok : Bool) : opQ ⟨105,[⟨#[108,111,97,100]⟩,x1,x2],ok⟩ = ⟨⟨#[]⟩,za5 x1,za5 x2,0,0⟩:=by kernel_rfl
theorem zkU (x1 x2 : ByteArray) (ok : Bool) : opQ ⟨105,[⟨#[115,116,111,114,101]⟩,x1,x2],ok⟩ = ⟨⟨#[]⟩,za5 x1,za5 x2,0,0⟩:=by kernel_rfl
theorem zrx (x1 x2 x3 : ByteArray) (ok : Bool) : opQ ⟨105,[⟨#[97,100,100]⟩,x1,x2,x3],ok⟩ = ⟨⟨#[]⟩,za5 x1,za5 x2,za5 x3,0⟩:=by kernel_rfl
theorem zry (x1 x2 x3 : ByteArray) (ok : Bool) : opQ ⟨105,[⟨#[115,117,98]⟩,x1,x2,x3],ok⟩ = ⟨⟨#[]⟩,za5 x1,za5 x2,za5 x3,0⟩:=by kernel_rfl
theorem zrz (x1 x2 x3 : ByteArray) (ok : Bool) : opQ ⟨105,[⟨#[109,117,108]⟩,x1,x2,x3],ok⟩ = ⟨⟨#[]⟩,za5 x1,za5 x2,za5 x3,0⟩:=by kernel_rfl
theorem znA (x1 : ByteArray) (ok : Bool) : opQ ⟨105,[⟨#[114,101,97,100]⟩,x1],ok⟩ = ⟨⟨#[]⟩,za5 x1,0,0,0⟩:=by kernel_rfl
theorem zkV (x1 : ByteArray) (ok : Bool) : opQ ⟨105,[⟨#[119,114,105,116,101]⟩,x1],ok⟩ = ⟨⟨#[]⟩,za5 x1,0,0,0⟩:=by kernel_rfl
theorem ziH (x1 : ByteArray) (ok : Bool) : zdy ⟨105,[⟨#[106,117,109,112]⟩,x1],ok⟩ = x1:=by kernel_rfl
theorem ziI (x1 : ByteArray) (ok : Bool) : zdy ⟨105,[⟨#[99,97,108,108]⟩,x1],ok⟩ = x1:=by kernel_rfl
theorem znB (x1 x2 x3 : ByteArray) (ok : Bool) : opQ ⟨105,[⟨#[108,101,115,115]⟩,x1,x2,x3],ok⟩ = ⟨x3,za5 x1,za5 x2,0,0⟩:=by kernel_rfl
theorem ziJ (x1 x2 x3 : ByteArray) (ok : Bool) : zdy ⟨105,[⟨#[108,101,115,115]⟩,x1,x2,x3],ok⟩ = x3:=by kernel_rfl
theorem znC (x1 x2 x3 : ByteArray) (ok : Bool) : opQ ⟨105,[⟨#[115,97,109,101]⟩,x1,x2,x3],ok⟩ = ⟨x3,za5 x1,za5 x2,0,0⟩:=by kernel_rfl
theorem ziK (x1 x2 x3 : ByteArray) (ok : Bool) : zdy ⟨105,[⟨#[115,97,109,101]⟩,x1,x2,x3],ok⟩ = x3:=by kernel_rfl
theorem zaq (x : ByteArray) : (za5 x).toNat = regN x:=by
 unfold za5 regN
 split
 ·rfl
 ·rename_i h; have : reg x < 0:=by omega
  rw [show (reg x).toNat = 0 from Int.toNat_of_nonpos (by omega)]; rfl
theorem zkW (x : ByteArray) (h : (za6 x).2 = true) : zcC x = (za6 x).1:=if_pos h
def Goes (N : Nat) : Ins → Prop
 | .jump to => InC N to
 | .less _ _ to => InC N to
 | .same _ _ to => InC N to
 | .call to => InC N to
 | _ => True
def Ends : Ins → Prop
 | .jump _ => True
 | .back => True
 | .stop => True
 | _ => False
theorem zwF (q : Said) (h5 : q.kind = 105) (Fm : Form q.kept) (it : It) (line : Int) (hkey : it.key = keyQ q line) (F : List FnM) (k : Nat) (L : List Said) (j N : Nat) (f : Int → Int)
  (hlab : zaF (q.word 0) = true → f (labM F k q.last) = zeI L j q.last ∧ InC N (labM F k q.last))
  (hfn : zcs (q.word 0) = true → f (fnM F q.last) = fnTo L q.last ∧ InC N (fnM F q.last)) :
  insQ L j q = zmp f (insM F k it) ∧ zkJ (insM F k it) ∧ Goes N (insM F k it) ∧ (ends (q.word 0) = false ∨ Ends (insM F k it)):=by
 have ew : it.word = zeh q:=congrArg Key.word hkey
 have ea : it.a = (opQ q).a:=congrArg Key.a hkey
 have eb : it.b = (opQ q).b:=congrArg Key.b hkey
 have ec : it.c = (opQ q).c:=congrArg Key.c hkey
 have en : it.n = (opQ q).n:=congrArg Key.n hkey
 have em : it.nm = zdy q:=congrArg Key.nm hkey
 clear hkey
 obtain ⟨kd,kp,ok⟩:=q
 simp only at h5 Fm
 subst h5
 unfold insM
 cases Fm with
 | set_ x1 x2 hx1 hx2 =>
  have e0 : it.word = ⟨#[115,101,116]⟩:=ew
  rw [zru] at ea eb ec en
  rw [e0,zn3,ea,en,zns L j ⟨105,[⟨#[115,101,116]⟩,x1,x2],ok⟩ x1 x2 rfl]
  have r1:=(zam x1 hx1).1
  simp only [zaq x1,zkW x2 hx2]
  exact ⟨rfl,r1,trivial,.inl (by kernel_rfl)⟩
 | inc_ x1 x2 hx1 hx2 =>
  have e0 : it.word = ⟨#[105,110,99]⟩:=ew
  rw [zrv] at ea eb ec en
  rw [e0,zn4,ea,en,znx L j ⟨105,[⟨#[105,110,99]⟩,x1,x2],ok⟩ x1 x2 rfl]
  have r1:=(zam x1 hx1).1
  simp only [zaq x1,zkW x2 hx2]
  exact ⟨rfl,r1,trivial,.inl (by kernel_rfl)⟩
 | mov_ x1 x2 hx1 hx2 =>
  have e0 : it.word = ⟨#[109,111,118]⟩:=ew
  rw [zrw] at ea eb ec en
  rw [e0,zn5,ea,eb,znt L j ⟨105,[⟨#[109,111,118]⟩,x1,x2],ok⟩ x1 x2 rfl]
  have r1:=(zam x1 hx1).1
  have r2:=(zam x2 hx2).1
  simp only [zaq x1,zaq x2]
  exact ⟨rfl,⟨r1,r2⟩,trivial,.inl (by kernel_rfl)⟩
 | load_ x1 x2 hx1 hx2 =>
  have e0 : it.word = ⟨#[108,111,97,100]⟩:=ew
  rw [zn9] at ea eb ec en
  rw [e0,zkN,ea,eb,zkG L j ⟨105,[⟨#[108,111,97,100]⟩,x1,x2],ok⟩ x1 x2 rfl]
  have r1:=(zam x1 hx1).1
  have r2:=(zam x2 hx2).1
  simp only [zaq x1,zaq x2]
  exact ⟨rfl,⟨r1,r2⟩,trivial,.inl (by kernel_rfl)⟩
 | store_ x1 x2 hx1 hx2 =>
  have e0 : it.word = ⟨#[115,116,111,114,101]⟩:=ew
  rw [zkU] at ea eb ec en
  rw [e0,ziF,ea,eb,zi9 L j ⟨105,[⟨#[115,116,111,114,101]⟩,x1,x2],ok⟩ x1 x2 rfl]
  have r1:=(zam x1 hx1).1
  have r2:=(zam x2 hx2).1
  simp only [zaq x1,zaq x2]
  exact ⟨rfl,⟨r1,r2⟩,trivial,.inl (by kernel_rfl)⟩
 | add_ x1 x2 x3 hx1 hx2 hx3 =>
  have e0 : it.word = ⟨#[97,100,100]⟩:=ew
  rw [zrx] at ea eb ec en
  rw [e0,zn6,ea,eb,ec,znu L j ⟨105,[⟨#[97,100,100]⟩,x1,x2,x3],ok⟩ x1 x2 x3 rfl]
  have r1:=(zam x1 hx1).1
  have r2:=(zam x2 hx2).1
  have r3:=(zam x3 hx3).1
  simp only [zaq x1,zaq x2,zaq x3]
  exact ⟨rfl,⟨by decide,r1,r2,r3⟩,trivial,.inl (by kernel_rfl)⟩
 | sub_ x1 x2 x3 hx1 hx2 hx3 =>
  have e0 : it.word = ⟨#[115,117,98]⟩:=ew
  rw [zry] at ea eb ec en
  rw [e0,zn7,ea,eb,ec,znv L j ⟨105,[⟨#[115,117,98]⟩,x1,x2,x3],ok⟩ x1 x2 x3 rfl]
  have r1:=(zam x1 hx1).1
  have r2:=(zam x2 hx2).1
  have r3:=(zam x3 hx3).1
  simp only [zaq x1,zaq x2,zaq x3]
  exact ⟨rfl,⟨by decide,r1,r2,r3⟩,trivial,.inl (by kernel_rfl)⟩
 | mul_ x1 x2 x3 hx1 hx2 hx3 =>
  have e0 : it.word = ⟨#[109,117,108]⟩:=ew
  rw [zrz] at ea eb ec en
  rw [e0,zn8,ea,eb,ec,znw L j ⟨105,[⟨#[109,117,108]⟩,x1,x2,x3],ok⟩ x1 x2 x3 rfl]
  have r1:=(zam x1 hx1).1
  have r2:=(zam x2 hx2).1
  have r3:=(zam x3 hx3).1
  simp only [zaq x1,zaq x2,zaq x3]
  exact ⟨rfl,⟨by decide,r1,r2,r3⟩,trivial,.inl (by kernel_rfl)⟩
 | read_ x1 hx1 =>
  have e0 : it.word = ⟨#[114,101,97,100]⟩:=ew
  rw [znA] at ea eb ec en
  rw [e0,zkO,ea,zkH L j ⟨105,[⟨#[114,101,97,100]⟩,x1],ok⟩ x1 rfl]
  have r1:=(zam x1 hx1).1
  simp only [zaq x1]
  exact ⟨rfl,r1,trivial,.inl (by kernel_rfl)⟩
 | write_ x1 hx1 =>
  have e0 : it.word = ⟨#[119,114,105,116,101]⟩:=ew
  rw [zkV] at ea eb ec en
  rw [e0,ziG,ea,ziA L j ⟨105,[⟨#[119,114,105,116,101]⟩,x1],ok⟩ x1 rfl]
  have r1:=(zam x1 hx1).1
  simp only [zaq x1]
  exact ⟨rfl,r1,trivial,.inl (by kernel_rfl)⟩
 | jump_ x1 hx1 =>
  have e0 : it.word = ⟨#[106,117,109,112]⟩:=ew
  rw [ziH] at em
  rw [e0,zkP,em,zkA L j ⟨105,[⟨#[106,117,109,112]⟩,x1],ok⟩ x1 rfl]
  obtain ⟨g1,g2⟩:=hlab (by kernel_rfl)
  have g1' : f (labM F k x1) = zeI L j x1:=g1
  exact ⟨by simp only [zmp]; rw [g1'],trivial,g2,.inr trivial⟩
 | call_ x1 hx1 =>
  have e0 : it.word = ⟨#[99,97,108,108]⟩:=ew
  rw [ziI] at em
  rw [e0,zkQ,em,zkD L j ⟨105,[⟨#[99,97,108,108]⟩,x1],ok⟩ x1 rfl]
  obtain ⟨g1,g2⟩:=hfn (by kernel_rfl)
  have g1' : f (fnM F x1) = fnTo L x1:=g1
  exact ⟨by simp only [zmp]; rw [g1'],trivial,g2,.inl (by kernel_rfl)⟩
 | less_ x1 x2 x3 hx1 hx2 hx3 =>
  have e0 : it.word = ⟨#[108,101,115,115]⟩:=ew
  rw [znB] at ea eb ec en
  rw [ziJ] at em
  rw [e0,zkR,ea,eb,em,zkB L j ⟨105,[⟨#[108,101,115,115]⟩,x1,x2,x3],ok⟩ x1 x2 x3 rfl]
  have r1:=(zam x1 hx1).1
  have r2:=(zam x2 hx2).1
  simp only [zaq x1,zaq x2]
  obtain ⟨g1,g2⟩:=hlab (by kernel_rfl)
  have g1' : f (labM F k x3) = zeI L j x3:=g1
  exact ⟨by simp only [zmp]; rw [g1'],⟨r1,r2⟩,g2,.inl (by kernel_rfl)⟩
 | same_ x1 x2 x3 hx1 hx2 hx3 =>
  have e0 : it.word = ⟨#[115,97,109,101]⟩:=ew
  rw [znC] at ea eb ec en
  rw [ziK] at em
  rw [e0,zkS,ea,eb,em,zkC L j ⟨105,[⟨#[115,97,109,101]⟩,x1,x2,x3],ok⟩ x1 x2 x3 rfl]
  have r1:=(zam x1 hx1).1
  have r2:=(zam x2 hx2).1
  simp only [zaq x1,zaq x2]
  obtain ⟨g1,g2⟩:=hlab (by kernel_rfl)
  have g1' : f (labM F k x3) = zeI L j x3:=g1
  exact ⟨by simp only [zmp]; rw [g1'],⟨r1,r2⟩,g2,.inl (by kernel_rfl)⟩
 | back_  =>
  have e0 : it.word = ⟨#[98,97,99,107]⟩:=ew
  rw [e0,zhx,zkE L j ⟨105,[⟨#[98,97,99,107]⟩],ok⟩  rfl]
  exact ⟨rfl,trivial,trivial,.inr trivial⟩
 | stop_  =>
  have e0 : it.word = ⟨#[115,116,111,112]⟩:=ew
  rw [e0,zkT,zkF L j ⟨105,[⟨#[115,116,111,112]⟩],ok⟩  rfl]
  exact ⟨rfl,trivial,trivial,.inr trivial⟩
end Go.Proofs.YtfpgjkbjbbgciaaGreatDoor
namespace Go.Proofs.YtfpgjkbjbbgciaaGreatDoor
open Sp
def zeC (F : List FnM) (k : Nat) (l : List It) : List (Ins × Int):=l.map (fun i => (insM F k i,i.line))
def zc6 (F : List FnM) : Nat → List FnM → List (Ins × Int)
 | _,[] => []
 | k,f :: r => zeC F k (zaj f.its) ++ zc6 F (k + 1) r
def zbB (F : List FnM) : List (Ins × Int):=zc6 F 0 F
theorem zkX (F : List FnM) (k : Nat) (R : List FnM) : (zc6 F k R).length = lenF R:=by
 induction R generalizing k with
 | nil => rfl
 | cons f R ih => rw [zes,zc6,List.length_append,ih]; simp [zeC]
theorem zgc (F : List FnM) : (zbB F).length = lenF F:=zkX F 0 F
theorem zj8 (F : List FnM) (n : Nat) (R : List FnM) (k : Nat) (f : FnM) (hk : R[k]? = some f) (m : Nat) (it : It) (hm : (zaj f.its)[m]? = some it) :
  (zc6 F n R)[lenF (R.take k) + m]? = some (insM F (n + k) it,it.line):=by
 induction R generalizing n k with
 | nil => simp at hk
 | cons g R ih =>
  have hl : (zeC F n (zaj g.its)).length = (zaj g.its).length:=by simp [zeC]
  cases k with
  | zero =>
   have e : g = f:=by simpa using hk
   subst e
   have hlt : m < (zaj g.its).length:=(List.getElem?_eq_some_iff.1 hm).1
   rw [zc6,List.take_zero,show lenF [] + m = m by simp [lenF],List.getElem?_append_left (by omega)]
   unfold zeC
   rw [List.getElem?_map,hm]
   rfl
  | succ k =>
   rw [List.getElem?_cons_succ] at hk
   rw [zc6,List.take_succ_cons,zes,List.getElem?_append_right (by omega),hl]
   rw [show (zaj g.its).length + lenF (R.take k) + m - (zaj g.its).length = lenF (R.take k) + m by omega,ih (n + 1) k hk]
   rw [show n + 1 + k = n + (k + 1) by omega]
theorem zr0 (R : List FnM) (p : Nat) (hp : p < lenF R) : ∃ k f m it,R[k]? = some f ∧ (zaj f.its)[m]? = some it ∧ p = lenF (R.take k) + m:=by
 induction R generalizing p with
 | nil => simp [lenF] at hp
 | cons g R ih =>
  rw [zes] at hp
  by_cases h : p < (zaj g.its).length
  ·exact ⟨0,g,p,(zaj g.its)[p],rfl,List.getElem?_eq_getElem h,by simp [lenF]⟩
  ·obtain ⟨k,f,m,it,a,b,c⟩:=ih (p - (zaj g.its).length) (by omega)
   exact ⟨k + 1,f,m,it,by rw [List.getElem?_cons_succ]; exact a,b,by rw [List.take_succ_cons,zes]; omega⟩
structure Right (L : List Said) (F : List FnM) : Prop where
 good : Good L
 first : zan L 0 = []
 fns : F.map FnM.fn = zaM L 0
 some_ : 0 < F.length
def zvC (C : List (Ins × Int)) (z : Int) : Int:=(C[z.toNat]?.map (·.2)).getD 0 - 1
theorem zwG {C : List (Ins × Int)} {p : Nat} {q : Ins × Int} (h : C[p]? = some q) : zvC C (p : Int) = q.2 - 1:=by
 unfold zvC; rw [Int.toNat_natCast,h]; rfl
theorem ztM (L : List Said) (o d : Nat) (ho : o < L.length) (h1 : L[o].kind = 102) (hd : o + d < L.length) (hno : NoFn L (o + 1) (o + d)) : zbW L (o + d) = (o : Int):=by
 induction d with
 | zero => exact zfq L o ho h1
 | succ d ih =>
  rw [show o + (d + 1) = o + d + 1 by omega,zd6 L (o + d) hd (hno _ hd (by omega) (Nat.le_refl _))]
  exact ih (by omega) (fun m hm a b => hno m hm a (by omega))
theorem zwH (L : List Said) {o j : Nat} (ho : o < L.length) (h1 : L[o].kind = 102) (hoj : o ≤ j) (hj : j < L.length) (hno : NoFn L (o + 1) j) (x : ByteArray) : zbM L j x = zaR L x (o + 1):=by
 obtain ⟨d,rfl⟩:=Nat.exists_eq_add_of_le hoj
 unfold zbM
 rw [ztM L o d ho h1 hj hno]
 congr 1
theorem zwI {i : Ins} (h : Ends i) (h1 : ∀ to,i ≠ .jump to) (h2 : i ≠ .back) (h3 : i ≠ .stop) : False:=by
 cases i <;> first | exact absurd rfl (h1 _) | exact h2 rfl | exact h3 rfl | exact h
namespace Right
variable {L : List Said} {F : List FnM}
theorem wf (R : Right L F) : WfAll L:=fun q hq => by
 obtain ⟨k,hk,rfl⟩:=List.mem_iff_getElem.1 hq
 exact R.good.wf k hk
theorem fn_at (R : Right L F) {k : Nat} {f : FnM} (hk : F[k]? = some f) : ∃ o,∃ ho : o < L.length,L[o].kind = 102 ∧ f.line = (o : Int) + 1 ∧ f.its.map It.key = zan L (o + 1) ∧ cnt L (o + 1) = lenF (F.take k):=by
 obtain ⟨o,ho,_,b,c,d,e⟩:=zrt L R.wf 0 [] (by rw [R.first]; rfl) F R.fns k f hk
 refine ⟨o,ho,b,c,d,?_⟩
 rw [zeL L o ho (by omega),e]; simp [cnt,zaj]
theorem place (R : Right L F) {k o : Nat} {f : FnM} (hk : F[k]? = some f) (hb : f.its.map It.key = zan L (o + 1)) (hc : cnt L (o + 1) = lenF (F.take k)) {j : Nat} (hj : j < L.length) (hoj : o + 1 ≤ j) (h5 : L[j].kind = 105) (hno : NoFn L (o + 1) j) :
  ∃ it,(zbB F)[cnt L j]? = some (insM F k it,it.line) ∧ it.key = keyQ L[j] ((j : Int) + 1):=by
 obtain ⟨it,a,b⟩:=zkL L R.wf (o + 1) f.its hb j hj hoj h5 hno
 refine ⟨it,?_,b⟩
 have:=zj8 F 0 F k f hk _ it a
 rw [← hc,Nat.zero_add] at this
 have hle:=zuK L hoj
 rw [show cnt L (o + 1) + (cnt L j - cnt L (o + 1)) = cnt L j by omega] at this
 exact this
theorem next (R : Right L F) {k o : Nat} {f : FnM} (hk : F[k]? = some f) (hb : f.its.map It.key = zan L (o + 1)) (hc : cnt L (o + 1) = lenF (F.take k)) {i : Nat} (hoi : o + 1 ≤ i) (hno : NoFn L (o + 1) (i - 1)) (hn : zdd L (zac L i)) :
  cnt L i < (zbB F).length ∧ zvC (zbB F) (cnt L i : Int) = zac L i:=by
 obtain ⟨j,hn,_,_⟩:=hn
 obtain ⟨hj,hij,h5,hcj,hnf⟩:=ztL L i j hn
 obtain ⟨it,ha,hkey⟩:=R.place hk hb hc hj (by omega) h5 (hno.trans hnf (by omega))
 rw [hcj] at ha
 refine ⟨(List.getElem?_eq_some_iff.1 ha).1,?_⟩
 rw [zwG ha,hn]
 have : it.line = (j : Int) + 1:=congrArg Key.line hkey
 show it.line - 1 = _
 omega
theorem label (R : Right L F) {k o : Nat} {f : FnM} (hk : F[k]? = some f) (hb : f.its.map It.key = zan L (o + 1)) (hc : cnt L (o + 1) = lenF (F.take k)) {x : ByteArray} (hx : 0 ≤ zaR L x (o + 1)) :
  ∃ p : Nat,zce (zcD f.its) x = some p ∧ labM F k x = ((lenF (F.take k) + p : Nat) : Int) ∧ lenF (F.take k) + p < (zbB F).length ∧ zvC (zbB F) (labM F k x) = zac L (zaR L x (o + 1)).toNat:=by
 obtain ⟨j,hj0⟩:=Int.eq_ofNat_of_zero_le hx
 obtain ⟨a,hj,hoj,h8,hno⟩:=zj7 L R.wf x (o + 1) f.its hb 0 j hj0
 rw [Nat.zero_add] at a
 have hle:=zuK L hoj
 have hl : labM F k x = ((lenF (F.take k) + (cnt L j - cnt L (o + 1)) : Nat) : Int):=by
  unfold labM
  rw [hk]
  show (lenF (F.take k) : Int) + (((zce (zcD f.its) x).getD 0 : Nat) : Int) = _
  rw [a]; simp
 have hp : lenF (F.take k) + (cnt L j - cnt L (o + 1)) = cnt L j:=by omega
 obtain ⟨q1,q2⟩:=R.next hk hb hc hoj (fun m hm a b => hno m hm a (by omega)) (R.good.lab j hj h8)
 refine ⟨_,a,hl,by rw [hp]; exact q1,?_⟩
 rw [hl,hp,q2,hj0]
 rfl
theorem function (R : Right L F) {x : ByteArray} (hx : 0 ≤ zaE L x 0) :
  ∃ k,∃ _ : k < F.length,zce (zbs F) x = some k ∧ fnM F x = (lenF (F.take k) : Int) ∧ lenF (F.take k) < (zbB F).length ∧ zvC (zbB F) (fnM F x) = fnTo L x:=by
 obtain ⟨o,ho0⟩:=Int.eq_ofNat_of_zero_le hx
 obtain ⟨k,f,hk,hfind,hline⟩:=zn2 L x 0 F R.fns 0 o ho0
 rw [Nat.zero_add] at hfind
 obtain ⟨o',ho,h1,hl',hb,hc⟩:=R.fn_at hk
 have e : o' = o:=by omega
 subst e
 have hm : fnM F x = (lenF (F.take k) : Int):=by unfold fnM; rw [hfind]; rfl
 obtain ⟨q1,q2⟩:=R.next hk hb hc (Nat.le_refl _) (fun m hm a b => by omega) (R.good.fn o' ho h1)
 refine ⟨k,(List.getElem?_eq_some_iff.1 hk).1,hfind,hm,by rw [← hc]; exact q1,?_⟩
 rw [hm,← hc,q2]
 unfold fnTo
 rw [ho0]
 congr 1
theorem asks_l (R : Right L F) {j : Nat} (hj : j < L.length) (h5 : L[j].kind = 105) (ha : zaF (L[j].word 0) = true) : 0 ≤ zbM L j L[j].last:=by
 have:=R.good.miss j hj
 unfold zaD at this
 rw [List.getElem?_eq_getElem hj] at this
 simp only [h5,if_true,ha] at this
 simpa using this
theorem asks_f (R : Right L F) {j : Nat} (hj : j < L.length) (h5 : L[j].kind = 105) (ha : zcs (L[j].word 0) = true) : 0 ≤ zaE L L[j].last 0:=by
 have:=R.good.miss j hj
 have hl : zaF (L[j].word 0) = false:=by
  cases h : zaF (L[j].word 0) with
  | false => rfl
  | true => rw [zks _ h] at ha; cases ha
 unfold zaD at this
 rw [List.getElem?_eq_getElem hj] at this
 simp only [h5,if_true,ha,hl] at this
 simpa using this
theorem it_at (R : Right L F) {k m : Nat} {f : FnM} {it : It} (hk : F[k]? = some f) (hm : (zaj f.its)[m]? = some it) :
  ∃ j,∃ hj : j < L.length,L[j].kind = 105 ∧ it.key = keyQ L[j] ((j : Int) + 1) ∧ lenF (F.take k) + m = cnt L j ∧
   (zaF (L[j].word 0) = true → ∃ p : Nat,zce (zcD f.its) L[j].last = some p ∧ labM F k L[j].last = ((lenF (F.take k) + p : Nat) : Int) ∧ lenF (F.take k) + p < (zbB F).length ∧ zvC (zbB F) (labM F k L[j].last) = zeI L j L[j].last) ∧
   (zcs (L[j].word 0) = true → ∃ k2,∃ _ : k2 < F.length,zce (zbs F) L[j].last = some k2 ∧ fnM F L[j].last = (lenF (F.take k2) : Int) ∧ lenF (F.take k2) < (zbB F).length ∧ zvC (zbB F) (fnM F L[j].last) = fnTo L L[j].last) ∧
   (ends (L[j].word 0) = false → cnt L j + 1 < (zbB F).length ∧ zvC (zbB F) ((cnt L j + 1 : Nat) : Int) = zac L (j + 1)):=by
 obtain ⟨o,ho,h1,_,hb,hc⟩:=R.fn_at hk
 obtain ⟨j,hj,hoj,h5,hkey,hcj,hno⟩:=zj6 L R.wf (o + 1) f.its hb m it hm
 refine ⟨j,hj,h5,hkey,by omega,fun ha => ?_,fun ha => R.function (R.asks_f hj h5 ha),fun he => ?_⟩
 ·have h0:=R.asks_l hj h5 ha
  have e:=zwH L ho h1 (by omega) hj hno L[j].last
  rw [e] at h0
  obtain ⟨p,a,b,c,d⟩:=R.label hk hb hc h0
  exact ⟨p,a,b,c,by rw [d]; unfold zeI; rw [e]⟩
 ·have hv:=R.good.next j hj h5 he
  obtain ⟨q1,q2⟩:=R.next hk hb hc (show o + 1 ≤ j + 1 by omega) (by simpa using hno) hv
  rw [zj4 L j hj h5] at q1 q2
  exact ⟨q1,q2⟩
theorem at_ (R : Right L F) {p : Nat} (hp : p < (zbB F).length) :
  ∃ k it j,∃ hj : j < L.length,(zbB F)[p]? = some (insM F k it,it.line) ∧ it.line = (j : Int) + 1 ∧ insQ L j L[j] = zmp (zvC (zbB F)) (insM F k it) ∧ zkJ (insM F k it) ∧ Goes (zbB F).length (insM F k it) ∧
   (Ends (insM F k it) ∨ (p + 1 < (zbB F).length ∧ zac L (j + 1) = zvC (zbB F) ((p : Int) + 1))):=by
 rw [zgc] at hp
 obtain ⟨k,f,m,it,hk,hm,e⟩:=zr0 F p hp
 have hput:=zj8 F 0 F k f hk m it hm
 rw [Nat.zero_add,← e] at hput
 obtain ⟨j,hj,h5,hkey,hpl,hlab,hfn,hnx⟩:=R.it_at hk hm
 obtain ⟨q1,q2,q3,q4⟩:=zwF L[j] h5 (R.good.form j hj h5) it _ hkey F k L j (zbB F).length (zvC (zbB F))
  (fun ha => by obtain ⟨p',_,b,c,d⟩:=hlab ha; exact ⟨d,_,b,c⟩) (fun ha => by obtain ⟨k2,_,_,b,c,d⟩:=hfn ha; exact ⟨d,_,b,c⟩)
 refine ⟨k,it,j,hj,hput,congrArg Key.line hkey,q1,q2,q3,?_⟩
 rcases q4 with q4 | q4
 ·obtain ⟨a,b⟩:=hnx q4
  have hp' : p = cnt L j:=by omega
  exact .inr ⟨by omega,by rw [← b,hp']; rfl⟩
 ·exact .inl q4
theorem sim (R : Right L F) : SimOk L (zbB F) (zvC (zbB F)):=⟨fun p hp => by
 obtain ⟨k,it,j,hj,hput,hl,hq,_,_,hn⟩:=R.at_ hp
 have e : (zbB F)[p] = (insM F k it,it.line):=(List.getElem?_eq_some_iff.1 hput).2
 refine ⟨j,by rw [zwG hput]; show it.line - 1 = _; omega,hj,by rw [e]; exact hq,by rw [e]; exact hl,?_⟩
 rw [e]
 intro _ _ h1 h2 h3
 rcases hn with hn | hn
 ·exact (zwI hn h1 h2 h3).elim
 ·exact hn.2⟩
theorem codeOk (R : Right L F) : CodeOk (zbB F):=by
 refine ⟨?_,?_,fun p hp => ?_,fun p hp => ?_⟩
 ·obtain ⟨f,hf⟩ : ∃ f,F[0]? = some f:=⟨F[0]'R.some_,List.getElem?_eq_getElem R.some_⟩
  obtain ⟨o,ho,h1,_,hb,hc⟩:=R.fn_at hf
  exact Nat.lt_of_le_of_lt (Nat.zero_le _) (R.next hf hb hc (Nat.le_refl _) (fun m hm a b => by omega) (R.good.fn o ho h1)).1
 ·by_cases h : 0 < (zbB F).length
  ·obtain ⟨k,f,m,it,hk,hm,e⟩:=zr0 F ((zbB F).length - 1) (by rw [← zgc]; omega)
   obtain ⟨j,hj,_,_,hpl,_⟩:=R.it_at hk hm
   have:=zwQ L j
   have:=R.good.few
   omega
  ·omega
 ·obtain ⟨k,it,j,hj,hput,hl,hq,h4,_⟩:=R.at_ hp
  have e : (zbB F)[p] = (insM F k it,it.line):=(List.getElem?_eq_some_iff.1 hput).2
  rw [e]; exact h4
 ·obtain ⟨k,it,j,hj,hput,hl,hq,h4,h5,hn⟩:=R.at_ hp
  have e : (zbB F)[p] = (insM F k it,it.line):=(List.getElem?_eq_some_iff.1 hput).2
  rw [e]
  show ztI _ _ (insM F k it)
  revert hn h5
  generalize insM F k it = i
  intro h5 hn
  cases i <;> first | trivial | exact h5 | (rcases hn with hn | hn; exact False.elim hn; first | exact hn.1 | exact ⟨h5,hn.1⟩)
end Right
theorem znD (L : List Said) (i : Nat) (f : Fn) (r : List Fn) (h : zaM L i = f :: r) : f.line = (zcp L i : Int) + 1:=by
 by_cases hi : i < L.length
 ·by_cases h1 : L[i].kind = 102
  ·rw [zbT L i hi h1] at h
   rw [zcp,dif_pos hi,if_pos h1]
   injection h with h _
   rw [← h]
  ·rw [zbE L i hi h1] at h
   rw [zcp,dif_pos hi,if_neg h1]
   exact znD L (i + 1) f r h
 ·rw [zcK L i hi] at h; cases h
termination_by L.length - i
theorem Right.begin {L : List Said} {F : List FnM} (R : Right L F) (inp : List Int) : zdB L inp = lift (zvC (zbB F)) (zcw inp):=by
 obtain ⟨f,hf⟩ : ∃ f,F[0]? = some f:=⟨F[0]'R.some_,List.getElem?_eq_getElem R.some_⟩
 obtain ⟨o,ho,h1,hl,hb,hc⟩:=R.fn_at hf
 obtain ⟨q1,q2⟩:=R.next hf hb hc (Nat.le_refl _) (fun m hm a b => by omega) (R.good.fn o ho h1)
 have hfn:=R.fns
 cases F with
 | nil => simp at hf
 | cons g r =>
  have e : g = f:=by simpa using hf
  subst e
  have h2:=znD L 0 g.fn (r.map FnM.fn) (by rw [← hfn]; rfl)
  have h3 : zcp L 0 = o:=by
   have : g.fn.line = g.line:=rfl
   omega
  rw [hc] at q2
  unfold zdB
  rw [h3,← q2]
  rfl
end Go.Proofs.YtfpgjkbjbbgciaaGreatDoor
