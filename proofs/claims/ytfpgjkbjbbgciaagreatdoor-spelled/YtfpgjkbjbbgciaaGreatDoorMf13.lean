import Derived.Test.YtfpgjkbjbbgciaaGreatDoorMf11
set_option maxRecDepth 100000
set_option maxHeartbeats 8000000
namespace Go.Proofs.YtfpgjkbjbbgciaaGreatDoor
open Sp
structure Fn where
 name : ByteArray
 line : Int
 body : List Key
def labsOf (b : List Key) : List ByteArray:=(b.filter (fun k => decide (k.sort = 1))).map Key.nm
def addK (F : List Fn) (k : Key) : List Fn :=
 if k.sort = 0 then F ++ [⟨k.nm,k.line,[]⟩]
 else match F.getLast? with
  | none => F
  | some f => F.dropLast ++ [⟨f.name,f.line,f.body ++ [k]⟩]
theorem zbB (F : List Fn) (k : Key) (h : k.sort = 0) : addK F k = F ++ [⟨k.nm,k.line,[]⟩]:=by simp [addK,h]
theorem zep (F : List Fn) (f : Fn) (k : Key) (h : ¬ k.sort = 0) : addK (F ++ [f]) k = F ++ [⟨f.name,f.line,f.body ++ [k]⟩]:=by simp [addK,h]
def bad0 (F : List Fn) (k : Key) : Bool :=
 if k.sort = 0 then (F.map Fn.name).any (fun y => eqW y k.nm)
 else if k.sort = 1 then (match F.getLast? with | none => false | some f => (labsOf f.body).any (fun y => eqW y k.nm)) else false
def zah (L : List Said) (i : Nat) : List Key :=
 if h : i < L.length then (if L[i].kind = 102 then [] else if L[i].kind = 0 then zah L (i + 1) else keyQ L[i] ((i : Int) + 1) :: zah L (i + 1)) else []
termination_by L.length - i
def za3 (L : List Said) (i : Nat) : List Fn :=
 if h : i < L.length then (if L[i].kind = 102 then ⟨L[i].word 1,(i : Int) + 1,zah L (i + 1)⟩ :: za3 L (i + 1) else za3 L (i + 1)) else []
termination_by L.length - i
def zaC (L : List Said) (i : Nat) : List Key :=
 if h : i < L.length then (if L[i].kind = 0 then zaC L (i + 1) else keyQ L[i] ((i : Int) + 1) :: zaC L (i + 1)) else []
termination_by L.length - i
theorem zbC (L : List Said) (i : Nat) (h : ¬ i < L.length) : zah L i = []:=by rw [zah,dif_neg h]
theorem zbK (L : List Said) (i : Nat) (h : i < L.length) (h1 : L[i].kind = 102) : zah L i = []:=by rw [zah,dif_pos h,if_pos h1]
theorem zbw (L : List Said) (i : Nat) (h : i < L.length) (h0 : L[i].kind = 0) : zah L i = zah L (i + 1):=by rw [zah,dif_pos h,if_neg (by omega),if_pos h0]
theorem zaX (L : List Said) (i : Nat) (h : i < L.length) (h0 : ¬ L[i].kind = 0) (h1 : ¬ L[i].kind = 102) : zah L i = keyQ L[i] ((i : Int) + 1) :: zah L (i + 1):=by rw [zah,dif_pos h,if_neg h1,if_neg h0]
theorem zbL (L : List Said) (i : Nat) (h : ¬ i < L.length) : za3 L i = []:=by rw [za3,dif_neg h]
theorem zbn (L : List Said) (i : Nat) (h : i < L.length) (h1 : L[i].kind = 102) : za3 L i = ⟨L[i].word 1,(i : Int) + 1,zah L (i + 1)⟩ :: za3 L (i + 1):=by rw [za3,dif_pos h,if_pos h1]
theorem zbh (L : List Said) (i : Nat) (h : i < L.length) (h1 : ¬ L[i].kind = 102) : za3 L i = za3 L (i + 1):=by rw [za3,dif_pos h,if_neg h1]
theorem zbS (L : List Said) (i : Nat) (h : ¬ i < L.length) : zaC L i = []:=by rw [zaC,dif_neg h]
theorem zce (L : List Said) (i : Nat) (h : i < L.length) (h0 : L[i].kind = 0) : zaC L i = zaC L (i + 1):=by rw [zaC,dif_pos h,if_pos h0]
theorem zaP (L : List Said) (i : Nat) (h : i < L.length) (h0 : ¬ L[i].kind = 0) : zaC L i = keyQ L[i] ((i : Int) + 1) :: zaC L (i + 1):=by rw [zaC,dif_pos h,if_neg h0]
theorem zcV (q : Said) (h : q.kind = 102) : zdR q = 0:=by simp [zdR,h]
theorem zdU (q : Said) (h : q.kind = 108) : zdR q = 1:=by simp [zdR,h]
theorem zcW (q : Said) (h1 : ¬ q.kind = 102) (h2 : ¬ q.kind = 108) : zdR q = 2:=by simp [zdR,h1,h2]
theorem zdV (q : Said) (h1 : ¬ q.kind = 102) : ¬ zdR q = 0:=by unfold zdR; rw [if_neg h1]; split <;> decide
theorem zeF (q : Said) (h : q.kind = 102) : zc0 q = q.word 1:=by simp [zc0,h]
theorem zhn (q : Said) (h : q.kind = 108) : zc0 q = q.word 0:=by simp [zc0,h]
theorem zeq (L : List Said) (i : Nat) (F : List Fn) (f : Fn) : (zaC L i).foldl addK (F ++ [f]) = F ++ (⟨f.name,f.line,f.body ++ zah L i⟩ :: za3 L i):=by
 by_cases h : i < L.length
 ·by_cases h0 : L[i].kind = 0
  ·rw [zce L i h h0,zbw L i h h0,zbh L i h (by omega)]
   exact zeq L (i + 1) F f
  ·rw [zaP L i h h0,List.foldl_cons]
   by_cases h1 : L[i].kind = 102
   ·rw [zbB _ _ (zcV _ h1),zeq L (i + 1) (F ++ [f]) _,zbK L i h h1,zbn L i h h1]
    simp [keyQ,zeF _ h1]
   ·rw [zep _ _ _ (zdV _ h1),zeq L (i + 1) F _,zaX L i h h0 h1,zbh L i h h1]
    simp
 ·rw [zbS L i h,zbC L i h,zbL L i h]
  simp
termination_by L.length - i
theorem zfX (A : List ByteArray) (i : Nat) : za8 A A.length = za8 A (min i A.length) ++ zaC (A.map say) i:=by
 by_cases h : i < A.length
 ·have hL : i < (A.map say).length:=by simpa using h
  have hg : (A.map say)[i] = say A[i]:=by simp
  rw [zfX A (i + 1),Nat.min_eq_left (show i + 1 ≤ A.length from h),Nat.min_eq_left (Nat.le_of_lt h)]
  by_cases h0 : (say A[i]).kind = 0
  ·rw [zfU A i h h0,zce _ i hL (by rw [hg]; exact h0)]
  ·rw [zgG A i h h0,zaP _ i hL (by rw [hg]; exact h0),hg]
   simp
 ·rw [zbS _ i (by simpa using h),Nat.min_eq_right (by omega)]
  simp
termination_by A.length - i
theorem zho (A : List ByteArray) : za8 A A.length = zaC (A.map say) 0:=by
 rw [zfX A 0]; simp [za8]
theorem zer (L : List Said) (i : Nat) (x : ByteArray) : (labsOf (zah L i)).any (fun y => eqW y x) = decide (0 ≤ zaI L x i):=by
 by_cases h : i < L.length
 ·by_cases h1 : L[i].kind = 102
  ·rw [zbK L i h h1,zf7 L x i h h1]; rfl
  ·by_cases h0 : L[i].kind = 0
   ·rw [zbw L i h h0,zb7 L x i h h1 (by simp [zbU,h0])]
    exact zer L (i + 1) x
   ·rw [zaX L i h h0 h1]
    by_cases h2 : L[i].kind = 108
    ·have e : labsOf (keyQ L[i] ((i : Int) + 1) :: zah L (i + 1)) = L[i].word 0 :: labsOf (zah L (i + 1)):=by
      simp [labsOf,keyQ,zdU _ h2,zhn _ h2]
     rw [e,List.any_cons]
     by_cases h3 : eqW (L[i].word 0) x = true
     ·rw [zcj L x i h h1 (by simp [zbU,h2,h3]),h3]
      simp
     ·rw [zb7 L x i h h1 (by simp [zbU,h3]),zer L (i + 1) x]
      simp [h3]
    ·have e : labsOf (keyQ L[i] ((i : Int) + 1) :: zah L (i + 1)) = labsOf (zah L (i + 1)):=by
      simp [labsOf,keyQ,zcW _ h1 h2]
     rw [e,zb7 L x i h h1 (by simp [zbU,h2])]
     exact zer L (i + 1) x
 ·rw [zbC L i h,zdI L x i h]; rfl
termination_by L.length - i
theorem zjy (L : List Said) (i : Nat) (x : ByteArray) : ((za3 L i).map Fn.name).any (fun y => eqW y x) = decide (0 ≤ zba L x i):=by
 by_cases h : i < L.length
 ·by_cases h1 : L[i].kind = 102
  ·rw [zbn L i h h1,List.map_cons,List.any_cons]
   by_cases h3 : eqW (L[i].word 1) x = true
   ·rw [zc4 L x i h (by simp [isFn,h1,h3])]
    simp [h3]
   ·rw [zci L x i h (by simp [isFn,h3]),zjy L (i + 1) x]
    simp [h3]
  ·rw [zbh L i h h1,zci L x i h (by simp [isFn,h1])]
   exact zjy L (i + 1) x
 ·rw [zbL L i h,ze6 L x i h]; rfl
termination_by L.length - i
def zlw (b : List Key) : Bool:=match b.getLast? with | none => false | some k => ends k.word
theorem zne : ends ⟨#[]⟩ = false:=by simp [ends,isW,ByteArray.toList_eq]
def WfAll (L : List Said) : Prop:=∀ q ∈ L,Wf q
theorem WfAll.at {L : List Said} (hw : WfAll L) (i : Nat) (h : i < L.length) : Wf L[i]:=hw _ (List.getElem_mem h)
theorem znf (L : List Said) (hw : WfAll L) (i : Nat) (e : Bool) : zed L i e = (match (zah L i).getLast? with | none => e | some k => ends k.word):=by
 by_cases h : i < L.length
 ·by_cases h1 : L[i].kind = 102
  ·rw [zbK L i h h1,ziZ L i e h h1]; rfl
  ·rw [zdn L i e h h1,znf L hw (i + 1)]
   by_cases h0 : L[i].kind = 0
   ·rw [zbw L i h h0]
    simp [h0]
   ·rw [zaX L i h h0 h1,List.getLast?_cons]
    cases hb : (zah L (i + 1)).getLast? with
    | some k => rfl
    | none =>
     by_cases h2 : L[i].kind = 108
     ·simp [h2,keyQ,zdS,zne]
     ·have h5 : L[i].kind = 105:=by
       have:=hw.at i h
       unfold Wf at this; omega
      simp [h5,keyQ,zdS]
 ·rw [zbC L i h,zf8 L i e h]; rfl
termination_by L.length - i
end Go.Proofs.YtfpgjkbjbbgciaaGreatDoor
