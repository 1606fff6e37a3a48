import Derived.Test.YtfpgjkbjbbgciaaGreatDoorMe08
set_option maxRecDepth 100000
set_option maxHeartbeats 8000000
namespace Go.Proofs.YtfpgjkbjbbgciaaGreatDoor
open Go.RowKit Sp Go.WideMaps Go.Maps
theorem Tryz.under81 : Tryz.prog.underlying 81 = some (.map 9 3):=by kernel_rfl
theorem lawS : Keyed Tryz.prog 9:=string_keyed Tryz.underlying9
theorem zq0 (w : World) : (zeroValue 3).run Tryz.prog w = .ok (.int .i64 0) w:=by kernel_rfl
theorem keyS (x : ByteArray) (h : x.size ≤ maxLen) : keyOf Tryz.prog 9 (.string x) = some (.string x.data.toList):=keyOf_string_mk Tryz.underlying9 h
def zbC : List (ByteArray × Nat) → ByteArray → Option Nat
 | [],_ => none
 | p :: r,x => if eqW p.1 x = true then some p.2 else zbC r x
abbrev zby (E : List (ByteArray × Nat)) : List ByteArray:=E.map Prod.fst
theorem zol (E : List (ByteArray × Nat)) (x : ByteArray) (h : (zby E).any (fun y => eqW y x) = false) : zbC E x = none:=by
 induction E with
 | nil => rfl
 | cons p r ih =>
  simp only [zby,List.map_cons,List.any_cons,Bool.or_eq_false_iff] at h
  unfold zbC
  rw [if_neg (by rw [h.1]; simp)]
  exact ih h.2
theorem zjX (E G : List (ByteArray × Nat)) (x : ByteArray) : zbC (E ++ G) x = match zbC E x with | some p => some p | none => zbC G x:=by
 induction E with
 | nil => rfl
 | cons p r ih =>
  show (if eqW p.1 x = true then some p.2 else zbC (r ++ G) x) = match (if eqW p.1 x = true then some p.2 else zbC r x) with | some p => some p | none => zbC G x
  split
  ·rfl
  ·exact ih
theorem zom (E : List (ByteArray × Nat)) (x : ByteArray) (h : (zby E).any (fun y => eqW y x) = true) : ∃ p,zbC E x = some p:=by
 induction E with
 | nil => simp at h
 | cons p r ih =>
  simp only [zby,List.map_cons,List.any_cons,Bool.or_eq_true] at h
  unfold zbC
  by_cases e : eqW p.1 x = true
  ·exact ⟨_,if_pos e⟩
  ·rw [if_neg e]
   rcases h with h | h
   ·exact absurd h e
   ·exact ih h
def MapIs (w : World) (b : Nat) (E : List (ByteArray × Nat)) : Prop:=∃ D : DataW Unit,w.ownsMap Tryz.prog 9 (plainElem Tryz.prog 3) b E.length D ∧ IsMap D ∧ (∀ x : ByteArray,Maps.has D (.string x.data.toList) = (zby E).any (fun y => eqW y x)) ∧
 (∀ (x : ByteArray) (p : Nat) (z : DataW Unit),zbC E x = some p → D.atKey (.string x.data.toList) z = .lit (.int .i64 (p : Int))) ∧ E.Pairwise (fun a b => eqW a.1 b.1 = false)
theorem MapIs.kept {w w' : World} {b : Nat} {E : List (ByteArray × Nat)} {row : Option Nat} (h : MapIs w b E) (hg : w.grownBy w' row) (hne : some b ≠ row) : MapIs w' b E:=by
 obtain ⟨D,h1,h2⟩:=h
 exact ⟨D,h1.kept hg hne,h2⟩
theorem MapIs.alloc {w : World} {b : Nat} {E : List (ByteArray × Nat)} (h : MapIs w b E) (o : Obj) : MapIs (w.alloc o) b E:=h.kept (World.grownBy_alloc w o none) (by simp)
theorem MapIs.lt {w : World} {b : Nat} {E : List (ByteArray × Nat)} (h : MapIs w b E) : b < w.heap.size:=by
 obtain ⟨D,h1,_⟩:=h
 exact h1.lt
theorem MapIs.below {w w' : World} {b : Nat} {E : List (ByteArray × Nat)} {B : Nat} (h : MapIs w b E) (hb : Below B w w') (hB : b < B) : MapIs w' b E:=by
 obtain ⟨D,⟨es,clock,hh,r⟩,h2⟩:=h
 exact ⟨D,⟨es,clock,(hb.block b hB).trans hh,r⟩,h2⟩
theorem MapIs.made (w : World) : MapIs (w.alloc (.map #[] 0)) w.heap.size []:=⟨.map [],World.ownsMap_made _ _ _ _,⟨[],rfl⟩,fun _x => rfl,fun _x _p _z h => (nomatch h),List.Pairwise.nil⟩
theorem zvc {w : World} {b base : Nat} {E : List (ByteArray × Nat)} {e : TypeId} {size n : Nat} {v : Value} {xs : List Value} (h : MapIs w b E) (hr : w.ownsRow base e size v n xs) : some b ≠ v.ownBlock:=by
 obtain ⟨D,⟨es,clock,hh,_⟩,_⟩:=h
 intro e1
 rcases hr.2 with ⟨hv,_⟩ | ⟨g,cap,cur,hv,_,hg,_⟩
 ·subst hv; simp [Value.ownBlock] at e1
 ·subst hv
  simp [Value.ownBlock] at e1
  subst e1
  rw [hh] at hg
  cases hg
theorem zd7 (a b : ByteArray) : eqW a b = true ↔ a.data.toList = b.data.toList:=by
 unfold eqW
 rw [ByteArray.toList_eq,ByteArray.toList_eq,beq_iff_eq]
theorem zvd {D : DataW Unit} {names : List ByteArray} (hD : IsMap D) (h : ∀ x : ByteArray,Maps.has D (.string x.data.toList) = names.any (fun y => eqW y x)) (nm : ByteArray) (d : DataW Unit) : ∀ x : ByteArray,Maps.has (D.put (.string nm.data.toList) d) (.string x.data.toList) = (names ++ [nm]).any (fun y => eqW y x):=by
 intro x
 rw [List.any_append]
 by_cases e : x.data.toList = nm.data.toList
 ·rw [e,has_put_same hD (k:=.string nm.data.toList) trivial d]
  have : eqW nm x = true:=(zd7 nm x).2 e.symm
  simp [this]
 ·have hne : (Lit.string x.data.toList) ≠ .string nm.data.toList:=by intro e2; apply e; simpa using e2
  rw [has_put_other hne d,h x]
  have : eqW nm x = false:=by
   cases hq : eqW nm x with
   | false => rfl
   | true => exact absurd ((zd7 nm x).1 hq).symm e
  simp [this]
theorem zwt {D : DataW Unit} {E : List (ByteArray × Nat)} (hD : IsMap D) (h : ∀ (x : ByteArray) (p : Nat) (z : DataW Unit),zbC E x = some p → D.atKey (.string x.data.toList) z = .lit (.int .i64 (p : Int))) (nm : ByteArray) (hno : (zby E).any (fun y => eqW y nm) = false) (place : Nat) :
  ∀ (x : ByteArray) (p : Nat) (z : DataW Unit),zbC (E ++ [(nm,place)]) x = some p → (D.put (.string nm.data.toList) (.lit (.int .i64 (place : Int)))).atKey (.string x.data.toList) z = .lit (.int .i64 (p : Int)):=by
 intro x p z hf
 rw [zjX] at hf
 by_cases e : x.data.toList = nm.data.toList
 ·have hx : x = nm:=by
   have : x.data = nm.data:=by rw [← Array.toArray_toList (xs:=x.data),e,Array.toArray_toList]
   cases x; cases nm; simp at this; rw [this]
  subst hx
  rw [zol E x hno] at hf
  have : eqW x x = true:=(zd7 x x).2 rfl
  simp only [zbC,this,if_true,Option.some.injEq] at hf
  subst hf
  exact atKey_put_same hD (k:=.string x.data.toList) trivial _ z
 ·have hne : (Lit.string x.data.toList) ≠ .string nm.data.toList:=by intro e2; apply e; simpa using e2
  rw [atKey_put_other hne]
  have hq : eqW nm x = false:=by
   cases hq : eqW nm x with
   | false => rfl
   | true => exact absurd ((zd7 nm x).1 hq).symm e
  cases hE : zbC E x with
  | some q => rw [hE] at hf; simp only [Option.some.injEq] at hf; subst hf; exact h x q z hE
  | none => rw [hE] at hf; simp [zbC,hq] at hf
theorem ztb {E : List (ByteArray × Nat)} (h : E.Pairwise (fun a b => eqW a.1 b.1 = false)) (nm : ByteArray) (hno : (zby E).any (fun y => eqW y nm) = false) (place : Nat) : (E ++ [(nm,place)]).Pairwise (fun a b => eqW a.1 b.1 = false):=by
 refine List.pairwise_append.2 ⟨h,by simp,fun a ha b hb => ?_⟩
 simp at hb
 subst hb
 rw [List.any_eq_false] at hno
 have:=hno a.1 (List.mem_map_of_mem ha)
 simpa using this
theorem zjY (w : World) (b : Nat) (E : List (ByteArray × Nat)) (hM : MapIs w b E) (sort line : Int) (word : ByteArray) (x y z n : Int) (nm : ByteArray) (place : Nat) (hp : place ≤ 4096) (hn : E.length ≤ 4096) (hnm : nm.size ≤ 1048576) (hno : (zby E).any (fun y => eqW y nm) = false) :
  Calls Tryz.prog 131 #[.map (some b),stm sort line word x y z n nm,.int .i64 (place : Int)] w fun e w' => e = .returned (.tuple #[]) ∧ MapIs w' b (E ++ [(nm,place)]) ∧ w.grownBy w' (some b):=by
 obtain ⟨D,hown,hD,hhas,hat0,hpw⟩:=hM
 have hk:=keyS nm (by unfold maxLen; omega)
 have hf:=hhas nm
 rw [hno] at hf
 have hlt:=hown.lt
 go_enter Tryz.func131,Tryz.ntmps131
 go_wp2_with (first
  | (at_lookup; refine wpList_lookup_own_ok_int _ rfl _ _ 81 rfl 9 3 .i64 lawS Tryz.under81 Tryz.underlying3 (zq0 _) b E.length D rfl (hown.alloc _) _ _ rfl hk ?_; intro c hat hwc)
  | (at_mapUpdate; refine wpList_mapUpdate_own _ rfl _ _ _ 81 rfl 9 3 lawS Tryz.under81 _ b E.length D rfl (hown.alloc _) (by unfold maxLen; omega) _ _ _ rfl rfl hk _ [] (plainElem_int Tryz.underlying3 (WalkArith.wf_i64 (by omega))) ?_; intro w1 hown1 hgrow1))
 go_end0
 refine ⟨rfl,⟨_,by simpa using hown1,hD.put _ _,by simpa using zvd hD hhas nm _,zwt hD hat0 nm hno place,ztb hpw nm hno place⟩,(World.grownBy_alloc w _ _).trans hgrow1⟩
theorem zjZ (w : World) (b : Nat) (E : List (ByteArray × Nat)) (hM : MapIs w b E) (sort line : Int) (word : ByteArray) (x y z n : Int) (nm : ByteArray) (place : Int) (hnm : nm.size ≤ 1048576) (hno : (zby E).any (fun y => eqW y nm) = true) :
  Calls Tryz.prog 131 #[.map (some b),stm sort line word x y z n nm,.int .i64 place] w fun e w' => e = zah 3 line ∧ Below w.heap.size w w':=by
 obtain ⟨D,hown,hD,hhas,hat0,hpw⟩:=hM
 have hk:=keyS nm (by unfold maxLen; omega)
 have hf:=hhas nm
 rw [hno] at hf
 have hlt:=hown.lt
 go_enter Tryz.func131,Tryz.ntmps131
 go_wp2_with (first
  | (at_lookup; refine wpList_lookup_own_ok_int _ rfl _ _ 81 rfl 9 3 .i64 lawS Tryz.under81 Tryz.underlying3 (zq0 _) b E.length D rfl (hown.alloc _) _ _ rfl hk ?_; intro c hat hwc)
  | (go_at_call 79; refine (zat _ _ _).mono ?_; rintro e wx ⟨rfl,hww⟩; subst hww))
 exact ⟨rfl,rfl,(Below.refl _ _).alloc (Nat.le_refl _) _⟩
theorem ziy (w : World) (b : Nat) (E : List (ByteArray × Nat)) (hM : MapIs w b E) (sort line : Int) (word : ByteArray) (x y z n : Int) (nm : ByteArray) (hnm : nm.size ≤ 1048576) (hno : (zby E).any (fun y => eqW y nm) = true) :
  Calls Tryz.prog 103 #[.map (some b),stm sort line word x y z n nm] w fun e w' => e = .returned (.tuple #[]) ∧ Below w.heap.size w w':=by
 obtain ⟨D,hown,hD,hhas,hat0,hpw⟩:=hM
 have hk:=keyS nm (by unfold maxLen; omega)
 have hf:=hhas nm
 rw [hno] at hf
 have hlt:=hown.lt
 go_enter Tryz.func103,Tryz.ntmps103
 go_wp2_with (first
  | (at_lookup; refine wpList_lookup_own_ok_int _ rfl _ _ 81 rfl 9 3 .i64 lawS Tryz.under81 Tryz.underlying3 (zq0 _) b E.length D rfl (hown.alloc _) _ _ rfl hk ?_; intro c hat hwc))
 go_end0
 exact ⟨rfl,(Below.refl _ _).alloc (Nat.le_refl _) _⟩
theorem zka (w : World) (b : Nat) (E : List (ByteArray × Nat)) (hM : MapIs w b E) (sort line : Int) (word : ByteArray) (x y z n : Int) (nm : ByteArray) (hnm : nm.size ≤ 1048576) (hno : (zby E).any (fun y => eqW y nm) = false) :
  Calls Tryz.prog 103 #[.map (some b),stm sort line word x y z n nm] w fun e w' => e = zah 4 line ∧ Below w.heap.size w w':=by
 obtain ⟨D,hown,hD,hhas,hat0,hpw⟩:=hM
 have hk:=keyS nm (by unfold maxLen; omega)
 have hf:=hhas nm
 rw [hno] at hf
 have hlt:=hown.lt
 go_enter Tryz.func103,Tryz.ntmps103
 go_wp2_with (first
  | (at_lookup; refine wpList_lookup_own_ok_int _ rfl _ _ 81 rfl 9 3 .i64 lawS Tryz.under81 Tryz.underlying3 (zq0 _) b E.length D rfl (hown.alloc _) _ _ rfl hk ?_; intro c hat hwc)
  | (go_at_call 79; refine (zat _ _ _).mono ?_; rintro e wx ⟨rfl,hww⟩; subst hww))
 exact ⟨rfl,rfl,(Below.refl _ _).alloc (Nat.le_refl _) _⟩
end Go.Proofs.YtfpgjkbjbbgciaaGreatDoor
namespace Go.Proofs.YtfpgjkbjbbgciaaGreatDoor
open Sp
structure Fn where
 name : ByteArray
 line : Int
 body : List Key
def zbK (b : List Key) : List ByteArray:=(b.filter (fun k => decide (k.sort = 1))).map Key.nm
def addK (F : List Fn) (k : Key) : List Fn :=
 if k.sort = 0 then F ++ [⟨k.nm,k.line,[]⟩]
 else match F.getLast? with
  | none => F
  | some f => F.dropLast ++ [⟨f.name,f.line,f.body ++ [k]⟩]
theorem zcn (F : List Fn) (k : Key) (h : k.sort = 0) : addK F k = F ++ [⟨k.nm,k.line,[]⟩]:=by simp [addK,h]
theorem zfo (F : List Fn) (f : Fn) (k : Key) (h : ¬ k.sort = 0) : addK (F ++ [f]) k = F ++ [⟨f.name,f.line,f.body ++ [k]⟩]:=by simp [addK,h]
def bad0 (F : List Fn) (k : Key) : Bool :=
 if k.sort = 0 then (F.map Fn.name).any (fun y => eqW y k.nm)
 else if k.sort = 1 then (match F.getLast? with | none => false | some f => (zbK f.body).any (fun y => eqW y k.nm)) else false
def zal (L : List Said) (i : Nat) : List Key :=
 if h : i < L.length then (if L[i].kind = 102 then [] else if L[i].kind = 0 then zal L (i + 1) else keyQ L[i] ((i : Int) + 1) :: zal L (i + 1)) else []
termination_by L.length - i
def zaN (L : List Said) (i : Nat) : List Fn :=
 if h : i < L.length then (if L[i].kind = 102 then ⟨L[i].word 1,(i : Int) + 1,zal L (i + 1)⟩ :: zaN L (i + 1) else zaN L (i + 1)) else []
termination_by L.length - i
def zaZ (L : List Said) (i : Nat) : List Key :=
 if h : i < L.length then (if L[i].kind = 0 then zaZ L (i + 1) else keyQ L[i] ((i : Int) + 1) :: zaZ L (i + 1)) else []
termination_by L.length - i
theorem zco (L : List Said) (i : Nat) (h : ¬ i < L.length) : zal L i = []:=by rw [zal,dif_neg h]
theorem zc2 (L : List Said) (i : Nat) (h : i < L.length) (h1 : L[i].kind = 102) : zal L i = []:=by rw [zal,dif_pos h,if_pos h1]
theorem zbS (L : List Said) (i : Nat) (h : i < L.length) (h0 : L[i].kind = 0) : zal L i = zal L (i + 1):=by rw [zal,dif_pos h,if_neg (by omega),if_pos h0]
theorem zb7 (L : List Said) (i : Nat) (h : i < L.length) (h0 : ¬ L[i].kind = 0) (h1 : ¬ L[i].kind = 102) : zal L i = keyQ L[i] ((i : Int) + 1) :: zal L (i + 1):=by rw [zal,dif_pos h,if_neg h1,if_neg h0]
theorem zc3 (L : List Said) (i : Nat) (h : ¬ i < L.length) : zaN L i = []:=by rw [zaN,dif_neg h]
theorem zbO (L : List Said) (i : Nat) (h : i < L.length) (h1 : L[i].kind = 102) : zaN L i = ⟨L[i].word 1,(i : Int) + 1,zal L (i + 1)⟩ :: zaN L (i + 1):=by rw [zaN,dif_pos h,if_pos h1]
theorem zbG (L : List Said) (i : Nat) (h : i < L.length) (h1 : ¬ L[i].kind = 102) : zaN L i = zaN L (i + 1):=by rw [zaN,dif_pos h,if_neg h1]
theorem zcC (L : List Said) (i : Nat) (h : ¬ i < L.length) : zaZ L i = []:=by rw [zaZ,dif_neg h]
theorem zcO (L : List Said) (i : Nat) (h : i < L.length) (h0 : L[i].kind = 0) : zaZ L i = zaZ L (i + 1):=by rw [zaZ,dif_pos h,if_pos h0]
theorem zbr (L : List Said) (i : Nat) (h : i < L.length) (h0 : ¬ L[i].kind = 0) : zaZ L i = keyQ L[i] ((i : Int) + 1) :: zaZ L (i + 1):=by rw [zaZ,dif_pos h,if_neg h0]
theorem zdQ (q : Said) (h : q.kind = 102) : zeJ q = 0:=by simp [zeJ,h]
theorem zeM (q : Said) (h : q.kind = 108) : zeJ q = 1:=by simp [zeJ,h]
theorem zdR (q : Said) (h1 : ¬ q.kind = 102) (h2 : ¬ q.kind = 108) : zeJ q = 2:=by simp [zeJ,h1,h2]
theorem zeN (q : Said) (h1 : ¬ q.kind = 102) : ¬ zeJ q = 0:=by unfold zeJ; rw [if_neg h1]; split <;> decide
theorem zfL (q : Said) (h : q.kind = 102) : zdi q = q.word 1:=by simp [zdi,h]
theorem zjj (q : Said) (h : q.kind = 108) : zdi q = q.word 0:=by simp [zdi,h]
theorem zfp (L : List Said) (i : Nat) (F : List Fn) (f : Fn) : (zaZ L i).foldl addK (F ++ [f]) = F ++ (⟨f.name,f.line,f.body ++ zal L i⟩ :: zaN L i):=by
 by_cases h : i < L.length
 ·by_cases h0 : L[i].kind = 0
  ·rw [zcO L i h h0,zbS L i h h0,zbG L i h (by omega)]
   exact zfp L (i + 1) F f
  ·rw [zbr L i h h0,List.foldl_cons]
   by_cases h1 : L[i].kind = 102
   ·rw [zcn _ _ (zdQ _ h1),zfp L (i + 1) (F ++ [f]) _,zc2 L i h h1,zbO L i h h1]
    simp [keyQ,zfL _ h1]
   ·rw [zfo _ _ _ (zeN _ h1),zfp L (i + 1) F _,zb7 L i h h0 h1,zbG L i h h1]
    simp
 ·rw [zcC L i h,zco L i h,zc3 L i h]
  simp
termination_by L.length - i
theorem zhg (A : List ByteArray) (i : Nat) : zaT A A.length = zaT A (min i A.length) ++ zaZ (A.map say) i:=by
 by_cases h : i < A.length
 ·have hL : i < (A.map say).length:=by simpa using h
  have hg : (A.map say)[i] = say A[i]:=by simp
  rw [zhg A (i + 1),Nat.min_eq_left (show i + 1 ≤ A.length from h),Nat.min_eq_left (Nat.le_of_lt h)]
  by_cases h0 : (say A[i]).kind = 0
  ·rw [zhd A i h h0,zcO _ i hL (by rw [hg]; exact h0)]
  ·rw [zix A i h h0,zbr _ i hL (by rw [hg]; exact h0),hg]
   simp
 ·rw [zcC _ i (by simpa using h),Nat.min_eq_right (by omega)]
  simp
termination_by A.length - i
theorem zjk (A : List ByteArray) : zaT A A.length = zaZ (A.map say) 0:=by
 rw [zhg A 0]; simp [zaT]
theorem zfq (L : List Said) (i : Nat) (x : ByteArray) : (zbK (zal L i)).any (fun y => eqW y x) = decide (0 ≤ zbo L x i):=by
 by_cases h : i < L.length
 ·by_cases h1 : L[i].kind = 102
  ·rw [zc2 L i h h1,zjJ L x i h h1]; rfl
  ·by_cases h0 : L[i].kind = 0
   ·rw [zbS L i h h0,zc0 L x i h h1 (by simp [zdh,h0])]
    exact zfq L (i + 1) x
   ·rw [zb7 L i h h0 h1]
    by_cases h2 : L[i].kind = 108
    ·have e : zbK (keyQ L[i] ((i : Int) + 1) :: zal L (i + 1)) = L[i].word 0 :: zbK (zal L (i + 1)):=by
      simp [zbK,keyQ,zeM _ h2,zjj _ h2]
     rw [e,List.any_cons]
     by_cases h3 : eqW (L[i].word 0) x = true
     ·rw [zd3 L x i h h1 (by simp [zdh,h2,h3]),h3]
      simp
     ·rw [zc0 L x i h h1 (by simp [zdh,h3]),zfq L (i + 1) x]
      simp [h3]
    ·have e : zbK (keyQ L[i] ((i : Int) + 1) :: zal L (i + 1)) = zbK (zal L (i + 1)):=by
      simp [zbK,keyQ,zdR _ h1 h2]
     rw [e,zc0 L x i h h1 (by simp [zdh,h2])]
     exact zfq L (i + 1) x
 ·rw [zco L i h,zgQ L x i h]; rfl
termination_by L.length - i
theorem zlD (L : List Said) (i : Nat) (x : ByteArray) : ((zaN L i).map Fn.name).any (fun y => eqW y x) = decide (0 ≤ zca L x i):=by
 by_cases h : i < L.length
 ·by_cases h1 : L[i].kind = 102
  ·rw [zbO L i h h1,List.map_cons,List.any_cons]
   by_cases h3 : eqW (L[i].word 1) x = true
   ·rw [zel L x i h (by simp [isFn,h1,h3])]
    simp [h3]
   ·rw [zdN L x i h (by simp [isFn,h3]),zlD L (i + 1) x]
    simp [h3]
  ·rw [zbG L i h h1,zdN L x i h (by simp [isFn,h1])]
   exact zlD L (i + 1) x
 ·rw [zc3 L i h,zis L x i h]; rfl
termination_by L.length - i
def zon (b : List Key) : Bool:=match b.getLast? with | none => false | some k => ends k.word
theorem zq1 : ends ⟨#[]⟩ = false:=by simp [ends,isW,ByteArray.toList_eq]
def WfAll (L : List Said) : Prop:=∀ q ∈ L,Wf q
theorem WfAll.at {L : List Said} (hw : WfAll L) (i : Nat) (h : i < L.length) : Wf L[i]:=hw _ (List.getElem_mem h)
theorem zq2 (L : List Said) (hw : WfAll L) (i : Nat) (e : Bool) : zfE L i e = (match (zal L i).getLast? with | none => e | some k => ends k.word):=by
 by_cases h : i < L.length
 ·by_cases h1 : L[i].kind = 102
  ·rw [zc2 L i h h1,zpW L i e h h1]; rfl
  ·rw [zfg L i e h h1,zq2 L hw (i + 1)]
   by_cases h0 : L[i].kind = 0
   ·rw [zbS L i h h0]
    simp [h0]
   ·rw [zb7 L i h h0 h1,List.getLast?_cons]
    cases hb : (zal L (i + 1)).getLast? with
    | some k => rfl
    | none =>
     by_cases h2 : L[i].kind = 108
     ·simp [h2,keyQ,zdP,zq1]
     ·have h5 : L[i].kind = 105:=by
       have:=hw.at i h
       unfold Wf at this; omega
      simp [h5,keyQ,zdP]
 ·rw [zco L i h,zjK L i e h]; rfl
termination_by L.length - i
end Go.Proofs.YtfpgjkbjbbgciaaGreatDoor
