import Derived.Test.YtfpgjkbjbbgciaaGreatDoorMf11
set_option maxRecDepth 100000
set_option maxHeartbeats 8000000
namespace Go.Proofs.YtfpgjkbjbbgciaaGreatDoor
open Go.RowKit Sp Go.WideMaps Go.Maps
theorem Tryz.under81 : Tryz.prog.underlying 81 = some (.map 9 3):=by kernel_rfl
theorem lawS : Keyed Tryz.prog 9:=string_keyed Tryz.underlying9
theorem zng (w : World) : (zeroValue 3).run Tryz.prog w = .ok (.int .i64 0) w:=by kernel_rfl
theorem keyS (x : ByteArray) (h : x.size ≤ maxLen) : keyOf Tryz.prog 9 (.string x) = some (.string x.data.toList):=keyOf_string_mk Tryz.underlying9 h
def zbc : List (ByteArray × Nat) → ByteArray → Option Nat
 | [],_ => none
 | p :: r,x => if eqW p.1 x = true then some p.2 else zbc r x
abbrev zaT (E : List (ByteArray × Nat)) : List ByteArray:=E.map Prod.fst
theorem zlx (E : List (ByteArray × Nat)) (x : ByteArray) (h : (zaT E).any (fun y => eqW y x) = false) : zbc E x = none:=by
 induction E with
 | nil => rfl
 | cons p r ih =>
  simp only [zaT,List.map_cons,List.any_cons,Bool.or_eq_false_iff] at h
  unfold zbc
  rw [if_neg (by rw [h.1]; simp)]
  exact ih h.2
theorem zhV (E G : List (ByteArray × Nat)) (x : ByteArray) : zbc (E ++ G) x = match zbc E x with | some p => some p | none => zbc G x:=by
 induction E with
 | nil => rfl
 | cons p r ih =>
  show (if eqW p.1 x = true then some p.2 else zbc (r ++ G) x) = match (if eqW p.1 x = true then some p.2 else zbc r x) with | some p => some p | none => zbc G x
  split
  ·rfl
  ·exact ih
theorem zly (E : List (ByteArray × Nat)) (x : ByteArray) (h : (zaT E).any (fun y => eqW y x) = true) : ∃ p,zbc E x = some p:=by
 induction E with
 | nil => simp at h
 | cons p r ih =>
  simp only [zaT,List.map_cons,List.any_cons,Bool.or_eq_true] at h
  unfold zbc
  by_cases e : eqW p.1 x = true
  ·exact ⟨_,if_pos e⟩
  ·rw [if_neg e]
   rcases h with h | h
   ·exact absurd h e
   ·exact ih h
def MapIs (w : World) (b : Nat) (E : List (ByteArray × Nat)) : Prop:=∃ D : DataW Unit,w.ownsMap Tryz.prog 9 (plainElem Tryz.prog 3) b E.length D ∧ IsMap D ∧ (∀ x : ByteArray,Maps.has D (.string x.data.toList) = (zaT E).any (fun y => eqW y x)) ∧
 (∀ (x : ByteArray) (p : Nat) (z : DataW Unit),zbc E x = some p → D.atKey (.string x.data.toList) z = .lit (.int .i64 (p : Int))) ∧ E.Pairwise (fun a b => eqW a.1 b.1 = false)
theorem MapIs.kept {w w' : World} {b : Nat} {E : List (ByteArray × Nat)} {row : Option Nat} (h : MapIs w b E) (hg : w.grownBy w' row) (hne : some b ≠ row) : MapIs w' b E:=by
 obtain ⟨D,h1,h2⟩:=h
 exact ⟨D,h1.kept hg hne,h2⟩
theorem MapIs.alloc {w : World} {b : Nat} {E : List (ByteArray × Nat)} (h : MapIs w b E) (o : Obj) : MapIs (w.alloc o) b E:=h.kept (World.grownBy_alloc w o none) (by simp)
theorem MapIs.lt {w : World} {b : Nat} {E : List (ByteArray × Nat)} (h : MapIs w b E) : b < w.heap.size:=by
 obtain ⟨D,h1,_⟩:=h
 exact h1.lt
theorem MapIs.below {w w' : World} {b : Nat} {E : List (ByteArray × Nat)} {B : Nat} (h : MapIs w b E) (hb : Below B w w') (hB : b < B) : MapIs w' b E:=by
 obtain ⟨D,⟨es,clock,hh,r⟩,h2⟩:=h
 exact ⟨D,⟨es,clock,(hb.block b hB).trans hh,r⟩,h2⟩
theorem MapIs.made (w : World) : MapIs (w.alloc (.map #[] 0)) w.heap.size []:=⟨.map [],World.ownsMap_made _ _ _ _,⟨[],rfl⟩,fun _x => rfl,fun _x _p _z h => (nomatch h),List.Pairwise.nil⟩
theorem zqL {w : World} {b base : Nat} {E : List (ByteArray × Nat)} {e : TypeId} {size n : Nat} {v : Value} {xs : List Value} (h : MapIs w b E) (hr : w.ownsRow base e size v n xs) : some b ≠ v.ownBlock:=by
 obtain ⟨D,⟨es,clock,hh,_⟩,_⟩:=h
 intro e1
 rcases hr.2 with ⟨hv,_⟩ | ⟨g,cap,cur,hv,_,hg,_⟩
 ·subst hv; simp [Value.ownBlock] at e1
 ·subst hv
  simp [Value.ownBlock] at e1
  subst e1
  rw [hh] at hg
  cases hg
theorem zcD (a b : ByteArray) : eqW a b = true ↔ a.data.toList = b.data.toList:=by
 unfold eqW
 rw [ByteArray.toList_eq,ByteArray.toList_eq,beq_iff_eq]
theorem zqM {D : DataW Unit} {names : List ByteArray} (hD : IsMap D) (h : ∀ x : ByteArray,Maps.has D (.string x.data.toList) = names.any (fun y => eqW y x)) (nm : ByteArray) (d : DataW Unit) : ∀ x : ByteArray,Maps.has (D.put (.string nm.data.toList) d) (.string x.data.toList) = (names ++ [nm]).any (fun y => eqW y x):=by
 intro x
 rw [List.any_append]
 by_cases e : x.data.toList = nm.data.toList
 ·rw [e,has_put_same hD (k:=.string nm.data.toList) trivial d]
  have : eqW nm x = true:=(zcD nm x).2 e.symm
  simp [this]
 ·have hne : (Lit.string x.data.toList) ≠ .string nm.data.toList:=by intro e2; apply e; simpa using e2
  rw [has_put_other hne d,h x]
  have : eqW nm x = false:=by
   cases hq : eqW nm x with
   | false => rfl
   | true => exact absurd ((zcD nm x).1 hq).symm e
  simp [this]
theorem zrF {D : DataW Unit} {E : List (ByteArray × Nat)} (hD : IsMap D) (h : ∀ (x : ByteArray) (p : Nat) (z : DataW Unit),zbc E x = some p → D.atKey (.string x.data.toList) z = .lit (.int .i64 (p : Int))) (nm : ByteArray) (hno : (zaT E).any (fun y => eqW y nm) = false) (place : Nat) :
  ∀ (x : ByteArray) (p : Nat) (z : DataW Unit),zbc (E ++ [(nm,place)]) x = some p → (D.put (.string nm.data.toList) (.lit (.int .i64 (place : Int)))).atKey (.string x.data.toList) z = .lit (.int .i64 (p : Int)):=by
 intro x p z hf
 rw [zhV] at hf
 by_cases e : x.data.toList = nm.data.toList
 ·have hx : x = nm:=by
   have : x.data = nm.data:=by rw [← Array.toArray_toList (xs:=x.data),e,Array.toArray_toList]
   cases x; cases nm; simp at this; rw [this]
  subst hx
  rw [zlx E x hno] at hf
  have : eqW x x = true:=(zcD x x).2 rfl
  simp only [zbc,this,if_true,Option.some.injEq] at hf
  subst hf
  exact atKey_put_same hD (k:=.string x.data.toList) trivial _ z
 ·have hne : (Lit.string x.data.toList) ≠ .string nm.data.toList:=by intro e2; apply e; simpa using e2
  rw [atKey_put_other hne]
  have hq : eqW nm x = false:=by
   cases hq : eqW nm x with
   | false => rfl
   | true => exact absurd ((zcD nm x).1 hq).symm e
  cases hE : zbc E x with
  | some q => rw [hE] at hf; simp only [Option.some.injEq] at hf; subst hf; exact h x q z hE
  | none => rw [hE] at hf; simp [zbc,hq] at hf
theorem zph {E : List (ByteArray × Nat)} (h : E.Pairwise (fun a b => eqW a.1 b.1 = false)) (nm : ByteArray) (hno : (zaT E).any (fun y => eqW y nm) = false) (place : Nat) : (E ++ [(nm,place)]).Pairwise (fun a b => eqW a.1 b.1 = false):=by
 refine List.pairwise_append.2 ⟨h,by simp,fun a ha b hb => ?_⟩
 simp at hb
 subst hb
 rw [List.any_eq_false] at hno
 have:=hno a.1 (List.mem_map_of_mem ha)
 simpa using this
theorem zhW (w : World) (b : Nat) (E : List (ByteArray × Nat)) (hM : MapIs w b E) (sort line : Int) (word : ByteArray) (x y z n : Int) (nm : ByteArray) (place : Nat) (hp : place ≤ 4096) (hn : E.length ≤ 4096) (hnm : nm.size ≤ 1048576) (hno : (zaT E).any (fun y => eqW y nm) = false) :
  Calls Tryz.prog 131 #[.map (some b),stm sort line word x y z n nm,.int .i64 (place : Int)] w fun e w' => e = .returned (.tuple #[]) ∧ MapIs w' b (E ++ [(nm,place)]) ∧ w.grownBy w' (some b):=by
 obtain ⟨D,hown,hD,hhas,hat0,hpw⟩:=hM
 have hk:=keyS nm (by unfold maxLen; omega)
 have hf:=hhas nm
 rw [hno] at hf
 have hlt:=hown.lt
 go_enter Tryz.func131,Tryz.ntmps131
 go_wp2_with (first
  | (at_lookup; refine wpList_lookup_own_ok_int _ rfl _ _ 81 rfl 9 3 .i64 lawS Tryz.under81 Tryz.underlying3 (zng _) b E.length D rfl (hown.alloc _) _ _ rfl hk ?_; intro c hat hwc)
  | (at_mapUpdate; refine wpList_mapUpdate_own _ rfl _ _ _ 81 rfl 9 3 lawS Tryz.under81 _ b E.length D rfl (hown.alloc _) (by unfold maxLen; omega) _ _ _ rfl rfl hk _ [] (plainElem_int Tryz.underlying3 (WalkArith.wf_i64 (by omega))) ?_; intro w1 hown1 hgrow1))
 go_end0
 refine ⟨rfl,⟨_,by simpa using hown1,hD.put _ _,by simpa using zqM hD hhas nm _,zrF hD hat0 nm hno place,zph hpw nm hno place⟩,(World.grownBy_alloc w _ _).trans hgrow1⟩
theorem zhX (w : World) (b : Nat) (E : List (ByteArray × Nat)) (hM : MapIs w b E) (sort line : Int) (word : ByteArray) (x y z n : Int) (nm : ByteArray) (place : Int) (hnm : nm.size ≤ 1048576) (hno : (zaT E).any (fun y => eqW y nm) = true) :
  Calls Tryz.prog 131 #[.map (some b),stm sort line word x y z n nm,.int .i64 place] w fun e w' => e = zap 3 line ∧ Below w.heap.size w w':=by
 obtain ⟨D,hown,hD,hhas,hat0,hpw⟩:=hM
 have hk:=keyS nm (by unfold maxLen; omega)
 have hf:=hhas nm
 rw [hno] at hf
 have hlt:=hown.lt
 go_enter Tryz.func131,Tryz.ntmps131
 go_wp2_with (first
  | (at_lookup; refine wpList_lookup_own_ok_int _ rfl _ _ 81 rfl 9 3 .i64 lawS Tryz.under81 Tryz.underlying3 (zng _) b E.length D rfl (hown.alloc _) _ _ rfl hk ?_; intro c hat hwc)
  | (go_at_call 79; refine (zaj _ _ _).mono ?_; rintro e wx ⟨rfl,hww⟩; subst hww))
 exact ⟨rfl,rfl,(Below.refl _ _).alloc (Nat.le_refl _) _⟩
theorem zgH (w : World) (b : Nat) (E : List (ByteArray × Nat)) (hM : MapIs w b E) (sort line : Int) (word : ByteArray) (x y z n : Int) (nm : ByteArray) (hnm : nm.size ≤ 1048576) (hno : (zaT E).any (fun y => eqW y nm) = true) :
  Calls Tryz.prog 103 #[.map (some b),stm sort line word x y z n nm] w fun e w' => e = .returned (.tuple #[]) ∧ Below w.heap.size w w':=by
 obtain ⟨D,hown,hD,hhas,hat0,hpw⟩:=hM
 have hk:=keyS nm (by unfold maxLen; omega)
 have hf:=hhas nm
 rw [hno] at hf
 have hlt:=hown.lt
 go_enter Tryz.func103,Tryz.ntmps103
 go_wp2_with (first
  | (at_lookup; refine wpList_lookup_own_ok_int _ rfl _ _ 81 rfl 9 3 .i64 lawS Tryz.under81 Tryz.underlying3 (zng _) b E.length D rfl (hown.alloc _) _ _ rfl hk ?_; intro c hat hwc))
 go_end0
 exact ⟨rfl,(Below.refl _ _).alloc (Nat.le_refl _) _⟩
theorem zhY (w : World) (b : Nat) (E : List (ByteArray × Nat)) (hM : MapIs w b E) (sort line : Int) (word : ByteArray) (x y z n : Int) (nm : ByteArray) (hnm : nm.size ≤ 1048576) (hno : (zaT E).any (fun y => eqW y nm) = false) :
  Calls Tryz.prog 103 #[.map (some b),stm sort line word x y z n nm] w fun e w' => e = zap 4 line ∧ Below w.heap.size w w':=by
 obtain ⟨D,hown,hD,hhas,hat0,hpw⟩:=hM
 have hk:=keyS nm (by unfold maxLen; omega)
 have hf:=hhas nm
 rw [hno] at hf
 have hlt:=hown.lt
 go_enter Tryz.func103,Tryz.ntmps103
 go_wp2_with (first
  | (at_lookup; refine wpList_lookup_own_ok_int _ rfl _ _ 81 rfl 9 3 .i64 lawS Tryz.under81 Tryz.underlying3 (zng _) b E.length D rfl (hown.alloc _) _ _ rfl hk ?_; intro c hat hwc)
  | (go_at_call 79; refine (zaj _ _ _).mono ?_; rintro e wx ⟨rfl,hww⟩; subst hww))
 exact ⟨rfl,rfl,(Below.refl _ _).alloc (Nat.le_refl _) _⟩
end Go.Proofs.YtfpgjkbjbbgciaaGreatDoor
