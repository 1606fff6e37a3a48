import Derived.Test.YtfpgjkbjbbgciaaGreatDoorMb16
import Derived.Maps.Own
import Derived.Maps.OwnOps
import Derived.Maps.OwnSet
import Derived.Maps.AppendAt
import Derived.Maps.Views
namespace Go.Proofs.YtfpgjkbjbbgciaaGreatDoor
open Go.RowKit Sp Go.WideMaps Go.Maps

theorem Tryz.under81 : Tryz.prog.underlying 81 = some (.map 9 3) := by kernel_rfl
theorem lawS : Keyed Tryz.prog 9 := string_keyed Tryz.underlying9
theorem zero3 (w : World) : (zeroValue 3).run Tryz.prog w = .ok (.int .i64 0) w := by kernel_rfl
theorem keyS (x : ByteArray) (h : x.size ≤ maxLen) : keyOf Tryz.prog 9 (.string x) = some (.string x.data.toList) := keyOf_string_mk Tryz.underlying9 h

/-- What a list of names and places holds at a name. -/
def findE : List (ByteArray × Nat) → ByteArray → Option Nat
  | [], _ => none
  | p :: r, x => if eqW p.1 x = true then some p.2 else findE r x
abbrev namesE (E : List (ByteArray × Nat)) : List ByteArray := E.map Prod.fst
theorem findE_none (E : List (ByteArray × Nat)) (x : ByteArray) (h : (namesE E).any (fun y => eqW y x) = false) : findE E x = none := by
  induction E with
  | nil => rfl
  | cons p r ih =>
    simp only [namesE, List.map_cons, List.any_cons, Bool.or_eq_false_iff] at h
    unfold findE
    rw [if_neg (by rw [h.1]; simp)]
    exact ih h.2
theorem findE_append (E G : List (ByteArray × Nat)) (x : ByteArray) : findE (E ++ G) x = match findE E x with | some p => some p | none => findE G x := by
  induction E with
  | nil => rfl
  | cons p r ih =>
    show (if eqW p.1 x = true then some p.2 else findE (r ++ G) x) = match (if eqW p.1 x = true then some p.2 else findE r x) with | some p => some p | none => findE G x
    split
    · rfl
    · exact ih
theorem findE_some (E : List (ByteArray × Nat)) (x : ByteArray) (h : (namesE E).any (fun y => eqW y x) = true) : ∃ p, findE E x = some p := by
  induction E with
  | nil => simp at h
  | cons p r ih =>
    simp only [namesE, List.map_cons, List.any_cons, Bool.or_eq_true] at h
    unfold findE
    by_cases e : eqW p.1 x = true
    · exact ⟨_, if_pos e⟩
    · rw [if_neg e]
      rcases h with h | h
      · exact absurd h e
      · exact ih h
/-- A map that holds these names and places. -/
def MapIs (w : World) (b : Nat) (E : List (ByteArray × Nat)) : Prop := ∃ D : DataW Unit, w.ownsMap Tryz.prog 9 (plainElem Tryz.prog 3) b E.length D ∧ IsMap D ∧ (∀ x : ByteArray, Maps.has D (.string x.data.toList) = (namesE E).any (fun y => eqW y x)) ∧
  (∀ (x : ByteArray) (p : Nat) (z : DataW Unit), findE E x = some p → D.atKey (.string x.data.toList) z = .lit (.int .i64 (p : Int))) ∧ E.Pairwise (fun a b => eqW a.1 b.1 = false)
theorem MapIs.kept {w w' : World} {b : Nat} {E : List (ByteArray × Nat)} {row : Option Nat} (h : MapIs w b E) (hg : w.grownBy w' row) (hne : some b ≠ row) : MapIs w' b E := by
  obtain ⟨D, h1, h2⟩ := h
  exact ⟨D, h1.kept hg hne, h2⟩
theorem MapIs.alloc {w : World} {b : Nat} {E : List (ByteArray × Nat)} (h : MapIs w b E) (o : Obj) : MapIs (w.alloc o) b E := h.kept (World.grownBy_alloc w o none) (by simp)
theorem MapIs.lt {w : World} {b : Nat} {E : List (ByteArray × Nat)} (h : MapIs w b E) : b < w.heap.size := by
  obtain ⟨D, h1, _⟩ := h
  exact h1.lt
theorem MapIs.below {w w' : World} {b : Nat} {E : List (ByteArray × Nat)} {B : Nat} (h : MapIs w b E) (hb : Below B w w') (hB : b < B) : MapIs w' b E := by
  obtain ⟨D, ⟨es, clock, hh, r⟩, h2⟩ := h
  exact ⟨D, ⟨es, clock, (hb.block b hB).trans hh, r⟩, h2⟩
theorem MapIs.made (w : World) : MapIs (w.alloc (.map #[] 0)) w.heap.size [] := ⟨.map [], World.ownsMap_made _ _ _ _, ⟨[], rfl⟩, fun _x => rfl, fun _x _p _z h => (nomatch h), List.Pairwise.nil⟩
/-- A map's block is no row's. -/
theorem map_row {w : World} {b base : Nat} {E : List (ByteArray × Nat)} {e : TypeId} {size n : Nat} {v : Value} {xs : List Value} (h : MapIs w b E) (hr : w.ownsRow base e size v n xs) : some b ≠ v.ownBlock := by
  obtain ⟨D, ⟨es, clock, hh, _⟩, _⟩ := h
  intro e1
  rcases hr.2 with ⟨hv, _⟩ | ⟨g, cap, cur, hv, _, hg, _⟩
  · subst hv; simp [Value.ownBlock] at e1
  · subst hv
    simp [Value.ownBlock] at e1
    subst e1
    rw [hh] at hg
    cases hg
theorem eqW_iff (a b : ByteArray) : eqW a b = true ↔ a.data.toList = b.data.toList := by
  unfold eqW
  rw [ByteArray.toList_eq, ByteArray.toList_eq, beq_iff_eq]
theorem has_add {D : DataW Unit} {names : List ByteArray} (hD : IsMap D) (h : ∀ x : ByteArray, Maps.has D (.string x.data.toList) = names.any (fun y => eqW y x)) (nm : ByteArray) (d : DataW Unit) : ∀ x : ByteArray, Maps.has (D.put (.string nm.data.toList) d) (.string x.data.toList) = (names ++ [nm]).any (fun y => eqW y x) := by
  intro x
  rw [List.any_append]
  by_cases e : x.data.toList = nm.data.toList
  · rw [e, has_put_same hD (k := .string nm.data.toList) trivial d]
    have : eqW nm x = true := (eqW_iff nm x).2 e.symm
    simp [this]
  · have hne : (Lit.string x.data.toList) ≠ .string nm.data.toList := by intro e2; apply e; simpa using e2
    rw [has_put_other hne d, h x]
    have : eqW nm x = false := by
      cases hq : eqW nm x with
      | false => rfl
      | true => exact absurd ((eqW_iff nm x).1 hq).symm e
    simp [this]

theorem at_add {D : DataW Unit} {E : List (ByteArray × Nat)} (hD : IsMap D) (h : ∀ (x : ByteArray) (p : Nat) (z : DataW Unit), findE E x = some p → D.atKey (.string x.data.toList) z = .lit (.int .i64 (p : Int))) (nm : ByteArray) (hno : (namesE E).any (fun y => eqW y nm) = false) (place : Nat) :
    ∀ (x : ByteArray) (p : Nat) (z : DataW Unit), findE (E ++ [(nm, place)]) x = some p → (D.put (.string nm.data.toList) (.lit (.int .i64 (place : Int)))).atKey (.string x.data.toList) z = .lit (.int .i64 (p : Int)) := by
  intro x p z hf
  rw [findE_append] at hf
  by_cases e : x.data.toList = nm.data.toList
  · have hx : x = nm := by
      have : x.data = nm.data := by rw [← Array.toArray_toList (xs := x.data), e, Array.toArray_toList]
      cases x; cases nm; simp at this; rw [this]
    subst hx
    rw [findE_none E x hno] at hf
    have : eqW x x = true := (eqW_iff x x).2 rfl
    simp only [findE, this, if_true, Option.some.injEq] at hf
    subst hf
    exact atKey_put_same hD (k := .string x.data.toList) trivial _ z
  · have hne : (Lit.string x.data.toList) ≠ .string nm.data.toList := by intro e2; apply e; simpa using e2
    rw [atKey_put_other hne]
    have hq : eqW nm x = false := by
      cases hq : eqW nm x with
      | false => rfl
      | true => exact absurd ((eqW_iff nm x).1 hq).symm e
    cases hE : findE E x with
    | some q => rw [hE] at hf; simp only [Option.some.injEq] at hf; subst hf; exact h x q z hE
    | none => rw [hE] at hf; simp [findE, hq] at hf
theorem pair_add {E : List (ByteArray × Nat)} (h : E.Pairwise (fun a b => eqW a.1 b.1 = false)) (nm : ByteArray) (hno : (namesE E).any (fun y => eqW y nm) = false) (place : Nat) : (E ++ [(nm, place)]).Pairwise (fun a b => eqW a.1 b.1 = false) := by
  refine List.pairwise_append.2 ⟨h, by simp, fun a ha b hb => ?_⟩
  simp at hb
  subst hb
  rw [List.any_eq_false] at hno
  have := hno a.1 (List.mem_map_of_mem ha)
  simpa using this

set_option maxRecDepth 100000 in
set_option maxHeartbeats 1000000 in
theorem enter_new (w : World) (b : Nat) (E : List (ByteArray × Nat)) (hM : MapIs w b E) (sort line : Int) (word : ByteArray) (x y z n : Int) (nm : ByteArray) (place : Nat) (hp : place ≤ 4096) (hn : E.length ≤ 4096) (hnm : nm.size ≤ 1048576) (hno : (namesE E).any (fun y => eqW y nm) = false) :
    Calls Tryz.prog 131 #[.map (some b), stm sort line word x y z n nm, .int .i64 (place : Int)] w fun e w' => e = .returned (.tuple #[]) ∧ MapIs w' b (E ++ [(nm, place)]) ∧ w.grownBy w' (some b) := by
  obtain ⟨D, hown, hD, hhas, hat0, hpw⟩ := hM
  have hk := keyS nm (by unfold maxLen; omega)
  have hf := hhas nm
  rw [hno] at hf
  have hlt := hown.lt
  go_enter Tryz.func131, Tryz.ntmps131
  go_wp2_with (first
    | (at_lookup; refine wpList_lookup_own_ok_int _ rfl _ _ 81 rfl 9 3 .i64 lawS Tryz.under81 Tryz.underlying3 (zero3 _) b E.length D rfl (hown.alloc _) _ _ rfl hk ?_; intro c hat hwc)
    | (at_mapUpdate; refine wpList_mapUpdate_own _ rfl _ _ _ 81 rfl 9 3 lawS Tryz.under81 _ b E.length D rfl (hown.alloc _) (by unfold maxLen; omega) _ _ _ rfl rfl hk _ [] (plainElem_int Tryz.underlying3 (WalkArith.wf_i64 (by omega))) ?_; intro w1 hown1 hgrow1))
  go_end0
  refine ⟨rfl, ⟨_, by simpa using hown1, hD.put _ _, by simpa using has_add hD hhas nm _, at_add hD hat0 nm hno place, pair_add hpw nm hno place⟩, (World.grownBy_alloc w _ _).trans hgrow1⟩

set_option maxRecDepth 100000 in
set_option maxHeartbeats 1000000 in
theorem enter_old (w : World) (b : Nat) (E : List (ByteArray × Nat)) (hM : MapIs w b E) (sort line : Int) (word : ByteArray) (x y z n : Int) (nm : ByteArray) (place : Int) (hnm : nm.size ≤ 1048576) (hno : (namesE E).any (fun y => eqW y nm) = true) :
    Calls Tryz.prog 131 #[.map (some b), stm sort line word x y z n nm, .int .i64 place] w fun e w' => e = refusal 3 line ∧ Below w.heap.size w w' := by
  obtain ⟨D, hown, hD, hhas, hat0, hpw⟩ := hM
  have hk := keyS nm (by unfold maxLen; omega)
  have hf := hhas nm
  rw [hno] at hf
  have hlt := hown.lt
  go_enter Tryz.func131, Tryz.ntmps131
  go_wp2_with (first
    | (at_lookup; refine wpList_lookup_own_ok_int _ rfl _ _ 81 rfl 9 3 .i64 lawS Tryz.under81 Tryz.underlying3 (zero3 _) b E.length D rfl (hown.alloc _) _ _ rfl hk ?_; intro c hat hwc)
    | (go_at_call 79; refine (raise_any _ _ _).mono ?_; rintro e wx ⟨rfl, hww⟩; subst hww))
  exact ⟨rfl, rfl, (Below.refl _ _).alloc (Nat.le_refl _) _⟩

set_option maxRecDepth 100000 in
set_option maxHeartbeats 1000000 in
theorem demand_yes (w : World) (b : Nat) (E : List (ByteArray × Nat)) (hM : MapIs w b E) (sort line : Int) (word : ByteArray) (x y z n : Int) (nm : ByteArray) (hnm : nm.size ≤ 1048576) (hno : (namesE E).any (fun y => eqW y nm) = true) :
    Calls Tryz.prog 103 #[.map (some b), stm sort line word x y z n nm] w fun e w' => e = .returned (.tuple #[]) ∧ Below w.heap.size w w' := by
  obtain ⟨D, hown, hD, hhas, hat0, hpw⟩ := hM
  have hk := keyS nm (by unfold maxLen; omega)
  have hf := hhas nm
  rw [hno] at hf
  have hlt := hown.lt
  go_enter Tryz.func103, Tryz.ntmps103
  go_wp2_with (first
    | (at_lookup; refine wpList_lookup_own_ok_int _ rfl _ _ 81 rfl 9 3 .i64 lawS Tryz.under81 Tryz.underlying3 (zero3 _) b E.length D rfl (hown.alloc _) _ _ rfl hk ?_; intro c hat hwc))
  go_end0
  exact ⟨rfl, (Below.refl _ _).alloc (Nat.le_refl _) _⟩
set_option maxRecDepth 100000 in
set_option maxHeartbeats 1000000 in
theorem demand_no (w : World) (b : Nat) (E : List (ByteArray × Nat)) (hM : MapIs w b E) (sort line : Int) (word : ByteArray) (x y z n : Int) (nm : ByteArray) (hnm : nm.size ≤ 1048576) (hno : (namesE E).any (fun y => eqW y nm) = false) :
    Calls Tryz.prog 103 #[.map (some b), stm sort line word x y z n nm] w fun e w' => e = refusal 4 line ∧ Below w.heap.size w w' := by
  obtain ⟨D, hown, hD, hhas, hat0, hpw⟩ := hM
  have hk := keyS nm (by unfold maxLen; omega)
  have hf := hhas nm
  rw [hno] at hf
  have hlt := hown.lt
  go_enter Tryz.func103, Tryz.ntmps103
  go_wp2_with (first
    | (at_lookup; refine wpList_lookup_own_ok_int _ rfl _ _ 81 rfl 9 3 .i64 lawS Tryz.under81 Tryz.underlying3 (zero3 _) b E.length D rfl (hown.alloc _) _ _ rfl hk ?_; intro c hat hwc)
    | (go_at_call 79; refine (raise_any _ _ _).mono ?_; rintro e wx ⟨rfl, hww⟩; subst hww))
  exact ⟨rfl, rfl, (Below.refl _ _).alloc (Nat.le_refl _) _⟩

end Go.Proofs.YtfpgjkbjbbgciaaGreatDoor

namespace Go.Proofs.YtfpgjkbjbbgciaaGreatDoor
open Sp

/-- A function, as the program keeps it. -/
structure Fn where
  name : ByteArray
  line : Int
  body : List Key
def labsOf (b : List Key) : List ByteArray := (b.filter (fun k => decide (k.sort = 1))).map Key.nm
def addK (F : List Fn) (k : Key) : List Fn :=
  if k.sort = 0 then F ++ [⟨k.nm, k.line, []⟩]
  else match F.getLast? with
    | none => F
    | some f => F.dropLast ++ [⟨f.name, f.line, f.body ++ [k]⟩]
theorem addK_begin (F : List Fn) (k : Key) (h : k.sort = 0) : addK F k = F ++ [⟨k.nm, k.line, []⟩] := by simp [addK, h]
theorem addK_more (F : List Fn) (f : Fn) (k : Key) (h : ¬ k.sort = 0) : addK (F ++ [f]) k = F ++ [⟨f.name, f.line, f.body ++ [k]⟩] := by simp [addK, h]
/-- Does a name stand twice? -/
def bad0 (F : List Fn) (k : Key) : Bool :=
  if k.sort = 0 then (F.map Fn.name).any (fun y => eqW y k.nm)
  else if k.sort = 1 then (match F.getLast? with | none => false | some f => (labsOf f.body).any (fun y => eqW y k.nm)) else false

/-- From a line on: what is said up to the next function. -/
def bodyFrom (L : List Said) (i : Nat) : List Key :=
  if h : i < L.length then (if L[i].kind = 102 then [] else if L[i].kind = 0 then bodyFrom L (i + 1) else keyQ L[i] ((i : Int) + 1) :: bodyFrom L (i + 1)) else []
termination_by L.length - i
def fnsFrom (L : List Said) (i : Nat) : List Fn :=
  if h : i < L.length then (if L[i].kind = 102 then ⟨L[i].word 1, (i : Int) + 1, bodyFrom L (i + 1)⟩ :: fnsFrom L (i + 1) else fnsFrom L (i + 1)) else []
termination_by L.length - i
def keysFrom (L : List Said) (i : Nat) : List Key :=
  if h : i < L.length then (if L[i].kind = 0 then keysFrom L (i + 1) else keyQ L[i] ((i : Int) + 1) :: keysFrom L (i + 1)) else []
termination_by L.length - i
theorem bodyFrom_end (L : List Said) (i : Nat) (h : ¬ i < L.length) : bodyFrom L i = [] := by rw [bodyFrom, dif_neg h]
theorem bodyFrom_f (L : List Said) (i : Nat) (h : i < L.length) (h1 : L[i].kind = 102) : bodyFrom L i = [] := by rw [bodyFrom, dif_pos h, if_pos h1]
theorem bodyFrom_0 (L : List Said) (i : Nat) (h : i < L.length) (h0 : L[i].kind = 0) : bodyFrom L i = bodyFrom L (i + 1) := by rw [bodyFrom, dif_pos h, if_neg (by omega), if_pos h0]
theorem bodyFrom_on (L : List Said) (i : Nat) (h : i < L.length) (h0 : ¬ L[i].kind = 0) (h1 : ¬ L[i].kind = 102) : bodyFrom L i = keyQ L[i] ((i : Int) + 1) :: bodyFrom L (i + 1) := by rw [bodyFrom, dif_pos h, if_neg h1, if_neg h0]
theorem fnsFrom_end (L : List Said) (i : Nat) (h : ¬ i < L.length) : fnsFrom L i = [] := by rw [fnsFrom, dif_neg h]
theorem fnsFrom_f (L : List Said) (i : Nat) (h : i < L.length) (h1 : L[i].kind = 102) : fnsFrom L i = ⟨L[i].word 1, (i : Int) + 1, bodyFrom L (i + 1)⟩ :: fnsFrom L (i + 1) := by rw [fnsFrom, dif_pos h, if_pos h1]
theorem fnsFrom_on (L : List Said) (i : Nat) (h : i < L.length) (h1 : ¬ L[i].kind = 102) : fnsFrom L i = fnsFrom L (i + 1) := by rw [fnsFrom, dif_pos h, if_neg h1]
theorem keysFrom_end (L : List Said) (i : Nat) (h : ¬ i < L.length) : keysFrom L i = [] := by rw [keysFrom, dif_neg h]
theorem keysFrom_0 (L : List Said) (i : Nat) (h : i < L.length) (h0 : L[i].kind = 0) : keysFrom L i = keysFrom L (i + 1) := by rw [keysFrom, dif_pos h, if_pos h0]
theorem keysFrom_on (L : List Said) (i : Nat) (h : i < L.length) (h0 : ¬ L[i].kind = 0) : keysFrom L i = keyQ L[i] ((i : Int) + 1) :: keysFrom L (i + 1) := by rw [keysFrom, dif_pos h, if_neg h0]

theorem sortK_f (q : Said) (h : q.kind = 102) : sortK q = 0 := by simp [sortK, h]
theorem sortK_l (q : Said) (h : q.kind = 108) : sortK q = 1 := by simp [sortK, h]
theorem sortK_i (q : Said) (h1 : ¬ q.kind = 102) (h2 : ¬ q.kind = 108) : sortK q = 2 := by simp [sortK, h1, h2]
theorem sortK_n (q : Said) (h1 : ¬ q.kind = 102) : ¬ sortK q = 0 := by unfold sortK; rw [if_neg h1]; split <;> decide
theorem nameQ_f (q : Said) (h : q.kind = 102) : nameQ q = q.word 1 := by simp [nameQ, h]
theorem nameQ_l (q : Said) (h : q.kind = 108) : nameQ q = q.word 0 := by simp [nameQ, h]

/-- The program's functions are the text's. -/
theorem fold_fns (L : List Said) (i : Nat) (F : List Fn) (f : Fn) : (keysFrom L i).foldl addK (F ++ [f]) = F ++ (⟨f.name, f.line, f.body ++ bodyFrom L i⟩ :: fnsFrom L i) := by
  by_cases h : i < L.length
  · by_cases h0 : L[i].kind = 0
    · rw [keysFrom_0 L i h h0, bodyFrom_0 L i h h0, fnsFrom_on L i h (by omega)]
      exact fold_fns L (i + 1) F f
    · rw [keysFrom_on L i h h0, List.foldl_cons]
      by_cases h1 : L[i].kind = 102
      · rw [addK_begin _ _ (sortK_f _ h1), fold_fns L (i + 1) (F ++ [f]) _, bodyFrom_f L i h h1, fnsFrom_f L i h h1]
        simp [keyQ, nameQ_f _ h1]
      · rw [addK_more _ _ _ (sortK_n _ h1), fold_fns L (i + 1) F _, bodyFrom_on L i h h0 h1, fnsFrom_on L i h h1]
        simp
  · rw [keysFrom_end L i h, bodyFrom_end L i h, fnsFrom_end L i h]
    simp
termination_by L.length - i
theorem keysTo_from (A : List ByteArray) (i : Nat) : keysTo A A.length = keysTo A (min i A.length) ++ keysFrom (A.map say) i := by
  by_cases h : i < A.length
  · have hL : i < (A.map say).length := by simpa using h
    have hg : (A.map say)[i] = say A[i] := by simp
    rw [keysTo_from A (i + 1), Nat.min_eq_left (show i + 1 ≤ A.length from h), Nat.min_eq_left (Nat.le_of_lt h)]
    by_cases h0 : (say A[i]).kind = 0
    · rw [keysTo_skip A i h h0, keysFrom_0 _ i hL (by rw [hg]; exact h0)]
    · rw [keysTo_add A i h h0, keysFrom_on _ i hL (by rw [hg]; exact h0), hg]
      simp
  · rw [keysFrom_end _ i (by simpa using h), Nat.min_eq_right (by omega)]
    simp
termination_by A.length - i
theorem keys_all (A : List ByteArray) : keysTo A A.length = keysFrom (A.map say) 0 := by
  rw [keysTo_from A 0]; simp [keysTo]

/-- A label of a function. -/
theorem labs_any (L : List Said) (i : Nat) (x : ByteArray) : (labsOf (bodyFrom L i)).any (fun y => eqW y x) = decide (0 ≤ labFrom L x i) := by
  by_cases h : i < L.length
  · by_cases h1 : L[i].kind = 102
    · rw [bodyFrom_f L i h h1, labFrom_f L x i h h1]; rfl
    · by_cases h0 : L[i].kind = 0
      · rw [bodyFrom_0 L i h h0, labFrom_on L x i h h1 (by simp [isLab, h0])]
        exact labs_any L (i + 1) x
      · rw [bodyFrom_on L i h h0 h1]
        by_cases h2 : L[i].kind = 108
        · have e : labsOf (keyQ L[i] ((i : Int) + 1) :: bodyFrom L (i + 1)) = L[i].word 0 :: labsOf (bodyFrom L (i + 1)) := by
            simp [labsOf, keyQ, sortK_l _ h2, nameQ_l _ h2]
          rw [e, List.any_cons]
          by_cases h3 : eqW (L[i].word 0) x = true
          · rw [labFrom_hit L x i h h1 (by simp [isLab, h2, h3]), h3]
            simp
          · rw [labFrom_on L x i h h1 (by simp [isLab, h3]), labs_any L (i + 1) x]
            simp [h3]
        · have e : labsOf (keyQ L[i] ((i : Int) + 1) :: bodyFrom L (i + 1)) = labsOf (bodyFrom L (i + 1)) := by
            simp [labsOf, keyQ, sortK_i _ h1 h2]
          rw [e, labFrom_on L x i h h1 (by simp [isLab, h2])]
          exact labs_any L (i + 1) x
  · rw [bodyFrom_end L i h, labFrom_end L x i h]; rfl
termination_by L.length - i
theorem fns_any (L : List Said) (i : Nat) (x : ByteArray) : ((fnsFrom L i).map Fn.name).any (fun y => eqW y x) = decide (0 ≤ fnFrom L x i) := by
  by_cases h : i < L.length
  · by_cases h1 : L[i].kind = 102
    · rw [fnsFrom_f L i h h1, List.map_cons, List.any_cons]
      by_cases h3 : eqW (L[i].word 1) x = true
      · rw [fnFrom_hit L x i h (by simp [isFn, h1, h3])]
        simp [h3]
      · rw [fnFrom_on L x i h (by simp [isFn, h3]), fns_any L (i + 1) x]
        simp [h3]
    · rw [fnsFrom_on L i h h1, fnFrom_on L x i h (by simp [isFn, h1])]
      exact fns_any L (i + 1) x
  · rw [fnsFrom_end L i h, fnFrom_end L x i h]; rfl
termination_by L.length - i

/-- What a function must end with. -/
def endsK (b : List Key) : Bool := match b.getLast? with | none => false | some k => ends k.word
theorem ends_none : ends ⟨#[]⟩ = false := by simp [ends, isW, ByteArray.toList_eq]
def WfAll (L : List Said) : Prop := ∀ q ∈ L, Wf q
theorem WfAll.at {L : List Said} (hw : WfAll L) (i : Nat) (h : i < L.length) : Wf L[i] := hw _ (List.getElem_mem h)
theorem end_any (L : List Said) (hw : WfAll L) (i : Nat) (e : Bool) : endAt L i e = (match (bodyFrom L i).getLast? with | none => e | some k => ends k.word) := by
  by_cases h : i < L.length
  · by_cases h1 : L[i].kind = 102
    · rw [bodyFrom_f L i h h1, endAt_f L i e h h1]; rfl
    · rw [endAt_on L i e h h1, end_any L hw (i + 1)]
      by_cases h0 : L[i].kind = 0
      · rw [bodyFrom_0 L i h h0]
        simp [h0]
      · rw [bodyFrom_on L i h h0 h1, List.getLast?_cons]
        cases hb : (bodyFrom L (i + 1)).getLast? with
        | some k => rfl
        | none =>
          by_cases h2 : L[i].kind = 108
          · simp [h2, keyQ, wordK, ends_none]
          · have h5 : L[i].kind = 105 := by
              have := hw.at i h
              unfold Wf at this; omega
            simp [h5, keyQ, wordK]
  · rw [bodyFrom_end L i h, endAt_end L i e h]; rfl
termination_by L.length - i

end Go.Proofs.YtfpgjkbjbbgciaaGreatDoor

namespace Go.Proofs.YtfpgjkbjbbgciaaGreatDoor
open Sp

/-- Does a statement name what is not there? -/
def badKey (names labs : List ByteArray) (k : Key) : Bool :=
  (asksLab k.word && !labs.any (fun y => eqW y k.nm)) || (asksFn k.word && !names.any (fun y => eqW y k.nm))
def missBody (names labs : List ByteArray) (b : List Key) : Option Int := (b.find? (badKey names labs)).map Key.line
def missK (names : List ByteArray) : List Fn → Option Int
  | [] => none
  | f :: r => match missBody names (labsOf f.body) f.body with | some l => some l | none => missK names r
def endK : List Fn → Option Int
  | [] => none
  | f :: r => if endsK f.body = true then endK r else some f.line
def twiceK : List Fn → List Key → Option Int
  | _, [] => none
  | F, k :: r => if bad0 F k = true then some k.line else twiceK (addK F k) r
def orElse (e : Int) (o : Option Int) (c : Int × Int) : Int × Int := match o with | some l => (e, l) | none => c

theorem pass2 (L : List Said) (hw : WfAll L) (i : Nat) (c : Int × Int) : pass L 2 i c = orElse 5 (endK (fnsFrom L i)) c := by
  by_cases h : i < L.length
  · have hb : badB L 2 i = (if L[i].kind = 102 then !endAt L (i + 1) false else false) := by
      simp [badB, endlessB, List.getElem?_eq_getElem h]
    by_cases h1 : L[i].kind = 102
    · rw [if_pos h1, end_any L hw (i + 1) false] at hb
      change badB L 2 i = !endsK (bodyFrom L (i + 1)) at hb
      rw [fnsFrom_f L i h h1]
      cases he : endsK (bodyFrom L (i + 1)) with
      | true =>
        rw [pass_on L 2 i c h (by rw [hb, he]; rfl), pass2 L hw (i + 1) c]
        simp [endK, he]
      | false =>
        rw [pass_bad L 2 i c h (by rw [hb, he]; rfl)]
        simp [endK, he, orElse]
    · rw [if_neg h1] at hb
      rw [pass_on L 2 i c h hb, fnsFrom_on L i h h1]
      exact pass2 L hw (i + 1) c
  · rw [pass_end L 2 i c h, fnsFrom_end L i h]; rfl
termination_by L.length - i

def NmOk (L : List Said) : Prop := ∀ q ∈ L, q.kind = 105 → (asksLab (q.word 0) = true ∨ asksFn (q.word 0) = true) → nameQ q = q.last
theorem asks_both (x : ByteArray) (h : asksLab x = true) : asksFn x = false := by
  unfold asksLab isW at h
  unfold asksFn isW
  simp only [Bool.or_eq_true, beq_iff_eq] at h
  rcases h with (h | h) | h <;> rw [h] <;> decide
theorem asksLab_none : asksLab ⟨#[]⟩ = false := by simp [asksLab, isW, ByteArray.toList_eq]
theorem asksFn_none : asksFn ⟨#[]⟩ = false := by simp [asksFn, isW, ByteArray.toList_eq]

theorem miss_at (L : List Said) (_hw : WfAll L) (hn : NmOk L) (names labs : List ByteArray) (i o : Nat) (h : i < L.length) (ho : owner L i = (o : Int))
    (hN : ∀ x, names.any (fun y => eqW y x) = decide (0 ≤ fnFrom L x 0)) (hL : ∀ x, labs.any (fun y => eqW y x) = decide (0 ≤ labFrom L x (o + 1))) :
    badB L 1 i = badKey names labs (keyQ L[i] ((i : Int) + 1)) := by
  have e : badB L 1 i = missingB L i := by simp [badB]
  rw [e]
  unfold missingB
  rw [List.getElem?_eq_getElem h]
  dsimp only
  by_cases h5 : L[i].kind = 105
  · rw [if_pos h5]
    have hlab : labOf L i L[i].last = labFrom L L[i].last (o + 1) := by
      unfold labOf
      rw [ho]
      congr 1
    have ew : wordK L[i] = L[i].word 0 := by simp [wordK, h5]
    unfold badKey keyQ
    dsimp only
    rw [ew, hlab, hN, hL]
    by_cases h1 : asksLab (L[i].word 0) = true
    · rw [if_pos h1, hn _ (List.getElem_mem h) h5 (.inl h1), h1, asks_both _ h1]
      simp [← Int.not_le]
    · rw [if_neg h1]
      by_cases h2 : asksFn (L[i].word 0) = true
      · rw [if_pos h2, hn _ (List.getElem_mem h) h5 (.inr h2), h2]
        simp [h1, ← Int.not_le]
      · rw [if_neg h2]
        simp [h1, h2]
  · rw [if_neg h5]
    have ew : wordK L[i] = ⟨#[]⟩ := by simp [wordK, h5]
    unfold badKey keyQ
    dsimp only
    rw [ew, asksLab_none, asksFn_none]
    rfl
theorem find_cons (names labs : List ByteArray) (k : Key) (b : List Key) : missBody names labs (k :: b) = if badKey names labs k = true then some k.line else missBody names labs b := by
  unfold missBody
  rw [List.find?_cons]
  cases badKey names labs k <;> rfl

theorem pass1 (L : List Said) (hw : WfAll L) (hn : NmOk L) (names : List ByteArray) (hN : ∀ x, names.any (fun y => eqW y x) = decide (0 ≤ fnFrom L x 0)) (c : Int × Int) (i o : Nat) (ho : owner L i = (o : Int)) (labs : List ByteArray)
    (hL : ∀ x, labs.any (fun y => eqW y x) = decide (0 ≤ labFrom L x (o + 1))) :
    pass L 1 (i + 1) c = orElse 4 (match missBody names labs (bodyFrom L (i + 1)) with | some l => some l | none => missK names (fnsFrom L (i + 1))) c := by
  by_cases h : i + 1 < L.length
  · by_cases h1 : L[i + 1].kind = 102
    · have ho' := owner_is L (i + 1) h h1
      have hb : badB L 1 (i + 1) = false := by simp [badB, missingB, List.getElem?_eq_getElem h, h1]
      rw [pass_on L 1 (i + 1) c h hb, bodyFrom_f L (i + 1) h h1, fnsFrom_f L (i + 1) h h1, pass1 L hw hn names hN c (i + 1) (i + 1) ho' (labsOf (bodyFrom L (i + 1 + 1))) (fun x => labs_any L (i + 1 + 1) x)]
      rfl
    · have ho' : owner L (i + 1) = (o : Int) := (owner_succ L i h h1).trans ho
      have hb := miss_at L hw hn names labs (i + 1) o h ho' hN hL
      rw [fnsFrom_on L (i + 1) h h1]
      by_cases h0 : L[i + 1].kind = 0
      · have hb : badB L 1 (i + 1) = false := by simp [badB, missingB, List.getElem?_eq_getElem h, h0]
        rw [pass_on L 1 (i + 1) c h hb, bodyFrom_0 L (i + 1) h h0]
        exact pass1 L hw hn names hN c (i + 1) o ho' labs hL
      · rw [bodyFrom_on L (i + 1) h h0 h1, find_cons]
        cases hk : badKey names labs (keyQ L[i + 1] (((i + 1 : Nat) : Int) + 1)) with
        | true => rw [pass_bad L 1 (i + 1) c h (hb.trans hk)]; rfl
        | false =>
          rw [pass_on L 1 (i + 1) c h (hb.trans hk)]
          exact pass1 L hw hn names hN c (i + 1) o ho' labs hL
  · rw [pass_end L 1 (i + 1) c h, bodyFrom_end L _ h, fnsFrom_end L _ h]; rfl
termination_by L.length - i

end Go.Proofs.YtfpgjkbjbbgciaaGreatDoor
