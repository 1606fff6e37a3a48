import Derived.Test.YtfpgjkbjbbgciaaGreatDoorMb15
import Derived.Test.YtfpgjkbjbbgciaaGreatDoorMb24
import Derived.Test.YtfpgjkbjbbgciaaGreatDoorCards
import Derived.Test.YtfpgjkbjbbgciaaGreatDoorTie
import Derived.Deep.DeepLaidRun
import Derived.OpenShut
import Derived.Test.YtfpgjkbjbbgciaaGreatDoorMb05
import Derived.Test.YtfpgjkbjbbgciaaGreatDoorMb14
namespace Go.Proofs.YtfpgjkbjbbgciaaGreatDoor
open Go.ChangeShapes Go.WideShapes Go.ChangeAt Go.RowKit Sp

/-- The cells of a plain table. -/
def flatCells : DataW Unit → List Value
  | .agg l => l.map fun
    | .lit (.int k n) => Value.int k n
    | _ => Value.int .u8 0
  | _ => []
/-- A WORLD FOR THE WITNESS: the settled one, two blocks more (the errors' texts), the listed variables holding what their initialisers lay. -/
noncomputable def laidWorld (os : Os) : World :=
  let N := (World.settled Tryz.prog os).heap.size
  let w0 := World.holding Tryz.prog os ⟨#[
    .cells #[.string ⟨#[105, 110, 118, 97, 108, 105, 100, 32, 115, 121, 110, 116, 97, 120]⟩] 269,
    .cells #[.string ⟨#[118, 97, 108, 117, 101, 32, 111, 117, 116, 32, 111, 102, 32, 114, 97, 110, 103, 101]⟩] 269], #[], []⟩
  let put (h : Array Obj) (g : Nat) (cs : Array Value) : Array Obj := h.modify g fun
    | .cells _ t frozen => .cells cs t frozen
    | o => o
  let h1 := put w0.heap 1 (Lib.firstTab.map fun z => Value.int .u8 z).toArray
  let h2 := put h1 2 ((List.range 16).flatMap fun i => [Value.int .u8 (Lib.accLo i), Value.int .u8 (Lib.accHi i)]).toArray
  let h3 := put h2 3 #[.iface 267 (.pointer (some ⟨N, 0, none⟩))]
  let h4 := put h3 4 #[.iface 267 (.pointer (some ⟨N + 1, 0, none⟩))]
  let h5 := put h4 5 (flatCells Rows.laid_internal_strconv_uint64pow10).toArray
  let h6 := put h5 6 (flatCells Rows.laid_math_bits_deBruijn32tab).toArray
  let h7 := put h6 7 (flatCells Rows.laid_math_bits_deBruijn64tab).toArray
  { w0 with heap := h7 }
theorem laid_met (os : Os) (args : Array Value) : laidMet Tryz.prog Rows.checksUptoRow.laid ((laidWorld os).forCall (fun _ _ => 0) ⟨#[], args, []⟩).memory :=
  laidMet_of_run3 8 (by kernel_rfl) (by kernel_rfl) (by kernel_rfl)

end Go.Proofs.YtfpgjkbjbbgciaaGreatDoor

/- The machine of the document, as plain functions. Nothing of the dump. -/
namespace Go.Proofs.YtfpgjkbjbbgciaaGreatDoor.Sp

/-- An instruction; the places that it names are numbers. -/
inductive Ins where
  | set (r : Nat) (k : Int)
  | mov (r s : Nat)
  | alu (o : Nat) (r s t : Nat)
  | inc (r : Nat) (k : Int)
  | load (r s : Nat)
  | store (r s : Nat)
  | read (r : Nat)
  | write (r : Nat)
  | jump (to : Int)
  | less (r s : Nat) (to : Int)
  | same (r s : Nat) (to : Int)
  | call (to : Int)
  | back
  | stop
structure Mc where
  at' : Int
  backs : List Int
  inp : List Int
  steps : Int
  regs : Nat → Int
  cells : Nat → Int
  out : List Int
  frames : Int
  peak : Int
  fin : Int
def upd (f : Nat → Int) (i : Nat) (v : Int) : Nat → Int := fun j => if j = i then v else f j
theorem upd_same (f : Nat → Int) (i : Nat) (v : Int) : upd f i v i = v := by simp [upd]
theorem upd_other (f : Nat → Int) (i j : Nat) (v : Int) (h : ¬ j = i) : upd f i v j = f j := by simp [upd, h]
/-- A number of 64 bits. -/
def w64 (x : Int) : Int := (x + 9223372036854775808) % 18446744073709551616 - 9223372036854775808
def reckonS (o : Nat) (a b : Int) : Int := if o = 0 then w64 (a + b) else if o = 1 then w64 (a - b) else w64 (a * b)
/-- A step that ends at a place. -/
def Mc.goes (m : Mc) (to : Int) : Mc := { m with steps := m.steps + 1, at' := to }
def exec (i : Ins) (next : Int) (m : Mc) : Mc :=
  match i with
  | .set r k => { m with regs := upd m.regs r k }.goes next
  | .mov r s => { m with regs := upd m.regs r (m.regs s) }.goes next
  | .alu o r s t => { m with regs := upd m.regs r (reckonS o (m.regs s) (m.regs t)) }.goes next
  | .inc r k => { m with regs := upd m.regs r (w64 (m.regs r + k)) }.goes next
  | .load r s => if m.regs s < 0 ∨ 15 < m.regs s then { m with fin := 3 } else { m with regs := upd m.regs r (m.cells (m.regs s).toNat) }.goes next
  | .store r s => if m.regs r < 0 ∨ 15 < m.regs r then { m with fin := 3 } else { m with cells := upd m.cells (m.regs r).toNat (m.regs s) }.goes next
  | .read r => { m with regs := upd m.regs r (m.inp.headD 0), inp := m.inp.tail }.goes next
  | .write r => { m with out := m.out ++ [m.regs r] }.goes next
  | .jump to => m.goes to
  | .less r s to => m.goes (if m.regs r < m.regs s then to else next)
  | .same r s to => m.goes (if m.regs r = m.regs s then to else next)
  | .call to => if m.frames = 16 then { m with fin := 4 } else { m with backs := m.backs ++ [next], frames := m.frames + 1, peak := max m.peak (m.frames + 1) }.goes to
  | .back => if m.frames = 1 then { m with frames := 0, fin := 2 }.goes (-1) else { m with frames := m.frames - 1, backs := m.backs.dropLast }.goes (m.backs.getLastD 0)
  | .stop => { m with fin := 1 }.goes (-1)

/-- The next instruction from a line on, in the same function; -1: there is none. -/
def nextFrom (L : List Said) (i : Nat) : Int :=
  if h : i < L.length then (if L[i].kind = 102 then -1 else if L[i].kind = 105 then (i : Int) else nextFrom L (i + 1)) else -1
termination_by L.length - i
theorem nextFrom_end (L : List Said) (i : Nat) (h : ¬ i < L.length) : nextFrom L i = -1 := by rw [nextFrom, dif_neg h]
theorem nextFrom_f (L : List Said) (i : Nat) (h : i < L.length) (h' : L[i].kind = 102) : nextFrom L i = -1 := by rw [nextFrom, dif_pos h, if_pos h']
theorem nextFrom_hit (L : List Said) (i : Nat) (h : i < L.length) (h' : L[i].kind = 105) : nextFrom L i = i := by rw [nextFrom, dif_pos h, if_neg (by omega), if_pos h']
theorem nextFrom_on (L : List Said) (i : Nat) (h : i < L.length) (h0 : ¬ L[i].kind = 102) (h' : ¬ L[i].kind = 105) : nextFrom L i = nextFrom L (i + 1) := by rw [nextFrom, dif_pos h, if_neg h0, if_neg h']
theorem nextFrom_bd (L : List Said) (i : Nat) : -1 ≤ nextFrom L i ∧ nextFrom L i < L.length ∨ nextFrom L i = -1 := by
  by_cases h : i < L.length
  · by_cases h1 : L[i].kind = 102
    · exact .inr (nextFrom_f L i h h1)
    · by_cases h2 : L[i].kind = 105
      · rw [nextFrom_hit L i h h2]; exact .inl ⟨by omega, by omega⟩
      · rw [nextFrom_on L i h h1 h2]; exact nextFrom_bd L (i + 1)
  · exact .inr (nextFrom_end L i h)
termination_by L.length - i

def regN (x : ByteArray) : Nat := (reg x).toNat
/-- Where a name that a line asks for leads to. -/
def labTo (L : List Said) (k : Nat) (x : ByteArray) : Int := nextFrom L (labOf L k x).toNat
def fnTo (L : List Said) (x : ByteArray) : Int := nextFrom L (fnFrom L x 0 + 1).toNat
/-- The instruction that a line says. -/
def insQ (L : List Said) (k : Nat) (q : Said) : Ins :=
  if isW (q.word 0) [106, 117, 109, 112] = true then .jump (labTo L k q.last)
  else if isW (q.word 0) [108, 101, 115, 115] = true then .less (regN (q.word 1)) (regN (q.word 2)) (labTo L k q.last)
  else if isW (q.word 0) [115, 97, 109, 101] = true then .same (regN (q.word 1)) (regN (q.word 2)) (labTo L k q.last)
  else if isW (q.word 0) [99, 97, 108, 108] = true then .call (fnTo L q.last)
  else if isW (q.word 0) [98, 97, 99, 107] = true then .back
  else if isW (q.word 0) [115, 116, 111, 112] = true then .stop
  else if isW (q.word 0) [115, 101, 116] = true then .set (regN (q.word 1)) (numOf (q.word 2)).1
  else if isW (q.word 0) [109, 111, 118] = true then .mov (regN (q.word 1)) (regN (q.word 2))
  else if isW (q.word 0) [97, 100, 100] = true then .alu 0 (regN (q.word 1)) (regN (q.word 2)) (regN (q.word 3))
  else if isW (q.word 0) [115, 117, 98] = true then .alu 1 (regN (q.word 1)) (regN (q.word 2)) (regN (q.word 3))
  else if isW (q.word 0) [109, 117, 108] = true then .alu 2 (regN (q.word 1)) (regN (q.word 2)) (regN (q.word 3))
  else if isW (q.word 0) [105, 110, 99] = true then .inc (regN (q.word 1)) (numOf (q.word 2)).1
  else if isW (q.word 0) [108, 111, 97, 100] = true then .load (regN (q.word 1)) (regN (q.word 2))
  else if isW (q.word 0) [115, 116, 111, 114, 101] = true then .store (regN (q.word 1)) (regN (q.word 2))
  else if isW (q.word 0) [114, 101, 97, 100] = true then .read (regN (q.word 1))
  else .write (regN (q.word 1))
/-- A step of the document's machine. -/
def stepL (L : List Said) (m : Mc) : Mc :=
  match L[m.at'.toNat]? with
  | none => m
  | some q => exec (insQ L m.at'.toNat q) (nextFrom L (m.at'.toNat + 1)) m
/-- So many steps, as long as it does not stand still. -/
def runS (f : Mc → Mc) : Nat → Mc → Mc
  | 0, m => m
  | n + 1, m => if m.fin = 0 then runS f n (f m) else m
theorem runS_stop (f : Mc → Mc) (n : Nat) (m : Mc) (h : ¬ m.fin = 0) : runS f n m = m := by
  cases n with
  | zero => rfl
  | succ n => show (if m.fin = 0 then _ else _) = m; rw [if_neg h]
theorem runS_step (f : Mc → Mc) (n : Nat) (m : Mc) (h : m.fin = 0) : runS f (n + 1) m = runS f n (f m) := by
  show (if m.fin = 0 then _ else _) = _; rw [if_pos h]
def firstFn (L : List Said) (i : Nat) : Nat := if h : i < L.length then (if L[i].kind = 102 then i else firstFn L (i + 1)) else i
termination_by L.length - i
def beginL (L : List Said) (inp : List Int) : Mc := ⟨nextFrom L (firstFn L 0 + 1), [], inp, 0, fun _ => 0, fun _ => 0, [], 1, 1, 0⟩
/-- What is told of the line that comes next. -/
def Mc.line (m : Mc) : Int := if m.fin = 1 ∨ m.fin = 2 then 0 else m.at' + 1

end Go.Proofs.YtfpgjkbjbbgciaaGreatDoor.Sp

namespace Go.Proofs.YtfpgjkbjbbgciaaGreatDoor
open Go.RowKit Sp

set_option maxRecDepth 100000 in
set_option maxHeartbeats 1000000 in
theorem next_any (L : List Said) (g cap k : Nat) (w : World) (hL : LinesIn w g L) (hn : L.length ≤ 1048577) (hk : k ≤ L.length + 1) :
    Calls Tryz.prog 88 #[.slice (some ⟨g, 0, none⟩) L.length cap, .int .i64 (k : Int)] w fun e w' => e = .returned (.int .i64 (nextFrom L k)) ∧ w' = w := by
  go_enter Tryz.func88, Tryz.ntmps88
  go_wp2
  go_loop [5] (fun t => ∃ j : Nat, j ≤ L.length + 1 ∧ t = .int .i64 (j : Int) ∧ nextFrom L k = nextFrom L j) (fun t => L.length + 1 - (intOf t).toNat)
  case atStart => exact ⟨k, hk, rfl, rfl⟩
  case round =>
    obtain ⟨j, hj, rfl, hR⟩ := hrel
    have HR : Hid (nextFrom L k = nextFrom L j) := hR
    clear hR
    by_cases hlt : j < L.length
    · have hc := hL.kind j hlt
      have hb := wf_kind (hL.wf j hlt)
      cases h102 : (L[j].kind != 102) with
      | false =>
        have HQ : Hid (nextFrom L k = -1) := HR.out.trans (nextFrom_f L j hlt (by simpa using h102))
        go_wp2
        go_ret
        exact ⟨ret_int (by rw [HQ.out]), rfl⟩
      | true =>
        cases h105 : (L[j].kind == 105) with
        | true =>
          have HQ : Hid (nextFrom L k = j) := HR.out.trans (nextFrom_hit L j hlt (by simpa using h105))
          go_wp2
          go_ret
          exact ⟨ret_int (by rw [HQ.out]), rfl⟩
        | false =>
          have HQ : Hid (nextFrom L k = nextFrom L (j + 1)) := HR.out.trans (nextFrom_on L j hlt (by simpa using h102) (by simpa using h105))
          go_wp2
          go_round
          case rel => exact ⟨j + 1, by omega, by go_num, HQ.out⟩
          case measure => simp [intOf]; omega
    · have HQ : Hid (nextFrom L k = -1) := HR.out.trans (nextFrom_end L j hlt)
      go_wp2
      go_ret
      exact ⟨ret_int (by rw [HQ.out]), rfl⟩

theorem reckon0 (a b : Int) : wrap64 (a + b) = reckonS 0 a b := by simp [reckonS, w64, wrap64]
theorem reckon1 (a b : Int) : wrap64 (a - b) = reckonS 1 a b := by simp [reckonS, w64, wrap64]
theorem reckon2 (a b : Int) : wrap64 (a * b) = reckonS 2 a b := by simp [reckonS, w64, wrap64]
theorem reckon_add (a b : Int) (w : World) : Calls Tryz.prog 111 #[.string ⟨#[97, 100, 100]⟩, .int .i64 a, .int .i64 b] w fun e w' => e = .returned (.int .i64 (reckonS 0 a b)) ∧ w' = w := by
  go_enter Tryz.func111, Tryz.ntmps111
  go_wp2
  go_ret
  exact ⟨ret_int (reckon0 a b), rfl⟩
theorem reckon_sub (a b : Int) (w : World) : Calls Tryz.prog 111 #[.string ⟨#[115, 117, 98]⟩, .int .i64 a, .int .i64 b] w fun e w' => e = .returned (.int .i64 (reckonS 1 a b)) ∧ w' = w := by
  go_enter Tryz.func111, Tryz.ntmps111
  go_wp2
  go_ret
  exact ⟨ret_int (reckon1 a b), rfl⟩
theorem reckon_mul (a b : Int) (w : World) : Calls Tryz.prog 111 #[.string ⟨#[109, 117, 108]⟩, .int .i64 a, .int .i64 b] w fun e w' => e = .returned (.int .i64 (reckonS 2 a b)) ∧ w' = w := by
  go_enter Tryz.func111, Tryz.ntmps111
  go_wp2
  go_ret
  exact ⟨ret_int (reckon2 a b), rfl⟩

/-! ### The document's machine in memory -/
abbrev i64s (l : List Int) : List Value := l.map (Value.int .i64)
/-- A slice of numbers that is only read. -/
def SlIn (w : World) (v : Value) (l : List Int) : Prop := ∃ ao cap, v = .slice ao l.length cap ∧ l.length ≤ cap ∧ (0 < l.length → ∃ g o, ao = some ⟨g, o, none⟩ ∧ ∀ j (h : j < l.length), w.cell? ⟨g, o + j, none⟩ = some (.int .i64 l[j]))
structure RefM (w : World) (b : Nat) (lv bv iv ov : Value) (m : Mc) : Prop where
  cL : w.cell? ⟨b, 0, none⟩ = some lv
  cAt : w.cell? ⟨b, 1, none⟩ = some (.int .i64 m.at')
  cB : w.cell? ⟨b, 2, none⟩ = some bv
  cI : w.cell? ⟨b, 3, none⟩ = some iv
  cS : w.cell? ⟨b, 4, none⟩ = some (.int .i64 m.steps)
  cR : ∀ i, i < 8 → w.cell? ⟨b, 5 + i, none⟩ = some (.int .i64 (m.regs i))
  cC : ∀ i, i < 16 → w.cell? ⟨b, 13 + i, none⟩ = some (.int .i64 (m.cells i))
  cO : w.cell? ⟨b, 29, none⟩ = some ov
  cF : w.cell? ⟨b, 30, none⟩ = some (.int .i64 m.frames)
  cP : w.cell? ⟨b, 31, none⟩ = some (.int .i64 m.peak)
  cA : w.cell? ⟨b, 32, none⟩ = some (.int .i64 0)
  cE : w.cell? ⟨b, 33, none⟩ = some (.int .i64 m.fin)
  fz : ∀ o, w.frozen? ⟨b, o, none⟩ = false
/-- What a cell holds behind a store. -/
theorem cell_set (w : World) (b o j : Nat) (v u : Value) (hu : w.cell? ⟨b, o, none⟩ = some u) : (w.setCell ⟨b, o, none⟩ v).cell? ⟨b, j, none⟩ = if j = o then some v else w.cell? ⟨b, j, none⟩ := by
  by_cases h : j = o
  · subst h; rw [if_pos rfl]; exact World.cell?_setCell_same w _ _ hu
  · rw [if_neg h, World.cell?_setCell_other]; simp
theorem fz_set (w : World) (b o j : Nat) (v : Value) (h : w.frozen? ⟨b, j, none⟩ = false) : (w.setCell ⟨b, o, none⟩ v).frozen? ⟨b, j, none⟩ = false := by simpa using h

theorem RefM.setAt {w : World} {b : Nat} {lv bv iv ov : Value} {m : Mc} (h : RefM w b lv bv iv ov m) (x : Int) : RefM (w.setCell ⟨b, 1, none⟩ (.int .i64 x)) b lv bv iv ov { m with at' := x } := by
  have e := fun j => cell_set w b (1) j (.int .i64 x) _ h.cAt
  exact ⟨by rw [e, if_neg (by omega)]; exact h.cL, by rw [e, if_pos rfl], by rw [e, if_neg (by omega)]; exact h.cB, by rw [e, if_neg (by omega)]; exact h.cI, by rw [e, if_neg (by omega)]; exact h.cS, fun i hi => by rw [e, if_neg (by omega)]; exact h.cR i hi, fun i hi => by rw [e, if_neg (by omega)]; exact h.cC i hi, by rw [e, if_neg (by omega)]; exact h.cO, by rw [e, if_neg (by omega)]; exact h.cF, by rw [e, if_neg (by omega)]; exact h.cP, by rw [e, if_neg (by omega)]; exact h.cA, by rw [e, if_neg (by omega)]; exact h.cE, fun o => fz_set w b _ o _ (h.fz o)⟩
theorem RefM.setB {w : World} {b : Nat} {lv bv iv ov : Value} {m : Mc} (h : RefM w b lv bv iv ov m) (u : Value) (l : List Int) : RefM (w.setCell ⟨b, 2, none⟩ u) b lv u iv ov { m with backs := l } := by
  have e := fun j => cell_set w b (2) j u _ h.cB
  exact ⟨by rw [e, if_neg (by omega)]; exact h.cL, by rw [e, if_neg (by omega)]; exact h.cAt, by rw [e, if_pos rfl], by rw [e, if_neg (by omega)]; exact h.cI, by rw [e, if_neg (by omega)]; exact h.cS, fun i hi => by rw [e, if_neg (by omega)]; exact h.cR i hi, fun i hi => by rw [e, if_neg (by omega)]; exact h.cC i hi, by rw [e, if_neg (by omega)]; exact h.cO, by rw [e, if_neg (by omega)]; exact h.cF, by rw [e, if_neg (by omega)]; exact h.cP, by rw [e, if_neg (by omega)]; exact h.cA, by rw [e, if_neg (by omega)]; exact h.cE, fun o => fz_set w b _ o _ (h.fz o)⟩
theorem RefM.setI {w : World} {b : Nat} {lv bv iv ov : Value} {m : Mc} (h : RefM w b lv bv iv ov m) (u : Value) (l : List Int) : RefM (w.setCell ⟨b, 3, none⟩ u) b lv bv u ov { m with inp := l } := by
  have e := fun j => cell_set w b (3) j u _ h.cI
  exact ⟨by rw [e, if_neg (by omega)]; exact h.cL, by rw [e, if_neg (by omega)]; exact h.cAt, by rw [e, if_neg (by omega)]; exact h.cB, by rw [e, if_pos rfl], by rw [e, if_neg (by omega)]; exact h.cS, fun i hi => by rw [e, if_neg (by omega)]; exact h.cR i hi, fun i hi => by rw [e, if_neg (by omega)]; exact h.cC i hi, by rw [e, if_neg (by omega)]; exact h.cO, by rw [e, if_neg (by omega)]; exact h.cF, by rw [e, if_neg (by omega)]; exact h.cP, by rw [e, if_neg (by omega)]; exact h.cA, by rw [e, if_neg (by omega)]; exact h.cE, fun o => fz_set w b _ o _ (h.fz o)⟩
theorem RefM.setS {w : World} {b : Nat} {lv bv iv ov : Value} {m : Mc} (h : RefM w b lv bv iv ov m) (x : Int) : RefM (w.setCell ⟨b, 4, none⟩ (.int .i64 x)) b lv bv iv ov { m with steps := x } := by
  have e := fun j => cell_set w b (4) j (.int .i64 x) _ h.cS
  exact ⟨by rw [e, if_neg (by omega)]; exact h.cL, by rw [e, if_neg (by omega)]; exact h.cAt, by rw [e, if_neg (by omega)]; exact h.cB, by rw [e, if_neg (by omega)]; exact h.cI, by rw [e, if_pos rfl], fun i hi => by rw [e, if_neg (by omega)]; exact h.cR i hi, fun i hi => by rw [e, if_neg (by omega)]; exact h.cC i hi, by rw [e, if_neg (by omega)]; exact h.cO, by rw [e, if_neg (by omega)]; exact h.cF, by rw [e, if_neg (by omega)]; exact h.cP, by rw [e, if_neg (by omega)]; exact h.cA, by rw [e, if_neg (by omega)]; exact h.cE, fun o => fz_set w b _ o _ (h.fz o)⟩
theorem RefM.setR {w : World} {b : Nat} {lv bv iv ov : Value} {m : Mc} (h : RefM w b lv bv iv ov m) (r : Nat) (hr : r < 8) (x : Int) : RefM (w.setCell ⟨b, 5 + r, none⟩ (.int .i64 x)) b lv bv iv ov { m with regs := upd m.regs r x } := by
  have e := fun j => cell_set w b (5 + r) j (.int .i64 x) _ (h.cR r hr)
  exact ⟨by rw [e, if_neg (by omega)]; exact h.cL, by rw [e, if_neg (by omega)]; exact h.cAt, by rw [e, if_neg (by omega)]; exact h.cB, by rw [e, if_neg (by omega)]; exact h.cI, by rw [e, if_neg (by omega)]; exact h.cS, fun i hi => by
    rw [e]
    by_cases hr' : i = r
    · subst hr'; rw [if_pos rfl]; show _ = some (Value.int .i64 (upd _ _ _ _)); rw [upd_same]
    · rw [if_neg (by omega)]; show _ = some (Value.int .i64 (upd _ _ _ _)); rw [upd_other _ _ _ _ hr']; exact h.cR i hi, fun i hi => by rw [e, if_neg (by omega)]; exact h.cC i hi, by rw [e, if_neg (by omega)]; exact h.cO, by rw [e, if_neg (by omega)]; exact h.cF, by rw [e, if_neg (by omega)]; exact h.cP, by rw [e, if_neg (by omega)]; exact h.cA, by rw [e, if_neg (by omega)]; exact h.cE, fun o => fz_set w b _ o _ (h.fz o)⟩
theorem RefM.setC {w : World} {b : Nat} {lv bv iv ov : Value} {m : Mc} (h : RefM w b lv bv iv ov m) (r : Nat) (hr : r < 16) (x : Int) : RefM (w.setCell ⟨b, 13 + r, none⟩ (.int .i64 x)) b lv bv iv ov { m with cells := upd m.cells r x } := by
  have e := fun j => cell_set w b (13 + r) j (.int .i64 x) _ (h.cC r hr)
  exact ⟨by rw [e, if_neg (by omega)]; exact h.cL, by rw [e, if_neg (by omega)]; exact h.cAt, by rw [e, if_neg (by omega)]; exact h.cB, by rw [e, if_neg (by omega)]; exact h.cI, by rw [e, if_neg (by omega)]; exact h.cS, fun i hi => by rw [e, if_neg (by omega)]; exact h.cR i hi, fun i hi => by
    rw [e]
    by_cases hr' : i = r
    · subst hr'; rw [if_pos rfl]; show _ = some (Value.int .i64 (upd _ _ _ _)); rw [upd_same]
    · rw [if_neg (by omega)]; show _ = some (Value.int .i64 (upd _ _ _ _)); rw [upd_other _ _ _ _ hr']; exact h.cC i hi, by rw [e, if_neg (by omega)]; exact h.cO, by rw [e, if_neg (by omega)]; exact h.cF, by rw [e, if_neg (by omega)]; exact h.cP, by rw [e, if_neg (by omega)]; exact h.cA, by rw [e, if_neg (by omega)]; exact h.cE, fun o => fz_set w b _ o _ (h.fz o)⟩
theorem RefM.setO {w : World} {b : Nat} {lv bv iv ov : Value} {m : Mc} (h : RefM w b lv bv iv ov m) (u : Value) (l : List Int) : RefM (w.setCell ⟨b, 29, none⟩ u) b lv bv iv u { m with out := l } := by
  have e := fun j => cell_set w b (29) j u _ h.cO
  exact ⟨by rw [e, if_neg (by omega)]; exact h.cL, by rw [e, if_neg (by omega)]; exact h.cAt, by rw [e, if_neg (by omega)]; exact h.cB, by rw [e, if_neg (by omega)]; exact h.cI, by rw [e, if_neg (by omega)]; exact h.cS, fun i hi => by rw [e, if_neg (by omega)]; exact h.cR i hi, fun i hi => by rw [e, if_neg (by omega)]; exact h.cC i hi, by rw [e, if_pos rfl], by rw [e, if_neg (by omega)]; exact h.cF, by rw [e, if_neg (by omega)]; exact h.cP, by rw [e, if_neg (by omega)]; exact h.cA, by rw [e, if_neg (by omega)]; exact h.cE, fun o => fz_set w b _ o _ (h.fz o)⟩
theorem RefM.setF {w : World} {b : Nat} {lv bv iv ov : Value} {m : Mc} (h : RefM w b lv bv iv ov m) (x : Int) : RefM (w.setCell ⟨b, 30, none⟩ (.int .i64 x)) b lv bv iv ov { m with frames := x } := by
  have e := fun j => cell_set w b (30) j (.int .i64 x) _ h.cF
  exact ⟨by rw [e, if_neg (by omega)]; exact h.cL, by rw [e, if_neg (by omega)]; exact h.cAt, by rw [e, if_neg (by omega)]; exact h.cB, by rw [e, if_neg (by omega)]; exact h.cI, by rw [e, if_neg (by omega)]; exact h.cS, fun i hi => by rw [e, if_neg (by omega)]; exact h.cR i hi, fun i hi => by rw [e, if_neg (by omega)]; exact h.cC i hi, by rw [e, if_neg (by omega)]; exact h.cO, by rw [e, if_pos rfl], by rw [e, if_neg (by omega)]; exact h.cP, by rw [e, if_neg (by omega)]; exact h.cA, by rw [e, if_neg (by omega)]; exact h.cE, fun o => fz_set w b _ o _ (h.fz o)⟩
theorem RefM.setP {w : World} {b : Nat} {lv bv iv ov : Value} {m : Mc} (h : RefM w b lv bv iv ov m) (x : Int) : RefM (w.setCell ⟨b, 31, none⟩ (.int .i64 x)) b lv bv iv ov { m with peak := x } := by
  have e := fun j => cell_set w b (31) j (.int .i64 x) _ h.cP
  exact ⟨by rw [e, if_neg (by omega)]; exact h.cL, by rw [e, if_neg (by omega)]; exact h.cAt, by rw [e, if_neg (by omega)]; exact h.cB, by rw [e, if_neg (by omega)]; exact h.cI, by rw [e, if_neg (by omega)]; exact h.cS, fun i hi => by rw [e, if_neg (by omega)]; exact h.cR i hi, fun i hi => by rw [e, if_neg (by omega)]; exact h.cC i hi, by rw [e, if_neg (by omega)]; exact h.cO, by rw [e, if_neg (by omega)]; exact h.cF, by rw [e, if_pos rfl], by rw [e, if_neg (by omega)]; exact h.cA, by rw [e, if_neg (by omega)]; exact h.cE, fun o => fz_set w b _ o _ (h.fz o)⟩
theorem RefM.setE {w : World} {b : Nat} {lv bv iv ov : Value} {m : Mc} (h : RefM w b lv bv iv ov m) (x : Int) : RefM (w.setCell ⟨b, 33, none⟩ (.int .i64 x)) b lv bv iv ov { m with fin := x } := by
  have e := fun j => cell_set w b (33) j (.int .i64 x) _ h.cE
  exact ⟨by rw [e, if_neg (by omega)]; exact h.cL, by rw [e, if_neg (by omega)]; exact h.cAt, by rw [e, if_neg (by omega)]; exact h.cB, by rw [e, if_neg (by omega)]; exact h.cI, by rw [e, if_neg (by omega)]; exact h.cS, fun i hi => by rw [e, if_neg (by omega)]; exact h.cR i hi, fun i hi => by rw [e, if_neg (by omega)]; exact h.cC i hi, by rw [e, if_neg (by omega)]; exact h.cO, by rw [e, if_neg (by omega)]; exact h.cF, by rw [e, if_neg (by omega)]; exact h.cP, by rw [e, if_neg (by omega)]; exact h.cA, by rw [e, if_pos rfl], fun o => fz_set w b _ o _ (h.fz o)⟩
theorem RefM.of_block {w w' : World} {b : Nat} {lv bv iv ov : Value} {m : Mc} (h : RefM w b lv bv iv ov m) (e : w'.heap[b]? = w.heap[b]?) : RefM w' b lv bv iv ov m := by
  have z : ∀ j, w'.cell? ⟨b, j, none⟩ = w.cell? ⟨b, j, none⟩ := fun j => World.cell?_of_block (w := w) e
  have f : ∀ j, w'.frozen? ⟨b, j, none⟩ = w.frozen? ⟨b, j, none⟩ := fun j => World.frozen?_of_block (w := w) e
  exact ⟨by rw [z]; exact h.cL, by rw [z]; exact h.cAt, by rw [z]; exact h.cB, by rw [z]; exact h.cI, by rw [z]; exact h.cS, fun i hi => by rw [z]; exact h.cR i hi, fun i hi => by rw [z]; exact h.cC i hi, by rw [z]; exact h.cO, by rw [z]; exact h.cF, by rw [z]; exact h.cP, by rw [z]; exact h.cA, by rw [z]; exact h.cE, fun o => by rw [f]; exact h.fz o⟩
theorem RefM.lt {w : World} {b : Nat} {lv bv iv ov : Value} {m : Mc} (h : RefM w b lv bv iv ov m) : b < w.heap.size := by have := World.block_lt_of_cell? w _ h.cL; simpa using this

end Go.Proofs.YtfpgjkbjbbgciaaGreatDoor
