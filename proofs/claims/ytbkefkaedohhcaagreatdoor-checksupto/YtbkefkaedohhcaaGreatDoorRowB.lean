import Derived.Test.YtbkefkaedohhcaaGreatDoorRowA
import Derived.Test.YtbkefkaedohhcaaGreatDoorCeC
import Derived.Test.YtbkefkaedohhcaaGreatDoorCards
import Derived.Test.YtbkefkaedohhcaaGreatDoorTie
import Derived.Deep.DeepLaidRun
import Derived.OpenShut
namespace Go.Proofs.YtbkefkaedohhcaaGreatDoor
open Go.ChangeShapes Go.WideShapes Go.ChangeAt Go.RowKit Sp

/-- The cells of a plain table. -/
def flatCells : DataW Unit → List Value
  | .agg l => l.map fun
    | .lit (.int k n) => Value.int k n
    | _ => Value.int .u8 0
  | _ => []
/-- A WORLD FOR THE WITNESS: the settled one, two blocks more (the errors' texts), the listed variables holding what their initialisers lay. -/
noncomputable def laidWorld (os : Os) : World :=
  let N := (World.settled Tryz.prog os).heap.size
  let w0 := World.holding Tryz.prog os ⟨#[
    .cells #[.string ⟨#[105, 110, 118, 97, 108, 105, 100, 32, 115, 121, 110, 116, 97, 120]⟩] 213,
    .cells #[.string ⟨#[118, 97, 108, 117, 101, 32, 111, 117, 116, 32, 111, 102, 32, 114, 97, 110, 103, 101]⟩] 213], #[], []⟩
  let put (h : Array Obj) (g : Nat) (cs : Array Value) : Array Obj := h.modify g fun
    | .cells _ t frozen => .cells cs t frozen
    | o => o
  let h1 := put w0.heap 1 (Lib.firstTab.map fun z => Value.int .u8 z).toArray
  let h2 := put h1 2 ((List.range 16).flatMap fun i => [Value.int .u8 (Lib.accLo i), Value.int .u8 (Lib.accHi i)]).toArray
  let h3 := put h2 3 #[.iface 211 (.pointer (some ⟨N, 0, none⟩))]
  let h4 := put h3 4 #[.iface 211 (.pointer (some ⟨N + 1, 0, none⟩))]
  let h5 := put h4 5 (flatCells Rows.laid_internal_strconv_uint64pow10).toArray
  let h6 := put h5 6 (flatCells Rows.laid_math_bits_deBruijn32tab).toArray
  let h7 := put h6 7 (flatCells Rows.laid_math_bits_deBruijn64tab).toArray
  { w0 with heap := h7 }
theorem laid_met (os : Os) (args : Array Value) : laidMet Tryz.prog Rows.checksUptoRow.laid ((laidWorld os).forCall (fun _ _ => 0) ⟨#[], args, []⟩).memory :=
  laidMet_of_run3 8 (by kernel_rfl) (by kernel_rfl) (by kernel_rfl)

end Go.Proofs.YtbkefkaedohhcaaGreatDoor
