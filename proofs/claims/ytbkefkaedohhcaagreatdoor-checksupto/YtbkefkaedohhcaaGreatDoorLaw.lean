import Derived.Test.YtbkefkaedohhcaaGreatDoorCdM
import Derived.Test.YtbkefkaedohhcaaGreatDoorRfP
namespace Go.Proofs.YtbkefkaedohhcaaGreatDoor
open Go.RowKit Sp

set_option maxRecDepth 100000 in
set_option maxHeartbeats 1000000 in
theorem law_any (s : ByteArray) (h : ReadsAs s (readS s)) (w : World) (hw : LibW w) (hs : s.size ≤ 1048576) :
    Calls Tryz.prog 3 #[.string s] w fun e w' => e = .returned (.bool true) ∧ Below w.heap.size w w' := by
  have hc1 := check_any s (readS s) h w hw
  have hc2 := fun w1 => read_any s w1 hs
  generalize readS s = R at hc1 hc2
  go_enter Tryz.func3, Tryz.ntmps3
  go_wp2_with (first
    | (go_at_call 8; refine hc1.mono ?_; rintro e w1 ⟨rfl, hb1⟩)
    | (go_at_call 9; refine (hc2 w1).mono ?_; rintro e w2 ⟨v, rfl, hb2, _⟩))
  go_ret
  exact ⟨rfl, hb1.trans (hb2.mono hb1.size)⟩

end Go.Proofs.YtbkefkaedohhcaaGreatDoor
