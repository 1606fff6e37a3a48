import Derived.Test.YtfpgjkbjbbgciaaGreatDoorMa01
import Derived.Test.YtfpgjkbjbbgciaaGreatDoorMa10
namespace Go.Proofs.YtfpgjkbjbbgciaaGreatDoor
open Go.RowKit Sp

theorem Tryz.info9 : (Tryz.prog.info? 9).map (fun i => (i.zero, i.size, i.bytes)) = some (some (.string ByteArray.empty), 1, 16) := by kernel_rfl
theorem Tryz.under67 : Tryz.prog.underlying 67 = some (.slice 9) := by kernel_rfl

theorem own_grow {w wr w1 : World} {B : Nat} {v : Value} {n : Nat} {xs : List Value} {o : Obj} (hown : wr.ownsRow B 9 1 v n xs) (hB : B ≤ wr.heap.size) (hb : Below B w wr) (hg : (wr.alloc o).grownBy w1 v.ownBlock) : Below B w w1 :=
  (hb.alloc hB o).grown hg (by simp; omega) (fun k hk => (hown.lt k hk).1)
theorem one_cell (s : ByteArray) : ∀ u ∈ [Value.string s], u.oneCell' = true := by
  intro u hu; simp at hu; subst hu; rfl

set_option maxRecDepth 100000 in
set_option maxHeartbeats 2000000 in
theorem lines_any (s : ByteArray) (w : World) (hs : s.size ≤ 1048576) :
    Calls Tryz.prog 45 #[.string s] w fun e w' => ∃ v, e = .returned v ∧ w'.ownsRow w.heap.size 9 1 v (lines s).length ((lines s).map Value.string) ∧ Below w.heap.size w w' := by
  obtain ⟨i0, hi, hz0, hz1, hz2⟩ := info_parts Tryz.info9
  go_enter Tryz.func45, Tryz.ntmps45
  go_wp2
  go_loopw [3, 4, 5] (fun v tf ti wr => ∃ (k f : Nat) (acc : List ByteArray), k ≤ s.size ∧ f ≤ k ∧ acc.length ≤ k ∧ ti = .int .i64 (k : Int) ∧ tf = .int .i64 (f : Int) ∧ wr.ownsRow w.heap.size 9 1 v acc.length (acc.map Value.string) ∧ Below w.heap.size w wr ∧ lines s = acc ++ linesAt s f k) (fun _ _ ti _ => s.size - (intOf ti).toNat)
  case atStart => exact ⟨0, 0, [], by omega, by omega, by simp, rfl, rfl, World.ownsRow_nil _ _ _ _, Below.refl _ _, rfl⟩
  case round =>
    obtain ⟨k, f, acc, hk, hf, hacc, rfl, rfl, hown, hnx, hL⟩ := hrel
    have HL : Hid (lines s = acc ++ linesAt s f k) := hL
    clear hL
    have hsz := hnx.size
    by_cases hlt : k < s.size
    · have hc0 : 0 ≤ (s[k].toNat : Int) := by omega
      have hc1 : (s[k].toNat : Int) ≤ 255 := by have := s[k].toNat_lt; omega
      have HE : Hid ((s[k].toNat : Int) = bt s k) := bt_eq s k hlt
      by_cases h10 : ((s[k].toNat : Int) == 10) = true
      · go_wp2_with (at_builtin; refine wpList_append_own _ rfl _ _ 67 rfl w.heap.size 9 i0 (.string ByteArray.empty) 1 16 Tryz.under67 hi hz0 hz1 hz2 rfl (by decide) _ _ _ rfl (hown.alloc _) ⟨wr.heap.size, 0, none⟩ 1 1 [.string (s.extract f k)] rfl rfl (cell_one_new _ _ _) (one_cell _) (by unfold maxLen; omega) (by omega) (by simp; omega) ?_)
        intro v' w1 hown' hgrow _
        have hb1 := own_grow hown hsz hnx hgrow
        clear hgrow
        go_wp2
        go_roundw
        case rel => exact ⟨k + 1, k + 1, acc ++ [s.extract f k], by omega, by omega, by simp; omega, by go_num, by go_num, by simpa using hown', hb1, by rw [HL.out, linesAt_cut s f k hlt (by have := HE.out; simp at h10; omega)]; simp⟩
        case measure => simp [intOf]; omega
      · have h10' : ((s[k].toNat : Int) == 10) = false := by simpa using h10
        go_wp2
        go_roundw
        case rel => exact ⟨k + 1, f, acc, by omega, by omega, by omega, by go_num, rfl, hown, hnx, by rw [HL.out, linesAt_on s f k hlt (by have := HE.out; simp at h10'; omega)]⟩
        case measure => simp [intOf]; omega
    · go_wp2_with (at_builtin; refine wpList_append_own _ rfl _ _ 67 rfl w.heap.size 9 i0 (.string ByteArray.empty) 1 16 Tryz.under67 hi hz0 hz1 hz2 rfl (by decide) _ _ _ rfl (hown.alloc _) ⟨wr.heap.size, 0, none⟩ 1 1 [.string (s.extract f s.size)] rfl rfl (cell_one_new _ _ _) (one_cell _) (by unfold maxLen; omega) (by omega) (by simp; omega) ?_)
      intro v' w1 hown' hgrow _
      have hb1 := own_grow hown hsz hnx hgrow
      clear hgrow
      go_wp2
      go_ret
      refine ⟨v', rfl, ?_, hb1⟩
      rw [HL.out, linesAt_end s f k hlt]
      simpa using hown'

end Go.Proofs.YtfpgjkbjbbgciaaGreatDoor
