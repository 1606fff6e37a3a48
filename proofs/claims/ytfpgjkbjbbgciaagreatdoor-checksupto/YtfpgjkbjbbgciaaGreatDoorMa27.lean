import Derived.Test.YtfpgjkbjbbgciaaGreatDoorMa26
namespace Go.Proofs.YtfpgjkbjbbgciaaGreatDoor
open Go.RowKit Sp

section
variable {w w' : World} {q B : Nat} {line : Int} {word nm : ByteArray} {r0 r1 r2 n : Int}
theorem StmAt.below (h : StmAt w q line word nm r0 r1 r2 n) (hb : Below B w w') (hq : q < B) : StmAt w' q line word nm r0 r1 r2 n := by
  obtain ⟨c, f⟩ := bcell hb
  exact ⟨(c q 0 hq).trans h.c0, (c q 1 hq).trans h.c1, (c q 2 hq).trans h.c2, (c q 3 hq).trans h.c3, (c q 4 hq).trans h.c4, (c q 5 hq).trans h.c5, (c q 6 hq).trans h.c6, (c q 7 hq).trans h.c7, fun o => (f q o hq).trans (h.fz o)⟩
theorem StmAt.drew (h : StmAt w q line word nm r0 r1 r2 n) : StmAt w.drew q line word nm r0 r1 r2 n := ⟨h.c0, h.c1, h.c2, h.c3, h.c4, h.c5, h.c6, h.c7, h.fz⟩
theorem StmAt.set3 (h : StmAt w q line word nm r0 r1 r2 n) (a : Int) : StmAt (w.setCell ⟨q, 3, none⟩ (.int .i64 a)) q line word nm a r1 r2 n := by
  refine ⟨?_, ?_, ?_, ?_, ?_, ?_, ?_, ?_, fun o => ?_⟩
  · rw [World.cell?_setCell_other]; exact h.c0; simp
  · rw [World.cell?_setCell_other]; exact h.c1; simp
  · rw [World.cell?_setCell_other]; exact h.c2; simp
  · exact World.cell?_setCell_same w _ _ h.c3
  · rw [World.cell?_setCell_other]; exact h.c4; simp
  · rw [World.cell?_setCell_other]; exact h.c5; simp
  · rw [World.cell?_setCell_other]; exact h.c6; simp
  · rw [World.cell?_setCell_other]; exact h.c7; simp
  · rw [World.frozen?_setCell]; exact h.fz o
theorem StmAt.set4 (h : StmAt w q line word nm r0 r1 r2 n) (a : Int) : StmAt (w.setCell ⟨q, 4, none⟩ (.int .i64 a)) q line word nm r0 a r2 n := by
  refine ⟨?_, ?_, ?_, ?_, ?_, ?_, ?_, ?_, fun o => ?_⟩
  · rw [World.cell?_setCell_other]; exact h.c0; simp
  · rw [World.cell?_setCell_other]; exact h.c1; simp
  · rw [World.cell?_setCell_other]; exact h.c2; simp
  · rw [World.cell?_setCell_other]; exact h.c3; simp
  · exact World.cell?_setCell_same w _ _ h.c4
  · rw [World.cell?_setCell_other]; exact h.c5; simp
  · rw [World.cell?_setCell_other]; exact h.c6; simp
  · rw [World.cell?_setCell_other]; exact h.c7; simp
  · rw [World.frozen?_setCell]; exact h.fz o
theorem StmAt.set5 (h : StmAt w q line word nm r0 r1 r2 n) (a : Int) : StmAt (w.setCell ⟨q, 5, none⟩ (.int .i64 a)) q line word nm r0 r1 a n := by
  refine ⟨?_, ?_, ?_, ?_, ?_, ?_, ?_, ?_, fun o => ?_⟩
  · rw [World.cell?_setCell_other]; exact h.c0; simp
  · rw [World.cell?_setCell_other]; exact h.c1; simp
  · rw [World.cell?_setCell_other]; exact h.c2; simp
  · rw [World.cell?_setCell_other]; exact h.c3; simp
  · rw [World.cell?_setCell_other]; exact h.c4; simp
  · exact World.cell?_setCell_same w _ _ h.c5
  · rw [World.cell?_setCell_other]; exact h.c6; simp
  · rw [World.cell?_setCell_other]; exact h.c7; simp
  · rw [World.frozen?_setCell]; exact h.fz o
theorem StmAt.set6 (h : StmAt w q line word nm r0 r1 r2 n) (a : Int) : StmAt (w.setCell ⟨q, 6, none⟩ (.int .i64 a)) q line word nm r0 r1 r2 a := by
  refine ⟨?_, ?_, ?_, ?_, ?_, ?_, ?_, ?_, fun o => ?_⟩
  · rw [World.cell?_setCell_other]; exact h.c0; simp
  · rw [World.cell?_setCell_other]; exact h.c1; simp
  · rw [World.cell?_setCell_other]; exact h.c2; simp
  · rw [World.cell?_setCell_other]; exact h.c3; simp
  · rw [World.cell?_setCell_other]; exact h.c4; simp
  · rw [World.cell?_setCell_other]; exact h.c5; simp
  · exact World.cell?_setCell_same w _ _ h.c6
  · rw [World.cell?_setCell_other]; exact h.c7; simp
  · rw [World.frozen?_setCell]; exact h.fz o
theorem StmAt.set7 (h : StmAt w q line word nm r0 r1 r2 n) (y : ByteArray) : StmAt (w.setCell ⟨q, 7, none⟩ (.string y)) q line word y r0 r1 r2 n := by
  refine ⟨?_, ?_, ?_, ?_, ?_, ?_, ?_, ?_, fun o => ?_⟩
  · rw [World.cell?_setCell_other]; exact h.c0; simp
  · rw [World.cell?_setCell_other]; exact h.c1; simp
  · rw [World.cell?_setCell_other]; exact h.c2; simp
  · rw [World.cell?_setCell_other]; exact h.c3; simp
  · rw [World.cell?_setCell_other]; exact h.c4; simp
  · rw [World.cell?_setCell_other]; exact h.c5; simp
  · rw [World.cell?_setCell_other]; exact h.c6; simp
  · exact World.cell?_setCell_same w _ _ h.c7
  · rw [World.frozen?_setCell]; exact h.fz o
theorem StmAt.lt (h : StmAt w q line word nm r0 r1 r2 n) : q < w.heap.size := by have := World.block_lt_of_cell? w _ h.c0; simpa using this
end
theorem grown_set {w w1 : World} {q o : Nat} {v : Value} (hb : Below w.heap.size w w1) : w.grownBy (w1.setCell ⟨q, o, none⟩ v) (some q) :=
  ⟨hb.os, hb.tape, hb.output, by have := hb.size; simpa [World.setCell] using this, fun k hk hne => (Below.heap_setCell w1 _ _ k (fun e => hne (by rw [e]))).trans (hb.block k hk)⟩

theorem grown_drew {w w' : World} {r : Option Nat} (h : w.grownBy w' r) : w.grownBy w'.drew r := ⟨h.os, h.tape, h.output, h.size, h.block⟩

set_option maxRecDepth 100000 in
set_option maxHeartbeats 1000000 in
theorem take_num (w : World) (hw : LibW w) (q : Nat) (place line : Int) (word nm x : ByteArray) (r0 r1 r2 n : Int) (hS : StmAt w q line word nm r0 r1 r2 n) (hx : x.size ≤ 1048576) :
    Calls Tryz.prog 150 #[.pointer (some ⟨q, 0, none⟩), .int .i64 place, .int .i64 1, .string x] w fun e w' => e = .returned (.bool (numOf x).2) ∧ w.grownBy w' (some q) ∧ StmAt w' q line word nm r0 r1 r2 (numVal x) := by
  have hq := hS.lt
  have hc6 := hS.c6
  have hf6 := hS.fz 6
  go_enter Tryz.func150, Tryz.ntmps150
  go_wp2_with (first | (go_at_call 166; refine (cnum_any x _ hw hx).mono ?_; rintro e w1 ⟨rfl, hb⟩; obtain ⟨hc, hf⟩ := bcell hb))
  go_ret
  exact ⟨rfl, grown_set hb, (hS.below hb hq).set6 _⟩

set_option maxRecDepth 100000 in
set_option maxHeartbeats 1000000 in
theorem take_name (w : World) (q : Nat) (place line : Int) (word nm x : ByteArray) (r0 r1 r2 n : Int) (hS : StmAt w q line word nm r0 r1 r2 n) (hx : x.size ≤ 1048576) :
    Calls Tryz.prog 150 #[.pointer (some ⟨q, 0, none⟩), .int .i64 place, .int .i64 2, .string x] w fun e w' => e = .returned (.bool (isName x)) ∧ w.grownBy w' (some q) ∧ StmAt w' q line word x r0 r1 r2 n := by
  have hq := hS.lt
  have hc7 := hS.c7
  have hf7 := hS.fz 7
  go_enter Tryz.func150, Tryz.ntmps150
  go_wp2_with (first | (go_at_call 147; refine (cname_any x _ hx).mono ?_; rintro e w1 ⟨rfl, hb⟩; obtain ⟨hc, hf⟩ := bcell hb))
  go_ret
  exact ⟨rfl, grown_set hb, (hS.below hb hq).set7 _⟩

set_option maxRecDepth 100000 in
set_option maxHeartbeats 1000000 in
theorem take_reg0 (w : World) (q : Nat) (line : Int) (word nm x : ByteArray) (r0 r1 r2 n : Int) (hS : StmAt w q line word nm r0 r1 r2 n) (hx : x.size ≤ 1048576) :
    Calls Tryz.prog 150 #[.pointer (some ⟨q, 0, none⟩), .int .i64 0, .int .i64 0, .string x] w fun e w' => e = .returned (.bool (regOk x)) ∧ w.grownBy w' (some q) ∧ StmAt w' q line word nm (regVal x) r1 r2 n := by
  have hq := hS.lt
  have hc := hS.c3
  have hf := hS.fz 3
  go_enter Tryz.func150, Tryz.ntmps150
  go_wp2
  go_region_with (go_at_call 165; refine (creg_any x _ (by unfold maxLen; omega)).mono ?_; rintro e wx ⟨rfl, hww⟩; have h2 := hww.symm; subst h2)
  all_goals go_wp2
  all_goals go_ret
  all_goals refine ⟨rfl, ?_, ?_⟩
  · exact grown_drew (grown_set (Below.refl _ _))
  · exact (hS.set3 _).drew

set_option maxRecDepth 100000 in
set_option maxHeartbeats 1000000 in
theorem take_reg1 (w : World) (q : Nat) (line : Int) (word nm x : ByteArray) (r0 r1 r2 n : Int) (hS : StmAt w q line word nm r0 r1 r2 n) (hx : x.size ≤ 1048576) :
    Calls Tryz.prog 150 #[.pointer (some ⟨q, 0, none⟩), .int .i64 1, .int .i64 0, .string x] w fun e w' => e = .returned (.bool (regOk x)) ∧ w.grownBy w' (some q) ∧ StmAt w' q line word nm r0 (regVal x) r2 n := by
  have hq := hS.lt
  have hc := hS.c4
  have hf := hS.fz 4
  go_enter Tryz.func150, Tryz.ntmps150
  go_wp2
  go_region_with (go_at_call 165; refine (creg_any x _ (by unfold maxLen; omega)).mono ?_; rintro e wx ⟨rfl, hww⟩; have h2 := hww.symm; subst h2)
  all_goals go_wp2
  all_goals go_ret
  all_goals refine ⟨rfl, ?_, ?_⟩
  · exact grown_drew (grown_set (Below.refl _ _))
  · exact (hS.set4 _).drew

set_option maxRecDepth 100000 in
set_option maxHeartbeats 1000000 in
theorem take_reg2 (w : World) (q : Nat) (line : Int) (word nm x : ByteArray) (r0 r1 r2 n : Int) (hS : StmAt w q line word nm r0 r1 r2 n) (hx : x.size ≤ 1048576) :
    Calls Tryz.prog 150 #[.pointer (some ⟨q, 0, none⟩), .int .i64 2, .int .i64 0, .string x] w fun e w' => e = .returned (.bool (regOk x)) ∧ w.grownBy w' (some q) ∧ StmAt w' q line word nm r0 r1 (regVal x) n := by
  have hq := hS.lt
  have hc := hS.c5
  have hf := hS.fz 5
  go_enter Tryz.func150, Tryz.ntmps150
  go_wp2
  go_region_with (go_at_call 165; refine (creg_any x _ (by unfold maxLen; omega)).mono ?_; rintro e wx ⟨rfl, hww⟩; have h2 := hww.symm; subst h2)
  all_goals go_wp2
  all_goals go_ret
  all_goals refine ⟨rfl, ?_, ?_⟩
  · exact grown_drew (grown_set (Below.refl _ _))
  · exact (hS.set5 _).drew

end Go.Proofs.YtfpgjkbjbbgciaaGreatDoor
