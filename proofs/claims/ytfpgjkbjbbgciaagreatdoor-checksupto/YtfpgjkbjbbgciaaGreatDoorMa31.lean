import Derived.Test.YtfpgjkbjbbgciaaGreatDoorMa29
import Derived.Test.YtfpgjkbjbbgciaaGreatDoorMa30
import Derived.Test.YtfpgjkbjbbgciaaGreatDoorRows
import Derived.Lib.LaidIn
import Derived.Lib.LaidU8T
import Derived.PinnedBridge
import Derived.Stop.LaidErr
import Derived.Deep.DeepHandedRow
import Derived.Deep.DeepWitnessRowRef
import Derived.ProofKit
import Derived.Shelf.Vars
import Derived.SizedLaws
namespace Go.Proofs.YtfpgjkbjbbgciaaGreatDoor
open Go.RowKit Sp

set_option maxRecDepth 100000 in
set_option maxHeartbeats 1000000 in
theorem law_any (s : ByteArray) (h : ReadsAs s (readS s)) (w : World) (hw : LibW w) (hs : s.size ≤ 1048576) :
    Calls Tryz.prog 3 #[.string s] w fun e w' => e = .returned (.bool true) ∧ Below w.heap.size w w' := by
  have hc1 := check_any s (readS s) h w hw
  have hc2 := fun w1 => read_any s w1 hs
  generalize readS s = R at hc1 hc2
  go_enter Tryz.func3, Tryz.ntmps3
  go_wp2_with (first
    | (go_at_call 15; refine hc1.mono ?_; rintro e w1 ⟨rfl, hb1⟩)
    | (go_at_call 16; refine (hc2 w1).mono ?_; rintro e w2 ⟨v, rfl, hb2, _⟩))
  go_ret
  exact ⟨rfl, hb1.trans (hb2.mono hb1.size)⟩

end Go.Proofs.YtfpgjkbjbbgciaaGreatDoor

namespace Go.Proofs.YtfpgjkbjbbgciaaGreatDoor
open Go.ChangeShapes Go.WideShapes Go.ChangeAt Go.RowKit Sp
open Go.ChangeMaps (open_string shut_string)

theorem Tryz.own : ownKnob Tryz.prog.godebug = none := by kernel_rfl
theorem gES : Tryz.prog.globalNamed "strconv.ErrSyntax" = some 3 := by kernel_rfl
theorem gER : Tryz.prog.globalNamed "strconv.ErrRange" = some 4 := by kernel_rfl
theorem gESType : (Tryz.prog.globals[3]?).map (·.type) = some 246 := by kernel_rfl
theorem gERType : (Tryz.prog.globals[4]?).map (·.type) = some 246 := by kernel_rfl
theorem star : "*errors.errorString" = "*" ++ "errors.errorString" := by decide
theorem row121 (u : TypeId) (h : Tryz.prog.typeName? 3 u = some "*errors.errorString") : u = 267 :=
  typeName_ptr_named (nm := "errors.errorString") (by rw [← star]; kernel_rfl) (by kernel_rfl) (by decide) u (by rw [← star]; exact h)
theorem cells123 : Tryz.prog.cellsOf 269 = 1 := by kernel_rfl
theorem cells9 : Tryz.prog.cellsOf 9 = 1 := by kernel_rfl

/-- WHAT THE ROW's LIST GIVES. -/
theorem lib_of_laid {W : World} (hL0 : laidMetH Tryz.prog Rows.checksUptoRow.laid W) (hsh : W.ShapedOpen Tryz.prog) : LibW W := by
  have hL : laidMet Tryz.prog Rows.checksUptoRow.laid W := hL0
  have hacc := Lib.laidMet.reads hL (.tail _ (.tail _ (.tail _ (.head _))))
  have hfst := Lib.laidMet.reads hL (.tail _ (.tail _ (.tail _ (.tail _ (.tail _ (.tail _ (.head _)))))))
  obtain ⟨a0, s0, hv0, -, -, -⟩ := laid_sentinel hL.tail.tail.tail.tail gER gERType Tryz.underlying246 row121 Tryz.underlying267 Tryz.underlying269 rfl rfl Tryz.underlying9 cells123 cells9
  obtain ⟨a1, s1, hv1, -, -, -⟩ := laid_sentinel hL.tail.tail.tail.tail.tail gES gESType Tryz.underlying246 row121 Tryz.underlying267 Tryz.underlying269 rfl rfl Tryz.underlying9 cells123 cells9
  have hpf : Rows.laid_unicode_utf8_first = Lib.firstData := Pinned.utf8First_eq
  have hpa : Rows.laid_unicode_utf8_acceptRanges = (Lib.acceptData : DataW Unit) := by kernel_rfl
  rw [hpf] at hfst
  rw [hpa] at hacc
  have htabs : Lib.Utf8Tabs 1 2 W :=
    utf8Tabs_of_reads (ρ := Tryz.lays197_ren) { Tryz.lays197 with } ⟨by kernel_rfl, by kernel_rfl, by kernel_rfl, by kernel_rfl, by kernel_rfl, by kernel_rfl, by kernel_rfl⟩ hfst hacc
  have hmost : ∃ m, W.cell? ⟨0, 0, none⟩ = some (.int .i64 m) := cell_of_shapedOpen_int (g := 0) (t := 3) (zero := #[.int .i64 0]) hsh (of_decide_eq_true (by kernel_rfl)) (by kernel_rfl) rfl (by kernel_rfl) (by kernel_rfl) Tryz.underlying3
  have hlast := Lib.laidMet.reads hL (.tail _ (.head _))
  refine ⟨htabs, hmost, ⟨_, _, hv1⟩, ⟨_, _, hv0⟩, ?_⟩
  obtain ⟨g, ty, cs, fuel, pp, hg, _, hvar, _⟩ := hlast
  obtain rfl : g = 7 := Option.some.inj (hg.symm.trans (show Tryz.prog.globalNamed "math/bits.deBruijn64tab" = some 7 by kernel_rfl))
  unfold World.var? at hvar
  rw [hg] at hvar
  cases hh : W.heap[7]? with
  | none => simp [hh] at hvar
  | some o => exact (Array.getElem?_eq_some_iff.1 hh).1

set_option maxRecDepth 100000 in
theorem contract (hread : ∀ s : ByteArray, s.size ≤ 1048576 → ReadsAs s (readS s)) (H : Type) (enc : TypeId × Value → H) (W : World) (base : Nat) (args : Array Value) (ds gs : List (DataW H)) (before : List MemPlace)
    (hval : ∀ (j : Nat) t v, Tryz.f3.params[j]? = some t → args[j]? = some v → Value.okWide Tryz.prog W .any base t v)
    (hW : DataW.Whole enc Tryz.prog Tryz.f3.params.toList Rows.checksSpec.vars false W args.toList ds gs before) (hbulk : Rows.uptoSmall H (ds ++ gs) = true) (hL : laidMetH Tryz.prog Rows.checksUptoRow.laid W) (hsh : W.ShapedOpen Tryz.prog) :
    Calls Tryz.prog 3 args W fun e W' => ∃ v, e = .returned v ∧ Rows.checksSpec.post enc Tryz.prog Tryz.f3 false true false false W args v W' := by
  have hW' := hW
  obtain ⟨p, q, hA0, hV, rfl, hfz, hnd⟩ := hW
  have hA : DataW.TrodAll enc Tryz.prog W 0 (fun _ => true) true Tryz.f3.params.toList args.toList ds p := hA0
  rw [Tryz.params3] at hA hval
  obtain ⟨v0, d0, rfl, rfl, h0⟩ := trodAll_one hA
  obtain ⟨rfl, rfl⟩ := trodVars_none hV
  obtain ⟨s, rfl, rfl, rfl, ws⟩ := open_string Tryz.underlying9 (hval 0 9 v0 rfl rfl) h0
  have hs : s.size ≤ 1048576 := by
    have h := of_decide_eq_true hbulk
    simp only [List.append_nil, Rows.uptoBulkAll, Rows.uptoBulk, Array.length_toList] at h
    have e : s.size = s.data.size := rfl
    omega
  clear hA0
  simp only [List.append_nil] at hW'
  refine (law_any s (hread s hs) W (lib_of_laid hL hsh) hs).mono fun e W' ⟨he, hb⟩ => ?_
  subst he
  refine ⟨_, rfl, _, _, _, [], [], [], hW', ?_, ?_, ?_, hb.frame _, fun h => by cases h⟩
  · exact trodAll_mk1 (shut_bool Tryz.underlying4 _)
  · exact trodAll_mk1 (shut_string Tryz.underlying9 ws)
  · rfl

end Go.Proofs.YtfpgjkbjbbgciaaGreatDoor
