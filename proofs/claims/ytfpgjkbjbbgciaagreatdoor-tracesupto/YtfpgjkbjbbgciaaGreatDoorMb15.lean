import Derived.Test.YtfpgjkbjbbgciaaGreatDoorMb14
import Derived.Test.YtfpgjkbjbbgciaaGreatDoorRows
import Derived.Lib.LaidIn
import Derived.Lib.LaidU8T
import Derived.PinnedBridge
import Derived.Stop.LaidErr
import Derived.Deep.DeepHandedRow
import Derived.Deep.DeepWitnessRowRef
import Derived.ProofKit
import Derived.Shelf.Vars
import Derived.SizedLaws
import Derived.Test.YtfpgjkbjbbgciaaGreatDoorMb13
import Derived.Test.YtfpgjkbjbbgciaaGreatDoorMb05
import Derived.Test.YtfpgjkbjbbgciaaGreatDoorMb09
import Derived.Test.YtfpgjkbjbbgciaaGreatDoorMb04
import Derived.Lib.SplitLaws
namespace Go.Proofs.YtfpgjkbjbbgciaaGreatDoor
open Go.ChangeShapes Go.WideShapes Go.ChangeAt Go.RowKit Sp
open Go.ChangeMaps (open_string shut_string)

theorem Tryz.own : ownKnob Tryz.prog.godebug = none := by kernel_rfl
theorem gES : Tryz.prog.globalNamed "strconv.ErrSyntax" = some 3 := by kernel_rfl
theorem gER : Tryz.prog.globalNamed "strconv.ErrRange" = some 4 := by kernel_rfl
theorem gESType : (Tryz.prog.globals[3]?).map (·.type) = some 246 := by kernel_rfl
theorem gERType : (Tryz.prog.globals[4]?).map (·.type) = some 246 := by kernel_rfl
theorem star : "*errors.errorString" = "*" ++ "errors.errorString" := by decide
theorem row121 (u : TypeId) (h : Tryz.prog.typeName? 3 u = some "*errors.errorString") : u = 267 :=
  typeName_ptr_named (nm := "errors.errorString") (by rw [← star]; kernel_rfl) (by kernel_rfl) (by decide) u (by rw [← star]; exact h)
theorem cells123 : Tryz.prog.cellsOf 269 = 1 := by kernel_rfl
theorem cells9 : Tryz.prog.cellsOf 9 = 1 := by kernel_rfl

/-- WHAT THE ROW's LIST GIVES. -/
theorem lib_of_laid {W : World} (hL0 : laidMetH Tryz.prog Rows.checksUptoRow.laid W) (hsh : W.ShapedOpen Tryz.prog) : LibW W := by
  have hL : laidMet Tryz.prog Rows.checksUptoRow.laid W := hL0
  have hacc := Lib.laidMet.reads hL (.tail _ (.tail _ (.tail _ (.head _))))
  have hfst := Lib.laidMet.reads hL (.tail _ (.tail _ (.tail _ (.tail _ (.tail _ (.tail _ (.head _)))))))
  obtain ⟨a0, s0, hv0, -, -, -⟩ := laid_sentinel hL.tail.tail.tail.tail gER gERType Tryz.underlying246 row121 Tryz.underlying267 Tryz.underlying269 rfl rfl Tryz.underlying9 cells123 cells9
  obtain ⟨a1, s1, hv1, -, -, -⟩ := laid_sentinel hL.tail.tail.tail.tail.tail gES gESType Tryz.underlying246 row121 Tryz.underlying267 Tryz.underlying269 rfl rfl Tryz.underlying9 cells123 cells9
  have hpf : Rows.laid_unicode_utf8_first = Lib.firstData := Pinned.utf8First_eq
  have hpa : Rows.laid_unicode_utf8_acceptRanges = (Lib.acceptData : DataW Unit) := by kernel_rfl
  rw [hpf] at hfst
  rw [hpa] at hacc
  have htabs : Lib.Utf8Tabs 1 2 W :=
    utf8Tabs_of_reads (ρ := Tryz.lays197_ren) { Tryz.lays197 with } ⟨by kernel_rfl, by kernel_rfl, by kernel_rfl, by kernel_rfl, by kernel_rfl, by kernel_rfl, by kernel_rfl⟩ hfst hacc
  have hmost : ∃ m, W.cell? ⟨0, 0, none⟩ = some (.int .i64 m) := cell_of_shapedOpen_int (g := 0) (t := 3) (zero := #[.int .i64 0]) hsh (of_decide_eq_true (by kernel_rfl)) (by kernel_rfl) rfl (by kernel_rfl) (by kernel_rfl) Tryz.underlying3
  have hlast := Lib.laidMet.reads hL (.tail _ (.head _))
  refine ⟨htabs, hmost, ⟨_, _, hv1⟩, ⟨_, _, hv0⟩, ?_⟩
  obtain ⟨g, ty, cs, fuel, pp, hg, _, hvar, _⟩ := hlast
  obtain rfl : g = 7 := Option.some.inj (hg.symm.trans (show Tryz.prog.globalNamed "math/bits.deBruijn64tab" = some 7 by kernel_rfl))
  unfold World.var? at hvar
  rw [hg] at hvar
  cases hh : W.heap[7]? with
  | none => simp [hh] at hvar
  | some o => exact (Array.getElem?_eq_some_iff.1 hh).1

set_option maxRecDepth 100000 in
theorem contract (hread : ∀ s : ByteArray, s.size ≤ 1048576 → ReadsAs s (readS s)) (H : Type) (enc : TypeId × Value → H) (W : World) (base : Nat) (args : Array Value) (ds gs : List (DataW H)) (before : List MemPlace)
    (hval : ∀ (j : Nat) t v, Tryz.f3.params[j]? = some t → args[j]? = some v → Value.okWide Tryz.prog W .any base t v)
    (hW : DataW.Whole enc Tryz.prog Tryz.f3.params.toList Rows.checksSpec.vars false W args.toList ds gs before) (hbulk : Rows.uptoSmall H (ds ++ gs) = true) (hL : laidMetH Tryz.prog Rows.checksUptoRow.laid W) (hsh : W.ShapedOpen Tryz.prog) :
    Calls Tryz.prog 3 args W fun e W' => ∃ v, e = .returned v ∧ Rows.checksSpec.post enc Tryz.prog Tryz.f3 false true false false W args v W' := by
  have hW' := hW
  obtain ⟨p, q, hA0, hV, rfl, hfz, hnd⟩ := hW
  have hA : DataW.TrodAll enc Tryz.prog W 0 (fun _ => true) true Tryz.f3.params.toList args.toList ds p := hA0
  rw [Tryz.params3] at hA hval
  obtain ⟨v0, d0, rfl, rfl, h0⟩ := trodAll_one hA
  obtain ⟨rfl, rfl⟩ := trodVars_none hV
  obtain ⟨s, rfl, rfl, rfl, ws⟩ := open_string Tryz.underlying9 (hval 0 9 v0 rfl rfl) h0
  have hs : s.size ≤ 1048576 := by
    have h := of_decide_eq_true hbulk
    simp only [List.append_nil, Rows.uptoBulkAll, Rows.uptoBulk, Array.length_toList] at h
    have e : s.size = s.data.size := rfl
    omega
  clear hA0
  simp only [List.append_nil] at hW'
  refine (law_any s (hread s hs) W (lib_of_laid hL hsh) hs).mono fun e W' ⟨he, hb⟩ => ?_
  subst he
  refine ⟨_, rfl, _, _, _, [], [], [], hW', ?_, ?_, ?_, hb.frame _, fun h => by cases h⟩
  · exact trodAll_mk1 (shut_bool Tryz.underlying4 _)
  · exact trodAll_mk1 (shut_string Tryz.underlying9 ws)
  · rfl

end Go.Proofs.YtfpgjkbjbbgciaaGreatDoor

namespace Go.Proofs.YtfpgjkbjbbgciaaGreatDoor
open Go.RowKit Sp

set_option maxRecDepth 100000 in
set_option maxHeartbeats 1000000 in
theorem cins_zero (w : World) (g cap : Nat) (x : ByteArray) (line : Int) (hl : WordsIn w g [x]) (HS : Hid (shapeOf x = [])) :
    Calls Tryz.prog 130 #[.slice (some ⟨g, 0, none⟩) 1 cap, .int .i64 line] w fun e w' => Below w.heap.size w w' ∧ e = .returned (stm 2 line x 0 0 0 0 ⟨#[]⟩) := by
  have hc0 := hl 0 (by simp)
  simp only [List.getElem_cons_zero] at hc0
  have hlt : g < w.heap.size := by
    have := World.block_lt_of_cell? w _ hc0; simpa using this
  go_enter Tryz.func130, Tryz.ntmps130
  go_wp2_with (first
    | (go_at_call 149; refine (ops_empty x _ HS).mono ?_; rintro e wx ⟨rfl, hww⟩; have h2 := hww.symm; subst h2))
  refine wp_loop_rounds 1 ?_
  rw [rounds_succ]
  go_wp2
  refine bodyPost_ret (v := stm 2 line x 0 0 0 0 ⟨#[]⟩) (by simp [results, Tryz.results130, go_sem]) rfl ⟨?_, rfl⟩
  exact ((Below.refl _ _).alloc (Nat.le_refl _) _).alloc (by simp) _

theorem cins_any (w : World) (hw : LibW w) (g cap : Nat) (x : ByteArray) (r : List ByteArray) (line : Int) (hl : WordsIn w g (x :: r)) (hsz : ∀ j (hj : j < r.length), r[j].size ≤ 1048576) (hn : r.length ≤ 1048576) :
    Calls Tryz.prog 130 #[.slice (some ⟨g, 0, none⟩) (r.length + 1) cap, .int .i64 line] w (InsPost w x r line) := by
  have hs3 := shape_len x
  by_cases h63 : shapeOf x = [63]
  · refine (cins_none w g cap x r line hl hn h63).mono ?_
    rintro e w' ⟨h1, h2⟩
    exact ⟨h2, .inr ⟨by unfold insOk; rw [if_pos (.inl h63)], h1⟩⟩
  · by_cases hlen : r.length = (shapeOf x).length
    · have hio : insOk x r = opsOk (shapeOf x) r := by unfold insOk; rw [if_neg]; rintro (h | h); exact h63 h; exact h hlen
      by_cases h0 : shapeOf x = []
      · have hr : r = [] := List.eq_nil_of_length_eq_zero (by rw [hlen, h0]; rfl)
        subst hr
        refine (cins_zero w g cap x line hl h0).mono ?_
        rintro e w' ⟨h1, h2⟩
        refine ⟨h1, .inl ⟨by rw [hio, h0]; rfl, ?_⟩⟩
        rw [h2, h0]; rfl
      · refine (cins_ops w hw g cap x r line hl hsz (shapeOf x) rfl h63 h0 hs3 (by omega) (by omega)).mono ?_
        rintro e w' ⟨h1, h2⟩
        refine ⟨h1, ?_⟩
        rw [hio]
        exact h2
    · refine (cins_len w g cap x r line hl hn (shapeOf x) rfl h63 hs3 (by simp; omega)).mono ?_
      rintro e w' ⟨h1, h2⟩
      exact ⟨h2, .inr ⟨by unfold insOk; rw [if_pos (.inr hlen)], h1⟩⟩

/-- What the code makes of what a line says. -/
def sortK (q : Said) : Int := if q.kind = 102 then 0 else if q.kind = 108 then 1 else 2
def wordK (q : Said) : ByteArray := if q.kind = 105 then q.word 0 else ⟨#[]⟩
def nameQ (q : Said) : ByteArray := if q.kind = 102 then q.word 1 else if q.kind = 108 then q.word 0 else nameK (shapeOf (q.word 0)) q.kept.tail q.kept.tail.length
def opQ (q : Said) : Opd := if q.kind = 105 then opK (shapeOf (q.word 0)) q.kept.tail q.kept.tail.length else opd0
def StmPost (w : World) (q : Said) (line : Int) : Ending → World → Prop := fun e w' =>
  Below w.heap.size w w' ∧ (q.ok = true ∧ e = .returned (stm (sortK q) line (wordK q) (opQ q).a (opQ q).b (opQ q).c (opQ q).n (nameQ q)) ∨ q.ok = false ∧ e = refusal 1 line)

theorem last_split (x : ByteArray) (h : 1 ≤ x.size) : ∃ l c, x.data.toList = l ++ [c] ∧ lastB x = (c.toNat : Int) ∧ l.length = x.size - 1 := by
  have hl : x.data.toList.length = x.size := by simp
  have hne : x.data.toList ≠ [] := by intro e; rw [e] at hl; simp at hl; omega
  obtain ⟨l, c, e⟩ : ∃ l c, x.data.toList = l ++ [c] := ⟨x.data.toList.dropLast, x.data.toList.getLast hne, (List.dropLast_concat_getLast hne).symm⟩
  have hll : l.length = x.size - 1 := by rw [e] at hl; simp at hl; omega
  refine ⟨l, c, e, ?_, hll⟩
  unfold lastB bt
  rw [← Array.getElem?_toList, e, ← hll]
  simp
theorem suffix_last (x : ByteArray) (h : 1 ≤ x.size) : Lib.hasSuffix x.data.toList [58] = decide (lastB x = 58) := by
  obtain ⟨l, c, e, h1, _⟩ := last_split x h
  rw [h1, e]
  unfold Lib.hasSuffix List.isSuffixOf
  rw [List.reverse_append]
  by_cases hc : c = 58
  · subst hc; simp [List.isPrefixOf]
  · have h2 : ¬ 58 = c := fun e => hc e.symm
    have h3 : ¬ (c.toNat : Int) = 58 := by
      intro e; apply hc; exact UInt8.toNat_inj.1 (by simp; omega)
    simp [List.isPrefixOf, h2, h3]
theorem trim_last (x : ByteArray) (h : 1 ≤ x.size) (hs : lastB x = 58) : (⟨(Lib.trimSuffix x.data.toList [58]).toArray⟩ : ByteArray) = x.extract 0 (x.size - 1) := by
  obtain ⟨l, c, e, _, h2⟩ := last_split x h
  unfold Lib.trimSuffix
  rw [suffix_last x h, hs]
  simp only [decide_true, if_true]
  apply ByteArray.ext
  rw [ByteArray.data_extract]
  apply Array.ext'
  rw [Array.toList_extract, List.extract_eq_take_drop]
  simp only [List.drop_zero, Nat.sub_zero]
  congr 1
theorem colon_shape (x : ByteArray) (_h : 1 ≤ x.size) (hs : lastB x = 58) : shapeOf x = [63] := by
  have key : ∀ l : List UInt8, (isW x l = true) → lastB ⟨l.toArray⟩ = 58 := by
    intro l hl
    have := isW_eq x l hl
    rw [← this]; exact hs
  unfold shapeOf
  repeat' split
  all_goals first
    | rfl
    | (exfalso; rename_i hh; simp only [Bool.or_eq_true] at hh; rcases hh with hh | hh <;> (first | (have := key _ hh; revert this; decide) | (rcases hh with hh | hh <;> (have := key _ hh; revert this; decide))))

end Go.Proofs.YtfpgjkbjbbgciaaGreatDoor

namespace Go.Proofs.YtfpgjkbjbbgciaaGreatDoor
open Go.RowKit Sp

theorem WordsIn.alloc {w : World} {g : Nat} {l : List ByteArray} (h : WordsIn w g l) (o : Obj) : WordsIn (w.alloc o) g l := by
  intro j hj
  have hc := h j hj
  rw [World.cell?_alloc_lt w o ⟨g, j, none⟩ (by have := World.block_lt_of_cell? w _ hc; simpa using this)]
  exact hc
abbrev zeroStm : Obj := .cells #[.int .i64 0, .int .i64 0, .string ⟨#[]⟩, .int .i64 0, .int .i64 0, .int .i64 0, .int .i64 0, .string ⟨#[]⟩] 135

theorem one_below {w w1 : World} {o : Obj} (hb : Below (w.alloc o).heap.size (w.alloc o) w1) : Below w.heap.size w w1 := ((Below.refl _ _).alloc (Nat.le_refl _) _).trans (hb.mono (by simp))

set_option maxRecDepth 100000 in
set_option maxHeartbeats 1000000 in
theorem cstm_func_bad (w : World) (g cap : Nat) (r : List ByteArray) (line : Int) (hl : WordsIn w g (⟨#[102, 117, 110, 99]⟩ :: r)) (hsz : ∀ y ∈ (⟨#[102, 117, 110, 99]⟩ :: r : List ByteArray), y.size ≤ 1048576) (hn : r.length ≤ 1048576) (h : ¬ ((⟨#[102, 117, 110, 99]⟩ :: r : List ByteArray).length = 2 ∧ isName ((⟨#[102, 117, 110, 99]⟩ :: r : List ByteArray).getLast?.getD ByteArray.empty) = true)) :
    Calls Tryz.prog 99 #[.slice (some ⟨g, 0, none⟩) (r.length + 1) cap, .int .i64 line] w fun e w' => e = refusal 1 line ∧ Below w.heap.size w w' := by
  have hc0 := hl 0 (by simp)
  simp only [List.getElem_cons_zero] at hc0
  have hlt : g < w.heap.size := by have := World.block_lt_of_cell? w _ hc0; simpa using this
  have hcall := cbegin_bad (w.alloc zeroStm) g cap _ line (hl.alloc _) hsz (by simp; omega) h
  simp only [List.length_cons] at hcall
  go_enter Tryz.func99, Tryz.ntmps99
  go_wp2_with (go_at_call 127; refine hcall.mono ?_; rintro e w1 ⟨rfl, hb⟩)
  exact ⟨rfl, rfl, one_below hb⟩

set_option maxRecDepth 100000 in
set_option maxHeartbeats 1000000 in
theorem cstm_func_good (w : World) (g cap : Nat) (y : ByteArray) (line : Int) (hl : WordsIn w g [⟨#[102, 117, 110, 99]⟩, y]) (hy : y.size ≤ 1048576) (hnm : isName y = true) :
    Calls Tryz.prog 99 #[.slice (some ⟨g, 0, none⟩) 2 cap, .int .i64 line] w fun e w' => e = .returned (stm 0 line ⟨#[]⟩ 0 0 0 0 y) ∧ Below w.heap.size w w' := by
  have hc0 := hl 0 (by simp)
  simp only [List.getElem_cons_zero] at hc0
  have hlt : g < w.heap.size := by have := World.block_lt_of_cell? w _ hc0; simpa using this
  have hcall := cbegin_good (w.alloc zeroStm) g cap _ y line (hl.alloc _) hy hnm
  go_enter Tryz.func99, Tryz.ntmps99
  go_wp2_with (go_at_call 127; refine hcall.mono ?_; rintro e w1 ⟨rfl, hb⟩; obtain ⟨hc, hf⟩ := bcell hb)
  obtain ⟨f0, f1, f2, f3, f4, f5, f6, f7⟩ := back8 (new8 rfl hb)
  refine bodyPost_ret (v := stm 0 line ⟨#[]⟩ 0 0 0 0 y) (by simp [results, Tryz.results99, go_sem, f0, f1, f2, f3, f4, f5, f6, f7]) rfl ⟨rfl, ?_⟩
  exact below8 (one_below hb) (Nat.le_refl _) _ _ _ _ _ _ _ _

set_option maxRecDepth 100000 in
set_option maxHeartbeats 1000000 in
theorem cstm_lab_bad (w : World) (g cap : Nat) (x : ByteArray) (r : List ByteArray) (line : Int) (hl : WordsIn w g (x :: r)) (hx : x.size ≤ 1048576) (hx1 : 1 ≤ x.size) (hn : r.length ≤ 1048576) (hnf : (x.toList == [102, 117, 110, 99]) = false) (hs : lastB x = 58) (h : ¬ (r.length + 1 = 1 ∧ isName (x.extract 0 (x.size - 1)) = true)) :
    Calls Tryz.prog 99 #[.slice (some ⟨g, 0, none⟩) (r.length + 1) cap, .int .i64 line] w fun e w' => e = refusal 1 line ∧ Below w.heap.size w w' := by
  have hc0 := hl 0 (by simp)
  simp only [List.getElem_cons_zero] at hc0
  have hlt : g < w.heap.size := by have := World.block_lt_of_cell? w _ hc0; simpa using this
  have hcut := Tryz.strings_CutSuffix x ⟨#[58]⟩ (w.alloc zeroStm) (by omega)
  rw [show (⟨#[58]⟩ : ByteArray).data.toList = [58] from rfl, suffix_last x hx1, trim_last x hx1 hs, hs] at hcut
  simp only [decide_true] at hcut
  have hcall := clabel_bad (w.alloc zeroStm) (some ⟨g, 0, none⟩) (r.length + 1) cap (x.extract 0 (x.size - 1)) line (by rw [ByteArray.size_extract]; omega) (by omega) h
  clear hs
  go_enter Tryz.func99, Tryz.ntmps99
  go_wp2_with (first | (go_at_call 128; refine hcut.mono ?_; rintro e wx ⟨rfl, hww⟩; subst hww) | (go_at_call 129; refine hcall.mono ?_; rintro e w1 ⟨rfl, hb⟩))
  exact ⟨rfl, rfl, one_below hb⟩

set_option maxRecDepth 100000 in
set_option maxHeartbeats 1000000 in
theorem cstm_lab_good (w : World) (g cap : Nat) (x : ByteArray) (line : Int) (hl : WordsIn w g [x]) (hx : x.size ≤ 1048576) (hx1 : 1 ≤ x.size) (hnf : (x.toList == [102, 117, 110, 99]) = false) (hs : lastB x = 58) (h : isName (x.extract 0 (x.size - 1)) = true) :
    Calls Tryz.prog 99 #[.slice (some ⟨g, 0, none⟩) 1 cap, .int .i64 line] w fun e w' => e = .returned (stm 1 line ⟨#[]⟩ 0 0 0 0 (x.extract 0 (x.size - 1))) ∧ Below w.heap.size w w' := by
  have hc0 := hl 0 (by simp)
  simp only [List.getElem_cons_zero] at hc0
  have hlt : g < w.heap.size := by have := World.block_lt_of_cell? w _ hc0; simpa using this
  have hcut := Tryz.strings_CutSuffix x ⟨#[58]⟩ (w.alloc zeroStm) (by omega)
  rw [show (⟨#[58]⟩ : ByteArray).data.toList = [58] from rfl, suffix_last x hx1, trim_last x hx1 hs, hs] at hcut
  simp only [decide_true] at hcut
  have hcall := clabel_good (w.alloc zeroStm) (some ⟨g, 0, none⟩) cap (x.extract 0 (x.size - 1)) line (by rw [ByteArray.size_extract]; omega) h
  clear hs
  go_enter Tryz.func99, Tryz.ntmps99
  go_wp2_with (first | (go_at_call 128; refine hcut.mono ?_; rintro e wx ⟨rfl, hww⟩; subst hww) | (go_at_call 129; refine hcall.mono ?_; rintro e w1 ⟨rfl, hb⟩; obtain ⟨hc, hf⟩ := bcell hb))
  obtain ⟨f0, f1, f2, f3, f4, f5, f6, f7⟩ := back8 (new8 rfl hb)
  refine bodyPost_ret (v := stm 1 line ⟨#[]⟩ 0 0 0 0 (x.extract 0 (x.size - 1))) (by simp [results, Tryz.results99, go_sem, f0, f1, f2, f3, f4, f5, f6, f7]) rfl ⟨rfl, ?_⟩
  exact below8 (one_below hb) (Nat.le_refl _) _ _ _ _ _ _ _ _

set_option maxRecDepth 100000 in
set_option maxHeartbeats 1000000 in
theorem cstm_ins (w : World) (hw : LibW w) (g cap : Nat) (x : ByteArray) (r : List ByteArray) (line : Int) (hl : WordsIn w g (x :: r)) (hsz : ∀ j (hj : j < r.length), r[j].size ≤ 1048576) (hx : x.size ≤ 1048576) (hx1 : 1 ≤ x.size) (hn : r.length ≤ 1048576) (hnf : (x.toList == [102, 117, 110, 99]) = false) (hs : ¬ lastB x = 58) :
    Calls Tryz.prog 99 #[.slice (some ⟨g, 0, none⟩) (r.length + 1) cap, .int .i64 line] w (InsPost w x r line) := by
  have hc0 := hl 0 (by simp)
  simp only [List.getElem_cons_zero] at hc0
  have hlt : g < w.heap.size := by have := World.block_lt_of_cell? w _ hc0; simpa using this
  have hcut := Tryz.strings_CutSuffix x ⟨#[58]⟩ (w.alloc zeroStm) (by omega)
  rw [show (⟨#[58]⟩ : ByteArray).data.toList = [58] from rfl, suffix_last x hx1] at hcut
  simp only [hs, decide_false] at hcut
  generalize (⟨(Lib.trimSuffix x.data.toList [58]).toArray⟩ : ByteArray) = tr at hcut
  have hcall := cins_any (w.alloc zeroStm) (hw.below ((Below.refl _ _).alloc (Nat.le_refl _) _)) g cap x r line (hl.alloc _) hsz hn
  cases hok : insOk x r with
  | true =>
    have hcall2 := hcall.mono (R' := fun e w' => e = .returned ((opK (shapeOf x) r r.length).stm line x) ∧ Below (w.alloc zeroStm).heap.size (w.alloc zeroStm) w') (by
      rintro e w' ⟨h1, h2 | h2⟩
      · exact ⟨h2.2, h1⟩
      · rw [hok] at h2; exact absurd h2.1 (by simp))
    clear hs hcall
    generalize hop : opK (shapeOf x) r r.length = op at hcall2
    obtain ⟨nm, r0, r1, r2, n⟩ := op
    have HO : Hid (opK (shapeOf x) r r.length = ⟨nm, r0, r1, r2, n⟩) := hop
    clear hop
    go_enter Tryz.func99, Tryz.ntmps99
    go_wp2_with (first | (go_at_call 128; refine hcut.mono ?_; rintro e wx ⟨rfl, hww⟩; subst hww) | (go_at_call 130; refine hcall2.mono ?_; rintro e w1 ⟨rfl, hb⟩; obtain ⟨hc, hf⟩ := bcell hb))
    obtain ⟨f0, f1, f2, f3, f4, f5, f6, f7⟩ := back8 (new8 rfl hb)
    refine bodyPost_ret (v := stm 2 line x r0 r1 r2 n nm) (by simp [results, Tryz.results99, go_sem, f0, f1, f2, f3, f4, f5, f6, f7]) rfl ⟨?_, .inl ⟨hok, by rw [HO.out]⟩⟩
    exact below8 (one_below hb) (Nat.le_refl _) _ _ _ _ _ _ _ _
  | false =>
    have hcall2 := hcall.mono (R' := fun e w' => e = refusal 1 line ∧ Below (w.alloc zeroStm).heap.size (w.alloc zeroStm) w') (by
      rintro e w' ⟨h1, h2 | h2⟩
      · rw [hok] at h2; exact absurd h2.1 (by simp)
      · exact ⟨h2.2, h1⟩)
    clear hs hcall
    go_enter Tryz.func99, Tryz.ntmps99
    go_wp2_with (first | (go_at_call 128; refine hcut.mono ?_; rintro e wx ⟨rfl, hww⟩; subst hww) | (go_at_call 130; refine hcall2.mono ?_; rintro e w1 ⟨rfl, hb⟩))
    exact ⟨rfl, one_below hb, .inr ⟨hok, rfl⟩⟩

theorem cstm_any (w : World) (hw : LibW w) (g cap : Nat) (x : ByteArray) (r : List ByteArray) (line : Int) (hl : WordsIn w g (x :: r)) (hsz : ∀ y ∈ (x :: r : List ByteArray), 1 ≤ y.size ∧ y.size ≤ 1048576) (hn : r.length ≤ 1048576) :
    Calls Tryz.prog 99 #[.slice (some ⟨g, 0, none⟩) (r.length + 1) cap, .int .i64 line] w (StmPost w (sayW (x :: r)) line) := by
  have hx := hsz x (by simp)
  cases hf : isFunc x with
  | true =>
    have e1 : sayW (x :: r) = ⟨102, x :: r, decide ((x :: r).length = 2) && isName ((x :: r).getLast?.getD ByteArray.empty)⟩ := by simp only [sayW, hf, if_true]
    rw [e1]
    have := func_is x hf
    subst this
    by_cases hg : (⟨#[102, 117, 110, 99]⟩ :: r : List ByteArray).length = 2 ∧ isName ((⟨#[102, 117, 110, 99]⟩ :: r : List ByteArray).getLast?.getD ByteArray.empty) = true
    · match r, hg, hl, hsz with
      | [y], hg, hl, hsz =>
        have hnm : isName y = true := by simpa using hg.2
        refine (cstm_func_good w g cap y line hl (hsz y (by simp)).2 hnm).mono ?_
        rintro e w' ⟨h1, h2⟩
        exact ⟨h2, .inl ⟨by simp [hnm], h1⟩⟩
    · refine (cstm_func_bad w g cap r line hl (fun y hy => (hsz y hy).2) hn hg).mono ?_
      rintro e w' ⟨h1, h2⟩
      exact ⟨h2, .inr ⟨by simpa using hg, h1⟩⟩
  | false =>
    have hnf : (x.toList == [102, 117, 110, 99]) = false := hf
    by_cases hs : lastB x = 58
    · by_cases hg : r.length + 1 = 1 ∧ isName (x.extract 0 (x.size - 1)) = true
      · have hr : r = [] := List.eq_nil_of_length_eq_zero (by omega)
        subst hr
        have e1 : sayW [x] = ⟨108, [x.extract 0 (x.size - 1)], isName (x.extract 0 (x.size - 1))⟩ := by simp only [sayW, hf]; rw [if_neg (by simp), if_pos ⟨rfl, hs⟩]
        rw [e1]
        refine (cstm_lab_good w g cap x line hl hx.2 hx.1 hnf hs hg.2).mono ?_
        rintro e w' ⟨h1, h2⟩
        exact ⟨h2, .inl ⟨hg.2, h1⟩⟩
      · refine (cstm_lab_bad w g cap x r line hl hx.2 hx.1 hn hnf hs hg).mono ?_
        rintro e w' ⟨h1, h2⟩
        refine ⟨h2, .inr ⟨?_, h1⟩⟩
        by_cases hr : r = []
        · subst hr
          have e1 : sayW [x] = ⟨108, [x.extract 0 (x.size - 1)], isName (x.extract 0 (x.size - 1))⟩ := by simp only [sayW, hf]; rw [if_neg (by simp), if_pos ⟨rfl, hs⟩]
          rw [e1]
          simpa using hg
        · have hr1 : ¬ (x :: r).length = 1 := by cases r with | nil => exact absurd rfl hr | cons a b => simp
          have e1 : (sayW (x :: r)).ok = if shapeOf x = [63] ∨ ¬ (x :: r).length = (shapeOf x).length + 1 then false else opsOk (shapeOf x) r := by
            simp only [sayW, hf]; rw [if_neg (by simp), if_neg (fun h => hr1 h.1)]
          rw [e1, if_pos (.inl (colon_shape x hx.1 hs))]
    · have e1 : sayW (x :: r) = ⟨105, x :: r, if shapeOf x = [63] ∨ ¬ (x :: r).length = (shapeOf x).length + 1 then false else opsOk (shapeOf x) r⟩ := by simp only [sayW, hf]; rw [if_neg (by simp), if_neg (fun h => hs h.2)]
      rw [e1]
      have e2 : (if shapeOf x = [63] ∨ ¬ (x :: r).length = (shapeOf x).length + 1 then false else opsOk (shapeOf x) r) = insOk x r := by
        unfold insOk
        simp only [List.length_cons, Nat.add_right_cancel_iff]
      rw [e2]
      refine (cstm_ins w hw g cap x r line hl (fun j hj => (hsz r[j] (List.mem_cons_of_mem _ (List.getElem_mem hj))).2) hx.2 hx.1 hn hnf hs).mono ?_
      rintro e w' ⟨h1, h2 | h2⟩
      · refine ⟨h1, .inl ⟨h2.1, ?_⟩⟩
        rw [h2.2]
        show Ending.returned (stm 2 line x (opK (shapeOf x) r r.length).a (opK (shapeOf x) r r.length).b (opK (shapeOf x) r r.length).c (opK (shapeOf x) r r.length).n (opK (shapeOf x) r r.length).nm) = _
        rw [opK_nm]
        rfl
      · exact ⟨h1, .inr h2⟩

end Go.Proofs.YtfpgjkbjbbgciaaGreatDoor

namespace Go.Proofs.YtfpgjkbjbbgciaaGreatDoor.Sp

def pre (p : List UInt8) : List (List UInt8) → List (List UInt8)
  | h :: t => (p ++ h) :: t
  | [] => [p]
def linesL : List UInt8 → List (List UInt8)
  | [] => [[]]
  | c :: r => if c = 10 then [] :: linesL r else pre [c] (linesL r)
theorem pre_nil (l : List (List UInt8)) (h : l ≠ []) : pre [] l = l := by
  cases l with
  | nil => exact absurd rfl h
  | cons a b => rfl
theorem linesL_ne (l : List UInt8) : linesL l ≠ [] := by
  cases l with
  | nil => simp [linesL]
  | cons c r =>
    unfold linesL
    split
    · simp
    · cases linesL r <;> simp [pre]
theorem pre_pre (p q : List UInt8) (l : List (List UInt8)) : pre p (pre q l) = pre (p ++ q) l := by
  cases l <;> simp [pre]
theorem lines_L (s : ByteArray) (f i : Nat) (hf : f ≤ i) (hi : i ≤ s.size) : (linesAt s f i).map (·.data.toList) = pre ((s.data.toList.drop f).take (i - f)) (linesL (s.data.toList.drop i)) := by
  by_cases h : i < s.size
  · obtain ⟨c, r, h1, h2, h3⟩ := bt_drop s i h
    by_cases h10 : bt s i = 10
    · rw [linesAt_cut s f i h h10, List.map_cons, lines_L s (i + 1) (i + 1) (by omega) (by omega), h1, ← h3]
      have hc : c = 10 := by
        apply UInt8.toNat_inj.1
        have : (c.toNat : Int) = 10 := by omega
        simp; omega
      subst hc
      simp only [Nat.sub_self, List.take_zero]
      rw [pre_nil _ (linesL_ne _)]
      simp [linesL, pre]
    · rw [linesAt_on s f i h h10, lines_L s f (i + 1) (by omega) (by omega), h1, ← h3]
      have hc : ¬ c = 10 := by
        intro e; apply h10; rw [← h2, e]; rfl
      simp only [linesL, hc, if_false]
      rw [pre_pre]
      congr 1
      have e : i + 1 - f = (i - f) + 1 := by omega
      rw [e, List.take_add_one]
      congr 1
      rw [List.getElem?_drop]
      have e2 : f + (i - f) = i := by omega
      rw [e2]
      have h5 : s.data.toList[i]? = some c := by
        have : (s.data.toList.drop i)[0]? = some c := by rw [h1]; rfl
        rw [List.getElem?_drop] at this
        simpa using this
      rw [h5]; rfl
  · have hz : i = s.size := by omega
    rw [linesAt_end s f i h]
    have hl : s.data.toList.drop i = [] := List.drop_of_length_le (by simp; omega)
    rw [hl]
    simp [linesL, pre, hz]
termination_by s.size - i
theorem split_L (l : List UInt8) : Lib.splitK [10] 0 (Lib.count l [10]) l = linesL l := by
  induction l with
  | nil => rw [Lib.count_miss (by simp [Lib.index])]; rfl
  | cons c r ih =>
    by_cases hc : c = 10
    · subst hc
      rw [Lib.count_cons_eq, Nat.add_comm]
      have hix : Lib.index (10 :: r) [10] = 0 := by rw [Lib.index]; simp [List.isPrefixOf]
      unfold Lib.splitK
      rw [hix]
      simp only [linesL, if_true]
      rw [← ih]
      simp
    · rw [Lib.count_cons_ne c 10 r hc]
      have hp : ([10] : List UInt8).isPrefixOf (c :: r) = false := by simp [List.isPrefixOf, Ne.symm hc]
      have hix : Lib.index (c :: r) [10] = if Lib.index r [10] == -1 then -1 else Lib.index r [10] + 1 := by rw [Lib.index, hp]; simp
      simp only [linesL, hc, if_false]
      rw [← ih]
      by_cases hm : Lib.index r [10] = -1
      · rw [Lib.count_miss hm]; rfl
      · have hge := Lib.index_ge r [10]
        obtain ⟨j, hj⟩ : ∃ j : Nat, Lib.index r [10] = j := ⟨(Lib.index r [10]).toNat, by omega⟩
        rw [Lib.count_hit (by simp) hj, Nat.add_comm]
        unfold Lib.splitK
        rw [hix, hj]
        have b1 : (((j : Nat) : Int) == -1) = false := by simp
        have b2 : (((j : Nat) : Int) + 1 == -1) = false := by simp; omega
        simp only [b1, b2, if_false, Bool.false_eq_true]
        have e1 : ((j : Int) + 1).toNat = j + 1 := by omega
        have e2 : ((j : Nat) : Int).toNat = j := by omega
        rw [e1, e2]
        simp [pre]
theorem split_lines (s : ByteArray) : Lib.splitB ⟨#[10]⟩ 0 (Lib.countB s ⟨#[10]⟩) s = lines s := by
  have h1 : (Lib.splitB ⟨#[10]⟩ 0 (Lib.countB s ⟨#[10]⟩) s).map (·.data.toList) = (lines s).map (·.data.toList) := by
    rw [Lib.splitB_data]
    have h2 := lines_L s 0 0 (by omega) (by omega)
    simp only [List.drop_zero, Nat.sub_self, List.take_zero] at h2
    rw [pre_nil _ (linesL_ne _)] at h2
    show Lib.splitK [10] 0 (Lib.count s.data.toList [10]) s.data.toList = (linesAt s 0 0).map _
    rw [h2, split_L]
  refine (List.map_inj_right ?_).1 h1
  intro a b h
  exact ByteArray.ext (Array.ext' h)
theorem count_lines (s : ByteArray) : (lines s).length = Lib.countByte s.data.toList 10 + 1 ∧ Lib.countB s ⟨#[10]⟩ + 1 = (lines s).length := by
  have h := Lib.splitB_all ⟨#[10]⟩ (by decide) 0 _ s rfl
  rw [split_lines] at h
  refine ⟨?_, h.symm⟩
  rw [h]
  unfold Lib.countByte
  rw [← Lib.count_one]

end Go.Proofs.YtfpgjkbjbbgciaaGreatDoor.Sp
