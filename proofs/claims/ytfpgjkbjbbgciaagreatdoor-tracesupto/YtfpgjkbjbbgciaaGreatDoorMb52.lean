import Derived.Test.YtfpgjkbjbbgciaaGreatDoorMb49
import Derived.Test.YtfpgjkbjbbgciaaGreatDoorMb50
import Derived.Test.YtfpgjkbjbbgciaaGreatDoorMb51
import Derived.Test.YtfpgjkbjbbgciaaGreatDoorMb41
namespace Go.Proofs.YtfpgjkbjbbgciaaGreatDoor
open Go.RowKit Sp

/-- The cells that the closure of Trace has. -/
structure TrIn (w : World) (pt ps pi pr : Nat) (s : ByteArray) (iv : Value) (n : Int) : Prop where
  text : w.cell? ⟨pt, 0, none⟩ = some (.string s)
  steps : w.cell? ⟨ps, 0, none⟩ = some (.int .i64 n)
  inp : w.cell? ⟨pi, 0, none⟩ = some iv
  state : w.there pr 0 30
  ne : ¬ ps = pr ∧ ¬ pi = pr
abbrev trCaps (pt ps pi pr : Nat) : Array Value := #[.pointer (some ⟨pt, 0, none⟩), .pointer (some ⟨ps, 0, none⟩), .pointer (some ⟨pi, 0, none⟩), .pointer (some ⟨pr, 0, none⟩)]
set_option maxRecDepth 100000 in
set_option maxHeartbeats 1000000 in
theorem twork_no (w : World) (hw : LibW w) (pt ps pi pr : Nat) (s : ByteArray) (iv : Value) (n : Int) (T : TrIn w pt ps pi pr s iv n) (R : Int × Int) (hR : ¬ R = (0, 0)) (h : ReadsAs s R) :
    Calls Tryz.prog 50 (trCaps pt ps pi pr) w fun e w' => e = refusal R.1 R.2 ∧ Below w.heap.size w w' := by
  have hc := (h w hw).mono (R' := fun e w' => e = refusal R.1 R.2 ∧ Below w.heap.size w w') (by
    rintro e w' ⟨hb, ⟨h, _⟩ | ⟨_, h⟩⟩
    · exact absurd h hR
    · exact ⟨h, hb⟩)
  obtain ⟨t1, t2, t3, t4, t5⟩ := T
  go_enter Tryz.func50, Tryz.ntmps50
  go_wp2_with (go_at_call 44; refine hc.mono ?_; rintro e w1 ⟨rfl, hb⟩)
  exact ⟨rfl, rfl, hb⟩
/-- What the reading gives of a right program. -/
def ReadsIn (s : ByteArray) (L : List Said) : Prop := ∀ w, LibW w → Calls Tryz.prog 44 #[.string s] w fun e w' => Below w.heap.size w w' ∧ ∃ pm ao m cap F, e = .returned (.agg #[.slice ao m cap, .map (some pm)]) ∧ PIn w.heap.size w' pm (.slice ao m cap) F ∧ Right L F ∧ F.length ≤ 300 ∧ (∀ f ∈ F, f.its.length ≤ 300 ∧ ∀ i ∈ f.its, ItOk i)
set_option maxRecDepth 100000 in
set_option maxHeartbeats 1000000 in
theorem twork_far (w : World) (hw : LibW w) (pt ps pi pr : Nat) (s : ByteArray) (iv : Value) (n : Int) (T : TrIn w pt ps pi pr s iv n) (L : List Said) (h : ReadsIn s L) (hn : n < 0 ∨ 100000 < n) :
    Calls Tryz.prog 50 (trCaps pt ps pi pr) w fun e w' => e = refusal 7 0 ∧ Below w.heap.size w w' := by
  have hc := h w hw
  have hst := fun W => csteps_bad n W hn
  obtain ⟨t1, t2, t3, t4, t5⟩ := T
  have hlt : ps < w.heap.size := World.block_lt_of_cell? w _ t2
  clear hn
  go_enter Tryz.func50, Tryz.ntmps50
  go_wp2_with (first | (go_at_call 44; refine hc.mono ?_; rintro e w1 ⟨hb, pm, ao, m, cap, F, rfl, _⟩; have t2' := (hb.cell (p := ⟨ps, 0, none⟩) hlt).trans t2; have hlt1 : ps < w1.heap.size := Nat.lt_of_lt_of_le hlt hb.size; have hne1 : ¬ ps = w1.heap.size := Nat.ne_of_lt hlt1; have hne2 : ¬ w1.heap.size = ps := Nat.ne_of_gt hlt1) | (go_at_call 51; refine (hst _).mono ?_; rintro e w2 ⟨rfl, hww⟩; have h2 := hww.symm; subst h2))
  exact ⟨rfl, rfl, hb.alloc hb.size _⟩

/-- The cells that the last row of the closure reads. -/
theorem five_below {W W' : World} {pb pi ps pr : Nat} {v0 v1 v2 v3 : Value} (hb : Below W.heap.size W W') (h : W.cell? ⟨pb, 0, none⟩ = some v0 ∧ W.cell? ⟨pb, 1, none⟩ = some v1 ∧ W.cell? ⟨pi, 0, none⟩ = some v2 ∧ W.cell? ⟨ps, 0, none⟩ = some v3 ∧ W.there pr 0 30) :
    W'.cell? ⟨pb, 0, none⟩ = some v0 ∧ W'.cell? ⟨pb, 1, none⟩ = some v1 ∧ W'.cell? ⟨pi, 0, none⟩ = some v2 ∧ W'.cell? ⟨ps, 0, none⟩ = some v3 ∧ W'.there pr 0 30 := by
  obtain ⟨h0, h1, h2, h3, h4⟩ := h
  refine ⟨still hb h0, still hb h1, still hb h2, still hb h3, there_below h4 hb ?_⟩
  obtain ⟨u, hu⟩ := Option.isSome_iff_exists.1 (h4 0 (by omega)).1
  exact World.block_lt_of_cell? W _ hu
theorem five_set {W : World} {pb pi ps pr : Nat} {v0 v1 v2 v3 : Value} (ds : List Value) (n0 : ¬ pb = pr) (n1 : ¬ pi = pr) (n2 : ¬ ps = pr) (h : W.cell? ⟨pb, 0, none⟩ = some v0 ∧ W.cell? ⟨pb, 1, none⟩ = some v1 ∧ W.cell? ⟨pi, 0, none⟩ = some v2 ∧ W.cell? ⟨ps, 0, none⟩ = some v3 ∧ W.there pr 0 30) :
    (W.setCells pr 0 ds).cell? ⟨pb, 0, none⟩ = some v0 ∧ (W.setCells pr 0 ds).cell? ⟨pb, 1, none⟩ = some v1 ∧ (W.setCells pr 0 ds).cell? ⟨pi, 0, none⟩ = some v2 ∧ (W.setCells pr 0 ds).cell? ⟨ps, 0, none⟩ = some v3 ∧ (W.setCells pr 0 ds).there pr 0 30 := by
  obtain ⟨h0, h1, h2, h3, h4⟩ := h
  refine ⟨?_, ?_, ?_, ?_, World.there_setCells h4 _ _ _⟩
  · rw [World.cell?_of_block (w := W) (setCells_block ds W pr 0 pb n0)]; exact h0
  · rw [World.cell?_of_block (w := W) (setCells_block ds W pr 0 pb n0)]; exact h1
  · rw [World.cell?_of_block (w := W) (setCells_block ds W pr 0 pi n1)]; exact h2
  · rw [World.cell?_of_block (w := W) (setCells_block ds W pr 0 ps n2)]; exact h3
theorem store_row (ds : List Value) (w : World) (b : Nat) (ht : w.there b 0 ds.length) (h1 : ds.toArray.all (·.oneCell') = true) : (storeCells ⟨b, 0, none⟩ ds).run Tryz.prog w = .ok () (w.setCells b 0 ds) := by
  have := run_storeCells_cells (P := Tryz.prog) b 0 ds 0 w (fun j hj => by simpa using (ht j hj).1) (fun j hj => by simpa using (ht j hj).2) (fun v hv => (Array.all_eq_true_iff_forall_mem.1 h1) v (by simpa using hv))
  simpa using this
/-- What the closure leaves behind. -/
def TwPost (w : World) (pr : Nat) (m : Mc) (line : Int) (w' : World) : Prop := ∃ w1 ao no co, w' = w1.setCells pr 0 (stateL m (.slice ao no co) line) ∧ Below w.heap.size w w1 ∧ w1.ownsRow w.heap.size 2 1 (.slice ao no co) m.out.length (i64s m.out)
set_option maxRecDepth 100000 in
set_option maxHeartbeats 4000000 in
theorem twork_ok (w : World) (hw : LibW w) (pt ps pi pr : Nat) (s : ByteArray) (ao : Option Addr) (icap n : Nat) (inp : List Int) (T : TrIn w pt ps pi pr s (.slice ao inp.length icap) (n : Int)) (L : List Said) (h : ReadsIn s L) (hn : n ≤ 100000)
    (hiv : SlB w w.heap.size (.slice ao inp.length icap) inp) (hin : inp.length ≤ 1048576) (FIN : Mc) (hF : runS (stepL L) n (beginL L inp) = FIN) :
    Calls Tryz.prog 50 (trCaps pt ps pi pr) w fun e w' => e = .returned (.tuple #[]) ∧ TwPost w pr FIN FIN.line w' := by
  have hc := h w hw
  have hst := fun W => csteps_good (n : Int) W (by omega) (by omega)
  obtain ⟨t1, t2, t3, t4, t5⟩ := T
  have hlt : ps < w.heap.size := World.block_lt_of_cell? w _ t2
  have hlti : pi < w.heap.size := World.block_lt_of_cell? w _ t3
  go_enter Tryz.func50, Tryz.ntmps50
  go_wp2_with (first | (go_at_call 44; refine hc.mono ?_; rintro e w1 ⟨hb, pm, vo, m, cap, F, rfl, hP, hR, hFn, hFi⟩; have t2' := (hb.cell (p := ⟨ps, 0, none⟩) hlt).trans t2; have hlt1 : ps < w1.heap.size := Nat.lt_of_lt_of_le hlt hb.size; have hne1 : ¬ ps = w1.heap.size := Nat.ne_of_lt hlt1; have hne2 : ¬ w1.heap.size = ps := Nat.ne_of_gt hlt1) | (go_at_call 51; refine (hst _).mono ?_; rintro e w2 ⟨rfl, hww⟩; have h2 := hww.symm; subst h2))
  have hb1 : Below w.heap.size w (w1.alloc (.cells #[.slice vo m cap, .map (some pm)] 83)) := hb.alloc hb.size _
  have hP1 := hP.alloc (.cells #[.slice vo m cap, .map (some pm)] 83)
  have hsz1 : (w1.alloc (.cells #[.slice vo m cap, .map (some pm)] 83)).heap.size = w1.heap.size + 1 := by simp
  have hprl : pr < w.heap.size := by
    obtain ⟨u, hu⟩ := Option.isSome_iff_exists.1 (t4 0 (by omega)).1
    exact World.block_lt_of_cell? w _ hu
  have H1 : (w1.alloc (.cells #[.slice vo m cap, .map (some pm)] 83)).cell? ⟨w1.heap.size, 0, none⟩ = some (.slice vo m cap) ∧ (w1.alloc (.cells #[.slice vo m cap, .map (some pm)] 83)).cell? ⟨w1.heap.size, 1, none⟩ = some (.map (some pm)) ∧ (w1.alloc (.cells #[.slice vo m cap, .map (some pm)] 83)).cell? ⟨pi, 0, none⟩ = some (.slice ao inp.length icap) ∧ (w1.alloc (.cells #[.slice vo m cap, .map (some pm)] 83)).cell? ⟨ps, 0, none⟩ = some (.int .i64 (n : Int)) ∧ (w1.alloc (.cells #[.slice vo m cap, .map (some pm)] 83)).there pr 0 30 :=
    ⟨World.cell?_alloc_new (w := w1) #[.slice vo m cap, .map (some pm)] 83 0, World.cell?_alloc_new (w := w1) #[.slice vo m cap, .map (some pm)] 83 1, still hb1 t3, still hb1 t2, there_below t4 hb1 hprl⟩
  have hnb : ¬ w1.heap.size = pr := by have := hb.size; omega
  generalize w1.alloc (.cells #[.slice vo m cap, .map (some pm)] 83) = W1 at hb1 hP1 hsz1 H1
  have hiv1 := hiv.mono hb1
  have hcof := cof_any hR W1.drew w.heap.size pm _ (hP1.below ((Below.refl _ _).drew)) hFn hFi
  obtain ⟨hsim, hinv⟩ := sim_run hR.sim hR.codeOk n (begin_invD hR.codeOk inp)
  rw [← hR.begin, hF] at hsim
  generalize hFC : runS (stepC (codeOf F)) n (beginC inp) = FC at hsim hinv
  have hline := sim_line hR.sim hinv
  rw [← hsim] at hline
  have hout : FC.out = FIN.out := by rw [hsim]; rfl
  have hstl : ∀ ov, stateL FC ov (lineC (codeOf F) FC) = stateL FIN ov FIN.line := fun ov => by rw [hline, hsim]; rfl
  have hu34 : Tryz.prog.underlying 34 = some (.struct _) := Tryz.underlying34
  clear hc hst t2' hP
  go_region_held3 (fun W => W.cell? ⟨w1.heap.size, 0, none⟩ = some (.slice vo m cap) ∧ W.cell? ⟨w1.heap.size, 1, none⟩ = some (.map (some pm)) ∧ W.cell? ⟨pi, 0, none⟩ = some (.slice ao inp.length icap) ∧ W.cell? ⟨ps, 0, none⟩ = some (.int .i64 (n : Int)) ∧ W.there pr 0 30)
    (first
      | exact H1
      | exact H5
      | exact H6
      | exact H7)
    (first
      | (go_at_call 52; refine hcof.mono ?_; rintro e w5 ⟨g, cap2, rfl, hg, hgl, hC, hb5⟩; have H5 := five_below hb5 H1)
      | (go_at_call 53; refine (crun_any w5 g cap2 n icap ao (codeOf F) inp hR.codeOk hC hgl (SlB.mono (w := W1.drew) hiv1 hb5) hin hn FC hFC).mono ?_; rintro e w6 ⟨oo, no, co, rfl, hrow, hb6⟩; have H6 := five_below hb6 H5; rw [hstl]; have hl := stateL_len FIN (.slice oo no co) FIN.line; have h1 := stateL_one FIN oo no co FIN.line; generalize hds : stateL FIN (.slice oo no co) FIN.line = ds at hl h1; have H7 := five_set ds hnb t5.2 t5.1 H6; have hi : (Tryz.prog.info? 34).map (·.size) = some ds.length := (by rw [hl]; exact Tryz.info34); have hsto := store_row ds w6 pr (by rw [hl]; exact H6.2.2.2.2) h1)
      | (simp only [hsto]; simp only [Oper.upon]))
  have hb15 : Below w.heap.size w w5 := hb1.drew.trans (hb5.mono hb1.drew.size)
  have hb16 := hb15.trans (hb6.mono hb15.size)
  rw [hout] at hrow
  go_end0
  exact ⟨rfl, w6, oo, no, co, by rw [hds], hb16, own_mono hrow hb15.size⟩

end Go.Proofs.YtfpgjkbjbbgciaaGreatDoor

namespace Go.Proofs.YtfpgjkbjbbgciaaGreatDoor
open Go.RowKit Sp

/-- The state is told by a result cell, and two numbers: the cell lies anywhere in new memory. -/
theorem told_end2 {fn : Func} {a b c : Tmp} {w X : World} {T : Told} {ao : Option Addr} {no co : Nat} {act : Act} (pr : Nat) (hpr : w.heap.size ≤ pr) (hr3 : fn.results = #[.cell a 34, .tmp b, .tmp c]) (ds : List Value) (hds : stateL T.m (.slice ao no co) T.at_ = ds) (ht : X.there pr 0 ds.toArray.size) (hb : Below w.heap.size w X) (how : X.ownsRow w.heap.size 2 1 (.slice ao no co) T.m.out.length (i64s T.m.out))
    (hne : ∀ q, (Value.slice ao no co).ownBlock = some q → ¬ q = pr)
    (hp : act.tmps.getD a undef = .pointer (some ⟨pr, 0, none⟩)) (h1 : act.tmps.getD b undef = .int .i64 T.err) (h2 : act.tmps.getD c undef = .int .i64 T.line) (hd : act.defers = []) :
    bodyPost Tryz.prog fn (TracePost w T) .ret act (X.setCells pr 0 ds) := by
  have hl : ds.length = 30 := by rw [← hds]; exact stateL_len _ _ _
  have hu34 : Tryz.prog.underlying 34 = some (.struct _) := Tryz.underlying34
  have hr := World.rangeAt_setCells_same X pr 0 ds (by rw [show ds.length = ds.toArray.size by simp]; exact ht)
  have hres := run_loadVar_mid (X.setCells pr 0 ds) pr 0 34 ds _ hr hu34 rfl (by rw [hl]; exact Tryz.info34)
  have hr2 := results_cell3 hr3 act.tmps ⟨pr, 0, none⟩ hp hres
  rw [h1, h2] at hr2
  refine bodyPost_ret hr2 hd ⟨ao, no, co, by rw [hds], ?_, setCells_below ds 0 hb hpr⟩
  exact own_of_block how (fun q hq => setCells_block ds X _ _ _ (hne q hq))
abbrev TrW (w : World) (s : ByteArray) (iv : Value) (n : Int) : World := (((w.alloc (.cells #[.string s] 9)).alloc (.cells #[iv] 29)).alloc (.cells #[.int .i64 n] 3)).alloc Z34
theorem trw_size (w : World) (s : ByteArray) (iv : Value) (n : Int) : (TrW w s iv n).heap.size = w.heap.size + 1 + 1 + 1 + 1 := by simp
theorem trw_below (w : World) (s : ByteArray) (iv : Value) (n : Int) : Below w.heap.size w (TrW w s iv n) := ((((Below.refl _ _).alloc (Nat.le_refl _) _).alloc (by simp) _).alloc (by simp; omega) _).alloc (by simp; omega) _
theorem trw_in (w : World) (s : ByteArray) (iv : Value) (n : Int) : TrIn (TrW w s iv n) w.heap.size (w.heap.size + 1 + 1) (w.heap.size + 1) (w.heap.size + 1 + 1 + 1) s iv n := by
  have b1 : Below (w.alloc (.cells #[.string s] 9)).heap.size (w.alloc (.cells #[.string s] 9)) (TrW w s iv n) := (((Below.refl _ _).alloc (Nat.le_refl _) _).alloc (by simp) _).alloc (by simp) _
  have b2 : Below ((w.alloc (.cells #[.string s] 9)).alloc (.cells #[iv] 29)).heap.size ((w.alloc (.cells #[.string s] 9)).alloc (.cells #[iv] 29)) (TrW w s iv n) := ((Below.refl _ _).alloc (Nat.le_refl _) _).alloc (by simp) _
  have b3 : Below (((w.alloc (.cells #[.string s] 9)).alloc (.cells #[iv] 29)).alloc (.cells #[.int .i64 n] 3)).heap.size (((w.alloc (.cells #[.string s] 9)).alloc (.cells #[iv] 29)).alloc (.cells #[.int .i64 n] 3)) (TrW w s iv n) := (Below.refl _ _).alloc (Nat.le_refl _) _
  have c1 := World.cell?_alloc_new (w := w) #[.string s] 9 0
  have c2 := World.cell?_alloc_new (w := w.alloc (.cells #[.string s] 9)) #[iv] 29 0
  have c3 := World.cell?_alloc_new (w := (w.alloc (.cells #[.string s] 9)).alloc (.cells #[iv] 29)) #[.int .i64 n] 3 0
  rw [show (w.alloc (.cells #[.string s] 9)).heap.size = w.heap.size + 1 by simp] at c2
  rw [show ((w.alloc (.cells #[.string s] 9)).alloc (.cells #[iv] 29)).heap.size = w.heap.size + 1 + 1 by simp] at c3
  refine ⟨still b1 c1, still b3 c3, still b2 c2, ?_, by omega, by omega⟩
  have := z34_there (((w.alloc (.cells #[.string s] 9)).alloc (.cells #[iv] 29)).alloc (.cells #[.int .i64 n] 3))
  rwa [show (((w.alloc (.cells #[.string s] 9)).alloc (.cells #[iv] 29)).alloc (.cells #[.int .i64 n] 3)).heap.size = w.heap.size + 1 + 1 + 1 by simp] at this
theorem trw_zero (w : World) (s : ByteArray) (iv : Value) (n : Int) : (TrW w s iv n).rangeAt (w.heap.size + 1 + 1 + 1) 0 (stateL zeroMc (.slice none 0 0) 0) := by
  rw [zeroL]
  have := range_new (((w.alloc (.cells #[.string s] 9)).alloc (.cells #[iv] 29)).alloc (.cells #[.int .i64 n] 3)) [.int .i64 0, .int .i64 0, .int .i64 0, .int .i64 0, .int .i64 0, .int .i64 0, .int .i64 0, .int .i64 0, .int .i64 0, .int .i64 0, .int .i64 0, .int .i64 0, .int .i64 0, .int .i64 0, .int .i64 0, .int .i64 0, .int .i64 0, .int .i64 0, .int .i64 0, .int .i64 0, .int .i64 0, .int .i64 0, .int .i64 0, .int .i64 0, .int .i64 0, .slice none 0 0, .int .i64 0, .int .i64 0, .int .i64 0, .int .i64 0] 34
  rwa [show (((w.alloc (.cells #[.string s] 9)).alloc (.cells #[iv] 29)).alloc (.cells #[.int .i64 n] 3)).heap.size = w.heap.size + 1 + 1 + 1 by simp] at this
theorem outw_below (w : World) : Below w.heap.size w (OutW w) := ((Below.refl _ _).alloc (Nat.le_refl _) _).alloc (by simp) _
theorem TrIn.below {w w' : World} {pt ps pi pr : Nat} {s : ByteArray} {iv : Value} {n : Int} (T : TrIn w pt ps pi pr s iv n) (hb : Below w.heap.size w w') : TrIn w' pt ps pi pr s iv n := by
  obtain ⟨t1, t2, t3, t4, t5⟩ := T
  refine ⟨still hb t1, still hb t2, still hb t3, there_below t4 hb ?_, t5⟩
  obtain ⟨u, hu⟩ := Option.isSome_iff_exists.1 (t4 0 (by omega)).1
  exact World.block_lt_of_cell? w _ hu
theorem range_below {w w' : World} {B b o : Nat} {cs : List Value} (h : w.rangeAt b o cs) (hb : Below B w w') (hB : b < B) : w'.rangeAt b o cs := fun j u hj => (hb.cell (p := ⟨b, o + j, none⟩) hB).trans (h j u hj)
set_option maxRecDepth 100000 in
set_option maxHeartbeats 4000000 in
/-- Trace, where its work is refused. -/
theorem ctrace_refused (w : World) (s : ByteArray) (ao : Option Addr) (m icap : Nat) (n er ln : Int)
    (hcall : Calls Tryz.prog 50 (trCaps w.heap.size (w.heap.size + 1 + 1) (w.heap.size + 1) (w.heap.size + 1 + 1 + 1)) (OutW (TrW w s (.slice ao m icap) n)) fun e w' => e = refusal er ln ∧ Below (OutW (TrW w s (.slice ao m icap) n)).heap.size (OutW (TrW w s (.slice ao m icap) n)) w') :
    Calls Tryz.prog 18 #[.string s, .slice ao m icap, .int .i64 n] w (TracePost w ⟨zeroMc, 0, er, ln⟩) := by
  have hmf : ∀ (fn : Go.Fn) (first cap : Array Value) (w : World), (Instr.makeFunc fn first cap).run Tryz.prog w = .ok (.func fn first cap) w := fun _ _ _ _ => rfl
  have hout := outcome_refused 50 _ (TrW w s (.slice ao m icap) n) er ln (fun W => by kernel_rfl) hcall
  have hz := trw_zero w s (.slice ao m icap) n
  have hsz := trw_size w s (.slice ao m icap) n
  have hbw := trw_below w s (.slice ao m icap) n
  have hth := (trw_in w s (.slice ao m icap) n).state
  go_enter Tryz.func18, Tryz.ntmps18
  go_wp2_with (first | (go_at_call 42; refine hout.mono ?_; rintro e w5 ⟨rfl, hb5⟩; refine Hid.out ?_))
  unfold Hid
  have hr := range_below hz hb5 (by rw [hsz]; omega)
  have hth5 := there_below hth hb5 (by rw [hsz]; omega)
  have hb05 : Below w.heap.size w w5 := hbw.trans (hb5.mono hbw.size)
  have hl := stateL_len zeroMc (.slice none 0 0) 0
  have h1 := stateL_one zeroMc none 0 0 0
  generalize hds : stateL zeroMc (.slice none 0 0) 0 = ds at hr hl h1
  have hi := info_state ds hl
  have hid : (Tryz.prog.info? 34).map (·.size) = some ds.length := by rw [hl]; exact Tryz.info34
  have hu34 : Tryz.prog.underlying 34 = some (.struct _) := Tryz.underlying34
  have ht : w5.there (w.heap.size + 1 + 1 + 1) 0 ds.toArray.size := by rw [show ds.toArray.size = 30 by simp [hl]]; exact hth5
  clear hz hout
  repeat (first
    | (refine wpList_load_mid rfl 34 _ rfl (w.heap.size + 1 + 1 + 1) 0 rfl ds _ hr hu34 rfl hid ?_)
    | (refine wpList_store_mid rfl 34 _ _ rfl (w.heap.size + 1 + 1 + 1) 0 ds.toArray rfl rfl ht hi h1 ?_)
    | go_values | go_skip | go_guarded | go_step | go_upon | go_back)
  exact told_end2 (T := ⟨zeroMc, 0, er, ln⟩) (w.heap.size + 1 + 1 + 1) (by omega) Tryz.results18 ds hds ht hb05 (World.ownsRow_nil _ _ _ _) (by simp [Value.ownBlock]) rfl rfl rfl rfl

theorem range_block {w w' : World} {b o : Nat} {cs : List Value} (h : w.rangeAt b o cs) (e : w'.heap[b]? = w.heap[b]?) : w'.rangeAt b o cs := fun j u hj => (World.cell?_of_block (w := w) (a := ⟨b, o + j, none⟩) e).trans (h j u hj)
theorem there_block {w w' : World} {b o n : Nat} (h : w.there b o n) (e : w'.heap[b]? = w.heap[b]?) : w'.there b o n := fun j hj => by
  obtain ⟨h1, h2⟩ := h j hj
  exact ⟨by rw [World.cell?_of_block (w := w) (a := ⟨b, o + j, none⟩) e]; exact h1, by rw [World.frozen?_of_block (w := w) (a := ⟨b, o + j, none⟩) e]; exact h2⟩
/-- What the work of Trace leaves of the two results. -/
theorem twpost_two {W w1 : World} {pr : Nat} {m : Mc} {line : Int} (hpr : pr < W.heap.size) (h : TwPost (OutW W) pr m line w1) :
    w1.cell? ⟨W.heap.size, 0, none⟩ = some (.int .i64 0) ∧ w1.cell? ⟨W.heap.size + 1, 0, none⟩ = some (.int .i64 0) ∧ w1.frozen? ⟨W.heap.size, 0, none⟩ = false ∧ w1.frozen? ⟨W.heap.size + 1, 0, none⟩ = false := by
  obtain ⟨wz, ao, no, co, rfl, hb, _⟩ := h
  have hs : (OutW W).heap.size = W.heap.size + 1 + 1 := by simp
  have e0 : (wz.setCells pr 0 (stateL m (.slice ao no co) line)).heap[W.heap.size]? = (OutW W).heap[W.heap.size]? := (setCells_block _ wz pr 0 _ (by omega)).trans (hb.block _ (by omega))
  have e1 : (wz.setCells pr 0 (stateL m (.slice ao no co) line)).heap[W.heap.size + 1]? = (OutW W).heap[W.heap.size + 1]? := (setCells_block _ wz pr 0 _ (by omega)).trans (hb.block _ (by omega))
  refine ⟨?_, ?_, ?_, ?_⟩
  · rw [World.cell?_of_block (w := OutW W) (a := ⟨W.heap.size, 0, none⟩) e0]; simp [OutW]
  · rw [World.cell?_of_block (w := OutW W) (a := ⟨W.heap.size + 1, 0, none⟩) e1]; simp [OutW]
  · rw [World.frozen?_of_block (w := OutW W) (a := ⟨W.heap.size, 0, none⟩) e0]; simp [OutW]
  · rw [World.frozen?_of_block (w := OutW W) (a := ⟨W.heap.size + 1, 0, none⟩) e1]; simp [OutW]
set_option maxRecDepth 100000 in
set_option maxHeartbeats 4000000 in
/-- Trace, where its work is done. -/
theorem ctrace_ok (w : World) (s : ByteArray) (ao : Option Addr) (m icap : Nat) (n : Int) (FIN : Mc)
    (hcall : Calls Tryz.prog 50 (trCaps w.heap.size (w.heap.size + 1 + 1) (w.heap.size + 1) (w.heap.size + 1 + 1 + 1)) (OutW (TrW w s (.slice ao m icap) n)) fun e w' => e = .returned (.tuple #[]) ∧ TwPost (OutW (TrW w s (.slice ao m icap) n)) (w.heap.size + 1 + 1 + 1) FIN FIN.line w') :
    Calls Tryz.prog 18 #[.string s, .slice ao m icap, .int .i64 n] w (TracePost w ⟨FIN, FIN.line, 0, 0⟩) := by
  have hmf : ∀ (fn : Go.Fn) (first cap : Array Value) (w : World), (Instr.makeFunc fn first cap).run Tryz.prog w = .ok (.func fn first cap) w := fun _ _ _ _ => rfl
  have hsz := trw_size w s (.slice ao m icap) n
  have hout := outcome_ret 50 _ (TrW w s (.slice ao m icap) n) _ (fun W => by kernel_rfl) hcall (fun w1 h => twpost_two (by rw [hsz]; omega) h)
  have hbw := trw_below w s (.slice ao m icap) n
  have hth := (trw_in w s (.slice ao m icap) n).state
  have hbo := outw_below (TrW w s (.slice ao m icap) n)
  have hso : (OutW (TrW w s (.slice ao m icap) n)).heap.size = w.heap.size + 1 + 1 + 1 + 1 + 1 + 1 := by simp
  go_enter Tryz.func18, Tryz.ntmps18
  go_wp2_with (first | (go_at_call 42; refine hout.mono ?_; rintro e w5 ⟨rfl, w1, hq, hw5⟩; have HW5 : Hid _ := hw5; clear hw5; refine Hid.out ?_))
  have hw5 := HW5.out
  clear HW5
  unfold Hid
  obtain ⟨wz, oo, no, co, rfl, hbz, hrow⟩ := hq
  have hl := stateL_len FIN (.slice oo no co) FIN.line
  have h1 := stateL_one FIN oo no co FIN.line
  generalize hds : stateL FIN (.slice oo no co) FIN.line = ds at hw5 hl h1
  have hthz := there_below (there_below hth hbo (by rw [hsz]; omega)) hbz (by rw [hso]; omega)
  have hrz := World.rangeAt_setCells_same wz (w.heap.size + 1 + 1 + 1) 0 ds (by rw [hl]; exact hthz)
  have hthz2 := World.there_setCells hthz (w.heap.size + 1 + 1 + 1) 0 ds
  have hbz2 : Below w.heap.size w (wz.setCells (w.heap.size + 1 + 1 + 1) 0 ds) := setCells_below ds 0 (hbw.trans ((hbo.mono hbw.size).trans (hbz.mono (by rw [hso]; omega)))) (by omega)
  have hrow2 : (wz.setCells (w.heap.size + 1 + 1 + 1) 0 ds).ownsRow (OutW (TrW w s (.slice ao m icap) n)).heap.size 2 1 (.slice oo no co) FIN.out.length (i64s FIN.out) := own_of_block hrow (fun q hq => setCells_block ds wz _ _ _ (by have := (hrow.lt q hq).1; omega))
  generalize wz.setCells (w.heap.size + 1 + 1 + 1) 0 ds = X at hw5 hrz hthz2 hbz2 hrow2
  have eb : ∀ b, ¬ b = (TrW w s (.slice ao m icap) n).heap.size → ¬ b = (TrW w s (.slice ao m icap) n).heap.size + 1 → w5.heap[b]? = X.heap[b]? := fun b n0 n1 => by
    rw [hw5, Below.heap_setCell _ _ _ _ (by exact n1), Below.heap_setCell _ _ _ _ (by exact n0)]
  have hr := range_block hrz (eb _ (by omega) (by omega))
  have hth5 := there_block hthz2 (eb _ (by omega) (by omega))
  have hb05 : Below w.heap.size w w5 := by
    rw [hw5]
    exact (hbz2.setCell (p := ⟨(TrW w s (.slice ao m icap) n).heap.size, 0, none⟩) (by show w.heap.size ≤ (TrW w s (.slice ao m icap) n).heap.size; omega) _).setCell (p := ⟨(TrW w s (.slice ao m icap) n).heap.size + 1, 0, none⟩) (by show w.heap.size ≤ (TrW w s (.slice ao m icap) n).heap.size + 1; omega) _
  have hrow5 : w5.ownsRow (OutW (TrW w s (.slice ao m icap) n)).heap.size 2 1 (.slice oo no co) FIN.out.length (i64s FIN.out) := own_of_block hrow2 (fun q hq => eb q (by have := (hrow2.lt q hq).1; omega) (by have := (hrow2.lt q hq).1; omega))
  have hi := info_state ds hl
  have hid : (Tryz.prog.info? 34).map (·.size) = some ds.length := by rw [hl]; exact Tryz.info34
  have hu34 : Tryz.prog.underlying 34 = some (.struct _) := Tryz.underlying34
  have ht : w5.there (w.heap.size + 1 + 1 + 1) 0 ds.toArray.size := by rw [show ds.toArray.size = 30 by simp [hl]]; exact hth5
  clear hout hw5 eb hrz hthz2 hrow2 hbz2 hrow hbz hthz
  repeat (first
    | (refine wpList_load_mid rfl 34 _ rfl (w.heap.size + 1 + 1 + 1) 0 rfl ds _ hr hu34 rfl hid ?_)
    | (refine wpList_store_mid rfl 34 _ _ rfl (w.heap.size + 1 + 1 + 1) 0 ds.toArray rfl rfl ht hi h1 ?_)
    | go_values | go_skip | go_guarded | go_step | go_upon | go_back)
  exact told_end2 (T := ⟨FIN, FIN.line, 0, 0⟩) (w.heap.size + 1 + 1 + 1) (by omega) Tryz.results18 ds hds ht hb05 (own_mono hrow5 (by omega)) (fun q hq => by have := (hrow5.lt q hq).1; omega) rfl rfl rfl rfl

end Go.Proofs.YtfpgjkbjbbgciaaGreatDoor
