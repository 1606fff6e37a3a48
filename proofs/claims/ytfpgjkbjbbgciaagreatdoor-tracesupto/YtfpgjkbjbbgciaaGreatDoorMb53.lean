import Derived.Test.YtfpgjkbjbbgciaaGreatDoorMb52
import Derived.Test.YtfpgjkbjbbgciaaGreatDoorMb37
import Derived.Test.YtfpgjkbjbbgciaaGreatDoorMb42
import Derived.Test.YtfpgjkbjbbgciaaGreatDoorMb15
import Derived.OpenShut
import Derived.Test.YtfpgjkbjbbgciaaGreatDoorMb25
namespace Go.Proofs.YtfpgjkbjbbgciaaGreatDoor
open Go.RowKit Sp

theorem orElse_zero {e : Int} {o : Option Int} {c : Int × Int} (h : orElse e o c = (0, 0)) (he : ¬ e = 0) : o = none ∧ c = (0, 0) := by
  cases o with
  | none => exact ⟨rfl, h⟩
  | some l => exact absurd (congrArg Prod.fst h) he
theorem sayAt_no (A : List ByteArray) (i j : Nat) (hj : j < A.length) (hij : i ≤ j) (hb : (say A[j]).ok = false) : ¬ sayAt A i = (0, 0) := by
  have hi : i < A.length := by omega
  cases hc : (say A[i]).ok with
  | false => rw [sayAt_bad A i hi hc]; exact fun e => absurd (congrArg Prod.fst e) (show ¬ (1 : Int) = 0 by decide)
  | true =>
    rw [sayAt_on A i hi hc]
    have hne : ¬ i = j := fun e => by subst e; rw [hb] at hc; cases hc
    exact sayAt_no A (i + 1) j hj (by omega) hb
termination_by A.length - i
/-- A right text is read into a program that says what its lines say. -/
theorem reads_in (s : ByteArray) (h : readS s = (0, 0)) : ReadsIn s ((lines s).map say) := by
  have hgood := good_of s h
  unfold readS at h
  by_cases hf : 4000 < s.size ∨ 300 < (lines s).length
  · rw [if_pos hf] at h; exact absurd (congrArg Prod.fst h) (by decide)
  · rw [if_neg hf] at h
    have h4 : s.size ≤ 4000 := by omega
    have h3 : (lines s).length ≤ 300 := by omega
    by_cases hok : ∀ x ∈ lines s, (say x).ok = true
    · rw [sayAt_ok _ hok 0, start_keys _ hok] at h
      have S : Sts s (keysTo (lines s) (lines s).length) := ⟨h4, h3, hok, rfl⟩
      have hka := keys_all (lines s)
      generalize keysTo (lines s) (lines s).length = K at S h hka
      cases K with
      | nil => exact absurd (congrArg Prod.fst h) (by decide)
      | cons k r =>
        unfold sayK at h
        dsimp only at h
        by_cases h0 : k.sort = 0
        · rw [if_pos h0] at h
          obtain ⟨ht, h⟩ := orElse_zero h (by decide)
          obtain ⟨hm, h⟩ := orElse_zero h (by decide)
          obtain ⟨he, _⟩ := orElse_zero h (by decide)
          intro w hw
          refine (cread_prog s k r S h0 ht _ rfl hm he w hw).mono ?_
          rintro e w' ⟨hb, pm, ao, n, cap, F, rfl, hP, hG, hF0, hFn, hFi⟩
          refine ⟨hb, pm, ao, n, cap, F, rfl, hP, ⟨hgood, body_none _ 0 k r hka.symm h0, ?_, hF0⟩, hFn, hFi⟩
          rw [hG.out]; exact fns_all _ 0 k r hka.symm h0
        · rw [if_neg h0] at h
          exact absurd (congrArg Prod.fst h) (show ¬ (2 : Int) = 0 by decide)
    · exfalso
      have : ∃ x ∈ lines s, ¬ (say x).ok = true := by
        refine Classical.byContradiction fun hn => hok fun x hx => ?_
        refine Classical.byContradiction fun hx' => hn ⟨x, hx, hx'⟩
      obtain ⟨x, hx, hb⟩ := this
      obtain ⟨j, hj, rfl⟩ := List.mem_iff_getElem.1 hx
      exact sayAt_no (lines s) 0 j hj (by omega) (by simpa using hb) h
/-- Trace of the program tells what the document says. -/
theorem ctrace_any (s : ByteArray) (w : World) (hw : LibW w) (ao : Option Addr) (icap : Nat) (n : Int) (inp : List Int) (hs : s.size ≤ 1048576) (hiv : SlB w w.heap.size (.slice ao inp.length icap) inp) (hin : inp.length ≤ 1048576) :
    Calls Tryz.prog 18 #[.string s, .slice ao inp.length icap, .int .i64 n] w (TracePost w (traceS s inp n)) := by
  have hbw := trw_below w s (.slice ao inp.length icap) n
  have hbo := outw_below (TrW w s (.slice ao inp.length icap) n)
  have hb2 : Below w.heap.size w (OutW (TrW w s (.slice ao inp.length icap) n)) := hbw.trans (hbo.mono hbw.size)
  have hw2 := hw.below hb2
  have T := (trw_in w s (.slice ao inp.length icap) n).below hbo
  unfold traceS
  by_cases hR : readS s = (0, 0)
  · rw [if_neg (by simpa using hR)]
    by_cases h0 : n < 0 ∨ 100000 < n
    · rw [if_pos h0]
      exact ctrace_refused w s ao _ icap n 7 0 (twork_far _ hw2 _ _ _ _ s _ n T _ (reads_in s hR) h0)
    · rw [if_neg h0]
      obtain ⟨k, rfl⟩ := Int.eq_ofNat_of_zero_le (show 0 ≤ n by omega)
      exact ctrace_ok w s ao _ icap _ _ (twork_ok _ hw2 _ _ _ _ s ao icap k inp T _ (reads_in s hR) (by omega) (hiv.mono hb2) hin _ rfl)
  · rw [if_pos hR]
    exact ctrace_refused w s ao _ icap n _ _ (twork_no _ hw2 _ _ _ _ s _ n T (readS s) hR (reads_any s hs))

end Go.Proofs.YtfpgjkbjbbgciaaGreatDoor

namespace Go.Proofs.YtfpgjkbjbbgciaaGreatDoor
open Go.RowKit Sp

theorem exec_out (i : Ins) (nx : Int) (m : Mc) : (exec i nx m).out.length ≤ m.out.length + 1 := by
  cases i <;> simp only [exec]
  all_goals (try split)
  all_goals (simp [Mc.goes])
theorem stepL_out (L : List Said) (m : Mc) : (stepL L m).out.length ≤ m.out.length + 1 := by
  unfold stepL
  split
  · omega
  · exact exec_out _ _ _
theorem runS_out (L : List Said) (n : Nat) (m : Mc) : (runS (stepL L) n m).out.length ≤ m.out.length + n := by
  induction n generalizing m with
  | zero => exact Nat.le_refl _
  | succ n ih =>
    by_cases h : m.fin = 0
    · rw [runS_step _ _ _ h]
      have := ih (stepL L m)
      have := stepL_out L m
      omega
    · rw [runS_stop _ _ _ h]; omega
theorem traceS_out (s : ByteArray) (inp : List Int) (n : Int) : (traceS s inp n).m.out.length ≤ 1048577 := by
  unfold traceS
  split
  · simp [zeroMc]
  · split
    · simp [zeroMc]
    · have := runS_out ((lines s).map say) n.toNat (beginL ((lines s).map say) inp)
      have e : (beginL ((lines s).map say) inp).out.length = 0 := rfl
      show (runS _ _ _).out.length ≤ _
      omega
theorem SlB.slN {w : World} {b : Nat} {v : Value} {l : List Int} (h : SlB w b v l) : SlN w v l := by
  obtain ⟨ao, cap, h1, _, h3⟩ := h
  exact ⟨ao, cap, h1, fun hp => by obtain ⟨g, o, a, _, _, d⟩ := h3 hp; exact ⟨g, o, a, d⟩⟩
theorem SlN.below {w w' : World} {v : Value} {l : List Int} (h : SlN w v l) (hb : Below w.heap.size w w') : SlN w' v l := by
  obtain ⟨ao, cap, h1, h3⟩ := h
  exact ⟨ao, cap, h1, fun hp => by obtain ⟨g, o, a, d⟩ := h3 hp; exact ⟨g, o, a, fun j hj => still hb (d j hj)⟩⟩
/-- The numbers that were lent out, without the strange one behind them. -/
theorem lent_front {w : World} {B g cap : Nat} {l : List Int} {x : Int} (h : w.ownsRow B 2 1 (.slice (some ⟨g, 0, none⟩) (l.length + 1) cap) (l.length + 1) (i64s (l ++ [x]))) (hg : g < w.heap.size) (hcap : l.length + 1 ≤ cap) : SlB w w.heap.size (.slice (some ⟨g, 0, none⟩) l.length cap) l := by
  refine ⟨_, cap, rfl, by omega, fun _ => ⟨g, 0, rfl, hg, hg, fun j hj => ?_⟩⟩
  have hlen : (i64s (l ++ [x])).length = l.length + 1 := by simp [i64s]
  rw [Nat.zero_add, World.ownsRow.cellAt h j (by omega)]
  unfold i64s
  rw [List.map_append, List.getElem?_append_left (by simpa using hj)]
  simp [hj]
theorem row_cap {w : World} {B : Nat} {e : TypeId} {n : Nat} {v : Value} {xs : List Value} (h : w.ownsRow B e 1 v n xs) (hn : 0 < n) : ∃ g cap, v = .slice (some ⟨g, 0, none⟩) n cap ∧ B ≤ g ∧ g < w.heap.size ∧ n ≤ cap := by
  obtain ⟨g, cap, rfl, hb, hlt⟩ := h.form hn
  refine ⟨g, cap, rfl, hb, hlt, ?_⟩
  rcases h.2 with ⟨hv, h0⟩ | ⟨g', cap', cur, hv, _, _, r⟩
  · omega
  · simp only [Value.slice.injEq, true_and] at hv
    have := r.1
    have := hv.2
    omega
set_option maxRecDepth 100000 in
set_option maxHeartbeats 8000000 in
theorem tlaw_any (s : ByteArray) (w : World) (hw : LibW w) (ao : Option Addr) (icap : Nat) (n : Int) (inp : List Int) (hs : s.size ≤ 1048576) (hiv : SlB w w.heap.size (.slice ao inp.length icap) inp) (hin : inp.length ≤ 1048576) :
    Calls Tryz.prog 4 #[.string s, .slice ao inp.length icap, .int .i64 n] w fun e w' => e = .returned (.bool true) ∧ Below w.heap.size w w' := by
  have hl1 := lent_any w _ inp hiv.slN hin
  have hout := traceS_out s inp n
  generalize hT : traceS s inp n = T at hout
  have HT : Hid (traceS s inp n = T) := hT
  clear hT
  go_enter Tryz.func4, Tryz.ntmps4
  go_wp2_with (first
    | (go_at_call 17; refine hl1.mono ?_; rintro e w1 ⟨u, rfl, hrow1, hb1⟩; obtain ⟨g, cap, rfl, hg, hgl, hcap⟩ := row_cap hrow1 (by omega); have hcap2 : inp.length ≤ cap := (by omega); have hw1 := hw.below hb1)
    | (go_at_call 18; refine (ctrace_any s w1 hw1 _ cap n inp hs (lent_front hrow1 hgl hcap) hin).mono ?_; rw [HT.out]; rintro e w2 ⟨oo, no, co, rfl, hrow2, hb2⟩; refine Hid.out ?_))
  unfold Hid
  have hl3 := stateL_len T.m (.slice oo no co) T.at_
  have h13 := stateL_one T.m oo no co T.at_
  have hN2 := SlN.of_row (_n := 0) hrow2
  generalize hds : stateL T.m (.slice oo no co) T.at_ = ds at hl3 h13
  have hi3 := info_state ds hl3
  have hid3 : (Tryz.prog.info? 34).map (·.size) = some ds.length := by rw [hl3]; exact Tryz.info34
  have ht3 := z34_next (W1 := w2) rfl ds hl3
  have hB3 : Below w2.heap.size w2 ((w2.alloc Z34).setCells w2.heap.size 0 ds.toArray.toList) := setCells_below _ 0 ((Below.refl w2.heap.size w2).alloc (Nat.le_refl _) _) (Nat.le_refl _)
  have hr3 : ((w2.alloc Z34).setCells w2.heap.size 0 ds.toArray.toList).rangeAt w2.heap.size 0 ds := by rw [show ds.toArray.toList = ds by simp]; exact World.rangeAt_setCells_same _ _ _ _ (by rw [show ds.length = ds.toArray.size by simp]; exact ht3)
  have hs3 : ((w2.alloc Z34).setCells w2.heap.size 0 ds.toArray.toList).heap.size = w2.heap.size + 1 := by rw [setCells_size]; simp
  have hbw3 := (hb1.trans (hb2.mono hb1.size)).trans (hB3.mono (hb1.trans (hb2.mono hb1.size)).size)
  have hlent := lent_any _ _ inp (hiv.slN.below hbw3) hin
  have hN1 := ((SlN.of_row (_n := 0) (by simpa using hrow1) : SlN w1 (.slice (some ⟨g, 0, none⟩) (inp.length + 1) cap) (inp ++ [-77])).below hb2).below hB3
  have hN3 := hN2.below hB3
  generalize hw3 : (w2.alloc Z34).setCells w2.heap.size 0 ds.toArray.toList = w3 at hB3 hr3 hs3 hbw3 hlent hN1 hN3
  clear hl1 hrow1
  repeat (first
    | (refine wpList_store_mid rfl 34 _ _ rfl w2.heap.size 0 ds.toArray rfl rfl ht3 hi3 h13 ?_; rw [hw3])
    | (go_at_call 17; refine hlent.mono ?_; rintro e w4 ⟨u2, rfl, hrow4, hb4⟩; dsimp only)
    | (go_at_call 19; refine (same_numbers w4 _ _ (inp ++ [-77]) (hN1.below hb4) (SlN.of_row (_n := 0) (by simpa using hrow4)) (by simp; omega)).mono ?_; rintro e w5 ⟨rfl, k5, hw5⟩; dsimp only; refine Hid.out ?_)
    | go_values | go_skip | go_guarded | go_step | go_upon | go_back)
  unfold Hid
  have hb45 : Below w4.heap.size w4 w5 := by rw [hw5]; exact below_drewN _ k5
  have hb35 : Below w3.heap.size w3 w5 := hb4.trans (hb45.mono hb4.size)
  have hbw5 : Below w.heap.size w w5 := hbw3.trans (hb35.mono hbw3.size)
  have hrt := rtrace_any s w5 ao icap n inp hs (hiv.mono hbw5) hin
  rw [HT.out] at hrt
  have hr5 := range_below hr3 hb35 (by omega)
  have hN5 := hN3.below hb35
  have hs5 := hb35.size
  clear hw5 hlent hN1 hr3 hN3 hN2 hrow2 ht3 hi3 h13
  repeat (first
    | (go_at_call 20; refine hrt.mono ?_; rintro e w6 ⟨o2, n2, c2, rfl, hrow6, hb6⟩; dsimp only; refine Hid.out ?_)
    | go_values | go_skip | go_guarded | go_step | go_upon | go_back)
  unfold Hid
  have hl6 := stateL_len T.m (.slice o2 n2 c2) T.at_
  have h16 := stateL_one T.m o2 n2 c2 T.at_
  have hN6 := SlN.of_row (_n := 0) hrow6
  generalize hds2 : stateL T.m (.slice o2 n2 c2) T.at_ = ds2 at hl6 h16
  have hi6 := info_state ds2 hl6
  have hid6 : (Tryz.prog.info? 34).map (·.size) = some ds2.length := by rw [hl6]; exact Tryz.info34
  have ht6 := z34_next (W1 := w6) rfl ds2 hl6
  have hB7 : Below w6.heap.size w6 ((w6.alloc Z34).setCells w6.heap.size 0 ds2.toArray.toList) := setCells_below _ 0 ((Below.refl w6.heap.size w6).alloc (Nat.le_refl _) _) (Nat.le_refl _)
  have hr7b : ((w6.alloc Z34).setCells w6.heap.size 0 ds2.toArray.toList).rangeAt w6.heap.size 0 ds2 := by rw [show ds2.toArray.toList = ds2 by simp]; exact World.rangeAt_setCells_same _ _ _ _ (by rw [show ds2.length = ds2.toArray.size by simp]; exact ht6)
  have hb57 := hb6.trans (hB7.mono hb6.size)
  have hr7 := range_below hr5 hb57 (by omega)
  have hss := same_state _ T.m oo o2 no n2 co c2 T.at_ (hN5.below hb57) (hN6.below hB7) hout
  rw [hds, hds2] at hss
  have hbw7 := hbw5.trans (hb57.mono hbw5.size)
  generalize hw7 : (w6.alloc Z34).setCells w6.heap.size 0 ds2.toArray.toList = w7 at hB7 hr7 hr7b hb57 hss hbw7
  have hu34 : Tryz.prog.underlying 34 = some (.struct _) := Tryz.underlying34
  repeat (first
    | (refine wpList_store_mid rfl 34 _ _ rfl w6.heap.size 0 ds2.toArray rfl rfl ht6 hi6 h16 ?_; rw [hw7])
    | (refine wpList_load_mid rfl 34 _ rfl w2.heap.size 0 rfl ds _ hr7 hu34 rfl hid3 ?_)
    | (refine wpList_load_mid rfl 34 _ rfl w6.heap.size 0 rfl ds2 _ hr7b hu34 rfl hid6 ?_)
    | (go_at_call 21; refine hss.mono ?_; rintro e w8 ⟨rfl, hb8⟩; dsimp only)
    | go_values | go_skip | go_guarded | go_step | go_upon | go_back)
  go_ret
  exact ⟨rfl, hbw7.trans (hb8.mono hbw7.size)⟩

end Go.Proofs.YtfpgjkbjbbgciaaGreatDoor

namespace Go.Proofs.YtfpgjkbjbbgciaaGreatDoor
open Go.ChangeShapes Go.WideShapes Go.ChangeAt Go.RowKit Sp
open Go.ChangeMaps (open_string shut_string)

theorem bulk_slice {H : Type} (l r : List (DataW H)) : l.length + r.length ≤ Rows.uptoBulk (.slice l r) := by
  have key : ∀ l : List (DataW H), l.length ≤ Rows.uptoBulkAll l := by
    intro l
    induction l with
    | nil => simp
    | cons d l ih =>
      have : 1 ≤ Rows.uptoBulk d := by
        cases d with
        | lit l => cases l <;> simp [Rows.uptoBulk]
        | _ => simp [Rows.uptoBulk]
      simp only [Rows.uptoBulkAll, List.length_cons]
      omega
  have h1 := key l
  have h2 := key r
  simp only [Rows.uptoBulk]
  omega
set_option maxRecDepth 100000 in
/-- A list of numbers that is handed in: what it holds, and that it reads as it did behind a call that writes no elder memory. -/
theorem open_list {H : Type} {enc : TypeId × Value → H} {W : World} {base : Nat} {v : Value} {d : DataW H} {p : List MemPlace} (hval : Value.okWide Tryz.prog W .any base 29 v) (h : DataW.Trod enc Tryz.prog W 0 (fun _ => true) true 29 v d p) :
    ∃ (ao : Option Addr) (icap : Nat) (inp : List Int), v = .slice ao inp.length icap ∧ SlB W W.heap.size (.slice ao inp.length icap) inp ∧ inp.length ≤ Rows.uptoBulk d ∧
      ∀ W', Below W.heap.size W W' → DataW.Trod enc Tryz.prog W' 0 (fun b => decide (b < W.heap.size)) true 29 v d p := by
  obtain ⟨a0, len0, cap0, rfl⟩ := okWide_slice Tryz.underlying29 hval
  obtain ⟨fuel, hf⟩ := h
  have hc : Tryz.prog.cellsOf 2 = 1 := by kernel_rfl
  rcases open_ints Tryz.underlying29 Tryz.underlying2 hc hf with ⟨hcs, hx⟩ | ⟨a, len, cap, zs, hcs, _, hle, hmax, hall, hx, hcell, hwf⟩
  · simp [Value.cells] at hcs
    obtain ⟨rfl, rfl, rfl⟩ := hcs
    simp only [Prod.mk.injEq] at hx
    obtain ⟨rfl, rfl⟩ := hx
    refine ⟨none, 0, [], rfl, ⟨none, 0, rfl, Nat.le_refl _, fun h => by simp at h⟩, Nat.zero_le _, fun W' _ => ⟨1, ?_⟩⟩
    simp [DataW.trod, Value.cells, Tryz.underlying29]
  · simp [Value.cells] at hcs
    obtain ⟨rfl, rfl, rfl⟩ := hcs
    simp only [Prod.mk.injEq] at hx
    obtain ⟨rfl, rfl⟩ := hx
    simp only [if_true] at hall
    have hlt : (zs.take len0).length = len0 := by rw [List.length_take]; omega
    refine ⟨some a, cap0, zs.take len0, by rw [hlt], ⟨some a, cap0, rfl, by omega, fun hp => ?_⟩, ?_, fun W' hb => ⟨2, ?_⟩⟩
    · obtain ⟨b, off, rfl, hat⟩ := ints_at hcell (by omega)
      have hbl : b < W.heap.size := World.block_lt_of_cell? W _ (hat 0 (by omega))
      refine ⟨b, off, rfl, hbl, hbl, fun j hj => ?_⟩
      rw [hat j (by omega)]
      simp [List.getD, show j < zs.length by omega]
    · have := bulk_slice (lits (H := H) .i64 (zs.take len0)) (lits .i64 (zs.drop len0))
      have hll : (lits (H := H) .i64 (zs.take len0)).length = (zs.take len0).length := by simp [lits]
      rw [hll] at this
      exact Nat.le_trans (Nat.le_add_right _ _) this
    · have hz : zs.length = (if decide (a.block < W.heap.size) = true then cap0 else len0) := by
        by_cases h0 : 0 < zs.length
        · have : a.block < W.heap.size := by
            have := World.block_lt_of_cell? W _ (hcell 0 h0)
            simpa [Addr.add] using this
          rw [if_pos (by simpa using this)]; exact hall
        · split <;> omega
      have := shut_ints (enc := enc) (P := Tryz.prog) (w := W') (base := 0) (spare := fun b => decide (b < W.heap.size)) (held := true) 0 Tryz.underlying29 Tryz.underlying2 hc (Nat.zero_le _) hle hmax hz (fun i hi => still hb (hcell i hi)) hwf
      simpa [Value.cells] using this

set_option maxRecDepth 100000 in
theorem tcontract (H : Type) (enc : TypeId × Value → H) (W : World) (base : Nat) (args : Array Value) (ds gs : List (DataW H)) (before : List MemPlace)
    (hval : ∀ (j : Nat) t v, Tryz.f4.params[j]? = some t → args[j]? = some v → Value.okWide Tryz.prog W .any base t v)
    (hW : DataW.Whole enc Tryz.prog Tryz.f4.params.toList Rows.tracesSpec.vars false W args.toList ds gs before) (hbulk : Rows.uptoSmall H (ds ++ gs) = true) (hL : laidMetH Tryz.prog Rows.tracesUptoRow.laid W) (hsh : W.ShapedOpen Tryz.prog) :
    Calls Tryz.prog 4 args W fun e W' => ∃ v, e = .returned v ∧ Rows.tracesSpec.post enc Tryz.prog Tryz.f4 false true false false W args v W' := by
  have hW' := hW
  obtain ⟨p, q, hA0, hV, rfl, hfz, hnd⟩ := hW
  have hA : DataW.TrodAll enc Tryz.prog W 0 (fun _ => true) true Tryz.f4.params.toList args.toList ds p := hA0
  rw [Tryz.params4] at hA hval
  obtain ⟨v0, v1, v2, d0, d1, d2, p0, p1, p2, rfl, rfl, rfl, h0, h1, h2⟩ := trodAll_three hA
  obtain ⟨rfl, rfl⟩ := trodVars_none hV
  obtain ⟨s, rfl, rfl, rfl, ws⟩ := open_string Tryz.underlying9 (hval 0 9 v0 rfl rfl) h0
  obtain ⟨n, rfl, rfl, rfl, wn⟩ := open_int Tryz.underlying3 (hval 2 3 v2 rfl rfl) h2
  obtain ⟨ao, icap, inp, rfl, hiv, hbk, hback⟩ := open_list (hval 1 29 v1 rfl rfl) h1
  have hsz : s.size ≤ 1048576 ∧ inp.length ≤ 1048576 := by
    have h := of_decide_eq_true hbulk
    simp only [List.append_nil, Rows.uptoBulkAll, Rows.uptoBulk, Array.length_toList] at h
    have e : s.size = s.data.size := rfl
    omega
  clear hA0
  simp only [List.append_nil] at hW'
  refine (tlaw_any s W (lib_of_laid hL hsh) ao icap n inp hsz.1 hiv hsz.2).mono fun e W' ⟨he, hb⟩ => ?_
  subst he
  refine ⟨_, rfl, _, _, _, [], [] ++ (p1 ++ []), [], hW', ?_, ?_, ?_, hb.frame _, fun h => by cases h⟩
  · exact trodAll_mk1 (shut_bool Tryz.underlying4 _)
  · exact trodAll_mk3 (shut_string Tryz.underlying9 ws) (hback W' hb) (shut_int Tryz.underlying3 wn)
  · rfl

end Go.Proofs.YtfpgjkbjbbgciaaGreatDoor

namespace Go.Proofs.YtfpgjkbjbbgciaaGreatDoor
open Go.ChangeShapes Go.WideShapes Go.ChangeAt Go.RowKit Sp

theorem twitness_row (os : Os) {H : Type} (enc : TypeId × Value → H) :
    (Rows.OpenSpec.upto Rows.tracesSpec).preRow enc Tryz.prog Tryz.f4 Rows.tracesUptoRow.domain false Rows.tracesUptoRow.laid ((laidWorld os).forCall (fun _ _ => 0) ⟨#[], #[.string ⟨#[]⟩, .slice none 0 0, .int .i64 0], []⟩).memory #[.string ⟨#[]⟩, .slice none 0 0, .int .i64 0] := by
  have hw : (DataW.whole enc Tryz.prog ((laidWorld os).forCall (fun _ _ => 0) ⟨#[], #[.string ⟨#[]⟩, .slice none 0 0, .int .i64 0], []⟩).memory Tryz.f4.params.toList Rows.tracesSpec.vars false #[Value.string ⟨#[]⟩, .slice none 0 0, .int .i64 0].toList 8).map (fun x => (x.1, x.2.1)) =
      some ([.lit (.string []), .nil, .lit (.int .i64 0)], []) := by kernel_rfl
  obtain ⟨⟨x1, x2, x3⟩, hx, hx1⟩ := Option.map_eq_some_iff.1 hw
  simp only [Prod.mk.injEq] at hx1
  obtain ⟨rfl, rfl⟩ := hx1
  exact OpenSpec.preRow_of_cond 8 hx (by kernel_rfl) (fun k hk => by cases hk; kernel_rfl) (by kernel_rfl) (laid_met os _)

set_option maxRecDepth 100000 in
theorem tliftedUpto (os : Os) (started : os.Started) (H : Type) (enc : TypeId × Value → H) (F : Stop.Interp) :
    ReturnsInHanded {} Tryz.checked os 4 .any ((Rows.OpenSpec.upto Rows.tracesSpec).preRow enc Tryz.prog Tryz.f4 Rows.tracesUptoRow.domain false Rows.tracesUptoRow.laid) (((Rows.OpenSpec.upto Rows.tracesSpec).at F).post enc Tryz.prog Tryz.f4 false true false false) := by
  refine returnsInHanded_of_row (C := Tryz.checked) (s := Rows.OpenSpec.upto Rows.tracesSpec) Tryz.own started (by kernel_rfl) Tryz.func4
    (witness_row_atRef (enc := enc) (C := Tryz.checked) false (laidWorld os) #[.string ⟨#[]⟩, .slice none 0 0, .int .i64 0] rfl (by kernel_rfl) (by kernel_rfl) (by kernel_rfl) (twitness_row os enc)) ?_
  intro W base args ds gs before hval hW x1 x2 x3 hL x4 x5
  exact tcontract H enc W base args ds gs before hval hW (x2 _ rfl) hL x4

theorem tsaidUpto : Rows.TracesUptoSaid :=
  OpenClaim.holds_of_cond 4 Tryz.f4 rfl rfl rfl rfl rfl rfl rfl ⟨rfl, rfl, rfl, rfl, rfl⟩ rfl rfl rfl rfl rfl (by kernel_rfl) Tryz.func4 (by kernel_rfl)
    (of_decide_eq_true (by kernel_rfl)) (by unfold Func.isWrapper; first | (rw [if_pos (by decide +kernel)]; kernel_rfl) | (rw [if_neg (by decide +kernel)]; exact ⟨rfl, rfl⟩))
    (fun os started H enc _ F => by rw [OpenClaim.pre_eq_preRow]; exact tliftedUpto os started H enc F)

/-- No parameter wants a stand-in. -/
theorem tplain (f : FuncId) (fn : Func) (hf : Tryz.pinned.checked.prog.funcNamed "bounded/boundedlaw.Traces" = some f) (hfn : Tryz.pinned.checked.prog.funcs[f]? = some fn) :
    true = Tryz.pinned.checked.prog.looks [] ∧ ∀ (j : Nat) t, fn.params[j]? = some t → Tryz.pinned.checked.prog.wantsStandIn t = false := by
  obtain rfl : f = 4 := Option.some.inj ((show Tryz.prog.funcNamed "bounded/boundedlaw.Traces" = some 4 by kernel_rfl).symm.trans hf) |>.symm
  obtain rfl : fn = Tryz.f4 := (Option.some.inj (Tryz.func4.symm.trans hfn)).symm
  refine ⟨by kernel_rfl, fun j t ht => ?_⟩
  rw [Tryz.params4] at ht
  have hm : t = 9 ∨ t = 29 ∨ t = 3 := by simpa using Array.mem_of_getElem? ht
  rcases hm with rfl | rfl | rfl
  · exact (show Tryz.prog.wantsStandIn 9 = false by kernel_rfl)
  · exact (show Tryz.prog.wantsStandIn 29 = false by kernel_rfl)
  · exact (show Tryz.prog.wantsStandIn 3 = false by kernel_rfl)

/-- ████ THE CARD ████ -/
theorem tcardUpto : Rows.TracesUptoCardSaid :=
  Claim7.holds_tied_plain_at .later [] _ _ _ _ tsaidUpto (fun _ h => by cases h) (by kernel_rfl) (fun _ h => by cases h) tracesUpto_row_tie rfl ⟨rfl, rfl⟩ (by kernel_rfl) rfl tplain (by kernel_rfl)

end Go.Proofs.YtfpgjkbjbbgciaaGreatDoor
