import Derived.Test.YtfpgjkbjbbgciaaGreatDoorMb40
namespace Go.Proofs.YtfpgjkbjbbgciaaGreatDoor
open Go.RowKit Sp

def zeroMc : Mc := ⟨0, [], [], 0, fun _ => 0, fun _ => 0, [], 0, 0, 0⟩
/-- What a Trace tells: the machine, its line, the error and its line. -/
structure Told where
  m : Mc
  at_ : Int
  err : Int
  line : Int
def traceS (s : ByteArray) (inp : List Int) (n : Int) : Told :=
  if ¬ readS s = (0, 0) then ⟨zeroMc, 0, (readS s).1, (readS s).2⟩
  else if n < 0 ∨ 100000 < n then ⟨zeroMc, 0, 7, 0⟩
  else ⟨runS (stepL ((lines s).map say)) n.toNat (beginL ((lines s).map say) inp), (runS (stepL ((lines s).map say)) n.toNat (beginL ((lines s).map say) inp)).line, 0, 0⟩
def TracePost (w : World) (T : Told) : Ending → World → Prop := fun e w' => ∃ ao no co, e = .returned (.tuple #[.agg (stateL T.m (.slice ao no co) T.at_).toArray, .int .i64 T.err, .int .i64 T.line]) ∧ w'.ownsRow w.heap.size 2 1 (.slice ao no co) T.m.out.length (i64s T.m.out) ∧ Below w.heap.size w w'
theorem zeroL : stateL zeroMc (.slice none 0 0) 0 = [.int .i64 0, .int .i64 0, .int .i64 0, .int .i64 0, .int .i64 0, .int .i64 0, .int .i64 0, .int .i64 0, .int .i64 0, .int .i64 0, .int .i64 0, .int .i64 0, .int .i64 0, .int .i64 0, .int .i64 0, .int .i64 0, .int .i64 0, .int .i64 0, .int .i64 0, .int .i64 0, .int .i64 0, .int .i64 0, .int .i64 0, .int .i64 0, .int .i64 0, .slice none 0 0, .int .i64 0, .int .i64 0, .int .i64 0, .int .i64 0] := by simp [stateL, List.range_succ, zeroMc]
theorem there_at {w : World} {b n : Nat} (h : w.there b 0 n) (j : Nat) (hj : j < n) : (∃ u, w.cell? ⟨b, j, none⟩ = some u) ∧ w.frozen? ⟨b, j, none⟩ = false := by
  have := h j hj
  rw [Nat.zero_add] at this
  exact ⟨Option.isSome_iff_exists.1 this.1, this.2⟩
/-- The state is told by a result cell, and two numbers. -/
theorem told_end {fn : Func} {a b c : Tmp} {w w4 : World} {T : Told} {ao : Option Addr} {no co : Nat} {act : Act} (hr3 : fn.results = #[.cell a 34, .tmp b, .tmp c]) (ds : List Value) (hds : stateL T.m (.slice ao no co) T.at_ = ds) (ht4 : w4.there w.heap.size 0 ds.toArray.size) (hb4 : Below w.heap.size w w4) (how : w4.ownsRow (w.heap.size + 1) 2 1 (.slice ao no co) T.m.out.length (i64s T.m.out))
    (hp : act.tmps.getD a undef = .pointer (some ⟨w.heap.size, 0, none⟩)) (h1 : act.tmps.getD b undef = .int .i64 T.err) (h2 : act.tmps.getD c undef = .int .i64 T.line) (hd : act.defers = []) :
    bodyPost Tryz.prog fn (TracePost w T) .ret act (w4.setCells w.heap.size 0 ds) := by
  have hl : ds.length = 30 := by rw [← hds]; exact stateL_len _ _ _
  have hu34 : Tryz.prog.underlying 34 = some (.struct _) := Tryz.underlying34
  have hr := World.rangeAt_setCells_same w4 w.heap.size 0 ds (by rw [show ds.length = ds.toArray.size by simp]; exact ht4)
  have hres := run_loadVar_mid (w4.setCells w.heap.size 0 ds) w.heap.size 0 34 ds _ hr hu34 rfl (by rw [hl]; exact Tryz.info34)
  have hr2 := results_cell3 hr3 act.tmps ⟨w.heap.size, 0, none⟩ hp hres
  rw [h1, h2] at hr2
  refine bodyPost_ret hr2 hd ⟨ao, no, co, by rw [hds], ?_, setCells_below ds 0 hb4 (Nat.le_refl _)⟩
  have ho2 : (w4.setCells w.heap.size 0 ds).ownsRow (w.heap.size + 1) 2 1 (.slice ao no co) T.m.out.length (i64s T.m.out) := own_of_block how (fun q hq => setCells_block ds w4 _ _ _ (by have := (how.lt q hq).1; omega))
  exact own_mono ho2 (by omega)
theorem zero_info : (Tryz.prog.info? 34).map (·.size) = some ([.int .i64 0, .int .i64 0, .int .i64 0, .int .i64 0, .int .i64 0, .int .i64 0, .int .i64 0, .int .i64 0, .int .i64 0, .int .i64 0, .int .i64 0, .int .i64 0, .int .i64 0, .int .i64 0, .int .i64 0, .int .i64 0, .int .i64 0, .int .i64 0, .int .i64 0, .int .i64 0, .int .i64 0, .int .i64 0, .int .i64 0, .int .i64 0, .int .i64 0, .slice none 0 0, .int .i64 0, .int .i64 0, .int .i64 0, .int .i64 0] : List Value).toArray.size := by kernel_rfl
theorem zero_one : ([.int .i64 0, .int .i64 0, .int .i64 0, .int .i64 0, .int .i64 0, .int .i64 0, .int .i64 0, .int .i64 0, .int .i64 0, .int .i64 0, .int .i64 0, .int .i64 0, .int .i64 0, .int .i64 0, .int .i64 0, .int .i64 0, .int .i64 0, .int .i64 0, .int .i64 0, .int .i64 0, .int .i64 0, .int .i64 0, .int .i64 0, .int .i64 0, .int .i64 0, .slice none 0 0, .int .i64 0, .int .i64 0, .int .i64 0, .int .i64 0] : List Value).toArray.all (·.oneCell') = true := by kernel_rfl
theorem built34 : Tryz.prog.built 34 [] = some ([.int .i64 0, .int .i64 0, .int .i64 0, .int .i64 0, .int .i64 0, .int .i64 0, .int .i64 0, .int .i64 0, .int .i64 0, .int .i64 0, .int .i64 0, .int .i64 0, .int .i64 0, .int .i64 0, .int .i64 0, .int .i64 0, .int .i64 0, .int .i64 0, .int .i64 0, .int .i64 0, .int .i64 0, .int .i64 0, .int .i64 0, .int .i64 0, .int .i64 0, .slice none 0 0, .int .i64 0, .int .i64 0, .int .i64 0, .int .i64 0] : List Value).toArray := by kernel_rfl
set_option maxRecDepth 100000 in
theorem zero_build {ops : Array Oper} {rest : List Oper} {o : Oper} {a : Act} {w : World} {Q : Exit → Act → World → Prop} (hg : o.guard = none) (ho : o.op = .build 34 #[])
    (h : ∀ Zc : Array Value, Hid (Zc = ([.int .i64 0, .int .i64 0, .int .i64 0, .int .i64 0, .int .i64 0, .int .i64 0, .int .i64 0, .int .i64 0, .int .i64 0, .int .i64 0, .int .i64 0, .int .i64 0, .int .i64 0, .int .i64 0, .int .i64 0, .int .i64 0, .int .i64 0, .int .i64 0, .int .i64 0, .int .i64 0, .int .i64 0, .int .i64 0, .int .i64 0, .int .i64 0, .int .i64 0, .slice none 0 0, .int .i64 0, .int .i64 0, .int .i64 0, .int .i64 0] : List Value).toArray) → Zc.size = 30 → Zc.all (·.oneCell') = true → wpList Tryz.prog ops Q rest (a.put o.dst (.agg Zc)) w) : wpList Tryz.prog ops Q (o :: rest) a w := by
  refine wpList_build hg 34 #[] ho ?_ ?_
  · simp only [Array.toList_empty, List.map_toArray, List.map_nil]
    rw [built34]; rfl
  · simp only [Array.toList_empty, List.map_toArray, List.map_nil]
    rw [built34]
    exact h _ rfl rfl zero_one
theorem zero_there {w w2 : World} (hb : Below (w.heap.size + 1) (w.alloc Z34) w2) : w2.there w.heap.size 0 ([.int .i64 0, .int .i64 0, .int .i64 0, .int .i64 0, .int .i64 0, .int .i64 0, .int .i64 0, .int .i64 0, .int .i64 0, .int .i64 0, .int .i64 0, .int .i64 0, .int .i64 0, .int .i64 0, .int .i64 0, .int .i64 0, .int .i64 0, .int .i64 0, .int .i64 0, .int .i64 0, .int .i64 0, .int .i64 0, .int .i64 0, .int .i64 0, .int .i64 0, .slice none 0 0, .int .i64 0, .int .i64 0, .int .i64 0, .int .i64 0] : List Value).toArray.size := there_below (z34_there w) hb (by omega)

set_option maxRecDepth 100000 in
set_option maxHeartbeats 8000000 in
theorem rtrace_err (s : ByteArray) (w : World) (iv : Value) (n : Int) (hs : s.size ≤ 1048576) (a c : Int) (hR : readS s = (a, c)) (ha : (a != 0) = true) :
    Calls Tryz.prog 20 #[.string s, iv, .int .i64 n] w (TracePost w ⟨zeroMc, 0, a, c⟩) := by
  have hread := read_any s (w.alloc Z34) hs
  have hs1 : (w.alloc Z34).heap.size = w.heap.size + 1 := by simp
  have hb1 : Below w.heap.size w (w.alloc Z34) := (Below.refl _ _).alloc (Nat.le_refl _) _
  have hinf : ∀ c : Array Value, c.size = 30 → (Tryz.prog.info? 34).map (·.size) = some c.size := fun c hc => by rw [hc]; exact Tryz.info34
  rw [hR] at hread
  go_enter Tryz.func20, Tryz.ntmps20
  go_wp2_with (first | (go_at_call 16; refine hread.mono ?_; rintro e w2 ⟨v, rfl, hb2, _⟩; rw [hs1] at hb2; have ht : w2.there w.heap.size 0 30 := there_below (z34_there w) hb2 (by omega); have hth : ∀ c : Array Value, c.size = 30 → w2.there w.heap.size 0 c.size := fun c hc => (by rw [hc]; exact ht); refine Hid.out ?_))
  unfold Hid
  repeat (first | (refine zero_build rfl rfl ?_; intro Zc hZ hZs hZ1) | (refine wpList_store_mid rfl 34 _ _ rfl w.heap.size 0 Zc rfl rfl (hth _ hZs) (hinf _ hZs) hZ1 ?_) | go_values | go_skip | go_guarded | go_step | go_upon | go_back)
  have hZe := hZ.out
  subst hZe
  exact told_end (T := ⟨zeroMc, 0, a, c⟩) Tryz.results20 _ zeroL (zero_there hb2) (hb1.trans (hb2.mono (by omega))) (World.ownsRow_nil _ _ _ _) rfl rfl rfl rfl
set_option maxRecDepth 100000 in
set_option maxHeartbeats 8000000 in
theorem rtrace_low (s : ByteArray) (w : World) (iv : Value) (n : Int) (hs : s.size ≤ 1048576) (hR : readS s = (0, 0)) (hlow : n < 0) :
    Calls Tryz.prog 20 #[.string s, iv, .int .i64 n] w (TracePost w ⟨zeroMc, 0, 7, 0⟩) := by
  have hread := read_any s (w.alloc Z34) hs
  have hs1 : (w.alloc Z34).heap.size = w.heap.size + 1 := by simp
  have hb1 : Below w.heap.size w (w.alloc Z34) := (Below.refl _ _).alloc (Nat.le_refl _) _
  have hinf : ∀ c : Array Value, c.size = 30 → (Tryz.prog.info? 34).map (·.size) = some c.size := fun c hc => by rw [hc]; exact Tryz.info34
  rw [hR] at hread
  go_enter Tryz.func20, Tryz.ntmps20
  go_wp2_with (first | (go_at_call 16; refine hread.mono ?_; rintro e w2 ⟨v, rfl, hb2, _⟩; rw [hs1] at hb2; have ht : w2.there w.heap.size 0 30 := there_below (z34_there w) hb2 (by omega); have hth : ∀ c : Array Value, c.size = 30 → w2.there w.heap.size 0 c.size := fun c hc => (by rw [hc]; exact ht); refine Hid.out ?_))
  unfold Hid
  repeat (first | (refine zero_build rfl rfl ?_; intro Zc hZ hZs hZ1) | (refine wpList_store_mid rfl 34 _ _ rfl w.heap.size 0 Zc rfl rfl (hth _ hZs) (hinf _ hZs) hZ1 ?_) | go_values | go_skip | go_guarded | go_step | go_upon | go_back)
  have hZe := hZ.out
  subst hZe
  exact told_end (T := ⟨zeroMc, 0, 7, 0⟩) Tryz.results20 _ zeroL (zero_there hb2) (hb1.trans (hb2.mono (by omega))) (World.ownsRow_nil _ _ _ _) rfl rfl rfl rfl
set_option maxRecDepth 100000 in
set_option maxHeartbeats 8000000 in
theorem rtrace_high (s : ByteArray) (w : World) (iv : Value) (n : Int) (hs : s.size ≤ 1048576) (hR : readS s = (0, 0)) (hlow : decide (n < 0) = false) (hhigh : 100000 < n) :
    Calls Tryz.prog 20 #[.string s, iv, .int .i64 n] w (TracePost w ⟨zeroMc, 0, 7, 0⟩) := by
  have hread := read_any s (w.alloc Z34) hs
  have hs1 : (w.alloc Z34).heap.size = w.heap.size + 1 := by simp
  have hb1 : Below w.heap.size w (w.alloc Z34) := (Below.refl _ _).alloc (Nat.le_refl _) _
  have hinf : ∀ c : Array Value, c.size = 30 → (Tryz.prog.info? 34).map (·.size) = some c.size := fun c hc => by rw [hc]; exact Tryz.info34
  rw [hR] at hread
  go_enter Tryz.func20, Tryz.ntmps20
  go_wp2_with (first | (go_at_call 16; refine hread.mono ?_; rintro e w2 ⟨v, rfl, hb2, _⟩; rw [hs1] at hb2; have ht : w2.there w.heap.size 0 30 := there_below (z34_there w) hb2 (by omega); have hth : ∀ c : Array Value, c.size = 30 → w2.there w.heap.size 0 c.size := fun c hc => (by rw [hc]; exact ht); refine Hid.out ?_))
  unfold Hid
  repeat (first | (refine zero_build rfl rfl ?_; intro Zc hZ hZs hZ1) | (refine wpList_store_mid rfl 34 _ _ rfl w.heap.size 0 Zc rfl rfl (hth _ hZs) (hinf _ hZs) hZ1 ?_) | go_values | go_skip | go_guarded | go_step | go_upon | go_back)
  have hZe := hZ.out
  subst hZe
  exact told_end (T := ⟨zeroMc, 0, 7, 0⟩) Tryz.results20 _ zeroL (zero_there hb2) (hb1.trans (hb2.mono (by omega))) (World.ownsRow_nil _ _ _ _) rfl rfl rfl rfl

theorem SlB.mono {w w' : World} {v : Value} {l : List Int} (h : SlB w w.heap.size v l) (hb : Below w.heap.size w w') : SlB w' w'.heap.size v l := by
  obtain ⟨ao, cap, h1, h2, h3⟩ := h
  refine ⟨ao, cap, h1, h2, fun hp => ?_⟩
  obtain ⟨g, o, e, hg, hg2, hc⟩ := h3 hp
  have := hb.size
  exact ⟨g, o, e, by omega, by omega, fun j hj => (hb.cell (p := ⟨g, o + j, none⟩) hg).trans (hc j hj)⟩
set_option maxRecDepth 100000 in
set_option maxHeartbeats 8000000 in
theorem rtrace_ok (s : ByteArray) (w : World) (ao : Option Addr) (icap k : Nat) (inp : List Int) (hs : s.size ≤ 1048576) (hR : readS s = (0, 0)) (hiv : SlB w w.heap.size (.slice ao inp.length icap) inp) (hin : inp.length ≤ 1048576) (hk : k ≤ 100000) (FIN : Mc) (hF : runS (stepL ((lines s).map say)) k (beginL ((lines s).map say) inp) = FIN) :
    Calls Tryz.prog 20 #[.string s, .slice ao inp.length icap, .int .i64 (k : Int)] w (TracePost w ⟨FIN, FIN.line, 0, 0⟩) := by
  have hread := read_any s (w.alloc Z34) hs
  have hs1 : (w.alloc Z34).heap.size = w.heap.size + 1 := by simp
  have hb1 : Below w.heap.size w (w.alloc Z34) := (Below.refl _ _).alloc (Nat.le_refl _) _
  have G := good_of s hR
  rw [hR] at hread
  generalize (lines s).map say = L at hread G hF
  have hlow : decide ((k : Int) < 0) = false := by simp
  have hhigh : decide ((100000 : Int) < (k : Int)) = false := by simp; omega
  have hu34 : Tryz.prog.underlying 34 = some (.struct _) := Tryz.underlying34
  go_enter Tryz.func20, Tryz.ntmps20
  go_wp2_with (first | (go_at_call 16; refine hread.mono ?_; rintro e w2 ⟨v, rfl, hb2, hok⟩; obtain ⟨g, cap2, rfl, _, hL2⟩ := hok rfl; rw [hs1] at hb2; have ht : w2.there w.heap.size 0 30 := there_below (z34_there w) hb2 (by omega); have hb12 : Below w.heap.size w w2 := hb1.trans (hb2.mono (by omega)); have htr := traced_any w2 g cap2 k icap ao L inp G hL2 (hiv.mono hb12) hin hk; rw [hF] at htr; refine Hid.out ?_))
  unfold Hid
  repeat (first
    | (go_at_call 24; refine htr.mono ?_; rintro e w3 ⟨ao', no', co', rfl, how3, hb3⟩; generalize hds : stateL FIN (.slice ao' no' co') FIN.line = ds; have hl : ds.length = 30 := (by rw [← hds]; exact stateL_len _ _ _); have h1 : ds.toArray.all (·.oneCell') = true := (by rw [← hds]; exact stateL_one _ _ _ _ _); have ht3 := z34_next (W1 := w3) rfl ds hl; have hi := info_state ds hl; have hid : (Tryz.prog.info? 34).map (·.size) = some ds.length := (by rw [hl]; exact Tryz.info34); have ht4 : ((w3.alloc Z34).setCells w3.heap.size 0 ds.toArray.toList).there w.heap.size 0 ds.toArray.size := (by rw [show ds.toArray.size = 30 by simp [hl]]; exact World.there_setCells (World.there_alloc (there_below ht hb3 (by have := hb2.size; simp at this; omega)) _) _ _ _); have hr3 : ((w3.alloc Z34).setCells w3.heap.size 0 ds.toArray.toList).rangeAt w3.heap.size 0 ds := (by rw [show ds.toArray.toList = ds by simp]; exact World.rangeAt_setCells_same _ _ _ _ (by rw [show ds.length = ds.toArray.size by simp]; exact ht3)); dsimp only)
    | (refine wpList_store_mid rfl 34 _ _ rfl w3.heap.size 0 ds.toArray rfl rfl ht3 hi h1 ?_)
    | (refine wpList_load_mid rfl 34 _ rfl w3.heap.size 0 rfl ds _ hr3 hu34 rfl hid ?_)
    | (refine wpList_store_mid rfl 34 _ _ rfl w.heap.size 0 ds.toArray rfl rfl ht4 hi h1 ?_)
    | go_values | go_skip | go_guarded | go_step | go_upon | go_back)
  have hsz2 := hb2.size
  have hsz3 := hb3.size
  have hsza : (w.alloc Z34).heap.size = w.heap.size + 1 := by simp
  have hba : Below w.heap.size w (w3.alloc Z34) := (hb12.trans (hb3.mono (by omega))).alloc (by omega) _
  have hoa : ((w3.alloc Z34).setCells w3.heap.size 0 ds).ownsRow w2.heap.size 2 1 (.slice ao' no' co') FIN.out.length (i64s FIN.out) := own_below how3 (setCells_below ds 0 ((Below.refl w3.heap.size w3).alloc (Nat.le_refl _) _) (Nat.le_refl _)) (Nat.le_refl _)
  exact told_end (T := ⟨FIN, FIN.line, 0, 0⟩) Tryz.results20 ds hds (w4 := (w3.alloc Z34).setCells w3.heap.size 0 ds) ht4 (setCells_below ds 0 hba (by omega)) (own_mono hoa (by omega)) rfl rfl rfl rfl
/-- What is wrong is told by a number that is not 0. -/
theorem pass_ne (L : List Said) (q j : Nat) (c : Int × Int) (hc : ¬ c = (0, 0) → ¬ c.1 = 0) : ¬ pass L q j c = (0, 0) → ¬ (pass L q j c).1 = 0 := by
  by_cases h : j < L.length
  · cases hb : badB L q j with
    | true => rw [pass_bad L q j c h hb]; intro _; show ¬ (3 + (q : Int)) = 0; omega
    | false => rw [pass_on L q j c h hb]; exact pass_ne L q (j + 1) c hc
  · rw [pass_end L q j c h]; exact hc
termination_by L.length - j
theorem start_ne (L : List Said) (i : Nat) : ¬ startAt L i = (0, 0) → ¬ (startAt L i).1 = 0 := by
  by_cases h : i < L.length
  · by_cases h1 : L[i].kind = 0
    · rw [startAt_on L i h h1]; exact start_ne L (i + 1)
    · by_cases h2 : L[i].kind = 102
      · rw [startAt_f L i h h1 h2]
        exact pass_ne L 0 0 _ (pass_ne L 1 0 _ (pass_ne L 2 0 _ (fun h => absurd rfl h)))
      · rw [startAt_n L i h h1 h2]; intro _; show ¬ (2 : Int) = 0; decide
  · rw [startAt_end L i h]; intro _; decide
termination_by L.length - i
theorem say_ne (A : List ByteArray) (i : Nat) : ¬ sayAt A i = (0, 0) → ¬ (sayAt A i).1 = 0 := by
  by_cases h : i < A.length
  · cases h1 : (say A[i]).ok with
    | true => rw [sayAt_on A i h h1]; exact say_ne A (i + 1)
    | false => rw [sayAt_bad A i h h1]; intro _; show ¬ (1 : Int) = 0; decide
  · rw [sayAt_end A i h]; exact start_ne _ 0
termination_by A.length - i
theorem read_ne {s : ByteArray} (h : ¬ readS s = (0, 0)) : ((readS s).1 != 0) = true := by
  rw [bne_iff_ne]
  revert h
  unfold readS
  split
  · intro _; decide
  · exact say_ne _ 0
theorem rtrace_any (s : ByteArray) (w : World) (ao : Option Addr) (icap : Nat) (n : Int) (inp : List Int) (hs : s.size ≤ 1048576) (hiv : SlB w w.heap.size (.slice ao inp.length icap) inp) (hin : inp.length ≤ 1048576) :
    Calls Tryz.prog 20 #[.string s, .slice ao inp.length icap, .int .i64 n] w (TracePost w (traceS s inp n)) := by
  unfold traceS
  by_cases hR : readS s = (0, 0)
  · rw [if_neg (by simpa using hR)]
    by_cases h0 : n < 0
    · rw [if_pos (Or.inl h0)]; exact rtrace_low s w _ n hs hR h0
    by_cases h1 : 100000 < n
    · rw [if_pos (Or.inr h1)]; exact rtrace_high s w _ n hs hR (by simpa using h0) h1
    rw [if_neg (by omega)]
    obtain ⟨k, rfl⟩ := Int.eq_ofNat_of_zero_le (by omega : 0 ≤ n)
    exact rtrace_ok s w ao icap k inp hs hR hiv hin (by omega) _ rfl
  · rw [if_pos hR]
    exact rtrace_err s w _ n hs _ _ rfl (read_ne hR)

end Go.Proofs.YtfpgjkbjbbgciaaGreatDoor
