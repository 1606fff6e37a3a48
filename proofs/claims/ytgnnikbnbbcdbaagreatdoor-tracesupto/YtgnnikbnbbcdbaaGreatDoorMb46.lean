import Derived.Test.YtgnnikbnbbcdbaaGreatDoorMb45
import Derived.Deep.RegionHeld3
namespace Go.Proofs.YtgnnikbnbbcdbaaGreatDoor
open Go.RowKit Sp

theorem three_boxes {w : World} {a b c : Obj} : Below w.heap.size w (((w.alloc a).alloc b).alloc c) := (((Below.refl _ _).alloc (Nat.le_refl _) _).alloc (by simp) _).alloc (by simp; omega) _
set_option maxRecDepth 100000 in
set_option maxHeartbeats 4000000 in
theorem cins_jump (w : World) (ao bo : Option Addr) (n1 c1 n2 c2 pm : Nat) (sort line a b c n k to : Int) (nm : ByteArray)
    (hlab : ∀ W, Below w.heap.size w W → Calls Tryz.prog 108 #[.agg #[.slice ao n1 c1, .map (some pm), .slice bo n2 c2], .string nm, .int .i64 k] W fun e w' => e = .returned (.int .i64 to) ∧ Below W.heap.size W w') :
    Calls Tryz.prog 81 #[.agg #[.slice ao n1 c1, .map (some pm), .slice bo n2 c2], stm sort line ⟨#[106, 117, 109, 112]⟩ a b c n nm, .int .i64 k] w fun e w' => e = .returned (.iface 185 (.agg #[.int .i64 to])) ∧ Below w.heap.size w w' := by
  have hrb : ∀ W, (Instr.build 185 #[(0, .int .i64 to)]).run Tryz.prog W = .ok (.agg #[.int .i64 to]) W := fun W => run_build W 185 _ _ (by kernel_rfl)
  have hB : Below w.heap.size w (((w.alloc (.cells #[.slice ao n1 c1, .map (some pm), .slice bo n2 c2] 128)).alloc (.cells #[.int .i64 sort, .int .i64 line, .string ⟨#[106, 117, 109, 112]⟩, .int .i64 a, .int .i64 b, .int .i64 c, .int .i64 n, .string nm] 135)).alloc (.cells #[.int .i64 a, .int .i64 b, .int .i64 c] 133)) := three_boxes
  go_enter Tryz.func81, Tryz.ntmps81
  go_wp2_with (first | (go_at_call 108; refine (hlab _ hB).mono ?_; rintro e w2 ⟨rfl, hb2⟩))
  go_ret
  exact ⟨rfl, hB.trans (hb2.mono hB.size)⟩
set_option maxRecDepth 100000 in
set_option maxHeartbeats 4000000 in
theorem cins_call (w : World) (ao bo : Option Addr) (n1 c1 n2 c2 pm : Nat) (sort line a b c n k to : Int) (nm : ByteArray)
    (hlab : ∀ W, Below w.heap.size w W → Calls Tryz.prog 109 #[.agg #[.slice ao n1 c1, .map (some pm), .slice bo n2 c2], .string nm] W fun e w' => e = .returned (.int .i64 to) ∧ Below W.heap.size W w') :
    Calls Tryz.prog 81 #[.agg #[.slice ao n1 c1, .map (some pm), .slice bo n2 c2], stm sort line ⟨#[99, 97, 108, 108]⟩ a b c n nm, .int .i64 k] w fun e w' => e = .returned (.iface 190 (.agg #[.int .i64 to])) ∧ Below w.heap.size w w' := by
  have hrb : ∀ W, (Instr.build 190 #[(0, .int .i64 to)]).run Tryz.prog W = .ok (.agg #[.int .i64 to]) W := fun W => run_build W 190 _ _ (by kernel_rfl)
  have hB : Below w.heap.size w (((w.alloc (.cells #[.slice ao n1 c1, .map (some pm), .slice bo n2 c2] 128)).alloc (.cells #[.int .i64 sort, .int .i64 line, .string ⟨#[99, 97, 108, 108]⟩, .int .i64 a, .int .i64 b, .int .i64 c, .int .i64 n, .string nm] 135)).alloc (.cells #[.int .i64 a, .int .i64 b, .int .i64 c] 133)) := three_boxes
  go_enter Tryz.func81, Tryz.ntmps81
  go_wp2_with (first | (go_at_call 109; refine (hlab _ hB).mono ?_; rintro e w2 ⟨rfl, hb2⟩))
  go_ret
  exact ⟨rfl, hB.trans (hb2.mono hB.size)⟩

end Go.Proofs.YtgnnikbnbbcdbaaGreatDoor

namespace Go.Proofs.YtgnnikbnbbcdbaaGreatDoor
open Go.RowKit Sp

theorem third_box (w : World) (a b : Obj) (cs : Array Value) (t : TypeId) (j : Nat) : (((w.alloc a).alloc b).alloc (.cells cs t)).cell? ⟨w.heap.size + 1 + 1, j, none⟩ = cs[j]? := by
  have h := World.cell?_alloc_new (w := (w.alloc a).alloc b) cs t j
  rw [show ((w.alloc a).alloc b).heap.size = w.heap.size + 1 + 1 by simp] at h
  exact h
theorem second_box (w : World) (a c : Obj) (cs : Array Value) (t : TypeId) (j : Nat) : (((w.alloc a).alloc (.cells cs t)).alloc c).cell? ⟨w.heap.size + 1, j, none⟩ = cs[j]? := by
  have h := World.cell?_alloc_new (w := w.alloc a) cs t j
  rw [show (w.alloc a).heap.size = w.heap.size + 1 by simp] at h
  rw [← h]
  exact World.cell?_of_block (w := (w.alloc a).alloc (.cells cs t)) (((Below.refl ((w.alloc a).alloc (.cells cs t)).heap.size ((w.alloc a).alloc (.cells cs t))).alloc (Nat.le_refl _) c).block (w.heap.size + 1) (by simp))
theorem first_box (w : World) (b c : Obj) (cs : Array Value) (t : TypeId) (j : Nat) : (((w.alloc (.cells cs t)).alloc b).alloc c).cell? ⟨w.heap.size, j, none⟩ = cs[j]? := by
  have h := World.cell?_alloc_new (w := w) cs t j
  rw [← h]
  exact World.cell?_of_block (w := w.alloc (.cells cs t)) ((((Below.refl (w.alloc (.cells cs t)).heap.size (w.alloc (.cells cs t))).alloc (Nat.le_refl _) b).alloc (by simp) c).block w.heap.size (by simp))
/-- The cells that are told of hold on. -/
theorem still {w w' : World} (hb : Below w.heap.size w w') {p : Addr} {v : Value} (h : w.cell? p = some v) : w'.cell? p = some v := (hb.cell (World.block_lt_of_cell? w p h)).trans h

set_option maxRecDepth 100000 in
set_option maxHeartbeats 4000000 in
theorem cins_less (w : World) (ao bo : Option Addr) (n1 c1 n2 c2 pm : Nat) (sort line a b c n k to : Int) (nm : ByteArray)
    (hlab : ∀ W, Below w.heap.size w W → Calls Tryz.prog 108 #[.agg #[.slice ao n1 c1, .map (some pm), .slice bo n2 c2], .string nm, .int .i64 k] W fun e w' => e = .returned (.int .i64 to) ∧ Below W.heap.size W w') :
    Calls Tryz.prog 81 #[.agg #[.slice ao n1 c1, .map (some pm), .slice bo n2 c2], stm sort line ⟨#[108, 101, 115, 115]⟩ a b c n nm, .int .i64 k] w fun e w' => e = .returned (.iface 187 (.agg #[.int .i64 a, .int .i64 b, .int .i64 to])) ∧ Below w.heap.size w w' := by
  have hrb : ∀ W, (Instr.build 187 #[(0, .int .i64 a), (1, .int .i64 b), (2, .int .i64 to)]).run Tryz.prog W = .ok (.agg #[.int .i64 a, .int .i64 b, .int .i64 to]) W := fun W => run_build W 187 _ _ (by kernel_rfl)
  have hB : Below w.heap.size w (((w.alloc (.cells #[.slice ao n1 c1, .map (some pm), .slice bo n2 c2] 128)).alloc (.cells #[.int .i64 sort, .int .i64 line, .string ⟨#[108, 101, 115, 115]⟩, .int .i64 a, .int .i64 b, .int .i64 c, .int .i64 n, .string nm] 135)).alloc (.cells #[.int .i64 a, .int .i64 b, .int .i64 c] 133)) := three_boxes
  go_enter Tryz.func81, Tryz.ntmps81
  go_wp2_with fail
  go_region_held3 (fun W => Below w.heap.size w W ∧ W.cell? ⟨w.heap.size, 0, none⟩ = some (.slice ao n1 c1) ∧ W.cell? ⟨w.heap.size, 1, none⟩ = some (.map (some pm)) ∧ W.cell? ⟨w.heap.size, 2, none⟩ = some (.slice bo n2 c2) ∧
      W.cell? ⟨w.heap.size + 1, 7, none⟩ = some (.string nm) ∧ W.cell? ⟨w.heap.size + 1 + 1, 0, none⟩ = some (.int .i64 a) ∧ W.cell? ⟨w.heap.size + 1 + 1, 1, none⟩ = some (.int .i64 b))
    (first
      | (refine ⟨hB.drew, first_box _ _ _ _ _ 0, first_box _ _ _ _ _ 1, first_box _ _ _ _ _ 2, second_box _ _ _ _ _ 7, third_box _ _ _ _ _ 0, third_box _ _ _ _ _ 1⟩)
      | go_keep
      | (refine ⟨hB.drew.trans (hb2.mono hB.drew.size), still hb2 (first_box _ _ _ _ _ 0), still hb2 (first_box _ _ _ _ _ 1), still hb2 (first_box _ _ _ _ _ 2), still hb2 (second_box _ _ _ _ _ 7), still hb2 (third_box _ _ _ _ _ 0), still hb2 (third_box _ _ _ _ _ 1)⟩))
    ((go_at_call 108; refine (hlab _ hB.drew).mono ?_; rintro e w2 ⟨rfl, hb2⟩))
  go_wp2
  go_ret
  exact ⟨rfl, hB.drew.trans (hb2.mono hB.drew.size)⟩
set_option maxRecDepth 100000 in
set_option maxHeartbeats 4000000 in
theorem cins_same (w : World) (ao bo : Option Addr) (n1 c1 n2 c2 pm : Nat) (sort line a b c n k to : Int) (nm : ByteArray)
    (hlab : ∀ W, Below w.heap.size w W → Calls Tryz.prog 108 #[.agg #[.slice ao n1 c1, .map (some pm), .slice bo n2 c2], .string nm, .int .i64 k] W fun e w' => e = .returned (.int .i64 to) ∧ Below W.heap.size W w') :
    Calls Tryz.prog 81 #[.agg #[.slice ao n1 c1, .map (some pm), .slice bo n2 c2], stm sort line ⟨#[115, 97, 109, 101]⟩ a b c n nm, .int .i64 k] w fun e w' => e = .returned (.iface 188 (.agg #[.int .i64 a, .int .i64 b, .int .i64 to])) ∧ Below w.heap.size w w' := by
  have hrb : ∀ W, (Instr.build 188 #[(0, .int .i64 a), (1, .int .i64 b), (2, .int .i64 to)]).run Tryz.prog W = .ok (.agg #[.int .i64 a, .int .i64 b, .int .i64 to]) W := fun W => run_build W 188 _ _ (by kernel_rfl)
  have hB : Below w.heap.size w (((w.alloc (.cells #[.slice ao n1 c1, .map (some pm), .slice bo n2 c2] 128)).alloc (.cells #[.int .i64 sort, .int .i64 line, .string ⟨#[115, 97, 109, 101]⟩, .int .i64 a, .int .i64 b, .int .i64 c, .int .i64 n, .string nm] 135)).alloc (.cells #[.int .i64 a, .int .i64 b, .int .i64 c] 133)) := three_boxes
  go_enter Tryz.func81, Tryz.ntmps81
  go_wp2_with fail
  go_region_held3 (fun W => Below w.heap.size w W ∧ W.cell? ⟨w.heap.size, 0, none⟩ = some (.slice ao n1 c1) ∧ W.cell? ⟨w.heap.size, 1, none⟩ = some (.map (some pm)) ∧ W.cell? ⟨w.heap.size, 2, none⟩ = some (.slice bo n2 c2) ∧
      W.cell? ⟨w.heap.size + 1, 7, none⟩ = some (.string nm) ∧ W.cell? ⟨w.heap.size + 1 + 1, 0, none⟩ = some (.int .i64 a) ∧ W.cell? ⟨w.heap.size + 1 + 1, 1, none⟩ = some (.int .i64 b))
    (first
      | (refine ⟨hB.drew, first_box _ _ _ _ _ 0, first_box _ _ _ _ _ 1, first_box _ _ _ _ _ 2, second_box _ _ _ _ _ 7, third_box _ _ _ _ _ 0, third_box _ _ _ _ _ 1⟩)
      | go_keep
      | (refine ⟨hB.drew.trans (hb2.mono hB.drew.size), still hb2 (first_box _ _ _ _ _ 0), still hb2 (first_box _ _ _ _ _ 1), still hb2 (first_box _ _ _ _ _ 2), still hb2 (second_box _ _ _ _ _ 7), still hb2 (third_box _ _ _ _ _ 0), still hb2 (third_box _ _ _ _ _ 1)⟩))
    ((go_at_call 108; refine (hlab _ hB.drew).mono ?_; rintro e w2 ⟨rfl, hb2⟩))
  go_wp2
  go_ret
  exact ⟨rfl, hB.drew.trans (hb2.mono hB.drew.size)⟩

end Go.Proofs.YtgnnikbnbbcdbaaGreatDoor

namespace Go.Proofs.YtgnnikbnbbcdbaaGreatDoor
open Go.RowKit Sp

/-- What the places read of the memory. -/
structure PlIn (W : World) (F : List FnM) (bo pm bg : Nat) : Prop where
  maps : ∀ f ∈ F, MapIs W f.m (labsAt f.its)
  places : MapIs W pm (placesAt F)
  begs : ∀ k, k < F.length → W.cell? ⟨bg, k, none⟩ = some (.int .i64 (lenF (F.take k) : Int))
  labs : ∀ k (h : k < F.length), W.cell? ⟨bo, k * 4 + 3, none⟩ = some (.map (some F[k].m))
theorem PlIn.below {W W' : World} {F : List FnM} {bo pm bg B : Nat} (h : PlIn W F bo pm bg) (hb : Below B W W') (hB : W.heap.size ≤ B) : PlIn W' F bo pm bg :=
  ⟨fun f hf => (h.maps f hf).below hb (Nat.lt_of_lt_of_le (h.maps f hf).lt hB), h.places.below hb (Nat.lt_of_lt_of_le h.places.lt hB),
   fun k hk => (hb.cell (p := ⟨bg, k, none⟩) (Nat.lt_of_lt_of_le (World.block_lt_of_cell? W _ (h.begs k hk)) hB)).trans (h.begs k hk),
   fun k hk => (hb.cell (p := ⟨bo, k * 4 + 3, none⟩) (Nat.lt_of_lt_of_le (World.block_lt_of_cell? W _ (h.labs k hk)) hB)).trans (h.labs k hk)⟩
theorem lenF_take_le (F : List FnM) (k : Nat) : lenF (F.take k) ≤ lenF F := by
  unfold lenF
  conv => rhs; rw [← List.take_append_drop k F, List.map_append, List.sum_append]
  omega
theorem regVal_pos (x : ByteArray) : ((regVal x).toNat : Int) = regVal x := by
  unfold regVal
  split
  · omega
  · rfl
abbrev placesV (bo cv pm bg cap n : Nat) : Value := .agg #[.slice (some ⟨bo, 0, none⟩) n cv, .map (some pm), .slice (some ⟨bg, 0, none⟩) n cap]
/-- A statement of the program, as an instruction. -/
theorem cplace_any {L : List Said} {F : List FnM} (R : Right L F) (w : World) {bo pm bg : Nat} (cv cap : Nat) (M : PlIn w F bo pm bg) (hn : F.length ≤ 300) {k m : Nat} {f : FnM} {it : It} (hk : F[k]? = some f) (hm : (insOf f.its)[m]? = some it) (hsz : it.nm.size ≤ 1048576) :
    Calls Tryz.prog 81 #[placesV bo cv pm bg cap F.length, stm it.sort it.line it.word it.a it.b it.c it.n it.nm, .int .i64 (k : Int)] w fun e w' => e = .returned (.iface (insT (insM F k it)) (.agg (insA (insM F k it)))) ∧ Below w.heap.size w w' := by
  have hkl : k < F.length := (List.getElem?_eq_some_iff.1 hk).1
  have hfk : F[k] = f := (List.getElem?_eq_some_iff.1 hk).2
  obtain ⟨j, hj, h5, hkey, _, hlab, hfn, _⟩ := R.it_at hk hm
  have Fm := R.good.form j hj h5
  have hfew := R.codeOk.few
  have ew : it.word = wordK L[j] := congrArg Key.word hkey
  have ea : it.a = (opQ L[j]).a := congrArg Key.a hkey
  have eb : it.b = (opQ L[j]).b := congrArg Key.b hkey
  have ec : it.c = (opQ L[j]).c := congrArg Key.c hkey
  have em : it.nm = nameQ L[j] := congrArg Key.nm hkey
  have hl : asksLab (L[j].word 0) = true → it.nm = L[j].last → ∀ W, Below w.heap.size w W → Calls Tryz.prog 108 #[placesV bo cv pm bg cap F.length, .string it.nm, .int .i64 (k : Int)] W fun e w' => e = .returned (.int .i64 (labM F k it.nm)) ∧ Below W.heap.size W w' := by
    intro ha he W hW
    obtain ⟨p, hp, hp1, hp2, _⟩ := hlab ha
    rw [← he] at hp hp1
    have M' := M.below hW (Nat.le_refl _)
    have hmm := M'.labs k hkl
    rw [hfk] at hmm
    have := clabel_any W pm bg k (lenF (F.take k)) p bo cv cap F it.nm f.m (labsAt f.its) (M'.maps f (List.mem_of_getElem? hk)) hsz hp (by omega) hkl hn (by omega) (M'.begs k hkl) hmm
    rw [hp1]
    refine this.mono ?_
    rintro e w' ⟨rfl, hb⟩
    exact ⟨by simp, hb⟩
  have hf : asksFn (L[j].word 0) = true → it.nm = L[j].last → ∀ W, Below w.heap.size w W → Calls Tryz.prog 109 #[placesV bo cv pm bg cap F.length, .string it.nm] W fun e w' => e = .returned (.int .i64 (fnM F it.nm)) ∧ Below W.heap.size W w' := by
    intro ha he W hW
    obtain ⟨k2, hk2, hp, hp1, hp2, _⟩ := hfn ha
    rw [← he] at hp hp1
    have M' := M.below hW (Nat.le_refl _)
    rw [hp1]
    exact cfunction_any W pm bg k2 _ F cap it.nm M'.places hsz hp hk2 hn (M'.begs k2 hk2) bo cv rfl
  clear hlab hfn hkey
  generalize L[j] = q at h5 Fm ew ea eb ec em hl hf
  obtain ⟨kd, kp, ok⟩ := q
  simp only at h5 Fm
  subst h5
  unfold insM
  cases Fm with
  | set_ x1 x2 =>
    have e0 : it.word = ⟨#[115, 101, 116]⟩ := ew
    rw [opQ_set] at ea eb ec
    have na : (it.a.toNat : Int) = it.a := by rw [ea]; exact regVal_pos _
    rw [e0, insX_set]
    refine (cins_set w (some ⟨bo, 0, none⟩) (some ⟨bg, 0, none⟩) F.length cv F.length cap pm it.sort it.line it.a it.b it.c it.n (k : Int) it.nm).mono ?_
    rintro e w' ⟨rfl, hb⟩
    exact ⟨by simp [insT, insA, na], hb⟩
  | inc_ x1 x2 =>
    have e0 : it.word = ⟨#[105, 110, 99]⟩ := ew
    rw [opQ_inc] at ea eb ec
    have na : (it.a.toNat : Int) = it.a := by rw [ea]; exact regVal_pos _
    rw [e0, insX_inc]
    refine (cins_inc w (some ⟨bo, 0, none⟩) (some ⟨bg, 0, none⟩) F.length cv F.length cap pm it.sort it.line it.a it.b it.c it.n (k : Int) it.nm).mono ?_
    rintro e w' ⟨rfl, hb⟩
    exact ⟨by simp [insT, insA, na], hb⟩
  | mov_ x1 x2 =>
    have e0 : it.word = ⟨#[109, 111, 118]⟩ := ew
    rw [opQ_mov] at ea eb ec
    have na : (it.a.toNat : Int) = it.a := by rw [ea]; exact regVal_pos _
    have nb : (it.b.toNat : Int) = it.b := by rw [eb]; exact regVal_pos _
    rw [e0, insX_mov]
    refine (cins_mov w (some ⟨bo, 0, none⟩) (some ⟨bg, 0, none⟩) F.length cv F.length cap pm it.sort it.line it.a it.b it.c it.n (k : Int) it.nm).mono ?_
    rintro e w' ⟨rfl, hb⟩
    exact ⟨by simp [insT, insA, na, nb], hb⟩
  | load_ x1 x2 =>
    have e0 : it.word = ⟨#[108, 111, 97, 100]⟩ := ew
    rw [opQ_load] at ea eb ec
    have na : (it.a.toNat : Int) = it.a := by rw [ea]; exact regVal_pos _
    have nb : (it.b.toNat : Int) = it.b := by rw [eb]; exact regVal_pos _
    rw [e0, insX_load]
    refine (cins_load w (some ⟨bo, 0, none⟩) (some ⟨bg, 0, none⟩) F.length cv F.length cap pm it.sort it.line it.a it.b it.c it.n (k : Int) it.nm).mono ?_
    rintro e w' ⟨rfl, hb⟩
    exact ⟨by simp [insT, insA, na, nb], hb⟩
  | store_ x1 x2 =>
    have e0 : it.word = ⟨#[115, 116, 111, 114, 101]⟩ := ew
    rw [opQ_store] at ea eb ec
    have na : (it.a.toNat : Int) = it.a := by rw [ea]; exact regVal_pos _
    have nb : (it.b.toNat : Int) = it.b := by rw [eb]; exact regVal_pos _
    rw [e0, insX_store]
    refine (cins_store w (some ⟨bo, 0, none⟩) (some ⟨bg, 0, none⟩) F.length cv F.length cap pm it.sort it.line it.a it.b it.c it.n (k : Int) it.nm).mono ?_
    rintro e w' ⟨rfl, hb⟩
    exact ⟨by simp [insT, insA, na, nb], hb⟩
  | add_ x1 x2 x3 =>
    have e0 : it.word = ⟨#[97, 100, 100]⟩ := ew
    rw [opQ_add] at ea eb ec
    have na : (it.a.toNat : Int) = it.a := by rw [ea]; exact regVal_pos _
    have nb : (it.b.toNat : Int) = it.b := by rw [eb]; exact regVal_pos _
    have nc : (it.c.toNat : Int) = it.c := by rw [ec]; exact regVal_pos _
    rw [e0, insX_add]
    refine (cins_add w (some ⟨bo, 0, none⟩) (some ⟨bg, 0, none⟩) F.length cv F.length cap pm it.sort it.line it.a it.b it.c it.n (k : Int) it.nm).mono ?_
    rintro e w' ⟨rfl, hb⟩
    exact ⟨by simp [insT, insA, na, nb, nc], hb⟩
  | sub_ x1 x2 x3 =>
    have e0 : it.word = ⟨#[115, 117, 98]⟩ := ew
    rw [opQ_sub] at ea eb ec
    have na : (it.a.toNat : Int) = it.a := by rw [ea]; exact regVal_pos _
    have nb : (it.b.toNat : Int) = it.b := by rw [eb]; exact regVal_pos _
    have nc : (it.c.toNat : Int) = it.c := by rw [ec]; exact regVal_pos _
    rw [e0, insX_sub]
    refine (cins_sub w (some ⟨bo, 0, none⟩) (some ⟨bg, 0, none⟩) F.length cv F.length cap pm it.sort it.line it.a it.b it.c it.n (k : Int) it.nm).mono ?_
    rintro e w' ⟨rfl, hb⟩
    exact ⟨by simp [insT, insA, na, nb, nc], hb⟩
  | mul_ x1 x2 x3 =>
    have e0 : it.word = ⟨#[109, 117, 108]⟩ := ew
    rw [opQ_mul] at ea eb ec
    have na : (it.a.toNat : Int) = it.a := by rw [ea]; exact regVal_pos _
    have nb : (it.b.toNat : Int) = it.b := by rw [eb]; exact regVal_pos _
    have nc : (it.c.toNat : Int) = it.c := by rw [ec]; exact regVal_pos _
    rw [e0, insX_mul]
    refine (cins_mul w (some ⟨bo, 0, none⟩) (some ⟨bg, 0, none⟩) F.length cv F.length cap pm it.sort it.line it.a it.b it.c it.n (k : Int) it.nm).mono ?_
    rintro e w' ⟨rfl, hb⟩
    exact ⟨by simp [insT, insA, na, nb, nc], hb⟩
  | read_ x1 =>
    have e0 : it.word = ⟨#[114, 101, 97, 100]⟩ := ew
    rw [opQ_read] at ea eb ec
    have na : (it.a.toNat : Int) = it.a := by rw [ea]; exact regVal_pos _
    rw [e0, insX_read]
    refine (cins_read w (some ⟨bo, 0, none⟩) (some ⟨bg, 0, none⟩) F.length cv F.length cap pm it.sort it.line it.a it.b it.c it.n (k : Int) it.nm).mono ?_
    rintro e w' ⟨rfl, hb⟩
    exact ⟨by simp [insT, insA, na], hb⟩
  | write_ x1 =>
    have e0 : it.word = ⟨#[119, 114, 105, 116, 101]⟩ := ew
    rw [opQ_write] at ea eb ec
    have na : (it.a.toNat : Int) = it.a := by rw [ea]; exact regVal_pos _
    rw [e0, insX_write]
    refine (cins_write w (some ⟨bo, 0, none⟩) (some ⟨bg, 0, none⟩) F.length cv F.length cap pm it.sort it.line it.a it.b it.c it.n (k : Int) it.nm).mono ?_
    rintro e w' ⟨rfl, hb⟩
    exact ⟨by simp [insT, insA, na], hb⟩
  | jump_ x1 =>
    have e0 : it.word = ⟨#[106, 117, 109, 112]⟩ := ew
    rw [nameQ_jump] at em
    rw [e0, insX_jump]
    refine (cins_jump w (some ⟨bo, 0, none⟩) (some ⟨bg, 0, none⟩) F.length cv F.length cap pm it.sort it.line it.a it.b it.c it.n (k : Int) (labM F k it.nm) it.nm (hl (by kernel_rfl) em)).mono ?_
    rintro e w' ⟨rfl, hb⟩
    exact ⟨by simp [insT, insA], hb⟩
  | call_ x1 =>
    have e0 : it.word = ⟨#[99, 97, 108, 108]⟩ := ew
    rw [nameQ_call] at em
    rw [e0, insX_call]
    refine (cins_call w (some ⟨bo, 0, none⟩) (some ⟨bg, 0, none⟩) F.length cv F.length cap pm it.sort it.line it.a it.b it.c it.n (k : Int) (fnM F it.nm) it.nm (hf (by kernel_rfl) em)).mono ?_
    rintro e w' ⟨rfl, hb⟩
    exact ⟨by simp [insT, insA], hb⟩
  | less_ x1 x2 x3 =>
    have e0 : it.word = ⟨#[108, 101, 115, 115]⟩ := ew
    rw [opQ_less] at ea eb ec
    have na : (it.a.toNat : Int) = it.a := by rw [ea]; exact regVal_pos _
    have nb : (it.b.toNat : Int) = it.b := by rw [eb]; exact regVal_pos _
    rw [nameQ_less] at em
    rw [e0, insX_less]
    refine (cins_less w (some ⟨bo, 0, none⟩) (some ⟨bg, 0, none⟩) F.length cv F.length cap pm it.sort it.line it.a it.b it.c it.n (k : Int) (labM F k it.nm) it.nm (hl (by kernel_rfl) em)).mono ?_
    rintro e w' ⟨rfl, hb⟩
    exact ⟨by simp [insT, insA, na, nb], hb⟩
  | same_ x1 x2 x3 =>
    have e0 : it.word = ⟨#[115, 97, 109, 101]⟩ := ew
    rw [opQ_same] at ea eb ec
    have na : (it.a.toNat : Int) = it.a := by rw [ea]; exact regVal_pos _
    have nb : (it.b.toNat : Int) = it.b := by rw [eb]; exact regVal_pos _
    rw [nameQ_same] at em
    rw [e0, insX_same]
    refine (cins_same w (some ⟨bo, 0, none⟩) (some ⟨bg, 0, none⟩) F.length cv F.length cap pm it.sort it.line it.a it.b it.c it.n (k : Int) (labM F k it.nm) it.nm (hl (by kernel_rfl) em)).mono ?_
    rintro e w' ⟨rfl, hb⟩
    exact ⟨by simp [insT, insA, na, nb], hb⟩
  | back_  =>
    have e0 : it.word = ⟨#[98, 97, 99, 107]⟩ := ew
    rw [e0, insX_back]
    refine (cins_back w (some ⟨bo, 0, none⟩) (some ⟨bg, 0, none⟩) F.length cv F.length cap pm it.sort it.line it.a it.b it.c it.n (k : Int) it.nm).mono ?_
    rintro e w' ⟨rfl, hb⟩
    exact ⟨by simp [insT, insA], hb⟩
  | stop_  =>
    have e0 : it.word = ⟨#[115, 116, 111, 112]⟩ := ew
    rw [e0, insX_stop]
    refine (cins_stop w (some ⟨bo, 0, none⟩) (some ⟨bg, 0, none⟩) F.length cv F.length cap pm it.sort it.line it.a it.b it.c it.n (k : Int) it.nm).mono ?_
    rintro e w' ⟨rfl, hb⟩
    exact ⟨by simp [insT, insA], hb⟩

end Go.Proofs.YtgnnikbnbbcdbaaGreatDoor
