import Derived.Test.YtfpgjkbjbbgciaaGreatDoorMa27
import Derived.Test.YtfpgjkbjbbgciaaGreatDoorMa19
namespace Go.Proofs.YtfpgjkbjbbgciaaGreatDoor
open Go.RowKit Sp

theorem LibW.below {w w' : World} (h : LibW w) (hb : Below w.heap.size w w') : LibW w' := by
  have hlow := h.low
  refine ⟨tabs_below h.tabs hb (by omega), ?_, ?_, ?_, by have := hb.size; omega⟩
  · obtain ⟨m, hm⟩ := h.most
    exact ⟨m, (hb.cell (p := ⟨0, 0, none⟩) (by show 0 < w.heap.size; omega)).trans hm⟩
  · obtain ⟨tp, p, hv⟩ := h.syn
    exact ⟨tp, p, var?_below (g := 3) hb (by kernel_rfl) (by omega) hv⟩
  · obtain ⟨tp, p, hv⟩ := h.rng
    exact ⟨tp, p, var?_below (g := 4) hb (by kernel_rfl) (by omega) hv⟩

/-- The name that an instruction holds behind so many operands. -/
def nameK (sh : List UInt8) (r : List ByteArray) : Nat → ByteArray
  | 0 => ⟨#[]⟩
  | k + 1 => if opKind (sh[k]?.getD 0) = 2 then r[k]?.getD ⟨#[]⟩ else nameK sh r k
/-- The operands that an instruction holds behind so many of them. -/
structure Opd where
  nm : ByteArray
  a : Int
  b : Int
  c : Int
  n : Int
def Opd.take (o : Opd) (k : Nat) (kind : Int) (x : ByteArray) : Opd :=
  if kind = 0 then (if k = 0 then { o with a := regVal x } else if k = 1 then { o with b := regVal x } else { o with c := regVal x })
  else if kind = 1 then { o with n := numVal x } else { o with nm := x }
def opd0 : Opd := ⟨⟨#[]⟩, 0, 0, 0, 0⟩
def opK (sh : List UInt8) (r : List ByteArray) : Nat → Opd
  | 0 => opd0
  | k + 1 => (opK sh r k).take k (opKind (sh[k]?.getD 0)) (r[k]?.getD ⟨#[]⟩)
theorem opK_step (sh : List UInt8) (r : List ByteArray) (k : Nat) (hk : k < sh.length) (hr : k < r.length) : opK sh r (k + 1) = (opK sh r k).take k (opKind sh[k]) r[k] := by
  show (opK sh r k).take k (opKind (sh[k]?.getD 0)) (r[k]?.getD ⟨#[]⟩) = _
  rw [List.getElem?_eq_getElem hk, List.getElem?_eq_getElem hr]; rfl
theorem opK_nm (sh : List UInt8) (r : List ByteArray) (k : Nat) : (opK sh r k).nm = nameK sh r k := by
  induction k with
  | zero => rfl
  | succ k ih =>
    show ((opK sh r k).take k (opKind (sh[k]?.getD 0)) (r[k]?.getD ⟨#[]⟩)).nm = if opKind (sh[k]?.getD 0) = 2 then r[k]?.getD ⟨#[]⟩ else nameK sh r k
    have h3 : ∀ a : UInt8, opKind a = 0 ∨ opKind a = 1 ∨ opKind a = 2 := fun a => by
      unfold opKind
      split
      · simp
      · split <;> simp
    unfold Opd.take
    rcases h3 (sh[k]?.getD 0) with h | h | h
    · rw [if_neg (show ¬ opKind (sh[k]?.getD 0) = 2 by rw [h]; decide), if_pos h]
      split
      · exact ih
      · split <;> exact ih
    · rw [if_neg (show ¬ opKind (sh[k]?.getD 0) = 2 by rw [h]; decide), if_neg (show ¬ opKind (sh[k]?.getD 0) = 0 by rw [h]; decide), if_pos h]
      exact ih
    · rw [if_pos h, if_neg (show ¬ opKind (sh[k]?.getD 0) = 0 by rw [h]; decide), if_neg (show ¬ opKind (sh[k]?.getD 0) = 1 by rw [h]; decide)]
abbrev Opd.stm (o : Opd) (line : Int) (x : ByteArray) : Value := Go.Proofs.YtfpgjkbjbbgciaaGreatDoor.stm 2 line x o.a o.b o.c o.n o.nm
def insOk (x : ByteArray) (r : List ByteArray) : Bool := if shapeOf x = [63] ∨ ¬ r.length = (shapeOf x).length then false else opsOk (shapeOf x) r
def InsPost (w : World) (x : ByteArray) (r : List ByteArray) (line : Int) : Ending → World → Prop := fun e w' =>
  Below w.heap.size w w' ∧ (insOk x r = true ∧ e = .returned ((opK (shapeOf x) r r.length).stm line x) ∨ insOk x r = false ∧ e = refusal 1 line)

theorem ops_as (x : ByteArray) (w : World) (sh : List UInt8) (HS : Hid (shapeOf x = sh)) : Calls Tryz.prog 149 #[.string x] w (OpsPost w sh) := by
  rw [← HS.out]; exact cops_any x w
theorem ops_none (x : ByteArray) (w : World) (HS : Hid (shapeOf x = [63])) : Calls Tryz.prog 149 #[.string x] w fun e w' => e = .returned (.tuple #[.slice none 0 0, .bool false]) ∧ w' = w := by
  refine (ops_as x w _ HS).mono ?_
  rintro e w' (⟨_, h1, h2⟩ | ⟨h, _⟩ | ⟨h, _⟩)
  · exact ⟨h1, h2.symm⟩
  · cases h
  · exact absurd rfl h
theorem ops_empty (x : ByteArray) (w : World) (HS : Hid (shapeOf x = [])) : Calls Tryz.prog 149 #[.string x] w fun e w' => e = .returned (.tuple #[.slice none 0 0, .bool true]) ∧ w' = w := by
  refine (ops_as x w _ HS).mono ?_
  rintro e w' (⟨h, _⟩ | ⟨_, h1, h2⟩ | ⟨_, h, _⟩)
  · cases h
  · exact ⟨h1, h2.symm⟩
  · exact absurd rfl h
theorem ops_some (x : ByteArray) (w : World) (sh : List UInt8) (HS : Hid (shapeOf x = sh)) (h1 : ¬ sh = [63]) (h2 : ¬ sh = []) : Calls Tryz.prog 149 #[.string x] w fun e w' => e = .returned (.tuple #[.slice (some ⟨w.heap.size, 0, none⟩) sh.length sh.length, .bool true]) ∧ w' = w.alloc (.cells (sh.map (fun k => Value.int .i64 (opKind k))).toArray 225) := by
  refine (ops_as x w _ HS).mono ?_
  rintro e w' (⟨h, _⟩ | ⟨h, _⟩ | ⟨_, _, h3, h4⟩)
  · exact absurd h h1
  · exact absurd h h2
  · exact ⟨h3, h4⟩

set_option maxRecDepth 100000 in
set_option maxHeartbeats 1000000 in
theorem cins_none (w : World) (g cap : Nat) (x : ByteArray) (r : List ByteArray) (line : Int) (hl : WordsIn w g (x :: r)) (_hn : r.length ≤ 1048576) (HS : Hid (shapeOf x = [63])) :
    Calls Tryz.prog 130 #[.slice (some ⟨g, 0, none⟩) (r.length + 1) cap, .int .i64 line] w fun e w' => e = refusal 1 line ∧ Below w.heap.size w w' := by
  have hc0 := hl 0 (by simp)
  simp only [List.getElem_cons_zero] at hc0
  have hlt : g < w.heap.size := by
    have := World.block_lt_of_cell? w _ hc0; simpa using this
  go_enter Tryz.func130, Tryz.ntmps130
  go_wp2_with (first
    | (go_at_call 149; refine (ops_none x _ HS).mono ?_; rintro e wx ⟨rfl, hww⟩; have h2 := hww.symm; subst h2)
    | (go_at_call 79; refine (raise_any _ _ _).mono ?_; rintro e wx ⟨rfl, hww⟩; have h2 := hww.symm; subst h2))
  exact ⟨rfl, rfl, (Below.refl _ _).alloc (Nat.le_refl _) _⟩

set_option maxRecDepth 100000 in
set_option maxHeartbeats 1000000 in
theorem cins_len (w : World) (g cap : Nat) (x : ByteArray) (r : List ByteArray) (line : Int) (hl : WordsIn w g (x :: r)) (hn : r.length ≤ 1048576) (sh : List UInt8) (HS : Hid (shapeOf x = sh)) (h1 : ¬ sh = [63]) (hs3 : sh.length ≤ 3) (hne : ((r.length : Int) != (sh.length : Int)) = true) :
    Calls Tryz.prog 130 #[.slice (some ⟨g, 0, none⟩) (r.length + 1) cap, .int .i64 line] w fun e w' => e = refusal 1 line ∧ Below w.heap.size w w' := by
  have hc0 := hl 0 (by simp)
  simp only [List.getElem_cons_zero] at hc0
  have hlt : g < w.heap.size := by
    have := World.block_lt_of_cell? w _ hc0; simpa using this
  by_cases h2 : sh = []
  · subst h2
    have hne0 : ((r.length : Int) != 0) = true := hne
    go_enter Tryz.func130, Tryz.ntmps130
    go_wp2_with (first
      | (go_at_call 149; refine (ops_empty x _ HS).mono ?_; rintro e wx ⟨rfl, hww⟩; have h2 := hww.symm; subst h2)
      | (go_at_call 79; refine (raise_any _ _ _).mono ?_; rintro e wx ⟨rfl, hww⟩; have h2 := hww.symm; subst h2))
    exact ⟨rfl, rfl, (Below.refl _ _).alloc (Nat.le_refl _) _⟩
  · go_enter Tryz.func130, Tryz.ntmps130
    go_wp2_with (first
      | (go_at_call 149; refine (ops_some x _ sh HS h1 h2).mono ?_; rintro e wx ⟨rfl, hww⟩; subst hww)
      | (go_at_call 79; refine (raise_any _ _ _).mono ?_; rintro e wx ⟨rfl, hww⟩; have h2 := hww.symm; subst h2))
    exact ⟨rfl, rfl, ((Below.refl _ _).alloc (Nat.le_refl _) _).alloc (by simp) _⟩

/-- The world in which an instruction's operands are taken. -/
abbrev insW (w : World) (sh : List UInt8) (line : Int) (x : ByteArray) : World :=
  ((w.alloc (.cells #[.int .i64 0, .int .i64 0, .string ⟨#[]⟩, .int .i64 0, .int .i64 0, .int .i64 0, .int .i64 0, .string ⟨#[]⟩] 135)).alloc (.cells (sh.map (fun k => Value.int .i64 (opKind k))).toArray 225)).alloc (.cells #[.int .i64 2, .int .i64 line, .string x, .int .i64 0, .int .i64 0, .int .i64 0, .int .i64 0, .string ⟨#[]⟩] 135)
theorem alloc3_top (w : World) (a b : Obj) (c : Array Value) (ty : TypeId) (i : Nat) : (((w.alloc a).alloc b).alloc (.cells c ty)).cell? ⟨w.heap.size + 1 + 1, i, none⟩ = c[i]? := by
  have := World.cell?_alloc_new (w := (w.alloc a).alloc b) c ty i
  rw [World.size_alloc, World.size_alloc] at this
  exact this
theorem alloc3_mid (w : World) (a o : Obj) (c : Array Value) (ty : TypeId) (i : Nat) : (((w.alloc a).alloc (.cells c ty)).alloc o).cell? ⟨w.heap.size + 1, i, none⟩ = c[i]? := by
  rw [World.cell?_alloc_lt ((w.alloc a).alloc (.cells c ty)) o ⟨w.heap.size + 1, i, none⟩ (by simp)]
  simp
theorem alloc3_bot (w : World) (b o : Obj) (c : Array Value) (ty : TypeId) (i : Nat) : (((w.alloc (.cells c ty)).alloc b).alloc o).cell? ⟨w.heap.size, i, none⟩ = c[i]? := by
  rw [World.cell?_alloc_lt ((w.alloc (.cells c ty)).alloc b) o ⟨w.heap.size, i, none⟩ (by simp; omega)]
  simp
theorem fresh_fz (w : World) (c : Array Value) (ty : TypeId) (o : Nat) : (w.alloc (.cells c ty)).frozen? ⟨w.heap.size, o, none⟩ = false := by simp
theorem insW_stm (w : World) (sh : List UInt8) (line : Int) (x : ByteArray) : StmAt (insW w sh line x) (w.heap.size + 1 + 1) line x ⟨#[]⟩ 0 0 0 0 := by
  refine ⟨alloc3_top _ _ _ _ _ 0, alloc3_top _ _ _ _ _ 1, alloc3_top _ _ _ _ _ 2, alloc3_top _ _ _ _ _ 3, alloc3_top _ _ _ _ _ 4, alloc3_top _ _ _ _ _ 5, alloc3_top _ _ _ _ _ 6, alloc3_top _ _ _ _ _ 7, fun o => ?_⟩
  have h := fresh_fz ((w.alloc (.cells #[.int .i64 0, .int .i64 0, .string ⟨#[]⟩, .int .i64 0, .int .i64 0, .int .i64 0, .int .i64 0, .string ⟨#[]⟩] 135)).alloc (.cells (sh.map (fun k => Value.int .i64 (opKind k))).toArray 225)) #[.int .i64 2, .int .i64 line, .string x, .int .i64 0, .int .i64 0, .int .i64 0, .int .i64 0, .string ⟨#[]⟩] 135 o
  rw [World.size_alloc, World.size_alloc] at h
  exact h
theorem insW_op (w : World) (sh : List UInt8) (line : Int) (x : ByteArray) (k : Nat) (hk : k < sh.length) : (insW w sh line x).cell? ⟨w.heap.size + 1, k, none⟩ = some (.int .i64 (opKind sh[k])) := by
  rw [alloc3_mid]
  simp [hk]
theorem insW_res (w : World) (sh : List UInt8) (line : Int) (x : ByteArray) (j : Nat) (hj : j < 8) : ∃ y, (insW w sh line x).cell? ⟨w.heap.size, j, none⟩ = some y := by
  rw [alloc3_bot]
  exact ⟨_, Array.getElem?_eq_getElem (by simpa using hj)⟩
theorem insW_fz (w : World) (sh : List UInt8) (line : Int) (x : ByteArray) (j : Nat) : (insW w sh line x).frozen? ⟨w.heap.size, j, none⟩ = false := by
  have hb : Below (w.heap.size + 1) (w.alloc (.cells #[.int .i64 0, .int .i64 0, .string ⟨#[]⟩, .int .i64 0, .int .i64 0, .int .i64 0, .int .i64 0, .string ⟨#[]⟩] 135)) (insW w sh line x) := ((Below.refl _ _).alloc (by simp) _).alloc (by simp) _
  rw [hb.frozen (p := ⟨w.heap.size, j, none⟩) (by simp)]
  exact fresh_fz _ _ _ _
theorem insW_below {w wr : World} {sh : List UInt8} {line : Int} {x : ByteArray} (h : (insW w sh line x).grownBy wr (some (w.heap.size + 1 + 1))) : Below w.heap.size w wr :=
  ((((Below.refl _ w).alloc (Nat.le_refl _) _).alloc (by simp) _).alloc (by simp; omega) _).grown h (by simp; omega) (fun k hk => by simp at hk; omega)
theorem grown_trans {a b c : World} {q : Option Nat} (h : a.grownBy b q) (k : b.grownBy c q) : a.grownBy c q :=
  ⟨k.os.trans h.os, k.tape.trans h.tape, k.output.trans h.output, Nat.le_trans h.size k.size, fun i hi hne => (k.block i (Nat.lt_of_lt_of_le hi h.size) hne).trans (h.block i hi hne)⟩
theorem nameK_step (sh : List UInt8) (r : List ByteArray) (k : Nat) (hk : k < sh.length) (hr : k < r.length) : nameK sh r (k + 1) = if opKind sh[k] = 2 then r[k] else nameK sh r k := by
  show (if opKind (sh[k]?.getD 0) = 2 then r[k]?.getD ⟨#[]⟩ else nameK sh r k) = _
  rw [List.getElem?_eq_getElem hk, List.getElem?_eq_getElem hr]; rfl
theorem opOk_0 (a : UInt8) (y : ByteArray) (h : opKind a = 0) : opOk a y = regOk y := by
  unfold opKind at h
  unfold opOk
  split at h
  · rename_i hc; rw [if_pos hc]; rfl
  · split at h <;> simp at h
theorem opOk_1 (a : UInt8) (y : ByteArray) (h : opKind a = 1) : opOk a y = (numOf y).2 := by
  unfold opKind at h
  unfold opOk
  split at h
  · simp at h
  · rename_i hc
    split at h
    · rename_i hd; rw [if_neg hc, if_pos hd]
    · simp at h
theorem opOk_2 (a : UInt8) (y : ByteArray) (h : opKind a = 2) : opOk a y = isName y := by
  unfold opKind at h
  unfold opOk
  split at h
  · simp at h
  · rename_i hc
    split at h
    · simp at h
    · rename_i hd; rw [if_neg hc, if_neg hd]

set_option maxRecDepth 100000 in
set_option maxHeartbeats 4000000 in
theorem cins_ops (w : World) (hw : LibW w) (g cap : Nat) (x : ByteArray) (r : List ByteArray) (line : Int) (hl : WordsIn w g (x :: r)) (hsz : ∀ j (hj : j < r.length), r[j].size ≤ 1048576) (sh : List UInt8) (HS : Hid (shapeOf x = sh)) (h1 : ¬ sh = [63]) (h2 : ¬ sh = []) (hs3 : sh.length ≤ 3) (hle : sh.length ≤ r.length) (hge : r.length ≤ sh.length) :
    Calls Tryz.prog 130 #[.slice (some ⟨g, 0, none⟩) (r.length + 1) cap, .int .i64 line] w fun e w' => Below w.heap.size w w' ∧ (opsOk sh r = true ∧ e = .returned ((opK sh r r.length).stm line x) ∨ opsOk sh r = false ∧ e = refusal 1 line) := by
  have hc0 := hl 0 (by simp)
  simp only [List.getElem_cons_zero] at hc0
  have hlt : g < w.heap.size := by
    have := World.block_lt_of_cell? w _ hc0; simpa using this
  have hne : ((r.length : Int) != (sh.length : Int)) = false := by simp; omega
  go_enter Tryz.func130, Tryz.ntmps130
  go_wp2_with (first
    | (go_at_call 149; refine (ops_some x _ sh HS h1 h2).mono ?_; rintro e wx ⟨rfl, hww⟩; subst hww))
  go_loopw [36] (fun ti wr => ∃ (k : Nat) (nm : ByteArray) (r0 r1 r2 n : Int), k ≤ sh.length ∧ ti = .int .i64 (k : Int) ∧ (insW w sh line x).grownBy wr (some (w.heap.size + 1 + 1)) ∧ StmAt wr (w.heap.size + 1 + 1) line x nm r0 r1 r2 n ∧ (⟨nm, r0, r1, r2, n⟩ : Opd) = opK sh r k ∧ opsOk sh r = opsOk (sh.drop k) (r.drop k)) (fun ti _ => sh.length - (intOf ti).toNat)
  case atStart => exact ⟨0, ⟨#[]⟩, 0, 0, 0, 0, by omega, rfl, ⟨rfl, rfl, rfl, Nat.le_refl _, fun _ _ _ => rfl⟩, insW_stm w sh line x, rfl, rfl⟩
  case round =>
    obtain ⟨k, nm, r0, r1, r2, n, hk, rfl, hgr, hS, hO, hR⟩ := hrel
    have HO : Hid ((⟨nm, r0, r1, r2, n⟩ : Opd) = opK sh r k) := hO
    clear hO
    have HR : Hid (opsOk sh r = opsOk (sh.drop k) (r.drop k)) := hR
    clear hR
    have belowW : ∀ {wz : World}, (insW w sh line x).grownBy wz (some (w.heap.size + 1 + 1)) → Below w.heap.size w wz := fun h => insW_below h
    have hbl := insW_below hgr
    have hwr := hw.below hbl
    have hqz := hS.lt
    by_cases hklt : k < sh.length
    · have hkr : k < r.length := by omega
      have hck : wr.cell? ⟨w.heap.size + 1, k, none⟩ = some (.int .i64 (opKind sh[k])) := hgr.cell (insW_op w sh line x k hklt) (by simp)
      have hwk : wr.cell? ⟨g, k + 1, none⟩ = some (.string r[k]) := (hbl.cell (p := ⟨g, k + 1, none⟩) hlt).trans (by have := hl (k + 1) (by simp; omega); simpa using this)
      have hszk := hsz k hkr
      have HT : Hid (opsOk sh r = (opOk sh[k] r[k] && opsOk (sh.drop (k + 1)) (r.drop (k + 1)))) := by unfold Hid; rw [HR.out, opsOk_step sh r k hklt hkr]
      have HHK : Hid (opK sh r (k + 1) = (⟨nm, r0, r1, r2, n⟩ : Opd).take k (opKind sh[k]) r[k]) := by unfold Hid; rw [HO.out]; exact opK_step sh r k hklt hkr
      have hkk : opKind sh[k] = 0 ∨ opKind sh[k] = 1 ∨ opKind sh[k] = 2 := by
        unfold opKind
        split
        · simp
        · split <;> simp
      rcases hkk with hkk | hkk | hkk
      · have HOP : Hid (opOk sh[k] r[k] = regOk r[k]) := opOk_0 _ _ hkk
        rw [hkk] at hck
        have HN : Hid (opK sh r (k + 1) = (⟨nm, r0, r1, r2, n⟩ : Opd).take k 0 r[k]) := by unfold Hid; rw [HHK.out, hkk]
        clear hkk HHK
        have hk3 : k = 0 ∨ k = 1 ∨ k = 2 := by omega
        rcases hk3 with rfl | rfl | rfl
        · cases hq : regOk r[0] with
          | true =>
            have HQ : Hid (opOk sh[0] r[0] = true) := HOP.out.trans hq
            go_wp2_with (first | (go_at_call 150; refine (take_reg0 _ _ line x _ r[0] r0 r1 r2 n hS hszk).mono ?_; rintro e w5 ⟨rfl, hg1, hS1⟩) | (go_at_call 79; refine (raise_any _ _ _).mono ?_; rintro e wx ⟨rfl, hww⟩; have h2 := hww.symm; subst h2))
            go_roundw
            case rel => exact ⟨0 + 1, nm, regVal r[0], r1, r2, n, by omega, by go_num, grown_trans hgr hg1, hS1, HN.out.symm, by rw [HT.out, HQ.out]; simp⟩
            case measure => simp [intOf]; omega
          | false =>
            have HQ : Hid (opOk sh[0] r[0] = false) := HOP.out.trans hq
            go_wp2_with (first | (go_at_call 150; refine (take_reg0 _ _ line x _ r[0] r0 r1 r2 n hS hszk).mono ?_; rintro e w5 ⟨rfl, hg1, hS1⟩) | (go_at_call 79; refine (raise_any _ _ _).mono ?_; rintro e wx ⟨rfl, hww⟩; have h2 := hww.symm; subst h2))
            exact ⟨rfl, belowW (grown_trans hgr hg1), .inr ⟨by rw [HT.out, HQ.out]; simp, rfl⟩⟩
        · cases hq : regOk r[1] with
          | true =>
            have HQ : Hid (opOk sh[1] r[1] = true) := HOP.out.trans hq
            go_wp2_with (first | (go_at_call 150; refine (take_reg1 _ _ line x _ r[1] r0 r1 r2 n hS hszk).mono ?_; rintro e w5 ⟨rfl, hg1, hS1⟩) | (go_at_call 79; refine (raise_any _ _ _).mono ?_; rintro e wx ⟨rfl, hww⟩; have h2 := hww.symm; subst h2))
            go_roundw
            case rel => exact ⟨1 + 1, nm, r0, regVal r[1], r2, n, by omega, by go_num, grown_trans hgr hg1, hS1, HN.out.symm, by rw [HT.out, HQ.out]; simp⟩
            case measure => simp [intOf]; omega
          | false =>
            have HQ : Hid (opOk sh[1] r[1] = false) := HOP.out.trans hq
            go_wp2_with (first | (go_at_call 150; refine (take_reg1 _ _ line x _ r[1] r0 r1 r2 n hS hszk).mono ?_; rintro e w5 ⟨rfl, hg1, hS1⟩) | (go_at_call 79; refine (raise_any _ _ _).mono ?_; rintro e wx ⟨rfl, hww⟩; have h2 := hww.symm; subst h2))
            exact ⟨rfl, belowW (grown_trans hgr hg1), .inr ⟨by rw [HT.out, HQ.out]; simp, rfl⟩⟩
        · cases hq : regOk r[2] with
          | true =>
            have HQ : Hid (opOk sh[2] r[2] = true) := HOP.out.trans hq
            go_wp2_with (first | (go_at_call 150; refine (take_reg2 _ _ line x _ r[2] r0 r1 r2 n hS hszk).mono ?_; rintro e w5 ⟨rfl, hg1, hS1⟩) | (go_at_call 79; refine (raise_any _ _ _).mono ?_; rintro e wx ⟨rfl, hww⟩; have h2 := hww.symm; subst h2))
            go_roundw
            case rel => exact ⟨2 + 1, nm, r0, r1, regVal r[2], n, by omega, by go_num, grown_trans hgr hg1, hS1, HN.out.symm, by rw [HT.out, HQ.out]; simp⟩
            case measure => simp [intOf]; omega
          | false =>
            have HQ : Hid (opOk sh[2] r[2] = false) := HOP.out.trans hq
            go_wp2_with (first | (go_at_call 150; refine (take_reg2 _ _ line x _ r[2] r0 r1 r2 n hS hszk).mono ?_; rintro e w5 ⟨rfl, hg1, hS1⟩) | (go_at_call 79; refine (raise_any _ _ _).mono ?_; rintro e wx ⟨rfl, hww⟩; have h2 := hww.symm; subst h2))
            exact ⟨rfl, belowW (grown_trans hgr hg1), .inr ⟨by rw [HT.out, HQ.out]; simp, rfl⟩⟩
      · have HOP : Hid (opOk sh[k] r[k] = (numOf r[k]).2) := opOk_1 _ _ hkk
        rw [hkk] at hck
        have HN : Hid (opK sh r (k + 1) = ⟨nm, r0, r1, r2, numVal r[k]⟩) := by unfold Hid; rw [HHK.out, hkk]; rfl
        clear hkk HHK
        cases hq : (numOf r[k]).2 with
        | true =>
          have HQ : Hid (opOk sh[k] r[k] = true) := HOP.out.trans hq
          go_wp2_with (first | (go_at_call 150; refine (take_num _ hwr _ _ line x _ r[k] r0 r1 r2 n hS hszk).mono ?_; rintro e w5 ⟨rfl, hg1, hS1⟩) | (go_at_call 79; refine (raise_any _ _ _).mono ?_; rintro e wx ⟨rfl, hww⟩; have h2 := hww.symm; subst h2))
          go_roundw
          case rel => exact ⟨k + 1, nm, r0, r1, r2, numVal r[k], by omega, by go_num, grown_trans hgr hg1, hS1, HN.out.symm, by rw [HT.out, HQ.out]; simp⟩
          case measure => simp [intOf]; omega
        | false =>
          have HQ : Hid (opOk sh[k] r[k] = false) := HOP.out.trans hq
          go_wp2_with (first | (go_at_call 150; refine (take_num _ hwr _ _ line x _ r[k] r0 r1 r2 n hS hszk).mono ?_; rintro e w5 ⟨rfl, hg1, hS1⟩) | (go_at_call 79; refine (raise_any _ _ _).mono ?_; rintro e wx ⟨rfl, hww⟩; have h2 := hww.symm; subst h2))
          exact ⟨rfl, belowW (grown_trans hgr hg1), .inr ⟨by rw [HT.out, HQ.out]; simp, rfl⟩⟩
      · have HOP : Hid (opOk sh[k] r[k] = isName r[k]) := opOk_2 _ _ hkk
        rw [hkk] at hck
        have HN : Hid (opK sh r (k + 1) = ⟨r[k], r0, r1, r2, n⟩) := by unfold Hid; rw [HHK.out, hkk]; rfl
        clear hkk HHK
        cases hq : isName r[k] with
        | true =>
          have HQ : Hid (opOk sh[k] r[k] = true) := HOP.out.trans hq
          go_wp2_with (first | (go_at_call 150; refine (take_name _ _ _ line x _ r[k] r0 r1 r2 n hS hszk).mono ?_; rintro e w5 ⟨rfl, hg1, hS1⟩) | (go_at_call 79; refine (raise_any _ _ _).mono ?_; rintro e wx ⟨rfl, hww⟩; have h2 := hww.symm; subst h2))
          go_roundw
          case rel => exact ⟨k + 1, r[k], r0, r1, r2, n, by omega, by go_num, grown_trans hgr hg1, hS1, HN.out.symm, by rw [HT.out, HQ.out]; simp⟩
          case measure => simp [intOf]; omega
        | false =>
          have HQ : Hid (opOk sh[k] r[k] = false) := HOP.out.trans hq
          go_wp2_with (first | (go_at_call 150; refine (take_name _ _ _ line x _ r[k] r0 r1 r2 n hS hszk).mono ?_; rintro e w5 ⟨rfl, hg1, hS1⟩) | (go_at_call 79; refine (raise_any _ _ _).mono ?_; rintro e wx ⟨rfl, hww⟩; have h2 := hww.symm; subst h2))
          exact ⟨rfl, belowW (grown_trans hgr hg1), .inr ⟨by rw [HT.out, HQ.out]; simp, rfl⟩⟩
    · have HT : Hid (opsOk sh r = true) := by unfold Hid; rw [HR.out, List.drop_of_length_le (by omega)]; rfl
      have HKL : Hid (k = r.length) := by unfold Hid; omega
      obtain ⟨c0, c1, c2, c3, c4, c5, c6, c7, fz⟩ := hS
      have h8 : ∀ j, j < 8 → ∃ y, wr.cell? ⟨w.heap.size, j, none⟩ = some y := fun j hj => by
        obtain ⟨y, hy⟩ := insW_res w sh line x j hj
        exact ⟨y, hgr.cell hy (by simp; omega)⟩
      have hfz : ∀ j, wr.frozen? ⟨w.heap.size, j, none⟩ = false := fun j => by
        rw [World.frozen?_of_block (hgr.block w.heap.size (by simp [insW]; omega) (by simp; omega))]
        exact insW_fz w sh line x j
      obtain ⟨y0, z0⟩ := h8 0 (by omega)
      obtain ⟨y1, z1⟩ := h8 1 (by omega)
      obtain ⟨y2, z2⟩ := h8 2 (by omega)
      obtain ⟨y3, z3⟩ := h8 3 (by omega)
      obtain ⟨y4, z4⟩ := h8 4 (by omega)
      obtain ⟨y5, z5⟩ := h8 5 (by omega)
      obtain ⟨y6, z6⟩ := h8 6 (by omega)
      obtain ⟨y7, z7⟩ := h8 7 (by omega)
      go_wp2
      obtain ⟨f0, f1, f2, f3, f4, f5, f6, f7⟩ := back8 h8
      refine bodyPost_ret (v := stm 2 line x r0 r1 r2 n nm) (by simp [results, Tryz.results130, go_sem, f0, f1, f2, f3, f4, f5, f6, f7]) rfl ⟨below8 hbl (Nat.le_refl _) _ _ _ _ _ _ _ _, .inl ⟨HT.out, ?_⟩⟩
      rw [← HKL.out, ← HO.out]

end Go.Proofs.YtfpgjkbjbbgciaaGreatDoor
