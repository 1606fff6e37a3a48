import Derived.Test.YtfpgjkbjbbgciaaGreatDoorMb38
import Derived.Test.YtfpgjkbjbbgciaaGreatDoorMb37
namespace Go.Proofs.YtfpgjkbjbbgciaaGreatDoor
open Go.RowKit Sp

/-- The program's machine, whole. -/
structure MchAt (w : World) (b : Nat) (m : Mc) (bv iv ov : Value) : Prop where
  mem : MchM w b bv iv ov m
  backs : w.ownsRow (b + 1) 3 1 bv m.backs.length (i64s m.backs)
  out : w.ownsRow (b + 1) 2 1 ov m.out.length (i64s m.out)
  inp : SlB w b iv m.inp
/-- Only the machine's own block has been written. -/
theorem MchAt.same {w w' : World} {b : Nat} {m m2 : Mc} {bv iv ov : Value} (h : MchAt w b m bv iv ov) (hM : MchM w' b bv iv ov m2) (hg : w.grownBy w' (some b)) (e1 : m2.backs = m.backs) (e2 : m2.out = m.out) (e3 : m2.inp = m.inp) :
    MchAt w' b m2 bv iv ov ∧ Below b w w' := by
  have hb := below_grown h.mem.lt hg
  refine ⟨⟨hM, ?_, ?_, ?_⟩, hb⟩
  · rw [e1]; exact h.backs.kept hg (.inr (row_not h.backs))
  · rw [e2]; exact h.out.kept hg (.inr (row_not h.out))
  · rw [e3]; exact h.inp.below hb
/-- What a kind of instruction is in memory: its type, its cells, its method. -/
def insT : Ins → Nat
  | .set _ _ => 167 | .mov _ _ => 169 | .alu o _ _ _ => if o = 0 then 171 else if o = 1 then 172 else 173 | .inc _ _ => 174 | .load _ _ => 176 | .store _ _ => 178
  | .read _ => 180 | .write _ => 182 | .jump _ => 185 | .less _ _ _ => 187 | .same _ _ _ => 188 | .call _ => 190 | .back => 192 | .stop => 193
def insF : Ins → Nat
  | .set _ _ => 223 | .mov _ _ => 230 | .alu o _ _ _ => if o = 0 then 232 else if o = 1 then 239 else 243 | .inc _ _ => 249 | .load _ _ => 251 | .store _ _ => 256
  | .read _ => 259 | .write _ => 262 | .jump _ => 265 | .less _ _ _ => 267 | .same _ _ _ => 274 | .call _ => 279 | .back => 284 | .stop => 288
def insA : Ins → Array Value
  | .set r k => #[.int .i64 (r : Int), .int .i64 k]
  | .mov r s => #[.int .i64 (r : Int), .int .i64 (s : Int)]
  | .alu _ r s t => #[.int .i64 (r : Int), .int .i64 (s : Int), .int .i64 (t : Int)]
  | .inc r k => #[.int .i64 (r : Int), .int .i64 k]
  | .load r s => #[.int .i64 (r : Int), .int .i64 (s : Int)]
  | .store r s => #[.int .i64 (r : Int), .int .i64 (s : Int)]
  | .read r => #[.int .i64 (r : Int)]
  | .write r => #[.int .i64 (r : Int)]
  | .jump to => #[.int .i64 to]
  | .less r s to => #[.int .i64 (r : Int), .int .i64 (s : Int), .int .i64 to]
  | .same r s to => #[.int .i64 (r : Int), .int .i64 (s : Int), .int .i64 to]
  | .call to => #[.int .i64 to]
  | .back => #[]
  | .stop => #[]
/-- The registers are there. -/
def InsOk : Ins → Prop
  | .set r _ => r < 8
  | .mov r s => r < 8 ∧ s < 8
  | .alu o r s t => o ≤ 2 ∧ r < 8 ∧ s < 8 ∧ t < 8
  | .inc r _ => r < 8
  | .load r s => r < 8 ∧ s < 8
  | .store r s => r < 8 ∧ s < 8
  | .read r => r < 8
  | .write r => r < 8
  | .less r s _ => r < 8 ∧ s < 8
  | .same r s _ => r < 8 ∧ s < 8
  | _ => True
/-- A step of the program's machine: where it has ended it stays at its place. -/
def execC (i : Ins) (m : Mc) : Mc := if (exec i (m.at' + 1) m).fin = 1 ∨ (exec i (m.at' + 1) m).fin = 2 then { exec i (m.at' + 1) m with at' := m.at' } else exec i (m.at' + 1) m
theorem execC_on {i : Ins} {m : Mc} (h : (exec i (m.at' + 1) m).fin = m.fin ∨ 2 < (exec i (m.at' + 1) m).fin) (h0 : m.fin = 0) : execC i m = exec i (m.at' + 1) m := by
  unfold execC; rw [if_neg (by omega)]
/-- What holds of the machine as long as it runs. -/
structure InvC (m : Mc) : Prop where
  at0 : 0 ≤ m.at'
  at1 : m.at' ≤ 1000
  frames : m.frames = (m.backs.length : Int) + 1
  few : m.backs.length ≤ 15
  peak : ∃ p : Nat, m.peak = (p : Int) ∧ p ≤ 16
  steps : 0 ≤ m.steps
  out : (m.out.length : Int) ≤ m.steps
/-- What a step comes to. -/
def DoPost (w : World) (b : Nat) (m2 : Mc) : Ending → World → Prop := fun e w' => e = .returned (.tuple #[]) ∧ ∃ bv iv ov, MchAt w' b m2 bv iv ov ∧ Below b w w'
theorem MchAt.done {w : World} {b f : Nat} {args : Array Value} {m m2 : Mc} {bv iv ov : Value} (M : MchAt w b m bv iv ov) (e1 : m2.backs = m.backs) (e2 : m2.out = m.out) (e3 : m2.inp = m.inp)
    (h : Calls Tryz.prog f args w fun e w' => e = .returned (.tuple #[]) ∧ MchM w' b bv iv ov m2 ∧ w.grownBy w' (some b)) : Calls Tryz.prog f args w (DoPost w b m2) := by
  refine h.mono ?_
  rintro e w' ⟨h1, hM, hg⟩
  obtain ⟨h2, h3⟩ := M.same hM hg e1 e2 e3
  exact ⟨h1, _, _, _, h2, h3⟩
theorem do_read_any {w : World} {b r : Nat} {m : Mc} {bv iv ov : Value} (hr : r < 8) (M : MchAt w b m bv iv ov) (I : InvC m) (hst : m.steps ≤ 99999) (hin : m.inp.length ≤ 1048576) :
    Calls Tryz.prog 259 #[.agg #[.int .i64 (r : Int)], .pointer (some ⟨b, 0, none⟩)] w (DoPost w b (exec (.read r) (m.at' + 1) m)) := by
  have h0 := I.steps
  have ha := I.at0
  have hb := I.at1
  obtain ⟨ao, cap, rfl, hcap, hl⟩ := M.inp
  cases hi : m.inp with
  | nil =>
    have hz : m.inp.length = 0 := by rw [hi]; rfl
    have hm := M.mem
    rw [hz] at hm
    have e1 : exec (.read r) (m.at' + 1) m = { m with regs := upd m.regs r 0 }.goes (m.at' + 1) := by simp [exec, hi, Mc.goes]
    rw [e1]
    refine (do_read_none w b cap r bv ov ao m hr hm h0 (by omega) ha (by omega)).mono ?_
    rintro e w' ⟨h1, hM, hg⟩
    rw [← hz] at hM
    obtain ⟨h2, h3⟩ := M.same hM hg rfl rfl rfl
    exact ⟨h1, _, _, _, h2, h3⟩
  | cons x l =>
    obtain ⟨g, o, rfl, hgb, hgs, hc⟩ := hl (by rw [hi]; simp)
    have hz : m.inp.length = l.length + 1 := by rw [hi]; rfl
    have hm := M.mem
    rw [hz] at hm
    have hx : w.cell? ⟨g, o, none⟩ = some (.int .i64 x) := by
      have := hc 0 (by omega)
      rw [Nat.add_zero] at this
      rw [this]
      simp [hi]
    have e1 : exec (.read r) (m.at' + 1) m = { m with regs := upd m.regs r x, inp := l }.goes (m.at' + 1) := by simp [exec, hi, Mc.goes]
    rw [e1]
    refine (do_read_some w b cap r g o l.length bv ov m x l hr hm hx (by omega) (by omega) h0 (by omega) ha (by omega)).mono ?_
    rintro e w' ⟨h1, ⟨o', hM, ho⟩, hg⟩
    have hB := below_grown M.mem.lt hg
    refine ⟨h1, _, _, _, ⟨hM, M.backs.kept hg (.inr (row_not M.backs)), M.out.kept hg (.inr (row_not M.out)), ?_⟩, hB⟩
    refine ⟨some ⟨g, o', none⟩, cap - 1, rfl, by show l.length ≤ cap - 1; omega, fun hp => ⟨g, o', rfl, hgb, Nat.lt_of_lt_of_le hgs hB.size, fun j hj => ?_⟩⟩
    rcases ho with ho | rfl
    · have : 0 < l.length := hp
      omega
    · have hj2 : j < l.length := hj
      have := hc (j + 1) (by omega)
      rw [show o + (j + 1) = o + 1 + j by omega] at this
      rw [(hB.cell (p := ⟨g, o + 1 + j, none⟩) hgb).trans this]
      simp [hi, Mc.goes]
theorem do_write_any {w : World} {b r : Nat} {m : Mc} {bv iv ov : Value} (hr : r < 8) (M : MchAt w b m bv iv ov) (I : InvC m) (hst : m.steps ≤ 99999) :
    Calls Tryz.prog 262 #[.agg #[.int .i64 (r : Int)], .pointer (some ⟨b, 0, none⟩)] w (DoPost w b (exec (.write r) (m.at' + 1) m)) := by
  have h0 := I.steps
  have ha := I.at0
  have hb := I.at1
  have hlen := I.out
  refine (do_write w b r bv iv ov m hr M.mem M.out (by omega) h0 (by omega) ha (by omega)).mono ?_
  rintro e w' ⟨h1, v', w4, hM, how, hg4, hg⟩
  have hb4 : Below b w w4 := (Below.refl b w).grown hg4 (by have := M.mem.lt; omega) (fun q hq => by have := (M.out.lt q hq).1; omega)
  have hB : Below b w w' := hb4.trans ((Below.refl b w4).grown hg (by have := hb4.size; have := M.mem.lt; omega) (fun j hj => by cases hj; exact Nat.le_refl _))
  refine ⟨h1, _, _, _, ⟨hM, ?_, ?_, M.inp.below hB⟩, hB⟩
  · exact (M.backs.kept hg4 (own_apart M.backs M.out (by decide))).kept hg (.inr (row_not M.backs))
  · have := how.kept hg (.inr (row_not how))
    show World.ownsRow _ (b + 1) 2 1 _ (m.out ++ [m.regs r]).length (i64s (m.out ++ [m.regs r]))
    rw [List.length_append]
    exact this
theorem do_call_any {w : World} {b : Nat} {m : Mc} {bv iv ov : Value} (to : Int) (M : MchAt w b m bv iv ov) (I : InvC m) (hfin : m.fin = 0) (hst : m.steps ≤ 99999) :
    Calls Tryz.prog 279 #[.agg #[.int .i64 to], .pointer (some ⟨b, 0, none⟩)] w (DoPost w b (exec (.call to) (m.at' + 1) m)) := by
  have h0 := I.steps
  have ha := I.at0
  have hb := I.at1
  have hfr := I.frames
  have hfew := I.few
  obtain ⟨p, hp, hp1⟩ := I.peak
  obtain ⟨ao, c, rfl⟩ := slice_of M.backs
  have h2 : (m.fin == 2) = false := by rw [hfin]; rfl
  by_cases hf : m.frames = 16
  · have e1 : exec (.call to) (m.at' + 1) m = { m with fin := 4 } := if_pos hf
    rw [e1]
    have hz : m.backs.length = 15 := by omega
    have hm := M.mem
    rw [hz] at hm
    refine (do_call_full w b c ao iv ov m to hm h2).mono ?_
    rintro e w' ⟨h1, hM, hg⟩
    rw [← hz] at hM
    obtain ⟨h2, h3⟩ := M.same hM hg rfl rfl rfl
    exact ⟨h1, _, _, _, h2, h3⟩
  · have e1 : exec (.call to) (m.at' + 1) m = { m with backs := m.backs ++ [m.at' + 1], frames := m.frames + 1, peak := max m.peak (m.frames + 1) }.goes to := if_neg hf
    rw [e1]
    have hpk : max m.peak (m.frames + 1) = max m.peak ((m.backs.length : Int) + 2) := by rw [hfr, Int.add_assoc]; rfl
    rw [hpk]
    refine (do_call_on w b c ao iv ov m to p M.mem h2 M.backs (by omega) hp hp1 h0 (by omega) ha (by omega)).mono ?_
    rintro e w' ⟨h1, g, c', w4, hM, how, hg4, hg⟩
    have hb4 : Below b w w4 := (Below.refl b w).grown hg4 (by have := M.mem.lt; omega) (fun q hq => by have := (M.backs.lt q hq).1; omega)
    have hB : Below b w w' := hb4.trans ((Below.refl b w4).grown hg (by have := hb4.size; have := M.mem.lt; omega) (fun j hj => by cases hj; exact Nat.le_refl _))
    refine ⟨h1, _, _, _, ⟨hM.frames (m.frames + 1), ?_, ?_, M.inp.below hB⟩, hB⟩
    · have := how.kept hg (.inr (row_not how))
      show World.ownsRow _ (b + 1) 3 1 _ (m.backs ++ [m.at' + 1]).length (i64s (m.backs ++ [m.at' + 1]))
      rw [List.length_append]
      exact this
    · exact (M.out.kept hg4 (own_apart M.out M.backs (by decide))).kept hg (.inr (row_not M.out))
theorem do_back_any {w : World} {b : Nat} {m : Mc} {bv iv ov : Value} (M : MchAt w b m bv iv ov) (I : InvC m) (hfin : m.fin = 0) (hst : m.steps ≤ 99999) :
    Calls Tryz.prog 284 #[.agg #[], .pointer (some ⟨b, 0, none⟩)] w (DoPost w b (execC .back m)) := by
  have h0 := I.steps
  have hfr := I.frames
  have hfew := I.few
  by_cases hf : m.frames = 1
  · have hz : m.backs.length = 0 := by omega
    have e0 : exec .back (m.at' + 1) m = { m with frames := 0, fin := 2 }.goes (-1) := if_pos hf
    have e1 : execC .back m = { m with steps := m.steps + 1, frames := 0, fin := 2 } := by
      unfold execC; rw [e0, if_pos (.inr rfl)]; rfl
    rw [e1]
    obtain ⟨ao, c, rfl⟩ := slice_of M.backs
    have hm := M.mem
    rw [hz] at hm
    refine (do_back_out w b c ao iv ov m hm h0 (by omega)).mono ?_
    rintro e w' ⟨h1, hM, hg⟩
    rw [← hz] at hM
    obtain ⟨h2, h3⟩ := M.same (hM.frames 0) hg rfl rfl rfl
    exact ⟨h1, _, _, _, h2, h3⟩
  · have e0 : exec .back (m.at' + 1) m = { m with frames := m.frames - 1, backs := m.backs.dropLast }.goes (m.backs.getLastD 0) := if_neg hf
    have e1 : execC .back m = { m with frames := m.frames - 1, backs := m.backs.dropLast }.goes (m.backs.getLastD 0) := by
      rw [execC_on (.inl (by rw [e0]; rfl)) hfin, e0]
    rw [e1]
    obtain ⟨I', x, hI⟩ : ∃ I x, m.backs = I ++ [x] := by
      rcases List.eq_nil_or_concat m.backs with h | ⟨I, x, h⟩
      · rw [h] at hfr; simp at hfr; omega
      · exact ⟨I, x, by rw [h, List.concat_eq_append]⟩
    have hrow := M.backs
    have hIl : m.backs.length = I'.length + 1 := by rw [hI]; simp
    rw [hIl] at hrow
    obtain ⟨gb, c, hbv, hgb, hgl⟩ := hrow.form (by omega)
    have hcap : I'.length + 1 ≤ c := by
      rcases hrow.2 with ⟨h', _⟩ | ⟨g', cap', cur, h', _, _, hnc, _⟩
      · rw [hbv] at h'; simp at h'
      · rw [hbv] at h'; simp at h'; omega
    have hcell : w.cell? ⟨gb, I'.length, none⟩ = some (.int .i64 x) := by
      rw [hbv] at hrow
      rw [World.ownsRow.cellAt hrow I'.length (by omega), hI]
      simp
    have hlast : m.backs.getLastD 0 = x := by rw [hI]; simp
    rw [hlast]
    have hm := M.mem
    rw [hbv] at hm
    refine (do_back_in w b c gb I'.length iv ov m x m.backs.dropLast hm hcell (by omega) (by omega) hcap h0 (by omega)).mono ?_
    rintro e w' ⟨h1, hM, hg⟩
    have hb := below_grown M.mem.lt hg
    refine ⟨h1, _, _, _, ⟨hM.frames (m.frames - 1), ?_, M.out.kept hg (.inr (row_not M.out)), M.inp.below hb⟩, hb⟩
    have hk := hrow.kept hg (.inr (row_not hrow))
    rw [hbv] at hk
    show World.ownsRow _ (b + 1) 3 1 _ m.backs.dropLast.length (i64s m.backs.dropLast)
    rw [hI] at hk ⊢
    simp only [List.dropLast_concat]
    exact own_less hk
/-- One instruction of the program's machine. -/
theorem do_any {w : World} {b : Nat} {m : Mc} {bv iv ov : Value} (i : Ins) (hi : InsOk i) (M : MchAt w b m bv iv ov) (I : InvC m) (hfin : m.fin = 0) (hst : m.steps ≤ 99999) (hin : m.inp.length ≤ 1048576) :
    Calls Tryz.prog (insF i) #[.agg (insA i), .pointer (some ⟨b, 0, none⟩)] w (DoPost w b (execC i m)) := by
  have h0 := I.steps
  have ha := I.at0
  have hb := I.at1
  cases i with
  | set r k => rw [execC_on (.inl rfl) hfin]; exact M.done rfl rfl rfl (do_set w b bv iv ov m r hi k M.mem h0 (by omega) ha (by omega))
  | mov r s => rw [execC_on (.inl rfl) hfin]; exact M.done rfl rfl rfl (do_mov w b bv iv ov m r s hi.1 hi.2 M.mem h0 (by omega) ha (by omega))
  | alu o r s t =>
    rw [execC_on (.inl rfl) hfin]
    obtain ⟨ho, hr, hs, ht⟩ := hi
    match o, ho with
    | 0, _ => exact M.done rfl rfl rfl (do_add w b bv iv ov m r s t hr hs ht M.mem h0 (by omega) ha (by omega))
    | 1, _ => exact M.done rfl rfl rfl (do_sub w b bv iv ov m r s t hr hs ht M.mem h0 (by omega) ha (by omega))
    | 2, _ => exact M.done rfl rfl rfl (do_mul w b bv iv ov m r s t hr hs ht M.mem h0 (by omega) ha (by omega))
  | inc r k => rw [execC_on (.inl rfl) hfin]; exact M.done rfl rfl rfl (do_inc w b bv iv ov m r hi k M.mem h0 (by omega) ha (by omega))
  | load r s =>
    by_cases hn : m.regs s < 0 ∨ 15 < m.regs s
    · have e1 : exec (.load r s) (m.at' + 1) m = { m with fin := 3 } := if_pos hn
      have hd := do_load_out w b bv iv ov m r s hi.1 hi.2 M.mem hn
      rw [execC_on (.inr (by rw [e1]; show (2 : Int) < 3; decide)) hfin]
      rw [e1] at hd ⊢
      exact M.done rfl rfl rfl hd
    · obtain ⟨n, hn'⟩ := Int.eq_ofNat_of_zero_le (by omega : 0 ≤ m.regs s)
      have e1 : exec (.load r s) (m.at' + 1) m = { m with regs := upd m.regs r (m.cells (m.regs s).toNat) }.goes (m.at' + 1) := if_neg hn
      have hd := do_load_in w b bv iv ov m r s n hi.1 hi.2 (by omega) hn' M.mem h0 (by omega) ha (by omega)
      rw [execC_on (.inl (by rw [e1]; rfl)) hfin]
      rw [e1] at hd ⊢
      exact M.done rfl rfl rfl hd
  | store r s =>
    by_cases hn : m.regs r < 0 ∨ 15 < m.regs r
    · have e1 : exec (.store r s) (m.at' + 1) m = { m with fin := 3 } := if_pos hn
      have hd := do_store_out w b bv iv ov m r s hi.1 hi.2 M.mem hn
      rw [execC_on (.inr (by rw [e1]; show (2 : Int) < 3; decide)) hfin]
      rw [e1] at hd ⊢
      exact M.done rfl rfl rfl hd
    · obtain ⟨n, hn'⟩ := Int.eq_ofNat_of_zero_le (by omega : 0 ≤ m.regs r)
      have e1 : exec (.store r s) (m.at' + 1) m = { m with cells := upd m.cells (m.regs r).toNat (m.regs s) }.goes (m.at' + 1) := if_neg hn
      have hd := do_store_in w b bv iv ov m r s n hi.1 hi.2 (by omega) hn' M.mem h0 (by omega) ha (by omega)
      rw [execC_on (.inl (by rw [e1]; rfl)) hfin]
      rw [e1] at hd ⊢
      exact M.done rfl rfl rfl hd
  | read r => rw [execC_on (.inl rfl) hfin]; exact do_read_any hi M I hst hin
  | write r => rw [execC_on (.inl rfl) hfin]; exact do_write_any hi M I hst
  | jump to => rw [execC_on (.inl rfl) hfin]; exact M.done rfl rfl rfl (do_jump w b bv iv ov m to M.mem h0 (by omega))
  | less r s to => rw [execC_on (.inl rfl) hfin]; exact M.done rfl rfl rfl (do_less w b bv iv ov m r s hi.1 hi.2 to M.mem h0 (by omega) ha (by omega))
  | same r s to => rw [execC_on (.inl rfl) hfin]; exact M.done rfl rfl rfl (do_same w b bv iv ov m r s hi.1 hi.2 to M.mem h0 (by omega) ha (by omega))
  | call to =>
    have hc := do_call_any to M I hfin hst
    rw [execC_on ?_ hfin]
    · exact hc
    · simp only [exec]
      split
      · exact .inr (by show (2 : Int) < 4; decide)
      · exact .inl rfl
  | back => exact do_back_any M I hfin hst
  | stop =>
    have e1 : execC .stop m = { m with steps := m.steps + 1, fin := 1 } := by
      unfold execC; rw [show exec .stop (m.at' + 1) m = { m with fin := 1 }.goes (-1) from rfl, if_pos (.inl rfl)]; rfl
    rw [e1]
    exact M.done rfl rfl rfl (do_stop w b bv iv ov m M.mem h0 (by omega))

end Go.Proofs.YtfpgjkbjbbgciaaGreatDoor
