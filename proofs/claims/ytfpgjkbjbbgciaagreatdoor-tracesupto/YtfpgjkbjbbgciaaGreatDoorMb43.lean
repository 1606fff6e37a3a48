import Derived.Test.YtfpgjkbjbbgciaaGreatDoorMb42
namespace Go.Proofs.YtfpgjkbjbbgciaaGreatDoor
open Go.RowKit Sp

/-- A place of the code. -/
def InC (N : Nat) (z : Int) : Prop := ∃ k : Nat, z = (k : Int) ∧ k < N
/-- Where an instruction at a place may lead to. -/
def Leads (N p : Nat) : Ins → Prop
  | .jump to => InC N to
  | .less _ _ to => InC N to ∧ p + 1 < N
  | .same _ _ to => InC N to ∧ p + 1 < N
  | .call to => InC N to ∧ p + 1 < N
  | .back => True
  | .stop => True
  | _ => p + 1 < N
structure InvD (N : Nat) (m : Mc) : Prop where
  at_ : InC N m.at'
  backs : ∀ z ∈ m.backs, InC N z
  frames : m.frames = if m.fin = 2 then 0 else (m.backs.length : Int) + 1
  few : m.backs.length ≤ 15
  peak : ∃ p : Nat, m.peak = (p : Int) ∧ p ≤ 16
  steps : 0 ≤ m.steps
  out : (m.out.length : Int) ≤ m.steps
theorem InvD.inv {N : Nat} {m : Mc} (I : InvD N m) (hN : N ≤ 300) (h : m.fin = 0) : InvC m := by
  obtain ⟨k, hk, hlt⟩ := I.at_
  have hf := I.frames
  rw [if_neg (by omega)] at hf
  exact ⟨by omega, by omega, hf, I.few, I.peak, I.steps, I.out⟩
theorem InvD.goes {N : Nat} {m m1 : Mc} {z : Int} (I : InvD N m) (h : InC N z) (e1 : m1.backs = m.backs) (e2 : m1.frames = m.frames) (e3 : m1.peak = m.peak) (e4 : m1.steps = m.steps) (e5 : m1.out.length ≤ m.out.length + 1) (e6 : m1.fin = m.fin) : InvD N (m1.goes z) := by
  have hs := I.steps
  have ho := I.out
  refine ⟨h, ?_, ?_, ?_, ?_, ?_, ?_⟩
  · show ∀ z ∈ m1.backs, _; rw [e1]; exact I.backs
  · show m1.frames = if m1.fin = 2 then 0 else (m1.backs.length : Int) + 1; rw [e1, e2, e6]; exact I.frames
  · show m1.backs.length ≤ 15; rw [e1]; exact I.few
  · show ∃ p : Nat, m1.peak = (p : Int) ∧ p ≤ 16; rw [e3]; exact I.peak
  · show 0 ≤ m1.steps + 1; omega
  · show (m1.out.length : Int) ≤ m1.steps + 1; omega
theorem InvD.fault {N : Nat} {m : Mc} {x : Int} (I : InvD N m) (h : m.fin = 0) (hx : ¬ x = 2) : InvD N { m with fin := x } := by
  have hf := I.frames
  rw [if_neg (by omega)] at hf
  exact ⟨I.at_, I.backs, by show m.frames = if x = 2 then 0 else (m.backs.length : Int) + 1; rw [if_neg hx]; exact hf, I.few, I.peak, I.steps, I.out⟩
theorem InvD.step {N p : Nat} {m : Mc} {i : Ins} (I : InvD N m) (hfin : m.fin = 0) (hp : m.at' = (p : Int)) (hl : Leads N p i) : InvD N (execC i m) := by
  have hnx : p + 1 < N → InC N (m.at' + 1) := fun h => ⟨p + 1, by omega, h⟩
  have hf := I.frames
  rw [if_neg (by omega)] at hf
  cases i with
  | set r k => rw [execC_on (.inl rfl) hfin]; exact I.goes (hnx hl) rfl rfl rfl rfl (Nat.le_succ _) rfl
  | mov r s => rw [execC_on (.inl rfl) hfin]; exact I.goes (hnx hl) rfl rfl rfl rfl (Nat.le_succ _) rfl
  | alu o r s t => rw [execC_on (.inl rfl) hfin]; exact I.goes (hnx hl) rfl rfl rfl rfl (Nat.le_succ _) rfl
  | inc r k => rw [execC_on (.inl rfl) hfin]; exact I.goes (hnx hl) rfl rfl rfl rfl (Nat.le_succ _) rfl
  | load r s =>
    by_cases hn : m.regs s < 0 ∨ 15 < m.regs s
    · have e1 : exec (.load r s) (m.at' + 1) m = { m with fin := 3 } := if_pos hn
      rw [execC_on (.inr (by rw [e1]; show (2 : Int) < 3; decide)) hfin, e1]
      exact I.fault hfin (by decide)
    · have e1 : exec (.load r s) (m.at' + 1) m = { m with regs := upd m.regs r (m.cells (m.regs s).toNat) }.goes (m.at' + 1) := if_neg hn
      rw [execC_on (.inl (by rw [e1]; rfl)) hfin, e1]
      exact I.goes (hnx hl) rfl rfl rfl rfl (Nat.le_succ _) rfl
  | store r s =>
    by_cases hn : m.regs r < 0 ∨ 15 < m.regs r
    · have e1 : exec (.store r s) (m.at' + 1) m = { m with fin := 3 } := if_pos hn
      rw [execC_on (.inr (by rw [e1]; show (2 : Int) < 3; decide)) hfin, e1]
      exact I.fault hfin (by decide)
    · have e1 : exec (.store r s) (m.at' + 1) m = { m with cells := upd m.cells (m.regs r).toNat (m.regs s) }.goes (m.at' + 1) := if_neg hn
      rw [execC_on (.inl (by rw [e1]; rfl)) hfin, e1]
      exact I.goes (hnx hl) rfl rfl rfl rfl (Nat.le_succ _) rfl
  | read r => rw [execC_on (.inl rfl) hfin]; exact I.goes (hnx hl) rfl rfl rfl rfl (Nat.le_succ _) rfl
  | write r => rw [execC_on (.inl rfl) hfin]; exact I.goes (hnx hl) rfl rfl rfl rfl (by show (m.out ++ [_]).length ≤ _; simp) rfl
  | jump to => rw [execC_on (.inl rfl) hfin]; exact I.goes hl rfl rfl rfl rfl (Nat.le_succ _) rfl
  | less r s to =>
    rw [execC_on (.inl rfl) hfin]
    refine I.goes (m1 := m) ?_ rfl rfl rfl rfl (Nat.le_succ _) rfl
    split
    · exact hl.1
    · exact hnx hl.2
  | same r s to =>
    rw [execC_on (.inl rfl) hfin]
    refine I.goes (m1 := m) ?_ rfl rfl rfl rfl (Nat.le_succ _) rfl
    split
    · exact hl.1
    · exact hnx hl.2
  | call to =>
    by_cases h16 : m.frames = 16
    · have e1 : exec (.call to) (m.at' + 1) m = { m with fin := 4 } := if_pos h16
      rw [execC_on (.inr (by rw [e1]; show (2 : Int) < 4; decide)) hfin, e1]
      exact I.fault hfin (by decide)
    · have e1 : exec (.call to) (m.at' + 1) m = { m with backs := m.backs ++ [m.at' + 1], frames := m.frames + 1, peak := max m.peak (m.frames + 1) }.goes to := if_neg h16
      rw [execC_on (.inl (by rw [e1]; rfl)) hfin, e1]
      have hs := I.steps
      have ho := I.out
      have hw := I.few
      obtain ⟨pk, hpk, hpk1⟩ := I.peak
      refine ⟨hl.1, ?_, ?_, ?_, ?_, ?_, ?_⟩
      · show ∀ z ∈ m.backs ++ [m.at' + 1], _
        intro z hz
        rw [List.mem_append, List.mem_singleton] at hz
        rcases hz with hz | rfl
        · exact I.backs z hz
        · exact hnx hl.2
      · show m.frames + 1 = if m.fin = 2 then 0 else ((m.backs ++ [m.at' + 1]).length : Int) + 1
        rw [if_neg (by omega), hf]; simp
      · show (m.backs ++ [m.at' + 1]).length ≤ 15
        simp; omega
      · show ∃ q : Nat, max m.peak (m.frames + 1) = (q : Int) ∧ q ≤ 16
        exact ⟨max pk (m.backs.length + 2), by rw [hpk, hf]; omega, by omega⟩
      · show 0 ≤ m.steps + 1; omega
      · show (m.out.length : Int) ≤ m.steps + 1; omega
  | back =>
    have hs := I.steps
    have ho := I.out
    by_cases h1 : m.frames = 1
    · have e0 : exec .back (m.at' + 1) m = { m with frames := 0, fin := 2 }.goes (-1) := if_pos h1
      have e1 : execC .back m = { m with steps := m.steps + 1, frames := 0, fin := 2 } := by
        unfold execC; rw [e0, if_pos (.inr rfl)]; rfl
      rw [e1]
      exact ⟨I.at_, I.backs, by show (0 : Int) = if (2 : Int) = 2 then 0 else _; rw [if_pos rfl], I.few, I.peak, by show 0 ≤ m.steps + 1; omega, by show (m.out.length : Int) ≤ m.steps + 1; omega⟩
    · have e0 : exec .back (m.at' + 1) m = { m with frames := m.frames - 1, backs := m.backs.dropLast }.goes (m.backs.getLastD 0) := if_neg h1
      rw [execC_on (.inl (by rw [e0]; rfl)) hfin, e0]
      obtain ⟨J, x, hJ⟩ : ∃ I x, m.backs = I ++ [x] := by
        rcases List.eq_nil_or_concat m.backs with h | ⟨I, x, h⟩
        · rw [h] at hf; simp at hf; omega
        · exact ⟨I, x, by rw [h, List.concat_eq_append]⟩
      have hb := I.backs
      have hw := I.few
      rw [hJ] at hb hw hf
      simp at hw hf
      refine ⟨?_, ?_, ?_, ?_, I.peak, ?_, ?_⟩
      · show InC N (m.backs.getLastD 0)
        rw [hJ]; simp
        exact hb x (by simp)
      · show ∀ z ∈ m.backs.dropLast, _
        rw [hJ]; simp
        intro z hz
        exact hb z (by simp [hz])
      · show m.frames - 1 = if m.fin = 2 then 0 else (m.backs.dropLast.length : Int) + 1
        rw [if_neg (by omega), hJ]; simp; omega
      · show m.backs.dropLast.length ≤ 15
        rw [hJ]; simp; omega
      · show 0 ≤ m.steps + 1; omega
      · show (m.out.length : Int) ≤ m.steps + 1; omega
  | stop =>
    have hs := I.steps
    have ho := I.out
    have e1 : execC .stop m = { m with steps := m.steps + 1, fin := 1 } := by
      unfold execC; rw [show exec .stop (m.at' + 1) m = { m with fin := 1 }.goes (-1) from rfl, if_pos (.inl rfl)]; rfl
    rw [e1]
    exact ⟨I.at_, I.backs, by show m.frames = if (1 : Int) = 2 then 0 else _; rw [if_neg (by decide)]; exact hf, I.few, I.peak, by show 0 ≤ m.steps + 1; omega, by show (m.out.length : Int) ≤ m.steps + 1; omega⟩
/-- How the steps are counted. -/
theorem execC_facts (i : Ins) (m : Mc) (h : m.fin = 0) :
    (((execC i m).fin = 0 ∨ (execC i m).fin = 1 ∨ (execC i m).fin = 2) ∧ (execC i m).steps = m.steps + 1 ∨ ((execC i m).fin = 3 ∨ (execC i m).fin = 4) ∧ (execC i m).steps = m.steps) ∧ (execC i m).inp.length ≤ m.inp.length := by
  obtain ⟨F, hi⟩ := exec_facts i (m.at' + 1) m h
  unfold execC
  rcases F with ⟨h1, h2⟩ | ⟨h1, _, h2⟩ | ⟨h1, _, h2⟩
  · rw [if_neg (by omega)]; exact ⟨.inl ⟨.inl h1, h2⟩, hi⟩
  · rw [if_pos h1]; exact ⟨.inl ⟨.inr h1, h2⟩, hi⟩
  · rw [if_neg (by omega)]; exact ⟨.inr ⟨h1, h2⟩, hi⟩

/-- The code in memory: instructions and their lines. -/
def CodeIn (w : World) (g : Nat) (C : List (Ins × Int)) : Prop := ∀ j (h : j < C.length), w.cell? ⟨g, j * 2, none⟩ = some (.iface (insT C[j].1) (.agg (insA C[j].1))) ∧ w.cell? ⟨g, j * 2 + 1, none⟩ = some (.int .i64 C[j].2)
structure CodeOk (C : List (Ins × Int)) : Prop where
  some_ : 0 < C.length
  few : C.length ≤ 300
  ok : ∀ j (h : j < C.length), InsOk C[j].1
  leads : ∀ j (h : j < C.length), Leads C.length j C[j].1
def stepC (C : List (Ins × Int)) (m : Mc) : Mc := match C[m.at'.toNat]? with | none => m | some q => execC q.1 m
theorem stepC_at {C : List (Ins × Int)} {m : Mc} {k : Nat} (hk : m.at' = (k : Int)) (h : k < C.length) : stepC C m = execC C[k].1 m := by
  unfold stepC; rw [hk, Int.toNat_natCast, List.getElem?_eq_getElem h]
def beginC (inp : List Int) : Mc := ⟨0, [], inp, 0, fun _ => 0, fun _ => 0, [], 1, 1, 0⟩
/-- What is told of the line that comes next. -/
def lineC (C : List (Ins × Int)) (m : Mc) : Int := if m.fin = 1 ∨ m.fin = 2 then 0 else (C[m.at'.toNat]?.map (·.2)).getD 0
theorem CodeIn.below {w w' : World} {g B : Nat} {C : List (Ins × Int)} (h : CodeIn w g C) (hb : Below B w w') (hg : g < B) : CodeIn w' g C := fun j hj => ⟨(hb.cell (p := ⟨g, j * 2, none⟩) hg).trans (h j hj).1, (hb.cell (p := ⟨g, j * 2 + 1, none⟩) hg).trans (h j hj).2⟩
theorem begin_invD {C : List (Ins × Int)} (K : CodeOk C) (inp : List Int) : InvD C.length (beginC inp) :=
  ⟨⟨0, rfl, K.some_⟩, by simp [beginC], rfl, by simp [beginC], ⟨1, rfl, by omega⟩, Int.le_refl _, Int.le_refl _⟩

end Go.Proofs.YtfpgjkbjbbgciaaGreatDoor

namespace Go.Proofs.YtfpgjkbjbbgciaaGreatDoor
open Go.RowKit Sp
/- The places of the code against the lines of the text. Plain maths. -/

/-- An instruction whose places are told anew. -/
def insAt (f : Int → Int) : Ins → Ins
  | .jump to => .jump (f to)
  | .less r s to => .less r s (f to)
  | .same r s to => .same r s (f to)
  | .call to => .call (f to)
  | i => i
/-- A machine at places, as one at lines. -/
def lift (f : Int → Int) (m : Mc) : Mc := { m with at' := if m.fin = 1 ∨ m.fin = 2 then -1 else f m.at', backs := m.backs.map f }
structure SimOk (L : List Said) (C : List (Ins × Int)) (f : Int → Int) : Prop where
  line : ∀ p (h : p < C.length), ∃ k : Nat, f (p : Int) = (k : Int) ∧ ∃ hk : k < L.length, insQ L k L[k] = insAt f C[p].1 ∧ C[p].2 = (k : Int) + 1 ∧ (p + 1 < C.length → Leads C.length p C[p].1 → (∀ to, C[p].1 ≠ .jump to) → C[p].1 ≠ .back → C[p].1 ≠ .stop → nextFrom L (k + 1) = f ((p : Int) + 1))
theorem lift_on {f : Int → Int} {m : Mc} (h : ¬ (m.fin = 1 ∨ m.fin = 2)) : lift f m = { m with at' := f m.at', backs := m.backs.map f } := by unfold lift; rw [if_neg h]
theorem lift_off {f : Int → Int} {m : Mc} (h : m.fin = 1 ∨ m.fin = 2) : lift f m = { m with at' := -1, backs := m.backs.map f } := by unfold lift; rw [if_pos h]
/-- A step that goes on. -/
theorem lift_goes {f : Int → Int} {m1 : Mc} {z : Int} (h : m1.fin = 0) : lift f (m1.goes z) = { m1 with backs := m1.backs.map f }.goes (f z) := by
  rw [lift_on (by show ¬ (m1.fin = 1 ∨ m1.fin = 2); omega)]; rfl
theorem lift_exec {N : Nat} {f : Int → Int} {m : Mc} {i : Ins} {next : Int} (I : InvD N m) (hfin : m.fin = 0) (hnext : (∀ to, i ≠ .jump to) → i ≠ .back → i ≠ .stop → next = f (m.at' + 1)) :
    exec (insAt f i) next (lift f m) = lift f (execC i m) := by
  have hl : lift f m = { m with at' := f m.at', backs := m.backs.map f } := lift_on (by omega)
  have hf := I.frames
  rw [if_neg (by omega)] at hf
  rw [hl]
  cases i with
  | set r k =>
    rw [execC_on (.inl rfl) hfin, hnext (by simp) (by simp) (by simp), show exec (.set r k) (m.at' + 1) m = Mc.goes { m with regs := upd m.regs r k } (m.at' + 1) from rfl, lift_goes]
    · rfl
    · exact hfin
  | mov r s =>
    rw [execC_on (.inl rfl) hfin, hnext (by simp) (by simp) (by simp), show exec (.mov r s) (m.at' + 1) m = Mc.goes { m with regs := upd m.regs r (m.regs s) } (m.at' + 1) from rfl, lift_goes]
    · rfl
    · exact hfin
  | alu o r s t =>
    rw [execC_on (.inl rfl) hfin, hnext (by simp) (by simp) (by simp), show exec (.alu o r s t) (m.at' + 1) m = Mc.goes { m with regs := upd m.regs r (reckonS o (m.regs s) (m.regs t)) } (m.at' + 1) from rfl, lift_goes]
    · rfl
    · exact hfin
  | inc r k =>
    rw [execC_on (.inl rfl) hfin, hnext (by simp) (by simp) (by simp), show exec (.inc r k) (m.at' + 1) m = Mc.goes { m with regs := upd m.regs r (w64 (m.regs r + k)) } (m.at' + 1) from rfl, lift_goes]
    · rfl
    · exact hfin
  | read r =>
    rw [execC_on (.inl rfl) hfin, hnext (by simp) (by simp) (by simp), show exec (.read r) (m.at' + 1) m = Mc.goes { m with regs := upd m.regs r (m.inp.headD 0), inp := m.inp.tail } (m.at' + 1) from rfl, lift_goes]
    · rfl
    · exact hfin
  | write r =>
    rw [execC_on (.inl rfl) hfin, hnext (by simp) (by simp) (by simp), show exec (.write r) (m.at' + 1) m = Mc.goes { m with out := m.out ++ [m.regs r] } (m.at' + 1) from rfl, lift_goes]
    · rfl
    · exact hfin
  | load r s =>
    by_cases hn : m.regs s < 0 ∨ 15 < m.regs s
    · have e1 : exec (.load r s) (m.at' + 1) m = { m with fin := 3 } := if_pos hn
      rw [execC_on (.inr (by rw [e1]; show (2 : Int) < 3; decide)) hfin, e1, lift_on (by show ¬ ((3 : Int) = 1 ∨ (3 : Int) = 2); decide)]
      exact if_pos hn
    · have e1 : exec (.load r s) (m.at' + 1) m = { m with regs := upd m.regs r (m.cells (m.regs s).toNat) }.goes (m.at' + 1) := if_neg hn
      rw [execC_on (.inl (by rw [e1]; rfl)) hfin, e1, lift_goes, hnext (by simp) (by simp) (by simp)]
      exact if_neg hn
      exact hfin
  | store r s =>
    by_cases hn : m.regs r < 0 ∨ 15 < m.regs r
    · have e1 : exec (.store r s) (m.at' + 1) m = { m with fin := 3 } := if_pos hn
      rw [execC_on (.inr (by rw [e1]; show (2 : Int) < 3; decide)) hfin, e1, lift_on (by show ¬ ((3 : Int) = 1 ∨ (3 : Int) = 2); decide)]
      exact if_pos hn
    · have e1 : exec (.store r s) (m.at' + 1) m = { m with cells := upd m.cells (m.regs r).toNat (m.regs s) }.goes (m.at' + 1) := if_neg hn
      rw [execC_on (.inl (by rw [e1]; rfl)) hfin, e1, lift_goes, hnext (by simp) (by simp) (by simp)]
      exact if_neg hn
      exact hfin
  | jump to =>
    rw [execC_on (.inl rfl) hfin, show exec (.jump to) (m.at' + 1) m = Mc.goes m to from rfl, lift_goes]
    · rfl
    · exact hfin
  | less r s to =>
    rw [execC_on (.inl rfl) hfin, hnext (by simp) (by simp) (by simp), show exec (.less r s to) (m.at' + 1) m = m.goes (if m.regs r < m.regs s then to else m.at' + 1) from rfl, lift_goes, apply_ite f]
    rfl
    exact hfin
  | same r s to =>
    rw [execC_on (.inl rfl) hfin, hnext (by simp) (by simp) (by simp), show exec (.same r s to) (m.at' + 1) m = m.goes (if m.regs r = m.regs s then to else m.at' + 1) from rfl, lift_goes, apply_ite f]
    rfl
    exact hfin
  | call to =>
    by_cases h16 : m.frames = 16
    · have e1 : exec (.call to) (m.at' + 1) m = { m with fin := 4 } := if_pos h16
      rw [execC_on (.inr (by rw [e1]; show (2 : Int) < 4; decide)) hfin, e1, lift_on (by show ¬ ((4 : Int) = 1 ∨ (4 : Int) = 2); decide)]
      exact if_pos h16
    · have e1 : exec (.call to) (m.at' + 1) m = { m with backs := m.backs ++ [m.at' + 1], frames := m.frames + 1, peak := max m.peak (m.frames + 1) }.goes to := if_neg h16
      rw [execC_on (.inl (by rw [e1]; rfl)) hfin, e1, lift_goes, hnext (by simp) (by simp) (by simp)]
      refine (if_neg h16).trans ?_
      simp [Mc.goes]
      exact hfin
  | back =>
    by_cases h1 : m.frames = 1
    · have e0 : exec .back (m.at' + 1) m = { m with frames := 0, fin := 2 }.goes (-1) := if_pos h1
      have e1 : execC .back m = { m with steps := m.steps + 1, frames := 0, fin := 2 } := by
        unfold execC; rw [e0, if_pos (.inr rfl)]; rfl
      rw [e1, lift_off (.inr rfl)]
      exact if_pos h1
    · have e0 : exec .back (m.at' + 1) m = { m with frames := m.frames - 1, backs := m.backs.dropLast }.goes (m.backs.getLastD 0) := if_neg h1
      obtain ⟨J, x, hJ⟩ : ∃ I x, m.backs = I ++ [x] := by
        rcases List.eq_nil_or_concat m.backs with h | ⟨I, x, h⟩
        · rw [h] at hf; simp at hf; omega
        · exact ⟨I, x, by rw [h, List.concat_eq_append]⟩
      rw [execC_on (.inl (by rw [e0]; rfl)) hfin, e0, lift_goes]
      refine (if_neg h1).trans ?_
      simp [Mc.goes, hJ]
      exact hfin
  | stop =>
    have e1 : execC .stop m = { m with steps := m.steps + 1, fin := 1 } := by
      unfold execC; rw [show exec .stop (m.at' + 1) m = { m with fin := 1 }.goes (-1) from rfl, if_pos (.inl rfl)]; rfl
    rw [e1, lift_off (.inl rfl)]
    rfl
theorem sim_step {L : List Said} {C : List (Ins × Int)} {f : Int → Int} {m : Mc} (S : SimOk L C f) (K : CodeOk C) (I : InvD C.length m) (hfin : m.fin = 0) : stepL L (lift f m) = lift f (stepC C m) := by
  obtain ⟨p, hp, hlt⟩ := I.at_
  obtain ⟨k, hk, hkl, hq, _, hn⟩ := S.line p hlt
  have hl : (lift f m).at' = (k : Int) := by rw [lift_on (by omega)]; show f m.at' = _; rw [hp, hk]
  rw [stepC_at hp hlt]
  unfold stepL
  rw [hl, Int.toNat_natCast, List.getElem?_eq_getElem hkl]
  show exec (insQ L k L[k]) (nextFrom L (k + 1)) (lift f m) = _
  rw [hq]
  refine lift_exec I hfin (fun h1 h2 h3 => ?_)
  have hle := K.leads p hlt
  have hp1 : p + 1 < C.length := by
    revert hle h1 h2 h3
    generalize C[p].1 = i
    intro h1 h2 h3 hle
    cases i with
    | jump to => exact absurd rfl (h1 to)
    | back => exact absurd rfl h2
    | stop => exact absurd rfl h3
    | less r s to => exact hle.2
    | same r s to => exact hle.2
    | call to => exact hle.2
    | _ => exact hle
  rw [hn hp1 hle h1 h2 h3, hp]
theorem sim_run {L : List Said} {C : List (Ins × Int)} {f : Int → Int} (S : SimOk L C f) (K : CodeOk C) (n : Nat) : ∀ {m : Mc}, InvD C.length m → runS (stepL L) n (lift f m) = lift f (runS (stepC C) n m) ∧ InvD C.length (runS (stepC C) n m) := by
  induction n with
  | zero => intro m I; exact ⟨rfl, I⟩
  | succ n ih =>
    intro m I
    have hlf : (lift f m).fin = m.fin := rfl
    by_cases h : m.fin = 0
    · rw [runS_step _ _ _ h, runS_step _ _ _ (by rw [hlf]; exact h), sim_step S K I h]
      obtain ⟨p, hp, hlt⟩ := I.at_
      refine ih ?_
      rw [stepC_at hp hlt]
      exact I.step h hp (K.leads p hlt)
    · rw [runS_stop _ _ _ h, runS_stop _ _ _ (by rw [hlf]; exact h)]
      exact ⟨rfl, I⟩
theorem sim_line {L : List Said} {C : List (Ins × Int)} {f : Int → Int} {m : Mc} (S : SimOk L C f) (I : InvD C.length m) : (lift f m).line = lineC C m := by
  obtain ⟨p, hp, hlt⟩ := I.at_
  obtain ⟨k, hk, hkl, _, h2, _⟩ := S.line p hlt
  have hlf : (lift f m).fin = m.fin := rfl
  unfold Mc.line lineC
  rw [hlf]
  by_cases h : m.fin = 1 ∨ m.fin = 2
  · rw [if_pos h, if_pos h]
  · rw [if_neg h, if_neg h, lift_on h, hp, Int.toNat_natCast, List.getElem?_eq_getElem hlt]
    show f (p : Int) + 1 = C[p].2
    rw [hk, h2]
theorem sim_state {f : Int → Int} {m : Mc} (ov : Value) (l : Int) : stateL (lift f m) ov l = stateL m ov l := rfl

end Go.Proofs.YtfpgjkbjbbgciaaGreatDoor
