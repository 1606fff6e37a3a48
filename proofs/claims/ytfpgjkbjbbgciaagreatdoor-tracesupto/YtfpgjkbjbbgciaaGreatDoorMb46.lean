import Derived.Test.YtfpgjkbjbbgciaaGreatDoorMb45
import Derived.Test.YtfpgjkbjbbgciaaGreatDoorMb35
namespace Go.Proofs.YtfpgjkbjbbgciaaGreatDoor
open Sp
/- The code that is laid out for a program, and that it does what the lines say. Plain maths. -/

def codeBody (F : List FnM) (k : Nat) (l : List It) : List (Ins × Int) := l.map (fun i => (insM F k i, i.line))
def codeFrom (F : List FnM) : Nat → List FnM → List (Ins × Int)
  | _, [] => []
  | k, f :: r => codeBody F k (insOf f.its) ++ codeFrom F (k + 1) r
def codeOf (F : List FnM) : List (Ins × Int) := codeFrom F 0 F
theorem codeFrom_len (F : List FnM) (k : Nat) (R : List FnM) : (codeFrom F k R).length = lenF R := by
  induction R generalizing k with
  | nil => rfl
  | cons f R ih => rw [lenF_cons, codeFrom, List.length_append, ih]; simp [codeBody]
theorem codeOf_len (F : List FnM) : (codeOf F).length = lenF F := codeFrom_len F 0 F
theorem code_put (F : List FnM) (n : Nat) (R : List FnM) (k : Nat) (f : FnM) (hk : R[k]? = some f) (m : Nat) (it : It) (hm : (insOf f.its)[m]? = some it) :
    (codeFrom F n R)[lenF (R.take k) + m]? = some (insM F (n + k) it, it.line) := by
  induction R generalizing n k with
  | nil => simp at hk
  | cons g R ih =>
    have hl : (codeBody F n (insOf g.its)).length = (insOf g.its).length := by simp [codeBody]
    cases k with
    | zero =>
      have e : g = f := by simpa using hk
      subst e
      have hlt : m < (insOf g.its).length := (List.getElem?_eq_some_iff.1 hm).1
      rw [codeFrom, List.take_zero, show lenF [] + m = m by simp [lenF], List.getElem?_append_left (by omega)]
      unfold codeBody
      rw [List.getElem?_map, hm]
      rfl
    | succ k =>
      rw [List.getElem?_cons_succ] at hk
      rw [codeFrom, List.take_succ_cons, lenF_cons, List.getElem?_append_right (by omega), hl]
      rw [show (insOf g.its).length + lenF (R.take k) + m - (insOf g.its).length = lenF (R.take k) + m by omega, ih (n + 1) k hk]
      rw [show n + 1 + k = n + (k + 1) by omega]
theorem code_at (R : List FnM) (p : Nat) (hp : p < lenF R) : ∃ k f m it, R[k]? = some f ∧ (insOf f.its)[m]? = some it ∧ p = lenF (R.take k) + m := by
  induction R generalizing p with
  | nil => simp [lenF] at hp
  | cons g R ih =>
    rw [lenF_cons] at hp
    by_cases h : p < (insOf g.its).length
    · exact ⟨0, g, p, (insOf g.its)[p], rfl, List.getElem?_eq_getElem h, by simp [lenF]⟩
    · obtain ⟨k, f, m, it, a, b, c⟩ := ih (p - (insOf g.its).length) (by omega)
      exact ⟨k + 1, f, m, it, by rw [List.getElem?_cons_succ]; exact a, b, by rw [List.take_succ_cons, lenF_cons]; omega⟩

/-- A program that has been read: its lines and what is kept of it. -/
structure Right (L : List Said) (F : List FnM) : Prop where
  good : Good L
  first : bodyFrom L 0 = []
  fns : F.map FnM.fn = fnsFrom L 0
  some_ : 0 < F.length
/-- The line of an instruction, by its place. -/
def lineF (C : List (Ins × Int)) (z : Int) : Int := (C[z.toNat]?.map (·.2)).getD 0 - 1
theorem lineF_at {C : List (Ins × Int)} {p : Nat} {q : Ins × Int} (h : C[p]? = some q) : lineF C (p : Int) = q.2 - 1 := by
  unfold lineF; rw [Int.toNat_natCast, h]; rfl
theorem owner_in (L : List Said) (o d : Nat) (ho : o < L.length) (h1 : L[o].kind = 102) (hd : o + d < L.length) (hno : NoFn L (o + 1) (o + d)) : owner L (o + d) = (o : Int) := by
  induction d with
  | zero => exact owner_is L o ho h1
  | succ d ih =>
    rw [show o + (d + 1) = o + d + 1 by omega, owner_succ L (o + d) hd (hno _ hd (by omega) (Nat.le_refl _))]
    exact ih (by omega) (fun m hm a b => hno m hm a (by omega))
theorem labOf_in (L : List Said) {o j : Nat} (ho : o < L.length) (h1 : L[o].kind = 102) (hoj : o ≤ j) (hj : j < L.length) (hno : NoFn L (o + 1) j) (x : ByteArray) : labOf L j x = labFrom L x (o + 1) := by
  obtain ⟨d, rfl⟩ := Nat.exists_eq_add_of_le hoj
  unfold labOf
  rw [owner_in L o d ho h1 hj hno]
  congr 1

theorem not_ends {i : Ins} (h : Ends i) (h1 : ∀ to, i ≠ .jump to) (h2 : i ≠ .back) (h3 : i ≠ .stop) : False := by
  cases i <;> first | exact absurd rfl (h1 _) | exact h2 rfl | exact h3 rfl | exact h

namespace Right
variable {L : List Said} {F : List FnM}
theorem wf (R : Right L F) : WfAll L := fun q hq => by
  obtain ⟨k, hk, rfl⟩ := List.mem_iff_getElem.1 hq
  exact R.good.wf k hk
/-- A function of the program: the line at which it begins. -/
theorem fn_at (R : Right L F) {k : Nat} {f : FnM} (hk : F[k]? = some f) : ∃ o, ∃ ho : o < L.length, L[o].kind = 102 ∧ f.line = (o : Int) + 1 ∧ f.its.map It.key = bodyFrom L (o + 1) ∧ cnt L (o + 1) = lenF (F.take k) := by
  obtain ⟨o, ho, _, b, c, d, e⟩ := fns_at L R.wf 0 [] (by rw [R.first]; rfl) F R.fns k f hk
  refine ⟨o, ho, b, c, d, ?_⟩
  rw [cnt_no L o ho (by omega), e]; simp [cnt, insOf]
/-- An instruction line of a function: what stands at its place. -/
theorem place (R : Right L F) {k o : Nat} {f : FnM} (hk : F[k]? = some f) (hb : f.its.map It.key = bodyFrom L (o + 1)) (hc : cnt L (o + 1) = lenF (F.take k)) {j : Nat} (hj : j < L.length) (hoj : o + 1 ≤ j) (h5 : L[j].kind = 105) (hno : NoFn L (o + 1) j) :
    ∃ it, (codeOf F)[cnt L j]? = some (insM F k it, it.line) ∧ it.key = keyQ L[j] ((j : Int) + 1) := by
  obtain ⟨it, a, b⟩ := body_line L R.wf (o + 1) f.its hb j hj hoj h5 hno
  refine ⟨it, ?_, b⟩
  have := code_put F 0 F k f hk _ it a
  rw [← hc, Nat.zero_add] at this
  have hle := cnt_le L hoj
  rw [show cnt L (o + 1) + (cnt L j - cnt L (o + 1)) = cnt L j by omega] at this
  exact this
/-- The next instruction of a function: its place and its line. -/
theorem next (R : Right L F) {k o : Nat} {f : FnM} (hk : F[k]? = some f) (hb : f.its.map It.key = bodyFrom L (o + 1)) (hc : cnt L (o + 1) = lenF (F.take k)) {i : Nat} (hoi : o + 1 ≤ i) (hno : NoFn L (o + 1) (i - 1)) (hn : ValidAt L (nextFrom L i)) :
    cnt L i < (codeOf F).length ∧ lineF (codeOf F) (cnt L i : Int) = nextFrom L i := by
  obtain ⟨j, hn, _, _⟩ := hn
  obtain ⟨hj, hij, h5, hcj, hnf⟩ := next_cnt L i j hn
  obtain ⟨it, ha, hkey⟩ := R.place hk hb hc hj (by omega) h5 (hno.trans hnf (by omega))
  rw [hcj] at ha
  refine ⟨(List.getElem?_eq_some_iff.1 ha).1, ?_⟩
  rw [lineF_at ha, hn]
  have : it.line = (j : Int) + 1 := congrArg Key.line hkey
  show it.line - 1 = _
  omega
/-- Where a label leads to. -/
theorem label (R : Right L F) {k o : Nat} {f : FnM} (hk : F[k]? = some f) (hb : f.its.map It.key = bodyFrom L (o + 1)) (hc : cnt L (o + 1) = lenF (F.take k)) {x : ByteArray} (hx : 0 ≤ labFrom L x (o + 1)) :
    ∃ p : Nat, findE (labsAt f.its) x = some p ∧ labM F k x = ((lenF (F.take k) + p : Nat) : Int) ∧ lenF (F.take k) + p < (codeOf F).length ∧ lineF (codeOf F) (labM F k x) = nextFrom L (labFrom L x (o + 1)).toNat := by
  obtain ⟨j, hj0⟩ := Int.eq_ofNat_of_zero_le hx
  obtain ⟨a, hj, hoj, h8, hno⟩ := body_lab L R.wf x (o + 1) f.its hb 0 j hj0
  rw [Nat.zero_add] at a
  have hle := cnt_le L hoj
  have hl : labM F k x = ((lenF (F.take k) + (cnt L j - cnt L (o + 1)) : Nat) : Int) := by
    unfold labM
    rw [hk]
    show (lenF (F.take k) : Int) + (((findE (labsAt f.its) x).getD 0 : Nat) : Int) = _
    rw [a]; simp
  have hp : lenF (F.take k) + (cnt L j - cnt L (o + 1)) = cnt L j := by omega
  obtain ⟨q1, q2⟩ := R.next hk hb hc hoj (fun m hm a b => hno m hm a (by omega)) (R.good.lab j hj h8)
  refine ⟨_, a, hl, by rw [hp]; exact q1, ?_⟩
  rw [hl, hp, q2, hj0]
  rfl
/-- Where a call leads to. -/
theorem function (R : Right L F) {x : ByteArray} (hx : 0 ≤ fnFrom L x 0) :
    ∃ k, ∃ _ : k < F.length, findE (placesAt F) x = some k ∧ fnM F x = (lenF (F.take k) : Int) ∧ lenF (F.take k) < (codeOf F).length ∧ lineF (codeOf F) (fnM F x) = fnTo L x := by
  obtain ⟨o, ho0⟩ := Int.eq_ofNat_of_zero_le hx
  obtain ⟨k, f, hk, hfind, hline⟩ := fns_name L x 0 F R.fns 0 o ho0
  rw [Nat.zero_add] at hfind
  obtain ⟨o', ho, h1, hl', hb, hc⟩ := R.fn_at hk
  have e : o' = o := by omega
  subst e
  have hm : fnM F x = (lenF (F.take k) : Int) := by unfold fnM; rw [hfind]; rfl
  obtain ⟨q1, q2⟩ := R.next hk hb hc (Nat.le_refl _) (fun m hm a b => by omega) (R.good.fn o' ho h1)
  refine ⟨k, (List.getElem?_eq_some_iff.1 hk).1, hfind, hm, by rw [← hc]; exact q1, ?_⟩
  rw [hm, ← hc, q2]
  unfold fnTo
  rw [ho0]
  congr 1
/-- What an instruction asks for is there. -/
theorem asks_l (R : Right L F) {j : Nat} (hj : j < L.length) (h5 : L[j].kind = 105) (ha : asksLab (L[j].word 0) = true) : 0 ≤ labOf L j L[j].last := by
  have := R.good.miss j hj
  unfold missingB at this
  rw [List.getElem?_eq_getElem hj] at this
  simp only [h5, if_true, ha] at this
  simpa using this
theorem asks_f (R : Right L F) {j : Nat} (hj : j < L.length) (h5 : L[j].kind = 105) (ha : asksFn (L[j].word 0) = true) : 0 ≤ fnFrom L L[j].last 0 := by
  have := R.good.miss j hj
  have hl : asksLab (L[j].word 0) = false := by
    cases h : asksLab (L[j].word 0) with
    | false => rfl
    | true => rw [asks_both _ h] at ha; cases ha
  unfold missingB at this
  rw [List.getElem?_eq_getElem hj] at this
  simp only [h5, if_true, ha, hl] at this
  simpa using this
/-- A statement of the program: its line. -/
theorem it_at (R : Right L F) {k m : Nat} {f : FnM} {it : It} (hk : F[k]? = some f) (hm : (insOf f.its)[m]? = some it) :
    ∃ j, ∃ hj : j < L.length, L[j].kind = 105 ∧ it.key = keyQ L[j] ((j : Int) + 1) ∧ lenF (F.take k) + m = cnt L j ∧
      (asksLab (L[j].word 0) = true → ∃ p : Nat, findE (labsAt f.its) L[j].last = some p ∧ labM F k L[j].last = ((lenF (F.take k) + p : Nat) : Int) ∧ lenF (F.take k) + p < (codeOf F).length ∧ lineF (codeOf F) (labM F k L[j].last) = labTo L j L[j].last) ∧
      (asksFn (L[j].word 0) = true → ∃ k2, ∃ _ : k2 < F.length, findE (placesAt F) L[j].last = some k2 ∧ fnM F L[j].last = (lenF (F.take k2) : Int) ∧ lenF (F.take k2) < (codeOf F).length ∧ lineF (codeOf F) (fnM F L[j].last) = fnTo L L[j].last) ∧
      (ends (L[j].word 0) = false → cnt L j + 1 < (codeOf F).length ∧ lineF (codeOf F) ((cnt L j + 1 : Nat) : Int) = nextFrom L (j + 1)) := by
  obtain ⟨o, ho, h1, _, hb, hc⟩ := R.fn_at hk
  obtain ⟨j, hj, hoj, h5, hkey, hcj, hno⟩ := body_ins L R.wf (o + 1) f.its hb m it hm
  refine ⟨j, hj, h5, hkey, by omega, fun ha => ?_, fun ha => R.function (R.asks_f hj h5 ha), fun he => ?_⟩
  · have h0 := R.asks_l hj h5 ha
    have e := labOf_in L ho h1 (by omega) hj hno L[j].last
    rw [e] at h0
    obtain ⟨p, a, b, c, d⟩ := R.label hk hb hc h0
    exact ⟨p, a, b, c, by rw [d]; unfold labTo; rw [e]⟩
  · have hv := R.good.next j hj h5 he
    obtain ⟨q1, q2⟩ := R.next hk hb hc (show o + 1 ≤ j + 1 by omega) (by simpa using hno) hv
    rw [cnt_ins L j hj h5] at q1 q2
    exact ⟨q1, q2⟩
theorem at_ (R : Right L F) {p : Nat} (hp : p < (codeOf F).length) :
    ∃ k it j, ∃ hj : j < L.length, (codeOf F)[p]? = some (insM F k it, it.line) ∧ it.line = (j : Int) + 1 ∧ insQ L j L[j] = insAt (lineF (codeOf F)) (insM F k it) ∧ InsOk (insM F k it) ∧ Goes (codeOf F).length (insM F k it) ∧
      (Ends (insM F k it) ∨ (p + 1 < (codeOf F).length ∧ nextFrom L (j + 1) = lineF (codeOf F) ((p : Int) + 1))) := by
  rw [codeOf_len] at hp
  obtain ⟨k, f, m, it, hk, hm, e⟩ := code_at F p hp
  have hput := code_put F 0 F k f hk m it hm
  rw [Nat.zero_add, ← e] at hput
  obtain ⟨j, hj, h5, hkey, hpl, hlab, hfn, hnx⟩ := R.it_at hk hm
  obtain ⟨q1, q2, q3, q4⟩ := ins_form L[j] h5 (R.good.form j hj h5) it _ hkey F k L j (codeOf F).length (lineF (codeOf F))
    (fun ha => by obtain ⟨p', _, b, c, d⟩ := hlab ha; exact ⟨d, _, b, c⟩) (fun ha => by obtain ⟨k2, _, _, b, c, d⟩ := hfn ha; exact ⟨d, _, b, c⟩)
  refine ⟨k, it, j, hj, hput, congrArg Key.line hkey, q1, q2, q3, ?_⟩
  rcases q4 with q4 | q4
  · obtain ⟨a, b⟩ := hnx q4
    have hp' : p = cnt L j := by omega
    exact .inr ⟨by omega, by rw [← b, hp']; rfl⟩
  · exact .inl q4
theorem sim (R : Right L F) : SimOk L (codeOf F) (lineF (codeOf F)) := ⟨fun p hp => by
  obtain ⟨k, it, j, hj, hput, hl, hq, _, _, hn⟩ := R.at_ hp
  have e : (codeOf F)[p] = (insM F k it, it.line) := (List.getElem?_eq_some_iff.1 hput).2
  refine ⟨j, by rw [lineF_at hput]; show it.line - 1 = _; omega, hj, by rw [e]; exact hq, by rw [e]; exact hl, ?_⟩
  rw [e]
  intro _ _ h1 h2 h3
  rcases hn with hn | hn
  · exact (not_ends hn h1 h2 h3).elim
  · exact hn.2⟩
theorem codeOk (R : Right L F) : CodeOk (codeOf F) := by
  refine ⟨?_, ?_, fun p hp => ?_, fun p hp => ?_⟩
  · obtain ⟨f, hf⟩ : ∃ f, F[0]? = some f := ⟨F[0]'R.some_, List.getElem?_eq_getElem R.some_⟩
    obtain ⟨o, ho, h1, _, hb, hc⟩ := R.fn_at hf
    exact Nat.lt_of_le_of_lt (Nat.zero_le _) (R.next hf hb hc (Nat.le_refl _) (fun m hm a b => by omega) (R.good.fn o ho h1)).1
  · by_cases h : 0 < (codeOf F).length
    · obtain ⟨k, f, m, it, hk, hm, e⟩ := code_at F ((codeOf F).length - 1) (by rw [← codeOf_len]; omega)
      obtain ⟨j, hj, _, _, hpl, _⟩ := R.it_at hk hm
      have := cnt_few L j
      have := R.good.few
      omega
    · omega
  · obtain ⟨k, it, j, hj, hput, hl, hq, h4, _⟩ := R.at_ hp
    have e : (codeOf F)[p] = (insM F k it, it.line) := (List.getElem?_eq_some_iff.1 hput).2
    rw [e]; exact h4
  · obtain ⟨k, it, j, hj, hput, hl, hq, h4, h5, hn⟩ := R.at_ hp
    have e : (codeOf F)[p] = (insM F k it, it.line) := (List.getElem?_eq_some_iff.1 hput).2
    rw [e]
    show Leads _ _ (insM F k it)
    revert hn h5
    generalize insM F k it = i
    intro h5 hn
    cases i <;> first | trivial | exact h5 | (rcases hn with hn | hn; exact False.elim hn; first | exact hn.1 | exact ⟨h5, hn.1⟩)
end Right
theorem first_fn (L : List Said) (i : Nat) (f : Fn) (r : List Fn) (h : fnsFrom L i = f :: r) : f.line = (firstFn L i : Int) + 1 := by
  by_cases hi : i < L.length
  · by_cases h1 : L[i].kind = 102
    · rw [fnsFrom_f L i hi h1] at h
      rw [firstFn, dif_pos hi, if_pos h1]
      injection h with h _
      rw [← h]
    · rw [fnsFrom_on L i hi h1] at h
      rw [firstFn, dif_pos hi, if_neg h1]
      exact first_fn L (i + 1) f r h
  · rw [fnsFrom_end L i hi] at h; cases h
termination_by L.length - i
/-- Both machines begin at the same line. -/
theorem Right.begin {L : List Said} {F : List FnM} (R : Right L F) (inp : List Int) : beginL L inp = lift (lineF (codeOf F)) (beginC inp) := by
  obtain ⟨f, hf⟩ : ∃ f, F[0]? = some f := ⟨F[0]'R.some_, List.getElem?_eq_getElem R.some_⟩
  obtain ⟨o, ho, h1, hl, hb, hc⟩ := R.fn_at hf
  obtain ⟨q1, q2⟩ := R.next hf hb hc (Nat.le_refl _) (fun m hm a b => by omega) (R.good.fn o ho h1)
  have hfn := R.fns
  cases F with
  | nil => simp at hf
  | cons g r =>
    have e : g = f := by simpa using hf
    subst e
    have h2 := first_fn L 0 g.fn (r.map FnM.fn) (by rw [← hfn]; rfl)
    have h3 : firstFn L 0 = o := by
      have : g.fn.line = g.line := rfl
      omega
    rw [hc] at q2
    unfold beginL
    rw [h3, ← q2]
    rfl

end Go.Proofs.YtfpgjkbjbbgciaaGreatDoor

namespace Go.Proofs.YtfpgjkbjbbgciaaGreatDoor
open Go.RowKit Sp Go.WideMaps Go.Maps

/-- What a map tells of a name that is there. -/
theorem MapIs.look {w : World} {b : Nat} {E : List (ByteArray × Nat)} (h : MapIs w b E) (x : ByteArray) (hx : x.size ≤ 1048576) (p : Nat) (hp : findE E x = some p) : (Instr.lookup 81 (.map (some b)) (.string x) false).run Tryz.prog w = .ok (.int .i64 (p : Int)) w := by
  obtain ⟨D, hown, hD, hhas, hat0, hpw⟩ := h
  obtain ⟨c, hrun, hat, _⟩ := hown.lookup_int lawS Tryz.under81 Tryz.underlying3 (zero3 _) (keyS x (by unfold maxLen; omega))
  rw [hat0 x p _ hp] at hat
  simp at hat
  rw [hrun, hat]
theorem MapIs.drewN {w : World} {b : Nat} {E : List (ByteArray × Nat)} (h : MapIs w b E) (n : Nat) : MapIs (w.drewN n) b E := h
set_option maxRecDepth 100000 in
set_option maxHeartbeats 4000000 in
theorem cfunction_any (w : World) (pm bg k : Nat) (v : Value) (F : List FnM) (cap : Nat) (x : ByteArray) (hM : MapIs w pm (placesAt F)) (hx : x.size ≤ 1048576) (hk : findE (placesAt F) x = some k) (hkl : k < F.length) (_hn : F.length ≤ 300) (hc : w.cell? ⟨bg, k, none⟩ = some (.int .i64 (lenF (F.take k) : Int))) (bo cv : Nat) (hv : v = .slice (some ⟨bo, 0, none⟩) F.length cv) :
    Calls Tryz.prog 109 #[.agg #[v, .map (some pm), .slice (some ⟨bg, 0, none⟩) F.length cap], .string x] w fun e w' => e = .returned (.int .i64 (lenF (F.take k) : Int)) ∧ Below w.heap.size w w' := by
  subst hv
  have hl := (hM.alloc (.cells #[.slice (some ⟨bo, 0, none⟩) F.length cv, .map (some pm), .slice (some ⟨bg, 0, none⟩) F.length cap] 128)).look x hx k hk
  have hlt : bg < w.heap.size := World.block_lt_of_cell? w _ hc
  have hk0 : (0 : Int) ≤ (k : Int) := by omega
  have hk1 : (k : Int) < (F.length : Int) := by omega
  have hne4 : ¬ w.heap.size = bg := by omega
  have hne5 : ¬ bg = w.heap.size := by omega
  go_enter Tryz.func109, Tryz.ntmps109
  go_wp2
  go_ret
  exact ⟨rfl, (Below.refl _ _).alloc (Nat.le_refl _) _⟩
set_option maxRecDepth 100000 in
set_option maxHeartbeats 4000000 in
theorem clabel_any (w : World) (pm bg k j p bo cv cap : Nat) (F : List FnM) (x : ByteArray) (m : Nat) (E : List (ByteArray × Nat)) (hM : MapIs w m E) (hx : x.size ≤ 1048576) (hp : findE E x = some p) (hp1 : p ≤ 300) (hkl : k < F.length) (hn : F.length ≤ 300) (hj : j ≤ 300) (hc : w.cell? ⟨bg, k, none⟩ = some (.int .i64 (j : Int))) (hm : w.cell? ⟨bo, k * 4 + 3, none⟩ = some (.map (some m))) :
    Calls Tryz.prog 108 #[.agg #[.slice (some ⟨bo, 0, none⟩) F.length cv, .map (some pm), .slice (some ⟨bg, 0, none⟩) F.length cap], .string x, .int .i64 (k : Int)] w fun e w' => e = .returned (.int .i64 ((j : Int) + (p : Int))) ∧ Below w.heap.size w w' := by
  have hl := fun n => ((hM.alloc (.cells #[.slice (some ⟨bo, 0, none⟩) F.length cv, .map (some pm), .slice (some ⟨bg, 0, none⟩) F.length cap] 128)).drewN n).look x hx p hp
  have hlt : bg < w.heap.size := World.block_lt_of_cell? w _ hc
  have hlt2 : bo < w.heap.size := World.block_lt_of_cell? w _ hm
  have hk0 : (0 : Int) ≤ (k : Int) := by omega
  have hk1 : (k : Int) < (F.length : Int) := by omega
  have hne4 : ¬ w.heap.size = bg := by omega
  have hne5 : ¬ bg = w.heap.size := by omega
  have hne6 : ¬ w.heap.size = bo := by omega
  have hne7 : ¬ bo = w.heap.size := by omega
  have hk4 : k * 4 ≤ 1200 := by omega
  go_enter Tryz.func108, Tryz.ntmps108
  go_wp2_with fail
  go_quiet (fail)
  go_wp2
  go_ret
  exact ⟨rfl, ((Below.refl _ _).alloc (Nat.le_refl _) _).trans ((below_drewN _ nq).mono (by simp))⟩

end Go.Proofs.YtfpgjkbjbbgciaaGreatDoor
