import Derived.Test.YtfpgjkbjbbgciaaGreatDoorMb46
import Derived.Test.YtfpgjkbjbbgciaaGreatDoorMb47
namespace Go.Proofs.YtfpgjkbjbbgciaaGreatDoor
open Go.RowKit Sp

/-- What the places read of the memory. -/
structure PlIn (W : World) (F : List FnM) (bo pm bg : Nat) : Prop where
  maps : ∀ f ∈ F, MapIs W f.m (labsAt f.its)
  places : MapIs W pm (placesAt F)
  begs : ∀ k, k < F.length → W.cell? ⟨bg, k, none⟩ = some (.int .i64 (lenF (F.take k) : Int))
  labs : ∀ k (h : k < F.length), W.cell? ⟨bo, k * 4 + 3, none⟩ = some (.map (some F[k].m))
theorem PlIn.below {W W' : World} {F : List FnM} {bo pm bg B : Nat} (h : PlIn W F bo pm bg) (hb : Below B W W') (hB : W.heap.size ≤ B) : PlIn W' F bo pm bg :=
  ⟨fun f hf => (h.maps f hf).below hb (Nat.lt_of_lt_of_le (h.maps f hf).lt hB), h.places.below hb (Nat.lt_of_lt_of_le h.places.lt hB),
   fun k hk => (hb.cell (p := ⟨bg, k, none⟩) (Nat.lt_of_lt_of_le (World.block_lt_of_cell? W _ (h.begs k hk)) hB)).trans (h.begs k hk),
   fun k hk => (hb.cell (p := ⟨bo, k * 4 + 3, none⟩) (Nat.lt_of_lt_of_le (World.block_lt_of_cell? W _ (h.labs k hk)) hB)).trans (h.labs k hk)⟩
theorem lenF_take_le (F : List FnM) (k : Nat) : lenF (F.take k) ≤ lenF F := by
  unfold lenF
  conv => rhs; rw [← List.take_append_drop k F, List.map_append, List.sum_append]
  omega
theorem regVal_pos (x : ByteArray) : ((regVal x).toNat : Int) = regVal x := by
  unfold regVal
  split
  · omega
  · rfl
abbrev placesV (bo cv pm bg cap n : Nat) : Value := .agg #[.slice (some ⟨bo, 0, none⟩) n cv, .map (some pm), .slice (some ⟨bg, 0, none⟩) n cap]
/-- A statement of the program, as an instruction. -/
theorem cplace_any {L : List Said} {F : List FnM} (R : Right L F) (w : World) {bo pm bg : Nat} (cv cap : Nat) (M : PlIn w F bo pm bg) (hn : F.length ≤ 300) {k m : Nat} {f : FnM} {it : It} (hk : F[k]? = some f) (hm : (insOf f.its)[m]? = some it) (hsz : it.nm.size ≤ 1048576) :
    Calls Tryz.prog 81 #[placesV bo cv pm bg cap F.length, stm it.sort it.line it.word it.a it.b it.c it.n it.nm, .int .i64 (k : Int)] w fun e w' => e = .returned (.iface (insT (insM F k it)) (.agg (insA (insM F k it)))) ∧ Below w.heap.size w w' := by
  have hkl : k < F.length := (List.getElem?_eq_some_iff.1 hk).1
  have hfk : F[k] = f := (List.getElem?_eq_some_iff.1 hk).2
  obtain ⟨j, hj, h5, hkey, _, hlab, hfn, _⟩ := R.it_at hk hm
  have Fm := R.good.form j hj h5
  have hfew := R.codeOk.few
  have ew : it.word = wordK L[j] := congrArg Key.word hkey
  have ea : it.a = (opQ L[j]).a := congrArg Key.a hkey
  have eb : it.b = (opQ L[j]).b := congrArg Key.b hkey
  have ec : it.c = (opQ L[j]).c := congrArg Key.c hkey
  have em : it.nm = nameQ L[j] := congrArg Key.nm hkey
  have hl : asksLab (L[j].word 0) = true → it.nm = L[j].last → ∀ W, Below w.heap.size w W → Calls Tryz.prog 108 #[placesV bo cv pm bg cap F.length, .string it.nm, .int .i64 (k : Int)] W fun e w' => e = .returned (.int .i64 (labM F k it.nm)) ∧ Below W.heap.size W w' := by
    intro ha he W hW
    obtain ⟨p, hp, hp1, hp2, _⟩ := hlab ha
    rw [← he] at hp hp1
    have M' := M.below hW (Nat.le_refl _)
    have hmm := M'.labs k hkl
    rw [hfk] at hmm
    have := clabel_any W pm bg k (lenF (F.take k)) p bo cv cap F it.nm f.m (labsAt f.its) (M'.maps f (List.mem_of_getElem? hk)) hsz hp (by omega) hkl hn (by omega) (M'.begs k hkl) hmm
    rw [hp1]
    refine this.mono ?_
    rintro e w' ⟨rfl, hb⟩
    exact ⟨by simp, hb⟩
  have hf : asksFn (L[j].word 0) = true → it.nm = L[j].last → ∀ W, Below w.heap.size w W → Calls Tryz.prog 109 #[placesV bo cv pm bg cap F.length, .string it.nm] W fun e w' => e = .returned (.int .i64 (fnM F it.nm)) ∧ Below W.heap.size W w' := by
    intro ha he W hW
    obtain ⟨k2, hk2, hp, hp1, hp2, _⟩ := hfn ha
    rw [← he] at hp hp1
    have M' := M.below hW (Nat.le_refl _)
    rw [hp1]
    exact cfunction_any W pm bg k2 _ F cap it.nm M'.places hsz hp hk2 hn (M'.begs k2 hk2) bo cv rfl
  clear hlab hfn hkey
  generalize L[j] = q at h5 Fm ew ea eb ec em hl hf
  obtain ⟨kd, kp, ok⟩ := q
  simp only at h5 Fm
  subst h5
  unfold insM
  cases Fm with
  | set_ x1 x2 =>
    have e0 : it.word = ⟨#[115, 101, 116]⟩ := ew
    rw [opQ_set] at ea eb ec
    have na : (it.a.toNat : Int) = it.a := by rw [ea]; exact regVal_pos _
    rw [e0, insX_set]
    refine (cins_set w (some ⟨bo, 0, none⟩) (some ⟨bg, 0, none⟩) F.length cv F.length cap pm it.sort it.line it.a it.b it.c it.n (k : Int) it.nm).mono ?_
    rintro e w' ⟨rfl, hb⟩
    exact ⟨by simp [insT, insA, na], hb⟩
  | inc_ x1 x2 =>
    have e0 : it.word = ⟨#[105, 110, 99]⟩ := ew
    rw [opQ_inc] at ea eb ec
    have na : (it.a.toNat : Int) = it.a := by rw [ea]; exact regVal_pos _
    rw [e0, insX_inc]
    refine (cins_inc w (some ⟨bo, 0, none⟩) (some ⟨bg, 0, none⟩) F.length cv F.length cap pm it.sort it.line it.a it.b it.c it.n (k : Int) it.nm).mono ?_
    rintro e w' ⟨rfl, hb⟩
    exact ⟨by simp [insT, insA, na], hb⟩
  | mov_ x1 x2 =>
    have e0 : it.word = ⟨#[109, 111, 118]⟩ := ew
    rw [opQ_mov] at ea eb ec
    have na : (it.a.toNat : Int) = it.a := by rw [ea]; exact regVal_pos _
    have nb : (it.b.toNat : Int) = it.b := by rw [eb]; exact regVal_pos _
    rw [e0, insX_mov]
    refine (cins_mov w (some ⟨bo, 0, none⟩) (some ⟨bg, 0, none⟩) F.length cv F.length cap pm it.sort it.line it.a it.b it.c it.n (k : Int) it.nm).mono ?_
    rintro e w' ⟨rfl, hb⟩
    exact ⟨by simp [insT, insA, na, nb], hb⟩
  | load_ x1 x2 =>
    have e0 : it.word = ⟨#[108, 111, 97, 100]⟩ := ew
    rw [opQ_load] at ea eb ec
    have na : (it.a.toNat : Int) = it.a := by rw [ea]; exact regVal_pos _
    have nb : (it.b.toNat : Int) = it.b := by rw [eb]; exact regVal_pos _
    rw [e0, insX_load]
    refine (cins_load w (some ⟨bo, 0, none⟩) (some ⟨bg, 0, none⟩) F.length cv F.length cap pm it.sort it.line it.a it.b it.c it.n (k : Int) it.nm).mono ?_
    rintro e w' ⟨rfl, hb⟩
    exact ⟨by simp [insT, insA, na, nb], hb⟩
  | store_ x1 x2 =>
    have e0 : it.word = ⟨#[115, 116, 111, 114, 101]⟩ := ew
    rw [opQ_store] at ea eb ec
    have na : (it.a.toNat : Int) = it.a := by rw [ea]; exact regVal_pos _
    have nb : (it.b.toNat : Int) = it.b := by rw [eb]; exact regVal_pos _
    rw [e0, insX_store]
    refine (cins_store w (some ⟨bo, 0, none⟩) (some ⟨bg, 0, none⟩) F.length cv F.length cap pm it.sort it.line it.a it.b it.c it.n (k : Int) it.nm).mono ?_
    rintro e w' ⟨rfl, hb⟩
    exact ⟨by simp [insT, insA, na, nb], hb⟩
  | add_ x1 x2 x3 =>
    have e0 : it.word = ⟨#[97, 100, 100]⟩ := ew
    rw [opQ_add] at ea eb ec
    have na : (it.a.toNat : Int) = it.a := by rw [ea]; exact regVal_pos _
    have nb : (it.b.toNat : Int) = it.b := by rw [eb]; exact regVal_pos _
    have nc : (it.c.toNat : Int) = it.c := by rw [ec]; exact regVal_pos _
    rw [e0, insX_add]
    refine (cins_add w (some ⟨bo, 0, none⟩) (some ⟨bg, 0, none⟩) F.length cv F.length cap pm it.sort it.line it.a it.b it.c it.n (k : Int) it.nm).mono ?_
    rintro e w' ⟨rfl, hb⟩
    exact ⟨by simp [insT, insA, na, nb, nc], hb⟩
  | sub_ x1 x2 x3 =>
    have e0 : it.word = ⟨#[115, 117, 98]⟩ := ew
    rw [opQ_sub] at ea eb ec
    have na : (it.a.toNat : Int) = it.a := by rw [ea]; exact regVal_pos _
    have nb : (it.b.toNat : Int) = it.b := by rw [eb]; exact regVal_pos _
    have nc : (it.c.toNat : Int) = it.c := by rw [ec]; exact regVal_pos _
    rw [e0, insX_sub]
    refine (cins_sub w (some ⟨bo, 0, none⟩) (some ⟨bg, 0, none⟩) F.length cv F.length cap pm it.sort it.line it.a it.b it.c it.n (k : Int) it.nm).mono ?_
    rintro e w' ⟨rfl, hb⟩
    exact ⟨by simp [insT, insA, na, nb, nc], hb⟩
  | mul_ x1 x2 x3 =>
    have e0 : it.word = ⟨#[109, 117, 108]⟩ := ew
    rw [opQ_mul] at ea eb ec
    have na : (it.a.toNat : Int) = it.a := by rw [ea]; exact regVal_pos _
    have nb : (it.b.toNat : Int) = it.b := by rw [eb]; exact regVal_pos _
    have nc : (it.c.toNat : Int) = it.c := by rw [ec]; exact regVal_pos _
    rw [e0, insX_mul]
    refine (cins_mul w (some ⟨bo, 0, none⟩) (some ⟨bg, 0, none⟩) F.length cv F.length cap pm it.sort it.line it.a it.b it.c it.n (k : Int) it.nm).mono ?_
    rintro e w' ⟨rfl, hb⟩
    exact ⟨by simp [insT, insA, na, nb, nc], hb⟩
  | read_ x1 =>
    have e0 : it.word = ⟨#[114, 101, 97, 100]⟩ := ew
    rw [opQ_read] at ea eb ec
    have na : (it.a.toNat : Int) = it.a := by rw [ea]; exact regVal_pos _
    rw [e0, insX_read]
    refine (cins_read w (some ⟨bo, 0, none⟩) (some ⟨bg, 0, none⟩) F.length cv F.length cap pm it.sort it.line it.a it.b it.c it.n (k : Int) it.nm).mono ?_
    rintro e w' ⟨rfl, hb⟩
    exact ⟨by simp [insT, insA, na], hb⟩
  | write_ x1 =>
    have e0 : it.word = ⟨#[119, 114, 105, 116, 101]⟩ := ew
    rw [opQ_write] at ea eb ec
    have na : (it.a.toNat : Int) = it.a := by rw [ea]; exact regVal_pos _
    rw [e0, insX_write]
    refine (cins_write w (some ⟨bo, 0, none⟩) (some ⟨bg, 0, none⟩) F.length cv F.length cap pm it.sort it.line it.a it.b it.c it.n (k : Int) it.nm).mono ?_
    rintro e w' ⟨rfl, hb⟩
    exact ⟨by simp [insT, insA, na], hb⟩
  | jump_ x1 =>
    have e0 : it.word = ⟨#[106, 117, 109, 112]⟩ := ew
    rw [nameQ_jump] at em
    rw [e0, insX_jump]
    refine (cins_jump w (some ⟨bo, 0, none⟩) (some ⟨bg, 0, none⟩) F.length cv F.length cap pm it.sort it.line it.a it.b it.c it.n (k : Int) (labM F k it.nm) it.nm (hl (by kernel_rfl) em)).mono ?_
    rintro e w' ⟨rfl, hb⟩
    exact ⟨by simp [insT, insA], hb⟩
  | call_ x1 =>
    have e0 : it.word = ⟨#[99, 97, 108, 108]⟩ := ew
    rw [nameQ_call] at em
    rw [e0, insX_call]
    refine (cins_call w (some ⟨bo, 0, none⟩) (some ⟨bg, 0, none⟩) F.length cv F.length cap pm it.sort it.line it.a it.b it.c it.n (k : Int) (fnM F it.nm) it.nm (hf (by kernel_rfl) em)).mono ?_
    rintro e w' ⟨rfl, hb⟩
    exact ⟨by simp [insT, insA], hb⟩
  | less_ x1 x2 x3 =>
    have e0 : it.word = ⟨#[108, 101, 115, 115]⟩ := ew
    rw [opQ_less] at ea eb ec
    have na : (it.a.toNat : Int) = it.a := by rw [ea]; exact regVal_pos _
    have nb : (it.b.toNat : Int) = it.b := by rw [eb]; exact regVal_pos _
    rw [nameQ_less] at em
    rw [e0, insX_less]
    refine (cins_less w (some ⟨bo, 0, none⟩) (some ⟨bg, 0, none⟩) F.length cv F.length cap pm it.sort it.line it.a it.b it.c it.n (k : Int) (labM F k it.nm) it.nm (hl (by kernel_rfl) em)).mono ?_
    rintro e w' ⟨rfl, hb⟩
    exact ⟨by simp [insT, insA, na, nb], hb⟩
  | same_ x1 x2 x3 =>
    have e0 : it.word = ⟨#[115, 97, 109, 101]⟩ := ew
    rw [opQ_same] at ea eb ec
    have na : (it.a.toNat : Int) = it.a := by rw [ea]; exact regVal_pos _
    have nb : (it.b.toNat : Int) = it.b := by rw [eb]; exact regVal_pos _
    rw [nameQ_same] at em
    rw [e0, insX_same]
    refine (cins_same w (some ⟨bo, 0, none⟩) (some ⟨bg, 0, none⟩) F.length cv F.length cap pm it.sort it.line it.a it.b it.c it.n (k : Int) (labM F k it.nm) it.nm (hl (by kernel_rfl) em)).mono ?_
    rintro e w' ⟨rfl, hb⟩
    exact ⟨by simp [insT, insA, na, nb], hb⟩
  | back_  =>
    have e0 : it.word = ⟨#[98, 97, 99, 107]⟩ := ew
    rw [e0, insX_back]
    refine (cins_back w (some ⟨bo, 0, none⟩) (some ⟨bg, 0, none⟩) F.length cv F.length cap pm it.sort it.line it.a it.b it.c it.n (k : Int) it.nm).mono ?_
    rintro e w' ⟨rfl, hb⟩
    exact ⟨by simp [insT, insA], hb⟩
  | stop_  =>
    have e0 : it.word = ⟨#[115, 116, 111, 112]⟩ := ew
    rw [e0, insX_stop]
    refine (cins_stop w (some ⟨bo, 0, none⟩) (some ⟨bg, 0, none⟩) F.length cv F.length cap pm it.sort it.line it.a it.b it.c it.n (k : Int) it.nm).mono ?_
    rintro e w' ⟨rfl, hb⟩
    exact ⟨by simp [insT, insA], hb⟩

end Go.Proofs.YtfpgjkbjbbgciaaGreatDoor
