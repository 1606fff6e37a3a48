import Derived.Test.YtfpgjkbjbbgciaaGreatDoorMa23
import Derived.Test.YtfpgjkbjbbgciaaGreatDoorMa12
import Derived.Test.YtfpgjkbjbbgciaaGreatDoorMa11
import Derived.Test.YtfpgjkbjbbgciaaGreatDoorMa02
namespace Go.Proofs.YtfpgjkbjbbgciaaGreatDoor
open Go.RowKit Sp

theorem Tryz.info87 : (Tryz.prog.info? 87).map (fun i => (i.zero, i.size, i.bytes)) = some (some (.agg #[.int .u8 0, .slice none 0 0]), 2, 32) := by kernel_rfl
theorem Tryz.under25 : Tryz.prog.underlying 25 = some (.slice 87) := by kernel_rfl

/-- An owned row is owned still where nothing older has turned. -/
theorem own_below {w w' : World} {B b : Nat} {e : TypeId} {size n : Nat} {v : Value} {xs : List Value} (h : w.ownsRow b e size v n xs) (hb : Below B w w') (hB : w.heap.size ≤ B) : w'.ownsRow b e size v n xs := by
  refine ⟨h.1, ?_⟩
  rcases h.2 with h2 | ⟨g, cap, cur, hv, hg, hh, r⟩
  · exact .inl h2
  · refine .inr ⟨g, cap, cur, hv, hg, ?_, r⟩
    rw [hb.block g (by have := (Array.getElem?_eq_some_iff.1 hh).1; omega)]
    exact hh
theorem own_apart {w : World} {b b' : Nat} {e e' : TypeId} {size size' n n' : Nat} {v v' : Value} {xs xs' : List Value} (h : w.ownsRow b e size v n xs) (h' : w.ownsRow b' e' size' v' n' xs') (hne : ¬ e = e') : v.ownBlock = none ∨ v.ownBlock ≠ v'.ownBlock := by
  rcases h.2 with ⟨hv, _⟩ | ⟨g, cap, cur, hv, hg, hh, r⟩
  · subst hv; exact .inl rfl
  · rcases h'.2 with ⟨hv', _⟩ | ⟨g', cap', cur', hv', hg', hh', r'⟩
    · subst hv hv'; exact .inr (by simp [Value.ownBlock])
    · subst hv hv'
      refine .inr ?_
      simp only [Value.ownBlock]
      intro heq
      simp only [Option.some.injEq] at heq
      subst heq
      rw [hh] at hh'
      simp at hh'
      exact hne hh'.2

/-- The cells of a row of lines. -/
def lineCells (P : List (Said × Value)) : List Value := P.flatMap fun p => [.int .u8 p.1.kind, p.2]
theorem lineCells_snoc (P : List (Said × Value)) (q : Said) (v : Value) : lineCells (P ++ [(q, v)]) = lineCells P ++ [.int .u8 q.kind, v] := by simp [lineCells]
theorem lineCells_len (P : List (Said × Value)) : (lineCells P).length = P.length * 2 := by
  induction P with
  | nil => rfl
  | cons p P ih => simp [lineCells] at ih ⊢; omega
theorem lineCells_kind (P : List (Said × Value)) (i : Nat) (h : i < P.length) : (lineCells P)[i * 2]? = some (.int .u8 P[i].1.kind) ∧ (lineCells P)[i * 2 + 1]? = some P[i].2 := by
  induction P generalizing i with
  | nil => simp at h
  | cons p P ih =>
    cases i with
    | zero => simp [lineCells]
    | succ i =>
      have := ih i (by simpa using h)
      simp only [lineCells, List.flatMap_cons] at this ⊢
      rw [show (i + 1) * 2 = i * 2 + 2 by omega, show i * 2 + 2 + 1 = i * 2 + 1 + 2 by omega]
      simpa using this

/-- The lines that have been read so far. -/
structure RowsIn (B : Nat) (w : World) (v : Value) (P : List (Said × Value)) : Prop where
  row : w.ownsRow B 87 2 v P.length (lineCells P)
  words : ∀ p ∈ P, w.ownsRow B 9 1 p.2 p.1.kept.length (p.1.kept.map Value.string)

theorem RowsIn.below {B C : Nat} {w w' : World} {v : Value} {P : List (Said × Value)} (h : RowsIn B w v P) (hb : Below C w w') (hC : w.heap.size ≤ C) : RowsIn B w' v P :=
  ⟨own_below h.row hb hC, fun p hp => own_below (h.words p hp) hb hC⟩
theorem RowsIn.alloc {B : Nat} {w : World} {v : Value} {P : List (Said × Value)} (h : RowsIn B w v P) (o : Obj) : RowsIn B (w.alloc o) v P :=
  ⟨h.row.alloc o, fun p hp => (h.words p hp).alloc o⟩
theorem RowsIn.grown {B : Nat} {w w' : World} {v v' : Value} {P : List (Said × Value)} {q : Said} {u : Value} (h : RowsIn B w v P) (hu : w.ownsRow B 9 1 u q.kept.length (q.kept.map Value.string)) (hg : w.grownBy w' v.ownBlock) (hown : w'.ownsRow B 87 2 v' (P.length + 1) (lineCells P ++ [.int .u8 q.kind, u])) : RowsIn B w' v' (P ++ [(q, u)]) := by
  refine ⟨by rw [lineCells_snoc]; simpa using hown, fun p hp => ?_⟩
  rw [List.mem_append] at hp
  rcases hp with hp | hp
  · exact (h.words p hp).kept hg (own_apart (h.words p hp) h.row (by decide))
  · simp at hp; subst hp
    exact hu.kept hg (own_apart hu h.row (by decide))
theorem RowsIn.lines {B : Nat} {w : World} {v : Value} {P : List (Said × Value)} (h : RowsIn B w v P) (hp : 0 < P.length) (hw : ∀ p ∈ P, Wf p.1) :
    ∃ g cap, v = .slice (some ⟨g, 0, none⟩) P.length cap ∧ B ≤ g ∧ LinesIn w g (P.map Prod.fst) := by
  have hr := h.row
  rcases h.row.2 with ⟨_, h2⟩ | ⟨g, cap, cur, hv, hg, hh, hc, hm, hs, hx⟩
  · have := lineCells_len P
    rw [h2] at this; simp at this; omega
  · subst hv
    refine ⟨g, cap, rfl, hg, ?_, ?_, ?_⟩
    · intro i hi
      have hi' : i < P.length := by simpa using hi
      rw [World.ownsRow.cellAt hr (i * 2) (by omega), (lineCells_kind P i hi').1]
      simp
    · intro i hi hk
      have hi' : i < P.length := by simpa using hi
      have e : (P.map Prod.fst)[i] = P[i].1 := by simp
      rw [e] at hk
      obtain ⟨b, c, hv, _, _, _, _, hcl⟩ := row_of (h.words P[i] (List.getElem_mem hi')) hk
      refine ⟨b, c, ?_, ?_⟩
      · rw [World.ownsRow.cellAt hr (i * 2 + 1) (by omega), (lineCells_kind P i hi').2, hv]
        simp
      · intro j hj
        simp only [e] at hj ⊢
        exact hcl j hj
    · intro i hi
      have hi' : i < P.length := by simpa using hi
      simp only [List.getElem_map]
      exact hw _ (List.getElem_mem hi')

end Go.Proofs.YtfpgjkbjbbgciaaGreatDoor

namespace Go.Proofs.YtfpgjkbjbbgciaaGreatDoor.Sp

theorem ext_app (s : ByteArray) (a b c : Nat) (h1 : a ≤ b) (h2 : b ≤ c) : s.extract a b ++ s.extract b c = s.extract a c := by
  apply ByteArray.ext
  rw [ByteArray.data_append, ByteArray.data_extract, ByteArray.data_extract, ByteArray.data_extract]
  rw [Array.extract_append_extract]
  congr 1 <;> omega
theorem ext_nil (s : ByteArray) (a : Nat) : s.extract a a = ByteArray.empty := by
  apply ByteArray.ext
  rw [ByteArray.data_extract]
  simp
  omega
theorem words_run (s : ByteArray) (n i : Nat) (now : ByteArray) (l : List ByteArray) (hn : i + n ≤ s.size) (h : ∀ j, i ≤ j → j < i + n → ¬ (bt s j = 32 ∨ bt s j = 9 ∨ bt s j = 59)) : wordsAt s i now l = wordsAt s (i + n) (now ++ s.extract i (i + n)) l := by
  induction n generalizing i now with
  | zero =>
    rw [Nat.add_zero, ext_nil]
    congr 1
    simp
  | succ n ih =>
    rw [wordsAt_on s i now l (by omega) (h i (by omega) (by omega)), ih (i + 1) _ (by omega) (fun j h1 h2 => h j (by omega) (by omega))]
    rw [show i + 1 + n = i + (n + 1) by omega]
    congr 1
    rw [ByteArray.append_assoc, ext_app s i (i + 1) (i + (n + 1)) (by omega) (by omega)]
theorem conts_bytes (s : ByteArray) (k i : Nat) (v u : Int) (h : conts s i k v = some u) : ∀ j, i ≤ j → j < i + k → 128 ≤ bt s j := by
  induction k generalizing i v with
  | zero => intro j h1 h2; omega
  | succ k ih =>
    unfold conts at h
    split at h
    · rename_i hc
      intro j h1 h2
      by_cases hj : j = i
      · subst hj; omega
      · exact ih _ _ h j (by omega) (by omega)
    · cases h
/-- A character's bytes are all 128 or more, or it is one byte below. -/
theorem chr_bytes (s : ByteArray) (i : Nat) (hi : i < s.size) (h0 : ¬ (chr s i).1 = 0) : (bt s i < 128 ∧ chr s i = (1, bt s i)) ∨ (128 ≤ (chr s i).2 ∧ ∀ j, i ≤ j → j < i + chrN s i → 128 ≤ bt s j) := by
  by_cases h : bt s i < 128
  · left; exact ⟨h, by unfold chr; rw [if_pos h]⟩
  · right
    unfold chrN
    unfold chr at h0 ⊢
    rw [if_neg h] at h0 ⊢
    split at h0
    · rename_i hc
      rw [if_pos hc]
      rcases chrEnd_bd 2 128 (conts s (i + 1) 1 (bt s i - 192)) with h' | ⟨v, h1, h2, h3, _⟩
      · rw [h'] at h0; exact absurd rfl h0
      · rw [h2]
        refine ⟨h3, fun j a b => ?_⟩
        by_cases hj : j = i
        · subst hj; omega
        · exact conts_bytes s 1 (i + 1) _ _ h1 j (by omega) (by simp at b; omega)
    · rename_i hc
      rw [if_neg hc]
      split at h0
      · rename_i hd
        rw [if_pos hd]
        rcases chrEnd_bd 3 2048 (conts s (i + 1) 2 (bt s i - 224)) with h' | ⟨v, h1, h2, h3, _⟩
        · rw [h'] at h0; exact absurd rfl h0
        · rw [h2]
          refine ⟨by show 128 ≤ v; omega, fun j a b => ?_⟩
          by_cases hj : j = i
          · subst hj; omega
          · exact conts_bytes s 2 (i + 1) _ _ h1 j (by omega) (by simp at b; omega)
      · rename_i hd
        rw [if_neg hd]
        split at h0
        · rename_i he
          rw [if_pos he]
          rcases chrEnd_bd 4 65536 (conts s (i + 1) 3 (bt s i - 240)) with h' | ⟨v, h1, h2, h3, _⟩
          · rw [h'] at h0; exact absurd rfl h0
          · rw [h2]
            refine ⟨by show 128 ≤ v; omega, fun j a b => ?_⟩
            by_cases hj : j = i
            · subst hj; omega
            · exact conts_bytes s 3 (i + 1) _ _ h1 j (by omega) (by simp at b; omega)
        · exact absurd rfl h0
/-- A character that is no blank is gone over whole. -/
theorem words_char (s : ByteArray) (i : Nat) (now : ByteArray) (l : List ByteArray) (hi : i < s.size) (h0 : ¬ (chr s i).1 = 0) (hc : ¬ ((chr s i).2 = 32 ∨ (chr s i).2 = 9 ∨ (chr s i).2 = 59)) : wordsAt s i now l = wordsAt s (i + chrN s i) (now ++ s.extract i (i + chrN s i)) l := by
  have hp := chrN_pos s i hi h0
  refine words_run s (chrN s i) i now l (by omega) (fun j h1 h2 => ?_)
  rcases chr_bytes s i hi h0 with ⟨ha, hb⟩ | ⟨_, hb⟩
  · have hN : chrN s i = 1 := by unfold chrN; rw [hb]; rfl
    have : j = i := by omega
    subst this
    rw [hb] at hc
    exact hc
  · have := hb j h1 h2; omega
/-- One that is a blank is one byte. -/
theorem chr_blank (s : ByteArray) (i : Nat) (hi : i < s.size) (h0 : ¬ (chr s i).1 = 0) (hc : (chr s i).2 < 128) : bt s i = (chr s i).2 ∧ chrN s i = 1 := by
  rcases chr_bytes s i hi h0 with ⟨ha, hb⟩ | ⟨hb, _⟩
  · unfold chrN; rw [hb]; exact ⟨rfl, rfl⟩
  · omega

end Go.Proofs.YtfpgjkbjbbgciaaGreatDoor.Sp
