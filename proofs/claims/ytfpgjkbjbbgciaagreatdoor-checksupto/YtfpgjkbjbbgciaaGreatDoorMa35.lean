import Derived.Test.YtfpgjkbjbbgciaaGreatDoorMa33
import Derived.Test.YtfpgjkbjbbgciaaGreatDoorMa34
namespace Go.Proofs.YtfpgjkbjbbgciaaGreatDoor
open Go.RowKit Sp

set_option maxRecDepth 100000 in
set_option maxHeartbeats 1000000 in
theorem csize_far (s : ByteArray) (w : World) (hs : s.size ≤ 1048576) (h : 4000 < s.size ∨ 300 < (lines s).length) :
    Calls Tryz.prog 65 #[.string s] w fun e w' => e = refusal 6 0 ∧ w' = w := by
  have hcl := (count_lines s).1
  have hll := lines_len s
  have hcall := Tryz.strings_Count_one s 10 w
  generalize Lib.countByte s.data.toList 10 = c at hcl hcall
  by_cases h4 : 4000 < s.size
  · go_enter Tryz.func65, Tryz.ntmps65
    go_wp2_with (first | (go_at_call 96; refine hcall.mono ?_; rintro e wx ⟨rfl, hww⟩; have h2 := hww.symm; subst h2) | (go_at_call 79; refine (raise_any _ _ _).mono ?_; rintro e wx ⟨rfl, hww⟩; have h2 := hww.symm; subst h2))
    exact ⟨rfl, rfl, rfl⟩
  · have h3 : 300 < c + 1 := by omega
    have hc : c ≤ 1048576 := by omega
    clear hcl
    go_enter Tryz.func65, Tryz.ntmps65
    go_wp2_with (first | (go_at_call 96; refine hcall.mono ?_; rintro e wx ⟨rfl, hww⟩; have h2 := hww.symm; subst h2) | (go_at_call 79; refine (raise_any _ _ _).mono ?_; rintro e wx ⟨rfl, hww⟩; have h2 := hww.symm; subst h2))
    exact ⟨rfl, rfl, rfl⟩
set_option maxRecDepth 100000 in
set_option maxHeartbeats 1000000 in
theorem csize_near (s : ByteArray) (w : World) (h4 : s.size ≤ 4000) (h3 : (lines s).length ≤ 300) :
    Calls Tryz.prog 65 #[.string s] w fun e w' => e = .returned (.tuple #[]) ∧ w' = w := by
  have hcl := (count_lines s).1
  have hcall := Tryz.strings_Count_one s 10 w
  generalize Lib.countByte s.data.toList 10 = c at hcl hcall
  have h5 : c + 1 ≤ 300 := by omega
  clear hcl
  go_enter Tryz.func65, Tryz.ntmps65
  go_wp2_with (first | (go_at_call 96; refine hcall.mono ?_; rintro e wx ⟨rfl, hww⟩; have h2 := hww.symm; subst h2))
  go_end0
  exact ⟨rfl, rfl⟩

/-- A statement, as it lies in a row. -/
structure It where
  sort : Int
  line : Int
  word : ByteArray
  nm : ByteArray
  a : Int
  b : Int
  c : Int
  n : Int
abbrev It.cells (i : It) : List Value := [.int .i64 i.sort, .int .i64 i.line, .string i.word, .int .i64 i.a, .int .i64 i.b, .int .i64 i.c, .int .i64 i.n, .string i.nm]
def stmCells (l : List It) : List Value := l.flatMap It.cells
structure Key where
  sort : Int
  line : Int
  word : ByteArray
  nm : ByteArray
  a : Int
  b : Int
  c : Int
  n : Int
def It.key (i : It) : Key := ⟨i.sort, i.line, i.word, i.nm, i.a, i.b, i.c, i.n⟩
def keyQ (q : Said) (line : Int) : Key := ⟨sortK q, line, wordK q, nameQ q, (opQ q).a, (opQ q).b, (opQ q).c, (opQ q).n⟩
/-- What the first so many lines come to. -/
def keysTo (A : List ByteArray) : Nat → List Key
  | 0 => []
  | k + 1 => keysTo A k ++ (match A[k]? with | none => [] | some x => if (say x).kind = 0 then [] else [keyQ (say x) ((k : Int) + 1)])
theorem stmCells_snoc (l : List It) (i : It) : stmCells (l ++ [i]) = stmCells l ++ i.cells := by simp [stmCells]

theorem Tryz.info135 : (Tryz.prog.info? 135).map (fun i => (i.zero, i.size, i.bytes)) = some (some (.agg #[.int .i64 0, .int .i64 0, .string ByteArray.empty, .int .i64 0, .int .i64 0, .int .i64 0, .int .i64 0, .string ByteArray.empty]), 8, 80) := by kernel_rfl
theorem Tryz.under116 : Tryz.prog.underlying 116 = some (.slice 135) := by kernel_rfl

theorem keysTo_skip (A : List ByteArray) (k : Nat) (h : k < A.length) (h0 : (say A[k]).kind = 0) : keysTo A (k + 1) = keysTo A k := by
  simp [keysTo, List.getElem?_eq_getElem h, h0]
theorem keysTo_add (A : List ByteArray) (k : Nat) (h : k < A.length) (h0 : ¬ (say A[k]).kind = 0) : keysTo A (k + 1) = keysTo A k ++ [keyQ (say A[k]) ((k : Int) + 1)] := by
  simp [keysTo, List.getElem?_eq_getElem h, h0]
theorem say_empty (x : ByteArray) (hv : validAt x 0 = true) (hw : words x = []) : say x = ⟨0, [], true⟩ := by
  simp [say, hv, hw, sayW]
theorem say_words (x : ByteArray) (hv : validAt x 0 = true) : say x = sayW (words x) := by simp [say, hv]
theorem say_invalid (x : ByteArray) (hv : validAt x 0 = false) : (say x).ok = false := by simp [say, hv]
theorem sayW_kind (x : ByteArray) (r : List ByteArray) : ¬ (sayW (x :: r)).kind = 0 := by
  unfold sayW
  dsimp only
  repeat' split
  all_goals simp

def StsPost (w : World) (A : List ByteArray) : Ending → World → Prop := fun e w' =>
  Below w.heap.size w w' ∧ ((∃ i : Nat, sayAt A 0 = (1, (i : Int) + 1) ∧ e = refusal 1 ((i : Int) + 1)) ∨
    (sayAt A 0 = startAt (A.map say) 0 ∧ (∀ x ∈ A, (say x).ok = true) ∧ ∃ v its, e = .returned v ∧ w'.ownsRow w.heap.size 135 8 v its.length (stmCells its) ∧ its.map It.key = keysTo A A.length))

theorem eight_cells (w : World) (a b c d e f g h : Value) (t : TypeId) : ∀ j u, [a, b, c, d, e, f, g, h][j]? = some u → (w.alloc (.cells #[a, b, c, d, e, f, g, h] t)).cell? ((⟨w.heap.size, 0, none⟩ : Addr).add j) = some u := by
  intro j u hj
  have h1 := World.cell?_alloc_new (w := w) #[a, b, c, d, e, f, g, h] t j
  have h2 : (⟨w.heap.size, 0, none⟩ : Addr).add j = ⟨w.heap.size, j, none⟩ := by simp [Addr.add]; omega
  rw [h2, h1]
  rw [← List.getElem?_toArray] at hj
  exact hj
theorem eight_one (i : It) : ∀ u ∈ i.cells, u.oneCell' = true := by
  intro u hu
  simp at hu
  rcases hu with rfl | rfl | rfl | rfl | rfl | rfl | rfl | rfl <;> rfl

/-- The words of a valid line. -/
theorem cwords_some (s : ByteArray) (line : Int) (w : World) (hw : LibW w) (hs : s.size ≤ 1048576) (hv : validAt s 0 = true) (l : List ByteArray) (hl : Hid (words s = l)) (h0 : 0 < l.length) :
    Calls Tryz.prog 98 #[.string s, .int .i64 line] w fun e w' => ∃ g cap, e = .returned (.slice (some ⟨g, 0, none⟩) l.length cap) ∧ w.heap.size ≤ g ∧ WordsIn w' g l ∧ Below w.heap.size w w' := by
  refine (cwords_any s line w hw hs).mono ?_
  rintro e w' ⟨hb, ⟨_, v, rfl, hown⟩ | ⟨h, _⟩⟩
  · rw [hl.out] at hown
    obtain ⟨g, cap, rfl, _, _, h3, _, h5⟩ := row_of hown h0
    exact ⟨g, cap, rfl, h3, h5, hb⟩
  · rw [hv] at h; cases h
theorem cwords_none (s : ByteArray) (line : Int) (w : World) (hw : LibW w) (hs : s.size ≤ 1048576) (hv : validAt s 0 = true) (hl : Hid (words s = [])) :
    Calls Tryz.prog 98 #[.string s, .int .i64 line] w fun e w' => ∃ ao cap, e = .returned (.slice ao 0 cap) ∧ Below w.heap.size w w' := by
  refine (cwords_any s line w hw hs).mono ?_
  rintro e w' ⟨hb, ⟨_, v, rfl, hown⟩ | ⟨h, _⟩⟩
  · rw [hl.out] at hown
    rcases hown.2 with ⟨h1, _⟩ | ⟨g, cap, cur, h1, _⟩
    · subst h1; exact ⟨none, 0, rfl, hb⟩
    · subst h1; exact ⟨_, cap, rfl, hb⟩
  · rw [hv] at h; cases h
theorem cwords_bad (s : ByteArray) (line : Int) (w : World) (hw : LibW w) (hs : s.size ≤ 1048576) (hv : validAt s 0 = false) :
    Calls Tryz.prog 98 #[.string s, .int .i64 line] w fun e w' => e = refusal 1 line ∧ Below w.heap.size w w' := by
  refine (cwords_any s line w hw hs).mono ?_
  rintro e w' ⟨hb, ⟨h, _⟩ | ⟨_, h⟩⟩
  · rw [hv] at h; cases h
  · exact ⟨h, hb⟩
theorem cstm_good (w : World) (hw : LibW w) (g cap : Nat) (x : ByteArray) (r : List ByteArray) (line : Int) (hl : WordsIn w g (x :: r)) (hsz : ∀ y ∈ (x :: r : List ByteArray), 1 ≤ y.size ∧ y.size ≤ 1048576) (hn : r.length ≤ 1048576) (q : Said) (hq : Hid (sayW (x :: r) = q)) (hok : q.ok = true) :
    Calls Tryz.prog 99 #[.slice (some ⟨g, 0, none⟩) (r.length + 1) cap, .int .i64 line] w fun e w' => e = .returned (stm (sortK q) line (wordK q) (opQ q).a (opQ q).b (opQ q).c (opQ q).n (nameQ q)) ∧ Below w.heap.size w w' := by
  refine (cstm_any w hw g cap x r line hl hsz hn).mono ?_
  rw [hq.out]
  rintro e w' ⟨hb, ⟨_, h⟩ | ⟨h, _⟩⟩
  · exact ⟨h, hb⟩
  · rw [hok] at h; cases h
theorem cstm_refused (w : World) (hw : LibW w) (g cap : Nat) (x : ByteArray) (r : List ByteArray) (line : Int) (hl : WordsIn w g (x :: r)) (hsz : ∀ y ∈ (x :: r : List ByteArray), 1 ≤ y.size ∧ y.size ≤ 1048576) (hn : r.length ≤ 1048576) (q : Said) (hq : Hid (sayW (x :: r) = q)) (hok : q.ok = false) :
    Calls Tryz.prog 99 #[.slice (some ⟨g, 0, none⟩) (r.length + 1) cap, .int .i64 line] w fun e w' => e = refusal 1 line ∧ Below w.heap.size w w' := by
  refine (cstm_any w hw g cap x r line hl hsz hn).mono ?_
  rw [hq.out]
  rintro e w' ⟨hb, ⟨h, _⟩ | ⟨_, h⟩⟩
  · rw [hok] at h; cases h
  · exact ⟨h, hb⟩

end Go.Proofs.YtfpgjkbjbbgciaaGreatDoor
