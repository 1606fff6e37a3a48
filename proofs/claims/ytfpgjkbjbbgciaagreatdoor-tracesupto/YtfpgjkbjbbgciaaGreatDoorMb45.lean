import Derived.Test.YtfpgjkbjbbgciaaGreatDoorMb44
import Derived.Test.YtfpgjkbjbbgciaaGreatDoorMb32
import Derived.Test.YtfpgjkbjbbgciaaGreatDoorMb33
namespace Go.Proofs.YtfpgjkbjbbgciaaGreatDoor
open Sp
/- What the statements of a program that has been read say. Plain maths. -/

def labM (F : List FnM) (k : Nat) (x : ByteArray) : Int := (lenF (F.take k) : Int) + (((match F[k]? with | none => none | some f => findE (labsAt f.its) x).getD 0 : Nat) : Int)
def fnM (F : List FnM) (x : ByteArray) : Int := (lenF (F.take ((findE (placesAt F) x).getD 0)) : Int)
/-- The instruction of a word, with its operands. -/
def insX (w : ByteArray) (a b c n l f : Int) : Ins :=
  if isW w [106, 117, 109, 112] = true then .jump l
  else if isW w [108, 101, 115, 115] = true then .less a.toNat b.toNat l
  else if isW w [115, 97, 109, 101] = true then .same a.toNat b.toNat l
  else if isW w [99, 97, 108, 108] = true then .call f
  else if isW w [98, 97, 99, 107] = true then .back
  else if isW w [115, 116, 111, 112] = true then .stop
  else if isW w [115, 101, 116] = true then .set a.toNat n
  else if isW w [109, 111, 118] = true then .mov a.toNat b.toNat
  else if isW w [97, 100, 100] = true then .alu 0 a.toNat b.toNat c.toNat
  else if isW w [115, 117, 98] = true then .alu 1 a.toNat b.toNat c.toNat
  else if isW w [109, 117, 108] = true then .alu 2 a.toNat b.toNat c.toNat
  else if isW w [105, 110, 99] = true then .inc a.toNat n
  else if isW w [108, 111, 97, 100] = true then .load a.toNat b.toNat
  else if isW w [115, 116, 111, 114, 101] = true then .store a.toNat b.toNat
  else if isW w [114, 101, 97, 100] = true then .read a.toNat
  else .write a.toNat
/-- What a statement of the k-th function says. -/
def insM (F : List FnM) (k : Nat) (i : It) : Ins := insX i.word i.a i.b i.c i.n (labM F k i.nm) (fnM F i.nm)
theorem insX_set (a b c n l f : Int) : insX ⟨#[115, 101, 116]⟩ a b c n l f = .set a.toNat n := by kernel_rfl
theorem insX_inc (a b c n l f : Int) : insX ⟨#[105, 110, 99]⟩ a b c n l f = .inc a.toNat n := by kernel_rfl
theorem insX_mov (a b c n l f : Int) : insX ⟨#[109, 111, 118]⟩ a b c n l f = .mov a.toNat b.toNat := by kernel_rfl
theorem insX_load (a b c n l f : Int) : insX ⟨#[108, 111, 97, 100]⟩ a b c n l f = .load a.toNat b.toNat := by kernel_rfl
theorem insX_store (a b c n l f : Int) : insX ⟨#[115, 116, 111, 114, 101]⟩ a b c n l f = .store a.toNat b.toNat := by kernel_rfl
theorem insX_add (a b c n l f : Int) : insX ⟨#[97, 100, 100]⟩ a b c n l f = .alu 0 a.toNat b.toNat c.toNat := by kernel_rfl
theorem insX_sub (a b c n l f : Int) : insX ⟨#[115, 117, 98]⟩ a b c n l f = .alu 1 a.toNat b.toNat c.toNat := by kernel_rfl
theorem insX_mul (a b c n l f : Int) : insX ⟨#[109, 117, 108]⟩ a b c n l f = .alu 2 a.toNat b.toNat c.toNat := by kernel_rfl
theorem insX_read (a b c n l f : Int) : insX ⟨#[114, 101, 97, 100]⟩ a b c n l f = .read a.toNat := by kernel_rfl
theorem insX_write (a b c n l f : Int) : insX ⟨#[119, 114, 105, 116, 101]⟩ a b c n l f = .write a.toNat := by kernel_rfl
theorem insX_jump (a b c n l f : Int) : insX ⟨#[106, 117, 109, 112]⟩ a b c n l f = .jump l := by kernel_rfl
theorem insX_call (a b c n l f : Int) : insX ⟨#[99, 97, 108, 108]⟩ a b c n l f = .call f := by kernel_rfl
theorem insX_less (a b c n l f : Int) : insX ⟨#[108, 101, 115, 115]⟩ a b c n l f = .less a.toNat b.toNat l := by kernel_rfl
theorem insX_same (a b c n l f : Int) : insX ⟨#[115, 97, 109, 101]⟩ a b c n l f = .same a.toNat b.toNat l := by kernel_rfl
theorem insX_back (a b c n l f : Int) : insX ⟨#[98, 97, 99, 107]⟩ a b c n l f = .back := by kernel_rfl
theorem insX_stop (a b c n l f : Int) : insX ⟨#[115, 116, 111, 112]⟩ a b c n l f = .stop := by kernel_rfl
theorem opQ_set (x1 x2 : ByteArray) (ok : Bool) : opQ ⟨105, [⟨#[115, 101, 116]⟩, x1, x2], ok⟩ = ⟨⟨#[]⟩, regVal x1, 0, 0, numVal x2⟩ := by kernel_rfl
theorem opQ_inc (x1 x2 : ByteArray) (ok : Bool) : opQ ⟨105, [⟨#[105, 110, 99]⟩, x1, x2], ok⟩ = ⟨⟨#[]⟩, regVal x1, 0, 0, numVal x2⟩ := by kernel_rfl
theorem opQ_mov (x1 x2 : ByteArray) (ok : Bool) : opQ ⟨105, [⟨#[109, 111, 118]⟩, x1, x2], ok⟩ = ⟨⟨#[]⟩, regVal x1, regVal x2, 0, 0⟩ := by kernel_rfl
theorem opQ_load (x1 x2 : ByteArray) (ok : Bool) : opQ ⟨105, [⟨#[108, 111, 97, 100]⟩, x1, x2], ok⟩ = ⟨⟨#[]⟩, regVal x1, regVal x2, 0, 0⟩ := by kernel_rfl
theorem opQ_store (x1 x2 : ByteArray) (ok : Bool) : opQ ⟨105, [⟨#[115, 116, 111, 114, 101]⟩, x1, x2], ok⟩ = ⟨⟨#[]⟩, regVal x1, regVal x2, 0, 0⟩ := by kernel_rfl
theorem opQ_add (x1 x2 x3 : ByteArray) (ok : Bool) : opQ ⟨105, [⟨#[97, 100, 100]⟩, x1, x2, x3], ok⟩ = ⟨⟨#[]⟩, regVal x1, regVal x2, regVal x3, 0⟩ := by kernel_rfl
theorem opQ_sub (x1 x2 x3 : ByteArray) (ok : Bool) : opQ ⟨105, [⟨#[115, 117, 98]⟩, x1, x2, x3], ok⟩ = ⟨⟨#[]⟩, regVal x1, regVal x2, regVal x3, 0⟩ := by kernel_rfl
theorem opQ_mul (x1 x2 x3 : ByteArray) (ok : Bool) : opQ ⟨105, [⟨#[109, 117, 108]⟩, x1, x2, x3], ok⟩ = ⟨⟨#[]⟩, regVal x1, regVal x2, regVal x3, 0⟩ := by kernel_rfl
theorem opQ_read (x1 : ByteArray) (ok : Bool) : opQ ⟨105, [⟨#[114, 101, 97, 100]⟩, x1], ok⟩ = ⟨⟨#[]⟩, regVal x1, 0, 0, 0⟩ := by kernel_rfl
theorem opQ_write (x1 : ByteArray) (ok : Bool) : opQ ⟨105, [⟨#[119, 114, 105, 116, 101]⟩, x1], ok⟩ = ⟨⟨#[]⟩, regVal x1, 0, 0, 0⟩ := by kernel_rfl
theorem opQ_jump (x1 : ByteArray) (ok : Bool) : opQ ⟨105, [⟨#[106, 117, 109, 112]⟩, x1], ok⟩ = ⟨x1, 0, 0, 0, 0⟩ := by kernel_rfl
theorem nameQ_jump (x1 : ByteArray) (ok : Bool) : nameQ ⟨105, [⟨#[106, 117, 109, 112]⟩, x1], ok⟩ = x1 := by kernel_rfl
theorem opQ_call (x1 : ByteArray) (ok : Bool) : opQ ⟨105, [⟨#[99, 97, 108, 108]⟩, x1], ok⟩ = ⟨x1, 0, 0, 0, 0⟩ := by kernel_rfl
theorem nameQ_call (x1 : ByteArray) (ok : Bool) : nameQ ⟨105, [⟨#[99, 97, 108, 108]⟩, x1], ok⟩ = x1 := by kernel_rfl
theorem opQ_less (x1 x2 x3 : ByteArray) (ok : Bool) : opQ ⟨105, [⟨#[108, 101, 115, 115]⟩, x1, x2, x3], ok⟩ = ⟨x3, regVal x1, regVal x2, 0, 0⟩ := by kernel_rfl
theorem nameQ_less (x1 x2 x3 : ByteArray) (ok : Bool) : nameQ ⟨105, [⟨#[108, 101, 115, 115]⟩, x1, x2, x3], ok⟩ = x3 := by kernel_rfl
theorem opQ_same (x1 x2 x3 : ByteArray) (ok : Bool) : opQ ⟨105, [⟨#[115, 97, 109, 101]⟩, x1, x2, x3], ok⟩ = ⟨x3, regVal x1, regVal x2, 0, 0⟩ := by kernel_rfl
theorem nameQ_same (x1 x2 x3 : ByteArray) (ok : Bool) : nameQ ⟨105, [⟨#[115, 97, 109, 101]⟩, x1, x2, x3], ok⟩ = x3 := by kernel_rfl
theorem opQ_back (ok : Bool) : opQ ⟨105, [⟨#[98, 97, 99, 107]⟩], ok⟩ = ⟨⟨#[]⟩, 0, 0, 0, 0⟩ := by kernel_rfl
theorem opQ_stop (ok : Bool) : opQ ⟨105, [⟨#[115, 116, 111, 112]⟩], ok⟩ = ⟨⟨#[]⟩, 0, 0, 0, 0⟩ := by kernel_rfl
theorem regVal_nat (x : ByteArray) : (regVal x).toNat = regN x := by
  unfold regVal regN
  split
  · rfl
  · rename_i h; have : reg x < 0 := by omega
    rw [show (reg x).toNat = 0 from Int.toNat_of_nonpos (by omega)]; rfl
theorem numVal_ok (x : ByteArray) (h : (numOf x).2 = true) : numVal x = (numOf x).1 := if_pos h
/-- Where an instruction leads to besides the next one. -/
def Goes (N : Nat) : Ins → Prop
  | .jump to => InC N to
  | .less _ _ to => InC N to
  | .same _ _ to => InC N to
  | .call to => InC N to
  | _ => True
/-- Does an instruction never lead to the next one? -/
def Ends : Ins → Prop
  | .jump _ => True
  | .back => True
  | .stop => True
  | _ => False
theorem ins_form (q : Said) (h5 : q.kind = 105) (Fm : Form q.kept) (it : It) (line : Int) (hkey : it.key = keyQ q line) (F : List FnM) (k : Nat) (L : List Said) (j N : Nat) (f : Int → Int)
    (hlab : asksLab (q.word 0) = true → f (labM F k q.last) = labTo L j q.last ∧ InC N (labM F k q.last))
    (hfn : asksFn (q.word 0) = true → f (fnM F q.last) = fnTo L q.last ∧ InC N (fnM F q.last)) :
    insQ L j q = insAt f (insM F k it) ∧ InsOk (insM F k it) ∧ Goes N (insM F k it) ∧ (ends (q.word 0) = false ∨ Ends (insM F k it)) := by
  have ew : it.word = wordK q := congrArg Key.word hkey
  have ea : it.a = (opQ q).a := congrArg Key.a hkey
  have eb : it.b = (opQ q).b := congrArg Key.b hkey
  have ec : it.c = (opQ q).c := congrArg Key.c hkey
  have en : it.n = (opQ q).n := congrArg Key.n hkey
  have em : it.nm = nameQ q := congrArg Key.nm hkey
  clear hkey
  obtain ⟨kd, kp, ok⟩ := q
  simp only at h5 Fm
  subst h5
  unfold insM
  cases Fm with
  | set_ x1 x2 hx1 hx2 =>
    have e0 : it.word = ⟨#[115, 101, 116]⟩ := ew
    rw [opQ_set] at ea eb ec en
    rw [e0, insX_set, ea, en, insQ_set L j ⟨105, [⟨#[115, 101, 116]⟩, x1, x2], ok⟩ x1 x2 rfl]
    have r1 := (reg_nat x1 hx1).1
    simp only [regVal_nat x1, numVal_ok x2 hx2]
    exact ⟨rfl, r1, trivial, .inl (by kernel_rfl)⟩
  | inc_ x1 x2 hx1 hx2 =>
    have e0 : it.word = ⟨#[105, 110, 99]⟩ := ew
    rw [opQ_inc] at ea eb ec en
    rw [e0, insX_inc, ea, en, insQ_inc L j ⟨105, [⟨#[105, 110, 99]⟩, x1, x2], ok⟩ x1 x2 rfl]
    have r1 := (reg_nat x1 hx1).1
    simp only [regVal_nat x1, numVal_ok x2 hx2]
    exact ⟨rfl, r1, trivial, .inl (by kernel_rfl)⟩
  | mov_ x1 x2 hx1 hx2 =>
    have e0 : it.word = ⟨#[109, 111, 118]⟩ := ew
    rw [opQ_mov] at ea eb ec en
    rw [e0, insX_mov, ea, eb, insQ_mov L j ⟨105, [⟨#[109, 111, 118]⟩, x1, x2], ok⟩ x1 x2 rfl]
    have r1 := (reg_nat x1 hx1).1
    have r2 := (reg_nat x2 hx2).1
    simp only [regVal_nat x1, regVal_nat x2]
    exact ⟨rfl, ⟨r1, r2⟩, trivial, .inl (by kernel_rfl)⟩
  | load_ x1 x2 hx1 hx2 =>
    have e0 : it.word = ⟨#[108, 111, 97, 100]⟩ := ew
    rw [opQ_load] at ea eb ec en
    rw [e0, insX_load, ea, eb, insQ_load L j ⟨105, [⟨#[108, 111, 97, 100]⟩, x1, x2], ok⟩ x1 x2 rfl]
    have r1 := (reg_nat x1 hx1).1
    have r2 := (reg_nat x2 hx2).1
    simp only [regVal_nat x1, regVal_nat x2]
    exact ⟨rfl, ⟨r1, r2⟩, trivial, .inl (by kernel_rfl)⟩
  | store_ x1 x2 hx1 hx2 =>
    have e0 : it.word = ⟨#[115, 116, 111, 114, 101]⟩ := ew
    rw [opQ_store] at ea eb ec en
    rw [e0, insX_store, ea, eb, insQ_store L j ⟨105, [⟨#[115, 116, 111, 114, 101]⟩, x1, x2], ok⟩ x1 x2 rfl]
    have r1 := (reg_nat x1 hx1).1
    have r2 := (reg_nat x2 hx2).1
    simp only [regVal_nat x1, regVal_nat x2]
    exact ⟨rfl, ⟨r1, r2⟩, trivial, .inl (by kernel_rfl)⟩
  | add_ x1 x2 x3 hx1 hx2 hx3 =>
    have e0 : it.word = ⟨#[97, 100, 100]⟩ := ew
    rw [opQ_add] at ea eb ec en
    rw [e0, insX_add, ea, eb, ec, insQ_add L j ⟨105, [⟨#[97, 100, 100]⟩, x1, x2, x3], ok⟩ x1 x2 x3 rfl]
    have r1 := (reg_nat x1 hx1).1
    have r2 := (reg_nat x2 hx2).1
    have r3 := (reg_nat x3 hx3).1
    simp only [regVal_nat x1, regVal_nat x2, regVal_nat x3]
    exact ⟨rfl, ⟨by decide, r1, r2, r3⟩, trivial, .inl (by kernel_rfl)⟩
  | sub_ x1 x2 x3 hx1 hx2 hx3 =>
    have e0 : it.word = ⟨#[115, 117, 98]⟩ := ew
    rw [opQ_sub] at ea eb ec en
    rw [e0, insX_sub, ea, eb, ec, insQ_sub L j ⟨105, [⟨#[115, 117, 98]⟩, x1, x2, x3], ok⟩ x1 x2 x3 rfl]
    have r1 := (reg_nat x1 hx1).1
    have r2 := (reg_nat x2 hx2).1
    have r3 := (reg_nat x3 hx3).1
    simp only [regVal_nat x1, regVal_nat x2, regVal_nat x3]
    exact ⟨rfl, ⟨by decide, r1, r2, r3⟩, trivial, .inl (by kernel_rfl)⟩
  | mul_ x1 x2 x3 hx1 hx2 hx3 =>
    have e0 : it.word = ⟨#[109, 117, 108]⟩ := ew
    rw [opQ_mul] at ea eb ec en
    rw [e0, insX_mul, ea, eb, ec, insQ_mul L j ⟨105, [⟨#[109, 117, 108]⟩, x1, x2, x3], ok⟩ x1 x2 x3 rfl]
    have r1 := (reg_nat x1 hx1).1
    have r2 := (reg_nat x2 hx2).1
    have r3 := (reg_nat x3 hx3).1
    simp only [regVal_nat x1, regVal_nat x2, regVal_nat x3]
    exact ⟨rfl, ⟨by decide, r1, r2, r3⟩, trivial, .inl (by kernel_rfl)⟩
  | read_ x1 hx1 =>
    have e0 : it.word = ⟨#[114, 101, 97, 100]⟩ := ew
    rw [opQ_read] at ea eb ec en
    rw [e0, insX_read, ea, insQ_read L j ⟨105, [⟨#[114, 101, 97, 100]⟩, x1], ok⟩ x1 rfl]
    have r1 := (reg_nat x1 hx1).1
    simp only [regVal_nat x1]
    exact ⟨rfl, r1, trivial, .inl (by kernel_rfl)⟩
  | write_ x1 hx1 =>
    have e0 : it.word = ⟨#[119, 114, 105, 116, 101]⟩ := ew
    rw [opQ_write] at ea eb ec en
    rw [e0, insX_write, ea, insQ_write L j ⟨105, [⟨#[119, 114, 105, 116, 101]⟩, x1], ok⟩ x1 rfl]
    have r1 := (reg_nat x1 hx1).1
    simp only [regVal_nat x1]
    exact ⟨rfl, r1, trivial, .inl (by kernel_rfl)⟩
  | jump_ x1 hx1 =>
    have e0 : it.word = ⟨#[106, 117, 109, 112]⟩ := ew
    rw [nameQ_jump] at em
    rw [e0, insX_jump, em, insQ_jump L j ⟨105, [⟨#[106, 117, 109, 112]⟩, x1], ok⟩ x1 rfl]
    obtain ⟨g1, g2⟩ := hlab (by kernel_rfl)
    have g1' : f (labM F k x1) = labTo L j x1 := g1
    exact ⟨by simp only [insAt]; rw [g1'], trivial, g2, .inr trivial⟩
  | call_ x1 hx1 =>
    have e0 : it.word = ⟨#[99, 97, 108, 108]⟩ := ew
    rw [nameQ_call] at em
    rw [e0, insX_call, em, insQ_call L j ⟨105, [⟨#[99, 97, 108, 108]⟩, x1], ok⟩ x1 rfl]
    obtain ⟨g1, g2⟩ := hfn (by kernel_rfl)
    have g1' : f (fnM F x1) = fnTo L x1 := g1
    exact ⟨by simp only [insAt]; rw [g1'], trivial, g2, .inl (by kernel_rfl)⟩
  | less_ x1 x2 x3 hx1 hx2 hx3 =>
    have e0 : it.word = ⟨#[108, 101, 115, 115]⟩ := ew
    rw [opQ_less] at ea eb ec en
    rw [nameQ_less] at em
    rw [e0, insX_less, ea, eb, em, insQ_less L j ⟨105, [⟨#[108, 101, 115, 115]⟩, x1, x2, x3], ok⟩ x1 x2 x3 rfl]
    have r1 := (reg_nat x1 hx1).1
    have r2 := (reg_nat x2 hx2).1
    simp only [regVal_nat x1, regVal_nat x2]
    obtain ⟨g1, g2⟩ := hlab (by kernel_rfl)
    have g1' : f (labM F k x3) = labTo L j x3 := g1
    exact ⟨by simp only [insAt]; rw [g1'], ⟨r1, r2⟩, g2, .inl (by kernel_rfl)⟩
  | same_ x1 x2 x3 hx1 hx2 hx3 =>
    have e0 : it.word = ⟨#[115, 97, 109, 101]⟩ := ew
    rw [opQ_same] at ea eb ec en
    rw [nameQ_same] at em
    rw [e0, insX_same, ea, eb, em, insQ_same L j ⟨105, [⟨#[115, 97, 109, 101]⟩, x1, x2, x3], ok⟩ x1 x2 x3 rfl]
    have r1 := (reg_nat x1 hx1).1
    have r2 := (reg_nat x2 hx2).1
    simp only [regVal_nat x1, regVal_nat x2]
    obtain ⟨g1, g2⟩ := hlab (by kernel_rfl)
    have g1' : f (labM F k x3) = labTo L j x3 := g1
    exact ⟨by simp only [insAt]; rw [g1'], ⟨r1, r2⟩, g2, .inl (by kernel_rfl)⟩
  | back_  =>
    have e0 : it.word = ⟨#[98, 97, 99, 107]⟩ := ew
    rw [e0, insX_back, insQ_back L j ⟨105, [⟨#[98, 97, 99, 107]⟩], ok⟩  rfl]
    exact ⟨rfl, trivial, trivial, .inr trivial⟩
  | stop_  =>
    have e0 : it.word = ⟨#[115, 116, 111, 112]⟩ := ew
    rw [e0, insX_stop, insQ_stop L j ⟨105, [⟨#[115, 116, 111, 112]⟩], ok⟩  rfl]
    exact ⟨rfl, trivial, trivial, .inr trivial⟩

end Go.Proofs.YtfpgjkbjbbgciaaGreatDoor
