import Derived.Test.YtfpgjkbjbbgciaaGreatDoorMf33
set_option maxRecDepth 100000
set_option maxHeartbeats 8000000
namespace Go.Proofs.YtfpgjkbjbbgciaaGreatDoor
open Sp
def labM (F : List FnM) (k : Nat) (x : ByteArray) : Int:=(lenF (F.take k) : Int) + (((match F[k]? with | none => none | some f => zbc (zb1 f.its) x).getD 0 : Nat) : Int)
def fnM (F : List FnM) (x : ByteArray) : Int:=(lenF (F.take ((zbc (zaR F) x).getD 0)) : Int)
def insX (w : ByteArray) (a b c n l f : Int) : Ins :=
 if isW w [106,117,109,112] = true then .jump l
 else if isW w [108,101,115,115] = true then .less a.toNat b.toNat l
 else if isW w [115,97,109,101] = true then .same a.toNat b.toNat l
 else if isW w [99,97,108,108] = true then .call f
 else if isW w [98,97,99,107] = true then .back
 else if isW w [115,116,111,112] = true then .stop
 else if isW w [115,101,116] = true then .set a.toNat n
 else if isW w [109,111,118] = true then .mov a.toNat b.toNat
 else if isW w [97,100,100] = true then .alu 0 a.toNat b.toNat c.toNat
 else if isW w [115,117,98] = true then .alu 1 a.toNat b.toNat c.toNat
 else if isW w [109,117,108] = true then .alu 2 a.toNat b.toNat c.toNat
 else if isW w [105,110,99] = true then .inc a.toNat n
 else if isW w [108,111,97,100] = true then .load a.toNat b.toNat
 else if isW w [115,116,111,114,101] = true then .store a.toNat b.toNat
 else if isW w [114,101,97,100] = true then .read a.toNat
 else .write a.toNat
def insM (F : List FnM) (k : Nat) (i : It) : Ins:=insX i.word i.a i.b i.c i.n (labM F k i.nm) (fnM F i.nm)
theorem zkF (a b c n l f : Int) : insX ⟨#[115,101,116]⟩ a b c n l f = .set a.toNat n:=by kernel_rfl
theorem zkG (a b c n l f : Int) : insX ⟨#[105,110,99]⟩ a b c n l f = .inc a.toNat n:=by kernel_rfl
theorem zkH (a b c n l f : Int) : insX ⟨#[109,111,118]⟩ a b c n l f = .mov a.toNat b.toNat:=by kernel_rfl
theorem zix (a b c n l f : Int) : insX ⟨#[108,111,97,100]⟩ a b c n l f = .load a.toNat b.toNat:=by kernel_rfl
theorem zgT (a b c n l f : Int) : insX ⟨#[115,116,111,114,101]⟩ a b c n l f = .store a.toNat b.toNat:=by kernel_rfl
theorem zkI (a b c n l f : Int) : insX ⟨#[97,100,100]⟩ a b c n l f = .alu 0 a.toNat b.toNat c.toNat:=by kernel_rfl
theorem zkJ (a b c n l f : Int) : insX ⟨#[115,117,98]⟩ a b c n l f = .alu 1 a.toNat b.toNat c.toNat:=by kernel_rfl
theorem zkK (a b c n l f : Int) : insX ⟨#[109,117,108]⟩ a b c n l f = .alu 2 a.toNat b.toNat c.toNat:=by kernel_rfl
theorem ziy (a b c n l f : Int) : insX ⟨#[114,101,97,100]⟩ a b c n l f = .read a.toNat:=by kernel_rfl
theorem zgU (a b c n l f : Int) : insX ⟨#[119,114,105,116,101]⟩ a b c n l f = .write a.toNat:=by kernel_rfl
theorem ziz (a b c n l f : Int) : insX ⟨#[106,117,109,112]⟩ a b c n l f = .jump l:=by kernel_rfl
theorem zi0 (a b c n l f : Int) : insX ⟨#[99,97,108,108]⟩ a b c n l f = .call f:=by kernel_rfl
theorem zi1 (a b c n l f : Int) : insX ⟨#[108,101,115,115]⟩ a b c n l f = .less a.toNat b.toNat l:=by kernel_rfl
theorem zi2 (a b c n l f : Int) : insX ⟨#[115,97,109,101]⟩ a b c n l f = .same a.toNat b.toNat l:=by kernel_rfl
theorem zi3 (a b c n l f : Int) : insX ⟨#[98,97,99,107]⟩ a b c n l f = .back:=by kernel_rfl
theorem zi4 (a b c n l f : Int) : insX ⟨#[115,116,111,112]⟩ a b c n l f = .stop:=by kernel_rfl
theorem znI (x1 x2 : ByteArray) (ok : Bool) : opQ ⟨105,[⟨#[115,101,116]⟩,x1,x2],ok⟩ = ⟨⟨#[]⟩,zas x1,0,0,zca x2⟩:=by kernel_rfl
theorem znJ (x1 x2 : ByteArray) (ok : Bool) : opQ ⟨105,[⟨#[105,110,99]⟩,x1,x2],ok⟩ = ⟨⟨#[]⟩,zas x1,0,0,zca x2⟩:=by kernel_rfl
theorem znK (x1 x2 : ByteArray) (ok : Bool) : opQ ⟨105,[⟨#[109,111,118]⟩,x1,x2],ok⟩ = ⟨⟨#[]⟩,zas x1,zas x2,0,0⟩:=by kernel_rfl
theorem zkL (x1 x2 : ByteArray) (ok : Bool) : opQ ⟨105,[⟨#[108,111,97,100]⟩,x1,x2],ok⟩ = ⟨⟨#[]⟩,zas x1,zas x2,0,0⟩:=by kernel_rfl
theorem zi5 (x1 x2 : ByteArray) (ok : Bool) : opQ ⟨105,[⟨#[115,116,111,114,101]⟩,x1,x2],ok⟩ = ⟨⟨#[]⟩,zas x1,zas x2,0,0⟩:=by kernel_rfl
theorem znL (x1 x2 x3 : ByteArray) (ok : Bool) : opQ ⟨105,[⟨#[97,100,100]⟩,x1,x2,x3],ok⟩ = ⟨⟨#[]⟩,zas x1,zas x2,zas x3,0⟩:=by kernel_rfl
theorem znM (x1 x2 x3 : ByteArray) (ok : Bool) : opQ ⟨105,[⟨#[115,117,98]⟩,x1,x2,x3],ok⟩ = ⟨⟨#[]⟩,zas x1,zas x2,zas x3,0⟩:=by kernel_rfl
theorem znN (x1 x2 x3 : ByteArray) (ok : Bool) : opQ ⟨105,[⟨#[109,117,108]⟩,x1,x2,x3],ok⟩ = ⟨⟨#[]⟩,zas x1,zas x2,zas x3,0⟩:=by kernel_rfl
theorem zkM (x1 : ByteArray) (ok : Bool) : opQ ⟨105,[⟨#[114,101,97,100]⟩,x1],ok⟩ = ⟨⟨#[]⟩,zas x1,0,0,0⟩:=by kernel_rfl
theorem zi6 (x1 : ByteArray) (ok : Bool) : opQ ⟨105,[⟨#[119,114,105,116,101]⟩,x1],ok⟩ = ⟨⟨#[]⟩,zas x1,0,0,0⟩:=by kernel_rfl
theorem zgV (x1 : ByteArray) (ok : Bool) : zc0 ⟨105,[⟨#[106,117,109,112]⟩,x1],ok⟩ = x1:=by kernel_rfl
theorem zgW (x1 : ByteArray) (ok : Bool) : zc0 ⟨105,[⟨#[99,97,108,108]⟩,x1],ok⟩ = x1:=by kernel_rfl
theorem zkN (x1 x2 x3 : ByteArray) (ok : Bool) : opQ ⟨105,[⟨#[108,101,115,115]⟩,x1,x2,x3],ok⟩ = ⟨x3,zas x1,zas x2,0,0⟩:=by kernel_rfl
theorem zgX (x1 x2 x3 : ByteArray) (ok : Bool) : zc0 ⟨105,[⟨#[108,101,115,115]⟩,x1,x2,x3],ok⟩ = x3:=by kernel_rfl
theorem zkO (x1 x2 x3 : ByteArray) (ok : Bool) : opQ ⟨105,[⟨#[115,97,109,101]⟩,x1,x2,x3],ok⟩ = ⟨x3,zas x1,zas x2,0,0⟩:=by kernel_rfl
theorem zgY (x1 x2 x3 : ByteArray) (ok : Bool) : zc0 ⟨105,[⟨#[115,97,109,101]⟩,x1,x2,x3],ok⟩ = x3:=by kernel_rfl
theorem zak (x : ByteArray) : (zas x).toNat = regN x:=by
 unfold zas regN
 split
 ·rfl
 ·rename_i h; have : reg x < 0:=by omega
  rw [show (reg x).toNat = 0 from Int.toNat_of_nonpos (by omega)]; rfl
theorem zi7 (x : ByteArray) (h : (zbj x).2 = true) : zca x = (zbj x).1:=if_pos h
def Goes (N : Nat) : Ins → Prop
 | .jump to => InC N to
 | .less _ _ to => InC N to
 | .same _ _ to => InC N to
 | .call to => InC N to
 | _ => True
def Ends : Ins → Prop
 | .jump _ => True
 | .back => True
 | .stop => True
 | _ => False
theorem zpI (q : Said) (h5 : q.kind = 105) (Fm : Form q.kept) (it : It) (line : Int) (hkey : it.key = keyQ q line) (F : List FnM) (k : Nat) (L : List Said) (j N : Nat) (f : Int → Int)
  (hlab : zaz (q.word 0) = true → f (labM F k q.last) = zfo L j q.last ∧ InC N (labM F k q.last))
  (hfn : zaQ (q.word 0) = true → f (fnM F q.last) = fnTo L q.last ∧ InC N (fnM F q.last)) :
  insQ L j q = ziv f (insM F k it) ∧ zlO (insM F k it) ∧ Goes N (insM F k it) ∧ (ends (q.word 0) = false ∨ Ends (insM F k it)):=by
 have ew : it.word = zdS q:=congrArg Key.word hkey
 have ea : it.a = (opQ q).a:=congrArg Key.a hkey
 have eb : it.b = (opQ q).b:=congrArg Key.b hkey
 have ec : it.c = (opQ q).c:=congrArg Key.c hkey
 have en : it.n = (opQ q).n:=congrArg Key.n hkey
 have em : it.nm = zc0 q:=congrArg Key.nm hkey
 clear hkey
 obtain ⟨kd,kp,ok⟩:=q
 simp only at h5 Fm
 subst h5
 unfold insM
 cases Fm with
 | set_ x1 x2 hx1 hx2 =>
  have e0 : it.word = ⟨#[115,101,116]⟩:=ew
  rw [znI] at ea eb ec en
  rw [e0,zkF,ea,en,zps L j ⟨105,[⟨#[115,101,116]⟩,x1,x2],ok⟩ x1 x2 rfl]
  have r1:=(zaF x1 hx1).1
  simp only [zak x1,zi7 x2 hx2]
  exact ⟨rfl,r1,trivial,.inl (by kernel_rfl)⟩
 | inc_ x1 x2 hx1 hx2 =>
  have e0 : it.word = ⟨#[105,110,99]⟩:=ew
  rw [znJ] at ea eb ec en
  rw [e0,zkG,ea,en,zpx L j ⟨105,[⟨#[105,110,99]⟩,x1,x2],ok⟩ x1 x2 rfl]
  have r1:=(zaF x1 hx1).1
  simp only [zak x1,zi7 x2 hx2]
  exact ⟨rfl,r1,trivial,.inl (by kernel_rfl)⟩
 | mov_ x1 x2 hx1 hx2 =>
  have e0 : it.word = ⟨#[109,111,118]⟩:=ew
  rw [znK] at ea eb ec en
  rw [e0,zkH,ea,eb,zpt L j ⟨105,[⟨#[109,111,118]⟩,x1,x2],ok⟩ x1 x2 rfl]
  have r1:=(zaF x1 hx1).1
  have r2:=(zaF x2 hx2).1
  simp only [zak x1,zak x2]
  exact ⟨rfl,⟨r1,r2⟩,trivial,.inl (by kernel_rfl)⟩
 | load_ x1 x2 hx1 hx2 =>
  have e0 : it.word = ⟨#[108,111,97,100]⟩:=ew
  rw [zkL] at ea eb ec en
  rw [e0,zix,ea,eb,zny L j ⟨105,[⟨#[108,111,97,100]⟩,x1,x2],ok⟩ x1 x2 rfl]
  have r1:=(zaF x1 hx1).1
  have r2:=(zaF x2 hx2).1
  simp only [zak x1,zak x2]
  exact ⟨rfl,⟨r1,r2⟩,trivial,.inl (by kernel_rfl)⟩
 | store_ x1 x2 hx1 hx2 =>
  have e0 : it.word = ⟨#[115,116,111,114,101]⟩:=ew
  rw [zi5] at ea eb ec en
  rw [e0,zgT,ea,eb,zlD L j ⟨105,[⟨#[115,116,111,114,101]⟩,x1,x2],ok⟩ x1 x2 rfl]
  have r1:=(zaF x1 hx1).1
  have r2:=(zaF x2 hx2).1
  simp only [zak x1,zak x2]
  exact ⟨rfl,⟨r1,r2⟩,trivial,.inl (by kernel_rfl)⟩
 | add_ x1 x2 x3 hx1 hx2 hx3 =>
  have e0 : it.word = ⟨#[97,100,100]⟩:=ew
  rw [znL] at ea eb ec en
  rw [e0,zkI,ea,eb,ec,zpu L j ⟨105,[⟨#[97,100,100]⟩,x1,x2,x3],ok⟩ x1 x2 x3 rfl]
  have r1:=(zaF x1 hx1).1
  have r2:=(zaF x2 hx2).1
  have r3:=(zaF x3 hx3).1
  simp only [zak x1,zak x2,zak x3]
  exact ⟨rfl,⟨by decide,r1,r2,r3⟩,trivial,.inl (by kernel_rfl)⟩
 | sub_ x1 x2 x3 hx1 hx2 hx3 =>
  have e0 : it.word = ⟨#[115,117,98]⟩:=ew
  rw [znM] at ea eb ec en
  rw [e0,zkJ,ea,eb,ec,zpv L j ⟨105,[⟨#[115,117,98]⟩,x1,x2,x3],ok⟩ x1 x2 x3 rfl]
  have r1:=(zaF x1 hx1).1
  have r2:=(zaF x2 hx2).1
  have r3:=(zaF x3 hx3).1
  simp only [zak x1,zak x2,zak x3]
  exact ⟨rfl,⟨by decide,r1,r2,r3⟩,trivial,.inl (by kernel_rfl)⟩
 | mul_ x1 x2 x3 hx1 hx2 hx3 =>
  have e0 : it.word = ⟨#[109,117,108]⟩:=ew
  rw [znN] at ea eb ec en
  rw [e0,zkK,ea,eb,ec,zpw L j ⟨105,[⟨#[109,117,108]⟩,x1,x2,x3],ok⟩ x1 x2 x3 rfl]
  have r1:=(zaF x1 hx1).1
  have r2:=(zaF x2 hx2).1
  have r3:=(zaF x3 hx3).1
  simp only [zak x1,zak x2,zak x3]
  exact ⟨rfl,⟨by decide,r1,r2,r3⟩,trivial,.inl (by kernel_rfl)⟩
 | read_ x1 hx1 =>
  have e0 : it.word = ⟨#[114,101,97,100]⟩:=ew
  rw [zkM] at ea eb ec en
  rw [e0,ziy,ea,znz L j ⟨105,[⟨#[114,101,97,100]⟩,x1],ok⟩ x1 rfl]
  have r1:=(zaF x1 hx1).1
  simp only [zak x1]
  exact ⟨rfl,r1,trivial,.inl (by kernel_rfl)⟩
 | write_ x1 hx1 =>
  have e0 : it.word = ⟨#[119,114,105,116,101]⟩:=ew
  rw [zi6] at ea eb ec en
  rw [e0,zgU,ea,zlE L j ⟨105,[⟨#[119,114,105,116,101]⟩,x1],ok⟩ x1 rfl]
  have r1:=(zaF x1 hx1).1
  simp only [zak x1]
  exact ⟨rfl,r1,trivial,.inl (by kernel_rfl)⟩
 | jump_ x1 hx1 =>
  have e0 : it.word = ⟨#[106,117,109,112]⟩:=ew
  rw [zgV] at em
  rw [e0,ziz,em,zns L j ⟨105,[⟨#[106,117,109,112]⟩,x1],ok⟩ x1 rfl]
  obtain ⟨g1,g2⟩:=hlab (by kernel_rfl)
  have g1' : f (labM F k x1) = zfo L j x1:=g1
  exact ⟨by simp only [ziv]; rw [g1'],trivial,g2,.inr trivial⟩
 | call_ x1 hx1 =>
  have e0 : it.word = ⟨#[99,97,108,108]⟩:=ew
  rw [zgW] at em
  rw [e0,zi0,em,znv L j ⟨105,[⟨#[99,97,108,108]⟩,x1],ok⟩ x1 rfl]
  obtain ⟨g1,g2⟩:=hfn (by kernel_rfl)
  have g1' : f (fnM F x1) = fnTo L x1:=g1
  exact ⟨by simp only [ziv]; rw [g1'],trivial,g2,.inl (by kernel_rfl)⟩
 | less_ x1 x2 x3 hx1 hx2 hx3 =>
  have e0 : it.word = ⟨#[108,101,115,115]⟩:=ew
  rw [zkN] at ea eb ec en
  rw [zgX] at em
  rw [e0,zi1,ea,eb,em,znt L j ⟨105,[⟨#[108,101,115,115]⟩,x1,x2,x3],ok⟩ x1 x2 x3 rfl]
  have r1:=(zaF x1 hx1).1
  have r2:=(zaF x2 hx2).1
  simp only [zak x1,zak x2]
  obtain ⟨g1,g2⟩:=hlab (by kernel_rfl)
  have g1' : f (labM F k x3) = zfo L j x3:=g1
  exact ⟨by simp only [ziv]; rw [g1'],⟨r1,r2⟩,g2,.inl (by kernel_rfl)⟩
 | same_ x1 x2 x3 hx1 hx2 hx3 =>
  have e0 : it.word = ⟨#[115,97,109,101]⟩:=ew
  rw [zkO] at ea eb ec en
  rw [zgY] at em
  rw [e0,zi2,ea,eb,em,znu L j ⟨105,[⟨#[115,97,109,101]⟩,x1,x2,x3],ok⟩ x1 x2 x3 rfl]
  have r1:=(zaF x1 hx1).1
  have r2:=(zaF x2 hx2).1
  simp only [zak x1,zak x2]
  obtain ⟨g1,g2⟩:=hlab (by kernel_rfl)
  have g1' : f (labM F k x3) = zfo L j x3:=g1
  exact ⟨by simp only [ziv]; rw [g1'],⟨r1,r2⟩,g2,.inl (by kernel_rfl)⟩
 | back_  =>
  have e0 : it.word = ⟨#[98,97,99,107]⟩:=ew
  rw [e0,zi3,znw L j ⟨105,[⟨#[98,97,99,107]⟩],ok⟩  rfl]
  exact ⟨rfl,trivial,trivial,.inr trivial⟩
 | stop_  =>
  have e0 : it.word = ⟨#[115,116,111,112]⟩:=ew
  rw [e0,zi4,znx L j ⟨105,[⟨#[115,116,111,112]⟩],ok⟩  rfl]
  exact ⟨rfl,trivial,trivial,.inr trivial⟩
end Go.Proofs.YtfpgjkbjbbgciaaGreatDoor
