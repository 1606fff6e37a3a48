import Derived.Test.YtfpgjkbjbbgciaaGreatDoorMe18
import Derived.Test.YtfpgjkbjbbgciaaGreatDoorMe22
import Derived.Laws.Externs
set_option maxRecDepth 100000
set_option maxHeartbeats 8000000
namespace Go.Proofs.YtfpgjkbjbbgciaaGreatDoor
open Sp
def labM (F : List FnM) (k : Nat) (x : ByteArray) : Int:=(lenF (F.take k) : Int) + (((match F[k]? with | none => none | some f => zbC (zcc f.its) x).getD 0 : Nat) : Int)
def fnM (F : List FnM) (x : ByteArray) : Int:=(lenF (F.take ((zbC (zbh F) x).getD 0)) : Int)
def insX (w : ByteArray) (a b c n l f : Int) : Ins :=
 if isW w [106,117,109,112] = true then .jump l
 else if isW w [108,101,115,115] = true then .less a.toNat b.toNat l
 else if isW w [115,97,109,101] = true then .same a.toNat b.toNat l
 else if isW w [99,97,108,108] = true then .call f
 else if isW w [98,97,99,107] = true then .back
 else if isW w [115,116,111,112] = true then .stop
 else if isW w [115,101,116] = true then .set a.toNat n
 else if isW w [109,111,118] = true then .mov a.toNat b.toNat
 else if isW w [97,100,100] = true then .alu 0 a.toNat b.toNat c.toNat
 else if isW w [115,117,98] = true then .alu 1 a.toNat b.toNat c.toNat
 else if isW w [109,117,108] = true then .alu 2 a.toNat b.toNat c.toNat
 else if isW w [105,110,99] = true then .inc a.toNat n
 else if isW w [108,111,97,100] = true then .load a.toNat b.toNat
 else if isW w [115,116,111,114,101] = true then .store a.toNat b.toNat
 else if isW w [114,101,97,100] = true then .read a.toNat
 else .write a.toNat
def insM (F : List FnM) (k : Nat) (i : It) : Ins:=insX i.word i.a i.b i.c i.n (labM F k i.nm) (fnM F i.nm)
theorem znu (a b c n l f : Int) : insX ⟨#[115,101,116]⟩ a b c n l f = .set a.toNat n:=by kernel_rfl
theorem znv (a b c n l f : Int) : insX ⟨#[105,110,99]⟩ a b c n l f = .inc a.toNat n:=by kernel_rfl
theorem znw (a b c n l f : Int) : insX ⟨#[109,111,118]⟩ a b c n l f = .mov a.toNat b.toNat:=by kernel_rfl
theorem zk0 (a b c n l f : Int) : insX ⟨#[108,111,97,100]⟩ a b c n l f = .load a.toNat b.toNat:=by kernel_rfl
theorem ziA (a b c n l f : Int) : insX ⟨#[115,116,111,114,101]⟩ a b c n l f = .store a.toNat b.toNat:=by kernel_rfl
theorem znx (a b c n l f : Int) : insX ⟨#[97,100,100]⟩ a b c n l f = .alu 0 a.toNat b.toNat c.toNat:=by kernel_rfl
theorem zny (a b c n l f : Int) : insX ⟨#[115,117,98]⟩ a b c n l f = .alu 1 a.toNat b.toNat c.toNat:=by kernel_rfl
theorem znz (a b c n l f : Int) : insX ⟨#[109,117,108]⟩ a b c n l f = .alu 2 a.toNat b.toNat c.toNat:=by kernel_rfl
theorem zk1 (a b c n l f : Int) : insX ⟨#[114,101,97,100]⟩ a b c n l f = .read a.toNat:=by kernel_rfl
theorem ziB (a b c n l f : Int) : insX ⟨#[119,114,105,116,101]⟩ a b c n l f = .write a.toNat:=by kernel_rfl
theorem zk2 (a b c n l f : Int) : insX ⟨#[106,117,109,112]⟩ a b c n l f = .jump l:=by kernel_rfl
theorem zk3 (a b c n l f : Int) : insX ⟨#[99,97,108,108]⟩ a b c n l f = .call f:=by kernel_rfl
theorem zk4 (a b c n l f : Int) : insX ⟨#[108,101,115,115]⟩ a b c n l f = .less a.toNat b.toNat l:=by kernel_rfl
theorem zk5 (a b c n l f : Int) : insX ⟨#[115,97,109,101]⟩ a b c n l f = .same a.toNat b.toNat l:=by kernel_rfl
theorem zhy (a b c n l f : Int) : insX ⟨#[98,97,99,107]⟩ a b c n l f = .back:=by kernel_rfl
theorem zk6 (a b c n l f : Int) : insX ⟨#[115,116,111,112]⟩ a b c n l f = .stop:=by kernel_rfl
theorem zqW (x1 x2 : ByteArray) (ok : Bool) : opQ ⟨105,[⟨#[115,101,116]⟩,x1,x2],ok⟩ = ⟨⟨#[]⟩,za6 x1,0,0,zcz x2⟩:=by kernel_rfl
theorem zqX (x1 x2 : ByteArray) (ok : Bool) : opQ ⟨105,[⟨#[105,110,99]⟩,x1,x2],ok⟩ = ⟨⟨#[]⟩,za6 x1,0,0,zcz x2⟩:=by kernel_rfl
theorem zqY (x1 x2 : ByteArray) (ok : Bool) : opQ ⟨105,[⟨#[109,111,118]⟩,x1,x2],ok⟩ = ⟨⟨#[]⟩,za6 x1,za6 x2,0,0⟩:=by kernel_rfl
theorem zn0 (x1 x2 : ByteArray) (ok : Bool) : opQ ⟨105,[⟨#[108,111,97,100]⟩,x1,x2],ok⟩ = ⟨⟨#[]⟩,za6 x1,za6 x2,0,0⟩:=by kernel_rfl
theorem zk7 (x1 x2 : ByteArray) (ok : Bool) : opQ ⟨105,[⟨#[115,116,111,114,101]⟩,x1,x2],ok⟩ = ⟨⟨#[]⟩,za6 x1,za6 x2,0,0⟩:=by kernel_rfl
theorem zqZ (x1 x2 x3 : ByteArray) (ok : Bool) : opQ ⟨105,[⟨#[97,100,100]⟩,x1,x2,x3],ok⟩ = ⟨⟨#[]⟩,za6 x1,za6 x2,za6 x3,0⟩:=by kernel_rfl
theorem zra (x1 x2 x3 : ByteArray) (ok : Bool) : opQ ⟨105,[⟨#[115,117,98]⟩,x1,x2,x3],ok⟩ = ⟨⟨#[]⟩,za6 x1,za6 x2,za6 x3,0⟩:=by kernel_rfl
theorem zrb (x1 x2 x3 : ByteArray) (ok : Bool) : opQ ⟨105,[⟨#[109,117,108]⟩,x1,x2,x3],ok⟩ = ⟨⟨#[]⟩,za6 x1,za6 x2,za6 x3,0⟩:=by kernel_rfl
theorem zn1 (x1 : ByteArray) (ok : Bool) : opQ ⟨105,[⟨#[114,101,97,100]⟩,x1],ok⟩ = ⟨⟨#[]⟩,za6 x1,0,0,0⟩:=by kernel_rfl
theorem zk8 (x1 : ByteArray) (ok : Bool) : opQ ⟨105,[⟨#[119,114,105,116,101]⟩,x1],ok⟩ = ⟨⟨#[]⟩,za6 x1,0,0,0⟩:=by kernel_rfl
theorem ziC (x1 : ByteArray) (ok : Bool) : zdi ⟨105,[⟨#[106,117,109,112]⟩,x1],ok⟩ = x1:=by kernel_rfl
theorem ziD (x1 : ByteArray) (ok : Bool) : zdi ⟨105,[⟨#[99,97,108,108]⟩,x1],ok⟩ = x1:=by kernel_rfl
theorem zn2 (x1 x2 x3 : ByteArray) (ok : Bool) : opQ ⟨105,[⟨#[108,101,115,115]⟩,x1,x2,x3],ok⟩ = ⟨x3,za6 x1,za6 x2,0,0⟩:=by kernel_rfl
theorem ziE (x1 x2 x3 : ByteArray) (ok : Bool) : zdi ⟨105,[⟨#[108,101,115,115]⟩,x1,x2,x3],ok⟩ = x3:=by kernel_rfl
theorem zn3 (x1 x2 x3 : ByteArray) (ok : Bool) : opQ ⟨105,[⟨#[115,97,109,101]⟩,x1,x2,x3],ok⟩ = ⟨x3,za6 x1,za6 x2,0,0⟩:=by kernel_rfl
theorem ziF (x1 x2 x3 : ByteArray) (ok : Bool) : zdi ⟨105,[⟨#[115,97,109,101]⟩,x1,x2,x3],ok⟩ = x3:=by kernel_rfl
theorem zau (x : ByteArray) : (za6 x).toNat = regN x:=by
 unfold za6 regN
 split
 ·rfl
 ·rename_i h; have : reg x < 0:=by omega
  rw [show (reg x).toNat = 0 from Int.toNat_of_nonpos (by omega)]; rfl
theorem zk9 (x : ByteArray) (h : (zbv x).2 = true) : zcz x = (zbv x).1:=if_pos h
def Goes (N : Nat) : Ins → Prop
 | .jump to => InC N to
 | .less _ _ to => InC N to
 | .same _ _ to => InC N to
 | .call to => InC N to
 | _ => True
def Ends : Ins → Prop
 | .jump _ => True
 | .back => True
 | .stop => True
 | _ => False
theorem zty (q : Said) (h5 : q.kind = 105) (Fm : Form q.kept) (it : It) (line : Int) (hkey : it.key = keyQ q line) (F : List FnM) (k : Nat) (L : List Said) (j N : Nat) (f : Int → Int)
  (hlab : zbp (q.word 0) = true → f (labM F k q.last) = zg1 L j q.last ∧ InC N (labM F k q.last))
  (hfn : zcl (q.word 0) = true → f (fnM F q.last) = fnTo L q.last ∧ InC N (fnM F q.last)) :
  insQ L j q = zky f (insM F k it) ∧ zg2 (insM F k it) ∧ Goes N (insM F k it) ∧ (ends (q.word 0) = false ∨ Ends (insM F k it)):=by
 have ew : it.word = zdP q:=congrArg Key.word hkey
 have ea : it.a = (opQ q).a:=congrArg Key.a hkey
 have eb : it.b = (opQ q).b:=congrArg Key.b hkey
 have ec : it.c = (opQ q).c:=congrArg Key.c hkey
 have en : it.n = (opQ q).n:=congrArg Key.n hkey
 have em : it.nm = zdi q:=congrArg Key.nm hkey
 clear hkey
 obtain ⟨kd,kp,ok⟩:=q
 simp only at h5 Fm
 subst h5
 unfold insM
 cases Fm with
 | set_ x1 x2 hx1 hx2 =>
  have e0 : it.word = ⟨#[115,101,116]⟩:=ew
  rw [zqW] at ea eb ec en
  rw [e0,znu,ea,en,ztm L j ⟨105,[⟨#[115,101,116]⟩,x1,x2],ok⟩ x1 x2 rfl]
  have r1:=(zbd x1 hx1).1
  simp only [zau x1,zk9 x2 hx2]
  exact ⟨rfl,r1,trivial,.inl (by kernel_rfl)⟩
 | inc_ x1 x2 hx1 hx2 =>
  have e0 : it.word = ⟨#[105,110,99]⟩:=ew
  rw [zqX] at ea eb ec en
  rw [e0,znv,ea,en,ztr L j ⟨105,[⟨#[105,110,99]⟩,x1,x2],ok⟩ x1 x2 rfl]
  have r1:=(zbd x1 hx1).1
  simp only [zau x1,zk9 x2 hx2]
  exact ⟨rfl,r1,trivial,.inl (by kernel_rfl)⟩
 | mov_ x1 x2 hx1 hx2 =>
  have e0 : it.word = ⟨#[109,111,118]⟩:=ew
  rw [zqY] at ea eb ec en
  rw [e0,znw,ea,eb,ztn L j ⟨105,[⟨#[109,111,118]⟩,x1,x2],ok⟩ x1 x2 rfl]
  have r1:=(zbd x1 hx1).1
  have r2:=(zbd x2 hx2).1
  simp only [zau x1,zau x2]
  exact ⟨rfl,⟨r1,r2⟩,trivial,.inl (by kernel_rfl)⟩
 | load_ x1 x2 hx1 hx2 =>
  have e0 : it.word = ⟨#[108,111,97,100]⟩:=ew
  rw [zn0] at ea eb ec en
  rw [e0,zk0,ea,eb,zqN L j ⟨105,[⟨#[108,111,97,100]⟩,x1,x2],ok⟩ x1 x2 rfl]
  have r1:=(zbd x1 hx1).1
  have r2:=(zbd x2 hx2).1
  simp only [zau x1,zau x2]
  exact ⟨rfl,⟨r1,r2⟩,trivial,.inl (by kernel_rfl)⟩
 | store_ x1 x2 hx1 hx2 =>
  have e0 : it.word = ⟨#[115,116,111,114,101]⟩:=ew
  rw [zk7] at ea eb ec en
  rw [e0,ziA,ea,eb,zo4 L j ⟨105,[⟨#[115,116,111,114,101]⟩,x1,x2],ok⟩ x1 x2 rfl]
  have r1:=(zbd x1 hx1).1
  have r2:=(zbd x2 hx2).1
  simp only [zau x1,zau x2]
  exact ⟨rfl,⟨r1,r2⟩,trivial,.inl (by kernel_rfl)⟩
 | add_ x1 x2 x3 hx1 hx2 hx3 =>
  have e0 : it.word = ⟨#[97,100,100]⟩:=ew
  rw [zqZ] at ea eb ec en
  rw [e0,znx,ea,eb,ec,zto L j ⟨105,[⟨#[97,100,100]⟩,x1,x2,x3],ok⟩ x1 x2 x3 rfl]
  have r1:=(zbd x1 hx1).1
  have r2:=(zbd x2 hx2).1
  have r3:=(zbd x3 hx3).1
  simp only [zau x1,zau x2,zau x3]
  exact ⟨rfl,⟨by decide,r1,r2,r3⟩,trivial,.inl (by kernel_rfl)⟩
 | sub_ x1 x2 x3 hx1 hx2 hx3 =>
  have e0 : it.word = ⟨#[115,117,98]⟩:=ew
  rw [zra] at ea eb ec en
  rw [e0,zny,ea,eb,ec,ztp L j ⟨105,[⟨#[115,117,98]⟩,x1,x2,x3],ok⟩ x1 x2 x3 rfl]
  have r1:=(zbd x1 hx1).1
  have r2:=(zbd x2 hx2).1
  have r3:=(zbd x3 hx3).1
  simp only [zau x1,zau x2,zau x3]
  exact ⟨rfl,⟨by decide,r1,r2,r3⟩,trivial,.inl (by kernel_rfl)⟩
 | mul_ x1 x2 x3 hx1 hx2 hx3 =>
  have e0 : it.word = ⟨#[109,117,108]⟩:=ew
  rw [zrb] at ea eb ec en
  rw [e0,znz,ea,eb,ec,ztq L j ⟨105,[⟨#[109,117,108]⟩,x1,x2,x3],ok⟩ x1 x2 x3 rfl]
  have r1:=(zbd x1 hx1).1
  have r2:=(zbd x2 hx2).1
  have r3:=(zbd x3 hx3).1
  simp only [zau x1,zau x2,zau x3]
  exact ⟨rfl,⟨by decide,r1,r2,r3⟩,trivial,.inl (by kernel_rfl)⟩
 | read_ x1 hx1 =>
  have e0 : it.word = ⟨#[114,101,97,100]⟩:=ew
  rw [zn1] at ea eb ec en
  rw [e0,zk1,ea,zqO L j ⟨105,[⟨#[114,101,97,100]⟩,x1],ok⟩ x1 rfl]
  have r1:=(zbd x1 hx1).1
  simp only [zau x1]
  exact ⟨rfl,r1,trivial,.inl (by kernel_rfl)⟩
 | write_ x1 hx1 =>
  have e0 : it.word = ⟨#[119,114,105,116,101]⟩:=ew
  rw [zk8] at ea eb ec en
  rw [e0,ziB,ea,zo5 L j ⟨105,[⟨#[119,114,105,116,101]⟩,x1],ok⟩ x1 rfl]
  have r1:=(zbd x1 hx1).1
  simp only [zau x1]
  exact ⟨rfl,r1,trivial,.inl (by kernel_rfl)⟩
 | jump_ x1 hx1 =>
  have e0 : it.word = ⟨#[106,117,109,112]⟩:=ew
  rw [ziC] at em
  rw [e0,zk2,em,zqH L j ⟨105,[⟨#[106,117,109,112]⟩,x1],ok⟩ x1 rfl]
  obtain ⟨g1,g2⟩:=hlab (by kernel_rfl)
  have g1' : f (labM F k x1) = zg1 L j x1:=g1
  exact ⟨by simp only [zky]; rw [g1'],trivial,g2,.inr trivial⟩
 | call_ x1 hx1 =>
  have e0 : it.word = ⟨#[99,97,108,108]⟩:=ew
  rw [ziD] at em
  rw [e0,zk3,em,zqK L j ⟨105,[⟨#[99,97,108,108]⟩,x1],ok⟩ x1 rfl]
  obtain ⟨g1,g2⟩:=hfn (by kernel_rfl)
  have g1' : f (fnM F x1) = fnTo L x1:=g1
  exact ⟨by simp only [zky]; rw [g1'],trivial,g2,.inl (by kernel_rfl)⟩
 | less_ x1 x2 x3 hx1 hx2 hx3 =>
  have e0 : it.word = ⟨#[108,101,115,115]⟩:=ew
  rw [zn2] at ea eb ec en
  rw [ziE] at em
  rw [e0,zk4,ea,eb,em,zqI L j ⟨105,[⟨#[108,101,115,115]⟩,x1,x2,x3],ok⟩ x1 x2 x3 rfl]
  have r1:=(zbd x1 hx1).1
  have r2:=(zbd x2 hx2).1
  simp only [zau x1,zau x2]
  obtain ⟨g1,g2⟩:=hlab (by kernel_rfl)
  have g1' : f (labM F k x3) = zg1 L j x3:=g1
  exact ⟨by simp only [zky]; rw [g1'],⟨r1,r2⟩,g2,.inl (by kernel_rfl)⟩
 | same_ x1 x2 x3 hx1 hx2 hx3 =>
  have e0 : it.word = ⟨#[115,97,109,101]⟩:=ew
  rw [zn3] at ea eb ec en
  rw [ziF] at em
  rw [e0,zk5,ea,eb,em,zqJ L j ⟨105,[⟨#[115,97,109,101]⟩,x1,x2,x3],ok⟩ x1 x2 x3 rfl]
  have r1:=(zbd x1 hx1).1
  have r2:=(zbd x2 hx2).1
  simp only [zau x1,zau x2]
  obtain ⟨g1,g2⟩:=hlab (by kernel_rfl)
  have g1' : f (labM F k x3) = zg1 L j x3:=g1
  exact ⟨by simp only [zky]; rw [g1'],⟨r1,r2⟩,g2,.inl (by kernel_rfl)⟩
 | back_  =>
  have e0 : it.word = ⟨#[98,97,99,107]⟩:=ew
  rw [e0,zhy,zqL L j ⟨105,[⟨#[98,97,99,107]⟩],ok⟩  rfl]
  exact ⟨rfl,trivial,trivial,.inr trivial⟩
 | stop_  =>
  have e0 : it.word = ⟨#[115,116,111,112]⟩:=ew
  rw [e0,zk6,zqM L j ⟨105,[⟨#[115,116,111,112]⟩],ok⟩  rfl]
  exact ⟨rfl,trivial,trivial,.inr trivial⟩
end Go.Proofs.YtfpgjkbjbbgciaaGreatDoor
namespace Go.Proofs.YtfpgjkbjbbgciaaGreatDoor
open Sp
def zeu (F : List FnM) (k : Nat) (l : List It) : List (Ins × Int):=l.map (fun i => (insM F k i,i.line))
def zct (F : List FnM) : Nat → List FnM → List (Ins × Int)
 | _,[] => []
 | k,f :: r => zeu F k (zaj f.its) ++ zct F (k + 1) r
def zao (F : List FnM) : List (Ins × Int):=zct F 0 F
theorem zkA (F : List FnM) (k : Nat) (R : List FnM) : (zct F k R).length = lenF R:=by
 induction R generalizing k with
 | nil => rfl
 | cons f R ih => rw [zeb,zct,List.length_append,ih]; simp [zeu]
theorem zdw (F : List FnM) : (zao F).length = lenF F:=zkA F 0 F
theorem zft (F : List FnM) (n : Nat) (R : List FnM) (k : Nat) (f : FnM) (hk : R[k]? = some f) (m : Nat) (it : It) (hm : (zaj f.its)[m]? = some it) :
  (zct F n R)[lenF (R.take k) + m]? = some (insM F (n + k) it,it.line):=by
 induction R generalizing n k with
 | nil => simp at hk
 | cons g R ih =>
  have hl : (zeu F n (zaj g.its)).length = (zaj g.its).length:=by simp [zeu]
  cases k with
  | zero =>
   have e : g = f:=by simpa using hk
   subst e
   have hlt : m < (zaj g.its).length:=(List.getElem?_eq_some_iff.1 hm).1
   rw [zct,List.take_zero,show lenF [] + m = m by simp [lenF],List.getElem?_append_left (by omega)]
   unfold zeu
   rw [List.getElem?_map,hm]
   rfl
  | succ k =>
   rw [List.getElem?_cons_succ] at hk
   rw [zct,List.take_succ_cons,zeb,List.getElem?_append_right (by omega),hl]
   rw [show (zaj g.its).length + lenF (R.take k) + m - (zaj g.its).length = lenF (R.take k) + m by omega,ih (n + 1) k hk]
   rw [show n + 1 + k = n + (k + 1) by omega]
theorem zjs (R : List FnM) (p : Nat) (hp : p < lenF R) : ∃ k f m it,R[k]? = some f ∧ (zaj f.its)[m]? = some it ∧ p = lenF (R.take k) + m:=by
 induction R generalizing p with
 | nil => simp [lenF] at hp
 | cons g R ih =>
  rw [zeb] at hp
  by_cases h : p < (zaj g.its).length
  ·exact ⟨0,g,p,(zaj g.its)[p],rfl,List.getElem?_eq_getElem h,by simp [lenF]⟩
  ·obtain ⟨k,f,m,it,a,b,c⟩:=ih (p - (zaj g.its).length) (by omega)
   exact ⟨k + 1,f,m,it,by rw [List.getElem?_cons_succ]; exact a,b,by rw [List.take_succ_cons,zeb]; omega⟩
structure Right (L : List Said) (F : List FnM) : Prop where
 good : Good L
 first : zal L 0 = []
 fns : F.map FnM.fn = zaN L 0
 some_ : 0 < F.length
def zfR (C : List (Ins × Int)) (z : Int) : Int:=(C[z.toNat]?.map (·.2)).getD 0 - 1
theorem zn4 {C : List (Ins × Int)} {p : Nat} {q : Ins × Int} (h : C[p]? = some q) : zfR C (p : Int) = q.2 - 1:=by
 unfold zfR; rw [Int.toNat_natCast,h]; rfl
theorem ztz (L : List Said) (o d : Nat) (ho : o < L.length) (h1 : L[o].kind = 102) (hd : o + d < L.length) (hno : NoFn L (o + 1) (o + d)) : zfe L (o + d) = (o : Int):=by
 induction d with
 | zero => exact zg5 L o ho h1
 | succ d ih =>
  rw [show o + (d + 1) = o + d + 1 by omega,zem L (o + d) hd (hno _ hd (by omega) (Nat.le_refl _))]
  exact ih (by omega) (fun m hm a b => hno m hm a (by omega))
theorem zt0 (L : List Said) {o j : Nat} (ho : o < L.length) (h1 : L[o].kind = 102) (hoj : o ≤ j) (hj : j < L.length) (hno : NoFn L (o + 1) j) (x : ByteArray) : zjf L j x = zbo L x (o + 1):=by
 obtain ⟨d,rfl⟩:=Nat.exists_eq_add_of_le hoj
 unfold zjf
 rw [ztz L o d ho h1 hj hno]
 congr 1
theorem zt1 {i : Ins} (h : Ends i) (h1 : ∀ to,i ≠ .jump to) (h2 : i ≠ .back) (h3 : i ≠ .stop) : False:=by
 cases i <;> first | exact absurd rfl (h1 _) | exact h2 rfl | exact h3 rfl | exact h
namespace Right
variable {L : List Said} {F : List FnM}
theorem wf (R : Right L F) : WfAll L:=fun q hq => by
 obtain ⟨k,hk,rfl⟩:=List.mem_iff_getElem.1 hq
 exact R.good.wf k hk
theorem fn_at (R : Right L F) {k : Nat} {f : FnM} (hk : F[k]? = some f) : ∃ o,∃ ho : o < L.length,L[o].kind = 102 ∧ f.line = (o : Int) + 1 ∧ f.its.map It.key = zal L (o + 1) ∧ cnt L (o + 1) = lenF (F.take k):=by
 obtain ⟨o,ho,_,b,c,d,e⟩:=znt L R.wf 0 [] (by rw [R.first]; rfl) F R.fns k f hk
 refine ⟨o,ho,b,c,d,?_⟩
 rw [zdZ L o ho (by omega),e]; simp [cnt,zaj]
theorem place (R : Right L F) {k o : Nat} {f : FnM} (hk : F[k]? = some f) (hb : f.its.map It.key = zal L (o + 1)) (hc : cnt L (o + 1) = lenF (F.take k)) {j : Nat} (hj : j < L.length) (hoj : o + 1 ≤ j) (h5 : L[j].kind = 105) (hno : NoFn L (o + 1) j) :
  ∃ it,(zao F)[cnt L j]? = some (insM F k it,it.line) ∧ it.key = keyQ L[j] ((j : Int) + 1):=by
 obtain ⟨it,a,b⟩:=zhw L R.wf (o + 1) f.its hb j hj hoj h5 hno
 refine ⟨it,?_,b⟩
 have:=zft F 0 F k f hk _ it a
 rw [← hc,Nat.zero_add] at this
 have hle:=znq L hoj
 rw [show cnt L (o + 1) + (cnt L j - cnt L (o + 1)) = cnt L j by omega] at this
 exact this
theorem next (R : Right L F) {k o : Nat} {f : FnM} (hk : F[k]? = some f) (hb : f.its.map It.key = zal L (o + 1)) (hc : cnt L (o + 1) = lenF (F.take k)) {i : Nat} (hoi : o + 1 ≤ i) (hno : NoFn L (o + 1) (i - 1)) (hn : zdW L (za0 L i)) :
  cnt L i < (zao F).length ∧ zfR (zao F) (cnt L i : Int) = za0 L i:=by
 obtain ⟨j,hn,_,_⟩:=hn
 obtain ⟨hj,hij,h5,hcj,hnf⟩:=znr L i j hn
 obtain ⟨it,ha,hkey⟩:=R.place hk hb hc hj (by omega) h5 (hno.trans hnf (by omega))
 rw [hcj] at ha
 refine ⟨(List.getElem?_eq_some_iff.1 ha).1,?_⟩
 rw [zn4 ha,hn]
 have : it.line = (j : Int) + 1:=congrArg Key.line hkey
 show it.line - 1 = _
 omega
theorem label (R : Right L F) {k o : Nat} {f : FnM} (hk : F[k]? = some f) (hb : f.its.map It.key = zal L (o + 1)) (hc : cnt L (o + 1) = lenF (F.take k)) {x : ByteArray} (hx : 0 ≤ zbo L x (o + 1)) :
  ∃ p : Nat,zbC (zcc f.its) x = some p ∧ labM F k x = ((lenF (F.take k) + p : Nat) : Int) ∧ lenF (F.take k) + p < (zao F).length ∧ zfR (zao F) (labM F k x) = za0 L (zbo L x (o + 1)).toNat:=by
 obtain ⟨j,hj0⟩:=Int.eq_ofNat_of_zero_le hx
 obtain ⟨a,hj,hoj,h8,hno⟩:=zgD L R.wf x (o + 1) f.its hb 0 j hj0
 rw [Nat.zero_add] at a
 have hle:=znq L hoj
 have hl : labM F k x = ((lenF (F.take k) + (cnt L j - cnt L (o + 1)) : Nat) : Int):=by
  unfold labM
  rw [hk]
  show (lenF (F.take k) : Int) + (((zbC (zcc f.its) x).getD 0 : Nat) : Int) = _
  rw [a]; simp
 have hp : lenF (F.take k) + (cnt L j - cnt L (o + 1)) = cnt L j:=by omega
 obtain ⟨q1,q2⟩:=R.next hk hb hc hoj (fun m hm a b => hno m hm a (by omega)) (R.good.lab j hj h8)
 refine ⟨_,a,hl,by rw [hp]; exact q1,?_⟩
 rw [hl,hp,q2,hj0]
 rfl
theorem function (R : Right L F) {x : ByteArray} (hx : 0 ≤ zca L x 0) :
  ∃ k,∃ _ : k < F.length,zbC (zbh F) x = some k ∧ fnM F x = (lenF (F.take k) : Int) ∧ lenF (F.take k) < (zao F).length ∧ zfR (zao F) (fnM F x) = fnTo L x:=by
 obtain ⟨o,ho0⟩:=Int.eq_ofNat_of_zero_le hx
 obtain ⟨k,f,hk,hfind,hline⟩:=zjr L x 0 F R.fns 0 o ho0
 rw [Nat.zero_add] at hfind
 obtain ⟨o',ho,h1,hl',hb,hc⟩:=R.fn_at hk
 have e : o' = o:=by omega
 subst e
 have hm : fnM F x = (lenF (F.take k) : Int):=by unfold fnM; rw [hfind]; rfl
 obtain ⟨q1,q2⟩:=R.next hk hb hc (Nat.le_refl _) (fun m hm a b => by omega) (R.good.fn o' ho h1)
 refine ⟨k,(List.getElem?_eq_some_iff.1 hk).1,hfind,hm,by rw [← hc]; exact q1,?_⟩
 rw [hm,← hc,q2]
 unfold fnTo
 rw [ho0]
 congr 1
theorem asks_l (R : Right L F) {j : Nat} (hj : j < L.length) (h5 : L[j].kind = 105) (ha : zbp (L[j].word 0) = true) : 0 ≤ zjf L j L[j].last:=by
 have:=R.good.miss j hj
 unfold zcq at this
 rw [List.getElem?_eq_getElem hj] at this
 simp only [h5,if_true,ha] at this
 simpa using this
theorem asks_f (R : Right L F) {j : Nat} (hj : j < L.length) (h5 : L[j].kind = 105) (ha : zcl (L[j].word 0) = true) : 0 ≤ zca L L[j].last 0:=by
 have:=R.good.miss j hj
 have hl : zbp (L[j].word 0) = false:=by
  cases h : zbp (L[j].word 0) with
  | false => rfl
  | true => rw [zhh _ h] at ha; cases ha
 unfold zcq at this
 rw [List.getElem?_eq_getElem hj] at this
 simp only [h5,if_true,ha,hl] at this
 simpa using this
theorem it_at (R : Right L F) {k m : Nat} {f : FnM} {it : It} (hk : F[k]? = some f) (hm : (zaj f.its)[m]? = some it) :
  ∃ j,∃ hj : j < L.length,L[j].kind = 105 ∧ it.key = keyQ L[j] ((j : Int) + 1) ∧ lenF (F.take k) + m = cnt L j ∧
   (zbp (L[j].word 0) = true → ∃ p : Nat,zbC (zcc f.its) L[j].last = some p ∧ labM F k L[j].last = ((lenF (F.take k) + p : Nat) : Int) ∧ lenF (F.take k) + p < (zao F).length ∧ zfR (zao F) (labM F k L[j].last) = zg1 L j L[j].last) ∧
   (zcl (L[j].word 0) = true → ∃ k2,∃ _ : k2 < F.length,zbC (zbh F) L[j].last = some k2 ∧ fnM F L[j].last = (lenF (F.take k2) : Int) ∧ lenF (F.take k2) < (zao F).length ∧ zfR (zao F) (fnM F L[j].last) = fnTo L L[j].last) ∧
   (ends (L[j].word 0) = false → cnt L j + 1 < (zao F).length ∧ zfR (zao F) ((cnt L j + 1 : Nat) : Int) = za0 L (j + 1)):=by
 obtain ⟨o,ho,h1,_,hb,hc⟩:=R.fn_at hk
 obtain ⟨j,hj,hoj,h5,hkey,hcj,hno⟩:=zgC L R.wf (o + 1) f.its hb m it hm
 refine ⟨j,hj,h5,hkey,by omega,fun ha => ?_,fun ha => R.function (R.asks_f hj h5 ha),fun he => ?_⟩
 ·have h0:=R.asks_l hj h5 ha
  have e:=zt0 L ho h1 (by omega) hj hno L[j].last
  rw [e] at h0
  obtain ⟨p,a,b,c,d⟩:=R.label hk hb hc h0
  exact ⟨p,a,b,c,by rw [d]; unfold zg1; rw [e]⟩
 ·have hv:=R.good.next j hj h5 he
  obtain ⟨q1,q2⟩:=R.next hk hb hc (show o + 1 ≤ j + 1 by omega) (by simpa using hno) hv
  rw [zhv L j hj h5] at q1 q2
  exact ⟨q1,q2⟩
theorem at_ (R : Right L F) {p : Nat} (hp : p < (zao F).length) :
  ∃ k it j,∃ hj : j < L.length,(zao F)[p]? = some (insM F k it,it.line) ∧ it.line = (j : Int) + 1 ∧ insQ L j L[j] = zky (zfR (zao F)) (insM F k it) ∧ zg2 (insM F k it) ∧ Goes (zao F).length (insM F k it) ∧
   (Ends (insM F k it) ∨ (p + 1 < (zao F).length ∧ za0 L (j + 1) = zfR (zao F) ((p : Int) + 1))):=by
 rw [zdw] at hp
 obtain ⟨k,f,m,it,hk,hm,e⟩:=zjs F p hp
 have hput:=zft F 0 F k f hk m it hm
 rw [Nat.zero_add,← e] at hput
 obtain ⟨j,hj,h5,hkey,hpl,hlab,hfn,hnx⟩:=R.it_at hk hm
 obtain ⟨q1,q2,q3,q4⟩:=zty L[j] h5 (R.good.form j hj h5) it _ hkey F k L j (zao F).length (zfR (zao F))
  (fun ha => by obtain ⟨p',_,b,c,d⟩:=hlab ha; exact ⟨d,_,b,c⟩) (fun ha => by obtain ⟨k2,_,_,b,c,d⟩:=hfn ha; exact ⟨d,_,b,c⟩)
 refine ⟨k,it,j,hj,hput,congrArg Key.line hkey,q1,q2,q3,?_⟩
 rcases q4 with q4 | q4
 ·obtain ⟨a,b⟩:=hnx q4
  have hp' : p = cnt L j:=by omega
  exact .inr ⟨by omega,by rw [← b,hp']; rfl⟩
 ·exact .inl q4
theorem sim (R : Right L F) : SimOk L (zao F) (zfR (zao F)):=⟨fun p hp => by
 obtain ⟨k,it,j,hj,hput,hl,hq,_,_,hn⟩:=R.at_ hp
 have e : (zao F)[p] = (insM F k it,it.line):=(List.getElem?_eq_some_iff.1 hput).2
 refine ⟨j,by rw [zn4 hput]; show it.line - 1 = _; omega,hj,by rw [e]; exact hq,by rw [e]; exact hl,?_⟩
 rw [e]
 intro _ _ h1 h2 h3
 rcases hn with hn | hn
 ·exact (zt1 hn h1 h2 h3).elim
 ·exact hn.2⟩
theorem codeOk (R : Right L F) : CodeOk (zao F):=by
 refine ⟨?_,?_,fun p hp => ?_,fun p hp => ?_⟩
 ·obtain ⟨f,hf⟩ : ∃ f,F[0]? = some f:=⟨F[0]'R.some_,List.getElem?_eq_getElem R.some_⟩
  obtain ⟨o,ho,h1,_,hb,hc⟩:=R.fn_at hf
  exact Nat.lt_of_le_of_lt (Nat.zero_le _) (R.next hf hb hc (Nat.le_refl _) (fun m hm a b => by omega) (R.good.fn o ho h1)).1
 ·by_cases h : 0 < (zao F).length
  ·obtain ⟨k,f,m,it,hk,hm,e⟩:=zjs F ((zao F).length - 1) (by rw [← zdw]; omega)
   obtain ⟨j,hj,_,_,hpl,_⟩:=R.it_at hk hm
   have:=zvx L j
   have:=R.good.few
   omega
  ·omega
 ·obtain ⟨k,it,j,hj,hput,hl,hq,h4,_⟩:=R.at_ hp
  have e : (zao F)[p] = (insM F k it,it.line):=(List.getElem?_eq_some_iff.1 hput).2
  rw [e]; exact h4
 ·obtain ⟨k,it,j,hj,hput,hl,hq,h4,h5,hn⟩:=R.at_ hp
  have e : (zao F)[p] = (insM F k it,it.line):=(List.getElem?_eq_some_iff.1 hput).2
  rw [e]
  show zqU _ _ (insM F k it)
  revert hn h5
  generalize insM F k it = i
  intro h5 hn
  cases i <;> first | trivial | exact h5 | (rcases hn with hn | hn; exact False.elim hn; first | exact hn.1 | exact ⟨h5,hn.1⟩)
end Right
theorem zn5 (L : List Said) (i : Nat) (f : Fn) (r : List Fn) (h : zaN L i = f :: r) : f.line = (zdV L i : Int) + 1:=by
 by_cases hi : i < L.length
 ·by_cases h1 : L[i].kind = 102
  ·rw [zbO L i hi h1] at h
   rw [zdV,dif_pos hi,if_pos h1]
   injection h with h _
   rw [← h]
  ·rw [zbG L i hi h1] at h
   rw [zdV,dif_pos hi,if_neg h1]
   exact zn5 L (i + 1) f r h
 ·rw [zc3 L i hi] at h; cases h
termination_by L.length - i
theorem Right.begin {L : List Said} {F : List FnM} (R : Right L F) (inp : List Int) : zbl L inp = lift (zfR (zao F)) (zbe inp):=by
 obtain ⟨f,hf⟩ : ∃ f,F[0]? = some f:=⟨F[0]'R.some_,List.getElem?_eq_getElem R.some_⟩
 obtain ⟨o,ho,h1,hl,hb,hc⟩:=R.fn_at hf
 obtain ⟨q1,q2⟩:=R.next hf hb hc (Nat.le_refl _) (fun m hm a b => by omega) (R.good.fn o ho h1)
 have hfn:=R.fns
 cases F with
 | nil => simp at hf
 | cons g r =>
  have e : g = f:=by simpa using hf
  subst e
  have h2:=zn5 L 0 g.fn (r.map FnM.fn) (by rw [← hfn]; rfl)
  have h3 : zdV L 0 = o:=by
   have : g.fn.line = g.line:=rfl
   omega
  rw [hc] at q2
  unfold zbl
  rw [h3,← q2]
  rfl
end Go.Proofs.YtfpgjkbjbbgciaaGreatDoor
namespace Go.Proofs.YtfpgjkbjbbgciaaGreatDoor
open Go.RowKit Sp
def zeY (l : List Int) : Nat → Int
 | 0 => l.headD 0
 | k + 1 => min (zeY l k) (l[k + 1]?.getD 0)
def zeZ (l : List Int) : Nat → Int
 | 0 => l.headD 0
 | k + 1 => max (zeZ l k) (l[k + 1]?.getD 0)
theorem znG (w : World) (b cap : Nat) (l : List Int) (h0 : 0 < l.length) (hn : l.length ≤ 1000) (hc : ∀ j (h : j < l.length),w.cell? ⟨b,j,none⟩ = some (.int .i64 l[j])) :
  Calls Tryz.prog 247 #[.slice (some ⟨b,0,none⟩) l.length cap] w fun e w' => e = .returned (.int .i64 (zeY l (l.length - 1))) ∧ w' = w:=by
 have c0:=hc 0 h0
 have e0 : zeY l 0 = l[0]:=by cases l with | nil => simp at h0 | cons x r => rfl
 go_enter Tryz.func247,Tryz.ntmps247
 go_wp2
 go_loopw [4,3] (fun ti tm wr => ∃ k : Nat,1 ≤ k ∧ k ≤ l.length ∧ ti = .int .i64 (k : Int) ∧ tm = .int .i64 (zeY l (k - 1)) ∧ wr = w) (fun ti _ _ => l.length - (intOf ti).toNat)
 case atStart => exact ⟨1,by omega,by omega,rfl,by rw [e0],rfl⟩
 case round =>
  obtain ⟨k,h1,hk,rfl,rfl,rfl⟩:=hrel
  by_cases hlt : k < l.length
  ·have ck:=hc k hlt
   have hk0 : (0 : Int) ≤ (k : Int):=by omega
   have hk1 : (k : Int) < (l.length : Int):=by omega
   have HM : Hid (zeY l k = min (zeY l (k - 1)) l[k]):=by
    obtain ⟨k',rfl⟩ : ∃ k',k = k' + 1:=⟨k - 1,by omega⟩
    show min (zeY l k') (l[k' + 1]?.getD 0) = _
    rw [List.getElem?_eq_getElem hlt]; rfl
   clear hc c0
   generalize l[k] = x at ck HM
   generalize zeY l (k - 1) = y at HM
   go_wp2
   go_roundw
   case rel => exact ⟨k + 1,by omega,by omega,by go_num,by simp only [Nat.add_sub_cancel]; rw [HM.out],by first | rfl | trivial⟩
   case measure => simp [intOf]; omega
  ·obtain rfl : k = l.length:=by omega
   go_wp2
   go_ret
   exact ⟨rfl,rfl⟩
theorem znH (w : World) (b cap : Nat) (l : List Int) (h0 : 0 < l.length) (hn : l.length ≤ 1000) (hc : ∀ j (h : j < l.length),w.cell? ⟨b,j,none⟩ = some (.int .i64 l[j])) :
  Calls Tryz.prog 248 #[.slice (some ⟨b,0,none⟩) l.length cap] w fun e w' => e = .returned (.int .i64 (zeZ l (l.length - 1))) ∧ w' = w:=by
 have c0:=hc 0 h0
 have e0 : zeZ l 0 = l[0]:=by cases l with | nil => simp at h0 | cons x r => rfl
 go_enter Tryz.func248,Tryz.ntmps248
 go_wp2
 go_loopw [4,3] (fun ti tm wr => ∃ k : Nat,1 ≤ k ∧ k ≤ l.length ∧ ti = .int .i64 (k : Int) ∧ tm = .int .i64 (zeZ l (k - 1)) ∧ wr = w) (fun ti _ _ => l.length - (intOf ti).toNat)
 case atStart => exact ⟨1,by omega,by omega,rfl,by rw [e0],rfl⟩
 case round =>
  obtain ⟨k,h1,hk,rfl,rfl,rfl⟩:=hrel
  by_cases hlt : k < l.length
  ·have ck:=hc k hlt
   have hk0 : (0 : Int) ≤ (k : Int):=by omega
   have hk1 : (k : Int) < (l.length : Int):=by omega
   have HM : Hid (zeZ l k = max (zeZ l (k - 1)) l[k]):=by
    obtain ⟨k',rfl⟩ : ∃ k',k = k' + 1:=⟨k - 1,by omega⟩
    show max (zeZ l k') (l[k' + 1]?.getD 0) = _
    rw [List.getElem?_eq_getElem hlt]; rfl
   clear hc c0
   generalize l[k] = x at ck HM
   generalize zeZ l (k - 1) = y at HM
   go_wp2
   go_roundw
   case rel => exact ⟨k + 1,by omega,by omega,by go_num,by simp only [Nat.add_sub_cancel]; rw [HM.out],by first | rfl | trivial⟩
   case measure => simp [intOf]; omega
  ·obtain rfl : k = l.length:=by omega
   go_wp2
   go_ret
   exact ⟨rfl,rfl⟩
abbrev OutW (w : World) : World:=(w.alloc (.cells #[.int .i64 0] 22)).alloc (.cells #[.int .i64 0] 3)
theorem zeS (fn : Nat) (caps : Array Value) (w : World) (Q : World → Prop) (hfn : ∀ W,(callFunc fn caps).run Tryz.prog W = .ok (.enter fn caps) W)
  (hcall : Calls Tryz.prog fn caps (OutW w) fun e w1 => e = .returned (.tuple #[]) ∧ Q w1)
  (hQ : ∀ w1,Q w1 → w1.cell? ⟨w.heap.size,0,none⟩ = some (.int .i64 0) ∧ w1.cell? ⟨w.heap.size + 1,0,none⟩ = some (.int .i64 0) ∧ w1.frozen? ⟨w.heap.size,0,none⟩ = false ∧ w1.frozen? ⟨w.heap.size + 1,0,none⟩ = false) :
  Calls Tryz.prog 42 #[.func (.func fn) #[] caps] w fun e w' => e = .returned (.tuple #[.int .i64 0,.int .i64 0]) ∧ ∃ w1,Q w1 ∧ w' = (w1.setCell ⟨w.heap.size,0,none⟩ (.int .i64 0)).setCell ⟨w.heap.size + 1,0,none⟩ (.int .i64 0):=by
 have hmf : ∀ (fn : Go.Fn) (first cap : Array Value) (w : World),(Instr.makeFunc fn first cap).run Tryz.prog w = .ok (.func fn first cap) w:=fun _ _ _ _ => rfl
 go_enter_defers Tryz.func42,Tryz.ntmps42
 go_wp2_with (first | (refine hcall.mono ?_; rintro e w1 ⟨rfl,hq⟩; obtain ⟨z0,z1,f0,f1⟩:=hQ w1 hq))
 have y0 : ((w1.setCell ⟨w.heap.size,0,none⟩ (.int .i64 0)).setCell ⟨w.heap.size + 1,0,none⟩ (.int .i64 0)).cell? ⟨w.heap.size,0,none⟩ = some (.int .i64 0):=by
  rw [World.cell?_setCell_other]
  ·exact World.cell?_setCell_same w1 _ _ z0
  ·simp
 have y1 : ((w1.setCell ⟨w.heap.size,0,none⟩ (.int .i64 0)).setCell ⟨w.heap.size + 1,0,none⟩ (.int .i64 0)).cell? ⟨w.heap.size + 1,0,none⟩ = some (.int .i64 0):=by
  refine World.cell?_setCell_same (u:=.int .i64 0) _ _ _ ?_
  rw [World.cell?_setCell_other]
  ·exact z1
  ·simp
 generalize hX : (w1.setCell ⟨w.heap.size,0,none⟩ (.int .i64 0)).setCell ⟨w.heap.size + 1,0,none⟩ (.int .i64 0) = X at y0 y1 ⊢
 refine leaves_cons (f:=64) (args:=#[.pointer (some ⟨w.heap.size,0,none⟩),.pointer (some ⟨w.heap.size + 1,0,none⟩)]) (by simp) (by simp [go_sem]) ?_
 refine (zit w.heap.size _).mono ?_
 rintro e u' w'' ⟨rfl,rfl,rfl⟩
 exact ⟨.tuple #[.int .i64 0,.int .i64 0],by simp [results,Tryz.results42,go_sem,y0,y1],rfl,w1,hq,hX.symm⟩
theorem zcV (fn : Nat) (caps : Array Value) (w : World) (er ln : Int) (hfn : ∀ W,(callFunc fn caps).run Tryz.prog W = .ok (.enter fn caps) W)
  (hcall : Calls Tryz.prog fn caps (OutW w) fun e w1 => e = zah er ln ∧ Below (OutW w).heap.size (OutW w) w1) :
  Calls Tryz.prog 42 #[.func (.func fn) #[] caps] w fun e w' => e = .returned (.tuple #[.int .i64 er,.int .i64 ln]) ∧ Below w.heap.size w w':=by
 have hmf : ∀ (fn : Go.Fn) (first cap : Array Value) (w : World),(Instr.makeFunc fn first cap).run Tryz.prog w = .ok (.func fn first cap) w:=fun _ _ _ _ => rfl
 go_enter_defers Tryz.func42,Tryz.ntmps42
 go_wp2_with (first | (refine hcall.mono ?_; rintro e w1 ⟨rfl,hb⟩; obtain ⟨hc,hf⟩:=zgS hb))
 have z0 : w1.cell? ⟨w.heap.size,0,none⟩ = some (.int .i64 0):=by rw [hc _ _ (by simp; omega)]; simp
 have z1 : w1.cell? ⟨w.heap.size + 1,0,none⟩ = some (.int .i64 0):=by rw [hc _ _ (by simp)]; simp
 have f0 : w1.frozen? ⟨w.heap.size,0,none⟩ = false:=by rw [hf _ _ (by simp; omega)]; simp
 have f1 : w1.frozen? ⟨w.heap.size + 1,0,none⟩ = false:=by rw [hf _ _ (by simp)]; simp
 refine leaves_cons (f:=64) (args:=#[.pointer (some ⟨w.heap.size,0,none⟩),.pointer (some ⟨w.heap.size + 1,0,none⟩)]) (by simp) (by simp [go_sem]) ?_
 refine (zfj w.heap.size 0 0 er ln _ z0 z1 f0 f1).mono ?_
 rintro e u' w'' ⟨rfl,rfl,hb2,y0,y1⟩
 exact ⟨.tuple #[.int .i64 er,.int .i64 ln],by simp [results,Tryz.results42,go_sem,y0,y1],rfl,(zl4 _ _ _ hb).trans hb2⟩
end Go.Proofs.YtfpgjkbjbbgciaaGreatDoor
namespace Go.Proofs.YtfpgjkbjbbgciaaGreatDoor.Sp
theorem zwb (a b : List UInt8) : ba a ++ ba b = ba (a ++ b):=by
 apply ByteArray.ext
 simp [ba,ByteArray.data_append]
def zmQ (A B DA DL DB : List UInt8) : List (List UInt8) :=
 [[] ++ zd1 [[102,117,110,99],[109,97,105,110]] ++ [],
  [9] ++ zd1 [[115,101,116],A,DA] ++ [],
  [9] ++ zd1 [[115,101,116],B,DL] ++ [],
  [] ++ zd1 [[97,103,97,105,110] ++ [58]] ++ [],
  [9] ++ zd1 [[108,101,115,115],A,B,[109,111,114,101]] ++ [],
  [9] ++ zd1 [[98,97,99,107]] ++ [],
  [] ++ zd1 [[109,111,114,101] ++ [58]] ++ [],
  [9] ++ zd1 [[119,114,105,116,101],A] ++ [],
  [9] ++ zd1 [[105,110,99],A,DB] ++ [],
  [9] ++ zd1 [[106,117,109,112],[97,103,97,105,110]] ++ []]
def cntT (A B DA DL DB : ByteArray) : ByteArray:=ba [102,117,110,99,32,109,97,105,110,10,9,115,101,116,32] ++ A ++ ba [32] ++ DA ++ ba [10,9,115,101,116,32] ++ B ++ ba [32] ++ DL ++ ba [10,97,103,97,105,110,58,10,9,108,101,115,115,32] ++ A ++ ba [32] ++ B ++ ba [32,109,111,114,101,10,9,98,97,99,107,10,109,111,114,101,58,10,9,119,114,105,116,101,32] ++ A ++ ba [10,9,105,110,99,32] ++ A ++ ba [32] ++ DB ++ ba [10,9,106,117,109,112,32,97,103,97,105,110,10]
theorem zwc (A B DA DL DB : List UInt8) : cntT (ba A) (ba B) (ba DA) (ba DL) (ba DB) = ba (zmJ (zmQ A B DA DL DB)):=by
 unfold cntT
 simp only [zwb]
 refine congrArg ba ?_
 simp [zmJ,zmQ,zd1]
def cntL (A B DA DL DB : ByteArray) : List Said :=
 [⟨102,[ba [102,117,110,99],ba [109,97,105,110]],true⟩,⟨105,[ba [115,101,116],A,DA],true⟩,⟨105,[ba [115,101,116],B,DL],true⟩,⟨108,[ba [97,103,97,105,110]],true⟩,⟨105,[ba [108,101,115,115],A,B,ba [109,111,114,101]],true⟩,⟨105,[ba [98,97,99,107]],true⟩,⟨108,[ba [109,111,114,101]],true⟩,⟨105,[ba [119,114,105,116,101],A],true⟩,⟨105,[ba [105,110,99],A,DB],true⟩,⟨105,[ba [106,117,109,112],ba [97,103,97,105,110]],true⟩,⟨0,[],true⟩]
theorem zin {x : List UInt8} (h : (!x.isEmpty && x.all fun c => decide (33 ≤ c.toNat ∧ c.toNat < 127 ∧ ¬ c.toNat = 59)) = true) : Wd x:=by
 rw [Bool.and_eq_true] at h
 refine ⟨fun e => ?_,fun c hc => of_decide_eq_true (List.all_eq_true.1 h.2 c hc)⟩
 rw [e] at h
 exact absurd h.1 (by decide)
theorem zs7 (n : Int) : Wd (digL n):=⟨zvX n,fun c hc => by
 rcases zpP n c hc with e | e
 ·rw [e]; decide
 ·omega⟩
def regW (r : Nat) : List UInt8:=[114,UInt8.ofNat (48 + r)]
theorem zuN (r : Nat) (h : r < 8) : Wd (regW r):=⟨by simp [regW],fun c hc => by
 rcases List.mem_cons.1 hc with e | e
 ·rw [e]; decide
 ·rw [List.mem_singleton.1 e]
  have : (UInt8.ofNat (48 + r)).toNat = 48 + r:=by simp; omega
  omega⟩
theorem zuO (r : Nat) (h : r < 8) : opOk 82 (ba (regW r)) = true:=by
 have : reg (ba (regW r)) = (r : Int):=zsz r h
 unfold opOk
 rw [if_pos rfl,this]; simp
theorem zs8 (n : Int) (h : -9223372036854775808 ≤ n) (h' : n ≤ 9223372036854775807) : opOk 75 (ba (digL n)) = true:=by
 unfold opOk
 rw [if_neg (by decide),if_pos rfl,zgL n h h']
theorem blk0 : ∀ c ∈ ([] : List UInt8),c = 32 ∨ c = 9:=fun c hc => by cases hc
theorem blk9 : ∀ c ∈ ([9] : List UInt8),c = 32 ∨ c = 9:=fun _c hc => .inr (List.mem_singleton.1 hc)
theorem zuB (i k : Nat) (hi : i < 8) (hk : k < 8) (a l b : Int) (a0 : -9223372036854775808 ≤ a) (a1 : a ≤ 9223372036854775807) (l0 : -9223372036854775808 ≤ l) (l1 : l ≤ 9223372036854775807) (b0 : -9223372036854775808 ≤ b) (b1 : b ≤ 9223372036854775807) :
  (lines (cntT (ba (regW i)) (ba (regW k)) (ba (digL a)) (ba (digL l)) (ba (digL b)))).map say = cntL (ba (regW i)) (ba (regW k)) (ba (digL a)) (ba (digL l)) (ba (digL b)):=by
 have wi:=zuN i hi
 have wk:=zuN k hk
 have wa:=zs7 a
 have wl:=zs7 l
 have wb:=zs7 b
 have oi:=zuO i hi
 have ok:=zuO k hk
 have oa:=zs8 a a0 a1
 have ol:=zs8 l l0 l1
 have ob:=zs8 b b0 b1
 generalize regW i = A at *
 generalize regW k = B at *
 generalize digL a = DA at *
 generalize digL l = DL at *
 generalize digL b = DB at *
 have c1 : ∀ x ∈ ([[102,117,110,99],[109,97,105,110]] : List (List UInt8)),Wd x:=fun x hx => by
  simp only [List.mem_cons,List.not_mem_nil,or_false] at hx
  rcases hx with rfl | rfl <;> exact zin (by decide)
 have c2 : ∀ x ∈ ([[115,101,116],A,DA] : List (List UInt8)),Wd x:=fun x hx => by
  simp only [List.mem_cons,List.not_mem_nil,or_false] at hx
  rcases hx with rfl | rfl | rfl <;> first | assumption | exact zin (by decide)
 have c3 : ∀ x ∈ ([[115,101,116],B,DL] : List (List UInt8)),Wd x:=fun x hx => by
  simp only [List.mem_cons,List.not_mem_nil,or_false] at hx
  rcases hx with rfl | rfl | rfl <;> first | assumption | exact zin (by decide)
 have c4 : ∀ x ∈ ([[97,103,97,105,110] ++ [58]] : List (List UInt8)),Wd x:=fun x hx => by
  simp only [List.mem_cons,List.not_mem_nil,or_false] at hx
  rw [hx]; exact zin (by decide)
 have c5 : ∀ x ∈ ([[108,101,115,115],A,B,[109,111,114,101]] : List (List UInt8)),Wd x:=fun x hx => by
  simp only [List.mem_cons,List.not_mem_nil,or_false] at hx
  rcases hx with rfl | rfl | rfl | rfl <;> first | assumption | exact zin (by decide)
 have c6 : ∀ x ∈ ([[98,97,99,107]] : List (List UInt8)),Wd x:=fun x hx => by
  simp only [List.mem_cons,List.not_mem_nil,or_false] at hx
  rw [hx]; exact zin (by decide)
 have c7 : ∀ x ∈ ([[109,111,114,101] ++ [58]] : List (List UInt8)),Wd x:=fun x hx => by
  simp only [List.mem_cons,List.not_mem_nil,or_false] at hx
  rw [hx]; exact zin (by decide)
 have c8 : ∀ x ∈ ([[119,114,105,116,101],A] : List (List UInt8)),Wd x:=fun x hx => by
  simp only [List.mem_cons,List.not_mem_nil,or_false] at hx
  rcases hx with rfl | rfl <;> first | assumption | exact zin (by decide)
 have c9 : ∀ x ∈ ([[105,110,99],A,DB] : List (List UInt8)),Wd x:=fun x hx => by
  simp only [List.mem_cons,List.not_mem_nil,or_false] at hx
  rcases hx with rfl | rfl | rfl <;> first | assumption | exact zin (by decide)
 have c10 : ∀ x ∈ ([[106,117,109,112],[97,103,97,105,110]] : List (List UInt8)),Wd x:=fun x hx => by
  simp only [List.mem_cons,List.not_mem_nil,or_false] at hx
  rcases hx with rfl | rfl <;> exact zin (by decide)
 rw [zwc,zu4]
 have hL : zcb (zmJ (zmQ A B DA DL DB)) = zmQ A B DA DL DB ++ [[]]:=by
  have:=zmK (zmQ A B DA DL DB) [] (fun l hl => by
   simp only [zmQ,List.mem_cons,List.not_mem_nil,or_false] at hl
   rcases hl with e | e | e | e | e | e | e | e | e | e <;> rw [e]
   ·exact zce blk0 c1 zbu
   ·exact zce blk9 c2 zbu
   ·exact zce blk9 c3 zbu
   ·exact zce blk0 c4 zbu
   ·exact zce blk9 c5 zbu
   ·exact zce blk9 c6 zbu
   ·exact zce blk0 c7 zbu
   ·exact zce blk9 c8 zbu
   ·exact zce blk9 c9 zbu
   ·exact zce blk9 c10 zbu)
  rw [List.append_nil] at this
  exact this
 rw [hL]
 unfold zmQ cntL
 have nm1 : za7 (ba [109,97,105,110]) = true:=zge 109 [97,105,110] (by decide) (by decide) (by decide)
 have nm2 : za7 (ba [97,103,97,105,110]) = true:=zge 97 [103,97,105,110] (by decide) (by decide) (by decide)
 have nm3 : za7 (ba [109,111,114,101]) = true:=zge 109 [111,114,101] (by decide) (by decide) (by decide)
 have nl : ∀ (x : List UInt8),(x.getLast? == some 58) = false → ∀ y,¬ x = y ++ [58]:=fun x hx y e => by
  rw [e] at hx; simp at hx
 have sw : ∀ (x : List UInt8) (r : List (List UInt8)) (sh : List UInt8),¬ x = [102,117,110,99] → (x.getLast? == some 58) = false → ¬ x = [] → zaa (ba x) = sh → ¬ sh = [63] → r.length = sh.length → zaG sh (r.map ba) = true → sayW ((x :: r).map ba) = ⟨105,(x :: r).map ba,true⟩:=fun x r sh h1 h2 h3 h4 h5 h6 h7 => by
  rw [zvZ x r sh h1 (nl x h2) h3 h4 h5 h6,h7]
 simp only [List.map_cons,List.map_nil,List.cons_append,List.nil_append]
 have e1:=zcx blk0 c1 zbu
 have e2:=zcx blk9 c2 zbu
 have e3:=zcx blk9 c3 zbu
 have e4:=zcx blk0 c4 zbu
 have e5:=zcx blk9 c5 zbu
 have e6:=zcx blk9 c6 zbu
 have e7:=zcx blk0 c7 zbu
 have e8:=zcx blk9 c8 zbu
 have e9:=zcx blk9 c9 zbu
 have e10:=zcx blk9 c10 zbu
 have e11:=zcx blk0 (ws:=[]) (fun x hx => by cases hx) zbu
 rw [zvY,nm1] at e1
 rw [sw [115,101,116] [A,DA] [82,75] (by decide) (by decide) (by decide) (by kernel_rfl) (by decide) rfl (by simp [zaG,oi,oa])] at e2
 rw [sw [115,101,116] [B,DL] [82,75] (by decide) (by decide) (by decide) (by kernel_rfl) (by decide) rfl (by simp [zaG,ok,ol])] at e3
 rw [znV,nm2] at e4
 rw [sw [108,101,115,115] [A,B,[109,111,114,101]] [82,82,78] (by decide) (by decide) (by decide) (by kernel_rfl) (by decide) rfl (by simp [zaG,oi,ok]; exact nm3)] at e5
 rw [sw [98,97,99,107] [] [] (by decide) (by decide) (by decide) (by kernel_rfl) (by decide) rfl rfl] at e6
 rw [znV,nm3] at e7
 rw [sw [119,114,105,116,101] [A] [82] (by decide) (by decide) (by decide) (by kernel_rfl) (by decide) rfl (by simp [zaG,oi])] at e8
 rw [sw [105,110,99] [A,DB] [82,75] (by decide) (by decide) (by decide) (by kernel_rfl) (by decide) rfl (by simp [zaG,oi,ob])] at e9
 rw [sw [106,117,109,112] [[97,103,97,105,110]] [78] (by decide) (by decide) (by decide) (by kernel_rfl) (by decide) rfl (by simp [zaG]; exact nm2)] at e10
 simp only [List.nil_append,List.cons_append] at e1 e2 e3 e4 e5 e6 e7 e8 e9 e10 e11
 rw [e1,e2,e3,e4,e5,e6,e7,e8,e9,e10]
 have e12 : say (ba []) = ⟨0,[],true⟩:=e11
 rw [e12]
 rfl
end Go.Proofs.YtfpgjkbjbbgciaaGreatDoor.Sp
