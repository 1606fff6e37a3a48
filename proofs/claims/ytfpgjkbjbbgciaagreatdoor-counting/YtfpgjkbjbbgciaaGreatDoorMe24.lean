import Derived.Test.YtfpgjkbjbbgciaaGreatDoorMe22
set_option maxRecDepth 100000
set_option maxHeartbeats 8000000
namespace Go.Proofs.YtfpgjkbjbbgciaaGreatDoor
open Sp
structure Kn where
 regs : Nat → Rg
 cells : Nat → Rg
 next : Int
 behind : List Int
 steps : Int
def updR (f : Nat → Rg) (i : Nat) (v : Rg) : Nat → Rg:=fun j => if j = i then v else f j
def kn0 : Kn:=⟨fun _ => only 0,fun _ => only 0,0,[],0⟩
def Kn.goTo (k : Kn) (p : Int) : Kn:={ k with steps:=k.steps + 1,next:=p }
def zbL (r : Rg) : Option (Nat × Nat):=if 0 ≤ r.lo ∧ r.hi ≤ 15 then some (r.lo.toNat,r.hi.toNat) else none
def zbX (c : Nat → Rg) (a : Nat) : Nat → Rg
 | 0 => c a
 | n + 1 => (zbX c a n).or (c (a + (n + 1)))
def zaC (c : Nat → Rg) (a b : Nat) (v : Rg) : Nat → Rg:=if a = b then updR c a v else fun j => if a ≤ j ∧ j ≤ b then (c j).or v else c j
def zbs (k : Kn) (l r : Nat) (holds fails : Rg → Rg → Option (Rg × Rg)) (label : Int) : List Kn :=
 match holds (k.regs l) (k.regs r),fails (k.regs l) (k.regs r) with
 | some (a,b),some (c,d) => [{ k with regs:=updR (updR k.regs l a) r b }.goTo label,{ k with regs:=updR (updR k.regs l c) r d }.goTo (k.next + 1)]
 | some (a,b),none => [{ k with regs:=updR (updR k.regs l a) r b }.goTo label]
 | none,some (c,d) => [{ k with regs:=updR (updR k.regs l c) r d }.goTo (k.next + 1)]
 | none,none => [k.goTo label]
def zaz (i : Ins) (k : Kn) : Option (List Kn) :=
 match i with
 | .set r n => some [{ k with regs:=updR k.regs r (only n) }.goTo (k.next + 1)]
 | .mov r s => some [{ k with regs:=updR k.regs r (k.regs s) }.goTo (k.next + 1)]
 | .alu o r s t => some [{ k with regs:=updR k.regs r (if o = 0 then (k.regs s).plus (k.regs t) else if o = 1 then (if s = t then only 0 else (k.regs s).minus (k.regs t)) else (k.regs s).times (k.regs t)) }.goTo (k.next + 1)]
 | .inc r n => some [{ k with regs:=updR k.regs r ((k.regs r).plus (only n)) }.goTo (k.next + 1)]
 | .load r s => match zbL (k.regs s) with
  | none => none
  | some (a,b) => some [{ k with regs:=updR k.regs r (zbX k.cells a (b - a)) }.goTo (k.next + 1)]
 | .store r s => match zbL (k.regs r) with
  | none => none
  | some (a,b) => some [{ k with cells:=zaC k.cells a b (k.regs s) }.goTo (k.next + 1)]
 | .read r => some [{ k with regs:=updR k.regs r anyR }.goTo (k.next + 1)]
 | .write _ => some [k.goTo (k.next + 1)]
 | .jump to => some [k.goTo to]
 | .less l r to => if l = r then some [k.goTo (k.next + 1)] else some (zbs k l r zec zbi to)
 | .same l r to => if l = r then some [k.goTo to] else some (zbs k l r zed zaA to)
 | .call to => if k.behind.length + 1 = 16 then none else some [{ k with behind:=k.behind ++ [k.next + 1] }.goTo to]
 | .back => match k.behind with
  | [] => some []
  | b :: r => some [{ k with behind:=(b :: r).dropLast }.goTo ((b :: r).getLastD 0)]
 | .stop => some []
structure Cov (k : Kn) (m : Mc) : Prop where
 regs : ∀ r,r < 8 → (k.regs r).In (m.regs r)
 cells : ∀ c,c < 16 → (k.cells c).In (m.cells c)
 next : m.at' = k.next
 behind : m.backs = k.behind
 steps : m.steps = k.steps
structure KnOk (k : Kn) : Prop where
 regs : ∀ r,r < 8 → (k.regs r).Ok
 cells : ∀ c,c < 16 → (k.cells c).Ok
structure Mc64 (m : Mc) : Prop where
 regs : ∀ r,r < 8 → i64 (m.regs r)
 cells : ∀ c,c < 16 → i64 (m.cells c)
 inp : ∀ x ∈ m.inp,i64 x
def zjx : Ins → Prop
 | .set _ n => i64 n
 | .inc _ n => i64 n
 | _ => True
theorem zcW (f : Nat → Rg) (i : Nat) (v : Rg) : updR f i v i = v:=by simp [updR]
theorem zfV (f : Nat → Rg) (i j : Nat) (v : Rg) (h : ¬ j = i) : updR f i v j = f j:=by simp [updR,h]
theorem zh6 {f : Nat → Rg} {g : Nat → Int} {n : Nat} (h : ∀ r,r < n → (f r).In (g r)) {i : Nat} {v : Rg} {x : Int} (hv : v.In x) : ∀ r,r < n → (updR f i v r).In (upd g i x r):=by
 intro r hr
 by_cases e : r = i
 ·subst e; rw [zcW,zc9]; exact hv
 ·rw [zfV _ _ _ _ e,zcU _ _ _ _ e]; exact h r hr
theorem zdB {f : Nat → Rg} {n : Nat} (h : ∀ r,r < n → (f r).Ok) {i : Nat} {v : Rg} (hv : v.Ok) : ∀ r,r < n → (updR f i v r).Ok:=by
 intro r hr
 by_cases e : r = i
 ·subst e; rw [zcW]; exact hv
 ·rw [zfV _ _ _ _ e]; exact h r hr
theorem zh7 {g : Nat → Int} {n : Nat} (h : ∀ r,r < n → i64 (g r)) {i : Nat} {x : Int} (hx : i64 x) : ∀ r,r < n → i64 (upd g i x r):=by
 intro r hr
 by_cases e : r = i
 ·subst e; rw [zc9]; exact hx
 ·rw [zcU _ _ _ _ e]; exact h r hr
theorem zgG {f : Nat → Rg} {g : Nat → Int} {n : Nat} (h : ∀ r,r < n → (f r).In (g r)) {i : Nat} {v : Rg} (hv : v.In (g i)) : ∀ r,r < n → (updR f i v r).In (g r):=by
 intro r hr
 by_cases e : r = i
 ·subst e; rw [zcW]; exact hv
 ·rw [zfV _ _ _ _ e]; exact h r hr
theorem zoY {c : Nat → Rg} {g : Nat → Int} {a n j : Nat} (h1 : a ≤ j) (h2 : j ≤ a + n) (h : (c j).In (g j)) : (zbX c a n).In (g j):=by
 induction n with
 | zero =>
  have e : j = a:=by omega
  subst e; exact h
 | succ n ih =>
  by_cases e : j = a + (n + 1)
  ·subst e; exact zgF h _
  ·exact zjw (ih (by omega)) _
theorem zoZ {c : Nat → Rg} {a n : Nat} (h : ∀ j,a ≤ j → j ≤ a + n → (c j).Ok) : (zbX c a n).Ok:=by
 induction n with
 | zero => exact h a (Nat.le_refl _) (Nat.le_refl _)
 | succ n ih => exact ztM (ih (fun j h1 h2 => h j h1 (by omega))) (h _ (by omega) (by omega))
theorem ztR {c : Nat → Rg} {g : Nat → Int} {a b j : Nat} {v : Rg} {x : Int} (h : ∀ r,r < 16 → (c r).In (g r)) (h1 : a ≤ j) (h2 : j ≤ b) (hv : v.In x) : ∀ r,r < 16 → (zaC c a b v r).In (upd g j x r):=by
 intro r hr
 unfold zaC
 split
 ·rename_i e
  have e2 : a = j:=by omega
  rw [e2]
  exact zh6 h hv r hr
 ·dsimp only
  by_cases e : r = j
  ·subst e
   rw [if_pos ⟨h1,h2⟩,zc9]
   exact zgF hv _
  ·rw [zcU _ _ _ _ e]
   split
   ·exact zjw (h r hr) _
   ·exact h r hr
theorem ztS {c : Nat → Rg} {a b : Nat} {v : Rg} (h : ∀ r,r < 16 → (c r).Ok) (hv : v.Ok) : ∀ r,r < 16 → (zaC c a b v r).Ok:=by
 intro r hr
 unfold zaC
 split
 ·exact zdB h hv r hr
 ·dsimp only
  split
  ·exact ztM (h r hr) hv
  ·exact h r hr
theorem ziK {r : Rg} {x : Int} {a b : Nat} (h : zbL r = some (a,b)) (hx : r.In x) : ∃ j : Nat,x = (j : Int) ∧ j < 16 ∧ a ≤ j ∧ j ≤ b ∧ b ≤ 15:=by
 unfold zbL at h
 unfold Rg.In at hx
 split at h
 ·rename_i hc
  simp only [Option.some.injEq,Prod.mk.injEq] at h
  obtain ⟨rfl,rfl⟩:=h
  exact ⟨x.toNat,by omega,by omega,by omega,by omega,by omega⟩
 ·cases h
theorem zpa {r : Rg} {a b : Nat} (h : zbL r = some (a,b)) (hr : r.Ok) : a ≤ b ∧ b ≤ 15:=by
 unfold zbL at h
 unfold Rg.Ok at hr
 split at h
 ·rename_i hc
  simp only [Option.some.injEq,Prod.mk.injEq] at h
  obtain ⟨rfl,rfl⟩:=h
  omega
 ·cases h
def zv5 (ks : List Kn) (m : Mc) : Prop:=(m.fin = 0 ∧ ∃ k ∈ ks,Cov k m) ∨ m.fin = 1 ∨ m.fin = 2
theorem Cov.on {k : Kn} {m m1 : Mc} {ks : List Kn} (c : Cov k m) {f : Nat → Rg} {g : Nat → Rg} {z : Int} (hk : { k with regs:=f,cells:=g }.goTo z ∈ ks) (h0 : m1.fin = 0) (h1 : ∀ r,r < 8 → (f r).In (m1.regs r)) (h2 : ∀ r,r < 16 → (g r).In (m1.cells r)) (h3 : m1.backs = m.backs) (h4 : m1.steps = m.steps) :
  zv5 ks (m1.goes z):=.inl ⟨h0,_,hk,⟨h1,h2,rfl,by show m1.backs = k.behind; rw [h3]; exact c.behind,by show m1.steps + 1 = k.steps + 1; rw [h4,c.steps]⟩⟩
theorem zbA {α : Type} (a : α) : a ∈ [a]:=List.mem_singleton.2 rfl
theorem zgu {k : Kn} {m : Mc} (c : Cov k m) (hfin : m.fin = 0) {l r : Nat} (_hl : l < 8) (_hr : r < 8) (hne : ¬ l = r) {holds fails : Rg → Rg → Option (Rg × Rg)} {P : Prop} [Decidable P] {to : Int}
  (h1 : P → ∃ a b,holds (k.regs l) (k.regs r) = some (a,b) ∧ a.In (m.regs l) ∧ b.In (m.regs r)) (h2 : ¬ P → ∃ a b,fails (k.regs l) (k.regs r) = some (a,b) ∧ a.In (m.regs l) ∧ b.In (m.regs r)) :
  zv5 (zbs k l r holds fails to) (m.goes (if P then to else m.at' + 1)):=by
 have hne' : ¬ r = l:=fun e => hne e.symm
 by_cases hP : P
 ·rw [if_pos hP]
  obtain ⟨a,b,e,ha,hb⟩:=h1 hP
  have hin : ∀ q,q < 8 → (updR (updR k.regs l a) r b q).In (m.regs q):=zgG (zgG c.regs ha) hb
  unfold zbs
  rw [e]
  cases fails (k.regs l) (k.regs r) with
  | none => exact c.on (g:=k.cells) (zbA _) hfin hin c.cells rfl rfl
  | some q => exact c.on (g:=k.cells) (List.mem_cons_self) hfin hin c.cells rfl rfl
 ·rw [if_neg hP]
  obtain ⟨a,b,e,ha,hb⟩:=h2 hP
  have hin : ∀ q,q < 8 → (updR (updR k.regs l a) r b q).In (m.regs q):=zgG (zgG c.regs ha) hb
  unfold zbs
  rw [e,c.next]
  cases holds (k.regs l) (k.regs r) with
  | none => exact c.on (g:=k.cells) (zbA _) hfin hin c.cells rfl rfl
  | some q => exact c.on (g:=k.cells) (List.mem_cons_of_mem _ (zbA _)) hfin hin c.cells rfl rfl
theorem zmi {k : Kn} {m : Mc} {i : Ins} {ks : List Kn} (c : Cov k m) (K : KnOk k) (M : Mc64 m) (hi : zg2 i) (h64 : zjx i) (hfin : m.fin = 0) (hf : m.frames = (m.backs.length : Int) + 1) (h : zaz i k = some ks) : zv5 ks (zaM i m):=by
 have hn:=c.next
 cases i with
 | set r n =>
  simp only [zaz,Option.some.injEq] at h
  subst h
  rw [zaf (.inl rfl) hfin,show exec (.set r n) (m.at' + 1) m = Mc.goes { m with regs:=upd m.regs r n } (m.at' + 1) from rfl,hn]
  exact c.on (g:=k.cells) (zbA _) hfin (zh6 c.regs (zfU n)) c.cells rfl rfl
 | mov r s =>
  simp only [zaz,Option.some.injEq] at h
  subst h
  rw [zaf (.inl rfl) hfin,show exec (.mov r s) (m.at' + 1) m = Mc.goes { m with regs:=upd m.regs r (m.regs s) } (m.at' + 1) from rfl,hn]
  exact c.on (g:=k.cells) (zbA _) hfin (zh6 c.regs (c.regs s hi.2)) c.cells rfl rfl
 | alu o r s t =>
  simp only [zaz,Option.some.injEq] at h
  subst h
  obtain ⟨_,hr,hs,ht⟩:=hi
  rw [zaf (.inl rfl) hfin,show exec (.alu o r s t) (m.at' + 1) m = Mc.goes { m with regs:=upd m.regs r (zcr o (m.regs s) (m.regs t)) } (m.at' + 1) from rfl,hn]
  refine c.on (g:=k.cells) (zbA _) hfin (zh6 c.regs ?_) c.cells rfl rfl
  unfold zcr
  split
  ·exact zrz (K.regs s hs) (K.regs t ht) (c.regs s hs) (c.regs t ht)
  ·split
   ·split
    ·rename_i e
     subst e
     rw [show m.regs s - m.regs s = 0 by omega]
     exact zfU 0
    ·exact ztN (K.regs s hs) (K.regs t ht) (c.regs s hs) (c.regs t ht)
   ·exact ztP (K.regs s hs) (K.regs t ht) (c.regs s hs) (c.regs t ht)
 | inc r n =>
  simp only [zaz,Option.some.injEq] at h
  subst h
  rw [zaf (.inl rfl) hfin,show exec (.inc r n) (m.at' + 1) m = Mc.goes { m with regs:=upd m.regs r (w64 (m.regs r + n)) } (m.at' + 1) from rfl,hn]
  exact c.on (g:=k.cells) (zbA _) hfin (zh6 c.regs (zrz (K.regs r hi) (zh5 h64) (c.regs r hi) (zfU n))) c.cells rfl rfl
 | load r s =>
  simp only [zaz] at h
  cases ht : zbL (k.regs s) with
  | none => rw [ht] at h; cases h
  | some q =>
   obtain ⟨a,b⟩:=q
   rw [ht] at h
   simp only [Option.some.injEq] at h
   subst h
   obtain ⟨j,hj,hj16,h1,h2,_⟩:=ziK ht (c.regs s hi.2)
   have hneg : ¬ (m.regs s < 0 ∨ 15 < m.regs s):=by omega
   have e1 : exec (.load r s) (m.at' + 1) m = { m with regs:=upd m.regs r (m.cells (m.regs s).toNat) }.goes (m.at' + 1):=if_neg hneg
   rw [zaf (.inl (by rw [e1]; rfl)) hfin,e1,hn,hj,Int.toNat_natCast]
   exact c.on (g:=k.cells) (zbA _) hfin (zh6 c.regs (zoY h1 (by omega) (c.cells j hj16))) c.cells rfl rfl
 | store r s =>
  simp only [zaz] at h
  cases ht : zbL (k.regs r) with
  | none => rw [ht] at h; cases h
  | some q =>
   obtain ⟨a,b⟩:=q
   rw [ht] at h
   simp only [Option.some.injEq] at h
   subst h
   obtain ⟨j,hj,hj16,h1,h2,_⟩:=ziK ht (c.regs r hi.1)
   have hneg : ¬ (m.regs r < 0 ∨ 15 < m.regs r):=by omega
   have e1 : exec (.store r s) (m.at' + 1) m = { m with cells:=upd m.cells (m.regs r).toNat (m.regs s) }.goes (m.at' + 1):=if_neg hneg
   rw [zaf (.inl (by rw [e1]; rfl)) hfin,e1,hn,hj,Int.toNat_natCast]
   exact c.on (f:=k.regs) (zbA _) hfin c.regs (ztR c.cells h1 h2 (c.regs s hi.2)) rfl rfl
 | read r =>
  simp only [zaz,Option.some.injEq] at h
  subst h
  rw [zaf (.inl rfl) hfin,show exec (.read r) (m.at' + 1) m = Mc.goes { m with regs:=upd m.regs r (m.inp.headD 0),inp:=m.inp.tail } (m.at' + 1) from rfl,hn]
  refine c.on (g:=k.cells) (zbA _) hfin (zh6 c.regs (zrv ?_)) c.cells rfl rfl
  cases hin : m.inp with
  | nil => unfold i64; simp
  | cons x t => exact M.inp x (by rw [hin]; exact List.mem_cons_self)
 | write r =>
  simp only [zaz,Option.some.injEq] at h
  subst h
  rw [zaf (.inl rfl) hfin,show exec (.write r) (m.at' + 1) m = Mc.goes { m with out:=m.out ++ [m.regs r] } (m.at' + 1) from rfl,hn]
  exact c.on (f:=k.regs) (g:=k.cells) (zbA _) hfin c.regs c.cells rfl rfl
 | jump to =>
  simp only [zaz,Option.some.injEq] at h
  subst h
  rw [zaf (.inl rfl) hfin,show exec (.jump to) (m.at' + 1) m = Mc.goes m to from rfl]
  exact c.on (f:=k.regs) (g:=k.cells) (zbA _) hfin c.regs c.cells rfl rfl
 | less r s to =>
  rw [zaf (.inl rfl) hfin,show exec (.less r s to) (m.at' + 1) m = m.goes (if m.regs r < m.regs s then to else m.at' + 1) from rfl]
  simp only [zaz] at h
  split at h
  ·rename_i e
   subst e
   simp only [Option.some.injEq] at h
   subst h
   rw [if_neg (by omega),hn]
   exact c.on (f:=k.regs) (g:=k.cells) (zbA _) hfin c.regs c.cells rfl rfl
  ·rename_i e
   simp only [Option.some.injEq] at h
   subst h
   exact zgu c hfin hi.1 hi.2 e (fun hp => zv1 (c.regs r hi.1) (c.regs s hi.2) hp) (fun hp => zoU (c.regs r hi.1) (c.regs s hi.2) hp)
 | same r s to =>
  rw [zaf (.inl rfl) hfin,show exec (.same r s to) (m.at' + 1) m = m.goes (if m.regs r = m.regs s then to else m.at' + 1) from rfl]
  simp only [zaz] at h
  split at h
  ·rename_i e
   subst e
   simp only [Option.some.injEq] at h
   subst h
   rw [if_pos rfl]
   exact c.on (f:=k.regs) (g:=k.cells) (zbA _) hfin c.regs c.cells rfl rfl
  ·rename_i e
   simp only [Option.some.injEq] at h
   subst h
   exact zgu c hfin hi.1 hi.2 e (fun hp => zv2 (c.regs r hi.1) (c.regs s hi.2) hp) (fun hp => zoV (c.regs r hi.1) (c.regs s hi.2) hp)
 | call to =>
  simp only [zaz] at h
  split at h
  ·cases h
  ·rename_i e
   simp only [Option.some.injEq] at h
   subst h
   have hbl:=congrArg List.length c.behind
   have h16 : ¬ m.frames = 16:=by omega
   have e1 : exec (.call to) (m.at' + 1) m = { m with backs:=m.backs ++ [m.at' + 1],frames:=m.frames + 1,peak:=max m.peak (m.frames + 1) }.goes to:=if_neg h16
   rw [zaf (.inl (by rw [e1]; rfl)) hfin,e1]
   refine .inl ⟨hfin,_,zbA _,⟨c.regs,c.cells,rfl,?_,?_⟩⟩
   ·show m.backs ++ [m.at' + 1] = k.behind ++ [k.next + 1]
    rw [c.behind,hn]
   ·show m.steps + 1 = k.steps + 1
    rw [c.steps]
 | back =>
  simp only [zaz] at h
  have hb:=c.behind
  cases hbe : k.behind with
  | nil =>
   rw [hbe] at hb
   have h1 : m.frames = 1:=by rw [hf,hb]; rfl
   refine .inr (.inr ?_)
   have e0 : exec .back (m.at' + 1) m = { m with frames:=0,fin:=2 }.goes (-1):=if_pos h1
   unfold zaM
   rw [e0,if_pos (.inr rfl)]; rfl
  | cons b r =>
   rw [hbe] at h hb
   simp only [Option.some.injEq] at h
   subst h
   have h1 : ¬ m.frames = 1:=by rw [hf,hb]; simp; omega
   have e0 : exec .back (m.at' + 1) m = { m with frames:=m.frames - 1,backs:=m.backs.dropLast }.goes (m.backs.getLastD 0):=if_neg h1
   rw [zaf (.inl (by rw [e0]; rfl)) hfin,e0]
   refine .inl ⟨hfin,_,zbA _,⟨c.regs,c.cells,?_,?_,?_⟩⟩
   ·show m.backs.getLastD 0 = (b :: r).getLastD 0
    rw [hb]
   ·show m.backs.dropLast = (b :: r).dropLast
    rw [hb]
   ·show m.steps + 1 = k.steps + 1
    rw [c.steps]
 | stop =>
  refine .inr (.inl ?_)
  unfold zaM
  rw [show exec .stop (m.at' + 1) m = { m with fin:=1 }.goes (-1) from rfl,if_pos (.inl rfl)]; rfl
theorem zh8 {k : Kn} {l r : Nat} {holds fails : Rg → Rg → Option (Rg × Rg)} {to : Int} (K : KnOk k) (_hl : l < 8) (_hr : r < 8)
  (h1 : ∀ a b,holds (k.regs l) (k.regs r) = some (a,b) → a.Ok ∧ b.Ok) (h2 : ∀ a b,fails (k.regs l) (k.regs r) = some (a,b) → a.Ok ∧ b.Ok) :
  ∀ k' ∈ zbs k l r holds fails to,k'.steps = k.steps + 1 ∧ KnOk k':=by
 intro k' hk'
 unfold zbs at hk'
 have key : ∀ a b,a.Ok ∧ b.Ok → ∀ z,({ k with regs:=updR (updR k.regs l a) r b }.goTo z).steps = k.steps + 1 ∧ KnOk ({ k with regs:=updR (updR k.regs l a) r b }.goTo z):=fun a b h z => ⟨rfl,⟨zdB (zdB K.regs h.1) h.2,K.cells⟩⟩
 cases hh : holds (k.regs l) (k.regs r) with
 | none =>
  cases hf : fails (k.regs l) (k.regs r) with
  | none => rw [hh,hf] at hk'; rw [List.mem_singleton.1 hk']; exact ⟨rfl,⟨K.regs,K.cells⟩⟩
  | some q => obtain ⟨c,d⟩:=q; rw [hh,hf] at hk'; rw [List.mem_singleton.1 hk']; exact key c d (h2 c d hf) _
 | some q =>
  obtain ⟨a,b⟩:=q
  cases hf : fails (k.regs l) (k.regs r) with
  | none => rw [hh,hf] at hk'; rw [List.mem_singleton.1 hk']; exact key a b (h1 a b hh) _
  | some q =>
   obtain ⟨c,d⟩:=q
   rw [hh,hf] at hk'
   rcases List.mem_cons.1 hk' with e | e
   ·rw [e]; exact key a b (h1 a b hh) _
   ·rw [List.mem_singleton.1 e]; exact key c d (h2 c d hf) _
theorem ziL {k : Kn} {i : Ins} {ks : List Kn} (K : KnOk k) (hi : zg2 i) (h64 : zjx i) (h : zaz i k = some ks) : ∀ k' ∈ ks,k'.steps = k.steps + 1 ∧ KnOk k':=by
 have one : ∀ (f g : Nat → Rg) (z : Int) (b : List Int),(∀ r,r < 8 → (f r).Ok) → (∀ r,r < 16 → (g r).Ok) → ∀ k' ∈ [({ k with regs:=f,cells:=g,behind:=b } : Kn).goTo z],k'.steps = k.steps + 1 ∧ KnOk k':=fun f g z b h1 h2 k' hk' => by
  rw [List.mem_singleton.1 hk']; exact ⟨rfl,⟨h1,h2⟩⟩
 cases i with
 | set r n =>
  simp only [zaz,Option.some.injEq] at h; subst h
  exact one _ _ _ _ (zdB K.regs (zh5 h64)) K.cells
 | mov r s =>
  simp only [zaz,Option.some.injEq] at h; subst h
  exact one _ _ _ _ (zdB K.regs (K.regs s hi.2)) K.cells
 | alu o r s t =>
  simp only [zaz,Option.some.injEq] at h; subst h
  refine one _ _ _ _ (zdB K.regs ?_) K.cells
  split
  ·exact zr0 _ _
  ·split
   ·split
    ·exact zh5 (by unfold i64; omega)
    ·exact ztO _ _
   ·exact ztQ (K.regs s hi.2.2.1) (K.regs t hi.2.2.2)
 | inc r n =>
  simp only [zaz,Option.some.injEq] at h; subst h
  exact one _ _ _ _ (zdB K.regs (zr0 _ _)) K.cells
 | load r s =>
  simp only [zaz] at h
  cases ht : zbL (k.regs s) with
  | none => rw [ht] at h; cases h
  | some q =>
   obtain ⟨a,b⟩:=q
   rw [ht] at h
   simp only [Option.some.injEq] at h; subst h
   obtain ⟨h1,h2⟩:=zpa ht (K.regs s hi.2)
   exact one _ _ _ _ (zdB K.regs (zoZ (fun j _ hj => K.cells j (by omega)))) K.cells
 | store r s =>
  simp only [zaz] at h
  cases ht : zbL (k.regs r) with
  | none => rw [ht] at h; cases h
  | some q =>
   obtain ⟨a,b⟩:=q
   rw [ht] at h
   simp only [Option.some.injEq] at h; subst h
   exact one _ _ _ _ K.regs (ztS K.cells (K.regs s hi.2))
 | read r =>
  simp only [zaz,Option.some.injEq] at h; subst h
  exact one _ _ _ _ (zdB K.regs zrw) K.cells
 | write r =>
  simp only [zaz,Option.some.injEq] at h; subst h
  exact one _ _ _ _ K.regs K.cells
 | jump to =>
  simp only [zaz,Option.some.injEq] at h; subst h
  exact one _ _ _ _ K.regs K.cells
 | less r s to =>
  simp only [zaz] at h
  split at h
  ·simp only [Option.some.injEq] at h; subst h
   exact one _ _ _ _ K.regs K.cells
  ·simp only [Option.some.injEq] at h; subst h
   exact zh8 K hi.1 hi.2 (fun a b => zv3 (K.regs r hi.1) (K.regs s hi.2)) (fun a b => zoW (K.regs r hi.1) (K.regs s hi.2))
 | same r s to =>
  simp only [zaz] at h
  split at h
  ·simp only [Option.some.injEq] at h; subst h
   exact one _ _ _ _ K.regs K.cells
  ·simp only [Option.some.injEq] at h; subst h
   exact zh8 K hi.1 hi.2 (fun a b => zv4 (K.regs r hi.1) (K.regs s hi.2)) (fun a b => zoX (K.regs r hi.1) (K.regs s hi.2))
 | call to =>
  simp only [zaz] at h
  split at h
  ·cases h
  ·simp only [Option.some.injEq] at h; subst h
   exact one _ _ _ _ K.regs K.cells
 | back =>
  simp only [zaz] at h
  cases hb : k.behind with
  | nil => rw [hb] at h; simp only [Option.some.injEq] at h; subst h; intro k' hk'; cases hk'
  | cons b r =>
   rw [hb] at h
   simp only [Option.some.injEq] at h; subst h
   exact one _ _ _ _ K.regs K.cells
 | stop =>
  simp only [zaz,Option.some.injEq] at h; subst h
  intro k' hk'; cases hk'
theorem zv6 {m : Mc} {i : Ins} (M : Mc64 m) (hi : zg2 i) (h64 : zjx i) : Mc64 (zaM i m):=by
 have key : Mc64 (exec i (m.at' + 1) m):=by
  cases i with
  | set r n => exact ⟨zh7 M.regs h64,M.cells,M.inp⟩
  | mov r s => exact ⟨zh7 M.regs (M.regs s hi.2),M.cells,M.inp⟩
  | alu o r s t =>
   refine ⟨zh7 M.regs ?_,M.cells,M.inp⟩
   unfold zcr
   repeat' split
   all_goals exact zdx _
  | inc r n => exact ⟨zh7 M.regs (zdx _),M.cells,M.inp⟩
  | load r s =>
   by_cases hc : m.regs s < 0 ∨ 15 < m.regs s
   ·have e9 : exec (.load r s) (m.at' + 1) m = { m with fin:=3 }:=if_pos hc; rw [e9]; exact ⟨M.regs,M.cells,M.inp⟩
   ·have e9 : exec (.load r s) (m.at' + 1) m = { m with regs:=upd m.regs r (m.cells (m.regs s).toNat) }.goes (m.at' + 1):=if_neg hc; rw [e9]; exact ⟨zh7 M.regs (M.cells _ (by omega)),M.cells,M.inp⟩
  | store r s =>
   by_cases hc : m.regs r < 0 ∨ 15 < m.regs r
   ·have e9 : exec (.store r s) (m.at' + 1) m = { m with fin:=3 }:=if_pos hc; rw [e9]; exact ⟨M.regs,M.cells,M.inp⟩
   ·have e9 : exec (.store r s) (m.at' + 1) m = { m with cells:=upd m.cells (m.regs r).toNat (m.regs s) }.goes (m.at' + 1):=if_neg hc; rw [e9]; exact ⟨M.regs,zh7 M.cells (M.regs s hi.2),M.inp⟩
  | read r =>
   refine ⟨zh7 M.regs ?_,M.cells,fun x hx => M.inp x (List.mem_of_mem_tail hx)⟩
   cases hin : m.inp with
   | nil => unfold i64; simp
   | cons x t => exact M.inp x (by rw [hin]; exact List.mem_cons_self)
  | write r => exact ⟨M.regs,M.cells,M.inp⟩
  | jump to => exact ⟨M.regs,M.cells,M.inp⟩
  | less r s to => exact ⟨M.regs,M.cells,M.inp⟩
  | same r s to => exact ⟨M.regs,M.cells,M.inp⟩
  | call to =>
   by_cases hc : m.frames = 16
   ·have e9 : exec (.call to) (m.at' + 1) m = { m with fin:=4 }:=if_pos hc; rw [e9]; exact ⟨M.regs,M.cells,M.inp⟩
   ·have e9 : exec (.call to) (m.at' + 1) m = { m with backs:=m.backs ++ [m.at' + 1],frames:=m.frames + 1,peak:=max m.peak (m.frames + 1) }.goes to:=if_neg hc; rw [e9]; exact ⟨M.regs,M.cells,M.inp⟩
  | back =>
   by_cases hc : m.frames = 1
   ·have e9 : exec .back (m.at' + 1) m = { m with frames:=0,fin:=2 }.goes (-1):=if_pos hc; rw [e9]; exact ⟨M.regs,M.cells,M.inp⟩
   ·have e9 : exec .back (m.at' + 1) m = { m with frames:=m.frames - 1,backs:=m.backs.dropLast }.goes (m.backs.getLastD 0):=if_neg hc; rw [e9]; exact ⟨M.regs,M.cells,M.inp⟩
  | stop => exact ⟨M.regs,M.cells,M.inp⟩
 unfold zaM
 split
 ·exact ⟨key.regs,key.cells,key.inp⟩
 ·exact key
theorem zkH (i : Ins) (m : Mc) : (zaM i m).peak = m.peak ∨ (zaM i m).peak = max m.peak (zaM i m).frames ∧ (zaM i m).fin = m.fin:=by
 have e1 : (zaM i m).peak = (exec i (m.at' + 1) m).peak:=by unfold zaM; split <;> rfl
 cases i with
 | call to =>
  by_cases h : m.frames = 16
  ·left; rw [e1,show exec (.call to) (m.at' + 1) m = { m with fin:=4 } from if_pos h]
  ·right
   have e0 : exec (.call to) (m.at' + 1) m = { m with backs:=m.backs ++ [m.at' + 1],frames:=m.frames + 1,peak:=max m.peak (m.frames + 1) }.goes to:=if_neg h
   have e2 : (zaM (.call to) m).frames = m.frames + 1:=by unfold zaM; rw [e0]; split <;> rfl
   have e3 : (zaM (.call to) m).fin = m.fin:=by unfold zaM; rw [e0]; split <;> rfl
   exact ⟨by rw [e1,e2,e0]; rfl,e3⟩
 | load r s =>
  left; rw [e1]
  by_cases hc : m.regs s < 0 ∨ 15 < m.regs s
  ·have e9 : exec (.load r s) (m.at' + 1) m = { m with fin:=3 }:=if_pos hc; rw [e9]
  ·have e9 : exec (.load r s) (m.at' + 1) m = { m with regs:=upd m.regs r (m.cells (m.regs s).toNat) }.goes (m.at' + 1):=if_neg hc; rw [e9]; rfl
 | store r s =>
  left; rw [e1]
  by_cases hc : m.regs r < 0 ∨ 15 < m.regs r
  ·have e9 : exec (.store r s) (m.at' + 1) m = { m with fin:=3 }:=if_pos hc; rw [e9]
  ·have e9 : exec (.store r s) (m.at' + 1) m = { m with cells:=upd m.cells (m.regs r).toNat (m.regs s) }.goes (m.at' + 1):=if_neg hc; rw [e9]; rfl
 | back =>
  left; rw [e1]
  by_cases hc : m.frames = 1
  ·have e9 : exec .back (m.at' + 1) m = { m with frames:=0,fin:=2 }.goes (-1):=if_pos hc; rw [e9]; rfl
  ·have e9 : exec .back (m.at' + 1) m = { m with frames:=m.frames - 1,backs:=m.backs.dropLast }.goes (m.backs.getLastD 0):=if_neg hc; rw [e9]; rfl
 | _ => left; rw [e1]; rfl
theorem zr1 (f : Mc → Mc) (n : Nat) (m : Mc) (h : (runS f n m).fin = 0) : runS f (n + 1) m = f (runS f n m):=by
 induction n generalizing m with
 | zero =>
  have h' : m.fin = 0:=h
  rw [zay _ _ _ h']; rfl
 | succ n ih =>
  by_cases h0 : m.fin = 0
  ·rw [zay _ _ _ h0] at h
   rw [zay _ _ _ h0,ih _ h,zay _ _ _ h0]
  ·rw [zbQ _ _ _ h0] at h
   exact absurd h h0
structure CodeSure (C : List (Ins × Int)) : Prop where
 ok : CodeOk C
 n64 : ∀ j (h : j < C.length),zjx C[j].1
structure RunAtC (C : List (Ins × Int)) (inp : List Int) (n : Nat) (m : Mc) : Prop where
 run : m = runS (zck C) n (zbe inp)
 inv : InvD C.length m
 m64 : Mc64 m
 steps : m.steps = (n : Int)
def zh9 (C : List (Ins × Int)) (W : List Kn) (bs bf : Int) (inp : List Int) : Prop :=
 ∃ n m,RunAtC C inp n m ∧ ((m.fin = 0 ∧ (∃ k ∈ W,Cov k m) ∧ m.peak ≤ max bf m.frames) ∨ ((m.fin = 1 ∨ m.fin = 2) ∧ m.steps ≤ bs ∧ m.peak ≤ bf))
theorem zmj {C : List (Ins × Int)} (S : CodeSure C) (inp : List Int) (hin : ∀ x ∈ inp,i64 x) (bs bf : Int) : zh9 C [kn0] bs bf inp:=by
 refine ⟨0,zbe inp,⟨rfl,zdv S.ok inp,⟨fun _ _ => by show i64 0; unfold i64; omega,fun _ _ => by show i64 0; unfold i64; omega,hin⟩,rfl⟩,.inl ⟨rfl,⟨kn0,zbA _,⟨fun _ _ => zfU 0,fun _ _ => zfU 0,rfl,rfl,rfl⟩⟩,?_⟩⟩
 show (1 : Int) ≤ max bf 1
 omega
theorem zpb {C : List (Ins × Int)} (S : CodeSure C) {W W' ks : List Kn} {k : Kn} {bs bf : Int} {inp : List Int} {p : Nat} (hp : p < C.length) (hk : k.next = (p : Int)) (K : KnOk k) (hbs : bs ≤ k.steps + 1)
  (hl : zaz C[p].1 k = some ks) (hW : ∀ x ∈ W,x = k ∨ x ∈ W') (T : zh9 C W bs bf inp) : zh9 C (W' ++ ks) (k.steps + 1) (max bf ((k.behind.length : Int) + 1)) inp:=by
 obtain ⟨n,m,R,h⟩:=T
 rcases h with ⟨h0,⟨x,hx,hc⟩,hpk⟩ | ⟨h0,h1,h2⟩
 ·rcases hW x hx with rfl | hx'
  ·have hat : m.at' = (p : Int):=hc.next.trans hk
   have hfr:=R.inv.frames
   rw [if_neg (by omega)] at hfr
   have hbl:=congrArg List.length hc.behind
   have hst : zck C m = zaM C[p].1 m:=zgB hat hp
   have A:=zmi hc K R.m64 (S.ok.ok p hp) (S.n64 p hp) h0 hfr hl
   have F:=zhu C[p].1 m h0
   have hcs:=hc.steps
   have hR : RunAtC C inp (n + 1) (zaM C[p].1 m) ∨ ((zaM C[p].1 m).fin = 3 ∨ (zaM C[p].1 m).fin = 4):=by
    rcases F.1 with ⟨_,hs⟩ | ⟨hf,_⟩
    ·refine .inl ⟨?_,R.inv.step h0 hat (S.ok.leads p hp),zv6 R.m64 (S.ok.ok p hp) (S.n64 p hp),by rw [hs,R.steps]; rfl⟩
     rw [zr1 _ _ _ (by rw [← R.run]; exact h0),← R.run,hst]
    ·exact .inr hf
   have hpeak : (zaM C[p].1 m).peak ≤ max (max bf ((x.behind.length : Int) + 1)) (zaM C[p].1 m).frames:=by
    rcases zkH C[p].1 m with e | ⟨e,_⟩ <;> rw [e] <;> omega
   rcases A with ⟨hf,k',hk',hc'⟩ | hf
   ·rcases hR with hR | hR
    ·exact ⟨n + 1,_,hR,.inl ⟨hf,⟨k',List.mem_append_right _ hk',hc'⟩,hpeak⟩⟩
    ·omega
   ·rcases hR with hR | hR
    ·refine ⟨n + 1,_,hR,.inr ⟨hf,?_,?_⟩⟩
     ·have:=hR.steps
      have:=R.steps
      omega
     ·rcases zkH C[p].1 m with e | ⟨_,e⟩
      ·rw [e]; omega
      ·omega
    ·omega
  ·exact ⟨n,m,R,.inl ⟨h0,⟨x,List.mem_append_left _ hx',hc⟩,by omega⟩⟩
 ·exact ⟨n,m,R,.inr ⟨h0,by omega,by omega⟩⟩
def zeX (k o : Kn) : Kn:={ k with regs:=fun r => (k.regs r).or (o.regs r),cells:=fun c => (k.cells c).or (o.cells c) }
theorem zr2 {k o : Kn} {m : Mc} (h : Cov k m) : Cov (zeX k o) m:=⟨fun r hr => zjw (h.regs r hr) _,fun c hc => zjw (h.cells c hc) _,h.next,h.behind,h.steps⟩
theorem zpc {k o : Kn} {m : Mc} (h : Cov o m) (h1 : o.next = k.next) (h2 : o.behind = k.behind) (h3 : o.steps = k.steps) : Cov (zeX k o) m :=
 ⟨fun r hr => zgF (h.regs r hr) _,fun c hc => zgF (h.cells c hc) _,h.next.trans h1,h.behind.trans h2,h.steps.trans h3⟩
theorem zv7 {k o : Kn} (h : KnOk k) (h' : KnOk o) : KnOk (zeX k o):=⟨fun r hr => ztM (h.regs r hr) (h'.regs r hr),fun c hc => ztM (h.cells c hc) (h'.cells c hc)⟩
theorem zpd {C : List (Ins × Int)} {W W' : List Kn} {k o : Kn} {bs bf : Int} {inp : List Int} (h1 : o.next = k.next) (h2 : o.behind = k.behind) (h3 : o.steps = k.steps) (hW : ∀ x ∈ W,x = k ∨ x = o ∨ x ∈ W') (T : zh9 C W bs bf inp) : zh9 C (zeX k o :: W') bs bf inp:=by
 obtain ⟨n,m,R,h⟩:=T
 refine ⟨n,m,R,?_⟩
 rcases h with ⟨h0,⟨x,hx,hc⟩,hpk⟩ | h
 ·refine .inl ⟨h0,?_,hpk⟩
  rcases hW x hx with rfl | rfl | hx'
  ·exact ⟨_,List.mem_cons_self,zr2 hc⟩
  ·exact ⟨_,List.mem_cons_self,zpc hc h1 h2 h3⟩
  ·exact ⟨x,List.mem_cons_of_mem _ hx',hc⟩
 ·exact .inr h
theorem ziM {C : List (Ins × Int)} {W W' : List Kn} {bs bf : Int} {inp : List Int} (hW : ∀ x ∈ W,x ∈ W') (T : zh9 C W bs bf inp) : zh9 C W' bs bf inp:=by
 obtain ⟨n,m,R,h⟩:=T
 refine ⟨n,m,R,?_⟩
 rcases h with ⟨h0,⟨x,hx,hc⟩,hpk⟩ | h
 ·exact .inl ⟨h0,⟨x,hW x hx,hc⟩,hpk⟩
 ·exact .inr h
theorem zr3 {C : List (Ins × Int)} {bs bf : Int} {inp : List Int} (T : zh9 C [] bs bf inp) (N : Nat) (hN : bs ≤ (N : Int)) :
  ((runS (zck C) N (zbe inp)).fin = 1 ∨ (runS (zck C) N (zbe inp)).fin = 2) ∧ (runS (zck C) N (zbe inp)).steps ≤ bs ∧ (runS (zck C) N (zbe inp)).peak ≤ bf:=by
 obtain ⟨n,m,R,h⟩:=T
 rcases h with ⟨_,⟨x,hx,_⟩,_⟩ | ⟨hf,h1,h2⟩
 ·cases hx
 ·have hs:=R.steps
  obtain ⟨d,rfl⟩:=Nat.exists_eq_add_of_le (show n ≤ N by omega)
  have key : runS (zck C) (n + d) (zbe inp) = m:=by
   have hr:=R.run
   clear hN hs
   induction d with
   | zero => exact hr.symm
   | succ d ih =>
    have : ∀ (k : Nat) (a : Mc),¬ (runS (zck C) k a).fin = 0 → runS (zck C) (k + 1) a = runS (zck C) k a:=by
     intro k
     induction k with
     | zero =>
      intro a ha
      exact zbQ _ _ _ ha
     | succ k ih =>
      intro a ha
      by_cases h0 : a.fin = 0
      ·rw [zay _ _ _ h0] at ha
       rw [zay _ _ _ h0,ih _ ha,zay _ _ _ h0]
      ·rw [zbQ _ _ _ h0,zbQ _ _ _ h0]
    rw [← Nat.add_assoc,this (n + d) (zbe inp) (by rw [ih]; omega),ih]
  rw [key]
  exact ⟨hf,h1,h2⟩
end Go.Proofs.YtfpgjkbjbbgciaaGreatDoor
