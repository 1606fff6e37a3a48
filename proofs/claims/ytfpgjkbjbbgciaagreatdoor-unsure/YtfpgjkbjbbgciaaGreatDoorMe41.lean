import Derived.Test.YtfpgjkbjbbgciaaGreatDoorMe40
set_option maxRecDepth 100000
set_option maxHeartbeats 8000000
namespace Go.Proofs.YtfpgjkbjbbgciaaGreatDoor
open Sp
structure RsK where
 marked : List Kn
 steps : Int
 seen : Nat
 covers : Bool
def RsK.begin (R : RsK) (s : Int) : RsK:=⟨if zbF s then [] else R.marked,s,0,true⟩
def RsK.see (R : RsK) (k : Kn) : RsK :=
 ⟨if zbF R.steps then R.marked ++ [k] else R.marked,R.steps,R.seen + 1,R.covers && (!zbF R.steps && (decide (R.seen < R.marked.length) && zbY k (R.marked.getD R.seen kn0)))⟩
def RsK.endless (R : RsK) (k : Kn) : Option RsK :=
 if k.steps = R.steps then some (R.see k) else if R.covers && decide (R.seen = R.marked.length) then none else some ((R.begin k.steps).see k)
def rsk0 : RsK:=⟨[],0,0,false⟩
structure Gs where
 W : List Kn
 looks : Nat
 R : RsK
 bs : Int
 bf : Int
def gs0 : Gs:=⟨[kn0],0,rsk0,0,0⟩
def Meet (y k : Kn) : Prop:=y.next = k.next ∧ y.behind = k.behind ∧ y.steps = k.steps
inductive TakeR (W : List Kn) : Kn → List Kn → Prop
 | one {k : Kn} {ys : List Kn} : (k :: ys).Perm W → (∀ y ∈ ys,keyK k ≤ keyK y) → TakeR W k ys
 | more {k y : Kn} {ys zs : List Kn} : TakeR W k ys → (y :: zs).Perm ys → Meet y k → TakeR W (zeX k y) zs
def TakeD (W : List Kn) (k : Kn) (ys : List Kn) : Prop:=TakeR W k ys ∧ ∀ y ∈ ys,¬ Meet y k
def Rd (C : List (Ins × Int)) (G G' : Gs) : Prop:=∃ (k : Kn) (ys ks : List Kn) (p : Nat) (hp : p < C.length),G.looks < 500000 ∧ G.W.length ≤ 1000 ∧ TakeD G.W k ys ∧ k.steps ≠ 100000 ∧ G.R.endless k = some G'.R ∧ k.next = (p : Int) ∧ zaz C[p].1 k = some ks ∧ G'.W.Perm (ys ++ ks) ∧ G'.looks = G.looks + 1 ∧ G'.bs = k.steps + 1 ∧ G'.bf = max G.bf ((k.behind.length : Int) + 1)
def Rf (C : List (Ins × Int)) (G : Gs) : Prop:=G.W ≠ [] ∧ (500000 ≤ G.looks ∨ 1000 < G.W.length ∨ ∃ (k : Kn) (ys : List Kn),TakeD G.W k ys ∧ (k.steps = 100000 ∨ G.R.endless k = none ∨ ∃ (p : Nat) (hp : p < C.length),k.next = (p : Int) ∧ zaz C[p].1 k = none))
structure KnIn (C : List (Ins × Int)) (k : Kn) : Prop where
 ok : KnOk k
 next : InC C.length k.next
 behind : ∀ z ∈ k.behind,InC C.length z
 few : k.behind.length ≤ 15
 s0 : 0 ≤ k.steps
 s1 : k.steps ≤ 100000
theorem KnIn.key {C : List (Ins × Int)} {k : Kn} (h : KnIn C k) (hC : C.length ≤ 300) : KeyOk k:=by
 refine ⟨?_,h.few,fun z hz => ?_⟩
 ·obtain ⟨p,hp,hl⟩:=h.next
  omega
 ·obtain ⟨p,hp,hl⟩:=h.behind z hz
  omega
structure GsOk (C : List (Ins × Int)) (G : Gs) : Prop where
 kn : ∀ k ∈ G.W,KnIn C k
 few : G.W.length ≤ 1002
 looks : G.looks ≤ 500000
 mkd : G.R.marked.length ≤ G.looks
 seen : G.R.seen ≤ G.looks
 rs0 : 0 ≤ G.R.steps
 rs1 : G.R.steps ≤ 100000
 bs0 : 0 ≤ G.bs
 bs1 : G.bs ≤ 100000
 bf0 : 0 ≤ G.bf
 bf1 : G.bf ≤ 16
theorem TakeR.kn {C : List (Ins × Int)} {W ys : List Kn} {k : Kn} (h : TakeR W k ys) (hC : C.length ≤ 300) (hW : ∀ x ∈ W,KnIn C x) : KnIn C k ∧ (∀ y ∈ ys,KnIn C y) ∧ ys.length < W.length ∧ ∀ y ∈ ys,k.steps ≤ y.steps:=by
 induction h with
 | one hp hl =>
  have hl2:=hp.length_eq
  have hk:=hW _ (hp.mem_iff.1 List.mem_cons_self)
  refine ⟨hk,fun y hy => hW _ (hp.mem_iff.1 (List.mem_cons_of_mem _ hy)),?_,fun y hy => zrI (hk.key hC) ((hW y (hp.mem_iff.1 (List.mem_cons_of_mem _ hy))).key hC) (hl y hy)⟩
  rw [List.length_cons] at hl2; omega
 | more h1 hp hm ih =>
  obtain ⟨i1,i2,i3,i4⟩:=ih
  have hl2:=hp.length_eq
  rw [List.length_cons] at hl2
  have hy:=i2 _ (hp.mem_iff.1 List.mem_cons_self)
  exact ⟨⟨zv7 i1.ok hy.ok,i1.next,i1.behind,i1.few,i1.s0,i1.s1⟩,fun y hy => i2 _ (hp.mem_iff.1 (List.mem_cons_of_mem _ hy)),by omega,fun y hy => i4 y (hp.mem_iff.1 (List.mem_cons_of_mem _ hy))⟩
theorem TakeR.tells {C : List (Ins × Int)} {W ys : List Kn} {k : Kn} {bs bf : Int} {inp : List Int} (h : TakeR W k ys) (T : zh9 C W bs bf inp) : zh9 C (k :: ys) bs bf inp:=by
 induction h with
 | one hp hl => exact ziM (fun x hx => hp.mem_iff.2 hx) T
 | more h1 hp hm ih =>
  refine zpd hm.1 hm.2.1 hm.2.2 (fun x hx => ?_) ih
  rcases List.mem_cons.1 hx with e | e
  ·exact .inl e
  ·rcases List.mem_cons.1 (hp.mem_iff.2 e) with e | e
   ·exact .inr (.inl e)
   ·exact .inr (.inr e)
theorem zpv {k : Kn} {l r : Nat} {f g : Rg → Rg → Option (Rg × Rg)} {z : Int} : (zbs k l r f g z).length ≤ 2:=by
 unfold zbs
 split <;> simp
theorem zlf {k : Kn} {i : Ins} {ks : List Kn} (h : zaz i k = some ks) : ks.length ≤ 2:=by
 have hb:=fun (l r : Nat) (f g : Rg → Rg → Option (Rg × Rg)) (z : Int) => zpv (k:=k) (l:=l) (r:=r) (f:=f) (g:=g) (z:=z)
 unfold zaz at h
 split at h
 all_goals (try split at h)
 all_goals first
  | (simp only [Option.some.injEq] at h; subst h; first | exact hb _ _ _ _ _ | simp)
  | cases h
theorem zlg {k : Kn} {l r : Nat} {f g : Rg → Rg → Option (Rg × Rg)} {z : Int} : ∀ k' ∈ zbs k l r f g z,(k'.next = z ∨ k'.next = k.next + 1) ∧ k'.behind = k.behind:=by
 intro k' hk'
 unfold zbs at hk'
 split at hk'
 ·rcases List.mem_cons.1 hk' with rfl | h
  ·exact ⟨.inl rfl,rfl⟩
  ·rw [List.mem_singleton.1 h]; exact ⟨.inr rfl,rfl⟩
 ·rw [List.mem_singleton.1 hk']; exact ⟨.inl rfl,rfl⟩
 ·rw [List.mem_singleton.1 hk']; exact ⟨.inr rfl,rfl⟩
 ·rw [List.mem_singleton.1 hk']; exact ⟨.inl rfl,rfl⟩
theorem zue {N p : Nat} {k : Kn} {i : Ins} {ks : List Kn} (hn : k.next = (p : Int)) (hl : zqU N p i) (hb : ∀ z ∈ k.behind,InC N z) (hf : k.behind.length ≤ 15) (h : zaz i k = some ks) : ∀ k' ∈ ks,InC N k'.next ∧ (∀ z ∈ k'.behind,InC N z) ∧ k'.behind.length ≤ 15:=by
 have hnx : p + 1 < N → InC N (k.next + 1):=fun h => ⟨p + 1,by omega,h⟩
 have one : ∀ (f g : Nat → Rg) (z : Int),InC N z → ∀ k' ∈ [({ k with regs:=f,cells:=g } : Kn).goTo z],InC N k'.next ∧ (∀ z ∈ k'.behind,InC N z) ∧ k'.behind.length ≤ 15:=fun f g z hz k' hk' => by
  rw [List.mem_singleton.1 hk']; exact ⟨hz,hb,hf⟩
 cases i with
 | set r n => simp only [zaz,Option.some.injEq] at h; subst h; exact one _ _ _ (hnx hl)
 | mov r s => simp only [zaz,Option.some.injEq] at h; subst h; exact one _ _ _ (hnx hl)
 | alu o r s t => simp only [zaz,Option.some.injEq] at h; subst h; exact one _ _ _ (hnx hl)
 | inc r n => simp only [zaz,Option.some.injEq] at h; subst h; exact one _ _ _ (hnx hl)
 | load r s =>
  simp only [zaz] at h
  split at h
  ·cases h
  ·simp only [Option.some.injEq] at h; subst h; exact one _ _ _ (hnx hl)
 | store r s =>
  simp only [zaz] at h
  split at h
  ·cases h
  ·simp only [Option.some.injEq] at h; subst h; exact one _ _ _ (hnx hl)
 | read r => simp only [zaz,Option.some.injEq] at h; subst h; exact one _ _ _ (hnx hl)
 | write r => simp only [zaz,Option.some.injEq] at h; subst h; exact one _ _ _ (hnx hl)
 | jump to => simp only [zaz,Option.some.injEq] at h; subst h; exact one _ _ _ hl
 | less r s to =>
  simp only [zaz] at h
  split at h
  ·simp only [Option.some.injEq] at h; subst h; exact one _ _ _ (hnx hl.2)
  ·simp only [Option.some.injEq] at h; subst h
   intro k' hk'
   obtain ⟨e,e2⟩:=zlg k' hk'
   rw [e2]
   refine ⟨?_,hb,hf⟩
   rcases e with e | e <;> rw [e]
   ·exact hl.1
   ·exact hnx hl.2
 | same r s to =>
  simp only [zaz] at h
  split at h
  ·simp only [Option.some.injEq] at h; subst h; exact one _ _ _ hl.1
  ·simp only [Option.some.injEq] at h; subst h
   intro k' hk'
   obtain ⟨e,e2⟩:=zlg k' hk'
   rw [e2]
   refine ⟨?_,hb,hf⟩
   rcases e with e | e <;> rw [e]
   ·exact hl.1
   ·exact hnx hl.2
 | call to =>
  simp only [zaz] at h
  split at h
  ·cases h
  ·simp only [Option.some.injEq] at h; subst h
   intro k' hk'
   rw [List.mem_singleton.1 hk']
   refine ⟨hl.1,fun z hz => ?_,?_⟩
   ·rcases List.mem_append.1 hz with e | e
    ·exact hb z e
    ·rw [List.mem_singleton.1 e]; exact hnx hl.2
   ·show (k.behind ++ [k.next + 1]).length ≤ 15
    rw [List.length_append]; simp; omega
 | back =>
  simp only [zaz] at h
  cases hk : k.behind with
  | nil => rw [hk] at h; simp only [Option.some.injEq] at h; subst h; intro k' hk'; cases hk'
  | cons b r =>
   rw [hk] at h
   simp only [Option.some.injEq] at h; subst h
   intro k' hk'
   rw [List.mem_singleton.1 hk']
   rw [hk] at hb hf
   have hne : (b :: r) ≠ []:=by simp
   refine ⟨hb _ ?_,fun z hz => hb z (List.dropLast_subset _ hz),?_⟩
   ·show (b :: r).getLastD 0 ∈ _
    rw [List.getLastD_eq_getLast?,List.getLast?_eq_some_getLast hne]
    exact List.getLast_mem hne
   ·show (b :: r).dropLast.length ≤ 15
    rw [List.length_dropLast]; omega
 | stop => simp only [zaz,Option.some.injEq] at h; subst h; intro k' hk'; cases hk'
theorem znN {C : List (Ins × Int)} (S : CodeSure C) {k : Kn} {ks : List Kn} {p : Nat} (hp : p < C.length) (hk : k.next = (p : Int)) (K : KnIn C k) (hs : k.steps ≠ 100000) (h : zaz C[p].1 k = some ks) : ∀ k' ∈ ks,KnIn C k':=by
 intro k' hk'
 obtain ⟨a1,a2⟩:=ziL K.ok (S.ok.ok p hp) (S.n64 p hp) h k' hk'
 obtain ⟨b1,b2,b3⟩:=zue hk (S.ok.leads p hp) K.behind K.few h k' hk'
 have:=K.s0
 have:=K.s1
 exact ⟨a2,b1,b2,b3,by omega,by omega⟩
theorem RsK.see_ok {R : RsK} {k : Kn} {n : Nat} (h1 : R.marked.length ≤ n) (h2 : R.seen ≤ n) : (R.see k).marked.length ≤ n + 1 ∧ (R.see k).seen ≤ n + 1 ∧ (R.see k).steps = R.steps:=by
 refine ⟨?_,?_,rfl⟩
 ·show (if zbF R.steps then R.marked ++ [k] else R.marked).length ≤ _
  split
  ·rw [List.length_append]; simp; omega
  ·omega
 ·show R.seen + 1 ≤ _; omega
theorem RsK.begin_len (R : RsK) (s : Int) : (R.begin s).marked.length ≤ R.marked.length:=by
 show (if zbF s then [] else R.marked).length ≤ _
 split
 ·simp
 ·exact Nat.le_refl _
theorem RsK.endless_ok {R R' : RsK} {k : Kn} {n : Nat} (h1 : R.marked.length ≤ n) (h2 : R.seen ≤ n) (h : R.endless k = some R') : R'.marked.length ≤ n + 1 ∧ R'.seen ≤ n + 1 ∧ R'.steps = k.steps:=by
 unfold RsK.endless at h
 split at h
 ·rename_i e
  cases h
  obtain ⟨a,b,c⟩:=RsK.see_ok (k:=k) h1 h2
  exact ⟨a,b,by rw [c,e]⟩
 ·split at h
  ·cases h
  ·cases h
   obtain ⟨a,b,c⟩:=RsK.see_ok (R:=R.begin k.steps) (k:=k) (n:=n) (Nat.le_trans (R.begin_len _) h1) (Nat.zero_le _)
   exact ⟨a,b,c⟩
theorem zwB {C : List (Ins × Int)} (S : CodeSure C) : GsOk C gs0:=by
 refine ⟨fun k hk => ?_,by show 1 ≤ 1002; omega,by show 0 ≤ 500000; omega,Nat.le_refl _,Nat.le_refl _,Int.le_refl _,by show (0 : Int) ≤ 100000; omega,Int.le_refl _,by show (0 : Int) ≤ 100000; omega,Int.le_refl _,by show (0 : Int) ≤ 16; omega⟩
 rw [List.mem_singleton.1 hk]
 have h0 : (only 0).Ok:=zh5 (by unfold i64; omega)
 exact ⟨⟨fun _ _ => h0,fun _ _ => h0⟩,⟨0,rfl,S.ok.some_⟩,fun z hz => (by cases hz),Nat.zero_le _,Int.le_refl _,by show (0 : Int) ≤ 100000; omega⟩
theorem zxb {C : List (Ins × Int)} (S : CodeSure C) {G G' : Gs} (h : GsOk C G) (r : Rd C G G') : GsOk C G':=by
 obtain ⟨k,ys,ks,p,hp,l1,l2,ht,hs,he,hk,hl,hW,hL,hbs,hbf⟩:=r
 obtain ⟨K,Ky,hlen,_⟩:=ht.1.kn S.ok.few h.kn
 obtain ⟨e1,e2,e3⟩:=RsK.endless_ok h.mkd h.seen he
 have hll:=zlf hl
 have hWl:=hW.length_eq
 rw [List.length_append] at hWl
 have:=K.s0
 have:=K.s1
 have:=K.few
 have:=h.bf0
 have:=h.bf1
 refine ⟨fun x hx => ?_,by omega,by omega,by omega,by omega,by omega,by omega,by omega,by omega,by omega,by omega⟩
 rcases List.mem_append.1 (hW.mem_iff.1 hx) with e | e
 ·exact Ky x e
 ·exact znN S hp hk K hs hl x e
structure GsT (C : List (Ins × Int)) (G : Gs) : Prop where
 ok : GsOk C G
 tells : ∀ inp : List Int,(∀ x ∈ inp,i64 x) → zh9 C G.W G.bs G.bf inp
 low : ∀ k ∈ G.W,G.bs ≤ k.steps + 1
theorem zxc {C : List (Ins × Int)} (S : CodeSure C) : GsT C gs0 :=
 ⟨zwB S,fun inp hin => zmj S inp hin _ _,fun k hk => by rw [List.mem_singleton.1 hk]; show (0 : Int) ≤ 0 + 1; omega⟩
theorem rd_t {C : List (Ins × Int)} (S : CodeSure C) {G G' : Gs} (h : GsT C G) (r : Rd C G G') : GsT C G':=by
 refine ⟨zxb S h.ok r,?_,?_⟩
 ·obtain ⟨k,ys,ks,p,hp,l1,l2,ht,hs,he,hk,hl,hW,hL,hbs,hbf⟩:=r
  intro inp hin
  obtain ⟨K,Ky,hlen,hle0⟩:=ht.1.kn S.ok.few h.ok.kn
  clear hle0
  have T:=ht.1.tells (h.tells inp hin)
  have hlow : G.bs ≤ k.steps + 1:=by
   have ht1:=ht.1
   clear hW hl he hbs hbf hs hk K Ky hlen T ht
   induction ht1 with
   | one hp hl => exact h.low _ (hp.mem_iff.1 List.mem_cons_self)
   | more h1 hp hm ih => exact ih
  rw [hbs,hbf]
  refine ziM (fun x hx => hW.mem_iff.2 hx) (zpb S hp hk K.ok hlow hl (fun x hx => ?_) T)
  rcases List.mem_cons.1 hx with e | e
  ·exact .inl e
  ·exact .inr e
 ·obtain ⟨k,ys,ks,p,hp,l1,l2,ht,hs,he,hk,hl,hW,hL,hbs,hbf⟩:=r
  obtain ⟨K,Ky,hlen,hle⟩:=ht.1.kn S.ok.few h.ok.kn
  intro x hx
  rw [hbs]
  rcases List.mem_append.1 (hW.mem_iff.1 hx) with e | e
  ·have:=hle x e; omega
  ·have:=(ziL K.ok (S.ok.ok p hp) (S.n64 p hp) hl x e).1
   omega
theorem GsT.ends {C : List (Ins × Int)} {G : Gs} (h : GsT C G) (h0 : G.W = []) (inp : List Int) (hin : ∀ x ∈ inp,i64 x) (N : Nat) (hN : G.bs ≤ (N : Int)) :
  ((runS (zck C) N (zbe inp)).fin = 1 ∨ (runS (zck C) N (zbe inp)).fin = 2) ∧ (runS (zck C) N (zbe inp)).steps ≤ G.bs ∧ (runS (zck C) N (zbe inp)).peak ≤ G.bf:=by
 have T:=h.tells inp hin
 rw [h0] at T
 exact zr3 T N hN
inductive Pj : (Kn → Int) → Prop
 | rlo (r : Nat) : Pj fun k => (k.regs r).lo
 | rhi (r : Nat) : Pj fun k => -(k.regs r).hi
 | clo (c : Nat) : Pj fun k => (k.cells c).lo
 | chi (c : Nat) : Pj fun k => -(k.cells c).hi
theorem Pj.join {f : Kn → Int} (h : Pj f) (k o : Kn) : f (zeX k o) = min (f k) (f o):=by
 cases h with
 | rlo r => rfl
 | rhi r => show -(max (k.regs r).hi (o.regs r).hi) = min (-(k.regs r).hi) (-(o.regs r).hi); omega
 | clo c => rfl
 | chi c => show -(max (k.cells c).hi (o.cells c).hi) = min (-(k.cells c).hi) (-(o.cells c).hi); omega
theorem Rg.ext' {a b : Rg} (h1 : a.lo = b.lo) (h2 : a.hi = b.hi) : a = b:=by cases a; cases b; simp_all
theorem zwF {k o : Kn} (h : ∀ f,Pj f → f k = f o) (m : Meet k o) : k = o:=by
 have e1 : k.regs = o.regs:=funext fun r => Rg.ext' (h _ (.rlo r)) (by have:=h _ (.rhi r); omega)
 have e2 : k.cells = o.cells:=funext fun r => Rg.ext' (h _ (.clo r)) (by have:=h _ (.chi r); omega)
 obtain ⟨m1,m2,m3⟩:=m
 cases k; cases o
 simp only at e1 e2 m1 m2 m3
 subst e1; subst e2; subst m1; subst m2; subst m3; rfl
theorem Meet.key {y k : Kn} (h : Meet y k) : keyK y = keyK k:=by unfold keyK; rw [h.1,h.2.1,h.2.2]
theorem zj8 {y k : Kn} (hy : KeyOk y) (hk : KeyOk k) (h : keyK y = keyK k) : Meet y k:=by
 obtain ⟨c1,c2,c3⟩:=zmv hy hk
 by_cases h0 : cmpK y k = 0
 ·exact c2 h0
 ·by_cases h1 : cmpK y k < 0
  ·have:=c1 h1; omega
  ·have:=c3 (by omega); omega
structure TakeC (W : List Kn) (k : Kn) (ys zs : List Kn) : Prop where
 perm : (zs ++ ys).Perm W
 ne : ∃ z,z ∈ zs
 meet : ∀ z ∈ zs,Meet z k
 pj : ∀ f,Pj f → (∀ z ∈ zs,f k ≤ f z) ∧ ∃ z ∈ zs,f k = f z
 least : ∀ y ∈ ys,keyK k ≤ keyK y
theorem TakeR.cls {W ys : List Kn} {k : Kn} (h : TakeR W k ys) : ∃ zs,TakeC W k ys zs:=by
 induction h with
 | one hp hl =>
  rename_i k ys
  exact ⟨[k],hp,⟨k,zbA _⟩,fun z hz => by rw [List.mem_singleton.1 hz]; exact ⟨rfl,rfl,rfl⟩,fun f _ => ⟨fun z hz => by rw [List.mem_singleton.1 hz]; exact Int.le_refl _,k,zbA _,rfl⟩,hl⟩
 | more h1 hp hm ih =>
  rename_i k y ys zs
  obtain ⟨cs,c⟩:=ih
  have hkey : keyK (zeX k y) = keyK k:=rfl
  refine ⟨y :: cs,?_,⟨y,List.mem_cons_self⟩,fun z hz => ?_,fun f hf => ?_,fun x hx => ?_⟩
  ·refine List.Perm.trans ?_ c.perm
   show (y :: (cs ++ zs)).Perm _
   exact (List.perm_middle (l₁:=cs) (a:=y) (l₂:=zs)).symm.trans (List.Perm.append_left cs hp)
  ·rcases List.mem_cons.1 hz with e | e
   ·rw [e]; exact hm
   ·exact c.meet z e
  ·obtain ⟨p1,z0,hz0,p2⟩:=c.pj f hf
   rw [hf.join]
   refine ⟨fun z hz => ?_,?_⟩
   ·rcases List.mem_cons.1 hz with e | e
    ·rw [e]; omega
    ·have:=p1 z e; omega
   ·by_cases hle : f k ≤ f y
    ·exact ⟨z0,List.mem_cons_of_mem _ hz0,by omega⟩
    ·exact ⟨y,List.mem_cons_self,by omega⟩
  ·rw [hkey]; exact c.least x (hp.mem_iff.1 (List.mem_cons_of_mem _ hx))
theorem zex {α : Type} {p : α → Bool} {l : List α} (h : ∀ x ∈ l,p x = true) : l.filter p = l:=List.filter_eq_self.2 h
theorem zdF {α : Type} {p : α → Bool} {l : List α} (h : ∀ x ∈ l,p x = false) : l.filter p = []:=List.filter_eq_nil_iff.2 fun x hx => by rw [h x hx]; simp
theorem TakeD.unique {W W' ys ys' : List Kn} {k k' : Kn} (hW : ∀ x ∈ W,KeyOk x) (hP : W.Perm W') (h : TakeD W k ys) (h' : TakeD W' k' ys') : k = k' ∧ ys.Perm ys':=by
 obtain ⟨zs,c⟩:=h.1.cls
 obtain ⟨zs',c'⟩:=h'.1.cls
 have kk : ∀ x,x ∈ zs ++ ys → KeyOk x:=fun x hx => hW x (c.perm.mem_iff.1 hx)
 have kk' : ∀ x,x ∈ zs' ++ ys' → KeyOk x:=fun x hx => hW x (hP.mem_iff.2 (c'.perm.mem_iff.1 hx))
 obtain ⟨z,hz⟩:=c.ne
 obtain ⟨z',hz'⟩:=c'.ne
 have mz:=c.meet z hz
 have mz':=c'.meet z' hz'
 have hk : KeyOk k:=by have q:=kk z (List.mem_append_left _ hz); exact ⟨by rw [← mz.1]; exact q.next,by rw [← mz.2.1]; exact q.behind⟩
 have hk' : KeyOk k':=by have q:=kk' z' (List.mem_append_left _ hz'); exact ⟨by rw [← mz'.1]; exact q.next,by rw [← mz'.2.1]; exact q.behind⟩
 have lt : ∀ y ∈ ys,keyK k < keyK y:=fun y hy => by
  have h1:=c.least y hy
  by_cases e : keyK y = keyK k
  ·exact absurd (zj8 (kk y (List.mem_append_right _ hy)) hk e) (h.2 y hy)
  ·omega
 have lt' : ∀ y ∈ ys',keyK k' < keyK y:=fun y hy => by
  have h1:=c'.least y hy
  by_cases e : keyK y = keyK k'
  ·exact absurd (zj8 (kk' y (List.mem_append_right _ hy)) hk' e) (h'.2 y hy)
  ·omega
 have ek : keyK k = keyK k':=by
  have a1 : keyK k ≤ keyK k':=by
   have hm : z' ∈ zs ++ ys:=c.perm.mem_iff.2 (hP.mem_iff.2 (c'.perm.mem_iff.1 (List.mem_append_left _ hz')))
   rw [← mz'.key]
   rcases List.mem_append.1 hm with e | e
   ·rw [(c.meet z' e).key]; exact Int.le_refl _
   ·have:=lt z' e; omega
  have a2 : keyK k' ≤ keyK k:=by
   have hm : z ∈ zs' ++ ys':=c'.perm.mem_iff.2 (hP.mem_iff.1 (c.perm.mem_iff.1 (List.mem_append_left _ hz)))
   rw [← mz.key]
   rcases List.mem_append.1 hm with e | e
   ·rw [(c'.meet z e).key]; exact Int.le_refl _
   ·have:=lt' z e; omega
  omega
 have f1 : ((zs ++ ys).filter fun x => decide (keyK x = keyK k)) = zs:=by
  rw [List.filter_append,zex (fun x hx => by simpa using (c.meet x hx).key),zdF (fun x hx => by have:=lt x hx; simp; omega),List.append_nil]
 have f2 : ((zs ++ ys).filter fun x => !decide (keyK x = keyK k)) = ys:=by
  rw [List.filter_append,zdF (fun x hx => by simp [(c.meet x hx).key]),zex (fun x hx => by have:=lt x hx; simp; omega),List.nil_append]
 have f1' : ((zs' ++ ys').filter fun x => decide (keyK x = keyK k)) = zs':=by
  rw [ek,List.filter_append,zex (fun x hx => by simpa using (c'.meet x hx).key),zdF (fun x hx => by have:=lt' x hx; simp; omega),List.append_nil]
 have f2' : ((zs' ++ ys').filter fun x => !decide (keyK x = keyK k)) = ys':=by
  rw [ek,List.filter_append,zdF (fun x hx => by simp [(c'.meet x hx).key]),zex (fun x hx => by have:=lt' x hx; simp; omega),List.nil_append]
 have hp : (zs ++ ys).Perm (zs' ++ ys'):=c.perm.trans (hP.trans c'.perm.symm)
 have pz : zs.Perm zs':=by have:=hp.filter fun x => decide (keyK x = keyK k); rwa [f1,f1'] at this
 have py : ys.Perm ys':=by have:=hp.filter fun x => !decide (keyK x = keyK k); rwa [f2,f2'] at this
 refine ⟨zwF (fun f hf => ?_) (zj8 hk hk' ek),py⟩
 obtain ⟨p1,a,ha,p2⟩:=c.pj f hf
 obtain ⟨q1,b,hb,q2⟩:=c'.pj f hf
 have:=p1 b (pz.mem_iff.2 hb)
 have:=q1 a (pz.mem_iff.1 ha)
 omega
structure Gq (G G' : Gs) : Prop where
 W : G.W.Perm G'.W
 looks : G.looks = G'.looks
 R : G.R = G'.R
 bs : G.bs = G'.bs
 bf : G.bf = G'.bf
theorem zse {C : List (Ins × Int)} (hC : C.length ≤ 300) {G G' H H' : Gs} (hG : GsOk C G) (q : Gq G G') (r : Rd C G H) (r' : Rd C G' H') : Gq H H':=by
 obtain ⟨k,ys,ks,p,hp,l1,l2,ht,hs,he,hk,hl,hW,hL,hbs,hbf⟩:=r
 obtain ⟨k',ys',ks',p',hp',l1',l2',ht',hs',he',hk',hl',hW',hL',hbs',hbf'⟩:=r'
 obtain ⟨rfl,py⟩:=TakeD.unique (fun x hx => (hG.kn x hx).key hC) q.W ht ht'
 have ep : p = p':=by omega
 subst ep
 rw [hl] at hl'
 cases hl'
 refine ⟨hW.trans ((List.Perm.append_right ks py).trans hW'.symm),by rw [hL,hL',q.looks],?_,by rw [hbs,hbs'],by rw [hbf,hbf',q.bf]⟩
 rw [q.R,he'] at he
 simpa using he.symm
theorem zsf {C : List (Ins × Int)} (hC : C.length ≤ 300) {G G' H : Gs} (hG : GsOk C G) (q : Gq G G') (r : Rd C G H) (r' : Rf C G') : False:=by
 obtain ⟨k,ys,ks,p,hp,l1,l2,ht,hs,he,hk,hl,hW,hL,hbs,hbf⟩:=r
 obtain ⟨_,h | h | ⟨k',ys',ht',h⟩⟩:=r'
 ·have:=q.looks; omega
 ·have:=q.W.length_eq; omega
 ·obtain ⟨rfl,py⟩:=TakeD.unique (fun x hx => (hG.kn x hx).key hC) q.W ht ht'
  rcases h with h | h | ⟨p',hp',hk',hl'⟩
  ·exact hs h
  ·rw [← q.R,he] at h; cases h
  ·have ep : p = p':=by omega
   subst ep
   rw [hl] at hl'; cases hl'
theorem zum {W ys : List Kn} {k : Kn} (h : TakeD W k ys) : W ≠ []:=by
 obtain ⟨zs,c⟩:=h.1.cls
 obtain ⟨z,hz⟩:=c.ne
 intro e
 have:=c.perm.mem_iff.1 (List.mem_append_left ys hz)
 rw [e] at this; cases this
theorem zvP {C : List (Ins × Int)} {G H : Gs} (r : Rd C G H) : G.W ≠ []:=by
 obtain ⟨k,ys,ks,p,hp,l1,l2,ht,_⟩:=r
 exact zum ht
inductive Reach (C : List (Ins × Int)) : Gs → Prop
 | zero : Reach C gs0
 | step {G G' : Gs} : Reach C G → Rd C G G' → Reach C G'
theorem Reach.t {C : List (Ins × Int)} (S : CodeSure C) {G : Gs} (h : Reach C G) : GsT C G:=by
 induction h with
 | zero => exact zxc S
 | step _ r ih => exact rd_t S ih r
theorem zf4 {C : List (Ins × Int)} {G H : Gs} (r : Rd C G H) : H.looks = G.looks + 1:=by
 obtain ⟨k,ys,ks,p,hp,l1,l2,ht,hs,he,hk,hl,hW,hL,hbs,hbf⟩:=r
 exact hL
theorem Reach.unique {C : List (Ins × Int)} (S : CodeSure C) {G G' : Gs} (h : Reach C G) (h' : Reach C G') (e : G.looks = G'.looks) : Gq G G':=by
 induction h generalizing G' with
 | zero =>
  cases h' with
  | zero => exact ⟨List.Perm.refl _,rfl,rfl,rfl,rfl⟩
  | step _ r => have:=zf4 r; have e2 : (gs0).looks = 0:=rfl; omega
 | step h r ih =>
  cases h' with
  | zero => have:=zf4 r; have e2 : (gs0).looks = 0:=rfl; omega
  | step h2 r2 =>
   have e1:=zf4 r
   have e2:=zf4 r2
   exact zse S.ok.few (h.t S).ok (ih h2 (by omega)) r r2
theorem Reach.way {C : List (Ins × Int)} {G : Gs} (h : Reach C G) (n : Nat) (hn : n < G.looks) : ∃ G1 G2,Reach C G1 ∧ Rd C G1 G2 ∧ G1.looks = n:=by
 induction h with
 | zero => exact absurd hn (by show ¬ n < 0; omega)
 | step h r ih =>
  rename_i G G'
  have e:=zf4 r
  by_cases hl : n = G.looks
  ·exact ⟨G,G',h,r,hl.symm⟩
  ·exact ih (by omega)
def Verd (C : List (Ins × Int)) : Option (Int × Int) → Prop
 | none => ∃ G,Reach C G ∧ Rf C G
 | some b => ∃ G,Reach C G ∧ G.W = [] ∧ G.bs = b.1 ∧ G.bf = b.2
theorem Verd.unique {C : List (Ins × Int)} (S : CodeSure C) {a b : Option (Int × Int)} (ha : Verd C a) (hb : Verd C b) : a = b:=by
 have key : ∀ {G G' : Gs},Reach C G → Reach C G' → G.W = [] → Rf C G' → False:=fun {G G'} h h' hW hR => by
  rcases Nat.lt_trichotomy G.looks G'.looks with hl | hl | hl
  ·obtain ⟨G1,G2,r1,r2,e⟩:=h'.way _ hl
   have q:=h.unique S r1 e.symm
   exact zvP r2 (List.perm_nil.1 (by rw [← hW]; exact q.W.symm))
  ·have q:=h.unique S h' hl
   exact hR.1 (List.perm_nil.1 (by rw [← hW]; exact q.W.symm))
  ·obtain ⟨G1,G2,r1,r2,e⟩:=h.way _ hl
   exact zsf S.ok.few (r1.t S).ok (r1.unique S h' e) r2 hR
 cases a with
 | none =>
  cases b with
  | none => rfl
  | some b =>
   obtain ⟨G,h,hR⟩:=ha
   obtain ⟨G',h',hW,_⟩:=hb
   exact (key h' h hW hR).elim
 | some a =>
  obtain ⟨G,h,hW,h1,h2⟩:=ha
  cases b with
  | none =>
   obtain ⟨G',h',hR⟩:=hb
   exact (key h h' hW hR).elim
  | some b =>
   obtain ⟨G',h',hW',h1',h2'⟩:=hb
   have eL : G.looks = G'.looks:=by
    rcases Nat.lt_trichotomy G.looks G'.looks with hl | hl | hl
    ·obtain ⟨G1,G2,r1,r2,e⟩:=h'.way _ hl
     have q:=h.unique S r1 e.symm
     exact (zvP r2 (List.perm_nil.1 (by rw [← hW]; exact q.W.symm))).elim
    ·exact hl
    ·obtain ⟨G1,G2,r1,r2,e⟩:=h.way _ hl
     have q:=h'.unique S r1 e.symm
     exact (zvP r2 (List.perm_nil.1 (by rw [← hW']; exact q.W.symm))).elim
   have q:=h.unique S h' eL
   obtain ⟨a1,a2⟩:=a
   obtain ⟨b1,b2⟩:=b
   simp only at h1 h2 h1' h2'
   rw [← h1,← h2,← h1',← h2',q.bs,q.bf]
theorem Verd.ends {C : List (Ins × Int)} (S : CodeSure C) {b : Int × Int} (h : Verd C (some b)) (inp : List Int) (hin : ∀ x ∈ inp,i64 x) (N : Nat) (hN : b.1 ≤ (N : Int)) :
  ((runS (zck C) N (zbe inp)).fin = 1 ∨ (runS (zck C) N (zbe inp)).fin = 2) ∧ (runS (zck C) N (zbe inp)).steps ≤ b.1 ∧ (runS (zck C) N (zbe inp)).peak ≤ b.2:=by
 obtain ⟨G,hr,hW,h1,h2⟩:=h
 rw [← h1,← h2]
 exact (hr.t S).ends hW inp hin N (by rw [h1]; exact hN)
theorem Verd.bound {C : List (Ins × Int)} (S : CodeSure C) {b : Int × Int} (h : Verd C (some b)) : 1 ≤ b.1 ∧ b.1 ≤ 100000 ∧ 1 ≤ b.2 ∧ b.2 ≤ 16:=by
 obtain ⟨G,hr,hW,h1,h2⟩:=h
 have ok:=(hr.t S).ok
 rw [← h1,← h2]
 cases hr with
 | zero => cases hW
 | step hr r =>
  have ok0:=(hr.t S).ok
  obtain ⟨k,ys,ks,p,hp,l1,l2,ht,hs,he,hk,hl,hW,hL,hbs,hbf⟩:=r
  have K:=(ht.1.kn S.ok.few ok0.kn).1
  have:=K.s0
  have:=ok.bs1
  have:=ok.bf1
  omega
end Go.Proofs.YtfpgjkbjbbgciaaGreatDoor
namespace Go.Proofs.YtfpgjkbjbbgciaaGreatDoor
open Go.RowKit Sp
structure SC (w : World) (S : Nat) (cv v mv : Value) (R : Rs) (looks : Nat) (bs bf : Int) : Prop where
 c0 : w.cell? ⟨S,0,none⟩ = some cv
 c1 : w.cell? ⟨S,1,none⟩ = some v
 rs : RsC w S 2 mv R
 c6 : w.cell? ⟨S,6,none⟩ = some (.int .i64 (looks : Int))
 c7 : w.cell? ⟨S,7,none⟩ = some (.int .i64 bs)
 c8 : w.cell? ⟨S,8,none⟩ = some (.int .i64 bf)
 fz : ∀ j,w.frozen? ⟨S,j,none⟩ = false
theorem SC.lt {w : World} {S : Nat} {cv v mv : Value} {R : Rs} {looks : Nat} {bs bf : Int} (h : SC w S cv v mv R looks bs bf) : S < w.heap.size:=World.block_lt_of_cell? w _ h.c0
theorem SC.block {w w' : World} {S : Nat} {cv v mv : Value} {R : Rs} {looks : Nat} {bs bf : Int} (h : SC w S cv v mv R looks bs bf) (e : w'.heap[S]? = w.heap[S]?) : SC w' S cv v mv R looks bs bf:=by
 have c : ∀ j,w'.cell? ⟨S,j,none⟩ = w.cell? ⟨S,j,none⟩:=fun j => World.cell?_of_block (w:=w) (a:=⟨S,j,none⟩) e
 exact ⟨(c _).trans h.c0,(c _).trans h.c1,⟨(c _).trans h.rs.cM,(c _).trans h.rs.cS,(c _).trans h.rs.cN,(c _).trans h.rs.cC⟩,(c _).trans h.c6,(c _).trans h.c7,(c _).trans h.c8,fun j => (World.frozen?_of_block (w:=w) (a:=⟨S,j,none⟩) e).trans (h.fz j)⟩
theorem SC.one {w w' : World} {S o : Nat} {cv v mv : Value} {R : Rs} {looks : Nat} {bs bf : Int} (h : SC w S cv v mv R looks bs bf) (c : ∀ j,¬ j = o → w'.cell? ⟨S,j,none⟩ = w.cell? ⟨S,j,none⟩) (fz : ∀ j,w'.frozen? ⟨S,j,none⟩ = w.frozen? ⟨S,j,none⟩) {x : Value} (hx : w'.cell? ⟨S,o,none⟩ = some x) :
  (o = 1 → SC w' S cv x mv R looks bs bf) ∧ (∀ n : Nat,o = 6 → x = .int .i64 (n : Int) → SC w' S cv v mv R n bs bf) ∧ (∀ n : Int,o = 7 → x = .int .i64 n → SC w' S cv v mv R looks n bf) ∧ (∀ n : Int,o = 8 → x = .int .i64 n → SC w' S cv v mv R looks bs n):=by
 have f : ∀ j,w'.frozen? ⟨S,j,none⟩ = false:=fun j => (fz j).trans (h.fz j)
 refine ⟨fun e => ?_,fun n e ex => ?_,fun n e ex => ?_,fun n e ex => ?_⟩
 ·subst e
  exact ⟨(c _ (by omega)).trans h.c0,hx,⟨(c _ (by omega)).trans h.rs.cM,(c _ (by omega)).trans h.rs.cS,(c _ (by omega)).trans h.rs.cN,(c _ (by omega)).trans h.rs.cC⟩,(c _ (by omega)).trans h.c6,(c _ (by omega)).trans h.c7,(c _ (by omega)).trans h.c8,f⟩
 ·subst e; subst ex
  exact ⟨(c _ (by omega)).trans h.c0,(c _ (by omega)).trans h.c1,⟨(c _ (by omega)).trans h.rs.cM,(c _ (by omega)).trans h.rs.cS,(c _ (by omega)).trans h.rs.cN,(c _ (by omega)).trans h.rs.cC⟩,hx,(c _ (by omega)).trans h.c7,(c _ (by omega)).trans h.c8,f⟩
 ·subst e; subst ex
  exact ⟨(c _ (by omega)).trans h.c0,(c _ (by omega)).trans h.c1,⟨(c _ (by omega)).trans h.rs.cM,(c _ (by omega)).trans h.rs.cS,(c _ (by omega)).trans h.rs.cN,(c _ (by omega)).trans h.rs.cC⟩,(c _ (by omega)).trans h.c6,hx,(c _ (by omega)).trans h.c8,f⟩
 ·subst e; subst ex
  exact ⟨(c _ (by omega)).trans h.c0,(c _ (by omega)).trans h.c1,⟨(c _ (by omega)).trans h.rs.cM,(c _ (by omega)).trans h.rs.cS,(c _ (by omega)).trans h.rs.cN,(c _ (by omega)).trans h.rs.cC⟩,(c _ (by omega)).trans h.c6,(c _ (by omega)).trans h.c7,hx,f⟩
def Free (S : Nat) (v mv : Value) (q : Nat) : Prop:=¬ q = S ∧ v.ownBlock ≠ some q ∧ mv.ownBlock ≠ some q
structure SO (w : World) (B S g : Nat) (C : List (Ins × Int)) (v mv : Value) (xs hs : List Wy) (ms : List Mk) : Prop where
 code : CodeIn w g C
 gB : g < B
 SB : B ≤ S
 SL : S < w.heap.size
 hp : HeapM w B v xs
 ord : HpAll (stp xs) xs.length
 hand : ∀ h ∈ hs,WyM w h
 mkr : w.ownsRow B 217 51 mv ms.length (zbf ms)
 mbh : ∀ m ∈ ms,BhM w m.ao m.cap m.k.behind
 vS : v.ownBlock ≠ some S
 mS : mv.ownBlock ≠ some S
 vm : ∀ q,v.ownBlock = some q → mv.ownBlock ≠ some q
 nod : ((hs ++ xs).map Wy.b).Nodup
 far : ∀ x ∈ hs ++ xs,B ≤ x.b ∧ Free S v mv x.b ∧ ∀ a,x.ao = some a → Free S v mv a.block ∧ ∀ y ∈ hs ++ xs,¬ a.block = y.b
 mfar : ∀ m ∈ ms,∀ a,m.ao = some a → Free S v mv a.block ∧ ∀ y ∈ hs ++ xs,¬ a.block = y.b
theorem WyM.keep {w w' : World} {x : Wy} (h : WyM w x) (hs : w.heap.size ≤ w'.heap.size) (h1 : w'.heap[x.b]? = w.heap[x.b]?) (h2 : ∀ a,x.ao = some a → w'.heap[a.block]? = w.heap[a.block]?) : WyM w' x :=
 ⟨h.key,h.kn.block h1,h.bh.kept hs fun _g e => h2 _ e⟩
theorem zdz {w w' : World} {g : Nat} {C : List (Ins × Int)} (h : CodeIn w g C) (e : w'.heap[g]? = w.heap[g]?) : CodeIn w' g C :=
 fun j hj => ⟨(World.cell?_of_block (w:=w) (a:=⟨g,j * 2,none⟩) e).trans (h j hj).1,(World.cell?_of_block (w:=w) (a:=⟨g,j * 2 + 1,none⟩) e).trans (h j hj).2⟩
theorem WyM.aolt {w : World} {x : Wy} (h : WyM w x) {a : Addr} (ha : x.ao = some a) : a.block < w.heap.size:=by
 obtain ⟨g,rfl⟩:=h.bh.at0 a ha
 exact (h.bh.cell g ha).1
theorem zvK {w : World} {ao : Option Addr} {cap : Nat} {l : List Int} (h : BhM w ao cap l) {a : Addr} (ha : ao = some a) : a.block < w.heap.size:=by
 obtain ⟨g,rfl⟩:=h.at0 a ha
 exact (h.cell g ha).1
section
variable {w w' : World} {B S g : Nat} {C : List (Ins × Int)} {v mv : Value} {xs hs : List Wy} {ms : List Mk}
theorem SO.wy (h : SO w B S g C v mv xs hs ms) : ∀ x ∈ hs ++ xs,WyM w x:=fun x hx => by
 rcases List.mem_append.1 hx with e | e
 ·exact h.hand x e
 ·exact h.hp.wy x e
theorem SO.stay (h : SO w B S g C v mv xs hs ms) (hsz : w.heap.size ≤ w'.heap.size) (hb : ∀ q,q < w.heap.size → ¬ q = S → w'.heap[q]? = w.heap[q]?) : SO w' B S g C v mv xs hs ms:=by
 have hwy : ∀ x ∈ hs ++ xs,WyM w' x:=fun x hx => by
  have k:=h.wy x hx
  obtain ⟨_,f1,f2⟩:=h.far x hx
  exact k.keep hsz (hb _ k.kn.lt f1.1) (fun a ha => hb _ (k.aolt ha) (f2 a ha).1.1)
 have hv : ∀ q,v.ownBlock = some q → w'.heap[q]? = w.heap[q]?:=fun q hq => hb q (h.hp.row.lt q hq).2 (fun e => h.vS (by rw [hq,e]))
 have hm : ∀ q,mv.ownBlock = some q → w'.heap[q]? = w.heap[q]?:=fun q hq => hb q (h.mkr.lt q hq).2 (fun e => h.mS (by rw [hq,e]))
 have hgS : ¬ g = S:=by have:=h.gB; have:=h.SB; omega
 exact ⟨zdz h.code (hb g (by have:=h.gB; have:=h.SB; have:=h.SL; omega) hgS),h.gB,h.SB,Nat.lt_of_lt_of_le h.SL hsz,⟨zbW h.hp.row hv,fun x hx => hwy x (List.mem_append_right _ hx),h.hp.far⟩,h.ord,fun x hx => hwy x (List.mem_append_left _ hx),zbW h.mkr hm,fun m hm2 => (h.mbh m hm2).kept hsz (fun q e => hb q ((h.mbh m hm2).cell q e).1 (h.mfar m hm2 _ e).1.1),h.vS,h.mS,h.vm,h.nod,h.far,h.mfar⟩
theorem SO.below (h : SO w B S g C v mv xs hs ms) (hb : Below w.heap.size w w') : SO w' B S g C v mv xs hs ms:=h.stay hb.size fun q hq _ => hb.block q hq
theorem SO.drop {y : Wy} (h : SO w B S g C v mv xs (y :: hs) ms) : SO w B S g C v mv xs hs ms :=
 ⟨h.code,h.gB,h.SB,h.SL,h.hp,h.ord,fun x hx => h.hand x (List.mem_cons_of_mem _ hx),h.mkr,h.mbh,h.vS,h.mS,h.vm,(List.nodup_cons.1 h.nod).2,fun x hx => by
  obtain ⟨a1,a2,a3⟩:=h.far x (List.mem_cons_of_mem _ hx)
  exact ⟨a1,a2,fun a ha => ⟨(a3 a ha).1,fun z hz => (a3 a ha).2 z (List.mem_cons_of_mem _ hz)⟩⟩,fun m hm a ha => ⟨(h.mfar m hm a ha).1,fun z hz => (h.mfar m hm a ha).2 z (List.mem_cons_of_mem _ hz)⟩⟩
theorem SO.turn {x : Wy} {rs : List Wy} (h : SO w B S g C v mv xs (x :: hs) ms) (hg : w.grownBy w' (some x.b)) (hr : ∀ y ∈ rs,WyM w' y) (hb : ∀ y ∈ rs,y.b = x.b ∨ w.heap.size ≤ y.b) (hn : (rs.map Wy.b).Nodup)
  (ha : ∀ y ∈ rs,∀ a,y.ao = some a → (x.ao = some a ∨ w.heap.size ≤ a.block) ∧ ∀ z ∈ rs,¬ a.block = z.b) : SO w' B S g C v mv xs (rs ++ hs) ms:=by
 have hlt:=(h.hand x List.mem_cons_self).kn.lt
 obtain ⟨x1,x2,x3⟩:=h.far x List.mem_cons_self
 have hnod:=List.nodup_cons.1 h.nod
 have hx : ∀ y ∈ hs ++ xs,¬ y.b = x.b:=fun y hy e => hnod.1 (by rw [← e]; exact List.mem_map_of_mem hy)
 have hin : ∀ y ∈ hs ++ xs,y ∈ x :: hs ++ xs:=fun y hy => List.mem_cons_of_mem _ hy
 have hblk : ∀ q,q < w.heap.size → ¬ q = x.b → w'.heap[q]? = w.heap[q]?:=fun q hq hne => hg.block q hq (fun e => hne (by cases e; rfl))
 have hwy : ∀ y ∈ hs ++ xs,WyM w' y:=fun y hy => by
  have k:=h.wy y (hin y hy)
  obtain ⟨_,f1,f2⟩:=h.far y (hin y hy)
  exact k.keep hg.size (hblk _ k.kn.lt (hx y hy)) (fun a ha => hblk _ (k.aolt ha) ((f2 a ha).2 x List.mem_cons_self))
 have hv : ∀ q,v.ownBlock = some q → w'.heap[q]? = w.heap[q]?:=fun q hq => hblk q (h.hp.row.lt q hq).2 (fun e => x2.2.1 (by rw [hq,e]))
 have hm : ∀ q,mv.ownBlock = some q → w'.heap[q]? = w.heap[q]?:=fun q hq => hblk q (h.mkr.lt q hq).2 (fun e => x2.2.2 (by rw [hq,e]))
 have free : ∀ q,w.heap.size ≤ q → Free S v mv q:=fun q hq => ⟨by have:=h.SL; omega,fun e => by have:=(h.hp.row.lt q e).2; omega,fun e => by have:=(h.mkr.lt q e).2; omega⟩
 have hrb : ∀ y ∈ rs,B ≤ y.b ∧ Free S v mv y.b:=fun y hy => by
  rcases hb y hy with e | e
  ·rw [e]; exact ⟨x1,x2⟩
  ·exact ⟨by have:=h.SB; have:=h.SL; omega,free _ e⟩
 have mem : ∀ z,z ∈ rs ++ hs ++ xs → z ∈ rs ∨ z ∈ hs ++ xs:=fun z hz => by
  rw [List.append_assoc] at hz; exact List.mem_append.1 hz
 have gne : ¬ g = x.b:=by have:=h.gB; omega
 refine ⟨zdz h.code (hblk g (by have:=h.gB; have:=h.SB; have:=h.SL; omega) gne),h.gB,h.SB,Nat.lt_of_lt_of_le h.SL hg.size,⟨zbW h.hp.row hv,fun y hy => hwy y (List.mem_append_right _ hy),h.hp.far⟩,h.ord,fun y hy => ?_,zbW h.mkr hm,fun m hm2 => (h.mbh m hm2).kept hg.size (fun q e => hblk q ((h.mbh m hm2).cell q e).1 ((h.mfar m hm2 _ e).2 x List.mem_cons_self)),h.vS,h.mS,h.vm,?_,fun y hy => ?_,fun m hm2 a ha2 => ⟨(h.mfar m hm2 a ha2).1,fun z hz => ?_⟩⟩
 ·rcases List.mem_append.1 hy with e | e
  ·exact hr y e
  ·exact hwy y (List.mem_append_left _ e)
 ·rw [List.append_assoc,List.map_append]
  refine List.nodup_append.2 ⟨hn,hnod.2,fun p hp q hq e => ?_⟩
  subst e
  obtain ⟨y,hy,rfl⟩:=List.mem_map.1 hp
  obtain ⟨z,hz,e⟩:=List.mem_map.1 hq
  rcases hb y hy with e2 | e2
  ·exact hx z hz (e.trans e2)
  ·have:=(h.wy z (hin z hz)).kn.lt; omega
 ·rcases mem y hy with e | e
  ·obtain ⟨b1,b2⟩:=hrb y e
   refine ⟨b1,b2,fun a ha2 => ?_⟩
   obtain ⟨c1,c2⟩:=ha y e a ha2
   have hfr : Free S v mv a.block ∧ ∀ z ∈ hs ++ xs,¬ a.block = z.b:=by
    rcases c1 with c | c
    ·exact ⟨(x3 a c).1,fun z hz => (x3 a c).2 z (hin z hz)⟩
    ·exact ⟨free _ c,fun z hz e3 => by have:=(h.wy z (hin z hz)).kn.lt; omega⟩
   refine ⟨hfr.1,fun z hz => ?_⟩
   rcases mem z hz with e3 | e3
   ·exact c2 z e3
   ·exact hfr.2 z e3
  ·obtain ⟨b1,b2,b3⟩:=h.far y (hin y e)
   refine ⟨b1,b2,fun a ha2 => ⟨(b3 a ha2).1,fun z hz => ?_⟩⟩
   rcases mem z hz with e3 | e3
   ·rcases hb z e3 with e4 | e4
    ·rw [e4]; exact (b3 a ha2).2 x List.mem_cons_self
    ·have:=(h.wy y (hin y e)).aolt ha2; omega
   ·exact (b3 a ha2).2 z (hin z e3)
 ·rcases mem z hz with e3 | e3
  ·rcases hb z e3 with e4 | e4
   ·rw [e4]; exact (h.mfar m hm2 a ha2).2 x List.mem_cons_self
   ·have:=zvK (h.mbh m hm2) ha2; omega
  ·exact (h.mfar m hm2 a ha2).2 z (hin z e3)
end
end Go.Proofs.YtfpgjkbjbbgciaaGreatDoor
namespace Go.Proofs.YtfpgjkbjbbgciaaGreatDoor
open Go.RowKit Sp
section
variable {w w' : World} {B S g : Nat} {C : List (Ins × Int)} {v mv : Value} {xs hs : List Wy} {ms : List Mk}
theorem SO.took {H cap : Nat} {ys : List Wy} {x : Wy} (h : SO w B S g C (.slice (some ⟨H,0,none⟩) xs.length cap) mv xs hs ms) (hk : Kept2 w w' S 1 (some H)) (hp : (x :: ys).Perm xs) (hM : HeapM w' B (.slice (some ⟨H,0,none⟩) ys.length cap) ys) (hA : HpAll (stp ys) ys.length) (hx : WyM w' x) :
  SO w' B S g C (.slice (some ⟨H,0,none⟩) ys.length cap) mv ys (x :: hs) ms:=by
 have hpp : (x :: hs ++ ys).Perm (hs ++ xs):=(List.perm_middle (l₁:=hs) (a:=x) (l₂:=ys)).symm.trans (List.Perm.append_left hs hp)
 have mem : ∀ z,z ∈ x :: hs ++ ys → z ∈ hs ++ xs:=fun z hz => hpp.mem_iff.1 hz
 have hblk : ∀ q,q < w.heap.size → ¬ q = S → ¬ q = H → w'.heap[q]? = w.heap[q]?:=fun q hq h1 h2 => hk.block q hq h1 (fun e => h2 (by cases e; rfl))
 have hwy : ∀ z ∈ hs,WyM w' z:=fun z hz => by
  have k:=h.hand z hz
  obtain ⟨_,f1,f2⟩:=h.far z (List.mem_append_left _ hz)
  exact k.keep hk.size (hblk _ k.kn.lt f1.1 (fun e => f1.2.1 (by rw [e]; rfl))) (fun a ha => hblk _ (k.aolt ha) (f2 a ha).1.1 (fun e => (f2 a ha).1.2.1 (by rw [e]; rfl)))
 have hm : ∀ q,mv.ownBlock = some q → w'.heap[q]? = w.heap[q]?:=fun q hq => hblk q (h.mkr.lt q hq).2 (fun e => h.mS (by rw [hq,e])) (fun e => h.vm H rfl (by rw [hq,e]))
 have gS : ¬ g = S:=by have:=h.gB; have:=h.SB; omega
 have gH : ¬ g = H:=by have:=h.gB; have:=(h.hp.row.lt H rfl).1; omega
 refine ⟨zdz h.code (hblk g (by have:=h.gB; have:=h.SB; have:=h.SL; omega) gS gH),h.gB,h.SB,Nat.lt_of_lt_of_le h.SL hk.size,hM,hA,fun z hz => ?_,zbW h.mkr hm,fun m hm2 => (h.mbh m hm2).kept hk.size (fun q e => hblk q ((h.mbh m hm2).cell q e).1 (h.mfar m hm2 _ e).1.1 (fun e2 => (h.mfar m hm2 _ e).1.2.1 (by rw [← e2]; rfl))),h.vS,h.mS,h.vm,(hpp.map Wy.b).nodup_iff.2 h.nod,fun z hz => ?_,fun m hm2 a ha => ⟨(h.mfar m hm2 a ha).1,fun z hz => (h.mfar m hm2 a ha).2 z (mem z hz)⟩⟩
 ·rcases List.mem_cons.1 hz with e | e
  ·rw [e]; exact hx
  ·exact hwy z e
 ·obtain ⟨a1,a2,a3⟩:=h.far z (mem z hz)
  exact ⟨a1,a2,fun a ha => ⟨(a3 a ha).1,fun y hy => (a3 a ha).2 y (mem y hy)⟩⟩
theorem SO.added {H cap : Nat} {ys : List Wy} {x : Wy} (h : SO w B S g C v mv xs (x :: hs) ms) (hk : Kept2 w w' S 1 v.ownBlock) (hp : ys.Perm (xs ++ [x])) (hM : HeapM w' B (.slice (some ⟨H,0,none⟩) ys.length cap) ys) (hA : HpAll (stp ys) ys.length) (hH : v.ownBlock = some H ∨ w.heap.size ≤ H) :
  SO w' B S g C (.slice (some ⟨H,0,none⟩) ys.length cap) mv ys hs ms:=by
 have hpp : (hs ++ ys).Perm (x :: hs ++ xs):=(List.Perm.append_left hs (hp.trans List.perm_append_comm)).trans (List.perm_middle (l₁:=hs) (a:=x) (l₂:=xs))
 have mem : ∀ z,z ∈ hs ++ ys → z ∈ x :: hs ++ xs:=fun z hz => hpp.mem_iff.1 hz
 have hblk : ∀ q,q < w.heap.size → ¬ q = S → v.ownBlock ≠ some q → w'.heap[q]? = w.heap[q]?:=fun q hq h1 h2 => hk.block q hq h1 (fun e => h2 e.symm)
 have hwy : ∀ z ∈ hs,WyM w' z:=fun z hz => by
  have k:=h.hand z (List.mem_cons_of_mem _ hz)
  obtain ⟨_,f1,f2⟩:=h.far z (List.mem_append_left _ (List.mem_cons_of_mem _ hz))
  exact k.keep hk.size (hblk _ k.kn.lt f1.1 f1.2.1) (fun a ha => hblk _ (k.aolt ha) (f2 a ha).1.1 (f2 a ha).1.2.1)
 have hm : ∀ q,mv.ownBlock = some q → w'.heap[q]? = w.heap[q]?:=fun q hq => hblk q (h.mkr.lt q hq).2 (fun e => h.mS (by rw [hq,e])) (fun e => h.vm q e hq)
 have gS : ¬ g = S:=by have:=h.gB; have:=h.SB; omega
 have gv : v.ownBlock ≠ some g:=fun e => by have:=h.gB; have:=(h.hp.row.lt g e).1; omega
 have free : ∀ q,q < w.heap.size → Free S v mv q → Free S (.slice (some ⟨H,0,none⟩) ys.length cap) mv q:=fun q hq f => by
  refine ⟨f.1,fun e => ?_,f.2.2⟩
  have e2 : H = q:=by have : some H = some q:=e; simpa using this
  rcases hH with e3 | e3
  ·exact f.2.1 (by rw [e3,e2])
  ·omega
 refine ⟨zdz h.code (hblk g (by have:=h.gB; have:=h.SB; have:=h.SL; omega) gS gv),h.gB,h.SB,Nat.lt_of_lt_of_le h.SL hk.size,hM,hA,hwy,zbW h.mkr hm,fun m hm2 => (h.mbh m hm2).kept hk.size (fun q e => hblk q ((h.mbh m hm2).cell q e).1 (h.mfar m hm2 _ e).1.1 (h.mfar m hm2 _ e).1.2.1),fun e => ?_,h.mS,fun q e e2 => ?_,(hpp.map Wy.b).nodup_iff.2 h.nod,fun z hz => ?_,fun m hm2 a ha => ⟨free _ (zvK (h.mbh m hm2) ha) (h.mfar m hm2 a ha).1,fun z hz => (h.mfar m hm2 a ha).2 z (mem z hz)⟩⟩
 ·have e2 : H = S:=by have : some H = some S:=e; simpa using this
  rcases hH with e3 | e3
  ·exact h.vS (by rw [e3,e2])
  ·have:=h.SL; omega
 ·have e3 : H = q:=by have : some H = some q:=e; simpa using this
  rcases hH with e4 | e4
  ·exact h.vm H e4 (by rw [e2,e3])
  ·have:=(h.mkr.lt q e2).2; omega
 ·have hz2:=mem z hz
  obtain ⟨a1,a2,a3⟩:=h.far z hz2
  have kz:=h.wy z hz2
  exact ⟨a1,free _ kz.kn.lt a2,fun a ha => ⟨free _ (kz.aolt ha) (a3 a ha).1,fun y hy => (a3 a ha).2 y (mem y hy)⟩⟩
theorem SO.remark {mv' : Value} {ms' : List Mk} (h : SO w B S g C v mv xs hs ms) (hk : Kept4 w w' S 2 mv.ownBlock) (hM : w'.ownsRow B 217 51 mv' ms'.length (zbf ms')) (hM' : ∀ q,mv'.ownBlock = some q → mv.ownBlock = some q ∨ w.heap.size ≤ q)
  (hms : ∀ m ∈ ms',m ∈ ms ∨ ∃ x ∈ hs ++ xs,m.ao = x.ao ∧ m.cap = x.cap ∧ m.k = x.k) : SO w' B S g C v mv' xs hs ms':=by
 have hblk : ∀ q,q < w.heap.size → ¬ q = S → mv.ownBlock ≠ some q → w'.heap[q]? = w.heap[q]?:=fun q hq h1 h2 => hk.block q hq h1 (fun e => h2 e.symm)
 have hwy : ∀ z ∈ hs ++ xs,WyM w' z:=fun z hz => by
  have k:=h.wy z hz
  obtain ⟨_,f1,f2⟩:=h.far z hz
  exact k.keep hk.size (hblk _ k.kn.lt f1.1 f1.2.2) (fun a ha => hblk _ (k.aolt ha) (f2 a ha).1.1 (f2 a ha).1.2.2)
 have hv : ∀ q,v.ownBlock = some q → w'.heap[q]? = w.heap[q]?:=fun q hq => hblk q (h.hp.row.lt q hq).2 (fun e => h.vS (by rw [hq,e])) (h.vm q hq)
 have gS : ¬ g = S:=by have:=h.gB; have:=h.SB; omega
 have gv : mv.ownBlock ≠ some g:=fun e => by have:=h.gB; have:=(h.mkr.lt g e).1; omega
 have free : ∀ q,q < w.heap.size → Free S v mv q → Free S v mv' q:=fun q hq f => by
  refine ⟨f.1,f.2.1,fun e => ?_⟩
  rcases hM' q e with e3 | e3
  ·exact f.2.2 e3
  ·omega
 refine ⟨zdz h.code (hblk g (by have:=h.gB; have:=h.SB; have:=h.SL; omega) gS gv),h.gB,h.SB,Nat.lt_of_lt_of_le h.SL hk.size,⟨zbW h.hp.row hv,fun x hx => hwy x (List.mem_append_right _ hx),h.hp.far⟩,h.ord,fun z hz => hwy z (List.mem_append_left _ hz),hM,fun m hm2 => ?_,h.vS,fun e => ?_,fun q e e2 => ?_,h.nod,fun z hz => ?_,fun m hm2 a ha => ?_⟩
 ·rcases hms m hm2 with e | ⟨x,hx,e1,e2,e3⟩
  ·exact (h.mbh m e).kept hk.size (fun q e2 => hblk q ((h.mbh m e).cell q e2).1 (h.mfar m e _ e2).1.1 (h.mfar m e _ e2).1.2.2)
  ·rw [e1,e2,e3]; exact (hwy x hx).bh
 ·rcases hM' S e with e3 | e3
  ·exact h.mS e3
  ·have:=h.SL; omega
 ·rcases hM' q e2 with e3 | e3
  ·exact h.vm q e e3
  ·have:=(h.hp.row.lt q e).2; omega
 ·obtain ⟨a1,a2,a3⟩:=h.far z hz
  have kz:=h.wy z hz
  exact ⟨a1,free _ kz.kn.lt a2,fun a ha => ⟨free _ (kz.aolt ha) (a3 a ha).1,(a3 a ha).2⟩⟩
 ·rcases hms m hm2 with e | ⟨x,hx,e1,e2,e3⟩
  ·exact ⟨free _ (zvK (h.mbh m e) ha) (h.mfar m e a ha).1,(h.mfar m e a ha).2⟩
  ·rw [e1] at ha
   obtain ⟨_,_,f2⟩:=h.far x hx
   exact ⟨free _ ((h.wy x hx).aolt ha) (f2 a ha).1,(f2 a ha).2⟩
theorem zhR {o : Nat} {hb : Option Nat} (hk : Kept2 w w' S o hb) (hS : B ≤ S) (hBw : B ≤ w.heap.size) (hh : ∀ q,hb = some q → B ≤ q) : Below B w w' :=
 ⟨hk.os,hk.tape,hk.output,hk.size,fun q hq => hk.block q (by omega) (by omega) (fun e => by have:=hh q e.symm; omega)⟩
theorem zm5 {o : Nat} {hb : Option Nat} (hk : Kept4 w w' S o hb) (hS : B ≤ S) (hBw : B ≤ w.heap.size) (hh : ∀ q,hb = some q → B ≤ q) : Below B w w' :=
 ⟨hk.os,hk.tape,hk.output,hk.size,fun q hq => hk.block q (by omega) (by omega) (fun e => by have:=hh q e.symm; omega)⟩
end
end Go.Proofs.YtfpgjkbjbbgciaaGreatDoor
