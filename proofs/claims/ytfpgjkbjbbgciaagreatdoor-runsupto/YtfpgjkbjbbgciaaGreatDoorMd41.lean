import Derived.Test.YtfpgjkbjbbgciaaGreatDoorMd37
import Derived.Test.YtfpgjkbjbbgciaaGreatDoorMd39
set_option maxRecDepth 100000
set_option maxHeartbeats 8000000
namespace Go.Proofs.YtfpgjkbjbbgciaaGreatDoor
open Sp
structure RsK where
 marked:List Kn
 steps:Int
 seen:Nat
 covers:Bool
def RsK.begin(R:RsK)(s:Int):RsK:=⟨if zbR s then [] else R.marked,s,0,true⟩
def RsK.see(R:RsK)(k:Kn):RsK :=
 ⟨if zbR R.steps then R.marked++[k] else R.marked,R.steps,R.seen+1,R.covers&&(!zbR R.steps&&(decide (R.seen<R.marked.length)&&zcu k (R.marked.getD R.seen kn0)))⟩
def RsK.endless(R:RsK)(k:Kn):Option RsK :=
 if k.steps=R.steps then some (R.see k) else if R.covers&&decide (R.seen=R.marked.length) then none else some ((R.begin k.steps).see k)
def rsk0:RsK:=⟨[],0,0,false⟩
structure Gs where
 W:List Kn
 looks:Nat
 R:RsK
 bs:Int
 bf:Int
def gs0:Gs:=⟨[kn0],0,rsk0,0,0⟩
def Meet(y k:Kn):Prop:=y.next=k.next∧y.behind=k.behind∧y.steps=k.steps
inductive TakeR(W:List Kn):Kn→List Kn→Prop
 | one {k:Kn} {ys:List Kn}:(k :: ys).Perm W→(∀ y∈ys,keyK k≤keyK y)→TakeR W k ys
 | more {k y:Kn} {ys zs:List Kn}:TakeR W k ys→(y :: zs).Perm ys→Meet y k→TakeR W (zf1 k y) zs
def TakeD(W:List Kn)(k:Kn)(ys:List Kn):Prop:=TakeR W k ys∧∀ y∈ys,¬Meet y k
def Rd(C:List (Ins × Int))(G G':Gs):Prop:=∃(k:Kn) (ys ks:List Kn) (p:Nat) (hp:p<C.length),G.looks<500000∧G.W.length≤1000∧TakeD G.W k ys∧k.steps≠100000∧G.R.endless k=some G'.R∧k.next=(p:Int)∧za1 C[p].1 k=some ks∧G'.W.Perm (ys++ks)∧G'.looks=G.looks+1∧G'.bs=k.steps+1∧G'.bf=max G.bf ((k.behind.length:Int)+1)
def Rf(C:List (Ins × Int))(G:Gs):Prop:=G.W≠[]∧(500000≤G.looks∨1000<G.W.length∨∃(k:Kn) (ys:List Kn),TakeD G.W k ys∧(k.steps=100000∨G.R.endless k=none∨∃(p:Nat) (hp:p<C.length),k.next=(p:Int)∧za1 C[p].1 k=none))
structure KnIn(C:List (Ins × Int))(k:Kn):Prop where
 ok:KnOk k
 next:InC C.length k.next
 behind:∀ z∈k.behind,InC C.length z
 few:k.behind.length≤15
 s0:0≤k.steps
 s1:k.steps≤100000
theorem KnIn.key{C:List (Ins × Int)}{k:Kn}(h:KnIn C k)(hC:C.length≤300):KeyOk k:=by
 refine⟨?_,h.few,fun z hz=>?_⟩
 ·obtain⟨p,hp,hl⟩:=h.next
  omega
 ·obtain⟨p,hp,hl⟩:=h.behind z hz
  omega
structure GsOk(C:List (Ins × Int))(G:Gs):Prop where
 kn:∀ k∈G.W,KnIn C k
 few:G.W.length≤1002
 looks:G.looks≤500000
 mkd:G.R.marked.length≤G.looks
 seen:G.R.seen≤G.looks
 rs0:0≤G.R.steps
 rs1:G.R.steps≤100000
 bs0:0≤G.bs
 bs1:G.bs≤100000
 bf0:0≤G.bf
 bf1:G.bf≤16
theorem TakeR.kn{C:List (Ins × Int)}{W ys:List Kn}{k:Kn}(h:TakeR W k ys)(hC:C.length≤300)(hW:∀ x∈W,KnIn C x):KnIn C k∧(∀ y∈ys,KnIn C y)∧ys.length<W.length∧∀ y∈ys,k.steps≤y.steps:=by
 induction h with
 | one hp hl =>
  have hl2:=hp.length_eq
  have hk:=hW _ (hp.mem_iff.1 List.mem_cons_self)
  refine⟨hk,fun y hy=>hW _ (hp.mem_iff.1 (List.mem_cons_of_mem _ hy)),?_,fun y hy=>ztu (hk.key hC) ((hW y (hp.mem_iff.1 (List.mem_cons_of_mem _ hy))).key hC) (hl y hy)⟩
  rw [List.length_cons] at hl2;omega
 | more h1 hp hm ih =>
  obtain⟨i1,i2,i3,i4⟩:=ih
  have hl2:=hp.length_eq
  rw [List.length_cons] at hl2
  have hy:=i2 _ (hp.mem_iff.1 List.mem_cons_self)
  exact⟨⟨zxx i1.ok hy.ok,i1.next,i1.behind,i1.few,i1.s0,i1.s1⟩,fun y hy=>i2 _ (hp.mem_iff.1 (List.mem_cons_of_mem _ hy)),by omega,fun y hy=>i4 y (hp.mem_iff.1 (List.mem_cons_of_mem _ hy))⟩
theorem TakeR.tells{C:List (Ins × Int)}{W ys:List Kn}{k:Kn}{bs bf:Int}{inp:List Int}(h:TakeR W k ys)(T:ziG C W bs bf inp):ziG C (k :: ys) bs bf inp:=by
 induction h with
 | one hp hl=>exact zjx (fun x hx=>hp.mem_iff.2 hx) T
 | more h1 hp hm ih =>
  refine zqx hm.1 hm.2.1 hm.2.2 (fun x hx=>?_) ih
  rcases List.mem_cons.1 hx with e|e
  ·exact .inl e
  ·rcases List.mem_cons.1 (hp.mem_iff.2 e) with e|e
   ·exact .inr (.inl e)
   ·exact .inr (.inr e)
theorem zq8{k:Kn}{l r:Nat}{f g:Rg→Rg→Option (Rg × Rg)}{z:Int}:(zb5 k l r f g z).length≤2:=by
 unfold zb5
 split <;> simp
theorem zlZ{k:Kn}{i:Ins}{ks:List Kn}(h:za1 i k=some ks):ks.length≤2:=by
 have hb:=fun(l r:Nat) (f g:Rg→Rg→Option (Rg × Rg)) (z:Int)=>zq8 (k:=k) (l:=l) (r:=r) (f:=f) (g:=g) (z:=z)
 unfold za1 at h
 split at h
 all_goals(try split at h)
 all_goals first
  | (simp only [Option.some.injEq] at h;subst h;first|exact hb _ _ _ _ _|simp)
  | cases h
theorem zma{k:Kn}{l r:Nat}{f g:Rg→Rg→Option (Rg × Rg)}{z:Int}:∀ k'∈zb5 k l r f g z,(k'.next=z∨k'.next=k.next+1)∧k'.behind=k.behind:=by
 intro k' hk'
 unfold zb5 at hk'
 split at hk'
 ·rcases List.mem_cons.1 hk' with rfl|h
  ·exact⟨.inl rfl,rfl⟩
  ·rw [List.mem_singleton.1 h];exact⟨.inr rfl,rfl⟩
 ·rw [List.mem_singleton.1 hk'];exact⟨.inl rfl,rfl⟩
 ·rw [List.mem_singleton.1 hk'];exact⟨.inr rfl,rfl⟩
 ·rw [List.mem_singleton.1 hk'];exact⟨.inl rfl,rfl⟩
theorem zvI{N p:Nat}{k:Kn}{i:Ins}{ks:List Kn}(hn:k.next=(p:Int))(hl:zs4 N p i)(hb:∀ z∈k.behind,InC N z)(hf:k.behind.length≤15)(h:za1 i k=some ks):∀ k'∈ks,InC N k'.next∧(∀ z∈k'.behind,InC N z)∧k'.behind.length≤15:=by
 have hnx:p+1<N→InC N (k.next+1):=fun h=>⟨p+1,by omega,h⟩
 have one:∀(f g:Nat→Rg) (z:Int),InC N z→∀ k'∈[({ k with regs:=f,cells:=g }:Kn).goTo z],InC N k'.next∧(∀ z∈k'.behind,InC N z)∧k'.behind.length≤15:=fun f g z hz k' hk'=>by
  rw [List.mem_singleton.1 hk'];exact⟨hz,hb,hf⟩
 cases i with
 | set r n=>simp only [za1,Option.some.injEq] at h;subst h;exact one _ _ _ (hnx hl)
 | mov r s=>simp only [za1,Option.some.injEq] at h;subst h;exact one _ _ _ (hnx hl)
 | alu o r s t=>simp only [za1,Option.some.injEq] at h;subst h;exact one _ _ _ (hnx hl)
 | inc r n=>simp only [za1,Option.some.injEq] at h;subst h;exact one _ _ _ (hnx hl)
 | load r s =>
  simp only [za1] at h
  split at h
  ·cases h
  ·simp only [Option.some.injEq] at h;subst h;exact one _ _ _ (hnx hl)
 | store r s =>
  simp only [za1] at h
  split at h
  ·cases h
  ·simp only [Option.some.injEq] at h;subst h;exact one _ _ _ (hnx hl)
 | read r=>simp only [za1,Option.some.injEq] at h;subst h;exact one _ _ _ (hnx hl)
 | write r=>simp only [za1,Option.some.injEq] at h;subst h;exact one _ _ _ (hnx hl)
 | jump to=>simp only [za1,Option.some.injEq] at h;subst h;exact one _ _ _ hl
 | less r s to =>
  simp only [za1] at h
  split at h
  ·simp only [Option.some.injEq] at h;subst h;exact one _ _ _ (hnx hl.2)
  ·simp only [Option.some.injEq] at h;subst h
   intro k' hk'
   obtain⟨e,e2⟩:=zma k' hk'
   rw [e2]
   refine⟨?_,hb,hf⟩
   rcases e with e|e <;> rw [e]
   ·exact hl.1
   ·exact hnx hl.2
 | same r s to =>
  simp only [za1] at h
  split at h
  ·simp only [Option.some.injEq] at h;subst h;exact one _ _ _ hl.1
  ·simp only [Option.some.injEq] at h;subst h
   intro k' hk'
   obtain⟨e,e2⟩:=zma k' hk'
   rw [e2]
   refine⟨?_,hb,hf⟩
   rcases e with e|e <;> rw [e]
   ·exact hl.1
   ·exact hnx hl.2
 | call to =>
  simp only [za1] at h
  split at h
  ·cases h
  ·simp only [Option.some.injEq] at h;subst h
   intro k' hk'
   rw [List.mem_singleton.1 hk']
   refine⟨hl.1,fun z hz=>?_,?_⟩
   ·rcases List.mem_append.1 hz with e|e
    ·exact hb z e
    ·rw [List.mem_singleton.1 e];exact hnx hl.2
   ·show(k.behind++[k.next+1]).length≤15
    rw [List.length_append];simp;omega
 | back =>
  simp only [za1] at h
  cases hk:k.behind with
  | nil=>rw [hk] at h;simp only [Option.some.injEq] at h;subst h;intro k' hk';cases hk'
  | cons b r =>
   rw [hk] at h
   simp only [Option.some.injEq] at h;subst h
   intro k' hk'
   rw [List.mem_singleton.1 hk']
   rw [hk] at hb hf
   have hne:(b :: r)≠[]:=by simp
   refine⟨hb _ ?_,fun z hz=>hb z (List.dropLast_subset _ hz),?_⟩
   ·show(b :: r).getLastD 0∈_
    rw [List.getLastD_eq_getLast?,List.getLast?_eq_some_getLast hne]
    exact List.getLast_mem hne
   ·show(b :: r).dropLast.length≤15
    rw [List.length_dropLast];omega
 | stop=>simp only [za1,Option.some.injEq] at h;subst h;intro k' hk';cases hk'
theorem zoO{C:List (Ins × Int)}(S:CodeSure C){k:Kn}{ks:List Kn}{p:Nat}(hp:p<C.length)(hk:k.next=(p:Int))(K:KnIn C k)(hs:k.steps≠100000)(h:za1 C[p].1 k=some ks):∀ k'∈ks,KnIn C k':=by
 intro k' hk'
 obtain⟨a1,a2⟩:=zjw K.ok (S.ok.ok p hp) (S.n64 p hp) h k' hk'
 obtain⟨b1,b2,b3⟩:=zvI hk (S.ok.leads p hp) K.behind K.few h k' hk'
 have:=K.s0
 have:=K.s1
 exact⟨a2,b1,b2,b3,by omega,by omega⟩
theorem RsK.see_ok{R:RsK}{k:Kn}{n:Nat}(h1:R.marked.length≤n)(h2:R.seen≤n):(R.see k).marked.length≤n+1∧(R.see k).seen≤n+1∧(R.see k).steps=R.steps:=by
 refine⟨?_,?_,rfl⟩
 ·show(if zbR R.steps then R.marked++[k] else R.marked).length≤_
  split
  ·rw [List.length_append];simp;omega
  ·omega
 ·show R.seen+1≤_;omega
theorem RsK.begin_len(R:RsK)(s:Int):(R.begin s).marked.length≤R.marked.length:=by
 show(if zbR s then [] else R.marked).length≤_
 split
 ·simp
 ·exact Nat.le_refl _
theorem RsK.endless_ok{R R':RsK}{k:Kn}{n:Nat}(h1:R.marked.length≤n)(h2:R.seen≤n)(h:R.endless k=some R'):R'.marked.length≤n+1∧R'.seen≤n+1∧R'.steps=k.steps:=by
 unfold RsK.endless at h
 split at h
 ·rename_i e
  cases h
  obtain⟨a,b,c⟩:=RsK.see_ok (k:=k) h1 h2
  exact⟨a,b,by rw [c,e]⟩
 ·split at h
  ·cases h
  ·cases h
   obtain⟨a,b,c⟩:=RsK.see_ok (R:=R.begin k.steps) (k:=k) (n:=n) (Nat.le_trans (R.begin_len _) h1) (Nat.zero_le _)
   exact⟨a,b,c⟩
theorem zyw{C:List (Ins × Int)}(S:CodeSure C):GsOk C gs0:=by
 refine⟨fun k hk=>?_,by show 1≤1002;omega,by show 0≤500000;omega,Nat.le_refl _,Nat.le_refl _,Int.le_refl _,by show(0:Int)≤100000;omega,Int.le_refl _,by show(0:Int)≤100000;omega,Int.le_refl _,by show(0:Int)≤16;omega⟩
 rw [List.mem_singleton.1 hk]
 have h0:(only 0).Ok:=zib (by unfold i64;omega)
 exact⟨⟨fun _ _=>h0,fun _ _=>h0⟩,⟨0,rfl,S.ok.some_⟩,fun z hz=>(by cases hz),Nat.zero_le _,Int.le_refl _,by show(0:Int)≤100000;omega⟩
theorem zyD{C:List (Ins × Int)}(S:CodeSure C){G G':Gs}(h:GsOk C G)(r:Rd C G G'):GsOk C G':=by
 obtain⟨k,ys,ks,p,hp,l1,l2,ht,hs,he,hk,hl,hW,hL,hbs,hbf⟩:=r
 obtain⟨K,Ky,hlen,_⟩:=ht.1.kn S.ok.few h.kn
 obtain⟨e1,e2,e3⟩:=RsK.endless_ok h.mkd h.seen he
 have hll:=zlZ hl
 have hWl:=hW.length_eq
 rw [List.length_append] at hWl
 have:=K.s0
 have:=K.s1
 have:=K.few
 have:=h.bf0
 have:=h.bf1
 refine⟨fun x hx=>?_,by omega,by omega,by omega,by omega,by omega,by omega,by omega,by omega,by omega,by omega⟩
 rcases List.mem_append.1 (hW.mem_iff.1 hx) with e|e
 ·exact Ky x e
 ·exact zoO S hp hk K hs hl x e
structure GsT(C:List (Ins × Int))(G:Gs):Prop where
 ok:GsOk C G
 tells:∀ inp:List Int,(∀ x∈inp,i64 x)→ziG C G.W G.bs G.bf inp
 low:∀ k∈G.W,G.bs≤k.steps+1
theorem zyE{C:List (Ins × Int)}(S:CodeSure C):GsT C gs0 :=
 ⟨zyw S,fun inp hin=>znl S inp hin _ _,fun k hk=>by rw [List.mem_singleton.1 hk];show(0:Int)≤0+1;omega⟩
theorem rd_t{C:List (Ins × Int)}(S:CodeSure C){G G':Gs}(h:GsT C G)(r:Rd C G G'):GsT C G':=by
 refine⟨zyD S h.ok r,?_,?_⟩
 ·obtain⟨k,ys,ks,p,hp,l1,l2,ht,hs,he,hk,hl,hW,hL,hbs,hbf⟩:=r
  intro inp hin
  obtain⟨K,Ky,hlen,hle0⟩:=ht.1.kn S.ok.few h.ok.kn
  clear hle0
  have T:=ht.1.tells (h.tells inp hin)
  have hlow:G.bs≤k.steps+1:=by
   have ht1:=ht.1
   clear hW hl he hbs hbf hs hk K Ky hlen T ht
   induction ht1 with
   | one hp hl=>exact h.low _ (hp.mem_iff.1 List.mem_cons_self)
   | more h1 hp hm ih=>exact ih
  rw [hbs,hbf]
  refine zjx (fun x hx=>hW.mem_iff.2 hx) (zqv S hp hk K.ok hlow hl (fun x hx=>?_) T)
  rcases List.mem_cons.1 hx with e|e
  ·exact .inl e
  ·exact .inr e
 ·obtain⟨k,ys,ks,p,hp,l1,l2,ht,hs,he,hk,hl,hW,hL,hbs,hbf⟩:=r
  obtain⟨K,Ky,hlen,hle⟩:=ht.1.kn S.ok.few h.ok.kn
  intro x hx
  rw [hbs]
  rcases List.mem_append.1 (hW.mem_iff.1 hx) with e|e
  ·have:=hle x e;omega
  ·have:=(zjw K.ok (S.ok.ok p hp) (S.n64 p hp) hl x e).1
   omega
end Go.Proofs.YtfpgjkbjbbgciaaGreatDoor
namespace Go.Proofs.YtfpgjkbjbbgciaaGreatDoor
open Go.RowKit Sp
theorem zah{α:Type}{l:List α}{n:Nat}(h:l.length=n+1):∃ a r,l=a :: r∧r.length=n:=by
 cases l with
 | nil=>simp at h
 | cons a r=>exact⟨a,r,rfl,by simpa using h⟩
theorem zyu{α:Type}(l:List α)(h:l.length=51):∃ x0 x1 x2 x3 x4 x5 x6 x7 x8 x9 x10 x11 x12 x13 x14 x15 x16 x17 x18 x19 x20 x21 x22 x23 x24 x25 x26 x27 x28 x29 x30 x31 x32 x33 x34 x35 x36 x37 x38 x39 x40 x41 x42 x43 x44 x45 x46 x47 x48 x49 x50,l=x0 :: x1 :: x2 :: x3 :: x4 :: x5 :: x6 :: x7 :: x8 :: x9 :: x10 :: x11 :: x12 :: x13 :: x14 :: x15 :: x16 :: x17 :: x18 :: x19 :: x20 :: x21 :: x22 :: x23 :: x24 :: x25 :: x26 :: x27 :: x28 :: x29 :: x30 :: x31 :: x32 :: x33 :: x34 :: x35 :: x36 :: x37 :: x38 :: x39 :: x40 :: x41 :: x42 :: x43 :: x44 :: x45 :: x46 :: x47 :: x48 :: x49 :: x50 :: []:=by
 obtain⟨x0,l0,e0,h0⟩:=zah h
 obtain⟨x1,l1,e1,h1⟩:=zah h0
 obtain⟨x2,l2,e2,h2⟩:=zah h1
 obtain⟨x3,l3,e3,h3⟩:=zah h2
 obtain⟨x4,l4,e4,h4⟩:=zah h3
 obtain⟨x5,l5,e5,h5⟩:=zah h4
 obtain⟨x6,l6,e6,h6⟩:=zah h5
 obtain⟨x7,l7,e7,h7⟩:=zah h6
 obtain⟨x8,l8,e8,h8⟩:=zah h7
 obtain⟨x9,l9,e9,h9⟩:=zah h8
 obtain⟨x10,l10,e10,h10⟩:=zah h9
 obtain⟨x11,l11,e11,h11⟩:=zah h10
 obtain⟨x12,l12,e12,h12⟩:=zah h11
 obtain⟨x13,l13,e13,h13⟩:=zah h12
 obtain⟨x14,l14,e14,h14⟩:=zah h13
 obtain⟨x15,l15,e15,h15⟩:=zah h14
 obtain⟨x16,l16,e16,h16⟩:=zah h15
 obtain⟨x17,l17,e17,h17⟩:=zah h16
 obtain⟨x18,l18,e18,h18⟩:=zah h17
 obtain⟨x19,l19,e19,h19⟩:=zah h18
 obtain⟨x20,l20,e20,h20⟩:=zah h19
 obtain⟨x21,l21,e21,h21⟩:=zah h20
 obtain⟨x22,l22,e22,h22⟩:=zah h21
 obtain⟨x23,l23,e23,h23⟩:=zah h22
 obtain⟨x24,l24,e24,h24⟩:=zah h23
 obtain⟨x25,l25,e25,h25⟩:=zah h24
 obtain⟨x26,l26,e26,h26⟩:=zah h25
 obtain⟨x27,l27,e27,h27⟩:=zah h26
 obtain⟨x28,l28,e28,h28⟩:=zah h27
 obtain⟨x29,l29,e29,h29⟩:=zah h28
 obtain⟨x30,l30,e30,h30⟩:=zah h29
 obtain⟨x31,l31,e31,h31⟩:=zah h30
 obtain⟨x32,l32,e32,h32⟩:=zah h31
 obtain⟨x33,l33,e33,h33⟩:=zah h32
 obtain⟨x34,l34,e34,h34⟩:=zah h33
 obtain⟨x35,l35,e35,h35⟩:=zah h34
 obtain⟨x36,l36,e36,h36⟩:=zah h35
 obtain⟨x37,l37,e37,h37⟩:=zah h36
 obtain⟨x38,l38,e38,h38⟩:=zah h37
 obtain⟨x39,l39,e39,h39⟩:=zah h38
 obtain⟨x40,l40,e40,h40⟩:=zah h39
 obtain⟨x41,l41,e41,h41⟩:=zah h40
 obtain⟨x42,l42,e42,h42⟩:=zah h41
 obtain⟨x43,l43,e43,h43⟩:=zah h42
 obtain⟨x44,l44,e44,h44⟩:=zah h43
 obtain⟨x45,l45,e45,h45⟩:=zah h44
 obtain⟨x46,l46,e46,h46⟩:=zah h45
 obtain⟨x47,l47,e47,h47⟩:=zah h46
 obtain⟨x48,l48,e48,h48⟩:=zah h47
 obtain⟨x49,l49,e49,h49⟩:=zah h48
 obtain⟨x50,l50,e50,h50⟩:=zah h49
 have e:=List.length_eq_zero_iff.1 h50
 exact⟨x0,x1,x2,x3,x4,x5,x6,x7,x8,x9,x10,x11,x12,x13,x14,x15,x16,x17,x18,x19,x20,x21,x22,x23,x24,x25,x26,x27,x28,x29,x30,x31,x32,x33,x34,x35,x36,x37,x38,x39,x40,x41,x42,x43,x44,x45,x46,x47,x48,x49,x50,by rw [e0,e1,e2,e3,e4,e5,e6,e7,e8,e9,e10,e11,e12,e13,e14,e15,e16,e17,e18,e19,e20,e21,e22,e23,e24,e25,e26,e27,e28,e29,e30,e31,e32,e33,e34,e35,e36,e37,e38,e39,e40,e41,e42,e43,e44,e45,e46,e47,e48,e49,e50,e]⟩
theorem zvG(W:World)(x0 x1 x2 x3 x4 x5 x6 x7 x8 x9 x10 x11 x12 x13 x14 x15 x16 x17 x18 x19 x20 x21 x22 x23 x24 x25 x26 x27 x28 x29 x30 x31 x32 x33 x34 x35 x36 x37 x38 x39 x40 x41 x42 x43 x44 x45 x46 x47 x48 x49 x50:Value):(Instr.buildSlice 152 1 #[(0,.agg (x0 :: x1 :: x2 :: x3 :: x4 :: x5 :: x6 :: x7 :: x8 :: x9 :: x10 :: x11 :: x12 :: x13 :: x14 :: x15 :: x16 :: x17 :: x18 :: x19 :: x20 :: x21 :: x22 :: x23 :: x24 :: x25 :: x26 :: x27 :: x28 :: x29 :: x30 :: x31 :: x32 :: x33 :: x34 :: x35 :: x36 :: x37 :: x38 :: x39 :: x40 :: x41 :: x42 :: x43 :: x44 :: x45 :: x46 :: x47 :: x48 :: x49 :: x50 :: []).toArray)]).run Tryz.prog W=.ok (.slice (some ⟨W.heap.size,0,none⟩) 1 1) (W.alloc (.cells (x0 :: x1 :: x2 :: x3 :: x4 :: x5 :: x6 :: x7 :: x8 :: x9 :: x10 :: x11 :: x12 :: x13 :: x14 :: x15 :: x16 :: x17 :: x18 :: x19 :: x20 :: x21 :: x22 :: x23 :: x24 :: x25 :: x26 :: x27 :: x28 :: x29 :: x30 :: x31 :: x32 :: x33 :: x34 :: x35 :: x36 :: x37 :: x38 :: x39 :: x40 :: x41 :: x42 :: x43 :: x44 :: x45 :: x46 :: x47 :: x48 :: x49 :: x50 :: []).toArray 217)):=by kernel_rfl
theorem zyv(W:World)(cs:List Value)(h:cs.length=51):(Instr.buildSlice 152 1 #[(0,.agg cs.toArray)]).run Tryz.prog W=.ok (.slice (some ⟨W.heap.size,0,none⟩) 1 1) (W.alloc (.cells cs.toArray 217)):=by
 obtain⟨x0,x1,x2,x3,x4,x5,x6,x7,x8,x9,x10,x11,x12,x13,x14,x15,x16,x17,x18,x19,x20,x21,x22,x23,x24,x25,x26,x27,x28,x29,x30,x31,x32,x33,x34,x35,x36,x37,x38,x39,x40,x41,x42,x43,x44,x45,x46,x47,x48,x49,x50,rfl⟩:=zyu cs h
 exact zvG W x0 x1 x2 x3 x4 x5 x6 x7 x8 x9 x10 x11 x12 x13 x14 x15 x16 x17 x18 x19 x20 x21 x22 x23 x24 x25 x26 x27 x28 x29 x30 x31 x32 x33 x34 x35 x36 x37 x38 x39 x40 x41 x42 x43 x44 x45 x46 x47 x48 x49 x50
theorem Tryz.info217:(Tryz.prog.info? 217).map (fun i=>(i.size,i.bytes))=some (51,424):=by kernel_rfl
theorem Tryz.zero217:((Tryz.prog.info? 217).bind (·.zero)).map (·.cells.size)=some 51:=by kernel_rfl
theorem Tryz.under152:Tryz.prog.underlying 152=some (.slice 217):=by kernel_rfl
theorem zkq:∃ i z,Tryz.prog.info? 217=some i∧i.zero=some z∧i.size=51∧i.bytes=424∧z.cells.size=51:=by
 have h1:=Tryz.info217
 have h2:=Tryz.zero217
 cases hi:Tryz.prog.info? 217 with
 | none=>rw [hi] at h1;cases h1
 | some i =>
  rw [hi] at h1 h2
  simp only [Option.map_some,Option.some.injEq,Prod.mk.injEq,Option.bind_some] at h1 h2
  cases hz:i.zero with
  | none=>rw [hz] at h2;cases h2
  | some z =>
   rw [hz] at h2
   simp only [Option.map_some,Option.some.injEq] at h2
   exact⟨i,z,rfl,hz,h1.1,h1.2,h2⟩
section
variable {P:Program} {md:Region.Mode} {ops:Array Oper} {Q:Exit→Act→World→Prop} {fuel:Nat} {listed:Array Bool} {a:Act} {w:World}
theorem zd3(i:Nat){o:Oper}(hr:Region.ready md ops listed=[i])(ho:ops[i]?=some o)(hg:o.guard=none)(v:Value)(w':World)(h:(execOp a.eval o).run P w=.ok (.value v) w')(rest:wpAny P md ops Q fuel (listed.setIfInBounds i true) (a.put o.dst v) w'):wpAny P md ops Q (fuel+1) listed a w :=
 wpAny_ready hr (by simp) (AllReady.cons ho (fun K hK=>by
  have hw:Region.wanted o (yielded ops a.tmps)=true:=by simp [Region.wanted,hg]
  rw [if_pos hw];unfold Oper.wp;rw [h];exact hK _ _ rest) AllReady.nil)
theorem zvH(i:Nat){o:Oper}(hr:Region.ready md ops listed=[i])(ho:ops[i]?=some o)(hg:o.guard=none)(w':World)(h:(execOp a.eval o).run P w=.ok .skip w')(rest:wpAny P md ops Q fuel (listed.setIfInBounds i true) (a.put o.dst undef) w'):wpAny P md ops Q (fuel+1) listed a w :=
 wpAny_ready hr (by simp) (AllReady.cons ho (fun K hK=>by
  have hw:Region.wanted o (yielded ops a.tmps)=true:=by simp [Region.wanted,hg]
  rw [if_pos hw];unfold Oper.wp;rw [h];exact hK _ _ rest) AllReady.nil)
theorem ztz(i j:Nat){o p:Oper}(hr:Region.ready md ops listed=[i,j])(ho:ops[i]?=some o)(hg:o.guard=none)(v:Value)(w':World)(h:(execOp a.eval o).run P w=.ok (.value v) w')(rest:wpAny P md ops Q fuel (listed.setIfInBounds i true) (a.put o.dst v) w')
  (hp:ops[j]?=some p) (hg2:p.guard=none) (u:Value) (w2:World) (h2:(execOp a.eval p).run P w=.ok (.value u) w2) (rest2:wpAny P md ops Q fuel (listed.setIfInBounds j true) (a.put p.dst u) w2):wpAny P md ops Q (fuel+1) listed a w :=
 wpAny_ready hr (by simp) (AllReady.cons ho (fun K hK=>by
  have hw:Region.wanted o (yielded ops a.tmps)=true:=by simp [Region.wanted,hg]
  rw [if_pos hw];unfold Oper.wp;rw [h];exact hK _ _ rest) (AllReady.cons hp (fun K hK=>by
  have hw:Region.wanted p (yielded ops a.tmps)=true:=by simp [Region.wanted,hg2]
  rw [if_pos hw];unfold Oper.wp;rw [h2];exact hK _ _ rest2) AllReady.nil))
theorem zgS(ty:TypeId)(x:Operand){o:Oper}(ho:o.op=.load ty x)(b f:Nat)(hx:a.eval x=.pointer (some ⟨b,f,none⟩))(cs:List Value)(d:TypeDesc)(hc:w.rangeAt b f cs)
  (hu:P.underlying ty=some d) (hd:d.isRow=true) (hi:(P.info? ty).map (·.size)=some cs.length):(execOp a.eval o).run P w=.ok (.value (.agg cs.toArray)) w:=by
 unfold execOp
 simp only [ho,hx,Instr.loadAt,Instr.sureAddr,Sem.run_bind,Sem.run_pure,Result.andThen_ok,run_loadVar_mid _ b f ty cs d hc hu hd hi]
end
theorem zel{a:Act}{o:Oper}(x:Operand)(ho:o.op=.buildSlice 152 1 #[(0,x)])(cs:List Value)(hx:a.eval x=.agg cs.toArray)(h:cs.length=51)(W:World):(execOp a.eval o).run Tryz.prog W=.ok (.value (.slice (some ⟨W.heap.size,0,none⟩) 1 1)) (W.alloc (.cells cs.toArray 217)):=by
 unfold execOp
 simp only [ho,Sem.run_bind]
 have:=zyv W cs h
 simp only [List.map_toArray,List.map_cons,List.map_nil,hx,this,Sem.run_pure,Result.andThen_ok]
theorem zcr{w w':World}{B e size n:Nat}{v:Value}{l:List Value}(h:w.ownsRow B e size v n l)(hb:∀ q,v.ownBlock=some q→w'.heap[q]?=w.heap[q]?):w'.ownsRow B e size v n l:=by
 refine⟨h.1,?_⟩
 rcases h.2 with hn|⟨g,cap,cur,rfl,hB,hg,rest⟩
 ·exact .inl hn
 ·exact .inr ⟨g,cap,cur,rfl,hB,(hb g rfl).trans hg,rest⟩
def mk0:Mk:=⟨none,0,kn0⟩
def Rs.see(R:Rs)(m:Mk):Rs:=⟨if zbR R.steps then R.marked++[m] else R.marked,R.steps,R.seen+1,R.covers&&(!zbR R.steps&&(decide (R.seen<R.marked.length)&&zcu m.k (R.marked.getD R.seen mk0).k))⟩
def zdn(w:World)(S o B:Nat)(mv:Value)(R:Rs):Ending→World→Prop:=fun e w'=>e=.returned (.tuple #[])∧∃ mv',RsC w' S o mv' R∧w'.ownsRow B 217 51 mv' R.marked.length (zbs R.marked)∧(∀ q,mv'.ownBlock=some q→mv.ownBlock=some q∨w.heap.size≤q)∧Kept4 w w' S o mv.ownBlock
theorem zny{w w':World}{S o:Nat}{hb:Option Nat}(hS:S<w.heap.size)(hne:hb≠some S)(h:w.grownBy w' hb):Kept4 w w' S o hb :=
 ⟨h.os,h.tape,h.output,h.size,fun q hq _ h2=>h.block q hq h2,fun j _ _ _ _=>World.cell?_of_block (a:=⟨S,j,none⟩) (h.block S hS (fun e=>hne e.symm)),fun j=>World.frozen?_of_block (a:=⟨S,j,none⟩) (h.block S hS (fun e=>hne e.symm))⟩
theorem zx2(W:World)(cs:List Value):∀(j:Nat) u,cs[j]?=some u→(W.alloc (.cells cs.toArray 217)).cell? ((⟨W.heap.size,0,none⟩:Addr).add j)=some u:=by
 intro j u hj
 rw [Addr.add_mid,Nat.zero_add,World.cell?_alloc_new (w:=W) cs.toArray 217 j,List.getElem?_toArray]
 exact hj
end Go.Proofs.YtfpgjkbjbbgciaaGreatDoor
