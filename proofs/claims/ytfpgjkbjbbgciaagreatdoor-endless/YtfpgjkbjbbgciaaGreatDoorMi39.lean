import Derived.Test.YtfpgjkbjbbgciaaGreatDoorMi27
import Derived.Test.YtfpgjkbjbbgciaaGreatDoorMi32
import Derived.Test.YtfpgjkbjbbgciaaGreatDoorMi35
set_option maxRecDepth 100000
set_option maxHeartbeats 8000000
namespace Go.Proofs.YtfpgjkbjbbgciaaGreatDoor
open Sp
theorem zi2{k:Kn}{l r:Nat}{holds fails:Rg→Rg→Option (Rg × Rg)}{to:Int}(K:KnOk k)(_hl:l<8)(_hr:r<8)
  (h1:∀ a b,holds (k.regs l) (k.regs r)=some (a,b)→a.Ok∧b.Ok) (h2:∀ a b,fails (k.regs l) (k.regs r)=some (a,b)→a.Ok∧b.Ok) :
  ∀ k'∈zbr k l r holds fails to,k'.steps=k.steps+1∧KnOk k':=by
 intro k' hk'
 unfold zbr at hk'
 have key:∀ a b,a.Ok∧b.Ok→∀ z,({ k with regs:=updR (updR k.regs l a) r b }.goTo z).steps=k.steps+1∧KnOk ({ k with regs:=updR (updR k.regs l a) r b }.goTo z):=fun a b h z=>⟨rfl,⟨zed (zed K.regs h.1) h.2,K.cells⟩⟩
 cases hh:holds (k.regs l) (k.regs r) with
 | none =>
  cases hf:fails (k.regs l) (k.regs r) with
  | none=>rw [hh,hf] at hk';rw [List.mem_singleton.1 hk'];exact⟨rfl,⟨K.regs,K.cells⟩⟩
  | some q=>obtain⟨c,d⟩:=q;rw [hh,hf] at hk';rw [List.mem_singleton.1 hk'];exact key c d (h2 c d hf) _
 | some q =>
  obtain⟨a,b⟩:=q
  cases hf:fails (k.regs l) (k.regs r) with
  | none=>rw [hh,hf] at hk';rw [List.mem_singleton.1 hk'];exact key a b (h1 a b hh) _
  | some q =>
   obtain⟨c,d⟩:=q
   rw [hh,hf] at hk'
   rcases List.mem_cons.1 hk' with e|e
   ·rw [e];exact key a b (h1 a b hh) _
   ·rw [List.mem_singleton.1 e];exact key c d (h2 c d hf) _
theorem zjP{k:Kn}{i:Ins}{ks:List Kn}(K:KnOk k)(hi:zhn i)(h64:zk0 i)(h:zaw i k=some ks):∀ k'∈ks,k'.steps=k.steps+1∧KnOk k':=by
 have one:∀(f g:Nat→Rg) (z:Int) (b:List Int),(∀ r,r<8→(f r).Ok)→(∀ r,r<16→(g r).Ok)→∀ k'∈[({ k with regs:=f,cells:=g,behind:=b }:Kn).goTo z],k'.steps=k.steps+1∧KnOk k':=fun f g z b h1 h2 k' hk'=>by
  rw [List.mem_singleton.1 hk'];exact⟨rfl,⟨h1,h2⟩⟩
 cases i with
 | set r n =>
  simp only [zaw,Option.some.injEq] at h;subst h
  exact one _ _ _ _ (zed K.regs (ziy h64)) K.cells
 | mov r s =>
  simp only [zaw,Option.some.injEq] at h;subst h
  exact one _ _ _ _ (zed K.regs (K.regs s hi.2)) K.cells
 | alu o r s t =>
  simp only [zaw,Option.some.injEq] at h;subst h
  refine one _ _ _ _ (zed K.regs ?_) K.cells
  split
  ·exact zto _ _
  ·split
   ·split
    ·exact ziy (by unfold i64;omega)
    ·exact zwe _ _
   ·exact zwg (K.regs s hi.2.2.1) (K.regs t hi.2.2.2)
 | inc r n =>
  simp only [zaw,Option.some.injEq] at h;subst h
  exact one _ _ _ _ (zed K.regs (zto _ _)) K.cells
 | load r s =>
  simp only [zaw] at h
  cases ht:zbM (k.regs s) with
  | none=>rw [ht] at h;cases h
  | some q =>
   obtain⟨a,b⟩:=q
   rw [ht] at h
   simp only [Option.some.injEq] at h;subst h
   obtain⟨h1,h2⟩:=zqE ht (K.regs s hi.2)
   exact one _ _ _ _ (zed K.regs (zqD (fun j _ hj=>K.cells j (by omega)))) K.cells
 | store r s =>
  simp only [zaw] at h
  cases ht:zbM (k.regs r) with
  | none=>rw [ht] at h;cases h
  | some q =>
   obtain⟨a,b⟩:=q
   rw [ht] at h
   simp only [Option.some.injEq] at h;subst h
   exact one _ _ _ _ K.regs (zwi K.cells (K.regs s hi.2))
 | read r =>
  simp only [zaw,Option.some.injEq] at h;subst h
  exact one _ _ _ _ (zed K.regs ztk) K.cells
 | write r =>
  simp only [zaw,Option.some.injEq] at h;subst h
  exact one _ _ _ _ K.regs K.cells
 | jump to =>
  simp only [zaw,Option.some.injEq] at h;subst h
  exact one _ _ _ _ K.regs K.cells
 | less r s to =>
  simp only [zaw] at h
  split at h
  ·simp only [Option.some.injEq] at h;subst h
   exact one _ _ _ _ K.regs K.cells
  ·simp only [Option.some.injEq] at h;subst h
   exact zi2 K hi.1 hi.2 (fun a b=>zyh (K.regs r hi.1) (K.regs s hi.2)) (fun a b=>zqA (K.regs r hi.1) (K.regs s hi.2))
 | same r s to =>
  simp only [zaw] at h
  split at h
  ·simp only [Option.some.injEq] at h;subst h
   exact one _ _ _ _ K.regs K.cells
  ·simp only [Option.some.injEq] at h;subst h
   exact zi2 K hi.1 hi.2 (fun a b=>zyi (K.regs r hi.1) (K.regs s hi.2)) (fun a b=>zqB (K.regs r hi.1) (K.regs s hi.2))
 | call to =>
  simp only [zaw] at h
  split at h
  ·cases h
  ·simp only [Option.some.injEq] at h;subst h
   exact one _ _ _ _ K.regs K.cells
 | back =>
  simp only [zaw] at h
  cases hb:k.behind with
  | nil=>rw [hb] at h;simp only [Option.some.injEq] at h;subst h;intro k' hk';cases hk'
  | cons b r =>
   rw [hb] at h
   simp only [Option.some.injEq] at h;subst h
   exact one _ _ _ _ K.regs K.cells
 | stop =>
  simp only [zaw,Option.some.injEq] at h;subst h
  intro k' hk';cases hk'
theorem zym{m:Mc}{i:Ins}(M:Mc64 m)(hi:zhn i)(h64:zk0 i):Mc64 (zaN i m):=by
 have key:Mc64 (exec i (m.at'+1) m):=by
  cases i with
  | set r n=>exact⟨zi1 M.regs h64,M.cells,M.inp⟩
  | mov r s=>exact⟨zi1 M.regs (M.regs s hi.2),M.cells,M.inp⟩
  | alu o r s t =>
   refine⟨zi1 M.regs ?_,M.cells,M.inp⟩
   unfold zc1
   repeat' split
   all_goals exact zdL _
  | inc r n=>exact⟨zi1 M.regs (zdL _),M.cells,M.inp⟩
  | load r s =>
   by_cases hc:m.regs s<0∨15<m.regs s
   ·have e9:exec (.load r s) (m.at'+1) m={ m with fin:=3 }:=if_pos hc;rw [e9];exact⟨M.regs,M.cells,M.inp⟩
   ·have e9:exec (.load r s) (m.at'+1) m={ m with regs:=upd m.regs r (m.cells (m.regs s).toNat) }.goes (m.at'+1):=if_neg hc;rw [e9];exact⟨zi1 M.regs (M.cells _ (by omega)),M.cells,M.inp⟩
  | store r s =>
   by_cases hc:m.regs r<0∨15<m.regs r
   ·have e9:exec (.store r s) (m.at'+1) m={ m with fin:=3 }:=if_pos hc;rw [e9];exact⟨M.regs,M.cells,M.inp⟩
   ·have e9:exec (.store r s) (m.at'+1) m={ m with cells:=upd m.cells (m.regs r).toNat (m.regs s) }.goes (m.at'+1):=if_neg hc;rw [e9];exact⟨M.regs,zi1 M.cells (M.regs s hi.2),M.inp⟩
  | read r =>
   refine⟨zi1 M.regs ?_,M.cells,fun x hx=>M.inp x (List.mem_of_mem_tail hx)⟩
   cases hin:m.inp with
   | nil=>unfold i64;simp
   | cons x t=>exact M.inp x (by rw [hin];exact List.mem_cons_self)
  | write r=>exact⟨M.regs,M.cells,M.inp⟩
  | jump to=>exact⟨M.regs,M.cells,M.inp⟩
  | less r s to=>exact⟨M.regs,M.cells,M.inp⟩
  | same r s to=>exact⟨M.regs,M.cells,M.inp⟩
  | call to =>
   by_cases hc:m.frames=16
   ·have e9:exec (.call to) (m.at'+1) m={ m with fin:=4 }:=if_pos hc;rw [e9];exact⟨M.regs,M.cells,M.inp⟩
   ·have e9:exec (.call to) (m.at'+1) m={ m with backs:=m.backs++[m.at'+1],frames:=m.frames+1,peak:=max m.peak (m.frames+1) }.goes to:=if_neg hc;rw [e9];exact⟨M.regs,M.cells,M.inp⟩
  | back =>
   by_cases hc:m.frames=1
   ·have e9:exec .back (m.at'+1) m={ m with frames:=0,fin:=2 }.goes (-1):=if_pos hc;rw [e9];exact⟨M.regs,M.cells,M.inp⟩
   ·have e9:exec .back (m.at'+1) m={ m with frames:=m.frames-1,backs:=m.backs.dropLast }.goes (m.backs.getLastD 0):=if_neg hc;rw [e9];exact⟨M.regs,M.cells,M.inp⟩
  | stop=>exact⟨M.regs,M.cells,M.inp⟩
 unfold zaN
 split
 ·exact⟨key.regs,key.cells,key.inp⟩
 ·exact key
theorem zlT(i:Ins)(m:Mc):(zaN i m).peak=m.peak∨(zaN i m).peak=max m.peak (zaN i m).frames∧(zaN i m).fin=m.fin:=by
 have e1:(zaN i m).peak=(exec i (m.at'+1) m).peak:=by unfold zaN;split <;> rfl
 cases i with
 | call to =>
  by_cases h:m.frames=16
  ·left;rw [e1,show exec (.call to) (m.at'+1) m={ m with fin:=4 } from if_pos h]
  ·right
   have e0:exec (.call to) (m.at'+1) m={ m with backs:=m.backs++[m.at'+1],frames:=m.frames+1,peak:=max m.peak (m.frames+1) }.goes to:=if_neg h
   have e2:(zaN (.call to) m).frames=m.frames+1:=by unfold zaN;rw [e0];split <;> rfl
   have e3:(zaN (.call to) m).fin=m.fin:=by unfold zaN;rw [e0];split <;> rfl
   exact⟨by rw [e1,e2,e0];rfl,e3⟩
 | load r s =>
  left;rw [e1]
  by_cases hc:m.regs s<0∨15<m.regs s
  ·have e9:exec (.load r s) (m.at'+1) m={ m with fin:=3 }:=if_pos hc;rw [e9]
  ·have e9:exec (.load r s) (m.at'+1) m={ m with regs:=upd m.regs r (m.cells (m.regs s).toNat) }.goes (m.at'+1):=if_neg hc;rw [e9];rfl
 | store r s =>
  left;rw [e1]
  by_cases hc:m.regs r<0∨15<m.regs r
  ·have e9:exec (.store r s) (m.at'+1) m={ m with fin:=3 }:=if_pos hc;rw [e9]
  ·have e9:exec (.store r s) (m.at'+1) m={ m with cells:=upd m.cells (m.regs r).toNat (m.regs s) }.goes (m.at'+1):=if_neg hc;rw [e9];rfl
 | back =>
  left;rw [e1]
  by_cases hc:m.frames=1
  ·have e9:exec .back (m.at'+1) m={ m with frames:=0,fin:=2 }.goes (-1):=if_pos hc;rw [e9];rfl
  ·have e9:exec .back (m.at'+1) m={ m with frames:=m.frames-1,backs:=m.backs.dropLast }.goes (m.backs.getLastD 0):=if_neg hc;rw [e9];rfl
 | _=>left;rw [e1];rfl
theorem ztu(f:Mc→Mc)(n:Nat)(m:Mc)(h:(runS f n m).fin=0):runS f (n+1) m=f (runS f n m):=by
 induction n generalizing m with
 | zero =>
  have h':m.fin=0:=h
  rw [zbO _ _ _ h'];rfl
 | succ n ih =>
  by_cases h0:m.fin=0
  ·rw [zbO _ _ _ h0] at h
   rw [zbO _ _ _ h0,ih _ h,zbO _ _ _ h0]
  ·rw [zcl _ _ _ h0] at h
   exact absurd h h0
structure CodeSure(C:List (Ins × Int)):Prop where
 ok:CodeOk C
 n64:∀ j (h:j<C.length),zk0 C[j].1
structure RunAtC(C:List (Ins × Int))(inp:List Int)(n:Nat)(m:Mc):Prop where
 run:m=runS (zc0 C) n (zbl inp)
 inv:InvD C.length m
 m64:Mc64 m
 steps:m.steps=(n:Int)
def zi3(C:List (Ins × Int))(W:List Kn)(bs bf:Int)(inp:List Int):Prop :=
 ∃ n m,RunAtC C inp n m∧((m.fin=0∧(∃ k∈W,Cov k m)∧m.peak≤max bf m.frames)∨((m.fin=1∨m.fin=2)∧m.steps≤bs∧m.peak≤bf))
theorem znD{C:List (Ins × Int)}(S:CodeSure C)(inp:List Int)(hin:∀ x∈inp,i64 x)(bs bf:Int):zi3 C [kn0] bs bf inp:=by
 refine⟨0,zbl inp,⟨rfl,zeQ S.ok inp,⟨fun _ _=>by show i64 0;unfold i64;omega,fun _ _=>by show i64 0;unfold i64;omega,hin⟩,rfl⟩,.inl ⟨rfl,⟨kn0,zb8 _,⟨fun _ _=>zg7 0,fun _ _=>zg7 0,rfl,rfl,rfl⟩⟩,?_⟩⟩
 show(1:Int)≤max bf 1
 omega
theorem zqH{C:List (Ins × Int)}(S:CodeSure C){W W' ks:List Kn}{k:Kn}{bs bf:Int}{inp:List Int}{p:Nat}(hp:p<C.length)(hk:k.next=(p:Int))(K:KnOk k)(hbs:bs≤k.steps+1)
  (hl:zaw C[p].1 k=some ks) (hW:∀ x∈W,x=k∨x∈W') (T:zi3 C W bs bf inp):zi3 C (W'++ks) (k.steps+1) (max bf ((k.behind.length:Int)+1)) inp:=by
 obtain⟨n,m,R,h⟩:=T
 rcases h with ⟨h0,⟨x,hx,hc⟩,hpk⟩|⟨h0,h1,h2⟩
 ·rcases hW x hx with rfl|hx'
  ·have hat:m.at'=(p:Int):=hc.next.trans hk
   have hfr:=R.inv.frames
   rw [if_neg (by omega)] at hfr
   have hbl:=congrArg List.length hc.behind
   have hst:zc0 C m=zaN C[p].1 m:=zhy hat hp
   have A:=znA hc K R.m64 (S.ok.ok p hp) (S.n64 p hp) h0 hfr hl
   have F:=zip C[p].1 m h0
   have hcs:=hc.steps
   have hR:RunAtC C inp (n+1) (zaN C[p].1 m)∨((zaN C[p].1 m).fin=3∨(zaN C[p].1 m).fin=4):=by
    rcases F.1 with ⟨_,hs⟩|⟨hf,_⟩
    ·refine .inl ⟨?_,R.inv.step h0 hat (S.ok.leads p hp),zym R.m64 (S.ok.ok p hp) (S.n64 p hp),by rw [hs,R.steps];rfl⟩
     rw [ztu _ _ _ (by rw [←R.run];exact h0),←R.run,hst]
    ·exact .inr hf
   have hpeak:(zaN C[p].1 m).peak≤max (max bf ((x.behind.length:Int)+1)) (zaN C[p].1 m).frames:=by
    rcases zlT C[p].1 m with e|⟨e,_⟩ <;> rw [e] <;> omega
   rcases A with ⟨hf,k',hk',hc'⟩|hf
   ·rcases hR with hR|hR
    ·exact⟨n+1,_,hR,.inl ⟨hf,⟨k',List.mem_append_right _ hk',hc'⟩,hpeak⟩⟩
    ·omega
   ·rcases hR with hR|hR
    ·refine⟨n+1,_,hR,.inr ⟨hf,?_,?_⟩⟩
     ·have:=hR.steps
      have:=R.steps
      omega
     ·rcases zlT C[p].1 m with e|⟨_,e⟩
      ·rw [e];omega
      ·omega
    ·omega
  ·exact⟨n,m,R,.inl ⟨h0,⟨x,List.mem_append_left _ hx',hc⟩,by omega⟩⟩
 ·exact⟨n,m,R,.inr ⟨h0,by omega,by omega⟩⟩
def zf8(k o:Kn):Kn:={ k with regs:=fun r=>(k.regs r).or (o.regs r),cells:=fun c=>(k.cells c).or (o.cells c) }
theorem ztv{k o:Kn}{m:Mc}(h:Cov k m):Cov (zf8 k o) m:=⟨fun r hr=>zky (h.regs r hr) _,fun c hc=>zky (h.cells c hc) _,h.next,h.behind,h.steps⟩
theorem zqI{k o:Kn}{m:Mc}(h:Cov o m)(h1:o.next=k.next)(h2:o.behind=k.behind)(h3:o.steps=k.steps):Cov (zf8 k o) m :=
 ⟨fun r hr=>zh1 (h.regs r hr) _,fun c hc=>zh1 (h.cells c hc) _,h.next.trans h1,h.behind.trans h2,h.steps.trans h3⟩
theorem zyn{k o:Kn}(h:KnOk k)(h':KnOk o):KnOk (zf8 k o):=⟨fun r hr=>zwc (h.regs r hr) (h'.regs r hr),fun c hc=>zwc (h.cells c hc) (h'.cells c hc)⟩
theorem zqJ{C:List (Ins × Int)}{W W':List Kn}{k o:Kn}{bs bf:Int}{inp:List Int}(h1:o.next=k.next)(h2:o.behind=k.behind)(h3:o.steps=k.steps)(hW:∀ x∈W,x=k∨x=o∨x∈W')(T:zi3 C W bs bf inp):zi3 C (zf8 k o :: W') bs bf inp:=by
 obtain⟨n,m,R,h⟩:=T
 refine⟨n,m,R,?_⟩
 rcases h with ⟨h0,⟨x,hx,hc⟩,hpk⟩|h
 ·refine .inl ⟨h0,?_,hpk⟩
  rcases hW x hx with rfl|rfl|hx'
  ·exact⟨_,List.mem_cons_self,ztv hc⟩
  ·exact⟨_,List.mem_cons_self,zqI hc h1 h2 h3⟩
  ·exact⟨x,List.mem_cons_of_mem _ hx',hc⟩
 ·exact .inr h
theorem zjQ{C:List (Ins × Int)}{W W':List Kn}{bs bf:Int}{inp:List Int}(hW:∀ x∈W,x∈W')(T:zi3 C W bs bf inp):zi3 C W' bs bf inp:=by
 obtain⟨n,m,R,h⟩:=T
 refine⟨n,m,R,?_⟩
 rcases h with ⟨h0,⟨x,hx,hc⟩,hpk⟩|h
 ·exact .inl ⟨h0,⟨x,hW x hx,hc⟩,hpk⟩
 ·exact .inr h
theorem ztw{C:List (Ins × Int)}{bs bf:Int}{inp:List Int}(T:zi3 C [] bs bf inp)(N:Nat)(hN:bs≤(N:Int)):
  ((runS (zc0 C) N (zbl inp)).fin=1∨(runS (zc0 C) N (zbl inp)).fin=2)∧(runS (zc0 C) N (zbl inp)).steps≤bs∧(runS (zc0 C) N (zbl inp)).peak≤bf:=by
 obtain⟨n,m,R,h⟩:=T
 rcases h with ⟨_,⟨x,hx,_⟩,_⟩|⟨hf,h1,h2⟩
 ·cases hx
 ·have hs:=R.steps
  obtain⟨d,rfl⟩:=Nat.exists_eq_add_of_le (show n≤N by omega)
  have key:runS (zc0 C) (n+d) (zbl inp)=m:=by
   have hr:=R.run
   clear hN hs
   induction d with
   | zero=>exact hr.symm
   | succ d ih =>
    have:∀(k:Nat) (a:Mc),¬(runS (zc0 C) k a).fin=0→runS (zc0 C) (k+1) a=runS (zc0 C) k a:=by
     intro k
     induction k with
     | zero =>
      intro a ha
      exact zcl _ _ _ ha
     | succ k ih =>
      intro a ha
      by_cases h0:a.fin=0
      ·rw [zbO _ _ _ h0] at ha
       rw [zbO _ _ _ h0,ih _ ha,zbO _ _ _ h0]
      ·rw [zcl _ _ _ h0,zcl _ _ _ h0]
    rw [←Nat.add_assoc,this (n+d) (zbl inp) (by rw [ih];omega),ih]
  rw [key]
  exact⟨hf,h1,h2⟩
structure RsK where
 marked:List Kn
 steps:Int
 seen:Nat
 covers:Bool
def RsK.begin(R:RsK)(s:Int):RsK:=⟨if zbC s then [] else R.marked,s,0,true⟩
def RsK.see(R:RsK)(k:Kn):RsK :=
 ⟨if zbC R.steps then R.marked++[k] else R.marked,R.steps,R.seen+1,R.covers&&(!zbC R.steps&&(decide (R.seen<R.marked.length)&&zci k (R.marked.getD R.seen kn0)))⟩
def RsK.endless(R:RsK)(k:Kn):Option RsK :=
 if k.steps=R.steps then some (R.see k) else if R.covers&&decide (R.seen=R.marked.length) then none else some ((R.begin k.steps).see k)
def rsk0:RsK:=⟨[],0,0,false⟩
structure Gs where
 W:List Kn
 looks:Nat
 R:RsK
 bs:Int
 bf:Int
def gs0:Gs:=⟨[kn0],0,rsk0,0,0⟩
def Meet(y k:Kn):Prop:=y.next=k.next∧y.behind=k.behind∧y.steps=k.steps
inductive TakeR(W:List Kn):Kn→List Kn→Prop
 | one {k:Kn} {ys:List Kn}:(k :: ys).Perm W→(∀ y∈ys,keyK k≤keyK y)→TakeR W k ys
 | more {k y:Kn} {ys zs:List Kn}:TakeR W k ys→(y :: zs).Perm ys→Meet y k→TakeR W (zf8 k y) zs
def TakeD(W:List Kn)(k:Kn)(ys:List Kn):Prop:=TakeR W k ys∧∀ y∈ys,¬Meet y k
def Rd(C:List (Ins × Int))(G G':Gs):Prop:=∃(k:Kn) (ys ks:List Kn) (p:Nat) (hp:p<C.length),G.looks<500000∧G.W.length≤1000∧TakeD G.W k ys∧k.steps≠100000∧G.R.endless k=some G'.R∧k.next=(p:Int)∧zaw C[p].1 k=some ks∧G'.W.Perm (ys++ks)∧G'.looks=G.looks+1∧G'.bs=k.steps+1∧G'.bf=max G.bf ((k.behind.length:Int)+1)
def Rf(C:List (Ins × Int))(G:Gs):Prop:=G.W≠[]∧(500000≤G.looks∨1000<G.W.length∨∃(k:Kn) (ys:List Kn),TakeD G.W k ys∧(k.steps=100000∨G.R.endless k=none∨∃(p:Nat) (hp:p<C.length),k.next=(p:Int)∧zaw C[p].1 k=none))
structure KnIn(C:List (Ins × Int))(k:Kn):Prop where
 ok:KnOk k
 next:InC C.length k.next
 behind:∀ z∈k.behind,InC C.length z
 few:k.behind.length≤15
 s0:0≤k.steps
 s1:k.steps≤100000
theorem KnIn.key{C:List (Ins × Int)}{k:Kn}(h:KnIn C k)(hC:C.length≤300):KeyOk k:=by
 refine⟨?_,h.few,fun z hz=>?_⟩
 ·obtain⟨p,hp,hl⟩:=h.next
  omega
 ·obtain⟨p,hp,hl⟩:=h.behind z hz
  omega
structure GsOk(C:List (Ins × Int))(G:Gs):Prop where
 kn:∀ k∈G.W,KnIn C k
 few:G.W.length≤1002
 looks:G.looks≤500000
 mkd:G.R.marked.length≤G.looks
 seen:G.R.seen≤G.looks
 rs0:0≤G.R.steps
 rs1:G.R.steps≤100000
 bs0:0≤G.bs
 bs1:G.bs≤100000
 bf0:0≤G.bf
 bf1:G.bf≤16
theorem TakeR.kn{C:List (Ins × Int)}{W ys:List Kn}{k:Kn}(h:TakeR W k ys)(hC:C.length≤300)(hW:∀ x∈W,KnIn C x):KnIn C k∧(∀ y∈ys,KnIn C y)∧ys.length<W.length∧∀ y∈ys,k.steps≤y.steps:=by
 induction h with
 | one hp hl =>
  have hl2:=hp.length_eq
  have hk:=hW _ (hp.mem_iff.1 List.mem_cons_self)
  refine⟨hk,fun y hy=>hW _ (hp.mem_iff.1 (List.mem_cons_of_mem _ hy)),?_,fun y hy=>zt3 (hk.key hC) ((hW y (hp.mem_iff.1 (List.mem_cons_of_mem _ hy))).key hC) (hl y hy)⟩
  rw [List.length_cons] at hl2;omega
 | more h1 hp hm ih =>
  obtain⟨i1,i2,i3,i4⟩:=ih
  have hl2:=hp.length_eq
  rw [List.length_cons] at hl2
  have hy:=i2 _ (hp.mem_iff.1 List.mem_cons_self)
  exact⟨⟨zyn i1.ok hy.ok,i1.next,i1.behind,i1.few,i1.s0,i1.s1⟩,fun y hy=>i2 _ (hp.mem_iff.1 (List.mem_cons_of_mem _ hy)),by omega,fun y hy=>i4 y (hp.mem_iff.1 (List.mem_cons_of_mem _ hy))⟩
theorem TakeR.tells{C:List (Ins × Int)}{W ys:List Kn}{k:Kn}{bs bf:Int}{inp:List Int}(h:TakeR W k ys)(T:zi3 C W bs bf inp):zi3 C (k :: ys) bs bf inp:=by
 induction h with
 | one hp hl=>exact zjQ (fun x hx=>hp.mem_iff.2 hx) T
 | more h1 hp hm ih =>
  refine zqJ hm.1 hm.2.1 hm.2.2 (fun x hx=>?_) ih
  rcases List.mem_cons.1 hx with e|e
  ·exact .inl e
  ·rcases List.mem_cons.1 (hp.mem_iff.2 e) with e|e
   ·exact .inr (.inl e)
   ·exact .inr (.inr e)
theorem zqR{k:Kn}{l r:Nat}{f g:Rg→Rg→Option (Rg × Rg)}{z:Int}:(zbr k l r f g z).length≤2:=by
 unfold zbr
 split <;> simp
theorem zmd{k:Kn}{i:Ins}{ks:List Kn}(h:zaw i k=some ks):ks.length≤2:=by
 have hb:=fun(l r:Nat) (f g:Rg→Rg→Option (Rg × Rg)) (z:Int)=>zqR (k:=k) (l:=l) (r:=r) (f:=f) (g:=g) (z:=z)
 unfold zaw at h
 split at h
 all_goals(try split at h)
 all_goals first
  | (simp only [Option.some.injEq] at h;subst h;first|exact hb _ _ _ _ _|simp)
  | cases h
theorem zme{k:Kn}{l r:Nat}{f g:Rg→Rg→Option (Rg × Rg)}{z:Int}:∀ k'∈zbr k l r f g z,(k'.next=z∨k'.next=k.next+1)∧k'.behind=k.behind:=by
 intro k' hk'
 unfold zbr at hk'
 split at hk'
 ·rcases List.mem_cons.1 hk' with rfl|h
  ·exact⟨.inl rfl,rfl⟩
  ·rw [List.mem_singleton.1 h];exact⟨.inr rfl,rfl⟩
 ·rw [List.mem_singleton.1 hk'];exact⟨.inl rfl,rfl⟩
 ·rw [List.mem_singleton.1 hk'];exact⟨.inr rfl,rfl⟩
 ·rw [List.mem_singleton.1 hk'];exact⟨.inl rfl,rfl⟩
theorem zws{N p:Nat}{k:Kn}{i:Ins}{ks:List Kn}(hn:k.next=(p:Int))(hl:zsB N p i)(hb:∀ z∈k.behind,InC N z)(hf:k.behind.length≤15)(h:zaw i k=some ks):∀ k'∈ks,InC N k'.next∧(∀ z∈k'.behind,InC N z)∧k'.behind.length≤15:=by
 have hnx:p+1<N→InC N (k.next+1):=fun h=>⟨p+1,by omega,h⟩
 have one:∀(f g:Nat→Rg) (z:Int),InC N z→∀ k'∈[({ k with regs:=f,cells:=g }:Kn).goTo z],InC N k'.next∧(∀ z∈k'.behind,InC N z)∧k'.behind.length≤15:=fun f g z hz k' hk'=>by
  rw [List.mem_singleton.1 hk'];exact⟨hz,hb,hf⟩
 cases i with
 | set r n=>simp only [zaw,Option.some.injEq] at h;subst h;exact one _ _ _ (hnx hl)
 | mov r s=>simp only [zaw,Option.some.injEq] at h;subst h;exact one _ _ _ (hnx hl)
 | alu o r s t=>simp only [zaw,Option.some.injEq] at h;subst h;exact one _ _ _ (hnx hl)
 | inc r n=>simp only [zaw,Option.some.injEq] at h;subst h;exact one _ _ _ (hnx hl)
 | load r s =>
  simp only [zaw] at h
  split at h
  ·cases h
  ·simp only [Option.some.injEq] at h;subst h;exact one _ _ _ (hnx hl)
 | store r s =>
  simp only [zaw] at h
  split at h
  ·cases h
  ·simp only [Option.some.injEq] at h;subst h;exact one _ _ _ (hnx hl)
 | read r=>simp only [zaw,Option.some.injEq] at h;subst h;exact one _ _ _ (hnx hl)
 | write r=>simp only [zaw,Option.some.injEq] at h;subst h;exact one _ _ _ (hnx hl)
 | jump to=>simp only [zaw,Option.some.injEq] at h;subst h;exact one _ _ _ hl
 | less r s to =>
  simp only [zaw] at h
  split at h
  ·simp only [Option.some.injEq] at h;subst h;exact one _ _ _ (hnx hl.2)
  ·simp only [Option.some.injEq] at h;subst h
   intro k' hk'
   obtain⟨e,e2⟩:=zme k' hk'
   rw [e2]
   refine⟨?_,hb,hf⟩
   rcases e with e|e <;> rw [e]
   ·exact hl.1
   ·exact hnx hl.2
 | same r s to =>
  simp only [zaw] at h
  split at h
  ·simp only [Option.some.injEq] at h;subst h;exact one _ _ _ hl.1
  ·simp only [Option.some.injEq] at h;subst h
   intro k' hk'
   obtain⟨e,e2⟩:=zme k' hk'
   rw [e2]
   refine⟨?_,hb,hf⟩
   rcases e with e|e <;> rw [e]
   ·exact hl.1
   ·exact hnx hl.2
 | call to =>
  simp only [zaw] at h
  split at h
  ·cases h
  ·simp only [Option.some.injEq] at h;subst h
   intro k' hk'
   rw [List.mem_singleton.1 hk']
   refine⟨hl.1,fun z hz=>?_,?_⟩
   ·rcases List.mem_append.1 hz with e|e
    ·exact hb z e
    ·rw [List.mem_singleton.1 e];exact hnx hl.2
   ·show(k.behind++[k.next+1]).length≤15
    rw [List.length_append];simp;omega
 | back =>
  simp only [zaw] at h
  cases hk:k.behind with
  | nil=>rw [hk] at h;simp only [Option.some.injEq] at h;subst h;intro k' hk';cases hk'
  | cons b r =>
   rw [hk] at h
   simp only [Option.some.injEq] at h;subst h
   intro k' hk'
   rw [List.mem_singleton.1 hk']
   rw [hk] at hb hf
   have hne:(b :: r)≠[]:=by simp
   refine⟨hb _ ?_,fun z hz=>hb z (List.dropLast_subset _ hz),?_⟩
   ·show(b :: r).getLastD 0∈_
    rw [List.getLastD_eq_getLast?,List.getLast?_eq_some_getLast hne]
    exact List.getLast_mem hne
   ·show(b :: r).dropLast.length≤15
    rw [List.length_dropLast];omega
 | stop=>simp only [zaw,Option.some.injEq] at h;subst h;intro k' hk';cases hk'
theorem zpt{C:List (Ins × Int)}(S:CodeSure C){k:Kn}{ks:List Kn}{p:Nat}(hp:p<C.length)(hk:k.next=(p:Int))(K:KnIn C k)(hs:k.steps≠100000)(h:zaw C[p].1 k=some ks):∀ k'∈ks,KnIn C k':=by
 intro k' hk'
 obtain⟨a1,a2⟩:=zjP K.ok (S.ok.ok p hp) (S.n64 p hp) h k' hk'
 obtain⟨b1,b2,b3⟩:=zws hk (S.ok.leads p hp) K.behind K.few h k' hk'
 have:=K.s0
 have:=K.s1
 exact⟨a2,b1,b2,b3,by omega,by omega⟩
theorem RsK.see_ok{R:RsK}{k:Kn}{n:Nat}(h1:R.marked.length≤n)(h2:R.seen≤n):(R.see k).marked.length≤n+1∧(R.see k).seen≤n+1∧(R.see k).steps=R.steps:=by
 refine⟨?_,?_,rfl⟩
 ·show(if zbC R.steps then R.marked++[k] else R.marked).length≤_
  split
  ·rw [List.length_append];simp;omega
  ·omega
 ·show R.seen+1≤_;omega
theorem RsK.begin_len(R:RsK)(s:Int):(R.begin s).marked.length≤R.marked.length:=by
 show(if zbC s then [] else R.marked).length≤_
 split
 ·simp
 ·exact Nat.le_refl _
theorem RsK.endless_ok{R R':RsK}{k:Kn}{n:Nat}(h1:R.marked.length≤n)(h2:R.seen≤n)(h:R.endless k=some R'):R'.marked.length≤n+1∧R'.seen≤n+1∧R'.steps=k.steps:=by
 unfold RsK.endless at h
 split at h
 ·rename_i e
  cases h
  obtain⟨a,b,c⟩:=RsK.see_ok (k:=k) h1 h2
  exact⟨a,b,by rw [c,e]⟩
 ·split at h
  ·cases h
  ·cases h
   obtain⟨a,b,c⟩:=RsK.see_ok (R:=R.begin k.steps) (k:=k) (n:=n) (Nat.le_trans (R.begin_len _) h1) (Nat.zero_le _)
   exact⟨a,b,c⟩
theorem zz6{C:List (Ins × Int)}(S:CodeSure C):GsOk C gs0:=by
 refine⟨fun k hk=>?_,by show 1≤1002;omega,by show 0≤500000;omega,Nat.le_refl _,Nat.le_refl _,Int.le_refl _,by show(0:Int)≤100000;omega,Int.le_refl _,by show(0:Int)≤100000;omega,Int.le_refl _,by show(0:Int)≤16;omega⟩
 rw [List.mem_singleton.1 hk]
 have h0:(only 0).Ok:=ziy (by unfold i64;omega)
 exact⟨⟨fun _ _=>h0,fun _ _=>h0⟩,⟨0,rfl,S.ok.some_⟩,fun z hz=>(by cases hz),Nat.zero_le _,Int.le_refl _,by show(0:Int)≤100000;omega⟩
theorem zAa{C:List (Ins × Int)}(S:CodeSure C){G G':Gs}(h:GsOk C G)(r:Rd C G G'):GsOk C G':=by
 obtain⟨k,ys,ks,p,hp,l1,l2,ht,hs,he,hk,hl,hW,hL,hbs,hbf⟩:=r
 obtain⟨K,Ky,hlen,_⟩:=ht.1.kn S.ok.few h.kn
 obtain⟨e1,e2,e3⟩:=RsK.endless_ok h.mkd h.seen he
 have hll:=zmd hl
 have hWl:=hW.length_eq
 rw [List.length_append] at hWl
 have:=K.s0
 have:=K.s1
 have:=K.few
 have:=h.bf0
 have:=h.bf1
 refine⟨fun x hx=>?_,by omega,by omega,by omega,by omega,by omega,by omega,by omega,by omega,by omega,by omega⟩
 rcases List.mem_append.1 (hW.mem_iff.1 hx) with e|e
 ·exact Ky x e
 ·exact zpt S hp hk K hs hl x e
structure GsT(C:List (Ins × Int))(G:Gs):Prop where
 ok:GsOk C G
 tells:∀ inp:List Int,(∀ x∈inp,i64 x)→zi3 C G.W G.bs G.bf inp
 low:∀ k∈G.W,G.bs≤k.steps+1
theorem zAb{C:List (Ins × Int)}(S:CodeSure C):GsT C gs0 :=
 ⟨zz6 S,fun inp hin=>znD S inp hin _ _,fun k hk=>by rw [List.mem_singleton.1 hk];show(0:Int)≤0+1;omega⟩
theorem rd_t{C:List (Ins × Int)}(S:CodeSure C){G G':Gs}(h:GsT C G)(r:Rd C G G'):GsT C G':=by
 refine⟨zAa S h.ok r,?_,?_⟩
 ·obtain⟨k,ys,ks,p,hp,l1,l2,ht,hs,he,hk,hl,hW,hL,hbs,hbf⟩:=r
  intro inp hin
  obtain⟨K,Ky,hlen,hle0⟩:=ht.1.kn S.ok.few h.ok.kn
  clear hle0
  have T:=ht.1.tells (h.tells inp hin)
  have hlow:G.bs≤k.steps+1:=by
   have ht1:=ht.1
   clear hW hl he hbs hbf hs hk K Ky hlen T ht
   induction ht1 with
   | one hp hl=>exact h.low _ (hp.mem_iff.1 List.mem_cons_self)
   | more h1 hp hm ih=>exact ih
  rw [hbs,hbf]
  refine zjQ (fun x hx=>hW.mem_iff.2 hx) (zqH S hp hk K.ok hlow hl (fun x hx=>?_) T)
  rcases List.mem_cons.1 hx with e|e
  ·exact .inl e
  ·exact .inr e
 ·obtain⟨k,ys,ks,p,hp,l1,l2,ht,hs,he,hk,hl,hW,hL,hbs,hbf⟩:=r
  obtain⟨K,Ky,hlen,hle⟩:=ht.1.kn S.ok.few h.ok.kn
  intro x hx
  rw [hbs]
  rcases List.mem_append.1 (hW.mem_iff.1 hx) with e|e
  ·have:=hle x e;omega
  ·have:=(zjP K.ok (S.ok.ok p hp) (S.n64 p hp) hl x e).1
   omega
theorem GsT.ends{C:List (Ins × Int)}{G:Gs}(h:GsT C G)(h0:G.W=[])(inp:List Int)(hin:∀ x∈inp,i64 x)(N:Nat)(hN:G.bs≤(N:Int)):
  ((runS (zc0 C) N (zbl inp)).fin=1∨(runS (zc0 C) N (zbl inp)).fin=2)∧(runS (zc0 C) N (zbl inp)).steps≤G.bs∧(runS (zc0 C) N (zbl inp)).peak≤G.bf:=by
 have T:=h.tells inp hin
 rw [h0] at T
 exact ztw T N hN
end Go.Proofs.YtfpgjkbjbbgciaaGreatDoor
