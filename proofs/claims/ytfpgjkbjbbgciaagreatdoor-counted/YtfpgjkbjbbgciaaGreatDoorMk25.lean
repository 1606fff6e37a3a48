import Derived.Test.YtfpgjkbjbbgciaaGreatDoorMk23
import Derived.Test.YtfpgjkbjbbgciaaGreatDoorMk24
set_option maxRecDepth 100000
set_option maxHeartbeats 8000000
namespace Go.Proofs.YtfpgjkbjbbgciaaGreatDoor
section
open Sp
theorem ziG{k:Kn}{l r:Nat}{holds fails:Rg→Rg→Option (Rg × Rg)}{to:Int}(K:KnOk k)(_hl:l<8)(_hr:r<8)
  (h1:∀ a b,holds (k.regs l) (k.regs r)=some (a,b)→a.Ok∧b.Ok) (h2:∀ a b,fails (k.regs l) (k.regs r)=some (a,b)→a.Ok∧b.Ok) :
  ∀ k'∈zaX k l r holds fails to,k'.steps=k.steps+1∧KnOk k':=by
 intro k' f;unfold zaX at f;have g:∀ a b,a.Ok∧b.Ok→∀ z,({ k with regs:=updR (updR k.regs l a) r b }.goTo z).steps=k.steps+1∧KnOk ({ k with regs:=updR (updR k.regs l a) r b }.goTo z):=fun a b h z=>⟨rfl,⟨zdX (zdX K.regs h.1) h.2,K.cells⟩⟩
 cases hh:holds (k.regs l) (k.regs r) with
 | none =>
  cases hf:fails (k.regs l) (k.regs r) with
  | none=>rw [hh,hf] at f;rw [List.mem_singleton.1 f];exact⟨rfl,⟨K.regs,K.cells⟩⟩
  | some q=>obtain⟨c,d⟩:=q;rw [hh,hf] at f;rw [List.mem_singleton.1 f];exact g c d (h2 c d hf) _
 | some q =>
  obtain⟨a,b⟩:=q;cases hf:fails (k.regs l) (k.regs r) with
  | none=>rw [hh,hf] at f;rw [List.mem_singleton.1 f];exact g a b (h1 a b hh) _
  | some q =>
   obtain⟨c,d⟩:=q;rw [hh,hf] at f;rcases List.mem_cons.1 f with e|e
   ·rw [e];exact g a b (h1 a b hh) _
   ·rw [List.mem_singleton.1 e];exact g c d (h2 c d hf) _
theorem zcx{k:Kn}{i:Ins}{ks:List Kn}(K:KnOk k)(hi:zhs i)(h64:zkK i)(h:zam i k=some ks):∀ k'∈ks,k'.steps=k.steps+1∧KnOk k':=by
 have c:∀(f g:Nat→Rg) (z:Int) (b:List Int),(∀ r,r<8→(f r).Ok)→(∀ r,r<16→(g r).Ok)→∀ k'∈[({ k with regs:=f,cells:=g,behind:=b }:Kn).goTo z],k'.steps=k.steps+1∧KnOk k':=fun f g z b e l k' d=>by
  rw [List.mem_singleton.1 d];exact⟨rfl,⟨e,l⟩⟩
 cases i with
 | set r n =>
  simp only [zam,Option.some.injEq] at h;subst h;exact c _ _ _ _ (zdX K.regs (ziB h64)) K.cells
 | mov r s =>
  simp only [zam,Option.some.injEq] at h;subst h;exact c _ _ _ _ (zdX K.regs (K.regs s hi.2)) K.cells
 | alu o r s t =>
  simp only [zam,Option.some.injEq] at h;subst h;refine c _ _ _ _ (zdX K.regs ?_) K.cells;split
  ·exact ztI _ _
  ·split
   ·split
    ·exact ziB (by unfold i64;omega)
    ·exact zwD _ _
   ·exact zwF (K.regs s hi.2.2.1) (K.regs t hi.2.2.2)
 | inc r n =>
  simp only [zam,Option.some.injEq] at h;subst h;exact c _ _ _ _ (zdX K.regs (ztI _ _)) K.cells
 | load r s =>
  simp only [zam] at h;cases ht:zbm (k.regs s) with
  | none=>rw [ht] at h;cases h
  | some q =>
   obtain⟨a,b⟩:=q;rw [ht] at h;simp only [Option.some.injEq] at h;subst h;obtain⟨e,l⟩:=zrf ht (K.regs s hi.2);exact c _ _ _ _ (zdX K.regs (zre (fun j _ hj=>K.cells j (by omega)))) K.cells
 | store r s =>
  simp only [zam] at h;cases ht:zbm (k.regs r) with
  | none=>rw [ht] at h;cases h
  | some q =>
   obtain⟨a,b⟩:=q;rw [ht] at h;simp only [Option.some.injEq] at h;subst h;exact c _ _ _ _ K.regs (zwH K.cells (K.regs s hi.2))
 | read r =>
  simp only [zam,Option.some.injEq] at h;subst h;exact c _ _ _ _ (zdX K.regs ztE) K.cells
 | write r =>
  simp only [zam,Option.some.injEq] at h;subst h;exact c _ _ _ _ K.regs K.cells
 | jump to =>
  simp only [zam,Option.some.injEq] at h;subst h;exact c _ _ _ _ K.regs K.cells
 | less r s to =>
  simp only [zam] at h;split at h
  ·simp only [Option.some.injEq] at h;subst h;exact c _ _ _ _ K.regs K.cells
  ·simp only [Option.some.injEq] at h;subst h;exact ziG K hi.1 hi.2 (fun a b=>zyM (K.regs r hi.1) (K.regs s hi.2)) (fun a b=>zrb (K.regs r hi.1) (K.regs s hi.2))
 | same r s to =>
  simp only [zam] at h;split at h
  ·simp only [Option.some.injEq] at h;subst h;exact c _ _ _ _ K.regs K.cells
  ·simp only [Option.some.injEq] at h;subst h;exact ziG K hi.1 hi.2 (fun a b=>zyN (K.regs r hi.1) (K.regs s hi.2)) (fun a b=>zrc (K.regs r hi.1) (K.regs s hi.2))
 | call to =>
  simp only [zam] at h;split at h
  ·cases h
  ·simp only [Option.some.injEq] at h;subst h;exact c _ _ _ _ K.regs K.cells
 | back =>
  simp only [zam] at h;cases hb:k.behind with
  | nil=>rw [hb] at h;simp only [Option.some.injEq] at h;subst h;intro k' d;cases d
  | cons b r =>
   rw [hb] at h;simp only [Option.some.injEq] at h;subst h;exact c _ _ _ _ K.regs K.cells
 | stop =>
  simp only [zam,Option.some.injEq] at h;subst h;intro k' d;cases d
theorem zoh{m:Mc}{i:Ins}(M:Mc64 m)(hi:zhs i)(h64:zkK i):Mc64 (za2 i m):=by
 have b:Mc64 (exec i (m.at'+1) m):=by
  cases i with
  | set r n=>exact⟨ziD M.regs h64,M.cells,M.inp⟩
  | mov r s=>exact⟨ziD M.regs (M.regs s hi.2),M.cells,M.inp⟩
  | alu o r s t =>
   refine⟨ziD M.regs ?_,M.cells,M.inp⟩;unfold zc1
   repeat' split
   all_goals exact zdG _
  | inc r n=>exact⟨ziD M.regs (zdG _),M.cells,M.inp⟩
  | load r s =>
   by_cases a:m.regs s<0∨15<m.regs s
   ·have c:exec (.load r s) (m.at'+1) m={ m with fin:=3 }:=if_pos a;rw [c];exact⟨M.regs,M.cells,M.inp⟩
   ·have c:exec (.load r s) (m.at'+1) m={ m with regs:=upd m.regs r (m.cells (m.regs s).toNat) }.goes (m.at'+1):=if_neg a;rw [c];exact⟨ziD M.regs (M.cells _ (by omega)),M.cells,M.inp⟩
  | store r s =>
   by_cases a:m.regs r<0∨15<m.regs r
   ·have c:exec (.store r s) (m.at'+1) m={ m with fin:=3 }:=if_pos a;rw [c];exact⟨M.regs,M.cells,M.inp⟩
   ·have c:exec (.store r s) (m.at'+1) m={ m with cells:=upd m.cells (m.regs r).toNat (m.regs s) }.goes (m.at'+1):=if_neg a;rw [c];exact⟨M.regs,ziD M.cells (M.regs s hi.2),M.inp⟩
  | read r =>
   refine⟨ziD M.regs ?_,M.cells,fun x hx=>M.inp x (List.mem_of_mem_tail hx)⟩;cases hin:m.inp with
   | nil=>unfold i64;simp
   | cons x t=>exact M.inp x (by rw [hin];exact List.mem_cons_self)
  | write r=>exact⟨M.regs,M.cells,M.inp⟩
  | jump to=>exact⟨M.regs,M.cells,M.inp⟩
  | less r s to=>exact⟨M.regs,M.cells,M.inp⟩
  | same r s to=>exact⟨M.regs,M.cells,M.inp⟩
  | call to =>
   by_cases a:m.frames=16
   ·have c:exec (.call to) (m.at'+1) m={ m with fin:=4 }:=if_pos a;rw [c];exact⟨M.regs,M.cells,M.inp⟩
   ·have c:exec (.call to) (m.at'+1) m={ m with backs:=m.backs++[m.at'+1],frames:=m.frames+1,peak:=max m.peak (m.frames+1) }.goes to:=if_neg a;rw [c];exact⟨M.regs,M.cells,M.inp⟩
  | back =>
   by_cases a:m.frames=1
   ·have c:exec .back (m.at'+1) m={ m with frames:=0,fin:=2 }.goes (-1):=if_pos a;rw [c];exact⟨M.regs,M.cells,M.inp⟩
   ·have c:exec .back (m.at'+1) m={ m with frames:=m.frames-1,backs:=m.backs.dropLast }.goes (m.backs.getLastD 0):=if_neg a;rw [c];exact⟨M.regs,M.cells,M.inp⟩
  | stop=>exact⟨M.regs,M.cells,M.inp⟩
 unfold za2;split
 ·exact⟨b.regs,b.cells,b.inp⟩
 ·exact b
theorem zms(i:Ins)(m:Mc):(za2 i m).peak=m.peak∨(za2 i m).peak=max m.peak (za2 i m).frames∧(za2 i m).fin=m.fin:=by
 have e1:(za2 i m).peak=(exec i (m.at'+1) m).peak:=by unfold za2;split <;> rfl
 cases i with
 | call to =>
  by_cases h:m.frames=16
  ·left;rw [e1,show exec (.call to) (m.at'+1) m={ m with fin:=4 } from if_pos h]
  ·right;have c:exec (.call to) (m.at'+1) m={ m with backs:=m.backs++[m.at'+1],frames:=m.frames+1,peak:=max m.peak (m.frames+1) }.goes to:=if_neg h;have d:(za2 (.call to) m).frames=m.frames+1:=by unfold za2;rw [c];split <;> rfl
   have e:(za2 (.call to) m).fin=m.fin:=by unfold za2;rw [c];split <;> rfl
   exact⟨by rw [e1,d,c];rfl,e⟩
 | load r s =>
  left;rw [e1];by_cases a:m.regs s<0∨15<m.regs s
  ·have b:exec (.load r s) (m.at'+1) m={ m with fin:=3 }:=if_pos a;rw [b]
  ·have b:exec (.load r s) (m.at'+1) m={ m with regs:=upd m.regs r (m.cells (m.regs s).toNat) }.goes (m.at'+1):=if_neg a;rw [b];rfl
 | store r s =>
  left;rw [e1];by_cases a:m.regs r<0∨15<m.regs r
  ·have b:exec (.store r s) (m.at'+1) m={ m with fin:=3 }:=if_pos a;rw [b]
  ·have b:exec (.store r s) (m.at'+1) m={ m with cells:=upd m.cells (m.regs r).toNat (m.regs s) }.goes (m.at'+1):=if_neg a;rw [b];rfl
 | back =>
  left;rw [e1];by_cases a:m.frames=1
  ·have b:exec .back (m.at'+1) m={ m with frames:=0,fin:=2 }.goes (-1):=if_pos a;rw [b];rfl
  ·have b:exec .back (m.at'+1) m={ m with frames:=m.frames-1,backs:=m.backs.dropLast }.goes (m.backs.getLastD 0):=if_neg a;rw [b];rfl
 | _=>left;rw [e1];rfl
theorem ziH(f:Mc→Mc)(n:Nat)(m:Mc)(h:(runS f n m).fin=0):runS f (n+1) m=f (runS f n m):=by
 induction n generalizing m with
 | zero =>
  have b:m.fin=0:=h;rw [zbv _ _ _ b];rfl
 | succ n ih =>
  by_cases a:m.fin=0
  ·rw [zbv _ _ _ a] at h;rw [zbv _ _ _ a,ih _ h,zbv _ _ _ a]
  ·rw [zbB _ _ _ a] at h;exact absurd h a
structure CodeSure(C:List (Ins × Int)):Prop where
 ok:CodeOk C
 n64:∀ j (h:j<C.length),zkK C[j].1
structure RunAtC(C:List (Ins × Int))(inp:List Int)(n:Nat)(m:Mc):Prop where
 run:m=runS (zce C) n (zaY inp)
 inv:InvD C.length m
 m64:Mc64 m
 steps:m.steps=(n:Int)
def ziI(C:List (Ins × Int))(W:List Kn)(bs bf:Int)(inp:List Int):Prop :=
 ∃ n m,RunAtC C inp n m∧((m.fin=0∧(∃ k∈W,Cov k m)∧m.peak≤max bf m.frames)∨((m.fin=1∨m.fin=2)∧m.steps≤bs∧m.peak≤bf))
theorem zoi{C:List (Ins × Int)}(S:CodeSure C)(inp:List Int)(hin:∀ x∈inp,i64 x)(bs bf:Int):ziI C [kn0] bs bf inp:=by
 refine⟨0,zaY inp,⟨rfl,zda S.ok inp,⟨fun _ _=>by show i64 0;unfold i64;omega,fun _ _=>by show i64 0;unfold i64;omega,hin⟩,rfl⟩,.inl ⟨rfl,⟨kn0,zb8 _,⟨fun _ _=>zew 0,fun _ _=>zew 0,rfl,rfl,rfl⟩⟩,?_⟩⟩;show(1:Int)≤max bf 1;omega
theorem zri{C:List (Ins × Int)}(S:CodeSure C){W W' ks:List Kn}{k:Kn}{bs bf:Int}{inp:List Int}{p:Nat}(hp:p<C.length)(hk:k.next=(p:Int))(K:KnOk k)(hbs:bs≤k.steps+1)
  (hl:zam C[p].1 k=some ks) (hW:∀ x∈W,x=k∨x∈W') (T:ziI C W bs bf inp):ziI C (W'++ks) (k.steps+1) (max bf ((k.behind.length:Int)+1)) inp:=by
 obtain⟨n,m,R,h⟩:=T;rcases h with ⟨a,⟨x,r,f⟩,hpk⟩|⟨a,h1,h2⟩
 ·rcases hW x r with rfl|hx'
  ·have d:m.at'=(p:Int):=f.next.trans hk;have g:=R.inv.frames;rw [if_neg (by omega)] at g;have hbl:=congrArg List.length f.behind;have o:zce C m=za2 C[p].1 m:=zeH d hp;have A:=ziE f K R.m64 (S.ok.ok p hp) (S.n64 p hp) a g hl;have F:=zfx C[p].1 m a;have hcs:=f.steps;have b:RunAtC C inp (n+1) (za2 C[p].1 m)∨((za2 C[p].1 m).fin=3∨(za2 C[p].1 m).fin=4):=by
    rcases F.1 with ⟨_,hs⟩|⟨i,_⟩
    ·refine .inl ⟨?_,R.inv.step a d (S.ok.leads p hp),zoh R.m64 (S.ok.ok p hp) (S.n64 p hp),by rw [hs,R.steps];rfl⟩;rw [ziH _ _ _ (by rw [←R.run];exact a),←R.run,o]
    ·exact .inr i
   have c:(za2 C[p].1 m).peak≤max (max bf ((x.behind.length:Int)+1)) (za2 C[p].1 m).frames:=by
    rcases zms C[p].1 m with e|⟨e,_⟩ <;> rw [e] <;> omega
   rcases A with ⟨i,s,l,j⟩|i
   ·rcases b with b|b
    ·exact⟨n+1,_,b,.inl ⟨i,⟨s,List.mem_append_right _ l,j⟩,c⟩⟩
    ·omega
   ·rcases b with b|b
    ·refine⟨n+1,_,b,.inr ⟨i,?_,?_⟩⟩
     ·have:=b.steps;have:=R.steps;omega
     ·rcases zms C[p].1 m with e|⟨_,e⟩
      ·rw [e];omega
      ·omega
    ·omega
  ·exact⟨n,m,R,.inl ⟨a,⟨x,List.mem_append_left _ hx',f⟩,by omega⟩⟩
 ·exact⟨n,m,R,.inr ⟨a,by omega,by omega⟩⟩
def zf3(k o:Kn):Kn:={ k with regs:=fun r=>(k.regs r).or (o.regs r),cells:=fun c=>(k.cells c).or (o.cells c) }
theorem ztO{k o:Kn}{m:Mc}(h:Cov k m):Cov (zf3 k o) m:=⟨fun r hr=>zkH (h.regs r hr) _,fun c hc=>zkH (h.cells c hc) _,h.next,h.behind,h.steps⟩
theorem zrj{k o:Kn}{m:Mc}(h:Cov o m)(h1:o.next=k.next)(h2:o.behind=k.behind)(h3:o.steps=k.steps):Cov (zf3 k o) m :=
 ⟨fun r hr=>zh6 (h.regs r hr) _,fun c hc=>zh6 (h.cells c hc) _,h.next.trans h1,h.behind.trans h2,h.steps.trans h3⟩
theorem zyR{k o:Kn}(h:KnOk k)(h':KnOk o):KnOk (zf3 k o):=⟨fun r hr=>zwB (h.regs r hr) (h'.regs r hr),fun c hc=>zwB (h.cells c hc) (h'.cells c hc)⟩
theorem zrk{C:List (Ins × Int)}{W W':List Kn}{k o:Kn}{bs bf:Int}{inp:List Int}(h1:o.next=k.next)(h2:o.behind=k.behind)(h3:o.steps=k.steps)(hW:∀ x∈W,x=k∨x=o∨x∈W')(T:ziI C W bs bf inp):ziI C (zf3 k o :: W') bs bf inp:=by
 obtain⟨n,m,R,h⟩:=T;refine⟨n,m,R,?_⟩;rcases h with ⟨c,⟨x,d,a⟩,b⟩|h
 ·refine .inl ⟨c,?_,b⟩;rcases hW x d with rfl|rfl|hx'
  ·exact⟨_,List.mem_cons_self,ztO a⟩
  ·exact⟨_,List.mem_cons_self,zrj a h1 h2 h3⟩
  ·exact⟨x,List.mem_cons_of_mem _ hx',a⟩
 ·exact .inr h
theorem zkd{C:List (Ins × Int)}{W W':List Kn}{bs bf:Int}{inp:List Int}(hW:∀ x∈W,x∈W')(T:ziI C W bs bf inp):ziI C W' bs bf inp:=by
 obtain⟨n,m,R,h⟩:=T;refine⟨n,m,R,?_⟩;rcases h with ⟨b,⟨x,d,c⟩,a⟩|h
 ·exact .inl ⟨b,⟨x,hW x d,c⟩,a⟩
 ·exact .inr h
theorem ztP{C:List (Ins × Int)}{bs bf:Int}{inp:List Int}(T:ziI C [] bs bf inp)(N:Nat)(hN:bs≤(N:Int)):
  ((runS (zce C) N (zaY inp)).fin=1∨(runS (zce C) N (zaY inp)).fin=2)∧(runS (zce C) N (zaY inp)).steps≤bs∧(runS (zce C) N (zaY inp)).peak≤bf:=by
 obtain⟨n,m,R,h⟩:=T;rcases h with ⟨_,⟨x,l,_⟩,_⟩|⟨g,e,f⟩
 ·cases l
 ·have j:=R.steps;obtain⟨d,rfl⟩:=Nat.exists_eq_add_of_le (show n≤N by omega);have key:runS (zce C) (n+d) (zaY inp)=m:=by
   have i:=R.run;clear hN j
   induction d with
   | zero=>exact i.symm
   | succ d ih =>
    have:∀(k:Nat) (a:Mc),¬(runS (zce C) k a).fin=0→runS (zce C) (k+1) a=runS (zce C) k a:=by
     intro k
     induction k with
     | zero =>
      intro a c;exact zbB _ _ _ c
     | succ k ih =>
      intro a c;by_cases b:a.fin=0
      ·rw [zbv _ _ _ b] at c;rw [zbv _ _ _ b,ih _ c,zbv _ _ _ b]
      ·rw [zbB _ _ _ b,zbB _ _ _ b]
    rw [←Nat.add_assoc,this (n+d) (zaY inp) (by rw [ih];omega),ih]
  rw [key];exact⟨g,e,f⟩
end
section
open Go.RowKit Sp
theorem zro{w:World}(a1 a2:Option Addr)(c1 c2:Nat)(xs ys:List Int)(h1:BhM w a1 c1 xs)(h2:BhM w a2 c2 ys):Calls Tryz.prog 176 #[.slice a1 xs.length c1,.slice a2 ys.length c2] w fun e w'=>e=.returned (.bool (decide (xs=ys)))∧Below w.heap.size w w':=by
 have l1:=h1.len;have l2:=h2.len;by_cases g:xs.length=ys.length
 ·have s:((xs.length:Int) != (ys.length:Int))=false:=by rw [g];simp
  have c:Hid (xs.length=ys.length):=g;clear g;go_enter Tryz.func176,Tryz.ntmps176;go_wp2
  go_loopw [13] (fun ti wr=>∃ j:Nat,j≤xs.length∧ti=.int .i64 (j:Int)∧AgreeTo xs ys j∧Below w.heap.size w wr) (fun ti _=>xs.length-(intOf ti).toNat)
  case atStart=>exact⟨0,by omega,rfl,fun i hi=>absurd hi (by omega),Below.refl _ _⟩
  case round =>
   obtain⟨j,hj,rfl,o,d⟩:=hrel;have hj0:(0:Int)≤(j:Int):=by omega
   by_cases h:j<xs.length
   ·have hx1:(j:Int)<(xs.length:Int):=by omega
    have p:j<ys.length:=by have:=c.out;omega
    have hy1:(j:Int)<(ys.length:Int):=by omega
    obtain⟨m,rfl⟩:=h1.addr (by omega);obtain⟨n,rfl⟩:=h2.addr (by have:=c.out;omega);have k:∀ W,Below w.heap.size w W→W.cell? ⟨m,j,none⟩=some (.int .i64 xs[j])∧W.cell? ⟨n,j,none⟩=some (.int .i64 ys[j]):=fun W a=>⟨((h1.below a).cell m rfl).2 j xs[j] (List.getElem?_eq_getElem h),((h2.below a).cell n rfl).2 j ys[j] (List.getElem?_eq_getElem p)⟩
    by_cases b:xs[j]=ys[j]
    ·have f:(xs[j] != ys[j])=false:=by simpa using b
     go_wp2;refine zad 8 (fun W=>Below w.heap.size w W) d.drew (by kernel_rfl) (by kernel_rfl) ?_;simp only [List.take_succ_cons,List.take_zero,List.drop_succ_cons,List.drop_zero];repeat(refine zab rfl ?_ (fun W a=>?_) ?_;rotate_left 1;· (obtain⟨q,r⟩:=k W a;go_simp;with_reducible rfl))
     refine wpQuiet_nil ?_;intro W a;go_wp2;go_roundw
     case rel=>exact⟨j+1,by omega,by go_num,o.succ (by rw [List.getElem?_eq_getElem h,List.getElem?_eq_getElem p,b]),a⟩
     case measure=>simp [intOf];omega
    ·have f:(xs[j] != ys[j])=true:=by simpa using b
     have l:decide (xs=ys)=false:=by
      rw [decide_eq_false_iff_not];intro e;subst e;exact b rfl
     go_wp2;refine zad 8 (fun W=>Below w.heap.size w W) d.drew (by kernel_rfl) (by kernel_rfl) ?_;simp only [List.take_succ_cons,List.take_zero,List.drop_succ_cons,List.drop_zero];repeat(refine zab rfl ?_ (fun W a=>?_) ?_;rotate_left 1;· (obtain⟨q,r⟩:=k W a;go_simp;with_reducible rfl))
     refine wpQuiet_nil ?_;intro W a;go_wp2;go_ret;exact⟨by rw [l];rfl,a⟩
   ·have hx2:decide ((j:Int)<(xs.length:Int))=false:=by simpa using h
    have l:decide (xs=ys)=true:=by rw [decide_eq_true_iff];have:=c.out;exact o.all (by omega) (by omega)
    go_wp2;go_ret;exact⟨by rw [l];rfl,d⟩
 ·have s:((xs.length:Int) != (ys.length:Int))=true:=by
   have:¬(xs.length:Int)=(ys.length:Int):=by omega
   simpa using this
  have l:decide (xs=ys)=false:=by rw [decide_eq_false_iff_not];exact fun e=>g (by rw [e])
  rw [l];go_enter Tryz.func176,Tryz.ntmps176;go_wp2;go_ret;exact⟨rfl,Below.refl _ _⟩
def covB(f g:Nat→Rg):Nat→Bool
 | 0=>true
 | n+1=>covB f g n&&(g n).within (f n)
theorem zrp{f g:Nat→Rg}{n j:Nat}(hj:j<n)(h:(g j).within (f j)=false):covB f g n=false:=by
 induction n with
 | zero=>omega
 | succ n ih =>
  unfold covB;by_cases e:j=n
  ·subst e;rw [h,Bool.and_false]
  ·rw [ih (by omega),Bool.false_and]
theorem zm0{w:World}(g1 o1 c1 g2 o2 c2 n:Nat)(f g:Nat→Rg)(hn:n≤16)(h1:∀ r,r<n→w.cell? ⟨g1,o1+r*2,none⟩=some (.int .i64 (f r).lo)∧w.cell? ⟨g1,o1+r*2+1,none⟩=some (.int .i64 (f r).hi))(h2:∀ r,r<n→w.cell? ⟨g2,o2+r*2,none⟩=some (.int .i64 (g r).lo)∧w.cell? ⟨g2,o2+r*2+1,none⟩=some (.int .i64 (g r).hi))(l1:g1<w.heap.size)(l2:g2<w.heap.size):
  Calls Tryz.prog 177 #[.slice (some ⟨g1,o1,none⟩) n c1,.slice (some ⟨g2,o2,none⟩) n c2] w fun e w'=>e=.returned (.bool (covB f g n))∧Below w.heap.size w w':=by
 go_enter Tryz.func177,Tryz.ntmps177;go_wp2
 go_loopw [9] (fun ti wr=>∃ j:Nat,j≤n∧ti=.int .i64 (j:Int)∧covB f g j=true∧Below w.heap.size w wr) (fun ti _=>n-(intOf ti).toNat)
 case atStart=>exact⟨0,by omega,rfl,rfl,Below.refl _ _⟩
 case round =>
  obtain⟨j,hj,rfl,hA,l⟩:=hrel;have hj0:(0:Int)≤(j:Int):=by omega
  by_cases h:j<n
  ·have hx1:(j:Int)<(n:Int):=by omega
   have m:∀ q i W,q<w.heap.size→Below w.heap.size w W→W.cell? ⟨q,i,none⟩=w.cell? ⟨q,i,none⟩:=fun q i W hq b=>World.cell?_of_block (a:=⟨q,i,none⟩) (b.block q hq);obtain⟨t,u⟩:=h2 j h;rw [←m g2 _ wr l2 l] at t u;obtain⟨A,d⟩:∃ A,wr.alloc (.cells #[.int .i64 (g j).lo,.int .i64 (g j).hi] 213)=A:=⟨_,rfl⟩
   have k:∀ W,Below A.heap.size A W→Below w.heap.size w W:=fun W b=>by subst d;exact l.trans ((box1.trans (b.mono (by simp))).mono l.size)
   have s:∀ W,Below A.heap.size A W→(W.cell? ⟨wr.heap.size,0,none⟩=some (.int .i64 (g j).lo)∧W.cell? ⟨wr.heap.size,1,none⟩=some (.int .i64 (g j).hi))∧(W.cell? ⟨g1,o1+j*2,none⟩=some (.int .i64 (f j).lo)∧W.cell? ⟨g1,o1+j*2+1,none⟩=some (.int .i64 (f j).hi)):=fun W b =>
    ⟨by subst d;exact⟨za0 b 0,za0 b 1⟩,(m _ _ W l1 (k W b)).trans (h1 j h).1,(m _ _ W l1 (k W b)).trans (h1 j h).2⟩
   by_cases o:(g j).within (f j)=true
   ·go_wp2;refine zad 6 (fun W=>Below A.heap.size A W) (Below.refl _ _).drew (by kernel_rfl) (by kernel_rfl) ?_;simp only [List.take_succ_cons,List.take_zero,List.drop_succ_cons,List.drop_zero];repeat(refine zab rfl ?_ (fun W b=>?_) ?_;rotate_left 1;· (obtain⟨⟨v,x⟩,y,z⟩:=s W b;go_simp;with_reducible rfl))
    refine zaJ rfl 182 #[rv (g j),rv (f j)] (.bool ((g j).within (f j))) (fun W b=>?_) (fun W b=>(zkb _ _ W).mono (fun e w' hh=>⟨hh.1,b.trans (hh.2.mono b.size)⟩)) ?_
    ·go_simp
    refine wpQuiet_nil ?_;intro W b;have c:=k W b;go_wp2;go_roundw
    case rel=>exact⟨j+1,by omega,by go_num,by unfold covB;rw [hA,o];rfl,c⟩
    case measure=>simp [intOf];omega
   ·have p:(g j).within (f j)=false:=by simpa using o
    clear o;go_wp2;refine zad 6 (fun W=>Below A.heap.size A W) (Below.refl _ _).drew (by kernel_rfl) (by kernel_rfl) ?_;simp only [List.take_succ_cons,List.take_zero,List.drop_succ_cons,List.drop_zero];repeat(refine zab rfl ?_ (fun W b=>?_) ?_;rotate_left 1;· (obtain⟨⟨v,x⟩,y,z⟩:=s W b;go_simp;with_reducible rfl))
    refine zaJ rfl 182 #[rv (g j),rv (f j)] (.bool ((g j).within (f j))) (fun W b=>?_) (fun W b=>(zkb _ _ W).mono (fun e w' hh=>⟨hh.1,b.trans (hh.2.mono b.size)⟩)) ?_
    ·go_simp
    refine wpQuiet_nil ?_;intro W b;have c:=k W b;go_wp2;go_ret;exact⟨by rw [zrp h p];rfl,c⟩
  ·have hx2:decide ((j:Int)<(n:Int))=false:=by simpa using h
   obtain rfl:j=n:=by omega
   go_wp2;go_ret;exact⟨by rw [hA];rfl,l⟩
def zb9(k o:Kn):Bool:=decide (k.next=o.next)&&(decide (k.behind=o.behind)&&(covB k.regs o.regs 8&&covB k.cells o.cells 16))
theorem zoo{w:World}{b c oo b1 c1:Nat}{a1 a2:Option Addr}{k o:Kn}(h:KnM w b (.slice a1 k.behind.length b1) k)(h2:KnR w c oo (.slice a2 o.behind.length c1) o)(B1:BhM w a1 b1 k.behind)(B2:BhM w a2 c1 o.behind):Calls Tryz.prog 168 #[.pointer (some ⟨b,0,none⟩),.pointer (some ⟨c,oo,none⟩)] w fun e w'=>e=.returned (.bool (zb9 k o))∧Below w.heap.size w w':=by
 have y:c<w.heap.size:=World.block_lt_of_cell? w _ h2.cN;have x:∀ W,Below w.heap.size w W→KnM W b (.slice a1 k.behind.length b1) k∧KnR W c oo (.slice a2 o.behind.length c1) o:=fun W a=>⟨h.below a h.lt,h2.block (a.block c y)⟩
 have d:∀ W,Below w.heap.size w W→W.cell? ⟨b,48,none⟩=some (.int .i64 k.next)∧W.cell? ⟨c,oo+48,none⟩=some (.int .i64 o.next)∧W.cell? ⟨b,49,none⟩=some (.slice a1 k.behind.length b1)∧W.cell? ⟨c,oo+49,none⟩=some (.slice a2 o.behind.length c1):=fun W a=>by
  obtain⟨m,p⟩:=x W a;exact⟨m.cN,p.cN,m.cB,p.cB⟩
 have v:∀ W,Below w.heap.size w W→Calls Tryz.prog 176 #[.slice a1 k.behind.length b1,.slice a2 o.behind.length c1] W fun e w'=>e=.returned (.bool (decide (k.behind=o.behind)))∧Below w.heap.size w w':=fun W a=>(zro a1 a2 b1 c1 _ _ (B1.below a) (B2.below a)).mono fun e w' hh=>⟨hh.1,a.trans (hh.2.mono a.size)⟩
 have t:∀ W,Below w.heap.size w W→Calls Tryz.prog 177 #[.slice (some ⟨b,0,none⟩) 8 8,.slice (some ⟨c,oo,none⟩) 8 8] W fun e w'=>e=.returned (.bool (covB k.regs o.regs 8))∧Below w.heap.size w w':=fun W a=>by
  obtain⟨m,p⟩:=x W a;exact(zm0 b 0 8 c oo 8 8 k.regs o.regs (by omega) (fun r hr=>by rw [Nat.zero_add];exact m.cR r hr) (fun r hr=>p.cR r hr) m.lt (Nat.lt_of_lt_of_le y a.size)).mono fun e w' hh=>⟨hh.1,a.trans (hh.2.mono a.size)⟩
 have u:∀ W,Below w.heap.size w W→Calls Tryz.prog 177 #[.slice (some ⟨b,16,none⟩) 16 16,.slice (some ⟨c,oo+16,none⟩) 16 16] W fun e w'=>e=.returned (.bool (covB k.cells o.cells 16))∧Below w.heap.size w w':=fun W a=>by
  obtain⟨m,p⟩:=x W a;exact(zm0 b 16 16 c (oo+16) 16 16 k.cells o.cells (by omega) (fun r hr=>m.cC r hr) (fun r hr=>by have:=p.cC r hr;rw [show oo+(16+r*2)=oo+16+r*2 by omega,show oo+(16+r*2+1)=oo+16+r*2+1 by omega] at this;exact this) m.lt (Nat.lt_of_lt_of_le y a.size)).mono fun e w' hh=>⟨hh.1,a.trans (hh.2.mono a.size)⟩
 by_cases l:k.next=o.next
 ·have z:(k.next == o.next)=true:=by simpa using l
  by_cases q:k.behind=o.behind
  ·have s:decide (k.behind=o.behind)=true:=by simpa using q
   rw [s] at v;cases e3:covB k.regs o.regs 8 with
   | false =>
    rw [e3] at t;have n:zb9 k o=false:=by unfold zb9;rw [e3];simp
    rw [n];clear u q s e3 l n;go_enter Tryz.func168,Tryz.ntmps168;go_wp2;refine zad 42 (fun W=>Below w.heap.size w W) (Below.refl _ _).drew (by kernel_rfl) (by kernel_rfl) ?_;simp only [List.take_succ_cons,List.take_zero,List.drop_succ_cons,List.drop_zero];iterate 10 (refine zab rfl ?_ (fun W a=>?_) ?_;rotate_left 1;· (obtain⟨f,g,i,j⟩:=d W a;go_simp;with_reducible rfl))
    simp only [Act.put,List.setIfInBounds_toArray,List.set_cons_zero,List.set_cons_succ];iterate 8 (go_big_quiet_want;rename_i K hK;refine⟨?_,fun W a=>?_,hK _ ?_⟩;rotate_left 1;(· (obtain⟨f,g,i,j⟩:=d W a;unfold Oper.quietAt;go_simp;with_reducible rfl));clear hK K;simp only [Act.put,List.setIfInBounds_toArray,List.set_cons_zero,List.set_cons_succ])
    go_big_quiet_want;rename_i K hK;refine⟨.bool true,fun W a=>?_,hK _ ?_⟩
    ·unfold Oper.quietAt;go_simp
    clear hK K;simp only [Act.put,List.setIfInBounds_toArray,List.set_cons_zero,List.set_cons_succ];iterate 2 (refine zab rfl ?_ (fun W a=>?_) ?_;rotate_left 1;· (obtain⟨f,g,i,j⟩:=d W a;go_simp;with_reducible rfl))
    simp only [Act.put,List.setIfInBounds_toArray,List.set_cons_zero,List.set_cons_succ];iterate 8 (go_big_quiet_want;rename_i K hK;refine⟨?_,fun W a=>?_,hK _ ?_⟩;rotate_left 1;(· (obtain⟨f,g,i,j⟩:=d W a;unfold Oper.quietAt;go_simp;with_reducible rfl));clear hK K;simp only [Act.put,List.setIfInBounds_toArray,List.set_cons_zero,List.set_cons_succ])
    go_big_quiet_want;rename_i K hK;refine⟨.bool false,fun W a=>?_,hK _ ?_⟩
    ·unfold Oper.quietAt;go_simp
    clear hK K;simp only [Act.put,List.setIfInBounds_toArray,List.set_cons_zero,List.set_cons_succ];iterate 2 (refine zab rfl ?_ (fun W a=>?_) ?_;rotate_left 1;· (obtain⟨f,g,i,j⟩:=d W a;go_simp;with_reducible rfl))
    simp only [Act.put,List.setIfInBounds_toArray,List.set_cons_zero,List.set_cons_succ];iterate 9 go_big_quiet_skip
    iterate 1 (refine zab rfl ?_ (fun W a=>?_) ?_;rotate_left 1;· (obtain⟨f,g,i,j⟩:=d W a;go_simp;with_reducible rfl))
    simp only [Act.put,List.setIfInBounds_toArray,List.set_cons_zero,List.set_cons_succ];refine wpQuiet_nil ?_;intro W a;go_wp2;go_ret;exact⟨rfl,a⟩
   | true =>
    rw [e3] at t;have n:zb9 k o=covB k.cells o.cells 16:=by unfold zb9;rw [e3,s,show decide (k.next=o.next)=true by simpa using l];simp
    rw [n];clear q s e3 l n;go_enter Tryz.func168,Tryz.ntmps168;go_wp2;refine zad 42 (fun W=>Below w.heap.size w W) (Below.refl _ _).drew (by kernel_rfl) (by kernel_rfl) ?_;simp only [List.take_succ_cons,List.take_zero,List.drop_succ_cons,List.drop_zero];iterate 10 (refine zab rfl ?_ (fun W a=>?_) ?_;rotate_left 1;· (obtain⟨f,g,i,j⟩:=d W a;go_simp;with_reducible rfl))
    simp only [Act.put,List.setIfInBounds_toArray,List.set_cons_zero,List.set_cons_succ];iterate 8 (go_big_quiet_want;rename_i K hK;refine⟨?_,fun W a=>?_,hK _ ?_⟩;rotate_left 1;(· (obtain⟨f,g,i,j⟩:=d W a;unfold Oper.quietAt;go_simp;with_reducible rfl));clear hK K;simp only [Act.put,List.setIfInBounds_toArray,List.set_cons_zero,List.set_cons_succ])
    go_big_quiet_want;rename_i K hK;refine⟨.bool true,fun W a=>?_,hK _ ?_⟩
    ·unfold Oper.quietAt;go_simp
    clear hK K;simp only [Act.put,List.setIfInBounds_toArray,List.set_cons_zero,List.set_cons_succ];iterate 2 (refine zab rfl ?_ (fun W a=>?_) ?_;rotate_left 1;· (obtain⟨f,g,i,j⟩:=d W a;go_simp;with_reducible rfl))
    simp only [Act.put,List.setIfInBounds_toArray,List.set_cons_zero,List.set_cons_succ];iterate 8 (go_big_quiet_want;rename_i K hK;refine⟨?_,fun W a=>?_,hK _ ?_⟩;rotate_left 1;(· (obtain⟨f,g,i,j⟩:=d W a;unfold Oper.quietAt;go_simp;with_reducible rfl));clear hK K;simp only [Act.put,List.setIfInBounds_toArray,List.set_cons_zero,List.set_cons_succ])
    go_big_quiet_want;rename_i K hK;refine⟨.bool true,fun W a=>?_,hK _ ?_⟩
    ·unfold Oper.quietAt;go_simp
    clear hK K;simp only [Act.put,List.setIfInBounds_toArray,List.set_cons_zero,List.set_cons_succ];iterate 2 (refine zab rfl ?_ (fun W a=>?_) ?_;rotate_left 1;· (obtain⟨f,g,i,j⟩:=d W a;go_simp;with_reducible rfl))
    simp only [Act.put,List.setIfInBounds_toArray,List.set_cons_zero,List.set_cons_succ];iterate 8 (go_big_quiet_want;rename_i K hK;refine⟨?_,fun W a=>?_,hK _ ?_⟩;rotate_left 1;(· (obtain⟨f,g,i,j⟩:=d W a;unfold Oper.quietAt;go_simp;with_reducible rfl));clear hK K;simp only [Act.put,List.setIfInBounds_toArray,List.set_cons_zero,List.set_cons_succ])
    go_big_quiet_want;rename_i K hK;refine⟨.bool (covB k.cells o.cells 16),fun W a=>?_,hK _ ?_⟩
    ·unfold Oper.quietAt;go_simp
    clear hK K;simp only [Act.put,List.setIfInBounds_toArray,List.set_cons_zero,List.set_cons_succ];iterate 1 (refine zab rfl ?_ (fun W a=>?_) ?_;rotate_left 1;· (obtain⟨f,g,i,j⟩:=d W a;go_simp;with_reducible rfl))
    simp only [Act.put,List.setIfInBounds_toArray,List.set_cons_zero,List.set_cons_succ];refine wpQuiet_nil ?_;intro W a;go_wp2;go_ret;exact⟨rfl,a⟩
  ·have s:decide (k.behind=o.behind)=false:=by simpa using q
   rw [s] at v;have n:zb9 k o=false:=by unfold zb9;rw [s];simp
   rw [n];clear t u q s l n;go_enter Tryz.func168,Tryz.ntmps168;go_wp2;refine zad 42 (fun W=>Below w.heap.size w W) (Below.refl _ _).drew (by kernel_rfl) (by kernel_rfl) ?_;simp only [List.take_succ_cons,List.take_zero,List.drop_succ_cons,List.drop_zero];iterate 10 (refine zab rfl ?_ (fun W a=>?_) ?_;rotate_left 1;· (obtain⟨f,g,i,j⟩:=d W a;go_simp;with_reducible rfl))
   simp only [Act.put,List.setIfInBounds_toArray,List.set_cons_zero,List.set_cons_succ];iterate 8 (go_big_quiet_want;rename_i K hK;refine⟨?_,fun W a=>?_,hK _ ?_⟩;rotate_left 1;(· (obtain⟨f,g,i,j⟩:=d W a;unfold Oper.quietAt;go_simp;with_reducible rfl));clear hK K;simp only [Act.put,List.setIfInBounds_toArray,List.set_cons_zero,List.set_cons_succ])
   go_big_quiet_want;rename_i K hK;refine⟨.bool false,fun W a=>?_,hK _ ?_⟩
   ·unfold Oper.quietAt;go_simp
   clear hK K;simp only [Act.put,List.setIfInBounds_toArray,List.set_cons_zero,List.set_cons_succ];iterate 2 (refine zab rfl ?_ (fun W a=>?_) ?_;rotate_left 1;· (obtain⟨f,g,i,j⟩:=d W a;go_simp;with_reducible rfl))
   simp only [Act.put,List.setIfInBounds_toArray,List.set_cons_zero,List.set_cons_succ];iterate 9 go_big_quiet_skip
   iterate 2 (refine zab rfl ?_ (fun W a=>?_) ?_;rotate_left 1;· (obtain⟨f,g,i,j⟩:=d W a;go_simp;with_reducible rfl))
   simp only [Act.put,List.setIfInBounds_toArray,List.set_cons_zero,List.set_cons_succ];iterate 9 go_big_quiet_skip
   iterate 1 (refine zab rfl ?_ (fun W a=>?_) ?_;rotate_left 1;· (obtain⟨f,g,i,j⟩:=d W a;go_simp;with_reducible rfl))
   simp only [Act.put,List.setIfInBounds_toArray,List.set_cons_zero,List.set_cons_succ];refine wpQuiet_nil ?_;intro W a;go_wp2;go_ret;exact⟨rfl,a⟩
 ·have z:(k.next == o.next)=false:=by simpa using l
  have n:zb9 k o=false:=by unfold zb9;rw [show decide (k.next=o.next)=false by simpa using l];simp
  rw [n];clear t u v n l;go_enter Tryz.func168,Tryz.ntmps168;go_wp2;refine zad 42 (fun W=>Below w.heap.size w W) (Below.refl _ _).drew (by kernel_rfl) (by kernel_rfl) ?_;simp only [List.take_succ_cons,List.take_zero,List.drop_succ_cons,List.drop_zero];iterate 10 (refine zab rfl ?_ (fun W a=>?_) ?_;rotate_left 1;· (obtain⟨f,g,i,j⟩:=d W a;go_simp;with_reducible rfl))
  simp only [Act.put,List.setIfInBounds_toArray,List.set_cons_zero,List.set_cons_succ];iterate 9 go_big_quiet_skip
  iterate 2 (refine zab rfl ?_ (fun W a=>?_) ?_;rotate_left 1;· (obtain⟨f,g,i,j⟩:=d W a;go_simp;with_reducible rfl))
  simp only [Act.put,List.setIfInBounds_toArray,List.set_cons_zero,List.set_cons_succ];iterate 9 go_big_quiet_skip
  iterate 2 (refine zab rfl ?_ (fun W a=>?_) ?_;rotate_left 1;· (obtain⟨f,g,i,j⟩:=d W a;go_simp;with_reducible rfl))
  simp only [Act.put,List.setIfInBounds_toArray,List.set_cons_zero,List.set_cons_succ];iterate 9 go_big_quiet_skip
  iterate 1 (refine zab rfl ?_ (fun W a=>?_) ?_;rotate_left 1;· (obtain⟨f,g,i,j⟩:=d W a;go_simp;with_reducible rfl))
  simp only [Act.put,List.setIfInBounds_toArray,List.set_cons_zero,List.set_cons_succ];refine wpQuiet_nil ?_;intro W a;go_wp2;go_ret;exact⟨rfl,a⟩
end
end Go.Proofs.YtfpgjkbjbbgciaaGreatDoor
