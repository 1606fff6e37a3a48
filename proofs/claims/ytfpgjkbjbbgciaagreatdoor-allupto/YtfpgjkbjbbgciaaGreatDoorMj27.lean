import Derived.Test.YtfpgjkbjbbgciaaGreatDoorMj23
import Derived.Test.YtfpgjkbjbbgciaaGreatDoorMj26
set_option maxRecDepth 100000
set_option maxHeartbeats 8000000
namespace Go.Proofs.YtfpgjkbjbbgciaaGreatDoor
open Go.RowKit Sp
theorem zjG(i:Ins)(next:Int)(m:Mc)(h:m.fin=0):
  (((exec i next m).fin=0∧(exec i next m).steps=m.steps+1)∨(((exec i next m).fin=1∨(exec i next m).fin=2)∧(exec i next m).at'=-1∧(exec i next m).steps=m.steps+1)∨(((exec i next m).fin=3∨(exec i next m).fin=4)∧(exec i next m).at'=m.at'∧(exec i next m).steps=m.steps))∧(exec i next m).inp.length≤m.inp.length:=by
 cases i with
 | load r s =>
  simp only [exec];split
  ·exact⟨.inr (.inr ⟨.inl rfl,rfl,rfl⟩),Nat.le_refl _⟩
  ·exact⟨.inl ⟨h,rfl⟩,Nat.le_refl _⟩
 | store r s =>
  simp only [exec];split
  ·exact⟨.inr (.inr ⟨.inl rfl,rfl,rfl⟩),Nat.le_refl _⟩
  ·exact⟨.inl ⟨h,rfl⟩,Nat.le_refl _⟩
 | call to =>
  simp only [exec];split
  ·exact⟨.inr (.inr ⟨.inr rfl,rfl,rfl⟩),Nat.le_refl _⟩
  ·exact⟨.inl ⟨h,rfl⟩,Nat.le_refl _⟩
 | back =>
  simp only [exec];split
  ·exact⟨.inr (.inl ⟨.inr rfl,rfl,rfl⟩),Nat.le_refl _⟩
  ·exact⟨.inl ⟨h,rfl⟩,Nat.le_refl _⟩
 | stop=>exact⟨.inr (.inl ⟨.inl rfl,rfl,rfl⟩),Nat.le_refl _⟩
 | read r =>
  refine⟨.inl ⟨h,rfl⟩,?_⟩;show m.inp.tail.length≤_;simp
 | set r k=>exact⟨.inl ⟨h,rfl⟩,Nat.le_refl _⟩
 | mov r s=>exact⟨.inl ⟨h,rfl⟩,Nat.le_refl _⟩
 | alu o r s t=>exact⟨.inl ⟨h,rfl⟩,Nat.le_refl _⟩
 | inc r k=>exact⟨.inl ⟨h,rfl⟩,Nat.le_refl _⟩
 | write r=>exact⟨.inl ⟨h,rfl⟩,Nat.le_refl _⟩
 | jump to=>exact⟨.inl ⟨h,rfl⟩,Nat.le_refl _⟩
 | less r s to=>exact⟨.inl ⟨h,rfl⟩,Nat.le_refl _⟩
 | same r s to=>exact⟨.inl ⟨h,rfl⟩,Nat.le_refl _⟩
def AtOk(L:List Said)(m:Mc):Prop:=((m.fin=1∨m.fin=2)∧m.at'=-1)∨((m.fin=0∨m.fin=3∨m.fin=4)∧zdi L m.at')
theorem zvZ{L:List Said}{m:Mc}(h:zdi L m.at'):∃ i next,zbz L m=exec i next m:=by
 obtain⟨k,hk,a,_⟩:=h;refine⟨insQ L k L[k],zad L (k+1),?_⟩;unfold zbz;rw [hk,Int.toNat_natCast,List.getElem?_eq_getElem a]
theorem zyn{L:List Said}{m:Mc}(I:InvR L m)(h:m.fin=0)(hI:(zbz L m).fin=0→InvR L (zbz L m)):
  AtOk L (zbz L m)∧(((zbz L m).fin=3∨(zbz L m).fin=4)∧(zbz L m).steps=m.steps∨((zbz L m).fin=0∨(zbz L m).fin=1∨(zbz L m).fin=2)∧(zbz L m).steps=m.steps+1)∧(zbz L m).inp.length≤m.inp.length:=by
 obtain⟨i,c,e⟩:=zvZ I.at_;have F:=zjG i c m h;rw [←e] at F;obtain⟨F,d⟩:=F;refine⟨?_,?_,d⟩
 ·rcases F with ⟨a,_⟩|⟨a,b,_⟩|⟨a,b,_⟩
  ·exact .inr ⟨.inl a,(hI a).at_⟩
  ·exact .inl ⟨a,b⟩
  ·exact .inr ⟨.inr a,by rw [b];exact I.at_⟩
 ·rcases F with ⟨a,b⟩|⟨a,_,b⟩|⟨a,_,b⟩
  ·exact .inr ⟨.inl a,b⟩
  ·exact .inr ⟨.inr a,b⟩
  ·exact .inl ⟨a,b⟩
theorem zqE(w:World)(b:Nat)(lv bv iv ov:Value)(m:Mc)(h:RefM w b lv bv iv ov m)(hz:(m.fin != 0)=true):
  qC 55 #[.pointer (some ⟨b,0,none⟩)] w fun e w'=>e=.returned (.bool false)∧w'=w:=by
 have cE:=h.cE;generalize m.fin=z at cE hz;go_enter Tryz.func55,Tryz.ntmps55;go_wp2;go_ret;exact⟨rfl,rfl⟩
theorem ztp{L:List Said}(G:Good L)(inp:List Int):InvR L (zc3 L inp):=by
 obtain⟨p,a,b,c⟩:=G.head;have e:zcD L 0=p:=zgF L 0 p a b (by omega) (fun j h _ hb=>c j h hb);refine⟨?_,by simp [zc3],rfl,by simp [zc3],⟨1,rfl,by omega⟩,Int.le_refl _,Int.le_refl _⟩;show zdi L (zad L (zcD L 0+1));rw [e];exact G.fn p a b
def rgs(f:Nat→Rg):Nat→List Value
 | 0=>[]
 | n+1=>rgs f n++[.int .i64 (f n).lo,.int .i64 (f n).hi]
theorem zdT(f:Nat→Rg)(n:Nat):(rgs f n).length=n*2:=by
 induction n with
 | zero=>rfl
 | succ n ih=>simp [rgs,ih];omega
theorem zmt(f:Nat→Rg)(n r:Nat)(h:r<n):(rgs f n)[r*2]?=some (.int .i64 (f r).lo)∧(rgs f n)[r*2+1]?=some (.int .i64 (f r).hi):=by
 induction n with
 | zero=>omega
 | succ n ih =>
  have a:=zdT f n;unfold rgs;by_cases e:r=n
  ·subst e;rw [List.getElem?_append_right (by omega),List.getElem?_append_right (by omega),a,show r*2-r*2=0 by omega,show r*2+1-r*2=1 by omega];exact⟨rfl,rfl⟩
  ·rw [List.getElem?_append_left (by omega),List.getElem?_append_left (by omega)];exact ih (by omega)
theorem zue(f:Nat→Rg)(n:Nat):∀ v∈rgs f n,v.oneCell'=true:=by
 induction n with
 | zero=>intro v a;cases a
 | succ n ih =>
  intro v a;rcases List.mem_append.1 a with h|h
  ·exact ih v h
  ·rcases List.mem_cons.1 h with rfl|h
   ·rfl
   ·rw [List.mem_singleton.1 h];rfl
theorem zy6(f:Nat→Rg)(n r:Nat)(h:r<n):(rgs f n).toArray.extract (r*2) (r*2+2)=#[.int .i64 (f r).lo,.int .i64 (f r).hi]:=by
 obtain⟨c,b⟩:=zmt f n r h;have hl:=zdT f n;apply Array.ext
 ·simp [hl];omega
 ·intro i h2 a;have h4:i<2:=by simpa using a
  rw [Array.getElem_extract];rcases(by omega:i=0∨i=1) with rfl|rfl
  ·have:=(List.getElem?_eq_some_iff.1 c).2;simpa using this
  ·have:=(List.getElem?_eq_some_iff.1 b).2;simpa using this
theorem zuf{t n:Nat}(hu:Tryz.prog.underlying t=some (.array n 213))(A:Array Value)(r:Nat)(h:r<n)(x y:Value)(hc:A.extract (r*2) (r*2+2)=#[x,y])(W:World):(Instr.index t (.agg A) (.int .i64 (r:Int))).run Tryz.prog W=.ok (.agg #[x,y]) W:=by
 have b:(sizeOf 213).run Tryz.prog W=.ok 2 W:=by kernel_rfl
 have c:(isAgg 213).run Tryz.prog W=.ok true W:=by kernel_rfl
 have a:(0:Int)≤(r:Int)∧(r:Int)<(n:Int):=by omega
 simp only [Instr.index,run_underlying hu,asIntOf,Sem.run_bind,Sem.run_pure,Result.andThen_ok,if_pos a,b,Int.toNat_natCast,part,c,if_true,hc]
theorem zpx{t n:Nat}(hu:Tryz.prog.underlying t=some (.array n 213))(f:Nat→Rg)(r:Nat)(h:r<n)(W:World):(Instr.index t (.agg (rgs f n).toArray) (.int .i64 (r:Int))).run Tryz.prog W=.ok (rv (f r)) W :=
 zuf hu _ r h _ _ (zy6 f n r h) W
theorem zmu{w:World}{b o n:Nat}{f:Nat→Rg}(h:∀ r,r<n→w.cell? ⟨b,o+r*2,none⟩=some (.int .i64 (f r).lo)∧w.cell? ⟨b,o+r*2+1,none⟩=some (.int .i64 (f r).hi)):w.rangeAt b o (rgs f n):=by
 intro j v a;have i:=(List.getElem?_eq_some_iff.1 a).1;rw [zdT] at i;obtain⟨d,c⟩:=zmt f n (j/2) (by omega);obtain⟨k,g⟩:=h (j/2) (by omega);rcases Nat.mod_two_eq_zero_or_one j with e|e
 ·rw [show j/2*2=j by omega] at d k;rw [k,←d,a]
 ·rw [show j/2*2+1=j by omega] at c;rw [show o+j/2*2+1=o+j by omega] at g;rw [g,←c,a]
theorem KnM.rowR{w:World}{b:Nat}{bv:Value}{k:Kn}(h:KnM w b bv k):w.rangeAt b 0 (rgs k.regs 8) :=
 zmu fun r hr=>⟨by rw [Nat.zero_add];exact(h.cR r hr).1,by rw [Nat.zero_add];exact(h.cR r hr).2⟩
theorem KnM.rowC{w:World}{b:Nat}{bv:Value}{k:Kn}(h:KnM w b bv k):w.rangeAt b 16 (rgs k.cells 16) :=
 zmu fun r hr=>⟨(h.cC r hr).1,(h.cC r hr).2⟩
theorem zwm(w:World)(ao bo:Option Addr)(n1 c1 n2 c2 pm:Nat)(sort line a b c n k:Int)(nm:ByteArray):
  qC 81 #[.agg #[.slice ao n1 c1,.map (some pm),.slice bo n2 c2],stm sort line ⟨#[115,101,116]⟩ a b c n nm,.int .i64 k] w (qR w (.iface 167 (.agg #[.int .i64 a,.int .i64 n]))):=by
 have hrb:∀ W,(Instr.build 167 #[(0,.int .i64 a),(1,.int .i64 n)]).run Tryz.prog W=.ok (.agg #[.int .i64 a,.int .i64 n]) W:=fun W=>run_build W 167 _ _ (by kernel_rfl);go_enter Tryz.func81,Tryz.ntmps81;go_wp2;go_ret;exact⟨rfl,(((Below.refl _ _).alloc (Nat.le_refl _) _).alloc (by simp) _).alloc (by simp;omega) _⟩
theorem zwn(w:World)(ao bo:Option Addr)(n1 c1 n2 c2 pm:Nat)(sort line a b c n k:Int)(nm:ByteArray):
  qC 81 #[.agg #[.slice ao n1 c1,.map (some pm),.slice bo n2 c2],stm sort line ⟨#[109,111,118]⟩ a b c n nm,.int .i64 k] w (qR w (.iface 169 (.agg #[.int .i64 a,.int .i64 b]))):=by
 have hrb:∀ W,(Instr.build 169 #[(0,.int .i64 a),(1,.int .i64 b)]).run Tryz.prog W=.ok (.agg #[.int .i64 a,.int .i64 b]) W:=fun W=>run_build W 169 _ _ (by kernel_rfl);go_enter Tryz.func81,Tryz.ntmps81;go_wp2;go_ret;exact⟨rfl,(((Below.refl _ _).alloc (Nat.le_refl _) _).alloc (by simp) _).alloc (by simp;omega) _⟩
theorem zwo(w:World)(ao bo:Option Addr)(n1 c1 n2 c2 pm:Nat)(sort line a b c n k:Int)(nm:ByteArray):
  qC 81 #[.agg #[.slice ao n1 c1,.map (some pm),.slice bo n2 c2],stm sort line ⟨#[97,100,100]⟩ a b c n nm,.int .i64 k] w (qR w (.iface 171 (.agg #[.int .i64 a,.int .i64 b,.int .i64 c]))):=by
 have hrb:∀ W,(Instr.build 171 #[(0,.int .i64 a),(1,.int .i64 b),(2,.int .i64 c)]).run Tryz.prog W=.ok (.agg #[.int .i64 a,.int .i64 b,.int .i64 c]) W:=fun W=>run_build W 171 _ _ (by kernel_rfl);go_enter Tryz.func81,Tryz.ntmps81;go_wp2;go_ret;exact⟨rfl,(((Below.refl _ _).alloc (Nat.le_refl _) _).alloc (by simp) _).alloc (by simp;omega) _⟩
theorem zwp(w:World)(ao bo:Option Addr)(n1 c1 n2 c2 pm:Nat)(sort line a b c n k:Int)(nm:ByteArray):
  qC 81 #[.agg #[.slice ao n1 c1,.map (some pm),.slice bo n2 c2],stm sort line ⟨#[115,117,98]⟩ a b c n nm,.int .i64 k] w (qR w (.iface 172 (.agg #[.int .i64 a,.int .i64 b,.int .i64 c]))):=by
 have hrb:∀ W,(Instr.build 172 #[(0,.int .i64 a),(1,.int .i64 b),(2,.int .i64 c)]).run Tryz.prog W=.ok (.agg #[.int .i64 a,.int .i64 b,.int .i64 c]) W:=fun W=>run_build W 172 _ _ (by kernel_rfl);go_enter Tryz.func81,Tryz.ntmps81;go_wp2;go_ret;exact⟨rfl,(((Below.refl _ _).alloc (Nat.le_refl _) _).alloc (by simp) _).alloc (by simp;omega) _⟩
theorem zwq(w:World)(ao bo:Option Addr)(n1 c1 n2 c2 pm:Nat)(sort line a b c n k:Int)(nm:ByteArray):
  qC 81 #[.agg #[.slice ao n1 c1,.map (some pm),.slice bo n2 c2],stm sort line ⟨#[109,117,108]⟩ a b c n nm,.int .i64 k] w (qR w (.iface 173 (.agg #[.int .i64 a,.int .i64 b,.int .i64 c]))):=by
 have hrb:∀ W,(Instr.build 173 #[(0,.int .i64 a),(1,.int .i64 b),(2,.int .i64 c)]).run Tryz.prog W=.ok (.agg #[.int .i64 a,.int .i64 b,.int .i64 c]) W:=fun W=>run_build W 173 _ _ (by kernel_rfl);go_enter Tryz.func81,Tryz.ntmps81;go_wp2;go_ret;exact⟨rfl,(((Below.refl _ _).alloc (Nat.le_refl _) _).alloc (by simp) _).alloc (by simp;omega) _⟩
theorem zwr(w:World)(ao bo:Option Addr)(n1 c1 n2 c2 pm:Nat)(sort line a b c n k:Int)(nm:ByteArray):
  qC 81 #[.agg #[.slice ao n1 c1,.map (some pm),.slice bo n2 c2],stm sort line ⟨#[105,110,99]⟩ a b c n nm,.int .i64 k] w (qR w (.iface 174 (.agg #[.int .i64 a,.int .i64 n]))):=by
 have hrb:∀ W,(Instr.build 174 #[(0,.int .i64 a),(1,.int .i64 n)]).run Tryz.prog W=.ok (.agg #[.int .i64 a,.int .i64 n]) W:=fun W=>run_build W 174 _ _ (by kernel_rfl);go_enter Tryz.func81,Tryz.ntmps81;go_wp2;go_ret;exact⟨rfl,(((Below.refl _ _).alloc (Nat.le_refl _) _).alloc (by simp) _).alloc (by simp;omega) _⟩
theorem zt8(w:World)(ao bo:Option Addr)(n1 c1 n2 c2 pm:Nat)(sort line a b c n k:Int)(nm:ByteArray):
  qC 81 #[.agg #[.slice ao n1 c1,.map (some pm),.slice bo n2 c2],stm sort line ⟨#[108,111,97,100]⟩ a b c n nm,.int .i64 k] w (qR w (.iface 176 (.agg #[.int .i64 a,.int .i64 b]))):=by
 have hrb:∀ W,(Instr.build 176 #[(0,.int .i64 a),(1,.int .i64 b)]).run Tryz.prog W=.ok (.agg #[.int .i64 a,.int .i64 b]) W:=fun W=>run_build W 176 _ _ (by kernel_rfl);go_enter Tryz.func81,Tryz.ntmps81;go_wp2;go_ret;exact⟨rfl,(((Below.refl _ _).alloc (Nat.le_refl _) _).alloc (by simp) _).alloc (by simp;omega) _⟩
theorem zqX(w:World)(ao bo:Option Addr)(n1 c1 n2 c2 pm:Nat)(sort line a b c n k:Int)(nm:ByteArray):
  qC 81 #[.agg #[.slice ao n1 c1,.map (some pm),.slice bo n2 c2],stm sort line ⟨#[115,116,111,114,101]⟩ a b c n nm,.int .i64 k] w (qR w (.iface 178 (.agg #[.int .i64 a,.int .i64 b]))):=by
 have hrb:∀ W,(Instr.build 178 #[(0,.int .i64 a),(1,.int .i64 b)]).run Tryz.prog W=.ok (.agg #[.int .i64 a,.int .i64 b]) W:=fun W=>run_build W 178 _ _ (by kernel_rfl);go_enter Tryz.func81,Tryz.ntmps81;go_wp2;go_ret;exact⟨rfl,(((Below.refl _ _).alloc (Nat.le_refl _) _).alloc (by simp) _).alloc (by simp;omega) _⟩
theorem zt9(w:World)(ao bo:Option Addr)(n1 c1 n2 c2 pm:Nat)(sort line a b c n k:Int)(nm:ByteArray):
  qC 81 #[.agg #[.slice ao n1 c1,.map (some pm),.slice bo n2 c2],stm sort line ⟨#[114,101,97,100]⟩ a b c n nm,.int .i64 k] w (qR w (.iface 180 (.agg #[.int .i64 a]))):=by
 have hrb:∀ W,(Instr.build 180 #[(0,.int .i64 a)]).run Tryz.prog W=.ok (.agg #[.int .i64 a]) W:=fun W=>run_build W 180 _ _ (by kernel_rfl);go_enter Tryz.func81,Tryz.ntmps81;go_wp2;go_ret;exact⟨rfl,(((Below.refl _ _).alloc (Nat.le_refl _) _).alloc (by simp) _).alloc (by simp;omega) _⟩
theorem zqY(w:World)(ao bo:Option Addr)(n1 c1 n2 c2 pm:Nat)(sort line a b c n k:Int)(nm:ByteArray):
  qC 81 #[.agg #[.slice ao n1 c1,.map (some pm),.slice bo n2 c2],stm sort line ⟨#[119,114,105,116,101]⟩ a b c n nm,.int .i64 k] w (qR w (.iface 182 (.agg #[.int .i64 a]))):=by
 have hrb:∀ W,(Instr.build 182 #[(0,.int .i64 a)]).run Tryz.prog W=.ok (.agg #[.int .i64 a]) W:=fun W=>run_build W 182 _ _ (by kernel_rfl);go_enter Tryz.func81,Tryz.ntmps81;go_wp2;go_ret;exact⟨rfl,(((Below.refl _ _).alloc (Nat.le_refl _) _).alloc (by simp) _).alloc (by simp;omega) _⟩
theorem ztA(w:World)(ao bo:Option Addr)(n1 c1 n2 c2 pm:Nat)(sort line a b c n k:Int)(nm:ByteArray):
  qC 81 #[.agg #[.slice ao n1 c1,.map (some pm),.slice bo n2 c2],stm sort line ⟨#[98,97,99,107]⟩ a b c n nm,.int .i64 k] w (qR w (.iface 192 (.agg #[]))):=by
 have hrb:∀ W,(Instr.build 192 #[]).run Tryz.prog W=.ok (.agg #[]) W:=fun W=>run_build W 192 _ _ (by kernel_rfl);go_enter Tryz.func81,Tryz.ntmps81;go_wp2;go_ret;exact⟨rfl,(((Below.refl _ _).alloc (Nat.le_refl _) _).alloc (by simp) _).alloc (by simp;omega) _⟩
theorem ztB(w:World)(ao bo:Option Addr)(n1 c1 n2 c2 pm:Nat)(sort line a b c n k:Int)(nm:ByteArray):
  qC 81 #[.agg #[.slice ao n1 c1,.map (some pm),.slice bo n2 c2],stm sort line ⟨#[115,116,111,112]⟩ a b c n nm,.int .i64 k] w (qR w (.iface 193 (.agg #[]))):=by
 have hrb:∀ W,(Instr.build 193 #[]).run Tryz.prog W=.ok (.agg #[]) W:=fun W=>run_build W 193 _ _ (by kernel_rfl);go_enter Tryz.func81,Tryz.ntmps81;go_wp2;go_ret;exact⟨rfl,(((Below.refl _ _).alloc (Nat.le_refl _) _).alloc (by simp) _).alloc (by simp;omega) _⟩
def InC(N:Nat)(z:Int):Prop:=∃ k:Nat,z=(k:Int)∧k<N
def ztq(N p:Nat):Ins→Prop
 | .jump to=>InC N to
 | .less _ _ to=>InC N to∧p+1<N
 | .same _ _ to=>InC N to∧p+1<N
 | .call to=>InC N to∧p+1<N
 | .back=>True
 | .stop=>True
 | _=>p+1<N
structure InvD(N:Nat)(m:Mc):Prop where
 at_:InC N m.at'
 backs:∀ z∈m.backs,InC N z
 frames:m.frames=if m.fin=2 then 0 else(m.backs.length:Int)+1
 few:m.backs.length≤15
 peak:∃ p:Nat,m.peak=(p:Int)∧p≤16
 steps:0≤m.steps
 out:(m.out.length:Int)≤m.steps
theorem InvD.inv{N:Nat}{m:Mc}(I:InvD N m)(hN:N≤300)(h:m.fin=0):InvC m:=by
 obtain⟨k,hk,hlt⟩:=I.at_;have a:=I.frames;rw [if_neg (by omega)] at a;exact⟨by omega,by omega,a,I.few,I.peak,I.steps,I.out⟩
theorem InvD.goes{N:Nat}{m m1:Mc}{z:Int}(I:InvD N m)(h:InC N z)(e1:m1.backs=m.backs)(e2:m1.frames=m.frames)(e3:m1.peak=m.peak)(e4:m1.steps=m.steps)(e5:m1.out.length≤m.out.length+1)(e6:m1.fin=m.fin):InvD N (m1.goes z):=by
 have hs:=I.steps;have ho:=I.out;refine⟨h,?_,?_,?_,?_,?_,?_⟩
 ·show ∀ z∈m1.backs,_;rw [e1];exact I.backs
 ·show m1.frames=if m1.fin=2 then 0 else(m1.backs.length:Int)+1;rw [e1,e2,e6];exact I.frames
 ·show m1.backs.length≤15;rw [e1];exact I.few
 ·show ∃ p:Nat,m1.peak=(p:Int)∧p≤16;rw [e3];exact I.peak
 ·show 0≤m1.steps+1;omega
 ·show(m1.out.length:Int)≤m1.steps+1;omega
theorem InvD.fault{N:Nat}{m:Mc}{x:Int}(I:InvD N m)(h:m.fin=0)(hx:¬x=2):InvD N { m with fin:=x }:=by
 have a:=I.frames;rw [if_neg (by omega)] at a;exact⟨I.at_,I.backs,by show m.frames=if x=2 then 0 else(m.backs.length:Int)+1;rw [if_neg hx];exact a,I.few,I.peak,I.steps,I.out⟩
theorem InvD.step{N p:Nat}{m:Mc}{i:Ins}(I:InvD N m)(hfin:m.fin=0)(hp:m.at'=(p:Int))(hl:ztq N p i):InvD N (zba i m):=by
 have a:p+1<N→InC N (m.at'+1):=fun h=>⟨p+1,by omega,h⟩
 have c:=I.frames;rw [if_neg (by omega)] at c;cases i with
 | set r k=>rw [zai (.inl rfl) hfin];exact I.goes (a hl) rfl rfl rfl rfl (Nat.le_succ _) rfl
 | mov r s=>rw [zai (.inl rfl) hfin];exact I.goes (a hl) rfl rfl rfl rfl (Nat.le_succ _) rfl
 | alu o r s t=>rw [zai (.inl rfl) hfin];exact I.goes (a hl) rfl rfl rfl rfl (Nat.le_succ _) rfl
 | inc r k=>rw [zai (.inl rfl) hfin];exact I.goes (a hl) rfl rfl rfl rfl (Nat.le_succ _) rfl
 | load r s =>
  by_cases f:m.regs s<0∨15<m.regs s
  ·have b:exec (.load r s) (m.at'+1) m={ m with fin:=3 }:=if_pos f;rw [zai (.inr (by rw [b];show(2:Int)<3;decide)) hfin,b];exact I.fault hfin (by decide)
  ·have b:exec (.load r s) (m.at'+1) m={ m with regs:=upd m.regs r (m.cells (m.regs s).toNat) }.goes (m.at'+1):=if_neg f;rw [zai (.inl (by rw [b];rfl)) hfin,b];exact I.goes (a hl) rfl rfl rfl rfl (Nat.le_succ _) rfl
 | store r s =>
  by_cases f:m.regs r<0∨15<m.regs r
  ·have b:exec (.store r s) (m.at'+1) m={ m with fin:=3 }:=if_pos f;rw [zai (.inr (by rw [b];show(2:Int)<3;decide)) hfin,b];exact I.fault hfin (by decide)
  ·have b:exec (.store r s) (m.at'+1) m={ m with cells:=upd m.cells (m.regs r).toNat (m.regs s) }.goes (m.at'+1):=if_neg f;rw [zai (.inl (by rw [b];rfl)) hfin,b];exact I.goes (a hl) rfl rfl rfl rfl (Nat.le_succ _) rfl
 | read r=>rw [zai (.inl rfl) hfin];exact I.goes (a hl) rfl rfl rfl rfl (Nat.le_succ _) rfl
 | write r=>rw [zai (.inl rfl) hfin];exact I.goes (a hl) rfl rfl rfl rfl (by show(m.out++[_]).length≤_;simp) rfl
 | jump to=>rw [zai (.inl rfl) hfin];exact I.goes hl rfl rfl rfl rfl (Nat.le_succ _) rfl
 | less r s to =>
  rw [zai (.inl rfl) hfin];refine I.goes (m1:=m) ?_ rfl rfl rfl rfl (Nat.le_succ _) rfl;split
  ·exact hl.1
  ·exact a hl.2
 | same r s to =>
  rw [zai (.inl rfl) hfin];refine I.goes (m1:=m) ?_ rfl rfl rfl rfl (Nat.le_succ _) rfl;split
  ·exact hl.1
  ·exact a hl.2
 | call to =>
  by_cases d:m.frames=16
  ·have b:exec (.call to) (m.at'+1) m={ m with fin:=4 }:=if_pos d;rw [zai (.inr (by rw [b];show(2:Int)<4;decide)) hfin,b];exact I.fault hfin (by decide)
  ·have b:exec (.call to) (m.at'+1) m={ m with backs:=m.backs++[m.at'+1],frames:=m.frames+1,peak:=max m.peak (m.frames+1) }.goes to:=if_neg d;rw [zai (.inl (by rw [b];rfl)) hfin,b];have u:=I.steps;have l:=I.out;have j:=I.few;obtain⟨w,hpk,hpk1⟩:=I.peak;refine⟨hl.1,?_,?_,?_,?_,?_,?_⟩
   ·show ∀ z∈m.backs++[m.at'+1],_;intro z e;rw [List.mem_append,List.mem_singleton] at e;rcases e with e|rfl
    ·exact I.backs z e
    ·exact a hl.2
   ·show m.frames+1=if m.fin=2 then 0 else((m.backs++[m.at'+1]).length:Int)+1
    rw [if_neg (by omega),c];simp
   ·show(m.backs++[m.at'+1]).length≤15;simp;omega
   ·show ∃ q:Nat,max m.peak (m.frames+1)=(q:Int)∧q≤16;exact⟨max w (m.backs.length+2),by rw [hpk,c];omega,by omega⟩
   ·show 0≤m.steps+1;omega
   ·show(m.out.length:Int)≤m.steps+1;omega
 | back =>
  have u:=I.steps;have l:=I.out;by_cases n:m.frames=1
  ·have v:exec .back (m.at'+1) m={ m with frames:=0,fin:=2 }.goes (-1):=if_pos n;have b:zba .back m={ m with steps:=m.steps+1,frames:=0,fin:=2 }:=by
    unfold zba;rw [v,if_pos (.inr rfl)];rfl
   rw [b];exact⟨I.at_,I.backs,by show(0:Int)=if(2:Int)=2 then 0 else _;rw [if_pos rfl],I.few,I.peak,by show 0≤m.steps+1;omega,by show(m.out.length:Int)≤m.steps+1;omega⟩
  ·have v:exec .back (m.at'+1) m={ m with frames:=m.frames-1,backs:=m.backs.dropLast }.goes (m.backs.getLastD 0):=if_neg n;rw [zai (.inl (by rw [v];rfl)) hfin,v];obtain⟨J,x,y⟩:∃ I x,m.backs=I++[x]:=by
    rcases List.eq_nil_or_concat m.backs with h|⟨I,x,h⟩
    ·rw [h] at c;simp at c;omega
    ·exact⟨I,x,by rw [h,List.concat_eq_append]⟩
   have g:=I.backs;have j:=I.few;rw [y] at g j c;simp at j c;refine⟨?_,?_,?_,?_,I.peak,?_,?_⟩
   ·show InC N (m.backs.getLastD 0);rw [y];simp;exact g x (by simp)
   ·show ∀ z∈m.backs.dropLast,_;rw [y];simp;intro z e;exact g z (by simp [e])
   ·show m.frames-1=if m.fin=2 then 0 else(m.backs.dropLast.length:Int)+1
    rw [if_neg (by omega),y];simp;omega
   ·show m.backs.dropLast.length≤15;rw [y];simp;omega
   ·show 0≤m.steps+1;omega
   ·show(m.out.length:Int)≤m.steps+1;omega
 | stop =>
  have u:=I.steps;have l:=I.out;have b:zba .stop m={ m with steps:=m.steps+1,fin:=1 }:=by
   unfold zba;rw [show exec .stop (m.at'+1) m={ m with fin:=1 }.goes (-1) from rfl,if_pos (.inl rfl)];rfl
  rw [b];exact⟨I.at_,I.backs,by show m.frames=if(1:Int)=2 then 0 else _;rw [if_neg (by decide)];exact c,I.few,I.peak,by show 0≤m.steps+1;omega,by show(m.out.length:Int)≤m.steps+1;omega⟩
theorem ziv(i:Ins)(m:Mc)(h:m.fin=0):
  (((zba i m).fin=0∨(zba i m).fin=1∨(zba i m).fin=2)∧(zba i m).steps=m.steps+1∨((zba i m).fin=3∨(zba i m).fin=4)∧(zba i m).steps=m.steps)∧(zba i m).inp.length≤m.inp.length:=by
 obtain⟨F,c⟩:=zjG i (m.at'+1) m h;unfold zba;rcases F with ⟨a,b⟩|⟨a,_,b⟩|⟨a,_,b⟩
 ·rw [if_neg (by omega)];exact⟨.inl ⟨.inl a,b⟩,c⟩
 ·rw [if_pos a];exact⟨.inl ⟨.inr a,b⟩,c⟩
 ·rw [if_neg (by omega)];exact⟨.inr ⟨a,b⟩,c⟩
def CodeIn(w:World)(g:Nat)(C:List (Ins × Int)):Prop:=∀ j (h:j<C.length),w.cell? ⟨g,j*2,none⟩=some (.iface (insT C[j].1) (.agg (insA C[j].1)))∧w.cell? ⟨g,j*2+1,none⟩=some (.int .i64 C[j].2)
structure CodeOk(C:List (Ins × Int)):Prop where
 some_:0<C.length
 few:C.length≤300
 ok:∀ j (h:j<C.length),zhw C[j].1
 leads:∀ j (h:j<C.length),ztq C.length j C[j].1
def zcF(C:List (Ins × Int))(m:Mc):Mc:=match C[m.at'.toNat]? with|none=>m|some q=>zba q.1 m
theorem zh5{C:List (Ins × Int)}{m:Mc}{k:Nat}(hk:m.at'=(k:Int))(h:k<C.length):zcF C m=zba C[k].1 m:=by
 unfold zcF;rw [hk,Int.toNat_natCast,List.getElem?_eq_getElem h]
def zb0(inp:List Int):Mc:=⟨0,[],inp,0,fun _=>0,fun _=>0,[],1,1,0⟩
def zgJ(C:List (Ins × Int))(m:Mc):Int:=if m.fin=1∨m.fin=2 then 0 else(C[m.at'.toNat]?.map (·.2)).getD 0
theorem CodeIn.below{w w':World}{g B:Nat}{C:List (Ins × Int)}(h:CodeIn w g C)(hb:Below B w w')(hg:g<B):CodeIn w' g C:=fun j hj=>⟨(hb.cell (p:=⟨g,j*2,none⟩) hg).trans (h j hj).1,(hb.cell (p:=⟨g,j*2+1,none⟩) hg).trans (h j hj).2⟩
theorem zef{C:List (Ins × Int)}(K:CodeOk C)(inp:List Int):InvD C.length (zb0 inp) :=
 ⟨⟨0,rfl,K.some_⟩,by simp [zb0],rfl,by simp [zb0],⟨1,rfl,by omega⟩,Int.le_refl _,Int.le_refl _⟩
end Go.Proofs.YtfpgjkbjbbgciaaGreatDoor
