import Derived.Test.YtfpgjkbjbbgciaaGreatDoorMj07
import Derived.Test.YtfpgjkbjbbgciaaGreatDoorMj08
set_option maxRecDepth 100000
set_option maxHeartbeats 8000000
namespace Go.Proofs.YtfpgjkbjbbgciaaGreatDoor
section
open Go.RowKit Sp
theorem zff(x:ByteArray)(w:World)(sh:List UInt8)(HS:Hid (zaa x=sh)):
  qC 74 #[.string x] w fun e w'=>e=.returned (.string ⟨sh.toArray⟩)∧w'=w:=by
 rw [←HS.out];exact zss x w
theorem zzi(a b:Nat)(h:¬a=b):((a:Int)+1 != (b:Int)+1)=true:=by simp;omega
theorem zsG(s:ByteArray)(w:World)(hs:s.size≤1048576)(hv:zau s 0=true)(x:ByteArray)(hl:Hid (words s=[x]))(hx:x.size≤1048576)(hx1:1≤x.size)(hnf:(x.toList == [102,117,110,99])=false)(hlast:((x[x.size-1].toNat:Int) == 58)=false)(sh:List UInt8)(HS:Hid (zaa x=sh))(_hsh:sh.length≤3)(h63:(sh == [63])=true):
  qC 46 #[.string s] w (zcv w.heap.size w ⟨105,[x],false⟩):=by
 go_enter Tryz.func46,Tryz.ntmps46;go_wp2_with(first
  | (go_at_call 71;refine(zcn s _ (by omega)).mono ?_;rintro e h ⟨rfl,rfl⟩)
  | (go_at_call 74;refine(zff x _ sh HS).mono ?_;rintro e h ⟨rfl,rfl⟩)
  | (go_at_call 72;refine(zdq s w (by omega) _ hl (by simp)).mono ?_;rintro e j ⟨g,a,rfl,hcap,hmx,f,c,K⟩;obtain⟨hg3,hg2,n,l,i,d0,d1,e0,e1,f0,f1⟩:=K;have hne:¬w.heap.size+1=g:=(by omega);have hne0:¬w.heap.size=g:=(by omega);have d:=f 0 (by simp);simp only [List.getElem_cons_zero] at d))
 go_light
 obtain⟨k,m⟩:=zck (W:=zeD w j 105 (.slice (some ⟨g,0,none⟩) 1 a)) (b:=w.heap.size) (zaC l) (zaC i);exact bodyPost_ret (v:=.tuple #[.agg #[.int .u8 105,.slice (some ⟨g,0,none⟩) 1 a],.bool false]) (by simp [results,Tryz.results46,go_sem,k,m]) rfl (zco (by simpa using c) n)
theorem zsH(s:ByteArray)(w:World)(hs:s.size≤1048576)(hv:zau s 0=true)(x:ByteArray)(hl:Hid (words s=[x]))(hx:x.size≤1048576)(hx1:1≤x.size)(hnf:(x.toList == [102,117,110,99])=false)(hlast:((x[x.size-1].toNat:Int) == 58)=false)(sh:List UInt8)(HS:Hid (zaa x=sh))(hsh:sh.length≤3)(h63:(sh == [63])=false)(hne1:((1:Int) != (sh.length:Int)+1)=true):
  qC 46 #[.string s] w (zcv w.heap.size w ⟨105,[x],false⟩):=by
 go_enter Tryz.func46,Tryz.ntmps46;go_wp2_with(first
  | (go_at_call 71;refine(zcn s _ (by omega)).mono ?_;rintro e h ⟨rfl,rfl⟩)
  | (go_at_call 74;refine(zff x _ sh HS).mono ?_;rintro e h ⟨rfl,rfl⟩)
  | (go_at_call 72;refine(zdq s w (by omega) _ hl (by simp)).mono ?_;rintro e j ⟨g,a,rfl,hcap,hmx,f,c,K⟩;obtain⟨hg3,hg2,n,l,i,d0,d1,e0,e1,f0,f1⟩:=K;have hne:¬w.heap.size+1=g:=(by omega);have hne0:¬w.heap.size=g:=(by omega);have d:=f 0 (by simp);simp only [List.getElem_cons_zero] at d))
 go_light
 obtain⟨k,m⟩:=zck (W:=zeD w j 105 (.slice (some ⟨g,0,none⟩) 1 a)) (b:=w.heap.size) (zaC l) (zaC i);exact bodyPost_ret (v:=.tuple #[.agg #[.int .u8 105,.slice (some ⟨g,0,none⟩) 1 a],.bool false]) (by simp [results,Tryz.results46,go_sem,k,m]) rfl (zco (by simpa using c) n)
theorem zsI(s:ByteArray)(w:World)(hs:s.size≤1048576)(hv:zau s 0=true)(x:ByteArray)(r:List ByteArray)(hl:Hid (words s=x :: r))(_hx:x.size≤1048576)(_hx1:1≤x.size)(hnf:(x.toList == [102,117,110,99])=false)(hr:r.length≤1048576)(hr1:1≤r.length)(hr2:((r.length:Int)+1 == 1)=false)(sh:List UInt8)(HS:Hid (zaa x=sh))(_hsh:sh.length≤3)(h63:(sh == [63])=true):
  qC 46 #[.string s] w (zcv w.heap.size w ⟨105,x :: r,false⟩):=by
 go_enter Tryz.func46,Tryz.ntmps46;go_wp2_with(first
  | (go_at_call 71;refine(zcn s _ (by omega)).mono ?_;rintro e h ⟨rfl,rfl⟩)
  | (go_at_call 74;refine(zff x _ sh HS).mono ?_;rintro e h ⟨rfl,rfl⟩)
  | (go_at_call 72;refine(zdq s w (by omega) _ hl (by simp)).mono ?_;rintro e j ⟨g,a,rfl,hcap,hmx,f,c,K⟩;obtain⟨hg3,hg2,n,l,i,d0,d1,e0,e1,f0,f1⟩:=K;have hne:¬w.heap.size+1=g:=(by omega);have hne0:¬w.heap.size=g:=(by omega);have d:=f 0 (by simp);simp only [List.getElem_cons_zero] at d))
 go_light
 obtain⟨k,m⟩:=zck (W:=zeD w j 105 (.slice (some ⟨g,0,none⟩) (r.length+1) a)) (b:=w.heap.size) (zaC l) (zaC i);exact bodyPost_ret (v:=.tuple #[.agg #[.int .u8 105,.slice (some ⟨g,0,none⟩) (r.length+1) a],.bool false]) (by simp [results,Tryz.results46,go_sem,k,m]) rfl (zco (by simpa using c) n)
theorem zsJ(s:ByteArray)(w:World)(hs:s.size≤1048576)(hv:zau s 0=true)(x:ByteArray)(r:List ByteArray)(hl:Hid (words s=x :: r))(_hx:x.size≤1048576)(_hx1:1≤x.size)(hnf:(x.toList == [102,117,110,99])=false)(hr:r.length≤1048576)(hr1:1≤r.length)(hr2:((r.length:Int)+1 == 1)=false)(sh:List UInt8)(HS:Hid (zaa x=sh))(hsh:sh.length≤3)(h63:(sh == [63])=false)(hne1:((r.length:Int)+1 != (sh.length:Int)+1)=true):
  qC 46 #[.string s] w (zcv w.heap.size w ⟨105,x :: r,false⟩):=by
 go_enter Tryz.func46,Tryz.ntmps46;go_wp2_with(first
  | (go_at_call 71;refine(zcn s _ (by omega)).mono ?_;rintro e h ⟨rfl,rfl⟩)
  | (go_at_call 74;refine(zff x _ sh HS).mono ?_;rintro e h ⟨rfl,rfl⟩)
  | (go_at_call 72;refine(zdq s w (by omega) _ hl (by simp)).mono ?_;rintro e j ⟨g,a,rfl,hcap,hmx,f,c,K⟩;obtain⟨hg3,hg2,n,l,i,d0,d1,e0,e1,f0,f1⟩:=K;have hne:¬w.heap.size+1=g:=(by omega);have hne0:¬w.heap.size=g:=(by omega);have d:=f 0 (by simp);simp only [List.getElem_cons_zero] at d))
 go_light
 obtain⟨k,m⟩:=zck (W:=zeD w j 105 (.slice (some ⟨g,0,none⟩) (r.length+1) a)) (b:=w.heap.size) (zaC l) (zaC i);exact bodyPost_ret (v:=.tuple #[.agg #[.int .u8 105,.slice (some ⟨g,0,none⟩) (r.length+1) a],.bool false]) (by simp [results,Tryz.results46,go_sem,k,m]) rfl (zco (by simpa using c) n)
end
namespace Sp
inductive Ins where
 | set (r:Nat) (k:Int)
 | mov (r s:Nat)
 | alu (o:Nat) (r s t:Nat)
 | inc (r:Nat) (k:Int)
 | load (r s:Nat)
 | store (r s:Nat)
 | read (r:Nat)
 | write (r:Nat)
 | jump (to:Int)
 | less (r s:Nat) (to:Int)
 | same (r s:Nat) (to:Int)
 | call (to:Int)
 | back
 | stop
structure Mc where
 at':Int
 backs:List Int
 inp:List Int
 steps:Int
 regs:Nat→Int
 cells:Nat→Int
 out:List Int
 frames:Int
 peak:Int
 fin:Int
def upd(f:Nat→Int)(i:Nat)(v:Int):Nat→Int:=fun j=>if j=i then v else f j
theorem zeq(f:Nat→Int)(i:Nat)(v:Int):upd f i v i=v:=by simp [upd]
theorem zd9(f:Nat→Int)(i j:Nat)(v:Int)(h:¬j=i):upd f i v j=f j:=by simp [upd,h]
def w64(x:Int):Int:=(x+9223372036854775808)%18446744073709551616-9223372036854775808
def zby(o:Nat)(a b:Int):Int:=if o=0 then w64 (a+b) else if o=1 then w64 (a-b) else w64 (a*b)
def Mc.goes(m:Mc)(to:Int):Mc:={ m with steps:=m.steps+1,at':=to }
def exec(i:Ins)(next:Int)(m:Mc):Mc :=
 match i with
 | .set r k=>{ m with regs:=upd m.regs r k }.goes next
 | .mov r s=>{ m with regs:=upd m.regs r (m.regs s) }.goes next
 | .alu o r s t=>{ m with regs:=upd m.regs r (zby o (m.regs s) (m.regs t)) }.goes next
 | .inc r k=>{ m with regs:=upd m.regs r (w64 (m.regs r+k)) }.goes next
 | .load r s=>if m.regs s<0∨15<m.regs s then{ m with fin:=3 } else{ m with regs:=upd m.regs r (m.cells (m.regs s).toNat) }.goes next
 | .store r s=>if m.regs r<0∨15<m.regs r then{ m with fin:=3 } else{ m with cells:=upd m.cells (m.regs r).toNat (m.regs s) }.goes next
 | .read r=>{ m with regs:=upd m.regs r (m.inp.headD 0),inp:=m.inp.tail }.goes next
 | .write r=>{ m with out:=m.out++[m.regs r] }.goes next
 | .jump to=>m.goes to
 | .less r s to=>m.goes (if m.regs r<m.regs s then to else next)
 | .same r s to=>m.goes (if m.regs r=m.regs s then to else next)
 | .call to=>if m.frames=16 then{ m with fin:=4 } else{ m with backs:=m.backs++[next],frames:=m.frames+1,peak:=max m.peak (m.frames+1) }.goes to
 | .back=>if m.frames=1 then{ m with frames:=0,fin:=2 }.goes (-1) else{ m with frames:=m.frames-1,backs:=m.backs.dropLast }.goes (m.backs.getLastD 0)
 | .stop=>{ m with fin:=1 }.goes (-1)
def zad(L:List Said)(i:Nat):Int :=
 if h:i<L.length then(if L[i].kind=102 then -1 else if L[i].kind=105 then(i:Int) else zad L (i+1)) else -1
termination_by L.length-i
theorem zhk(L:List Said)(i:Nat)(h:¬i<L.length):zad L i=-1:=by rw [zad,dif_neg h]
theorem zj0(L:List Said)(i:Nat)(h:i<L.length)(h':L[i].kind=102):zad L i=-1:=by rw [zad,dif_pos h,if_pos h']
theorem zeF(L:List Said)(i:Nat)(h:i<L.length)(h':L[i].kind=105):zad L i=i:=by rw [zad,dif_pos h,if_neg (by omega),if_pos h']
theorem zer(L:List Said)(i:Nat)(h:i<L.length)(h0:¬L[i].kind=102)(h':¬L[i].kind=105):zad L i=zad L (i+1):=by rw [zad,dif_pos h,if_neg h0,if_neg h']
def regN(x:ByteArray):Nat:=(reg x).toNat
def ze9(L:List Said)(k:Nat)(x:ByteArray):Int:=zad L (zcj L k x).toNat
def fnTo(L:List Said)(x:ByteArray):Int:=zad L (zaN L x 0+1).toNat
def insQ(L:List Said)(k:Nat)(q:Said):Ins :=
 if isW (q.word 0) [106,117,109,112]=true then .jump (ze9 L k q.last)
 else if isW (q.word 0) [108,101,115,115]=true then .less (regN (q.word 1)) (regN (q.word 2)) (ze9 L k q.last)
 else if isW (q.word 0) [115,97,109,101]=true then .same (regN (q.word 1)) (regN (q.word 2)) (ze9 L k q.last)
 else if isW (q.word 0) [99,97,108,108]=true then .call (fnTo L q.last)
 else if isW (q.word 0) [98,97,99,107]=true then .back
 else if isW (q.word 0) [115,116,111,112]=true then .stop
 else if isW (q.word 0) [115,101,116]=true then .set (regN (q.word 1)) (zaI (q.word 2)).1
 else if isW (q.word 0) [109,111,118]=true then .mov (regN (q.word 1)) (regN (q.word 2))
 else if isW (q.word 0) [97,100,100]=true then .alu 0 (regN (q.word 1)) (regN (q.word 2)) (regN (q.word 3))
 else if isW (q.word 0) [115,117,98]=true then .alu 1 (regN (q.word 1)) (regN (q.word 2)) (regN (q.word 3))
 else if isW (q.word 0) [109,117,108]=true then .alu 2 (regN (q.word 1)) (regN (q.word 2)) (regN (q.word 3))
 else if isW (q.word 0) [105,110,99]=true then .inc (regN (q.word 1)) (zaI (q.word 2)).1
 else if isW (q.word 0) [108,111,97,100]=true then .load (regN (q.word 1)) (regN (q.word 2))
 else if isW (q.word 0) [115,116,111,114,101]=true then .store (regN (q.word 1)) (regN (q.word 2))
 else if isW (q.word 0) [114,101,97,100]=true then .read (regN (q.word 1))
 else .write (regN (q.word 1))
def zbz(L:List Said)(m:Mc):Mc :=
 match L[m.at'.toNat]? with
 | none=>m
 | some q=>exec (insQ L m.at'.toNat q) (zad L (m.at'.toNat+1)) m
def runS(f:Mc→Mc):Nat→Mc→Mc
 | 0,m=>m
 | n+1,m=>if m.fin=0 then runS f n (f m) else m
theorem zbY(f:Mc→Mc)(n:Nat)(m:Mc)(h:¬m.fin=0):runS f n m=m:=by
 cases n with
 | zero=>rfl
 | succ n=>show(if m.fin=0 then _ else _)=m;rw [if_neg h]
theorem zbZ(f:Mc→Mc)(n:Nat)(m:Mc)(h:m.fin=0):runS f (n+1) m=runS f n (f m):=by
 show(if m.fin=0 then _ else _)=_;rw [if_pos h]
def zcD(L:List Said)(i:Nat):Nat:=if h:i<L.length then(if L[i].kind=102 then i else zcD L (i+1)) else i
termination_by L.length-i
def zc3(L:List Said)(inp:List Int):Mc:=⟨zad L (zcD L 0+1),[],inp,0,fun _=>0,fun _=>0,[],1,1,0⟩
def Mc.line(m:Mc):Int:=if m.fin=1∨m.fin=2 then 0 else m.at'+1
end Sp
section
open Go.RowKit Sp
theorem zdn(L:List Said)(g cap k:Nat)(w:World)(hL:LinesIn w g L)(hn:L.length≤1048577)(hk:k≤L.length+1):
  qC 88 #[.slice (some ⟨g,0,none⟩) L.length cap,.int .i64 (k:Int)] w fun e w'=>e=.returned (.int .i64 (zad L k))∧w'=w:=by
 go_enter Tryz.func88,Tryz.ntmps88;go_wp2
 go_loop [5] (fun t=>∃ j:Nat,j≤L.length+1∧t=.int .i64 (j:Int)∧zad L k=zad L j) (fun t=>L.length+1-(intOf t).toNat)
 case atStart=>exact⟨k,hk,rfl,rfl⟩
 case round =>
  obtain⟨j,hj,rfl,d⟩:=hrel;have b:Hid (zad L k=zad L j):=d;clear d;by_cases a:j<L.length
  ·have hc:=hL.kind j a;have hb:=zdO (hL.wf j a);cases h102:(L[j].kind != 102) with
   | false =>
    have c:Hid (zad L k=-1):=b.out.trans (zj0 L j a (by simpa using h102));go_wp2;go_ret;exact⟨zch (by rw [c.out]),rfl⟩
   | true =>
    cases h105:(L[j].kind == 105) with
    | true =>
     have c:Hid (zad L k=j):=b.out.trans (zeF L j a (by simpa using h105));go_wp2;go_ret;exact⟨zch (by rw [c.out]),rfl⟩
    | false =>
     have c:Hid (zad L k=zad L (j+1)):=b.out.trans (zer L j a (by simpa using h102) (by simpa using h105));go_wp2
     go_round
     case rel=>exact⟨j+1,by omega,by go_num,c.out⟩
     case measure=>simp [intOf];omega
  ·have c:Hid (zad L k=-1):=b.out.trans (zhk L j a);go_wp2;go_ret;exact⟨zch (by rw [c.out]),rfl⟩
theorem zs3(a b:Int):wrap64 (a+b)=zby 0 a b:=by simp [zby,w64,wrap64]
theorem zs4(a b:Int):wrap64 (a-b)=zby 1 a b:=by simp [zby,w64,wrap64]
theorem zs5(a b:Int):wrap64 (a*b)=zby 2 a b:=by simp [zby,w64,wrap64]
theorem zqd(a b:Int)(w:World):qC 111 #[.string ⟨#[97,100,100]⟩,.int .i64 a,.int .i64 b] w fun e w'=>e=.returned (.int .i64 (zby 0 a b))∧w'=w:=by
 go_enter Tryz.func111,Tryz.ntmps111;go_wp2;go_ret;exact⟨zch (zs3 a b),rfl⟩
theorem zqe(a b:Int)(w:World):qC 111 #[.string ⟨#[115,117,98]⟩,.int .i64 a,.int .i64 b] w fun e w'=>e=.returned (.int .i64 (zby 1 a b))∧w'=w:=by
 go_enter Tryz.func111,Tryz.ntmps111;go_wp2;go_ret;exact⟨zch (zs4 a b),rfl⟩
theorem zqf(a b:Int)(w:World):qC 111 #[.string ⟨#[109,117,108]⟩,.int .i64 a,.int .i64 b] w fun e w'=>e=.returned (.int .i64 (zby 2 a b))∧w'=w:=by
 go_enter Tryz.func111,Tryz.ntmps111;go_wp2;go_ret;exact⟨zch (zs5 a b),rfl⟩
abbrev i64s(l:List Int):List Value:=l.map (Value.int .i64)
structure RefM(w:World)(b:Nat)(lv bv iv ov:Value)(m:Mc):Prop where
 cL:w.cell? ⟨b,0,none⟩=some lv
 cAt:w.cell? ⟨b,1,none⟩=some (.int .i64 m.at')
 cB:w.cell? ⟨b,2,none⟩=some bv
 cI:w.cell? ⟨b,3,none⟩=some iv
 cS:w.cell? ⟨b,4,none⟩=some (.int .i64 m.steps)
 cR:∀ i,i<8→w.cell? ⟨b,5+i,none⟩=some (.int .i64 (m.regs i))
 cC:∀ i,i<16→w.cell? ⟨b,13+i,none⟩=some (.int .i64 (m.cells i))
 cO:w.cell? ⟨b,29,none⟩=some ov
 cF:w.cell? ⟨b,30,none⟩=some (.int .i64 m.frames)
 cP:w.cell? ⟨b,31,none⟩=some (.int .i64 m.peak)
 cA:w.cell? ⟨b,32,none⟩=some (.int .i64 0)
 cE:w.cell? ⟨b,33,none⟩=some (.int .i64 m.fin)
 fz:∀ o,w.frozen? ⟨b,o,none⟩=false
theorem zat(w:World)(b o j:Nat)(v u:Value)(hu:w.cell? ⟨b,o,none⟩=some u):(w.setCell ⟨b,o,none⟩ v).cell? ⟨b,j,none⟩=if j=o then some v else w.cell? ⟨b,j,none⟩:=by
 by_cases h:j=o
 ·subst h;rw [if_pos rfl];exact World.cell?_setCell_same w _ _ hu
 ·rw [if_neg h,World.cell?_setCell_other];simp
theorem zbP(w:World)(b o j:Nat)(v:Value)(h:w.frozen? ⟨b,j,none⟩=false):(w.setCell ⟨b,o,none⟩ v).frozen? ⟨b,j,none⟩=false:=by simpa using h
theorem RefM.setAt{w:World}{b:Nat}{lv bv iv ov:Value}{m:Mc}(h:RefM w b lv bv iv ov m)(x:Int):RefM (w.setCell ⟨b,1,none⟩ (.int .i64 x)) b lv bv iv ov { m with at':=x }:=by
 have e:=fun j=>zat w b (1) j (.int .i64 x) _ h.cAt;exact⟨by rw [e,if_neg (by omega)];exact h.cL,by rw [e,if_pos rfl],by rw [e,if_neg (by omega)];exact h.cB,by rw [e,if_neg (by omega)];exact h.cI,by rw [e,if_neg (by omega)];exact h.cS,fun i hi=>by rw [e,if_neg (by omega)];exact h.cR i hi,fun i hi=>by rw [e,if_neg (by omega)];exact h.cC i hi,by rw [e,if_neg (by omega)];exact h.cO,by rw [e,if_neg (by omega)];exact h.cF,by rw [e,if_neg (by omega)];exact h.cP,by rw [e,if_neg (by omega)];exact h.cA,by rw [e,if_neg (by omega)];exact h.cE,fun o=>zbP w b _ o _ (h.fz o)⟩
theorem RefM.setB{w:World}{b:Nat}{lv bv iv ov:Value}{m:Mc}(h:RefM w b lv bv iv ov m)(u:Value)(l:List Int):RefM (w.setCell ⟨b,2,none⟩ u) b lv u iv ov { m with backs:=l }:=by
 have e:=fun j=>zat w b (2) j u _ h.cB;exact⟨by rw [e,if_neg (by omega)];exact h.cL,by rw [e,if_neg (by omega)];exact h.cAt,by rw [e,if_pos rfl],by rw [e,if_neg (by omega)];exact h.cI,by rw [e,if_neg (by omega)];exact h.cS,fun i hi=>by rw [e,if_neg (by omega)];exact h.cR i hi,fun i hi=>by rw [e,if_neg (by omega)];exact h.cC i hi,by rw [e,if_neg (by omega)];exact h.cO,by rw [e,if_neg (by omega)];exact h.cF,by rw [e,if_neg (by omega)];exact h.cP,by rw [e,if_neg (by omega)];exact h.cA,by rw [e,if_neg (by omega)];exact h.cE,fun o=>zbP w b _ o _ (h.fz o)⟩
theorem RefM.setI{w:World}{b:Nat}{lv bv iv ov:Value}{m:Mc}(h:RefM w b lv bv iv ov m)(u:Value)(l:List Int):RefM (w.setCell ⟨b,3,none⟩ u) b lv bv u ov { m with inp:=l }:=by
 have e:=fun j=>zat w b (3) j u _ h.cI;exact⟨by rw [e,if_neg (by omega)];exact h.cL,by rw [e,if_neg (by omega)];exact h.cAt,by rw [e,if_neg (by omega)];exact h.cB,by rw [e,if_pos rfl],by rw [e,if_neg (by omega)];exact h.cS,fun i hi=>by rw [e,if_neg (by omega)];exact h.cR i hi,fun i hi=>by rw [e,if_neg (by omega)];exact h.cC i hi,by rw [e,if_neg (by omega)];exact h.cO,by rw [e,if_neg (by omega)];exact h.cF,by rw [e,if_neg (by omega)];exact h.cP,by rw [e,if_neg (by omega)];exact h.cA,by rw [e,if_neg (by omega)];exact h.cE,fun o=>zbP w b _ o _ (h.fz o)⟩
theorem RefM.setS{w:World}{b:Nat}{lv bv iv ov:Value}{m:Mc}(h:RefM w b lv bv iv ov m)(x:Int):RefM (w.setCell ⟨b,4,none⟩ (.int .i64 x)) b lv bv iv ov { m with steps:=x }:=by
 have e:=fun j=>zat w b (4) j (.int .i64 x) _ h.cS;exact⟨by rw [e,if_neg (by omega)];exact h.cL,by rw [e,if_neg (by omega)];exact h.cAt,by rw [e,if_neg (by omega)];exact h.cB,by rw [e,if_neg (by omega)];exact h.cI,by rw [e,if_pos rfl],fun i hi=>by rw [e,if_neg (by omega)];exact h.cR i hi,fun i hi=>by rw [e,if_neg (by omega)];exact h.cC i hi,by rw [e,if_neg (by omega)];exact h.cO,by rw [e,if_neg (by omega)];exact h.cF,by rw [e,if_neg (by omega)];exact h.cP,by rw [e,if_neg (by omega)];exact h.cA,by rw [e,if_neg (by omega)];exact h.cE,fun o=>zbP w b _ o _ (h.fz o)⟩
theorem RefM.setR{w:World}{b:Nat}{lv bv iv ov:Value}{m:Mc}(h:RefM w b lv bv iv ov m)(r:Nat)(hr:r<8)(x:Int):RefM (w.setCell ⟨b,5+r,none⟩ (.int .i64 x)) b lv bv iv ov { m with regs:=upd m.regs r x }:=by
 have e:=fun j=>zat w b (5+r) j (.int .i64 x) _ (h.cR r hr);exact⟨by rw [e,if_neg (by omega)];exact h.cL,by rw [e,if_neg (by omega)];exact h.cAt,by rw [e,if_neg (by omega)];exact h.cB,by rw [e,if_neg (by omega)];exact h.cI,by rw [e,if_neg (by omega)];exact h.cS,fun i hi=>by
  rw [e];by_cases a:i=r
  ·subst a;rw [if_pos rfl];show _=some (Value.int .i64 (upd _ _ _ _));rw [zeq]
  ·rw [if_neg (by omega)];show _=some (Value.int .i64 (upd _ _ _ _));rw [zd9 _ _ _ _ a];exact h.cR i hi,fun i hi=>by rw [e,if_neg (by omega)];exact h.cC i hi,by rw [e,if_neg (by omega)];exact h.cO,by rw [e,if_neg (by omega)];exact h.cF,by rw [e,if_neg (by omega)];exact h.cP,by rw [e,if_neg (by omega)];exact h.cA,by rw [e,if_neg (by omega)];exact h.cE,fun o=>zbP w b _ o _ (h.fz o)⟩
theorem RefM.setC{w:World}{b:Nat}{lv bv iv ov:Value}{m:Mc}(h:RefM w b lv bv iv ov m)(r:Nat)(hr:r<16)(x:Int):RefM (w.setCell ⟨b,13+r,none⟩ (.int .i64 x)) b lv bv iv ov { m with cells:=upd m.cells r x }:=by
 have e:=fun j=>zat w b (13+r) j (.int .i64 x) _ (h.cC r hr);exact⟨by rw [e,if_neg (by omega)];exact h.cL,by rw [e,if_neg (by omega)];exact h.cAt,by rw [e,if_neg (by omega)];exact h.cB,by rw [e,if_neg (by omega)];exact h.cI,by rw [e,if_neg (by omega)];exact h.cS,fun i hi=>by rw [e,if_neg (by omega)];exact h.cR i hi,fun i hi=>by
  rw [e];by_cases a:i=r
  ·subst a;rw [if_pos rfl];show _=some (Value.int .i64 (upd _ _ _ _));rw [zeq]
  ·rw [if_neg (by omega)];show _=some (Value.int .i64 (upd _ _ _ _));rw [zd9 _ _ _ _ a];exact h.cC i hi,by rw [e,if_neg (by omega)];exact h.cO,by rw [e,if_neg (by omega)];exact h.cF,by rw [e,if_neg (by omega)];exact h.cP,by rw [e,if_neg (by omega)];exact h.cA,by rw [e,if_neg (by omega)];exact h.cE,fun o=>zbP w b _ o _ (h.fz o)⟩
theorem RefM.setO{w:World}{b:Nat}{lv bv iv ov:Value}{m:Mc}(h:RefM w b lv bv iv ov m)(u:Value)(l:List Int):RefM (w.setCell ⟨b,29,none⟩ u) b lv bv iv u { m with out:=l }:=by
 have e:=fun j=>zat w b (29) j u _ h.cO;exact⟨by rw [e,if_neg (by omega)];exact h.cL,by rw [e,if_neg (by omega)];exact h.cAt,by rw [e,if_neg (by omega)];exact h.cB,by rw [e,if_neg (by omega)];exact h.cI,by rw [e,if_neg (by omega)];exact h.cS,fun i hi=>by rw [e,if_neg (by omega)];exact h.cR i hi,fun i hi=>by rw [e,if_neg (by omega)];exact h.cC i hi,by rw [e,if_pos rfl],by rw [e,if_neg (by omega)];exact h.cF,by rw [e,if_neg (by omega)];exact h.cP,by rw [e,if_neg (by omega)];exact h.cA,by rw [e,if_neg (by omega)];exact h.cE,fun o=>zbP w b _ o _ (h.fz o)⟩
theorem RefM.setF{w:World}{b:Nat}{lv bv iv ov:Value}{m:Mc}(h:RefM w b lv bv iv ov m)(x:Int):RefM (w.setCell ⟨b,30,none⟩ (.int .i64 x)) b lv bv iv ov { m with frames:=x }:=by
 have e:=fun j=>zat w b (30) j (.int .i64 x) _ h.cF;exact⟨by rw [e,if_neg (by omega)];exact h.cL,by rw [e,if_neg (by omega)];exact h.cAt,by rw [e,if_neg (by omega)];exact h.cB,by rw [e,if_neg (by omega)];exact h.cI,by rw [e,if_neg (by omega)];exact h.cS,fun i hi=>by rw [e,if_neg (by omega)];exact h.cR i hi,fun i hi=>by rw [e,if_neg (by omega)];exact h.cC i hi,by rw [e,if_neg (by omega)];exact h.cO,by rw [e,if_pos rfl],by rw [e,if_neg (by omega)];exact h.cP,by rw [e,if_neg (by omega)];exact h.cA,by rw [e,if_neg (by omega)];exact h.cE,fun o=>zbP w b _ o _ (h.fz o)⟩
theorem RefM.setP{w:World}{b:Nat}{lv bv iv ov:Value}{m:Mc}(h:RefM w b lv bv iv ov m)(x:Int):RefM (w.setCell ⟨b,31,none⟩ (.int .i64 x)) b lv bv iv ov { m with peak:=x }:=by
 have e:=fun j=>zat w b (31) j (.int .i64 x) _ h.cP;exact⟨by rw [e,if_neg (by omega)];exact h.cL,by rw [e,if_neg (by omega)];exact h.cAt,by rw [e,if_neg (by omega)];exact h.cB,by rw [e,if_neg (by omega)];exact h.cI,by rw [e,if_neg (by omega)];exact h.cS,fun i hi=>by rw [e,if_neg (by omega)];exact h.cR i hi,fun i hi=>by rw [e,if_neg (by omega)];exact h.cC i hi,by rw [e,if_neg (by omega)];exact h.cO,by rw [e,if_neg (by omega)];exact h.cF,by rw [e,if_pos rfl],by rw [e,if_neg (by omega)];exact h.cA,by rw [e,if_neg (by omega)];exact h.cE,fun o=>zbP w b _ o _ (h.fz o)⟩
theorem RefM.setE{w:World}{b:Nat}{lv bv iv ov:Value}{m:Mc}(h:RefM w b lv bv iv ov m)(x:Int):RefM (w.setCell ⟨b,33,none⟩ (.int .i64 x)) b lv bv iv ov { m with fin:=x }:=by
 have e:=fun j=>zat w b (33) j (.int .i64 x) _ h.cE;exact⟨by rw [e,if_neg (by omega)];exact h.cL,by rw [e,if_neg (by omega)];exact h.cAt,by rw [e,if_neg (by omega)];exact h.cB,by rw [e,if_neg (by omega)];exact h.cI,by rw [e,if_neg (by omega)];exact h.cS,fun i hi=>by rw [e,if_neg (by omega)];exact h.cR i hi,fun i hi=>by rw [e,if_neg (by omega)];exact h.cC i hi,by rw [e,if_neg (by omega)];exact h.cO,by rw [e,if_neg (by omega)];exact h.cF,by rw [e,if_neg (by omega)];exact h.cP,by rw [e,if_neg (by omega)];exact h.cA,by rw [e,if_pos rfl],fun o=>zbP w b _ o _ (h.fz o)⟩
theorem RefM.of_block{w w':World}{b:Nat}{lv bv iv ov:Value}{m:Mc}(h:RefM w b lv bv iv ov m)(e:w'.heap[b]?=w.heap[b]?):RefM w' b lv bv iv ov m:=by
 have z:∀ j,w'.cell? ⟨b,j,none⟩=w.cell? ⟨b,j,none⟩:=fun j=>World.cell?_of_block (w:=w) e;have f:∀ j,w'.frozen? ⟨b,j,none⟩=w.frozen? ⟨b,j,none⟩:=fun j=>World.frozen?_of_block (w:=w) e;exact⟨by rw [z];exact h.cL,by rw [z];exact h.cAt,by rw [z];exact h.cB,by rw [z];exact h.cI,by rw [z];exact h.cS,fun i hi=>by rw [z];exact h.cR i hi,fun i hi=>by rw [z];exact h.cC i hi,by rw [z];exact h.cO,by rw [z];exact h.cF,by rw [z];exact h.cP,by rw [z];exact h.cA,by rw [z];exact h.cE,fun o=>by rw [f];exact h.fz o⟩
theorem RefM.lt{w:World}{b:Nat}{lv bv iv ov:Value}{m:Mc}(h:RefM w b lv bv iv ov m):b<w.heap.size:=by have:=World.block_lt_of_cell? w _ h.cL;simpa using this
end
end Go.Proofs.YtfpgjkbjbbgciaaGreatDoor
