import Derived.Test.YtfpgjkbjbbgciaaGreatDoorMi30
import Derived.Test.YtfpgjkbjbbgciaaGreatDoorMi38
import Derived.Test.YtfpgjkbjbbgciaaGreatDoorMi40
import Derived.Test.YtfpgjkbjbbgciaaGreatDoorMi42
set_option maxRecDepth 100000
set_option maxHeartbeats 8000000
namespace Go.Proofs.YtfpgjkbjbbgciaaGreatDoor
section
open Go.RowKit Sp
def insL:Ins→Nat
 | .set _ _=>224|.mov _ _=>231|.alu o _ _ _=>if o=0 then 233 else if o=1 then 240 else 244|.inc _ _=>250|.load _ _=>252|.store _ _=>257
 | .read _=>260|.write _=>263|.jump _=>266|.less _ _ _=>268|.same _ _ _=>275|.call _=>280|.back=>285|.stop=>289
def zdN(w:World)(b:Nat)(ao:Option Addr):Option (List Kn)→Ending→World→Prop
 | none=>fun e w'=>e=zak 8 0∧w.grownBy w' (some b)
 | some ks=>fun e w'=>∃(so:Option Addr) (sc:Nat) (ps:List Nat) (ao':Option Addr) (cap' n':Nat),e=.returned (.slice so ps.length sc)∧WaysAt w w' b (.slice ao' n' cap') ks so ps∧(∀ k'∈ks,n'=k'.behind.length∧BhM w' ao' cap' k'.behind)∧(ao'=ao∨∀ a,ao'=some a→w.heap.size≤a.block)∧∀ p∈ps,∀ a,ao'=some a→¬a.block=p
theorem ziN{w:World}{b f:Nat}{ao:Option Addr}{args:Array Value}(h:Calls Tryz.prog f args w fun e w'=>e=zak 8 0∧Below w.heap.size w w'):Calls Tryz.prog f args w (zdN w b ao none) :=
 h.mono fun _ _ hh=>⟨hh.1,zaJ hh.2⟩
theorem zk9{w:World}{b f cap:Nat}{ao:Option Addr}{args:Array Value}{l:List Int}{ks:List Kn}(_hlt:b<w.heap.size)(B:BhM w ao cap l)(ap:∀ a,ao=some a→¬a.block=b)(hks:∀ k'∈ks,k'.behind=l)(h:Calls Tryz.prog f args w (zc5 w b (.slice ao l.length cap) ks)):Calls Tryz.prog f args w (zdN w b ao (some ks)):=by
 refine h.mono ?_
 rintro e w' ⟨so,sc,ps,rfl,A⟩
 refine⟨so,sc,ps,ao,cap,l.length,rfl,A,fun k' hk'=>?_,.inl rfl,fun p hp a ha=>?_⟩
 ·rw [hks k' hk'];exact⟨rfl,B.grown A.grown ap⟩
 ·obtain⟨g,rfl⟩:=B.at0 a ha
  rcases A.from' p hp with e|e
  ·rw [e];exact ap _ ha
  ·have:=(B.cell g ha).1
   show ¬g=p
   omega
theorem zb2{w:World}{b f cap:Nat}{ao:Option Addr}{args:Array Value}{l:List Int}{k':Kn}(hlt:b<w.heap.size)(B:BhM w ao cap l)(ap:∀ a,ao=some a→¬a.block=b)(hk:k'.behind=l)(h:Calls Tryz.prog f args w (zaQ w b (.slice ao l.length cap) k')):Calls Tryz.prog f args w (zdN w b ao (some [k'])) :=
 zk9 hlt B ap (fun x hx=>by rw [List.mem_singleton.1 hx];exact hk) (h.mono fun _ _ hh=>zk1 hh)
theorem zmq{w:World}{b f:Nat}{ao:Option Addr}{args:Array Value}(h:Calls Tryz.prog f args w fun e w'=>e=.returned (.slice none 0 0)∧Below w.heap.size w w'):Calls Tryz.prog f args w (zdN w b ao (some [])):=by
 refine h.mono ?_
 rintro e w' ⟨rfl,hb⟩
 exact⟨none,0,[],ao,0,0,rfl,⟨zaJ hb,fun i p hp=>by simp at hp,rfl,fun i p k hp=>by simp at hp,List.nodup_nil,fun p hp=>by cases hp⟩,fun k' hk'=>(by cases hk'),.inl rfl,fun p hp=>(by cases hp)⟩
theorem zz8{w:World}{b:Nat}{bv:Value}{k:Kn}{e:Ending}{w':World}(h:zaQ w b bv k e w'):∃ g,e=.returned (.slice (some ⟨g,0,none⟩) [b].length 1)∧WaysAt w w' b bv [k] (some ⟨g,0,none⟩) [b]:=by
 obtain⟨g,rfl,hg,hc,hk,hgr⟩:=h
 refine⟨g,rfl,⟨hgr,fun i p hp=>?_,rfl,fun i p k' hp hk'=>?_,by simp,fun p hp=>.inl (List.mem_singleton.1 hp)⟩⟩
 ·cases i with
  | zero=>cases hp;exact⟨g,rfl,hg,hc⟩
  | succ i=>simp at hp
 ·cases i with
  | zero=>cases hp;cases hk';exact hk
  | succ i=>simp at hp
theorem zgg{k:Kn}{l r:Nat}{f g:Rg→Rg→Option (Rg × Rg)}{z:Int}:∀ k'∈zbr k l r f g z,k'.behind=k.behind:=by
 intro k' hk'
 unfold zbr at hk'
 split at hk'
 ·rcases List.mem_cons.1 hk' with rfl|h
  ·rfl
  ·rw [List.mem_singleton.1 h];rfl
 ·rw [List.mem_singleton.1 hk'];rfl
 ·rw [List.mem_singleton.1 hk'];rfl
 ·rw [List.mem_singleton.1 hk'];rfl
theorem znW{l:List Int}(h:l≠[]):l=l.dropLast++[l.getLastD 0]:=by
 rw [List.getLastD_eq_getLast?,List.getLast?_eq_some_getLast h]
 exact(List.dropLast_concat_getLast h).symm
theorem ztS{w:World}{b cap:Nat}{ao:Option Addr}{k:Kn}(i:Ins)(hi:zhn i)(h:KnM w b (.slice ao k.behind.length cap) k)(B:BhM w ao cap k.behind)(ap:∀ a,ao=some a→¬a.block=b)(K:KnOk k)(h0:0≤k.steps)(h1:k.steps≤100000)(n0:0≤k.next)(n1:k.next≤100000):
  Calls Tryz.prog (insL i) #[.agg (insA i),.pointer (some ⟨b,0,none⟩)] w (zdN w b ao (zaw i k)):=by
 have hlt:=h.lt
 cases i with
 | set r n=>exact zb2 hlt B ap rfl (zt7 h r hi n h0 h1 n0 n1)
 | mov r s=>exact zb2 hlt B ap rfl (ztL h r hi.1 s hi.2 h0 h1 n0 n1)
 | alu o r s t =>
  obtain⟨ho,hr,hs,ht⟩:=hi
  rcases(by omega:o=0∨o=1∨o=2) with rfl|rfl|rfl
  ·exact zb2 hlt B ap rfl (ztI h r hr s hs t ht h0 h1 n0 n1)
  ·exact zb2 hlt B ap rfl (ztO h r hr s hs t ht h0 h1 n0 n1)
  ·exact zb2 hlt B ap rfl (ztJ h K r hr s hs t ht h0 h1 n0 n1)
 | inc r n=>exact zb2 hlt B ap rfl (ztK h r hi n h0 h1 n0 n1)
 | load r s =>
  have hs:=(K.regs s hi.2)
  by_cases hc:0≤(k.regs s).lo∧(k.regs s).hi≤15
  ·have e:zaw (.load r s) k=some [{ k with regs:=updR k.regs r (zch k.cells (k.regs s).lo.toNat ((k.regs s).hi.toNat-(k.regs s).lo.toNat)) }.goTo (k.next+1)]:=by simp only [zaw,zbM,if_pos hc]
   rw [e]
   exact zb2 hlt B ap rfl (zrb h r hi.1 s hi.2 hs.2.2 hc.1 hc.2 h0 h1 n0 n1)
  ·have e:zaw (.load r s) k=none:=by simp only [zaw,zbM,if_neg hc]
   rw [e]
   exact ziN (zjp h r s hi.2 hs hc)
 | store r s =>
  have hs:=(K.regs r hi.1)
  by_cases hc:0≤(k.regs r).lo∧(k.regs r).hi≤15
  ·have e:zaw (.store r s) k=some [{ k with cells:=zaB k.cells (k.regs r).lo.toNat (k.regs r).hi.toNat (k.regs s) }.goTo (k.next+1)]:=by simp only [zaw,zbM,if_pos hc]
   rw [e]
   exact zb2 hlt B ap rfl (znS h r hi.1 s hi.2 hs.2.2 hc.1 hc.2 h0 h1 n0 n1)
  ·have e:zaw (.store r s) k=none:=by simp only [zaw,zbM,if_neg hc]
   rw [e]
   exact ziN (ziH h r hi.1 s hi.2 hs hc)
 | read r=>exact zb2 hlt B ap rfl (zqW h r hi h0 h1 n0 n1)
 | write r=>exact zb2 hlt B ap rfl (znV h r h0 h1 n0 n1)
 | jump to=>exact zb2 hlt B ap rfl (zrh h to h0 h1)
 | less l r to =>
  by_cases e:l=r
  ·subst e
   have e1:zaw (.less l l to) k=some [k.goTo (k.next+1)]:=by simp only [zaw,if_true]
   rw [e1]
   exact zb2 hlt B ap rfl (ziL h l to h0 h1 n0 n1)
  ·have e1:zaw (.less l r to) k=some (zbr k l r ze6 zbk to):=by simp only [zaw,if_neg e]
   rw [e1]
   exact zk9 hlt B ap zgg (zhp h rfl K l r hi.1 hi.2 e to h0 h1 n0 n1)
 | same l r to =>
  by_cases e:l=r
  ·subst e
   have e1:zaw (.same l l to) k=some [k.goTo to]:=by simp only [zaw,if_true]
   rw [e1]
   exact zb2 hlt B ap rfl (ziM h l to h0 h1)
  ·have e1:zaw (.same l r to) k=some (zbr k l r ze7 za8 to):=by simp only [zaw,if_neg e]
   rw [e1]
   exact zk9 hlt B ap zgg (zhq h rfl K l r hi.1 hi.2 e to h0 h1 n0 n1)
 | call to =>
  have hl:=B.len
  by_cases e:k.behind.length+1=16
  ·have e1:zaw (.call to) k=none:=by simp only [zaw,if_pos e]
   rw [e1]
   exact ziN (ziI h to (by omega))
  ·have e1:zaw (.call to) k=some [{ k with behind:=k.behind++[k.next+1] }.goTo to]:=by simp only [zaw,if_neg e]
   rw [e1]
   refine(zrj h B to (by omega) h0 h1 n0 n1).mono ?_
   rintro e w' ⟨g,c,hw,hB,hg⟩
   obtain⟨g2,rfl,A⟩:=zz8 hw
   refine⟨some ⟨g2,0,none⟩,1,[b],some ⟨g,0,none⟩,c,_,rfl,A,fun k' hk'=>?_,.inr fun a ha=>(by cases ha;exact hg),fun p hp a ha=>?_⟩
   ·rw [List.mem_singleton.1 hk'];exact⟨by show _=(k.behind++[k.next+1]).length;simp,hB⟩
   ·cases ha
    rw [List.mem_singleton.1 hp]
    show ¬g=b
    omega
 | back =>
  cases hb:k.behind with
  | nil =>
   have e1:zaw .back k=some []:=by simp only [zaw,hb]
   rw [e1]
   rw [hb] at h
   exact zmq (ziJ h)
  | cons x r =>
   have hne:k.behind≠[]:=by rw [hb];simp
   have e1:zaw .back k=some [{ k with behind:=k.behind.dropLast }.goTo (k.behind.getLastD 0)]:=by simp only [zaw,hb]
   rw [e1]
   refine(ziK h B (znW hne) ap h0 h1).mono ?_
   rintro e w' ⟨hw,hB⟩
   obtain⟨so,sc,ps,rfl,A⟩:=zk1 hw
   refine⟨so,sc,ps,ao,cap,_,rfl,A,fun k' hk'=>?_,.inl rfl,fun p hp a ha=>?_⟩
   ·rw [List.mem_singleton.1 hk'];exact⟨rfl,hB⟩
   ·obtain⟨g,rfl⟩:=B.at0 a ha
    rcases A.from' p hp with e|e
    ·rw [e];exact ap _ ha
    ·have:=(B.cell g ha).1
     show ¬g=p
     omega
 | stop=>exact zmq (zri _)
end
namespace Sp
def zcP(L:List Said)(p:Nat):Option (Ins × Int):=L[p]?.map fun q=>(insQ L p q,zau L (p+1))
theorem zaK{L:List Said}{m:Mc}{p:Nat}{i:Ins}{nx:Int}(hp:m.at'=(p:Int))(h:zcP L p=some (i,nx)):zc9 L m=exec i nx m:=by
 unfold zcP at h
 unfold zc9
 rw [hp,Int.toNat_natCast]
 cases hq:L[p]? with
 | none=>rw [hq] at h;cases h
 | some q =>
  rw [hq] at h
  simp only [Option.map_some,Option.some.injEq,Prod.mk.injEq] at h
  rw [←h.1,←h.2]
end Sp
section
open Go.RowKit Sp
theorem zw6:Tryz.prog.built 217 []=some (zaT (.slice none 0 0) kn0).toArray:=by kernel_rfl
theorem ztY(w:World):KnM (w.alloc (.cells (zaT (.slice none 0 0) kn0).toArray 217)) w.heap.size (.slice none 0 0) kn0:=by
 have hr:=zio w (zaT (.slice none 0 0) kn0) 217
 refine(ziB (o:=0) fun j hj=>?_).whole (fun j=>by simp)
 have hl:j<(zaT (.slice none 0 0) kn0).length:=by rw [zdr];exact hj
 exact(hr j _ (List.getElem?_eq_getElem hl)).trans (List.getElem?_eq_getElem hl).symm
theorem zoa(w:World):Calls Tryz.prog 113 #[] w fun e w'=>e=.returned (.pointer (some ⟨w.heap.size,0,none⟩))∧KnM w' w.heap.size (.slice none 0 0) kn0∧Below w.heap.size w w'∧w'.heap.size=w.heap.size+1:=by
 have hb:=zw6
 have hm:=ztY w
 generalize zaT (.slice none 0 0) kn0=ds at hb hm
 go_enter Tryz.func113,Tryz.ntmps113
 go_wp2_with(first
  | (refine wpList_build rfl 217 _ rfl ?_ ?_
     ·simp [hb]
     simp only [List.map_toArray,List.map_nil,Act.eval]
     refine Hid.out ?_))
 unfold Hid
 erw [hb]
 simp only [Option.getD_some,Act.put,List.setIfInBounds_toArray,List.set_cons_succ,List.set_cons_zero]
 go_wp2_with(first|(refine Go.Great.wpList_boxTo rfl 217 _ rfl _ rfl w.heap.size rfl ds.toArray rfl ?_))
 go_ret
 exact⟨rfl,hm,(Below.refl _ _).alloc (Nat.le_refl _) _,by simp⟩
theorem zrk (v:Value) (w:World):(method 422 171 v "Learn").run Tryz.prog w=.ok (233,v) w:=by kernel_rfl
theorem znX(args:Array Value)(w:World):(callFunc 233 args).run Tryz.prog w=.ok (.enter 233 args) w:=by kernel_rfl
theorem zrl (v:Value) (w:World):(method 422 172 v "Learn").run Tryz.prog w=.ok (240,v) w:=by kernel_rfl
theorem znY(args:Array Value)(w:World):(callFunc 240 args).run Tryz.prog w=.ok (.enter 240 args) w:=by kernel_rfl
theorem zrm (v:Value) (w:World):(method 422 173 v "Learn").run Tryz.prog w=.ok (244,v) w:=by kernel_rfl
theorem znZ(args:Array Value)(w:World):(callFunc 244 args).run Tryz.prog w=.ok (.enter 244 args) w:=by kernel_rfl
theorem ztT (i:Ins) (hi:zhn i) (w:World):(method 422 (insT i) (.agg (insA i)) "Learn").run Tryz.prog w=.ok (insL i,.agg (insA i)) w:=by
 cases i with
 | alu o r s t =>
  have ho:=hi.1
  clear hi
  rcases(by omega:o=0∨o=1∨o=2) with rfl|rfl|rfl
  ·exact zrk _ w
  ·exact zrl _ w
  ·exact zrm _ w
 | _=>kernel_rfl
theorem zrn(i:Ins)(hi:zhn i)(args:Array Value)(w:World):(callFunc (insL i) args).run Tryz.prog w=.ok (.enter (insL i) args) w:=by
 cases i with
 | alu o r s t =>
  have ho:=hi.1
  clear hi
  rcases(by omega:o=0∨o=1∨o=2) with rfl|rfl|rfl
  ·exact znX args w
  ·exact znY args w
  ·exact znZ args w
 | _=>kernel_rfl
theorem ztU{w:World}{S b:Nat}{bv:Value}{k:Kn}(X:KnM w b bv k)(e:k.steps=100000):
  Calls Tryz.prog 116 #[.pointer (some ⟨S,0,none⟩),.pointer (some ⟨b,0,none⟩)] w fun e w'=>e=zak 8 0∧w'=w:=by
 have h1:=zbI X
 rw [e] at h1
 go_enter Tryz.func116,Tryz.ntmps116
 go_wp2_with(go_at_call 134;(with_reducible refine h1.mono ?_);rintro e wx ⟨rfl,hww⟩;have hw2:=hww.symm;subst hw2)
 all_goals go_wp2
 exact⟨rfl,rfl,rfl,rfl,rfl⟩
theorem zro{w:World}{S b:Nat}{bv:Value}{k:Kn}(X:KnM w b bv k)(e:¬k.steps=100000)(h:Calls Tryz.prog 135 #[.pointer (some ⟨S,2,none⟩),.pointer (some ⟨b,0,none⟩)] w fun e w'=>e=.returned (.bool true)∧Below w.heap.size w w'):
  Calls Tryz.prog 116 #[.pointer (some ⟨S,0,none⟩),.pointer (some ⟨b,0,none⟩)] w fun e w'=>e=zak 8 0∧Below w.heap.size w w':=by
 have h1:=zbI X
 have t:(k.steps == 100000)=false:=by simpa using e
 go_enter Tryz.func116,Tryz.ntmps116
 go_wp2_with(first
  | (go_at_call 134;(with_reducible refine h1.mono ?_);rintro e wx ⟨rfl,hww⟩;have hw2:=hww.symm;subst hw2)
  | (go_at_call 135;(with_reducible refine h.mono ?_);rintro e wy ⟨rfl,hby⟩))
 all_goals go_wp2
 exact⟨rfl,rfl,rfl,rfl,hby⟩
def zwp(w:World)(S o B H cap:Nat)(xs:List Wy):Ending→World→Prop:=fun e w'=>e=.returned (.pointer (some ⟨(xs.getD 0 wy0).b,0,none⟩))∧∃ ys:List Wy,(xs.getD 0 wy0 :: ys).Perm xs∧w'.cell? ⟨S,o,none⟩=some (.slice (some ⟨H,0,none⟩) ys.length cap)∧HeapM w' B (.slice (some ⟨H,0,none⟩) ys.length cap) ys∧HpAll (stp ys) ys.length∧WyM w' (xs.getD 0 wy0)∧Kept2 w w' S o (some H)
theorem zt6{w:World}{S o B H cap:Nat}{xs:List Wy}(hc:w.cell? ⟨S,o,none⟩=some (.slice (some ⟨H,0,none⟩) xs.length cap))(hz:w.frozen? ⟨S,o,none⟩=false)(M:HeapM w B (.slice (some ⟨H,0,none⟩) xs.length cap) xs)(hA:HpAll (stp xs) xs.length)(hne:0<xs.length)(hlen:xs.length≤100000)(hSH:¬S=H)(hS:∀ y∈xs,¬y.b=S∧∀ a,y.ao=some a→¬a.block=S):
  Calls Tryz.prog 139 #[.pointer (some ⟨S,o,none⟩)] w (zwp w S o B H cap xs):=by
 obtain⟨P,p1,p2,p3⟩:=M.hp
 obtain⟨m,hm⟩:∃ m,xs.length=m+1:=⟨xs.length-1,by omega⟩
 have hSl:S<w.heap.size:=World.block_lt_of_cell? w _ hc
 have c0:=(P.at' (i:=0) (by omega)).1
 have cl:=(P.at' (i:=m) (by omega)).1
 obtain⟨W1,hW1⟩:∃ W1,W1=(w.setCell ⟨H,0,none⟩ (.pointer (some ⟨(xs.getD m wy0).b,0,none⟩))).setCell ⟨H,m,none⟩ (.pointer none):=⟨_,rfl⟩
 obtain⟨W2,hW2⟩:∃ W2,W2=W1.setCell ⟨S,o,none⟩ (.slice (some ⟨H,0,none⟩) m cap):=⟨_,rfl⟩
 have hHS:¬H=S:=fun e=>hSH e.symm
 have b1:∀ q,¬q=H→W1.heap[q]?=w.heap[q]?:=fun q hq=>by rw [hW1];exact(Below.heap_setCell _ _ _ q hq).trans (Below.heap_setCell _ _ _ q hq)
 have b2:∀ q,¬q=S→W2.heap[q]?=W1.heap[q]?:=fun q hq=>by rw [hW2];exact Below.heap_setCell _ _ _ q hq
 have s1:W1.heap.size=w.heap.size:=by rw [hW1,World.size_setCell,World.size_setCell]
 have s2:W2.heap.size=w.heap.size:=by rw [hW2,World.size_setCell,s1]
 have l0:(w.setCell ⟨H,0,none⟩ (.pointer (some ⟨(xs.getD m wy0).b,0,none⟩))).cell? ⟨H,m,none⟩=some (.pointer (some ⟨(xs.getD m wy0).b,0,none⟩)):=by
  rw [zaq w H 0 m _ _ c0]
  split
  ·rfl
  ·exact cl
 have cS1:W1.cell? ⟨S,o,none⟩=some (.slice (some ⟨H,0,none⟩) xs.length cap):=(World.cell?_of_block (a:=⟨S,o,none⟩) (b1 S hSH)).trans hc
 have cS2:W2.cell? ⟨S,o,none⟩=some (.slice (some ⟨H,0,none⟩) m cap):=by rw [hW2];exact World.cell?_setCell_same _ _ _ cS1
 have wyk:∀ x∈xs,WyM W2 x:=fun x hx=>by
  obtain⟨f1,f2⟩:=P.far x hx
  obtain⟨f3,f4⟩:=hS x hx
  rw [hW2,hW1]
  exact(((P.wy x hx).other f1 f2).other f1 f2).other f3 f4
 have PX:HpM W2 H cap (zgA xs m):=by
  refine⟨fun i x hx=>?_,fun x hx=>wyk x (zma hm x hx),by rw [s2];exact P.lt,fun x hx=>P.far x (zma hm x hx),fun j=>?_,?_⟩
  ·have hi:i<m:=by have:=(List.getElem?_eq_some_iff.1 hx).1;rw [zge hm] at this;exact this
   rw [zps hm hi] at hx
   rw [World.cell?_of_block (a:=⟨H,i,none⟩) (b2 H hHS),hW1,zaq _ H m i _ _ l0,if_neg (by omega),zaq w H 0 i _ _ c0]
   cases hx
   by_cases e:i=0
   ·rw [if_pos e,if_pos e]
   ·rw [if_neg e,if_neg e];exact(P.at' (i:=i) (by omega)).1
  ·rw [World.frozen?_of_block (a:=⟨H,j,none⟩) (b2 H hHS),hW1,zcL,zcL];exact P.fz j
  ·obtain⟨cur,h1,h2⟩:=P.shape
   refine⟨_,(b2 H hHS).trans (by rw [hW1];exact heap_setCell_same _ H m _ 197 _ (heap_setCell_same _ H 0 _ 197 _ h1)),by simpa using h2⟩
 have hK2:∀ W',W2.grownBy W' (some H)→Kept2 w W' S o (some H):=fun W' hg=>by
  have hbS:W'.heap[S]?=W2.heap[S]?:=hg.block S (by omega) (fun e=>hSH (by cases e;rfl))
  refine⟨hg.os.trans (by rw [hW2,hW1];rfl),hg.tape.trans (by rw [hW2,hW1];rfl),hg.output.trans (by rw [hW2,hW1];rfl),by rw [←s2];exact hg.size,fun q hq h1 h2=>?_,fun j hj=>?_,fun j=>?_⟩
  ·exact(hg.block q (by omega) h2).trans ((b2 q h1).trans (b1 q (fun e=>h2 (by rw [e]))))
  ·rw [World.cell?_of_block (w:=W2) (a:=⟨S,j,none⟩) hbS,hW2,zaq _ S o j _ _ cS1,if_neg hj]
   exact World.cell?_of_block (a:=⟨S,j,none⟩) (b1 S hSH)
  ·rw [World.frozen?_of_block (w:=W2) (a:=⟨S,j,none⟩) hbS,hW2,zcL]
   exact World.frozen?_of_block (a:=⟨S,j,none⟩) (b1 S hSH)
 have x0in:xs.getD 0 wy0∈xs:=(zgB hm).mem_iff.1 List.mem_cons_self
 have hfin:∀ W' ys,W2.grownBy W' (some H)→ys.Perm (zgA xs m)→HpM W' H cap ys→HpAll (stp ys) ys.length→∃ ys:List Wy,(xs.getD 0 wy0 :: ys).Perm xs∧W'.cell? ⟨S,o,none⟩=some (.slice (some ⟨H,0,none⟩) ys.length cap)∧HeapM W' B (.slice (some ⟨H,0,none⟩) ys.length cap) ys∧HpAll (stp ys) ys.length∧WyM W' (xs.getD 0 wy0)∧Kept2 w W' S o (some H):=fun W' ys hg hp hM hA2=>by
  have hyl:ys.length=m:=by rw [hp.length_eq,zge hm]
  refine⟨ys,(List.Perm.cons _ hp).trans (zgB hm),?_,hM.heap (by omega) p2 p3,hA2,(wyk _ x0in).grown hg (fun g e=>by cases e;exact P.far _ x0in),hK2 W' hg⟩
  rw [World.cell?_of_block (w:=W2) (a:=⟨S,o,none⟩) (hg.block S (by omega) (fun e=>hSH (by cases e;rfl))),cS2,hyl]
 rw [hm] at hc p1
 refine(zt5 hc hz hSH (by omega) p1 p2 c0 cl P.fz hSl (fun W'=>∃ ys:List Wy,(xs.getD 0 wy0 :: ys).Perm xs∧W'.cell? ⟨S,o,none⟩=some (.slice (some ⟨H,0,none⟩) ys.length cap)∧HeapM W' B (.slice (some ⟨H,0,none⟩) ys.length cap) ys∧HpAll (stp ys) ys.length∧WyM W' (xs.getD 0 wy0)∧Kept2 w W' S o (some H)) (fun W hW=>?_)).mono fun e w' hh=>hh
 rw [←hW1,←hW2] at hW
 have hW':Below W2.heap.size W2 W:=by rw [s2];exact hW
 by_cases h0:m=0
 ·subst h0
  refine zqL.mono ?_
  rintro e w' ⟨rfl,hb⟩
  have hb2:Below W2.heap.size W2 w':=hW'.trans (hb.mono hW'.size)
  exact⟨rfl,hfin w' (zgA xs 0) (zaJ hb2) (List.Perm.refl _) (PX.below hb2) (fun i hi hn=>by rw [zge hm] at hn;omega)⟩
 ·have hR:SinkI (stp (zgA xs m)) m 0:=SinkI.head (m:=m) (n:=xs.length) hA (by omega) (fun i hi hn=>by
   unfold stp
   have e:=zps hm (i:=i) hn
   rw [if_neg (by omega)] at e
   simp only [List.getD,e]
   rfl)
  refine(zwn (cap:=cap) (PX.below hW') (zge hm) 0 (by omega) (by omega) hR).mono ?_
  rintro e w' ⟨rfl,ys,hp,hM,hA2,hg⟩
  exact⟨rfl,hfin w' ys (zae (zaJ hW') hg) hp hM hA2⟩
end
end Go.Proofs.YtfpgjkbjbbgciaaGreatDoor
