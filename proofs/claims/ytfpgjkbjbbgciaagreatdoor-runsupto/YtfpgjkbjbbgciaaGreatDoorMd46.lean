import Derived.Test.YtfpgjkbjbbgciaaGreatDoorMd40
import Derived.Test.YtfpgjkbjbbgciaaGreatDoorMd42
import Derived.Test.YtfpgjkbjbbgciaaGreatDoorMd43
import Derived.Test.YtfpgjkbjbbgciaaGreatDoorMd44
import Derived.Test.YtfpgjkbjbbgciaaGreatDoorMd45
set_option maxRecDepth 100000
set_option maxHeartbeats 8000000
namespace Go.Proofs.YtfpgjkbjbbgciaaGreatDoor
open Go.RowKit Sp
def insL:Ins→Nat
 | .set _ _=>224|.mov _ _=>231|.alu o _ _ _=>if o=0 then 233 else if o=1 then 240 else 244|.inc _ _=>250|.load _ _=>252|.store _ _=>257
 | .read _=>260|.write _=>263|.jump _=>266|.less _ _ _=>268|.same _ _ _=>275|.call _=>280|.back=>285|.stop=>289
def zdQ(w:World)(b:Nat)(ao:Option Addr):Option (List Kn)→Ending→World→Prop
 | none=>fun e w'=>e=zaj 8 0∧w.grownBy w' (some b)
 | some ks=>fun e w'=>∃(so:Option Addr) (sc:Nat) (ps:List Nat) (ao':Option Addr) (cap' n':Nat),e=.returned (.slice so ps.length sc)∧WaysAt w w' b (.slice ao' n' cap') ks so ps∧(∀ k'∈ks,n'=k'.behind.length∧BhM w' ao' cap' k'.behind)∧(ao'=ao∨∀ a,ao'=some a→w.heap.size≤a.block)∧∀ p∈ps,∀ a,ao'=some a→¬a.block=p
theorem ziz{w:World}{b f:Nat}{ao:Option Addr}{args:Array Value}(h:Calls Tryz.prog f args w fun e w'=>e=zaj 8 0∧Below w.heap.size w w'):Calls Tryz.prog f args w (zdQ w b ao none) :=
 h.mono fun _ _ hh=>⟨hh.1,zaQ hh.2⟩
theorem zku{w:World}{b f cap:Nat}{ao:Option Addr}{args:Array Value}{l:List Int}{ks:List Kn}(_hlt:b<w.heap.size)(B:BhM w ao cap l)(ap:∀ a,ao=some a→¬a.block=b)(hks:∀ k'∈ks,k'.behind=l)(h:Calls Tryz.prog f args w (zcJ w b (.slice ao l.length cap) ks)):Calls Tryz.prog f args w (zdQ w b ao (some ks)):=by
 refine h.mono ?_
 rintro e w' ⟨so,sc,ps,rfl,A⟩
 refine⟨so,sc,ps,ao,cap,l.length,rfl,A,fun k' hk'=>?_,.inl rfl,fun p hp a ha=>?_⟩
 ·rw [hks k' hk'];exact⟨rfl,B.grown A.grown ap⟩
 ·obtain⟨g,rfl⟩:=B.at0 a ha
  rcases A.from' p hp with e|e
  ·rw [e];exact ap _ ha
  ·have:=(B.cell g ha).1
   show ¬g=p
   omega
theorem zbF{w:World}{b f cap:Nat}{ao:Option Addr}{args:Array Value}{l:List Int}{k':Kn}(hlt:b<w.heap.size)(B:BhM w ao cap l)(ap:∀ a,ao=some a→¬a.block=b)(hk:k'.behind=l)(h:Calls Tryz.prog f args w (zaZ w b (.slice ao l.length cap) k')):Calls Tryz.prog f args w (zdQ w b ao (some [k'])) :=
 zku hlt B ap (fun x hx=>by rw [List.mem_singleton.1 hx];exact hk) (h.mono fun _ _ hh=>zkm hh)
theorem zmi{w:World}{b f:Nat}{ao:Option Addr}{args:Array Value}(h:Calls Tryz.prog f args w fun e w'=>e=.returned (.slice none 0 0)∧Below w.heap.size w w'):Calls Tryz.prog f args w (zdQ w b ao (some [])):=by
 refine h.mono ?_
 rintro e w' ⟨rfl,hb⟩
 exact⟨none,0,[],ao,0,0,rfl,⟨zaQ hb,fun i p hp=>by simp at hp,rfl,fun i p k hp=>by simp at hp,List.nodup_nil,fun p hp=>by cases hp⟩,fun k' hk'=>(by cases hk'),.inl rfl,fun p hp=>(by cases hp)⟩
theorem zyy{w:World}{b:Nat}{bv:Value}{k:Kn}{e:Ending}{w':World}(h:zaZ w b bv k e w'):∃ g,e=.returned (.slice (some ⟨g,0,none⟩) [b].length 1)∧WaysAt w w' b bv [k] (some ⟨g,0,none⟩) [b]:=by
 obtain⟨g,rfl,hg,hc,hk,hgr⟩:=h
 refine⟨g,rfl,⟨hgr,fun i p hp=>?_,rfl,fun i p k' hp hk'=>?_,by simp,fun p hp=>.inl (List.mem_singleton.1 hp)⟩⟩
 ·cases i with
  | zero=>cases hp;exact⟨g,rfl,hg,hc⟩
  | succ i=>simp at hp
 ·cases i with
  | zero=>cases hp;cases hk';exact hk
  | succ i=>simp at hp
theorem zge{k:Kn}{l r:Nat}{f g:Rg→Rg→Option (Rg × Rg)}{z:Int}:∀ k'∈zb5 k l r f g z,k'.behind=k.behind:=by
 intro k' hk'
 unfold zb5 at hk'
 split at hk'
 ·rcases List.mem_cons.1 hk' with rfl|h
  ·rfl
  ·rw [List.mem_singleton.1 h];rfl
 ·rw [List.mem_singleton.1 hk'];rfl
 ·rw [List.mem_singleton.1 hk'];rfl
 ·rw [List.mem_singleton.1 hk'];rfl
theorem zn7{l:List Int}(h:l≠[]):l=l.dropLast++[l.getLastD 0]:=by
 rw [List.getLastD_eq_getLast?,List.getLast?_eq_some_getLast h]
 exact(List.dropLast_concat_getLast h).symm
theorem ztH{w:World}{b cap:Nat}{ao:Option Addr}{k:Kn}(i:Ins)(hi:zgW i)(h:KnM w b (.slice ao k.behind.length cap) k)(B:BhM w ao cap k.behind)(ap:∀ a,ao=some a→¬a.block=b)(K:KnOk k)(h0:0≤k.steps)(h1:k.steps≤100000)(n0:0≤k.next)(n1:k.next≤100000):
  Calls Tryz.prog (insL i) #[.agg (insA i),.pointer (some ⟨b,0,none⟩)] w (zdQ w b ao (za1 i k)):=by
 have hlt:=h.lt
 cases i with
 | set r n=>exact zbF hlt B ap rfl (zty h r hi n h0 h1 n0 n1)
 | mov r s=>exact zbF hlt B ap rfl (ztA h r hi.1 s hi.2 h0 h1 n0 n1)
 | alu o r s t =>
  obtain⟨ho,hr,hs,ht⟩:=hi
  rcases(by omega:o=0∨o=1∨o=2) with rfl|rfl|rfl
  ·exact zbF hlt B ap rfl (zt7 h r hr s hs t ht h0 h1 n0 n1)
  ·exact zbF hlt B ap rfl (ztD h r hr s hs t ht h0 h1 n0 n1)
  ·exact zbF hlt B ap rfl (zt8 h K r hr s hs t ht h0 h1 n0 n1)
 | inc r n=>exact zbF hlt B ap rfl (zt9 h r hi n h0 h1 n0 n1)
 | load r s =>
  have hs:=(K.regs s hi.2)
  by_cases hc:0≤(k.regs s).lo∧(k.regs s).hi≤15
  ·have e:za1 (.load r s) k=some [{ k with regs:=updR k.regs r (zct k.cells (k.regs s).lo.toNat ((k.regs s).hi.toNat-(k.regs s).lo.toNat)) }.goTo (k.next+1)]:=by simp only [za1,zcc,if_pos hc]
   rw [e]
   exact zbF hlt B ap rfl (zqH h r hi.1 s hi.2 hs.2.2 hc.1 hc.2 h0 h1 n0 n1)
  ·have e:za1 (.load r s) k=none:=by simp only [za1,zcc,if_neg hc]
   rw [e]
   exact ziz (ziI h r s hi.2 hs hc)
 | store r s =>
  have hs:=(K.regs r hi.1)
  by_cases hc:0≤(k.regs r).lo∧(k.regs r).hi≤15
  ·have e:za1 (.store r s) k=some [{ k with cells:=zaL k.cells (k.regs r).lo.toNat (k.regs r).hi.toNat (k.regs s) }.goTo (k.next+1)]:=by simp only [za1,zcc,if_pos hc]
   rw [e]
   exact zbF hlt B ap rfl (zn3 h r hi.1 s hi.2 hs.2.2 hc.1 hc.2 h0 h1 n0 n1)
  ·have e:za1 (.store r s) k=none:=by simp only [za1,zcc,if_neg hc]
   rw [e]
   exact ziz (zit h r hi.1 s hi.2 hs hc)
 | read r=>exact zbF hlt B ap rfl (zqD h r hi h0 h1 n0 n1)
 | write r=>exact zbF hlt B ap rfl (zn6 h r h0 h1 n0 n1)
 | jump to=>exact zbF hlt B ap rfl (zqN h to h0 h1)
 | less l r to =>
  by_cases e:l=r
  ·subst e
   have e1:za1 (.less l l to) k=some [k.goTo (k.next+1)]:=by simp only [za1,if_true]
   rw [e1]
   exact zbF hlt B ap rfl (zix h l to h0 h1 n0 n1)
  ·have e1:za1 (.less l r to) k=some (zb5 k l r zeB zbv to):=by simp only [za1,if_neg e]
   rw [e1]
   exact zku hlt B ap zge (zgY h rfl K l r hi.1 hi.2 e to h0 h1 n0 n1)
 | same l r to =>
  by_cases e:l=r
  ·subst e
   have e1:za1 (.same l l to) k=some [k.goTo to]:=by simp only [za1,if_true]
   rw [e1]
   exact zbF hlt B ap rfl (ziy h l to h0 h1)
  ·have e1:za1 (.same l r to) k=some (zb5 k l r zeC zaI to):=by simp only [za1,if_neg e]
   rw [e1]
   exact zku hlt B ap zge (zgZ h rfl K l r hi.1 hi.2 e to h0 h1 n0 n1)
 | call to =>
  have hl:=B.len
  by_cases e:k.behind.length+1=16
  ·have e1:za1 (.call to) k=none:=by simp only [za1,if_pos e]
   rw [e1]
   exact ziz (ziu h to (by omega))
  ·have e1:za1 (.call to) k=some [{ k with behind:=k.behind++[k.next+1] }.goTo to]:=by simp only [za1,if_neg e]
   rw [e1]
   refine(zqP h B to (by omega) h0 h1 n0 n1).mono ?_
   rintro e w' ⟨g,c,hw,hB,hg⟩
   obtain⟨g2,rfl,A⟩:=zyy hw
   refine⟨some ⟨g2,0,none⟩,1,[b],some ⟨g,0,none⟩,c,_,rfl,A,fun k' hk'=>?_,.inr fun a ha=>(by cases ha;exact hg),fun p hp a ha=>?_⟩
   ·rw [List.mem_singleton.1 hk'];exact⟨by show _=(k.behind++[k.next+1]).length;simp,hB⟩
   ·cases ha
    rw [List.mem_singleton.1 hp]
    show ¬g=b
    omega
 | back =>
  cases hb:k.behind with
  | nil =>
   have e1:za1 .back k=some []:=by simp only [za1,hb]
   rw [e1]
   rw [hb] at h
   exact zmi (ziv h)
  | cons x r =>
   have hne:k.behind≠[]:=by rw [hb];simp
   have e1:za1 .back k=some [{ k with behind:=k.behind.dropLast }.goTo (k.behind.getLastD 0)]:=by simp only [za1,hb]
   rw [e1]
   refine(ziw h B (zn7 hne) ap h0 h1).mono ?_
   rintro e w' ⟨hw,hB⟩
   obtain⟨so,sc,ps,rfl,A⟩:=zkm hw
   refine⟨so,sc,ps,ao,cap,_,rfl,A,fun k' hk'=>?_,.inl rfl,fun p hp a ha=>?_⟩
   ·rw [List.mem_singleton.1 hk'];exact⟨rfl,hB⟩
   ·obtain⟨g,rfl⟩:=B.at0 a ha
    rcases A.from' p hp with e|e
    ·rw [e];exact ap _ ha
    ·have:=(B.cell g ha).1
     show ¬g=p
     omega
 | stop=>exact zmi (zqO _)
theorem zkJ(W:World)(v:Value):(Instr.typeAssert (.iface 115 v) 20 115 true).run Tryz.prog W=.ok (.tuple #[v,.bool true]) W:=by kernel_rfl
theorem zmB{w:World}{b:Nat}{x y:Value}(hx:w.cell? ⟨b,0,none⟩=some x)(hy:w.cell? ⟨b+1,0,none⟩=some y)(e l:Value)(o:Obj):
  Below b w (((w.setCell ⟨b,0,none⟩ e).setCell ⟨b+1,0,none⟩ l).alloc o).drew∧(((w.setCell ⟨b,0,none⟩ e).setCell ⟨b+1,0,none⟩ l).alloc o).drew.cell? ⟨b,0,none⟩=some e∧(((w.setCell ⟨b,0,none⟩ e).setCell ⟨b+1,0,none⟩ l).alloc o).drew.cell? ⟨b+1,0,none⟩=some l:=by
 have hlt1:b+1<w.heap.size:=by have:=World.block_lt_of_cell? w _ hy;simpa using this
 refine⟨((((Below.refl b w).setCell (p:=⟨b,0,none⟩) (Nat.le_refl _) _).setCell (p:=⟨b+1,0,none⟩) (Nat.le_succ b) _).alloc (by simp [World.setCell];omega) _).drew,?_,?_⟩
 ·show(((w.setCell ⟨b,0,none⟩ e).setCell ⟨b+1,0,none⟩ l).alloc o).cell? ⟨b,0,none⟩=some e
  rw [World.cell?_alloc_lt _ o ⟨b,0,none⟩ (by simp [World.setCell];omega),World.cell?_setCell_other]
  ·exact World.cell?_setCell_same w _ _ hx
  ·simp
 ·show(((w.setCell ⟨b,0,none⟩ e).setCell ⟨b+1,0,none⟩ l).alloc o).cell? ⟨b+1,0,none⟩=some l
  rw [World.cell?_alloc_lt _ o ⟨b+1,0,none⟩ (by simp [World.setCell];omega)]
  refine World.cell?_setCell_same (u:=y) _ _ _ ?_
  rw [World.cell?_setCell_other]
  ·exact hy
  ·simp
theorem zjK(b:Nat)(x y e l:Int)(w:World)(hx:w.cell? ⟨b,0,none⟩=some (.int .i64 x))(hy:w.cell? ⟨b+1,0,none⟩=some (.int .i64 y))(fx:w.frozen? ⟨b,0,none⟩=false)(fy:w.frozen? ⟨b+1,0,none⟩=false):
  CallsD Tryz.prog 64 #[.pointer (some ⟨b,0,none⟩),.pointer (some ⟨b+1,0,none⟩)] (.panicking ({ v:=.iface 115 (.agg #[.int .i64 e,.int .i64 l]),recovered:=false } :: [])) w fun en u' w' =>
   en=.returned (.tuple #[])∧u'=.panicking ({ v:=.iface 115 (.agg #[.int .i64 e,.int .i64 l]),recovered:=true } :: [])∧Below b w w'∧w'.cell? ⟨b,0,none⟩=some (.int .i64 e)∧w'.cell? ⟨b+1,0,none⟩=some (.int .i64 l):=by
 have has:=zkJ
 refine callsD_of_wpS Tryz.func64 rfl fun c₀ cs hu=>?_
 apply wpS_seq
 apply wpS_region
 simp [wpOpsS,go_sem,recoverD,hu,Tryz.ntmps64,Exit.thenS]
 refine wpS_of_wp ?_
 have hlt1:b+1<w.heap.size:=by have:=World.block_lt_of_cell? w _ hy;simpa using this
 have hlt0:b<w.heap.size:=by omega
 have hn1:¬b=w.heap.size:=by omega
 have hn2:¬b+1=w.heap.size:=by omega
 go_wp2
 go_region
 all_goals exact⟨rfl,_,rfl,.tuple #[],by simp [results,Tryz.results64],rfl,rfl,zmB hx hy _ _ _⟩
theorem zpx(b:Nat)(w:World):
  CallsD Tryz.prog 64 #[.pointer (some ⟨b,0,none⟩),.pointer (some ⟨b+1,0,none⟩)] .returning w fun en u' w'=>en=.returned (.tuple #[])∧u'=.returning∧w'=w:=by
 refine callsD_of_wpS Tryz.func64 rfl fun c₀ cs hu=>?_
 apply wpS_seq
 apply wpS_region
 simp [wpOpsS,go_sem,recoverD,hu,Tryz.ntmps64,Exit.thenS]
 refine wpS_of_wp ?_
 go_wp2
 exact⟨rfl,.returning,by rw [←hu],.tuple #[],by simp [results,Tryz.results64],rfl,rfl,rfl⟩
theorem zqQ (v:Value) (w:World):(method 422 171 v "Learn").run Tryz.prog w=.ok (233,v) w:=by kernel_rfl
theorem zn8(args:Array Value)(w:World):(callFunc 233 args).run Tryz.prog w=.ok (.enter 233 args) w:=by kernel_rfl
theorem zqR (v:Value) (w:World):(method 422 172 v "Learn").run Tryz.prog w=.ok (240,v) w:=by kernel_rfl
theorem zn9(args:Array Value)(w:World):(callFunc 240 args).run Tryz.prog w=.ok (.enter 240 args) w:=by kernel_rfl
theorem zqS (v:Value) (w:World):(method 422 173 v "Learn").run Tryz.prog w=.ok (244,v) w:=by kernel_rfl
theorem znA(args:Array Value)(w:World):(callFunc 244 args).run Tryz.prog w=.ok (.enter 244 args) w:=by kernel_rfl
theorem ztI (i:Ins) (hi:zgW i) (w:World):(method 422 (insT i) (.agg (insA i)) "Learn").run Tryz.prog w=.ok (insL i,.agg (insA i)) w:=by
 cases i with
 | alu o r s t =>
  have ho:=hi.1
  clear hi
  rcases(by omega:o=0∨o=1∨o=2) with rfl|rfl|rfl
  ·exact zqQ _ w
  ·exact zqR _ w
  ·exact zqS _ w
 | _=>kernel_rfl
theorem zqT(i:Ins)(hi:zgW i)(args:Array Value)(w:World):(callFunc (insL i) args).run Tryz.prog w=.ok (.enter (insL i) args) w:=by
 cases i with
 | alu o r s t =>
  have ho:=hi.1
  clear hi
  rcases(by omega:o=0∨o=1∨o=2) with rfl|rfl|rfl
  ·exact zn8 args w
  ·exact zn9 args w
  ·exact znA args w
 | _=>kernel_rfl
theorem ztJ{w:World}{S b:Nat}{bv:Value}{k:Kn}(X:KnM w b bv k)(e:k.steps=100000):
  Calls Tryz.prog 116 #[.pointer (some ⟨S,0,none⟩),.pointer (some ⟨b,0,none⟩)] w fun e w'=>e=zaj 8 0∧w'=w:=by
 have h1:=zbW X
 rw [e] at h1
 go_enter Tryz.func116,Tryz.ntmps116
 go_wp2_with(go_at_call 134;(with_reducible refine h1.mono ?_);rintro e wx ⟨rfl,hww⟩;have hw2:=hww.symm;subst hw2)
 all_goals go_wp2
 exact⟨rfl,rfl,rfl,rfl,rfl⟩
theorem zqU{w:World}{S b:Nat}{bv:Value}{k:Kn}(X:KnM w b bv k)(e:¬k.steps=100000)(h:Calls Tryz.prog 135 #[.pointer (some ⟨S,2,none⟩),.pointer (some ⟨b,0,none⟩)] w fun e w'=>e=.returned (.bool true)∧Below w.heap.size w w'):
  Calls Tryz.prog 116 #[.pointer (some ⟨S,0,none⟩),.pointer (some ⟨b,0,none⟩)] w fun e w'=>e=zaj 8 0∧Below w.heap.size w w':=by
 have h1:=zbW X
 have t:(k.steps == 100000)=false:=by simpa using e
 go_enter Tryz.func116,Tryz.ntmps116
 go_wp2_with(first
  | (go_at_call 134;(with_reducible refine h1.mono ?_);rintro e wx ⟨rfl,hww⟩;have hw2:=hww.symm;subst hw2)
  | (go_at_call 135;(with_reducible refine h.mono ?_);rintro e wy ⟨rfl,hby⟩))
 all_goals go_wp2
 exact⟨rfl,rfl,rfl,rfl,hby⟩
theorem zgd{w:World}{B e size n:Nat}{v:Value}{l:List Value}(h:w.ownsRow B e size v n l):∃ ao cap,v=.slice ao n cap∧n≤cap∧cap≤maxLen∧(ao=none→n=0∧cap=0):=by
 rcases h.2 with ⟨rfl,rfl⟩|⟨g,cap,cur,rfl,_,_,h1,h2,_⟩
 ·exact⟨none,0,rfl,Nat.le_refl _,Nat.zero_le _,fun _=>⟨rfl,rfl⟩⟩
 ·exact⟨_,cap,rfl,h1,h2,fun e=>by cases e⟩
theorem zx6{w:World}{B g cap:Nat}{ms:List Mk}(M:w.ownsRow B 217 51 (.slice (some ⟨g,0,none⟩) ms.length cap) ms.length (zbs ms)){i:Nat}(hi:i<ms.length):KnR w g (i*51) (.slice (ms.getD i mk0).ao (ms.getD i mk0).k.behind.length (ms.getD i mk0).cap) (ms.getD i mk0).k:=by
 have e:ms[i]?=some (ms.getD i mk0):=by simp [List.getD,hi]
 refine zio fun j hj=>?_
 have h1:=zq6 e j hj
 have hl:j<(ms.getD i mk0).cells.length:=by rw [show(ms.getD i mk0).cells.length=51 from zd2 _ _];exact hj
 have h2:(ms.getD i mk0).cells[j]?=some (ms.getD i mk0).cells[j]:=List.getElem?_eq_getElem hl
 rw [h2] at h1
 have:=zfZ M (51*i+j) _ h1
 rw [show i*51+j=51*i+j by omega,this]
 exact h2.symm
theorem zt2{w:World}{S o B:Nat}{mv:Value}{R:Rs}{x:Wy}(h:RsC w S o mv R)(fz:∀ j,w.frozen? ⟨S,j,none⟩=false)(s0:0≤R.steps)(s1:R.steps≤100000)(M:w.ownsRow B 217 51 mv R.marked.length (zbs R.marked))(mbh:∀ m∈R.marked,BhM w m.ao m.cap m.k.behind)(X:WyM w x)(hB:B≤w.heap.size)(hmS:mv.ownBlock≠some S)(hl:R.marked.length≤500000)(hn:R.seen≤500000):
  Calls Tryz.prog 152 #[.pointer (some ⟨S,o,none⟩),.pointer (some ⟨x.b,0,none⟩)] w (zdn w S o B mv (R.see ⟨x.ao,x.cap,x.k⟩)):=by
 obtain⟨ao,cap,rfl,_,_,_⟩:=zgd M
 cases hm:zbR R.steps with
 | true=>exact zvK h fz hm s0 s1 M X hB hmS hl hn
 | false =>
  cases hcv:R.covers with
  | false=>exact zq9 h fz hm s0 s1 M hmS hl hn hcv
  | true =>
   by_cases hlt:R.seen<R.marked.length
   ·refine zqB h fz hm s0 s1 M hmS hl hn hcv hlt _ rfl (fun g hg W hW=>?_)
    subst hg
    have hmem:R.marked.getD R.seen mk0∈R.marked:=by simp [List.getD,hlt]
    have M':W.ownsRow B 217 51 (.slice (some ⟨g,0,none⟩) R.marked.length cap) R.marked.length (zbs R.marked):=zcr M (fun q hq=>hW.block q (M.lt q hq).2)
    have X':=X.below hW
    exact(znv X'.kn (zx6 M' hlt) X'.bh ((mbh _ hmem).below hW)).mono fun e w' hh=>⟨hh.1,hW.trans (hh.2.mono hW.size)⟩
   ·exact zqA h fz hm s0 s1 M hmS hl hn hcv hlt
def Rs.kn(R:Rs):RsK:=⟨R.marked.map Mk.k,R.steps,R.seen,R.covers⟩
theorem zwu(R:Rs)(m:Mk):(R.see m).kn=R.kn.see m.k:=by
 unfold Rs.see Rs.kn RsK.see
 simp only [RsK.mk.injEq,true_and]
 refine⟨?_,?_⟩
 ·split <;> simp
 ·have e:(R.marked.map Mk.k).getD R.seen kn0=(R.marked.getD R.seen mk0).k:=by
   simp only [List.getD,List.getElem?_map]
   cases R.marked[R.seen]? <;> rfl
  rw [e,List.length_map]
theorem zvL(R:Rs)(s:Int):(R.begin s).kn=R.kn.begin s:=by
 unfold Rs.begin Rs.kn RsK.begin
 simp only [RsK.mk.injEq,and_true]
 split <;> simp
def Rs.endless(R:Rs)(m:Mk):Option Rs :=
 if m.k.steps=R.steps then some (R.see m) else if R.covers&&decide (R.seen=R.marked.length) then none else some ((R.begin m.k.steps).see m)
theorem zqC(R:Rs)(m:Mk):R.kn.endless m.k=(R.endless m).map Rs.kn:=by
 unfold Rs.endless RsK.endless
 show(if m.k.steps=R.steps then _ else if R.covers&&decide (R.seen=(R.marked.map Mk.k).length) then _ else _)=_
 rw [List.length_map]
 split
 ·rw [Option.map_some,zwu]
 ·split
  ·rfl
  ·rw [Option.map_some,zwu,zvL]
theorem zvM{w:World}{B e size n cap:Nat}{ao:Option Addr}{l:List Value}(h:w.ownsRow B e size (.slice ao n cap) n l):w.ownsRow B e size (.slice ao 0 cap) 0 []:=by
 refine⟨by simp,?_⟩
 rcases h.2 with ⟨e1,e2⟩|⟨g,c,cur,e1,hB,hg,h1,h2,h3,h4⟩
 ·cases e1;exact .inl ⟨rfl,rfl⟩
 ·cases e1;exact .inr ⟨g,cap,cur,rfl,hB,hg,Nat.zero_le _,h2,h3,by simp⟩
def zx8(w:World)(B S g:Nat)(C:List (Ins × Int))(v mv:Value)(xs hs:List Wy):Option Rs→Ending→World→Prop
 | none=>fun e w'=>e=.returned (.bool true)∧Below w.heap.size w w'
 | some R=>fun e w'=>e=.returned (.bool false)∧∃ mv',RsC w' S 2 mv' R∧SO w' B S g C v mv' xs hs R.marked∧Kept4 w w' S 2 mv.ownBlock
theorem zmc(R:Rs)(s:Int):∀ m∈(R.begin s).marked,m∈R.marked:=by
 intro m hm
 have h:m∈(if zbR s then [] else R.marked):=hm
 split at h
 ·cases h
 ·exact h
theorem begin_len(R:Rs)(s:Int):(R.begin s).marked.length=begN s R.marked.length:=by
 show(if zbR s then [] else R.marked).length=if zbR s then 0 else R.marked.length
 split <;> rfl
theorem zx9(R:Rs)(m:Mk):∀ q∈(R.see m).marked,q∈R.marked∨q=m:=by
 intro q hq
 have h:q∈(if zbR R.steps then R.marked++[m] else R.marked):=hq
 split at h
 ·rcases List.mem_append.1 h with e|e
  ·exact .inl e
  ·exact .inr (List.mem_singleton.1 e)
 ·exact .inl h
theorem zmd{w w':World}{S o:Nat}{hb:Option Nat}(h:Kept4 w w' S o hb)(fz:∀ j,w.frozen? ⟨S,j,none⟩=false):∀ j,w'.frozen? ⟨S,j,none⟩=false:=fun j=>(h.fz j).trans (fz j)
theorem zwv{w w0:World}{B S g:Nat}{C:List (Ins × Int)}{v mv:Value}{x:Wy}{xs hs:List Wy}{R:Rs}(O:SO w B S g C v mv xs (x :: hs) R.marked){hb:Option Nat}(h0:Kept4 w0 w S 2 hb)(hbb:∀ q,mv.ownBlock=some q→hb=some q∨w0.heap.size≤q){e:Ending}{w':World}(h:zdn w S 2 B mv (R.see ⟨x.ao,x.cap,x.k⟩) e w'):
  e=.returned (.tuple #[])∧∃ mv',RsC w' S 2 mv' (R.see ⟨x.ao,x.cap,x.k⟩)∧SO w' B S g C v mv' xs (x :: hs) (R.see ⟨x.ao,x.cap,x.k⟩).marked∧Kept4 w0 w' S 2 hb:=by
 obtain⟨rfl,mv',h1,h2,h3,h4⟩:=h
 refine⟨rfl,mv',h1,O.remark h4 h2 h3 (fun m hm=>?_),⟨h4.os.trans h0.os,h4.tape.trans h0.tape,h4.output.trans h0.output,Nat.le_trans h0.size h4.size,fun q hq h5 h6=>?_,fun j a b c d=>(h4.cell j a b c d).trans (h0.cell j a b c d),fun j=>(h4.fz j).trans (h0.fz j)⟩⟩
 ·rcases zx9 R _ m hm with e|e
  ·exact .inl e
  ·subst e
   exact .inr ⟨x,by simp,rfl,rfl,rfl⟩
 ·refine(h4.block q (Nat.lt_of_lt_of_le hq h0.size) h5 (fun e=>?_)).trans (h0.block q hq h5 h6)
  rcases hbb q e.symm with e2|e2
  ·exact h6 e2.symm
  ·omega
theorem zgT{w:World}{B S g:Nat}{C:List (Ins × Int)}{v mv:Value}{x:Wy}{xs hs:List Wy}{R:Rs}(h:RsC w S 2 mv R)(fz:∀ j,w.frozen? ⟨S,j,none⟩=false)(O:SO w B S g C v mv xs (x :: hs) R.marked)(s0:0≤R.steps)(s1:R.steps≤100000)(k0:0≤x.k.steps)(k1:x.k.steps≤100000)(hl:R.marked.length≤500000)(hn:R.seen≤500000):
  Calls Tryz.prog 135 #[.pointer (some ⟨S,2,none⟩),.pointer (some ⟨x.b,0,none⟩)] w (zx8 w B S g C v mv xs (x :: hs) (R.endless ⟨x.ao,x.cap,x.k⟩)):=by
 obtain⟨ao,cap,rfl,hc1,hc2,hc0⟩:=zgd O.mkr
 have X:=O.hand x List.mem_cons_self
 have hB:B≤w.heap.size:=by have:=O.SB;have:=O.SL;omega
 have hrefl:Kept4 w w S 2 (Value.slice ao R.marked.length cap).ownBlock:=zcL O.SL (Below.refl _ _)
 by_cases e1:x.k.steps=R.steps
 ·have e0:R.endless ⟨x.ao,x.cap,x.k⟩=some (R.see ⟨x.ao,x.cap,x.k⟩):=if_pos e1
  rw [e0]
  refine zt3 h X.kn e1 _ (fun W hW=>?_)
  have OW:=O.below hW
  have hS:=O.SL
  have fzW:∀ j,W.frozen? ⟨S,j,none⟩=false:=fun j=>(World.frozen?_of_block (a:=⟨S,j,none⟩) (hW.block S hS)).trans (fz j)
  refine(zt2 (h.below hW) fzW s0 s1 OW.mkr OW.mbh (OW.hand x List.mem_cons_self) (Nat.le_trans hB hW.size) OW.mS hl hn).mono fun e w' hh=>?_
  exact zwv OW (zcL O.SL hW) (fun q hq=>.inl hq) hh
 ·by_cases e2:R.covers=true∧R.seen=R.marked.length
  ·have e0:R.endless ⟨x.ao,x.cap,x.k⟩=none:=by
    unfold Rs.endless
    rw [if_neg e1,e2.1,e2.2];simp
   rw [e0]
   exact zvP h X.kn e1 e2.1 e2.2 hl
  ·have e0:R.endless ⟨x.ao,x.cap,x.k⟩=some ((R.begin x.k.steps).see ⟨x.ao,x.cap,x.k⟩):=by
    unfold Rs.endless
    rw [if_neg e1,if_neg]
    simpa using e2
   rw [e0]
   have hg:∀ W,Below w.heap.size w W→Calls Tryz.prog 151 #[.pointer (some ⟨S,2,none⟩),.int .i64 x.k.steps] W fun e w'=>e=.returned (.tuple #[])∧RsC w' S 2 (.slice ao (R.begin x.k.steps).marked.length cap) (R.begin x.k.steps)∧SO w' B S g C v (.slice ao (R.begin x.k.steps).marked.length cap) xs (x :: hs) (R.begin x.k.steps).marked∧Kept4 w w' S 2 (Value.slice ao R.marked.length cap).ownBlock:=fun W hW=>by
    have OW:=O.below hW
    have fzW:∀ j,W.frozen? ⟨S,j,none⟩=false:=fun j=>(World.frozen?_of_block (a:=⟨S,j,none⟩) (hW.block S O.SL)).trans (fz j)
    refine(zq7 (h.below hW) fzW hc1 hc2 hc0 x.k.steps k0 k1).mono ?_
    rintro e w' ⟨rfl,r1,r2⟩
    rw [←begin_len] at r1
    have r2':Kept4 W w' S 2 (Value.slice ao R.marked.length cap).ownBlock:=⟨r2.os,r2.tape,r2.output,r2.size,fun q hq h1 _=>r2.block q hq h1 (by simp),r2.cell,r2.fz⟩
    refine⟨rfl,r1,OW.remark (mv':=.slice ao (R.begin x.k.steps).marked.length cap) r2' ?_ ?_ (fun m hm=>.inl (zmc R _ m hm)),(zcL O.SL hW).trans r2'⟩
    ·have M1:w'.ownsRow B 217 51 (.slice ao R.marked.length cap) R.marked.length (zbs R.marked):=zcr OW.mkr (fun q hq=>r2.block q (OW.mkr.lt q hq).2 (fun e=>OW.mS (by rw [hq,e])) (by simp))
     by_cases hm:zbR x.k.steps=true
     ·have e5:(R.begin x.k.steps).marked=[]:=if_pos hm
      rw [e5]
      exact zvM M1
     ·have e5:(R.begin x.k.steps).marked=R.marked:=if_neg hm
      rw [e5]
      exact M1
    ·intro q hq
     left
     cases ao with
     | none=>cases hq
     | some a=>exact hq
   have hs':∀ W,(RsC W S 2 (.slice ao (R.begin x.k.steps).marked.length cap) (R.begin x.k.steps)∧SO W B S g C v (.slice ao (R.begin x.k.steps).marked.length cap) xs (x :: hs) (R.begin x.k.steps).marked∧Kept4 w W S 2 (Value.slice ao R.marked.length cap).ownBlock)→Calls Tryz.prog 152 #[.pointer (some ⟨S,2,none⟩),.pointer (some ⟨x.b,0,none⟩)] W fun e w'=>e=.returned (.tuple #[])∧∃ mv',RsC w' S 2 mv' ((R.begin x.k.steps).see ⟨x.ao,x.cap,x.k⟩)∧SO w' B S g C v mv' xs (x :: hs) ((R.begin x.k.steps).see ⟨x.ao,x.cap,x.k⟩).marked∧Kept4 w w' S 2 (Value.slice ao R.marked.length cap).ownBlock:=fun W ⟨r1,r2,r3⟩=>by
    have hl2:(R.begin x.k.steps).marked.length≤500000:=by
     rw [begin_len];unfold begN;split <;> omega
    refine(zt2 r1 (zmd r3 fz) k0 k1 r2.mkr r2.mbh (r2.hand x List.mem_cons_self) (by have:=r2.SB;have:=r2.SL;omega) r2.mS hl2 (Nat.zero_le _)).mono fun e w' hh=>?_
    refine zwv r2 r3 (fun q hq=>.inl ?_) hh
    cases ao with
    | none=>cases hq
    | some a=>exact hq
   cases hcv:R.covers with
   | false=>exact zt5 h X.kn e1 hcv _ _ hg hs'
   | true=>exact zt4 h X.kn e1 hcv (fun e=>e2 ⟨hcv,e⟩) hl hn _ _ hg hs'
def zgA(ao:Option Addr)(cap:Nat)(ps:List Nat)(ks:List Kn):List Wy:=List.zipWith (fun p k=>(⟨p,ao,cap,k⟩:Wy)) ps ks
theorem zmj{ao:Option Addr}{cap:Nat}{ps:List Nat}{ks:List Kn}(h:ps.length=ks.length):(zgA ao cap ps ks).length=ks.length:=by simp [zgA,h]
theorem zoP{ao:Option Addr}{cap:Nat}{ps:List Nat}{ks:List Kn}(i:Nat)(y:Wy)(h:(zgA ao cap ps ks)[i]?=some y):∃ p k,ps[i]?=some p∧ks[i]?=some k∧y=⟨p,ao,cap,k⟩:=by
 unfold zgA at h
 rw [List.getElem?_zipWith] at h
 cases hp:ps[i]? with
 | none=>rw [hp] at h;cases h
 | some p =>
  cases hk:ks[i]? with
  | none=>rw [hp,hk] at h;cases h
  | some k=>rw [hp,hk] at h;exact⟨p,k,rfl,rfl,by simpa using h.symm⟩
theorem zxD{ao:Option Addr}{cap:Nat}{ps:List Nat}{ks:List Kn}(h:ps.length=ks.length):(zgA ao cap ps ks).map Wy.b=ps:=by
 unfold zgA
 rw [List.map_zipWith]
 show List.zipWith (fun p _=>p) ps ks=ps
 clear ao cap
 induction ps generalizing ks with
 | nil=>rfl
 | cons p r ih =>
  cases ks with
  | nil=>simp at h
  | cons k t=>rw [List.zipWith_cons_cons,ih (by simpa using h)]
theorem zgf{ao:Option Addr}{cap:Nat}{ps:List Nat}{ks:List Kn}{y:Wy}(h:y∈zgA ao cap ps ks):∃(i p:Nat) (k:Kn),ps[i]?=some p∧ks[i]?=some k∧y=⟨p,ao,cap,k⟩:=by
 obtain⟨i,hi⟩:=List.mem_iff_getElem?.1 h
 obtain⟨p,k,a,b,c⟩:=zoP i y hi
 exact⟨i,p,k,a,b,c⟩
theorem zqV{w w':World}{B S g:Nat}{C:List (Ins × Int)}{v mv:Value}{xs:List Wy}{ms:List Mk}{x:Wy}{ks:List Kn}{so:Option Addr}{ps:List Nat}{ao':Option Addr}{cap' n':Nat}(O:SO w B S g C v mv xs [x] ms)(A:WaysAt w w' x.b (.slice ao' n' cap') ks so ps)(hb:∀ k'∈ks,n'=k'.behind.length∧BhM w' ao' cap' k'.behind)(ha:ao'=x.ao∨∀ a,ao'=some a→w.heap.size≤a.block)(hf:∀ p∈ps,∀ a,ao'=some a→¬a.block=p)(hkey:∀ k'∈ks,KeyOk k'):
  SO w' B S g C v mv xs (zgA ao' cap' ps ks) ms:=by
 have:=O.turn (rs:=zgA ao' cap' ps ks) A.grown (fun y hy=>?_) (fun y hy=>?_) (by rw [zxD A.len];exact A.nodup) (fun y hy a hya=>?_)
 ·rw [List.append_nil] at this;exact this
 ·obtain⟨i,p,k,hp,hk,rfl⟩:=zgf hy
  have hkm:=List.mem_of_getElem? hk
  obtain⟨h1,h2⟩:=hb k hkm
  have h3:=A.kn i p k hp hk
  rw [h1] at h3
  exact⟨hkey k hkm,h3,h2⟩
 ·obtain⟨i,p,k,hp,hk,rfl⟩:=zgf hy
  exact A.from' p (List.mem_of_getElem? hp)
 ·obtain⟨i,p,k,hp,hk,rfl⟩:=zgf hy
  refine⟨?_,fun z hz=>?_⟩
  ·rcases ha with e|e
   ·exact .inl (by rw [←e];exact hya)
   ·exact .inr (e a hya)
  ·obtain⟨i2,p2,k2,hp2,_,rfl⟩:=zgf hz
   exact hf p2 (List.mem_of_getElem? hp2) a hya
theorem zyz{w w0:World}{B S g:Nat}{C:List (Ins × Int)}{cv v mv:Value}{R:Rs}{looks:Nat}{bs bf:Int}{xs hs:List Wy}{x:Wy}(O:SO w B S g C v mv xs (x :: hs) R.marked)(c:SC w S cv v mv R looks bs bf)(hb:Below B w0 w)(hlen:xs.length<100000):
  Calls Tryz.prog 138 #[.pointer (some ⟨S,1,none⟩),.pointer (some ⟨x.b,0,none⟩)] w fun e w'=>e=.returned (.tuple #[])∧∃(v':Value) (ys:List Wy),ys.Perm (xs++[x])∧SO w' B S g C v' mv ys hs R.marked∧SC w' S cv v' mv R looks bs bf∧Below B w0 w'∧Kept2 w w' S 1 v.ownBlock∧(∀ q,v'.ownBlock=some q→v.ownBlock=some q∨w.heap.size≤q):=by
 have hBw:B≤w.heap.size:=by have:=O.SB;have:=O.SL;omega
 obtain⟨_,f1,f2⟩:=O.far x List.mem_cons_self
 have mem:∀ y,y∈xs++[x]→y∈x :: hs++xs:=fun y hy=>by
  rcases List.mem_append.1 hy with e|e
  ·exact List.mem_append_right _ e
  ·rw [List.mem_singleton.1 e];exact List.mem_cons_self
 refine(zvE (B:=B) c.c1 (c.fz 1) O.hp O.ord (O.hand x List.mem_cons_self) hlen hBw O.vS (fun q hq=>⟨fun e=>f1.2.1 (by rw [hq,e]),fun a ha e=>(f2 a ha).1.2.1 (by rw [hq,e])⟩) (fun y hy=>?_)).mono ?_
 ·obtain⟨_,g1,g2⟩:=O.far y (mem y hy)
  exact⟨g1.1,fun a ha=>(g2 a ha).1.1⟩
 ·rintro e w' ⟨rfl,H,cap,ys,hc,hp,hM,hA,hH,hk⟩
  refine⟨rfl,.slice (some ⟨H,0,none⟩) ys.length cap,ys,hp,O.added hk hp hM hA hH,(c.one (o:=1) hk.cell hk.fz hc).1 rfl,hb.trans (zip hk O.SB hBw (fun q hq=>(O.hp.row.lt q hq).1)),hk,fun q hq=>?_⟩
  have e:H=q:=by have:some H=some q:=hq;simpa using this
  rw [←e];exact hH
theorem SC.kept4{w w':World}{S:Nat}{cv v mv mv':Value}{R R':Rs}{looks:Nat}{bs bf:Int}{hb:Option Nat}(h:SC w S cv v mv R looks bs bf)(hk:Kept4 w w' S 2 hb)(hr:RsC w' S 2 mv' R'):SC w' S cv v mv' R' looks bs bf:=by
 have c:∀ j,¬j=2→¬j=3→¬j=4→¬j=5→w'.cell? ⟨S,j,none⟩=w.cell? ⟨S,j,none⟩:=fun j a b c d=>hk.cell j a b c d
 exact⟨(c _ (by omega) (by omega) (by omega) (by omega)).trans h.c0,(c _ (by omega) (by omega) (by omega) (by omega)).trans h.c1,hr,(c _ (by omega) (by omega) (by omega) (by omega)).trans h.c6,(c _ (by omega) (by omega) (by omega) (by omega)).trans h.c7,(c _ (by omega) (by omega) (by omega) (by omega)).trans h.c8,fun j=>(hk.fz j).trans (h.fz j)⟩
theorem ztK{w:World}{B S g o:Nat}{C:List (Ins × Int)}{v mv u:Value}{xs hs:List Wy}{ms:List Mk}(O:SO w B S g C v mv xs hs ms):SO (w.setCell ⟨S,o,none⟩ u) B S g C v mv xs hs ms :=
 O.stay (by rw [World.size_setCell];exact Nat.le_refl _) (fun q _ hq=>Below.heap_setCell w _ _ q hq)
theorem SC.set7{w:World}{S:Nat}{cv v mv:Value}{R:Rs}{looks:Nat}{bs bf:Int}(h:SC w S cv v mv R looks bs bf)(n:Int):SC (w.setCell ⟨S,7,none⟩ (.int .i64 n)) S cv v mv R looks n bf :=
 (h.one (o:=7) (fun j hj=>by rw [zan w S 7 j _ _ h.c7,if_neg hj]) (fun j=>zcZ) (World.cell?_setCell_same _ _ _ h.c7)).2.2.1 n rfl rfl
theorem SC.set8{w:World}{S:Nat}{cv v mv:Value}{R:Rs}{looks:Nat}{bs bf:Int}(h:SC w S cv v mv R looks bs bf)(n:Int):SC (w.setCell ⟨S,8,none⟩ (.int .i64 n)) S cv v mv R looks bs n :=
 (h.one (o:=8) (fun j hj=>by rw [zan w S 8 j _ _ h.c8,if_neg hj]) (fun j=>zcZ) (World.cell?_setCell_same _ _ _ h.c8)).2.2.2 n rfl rfl
theorem SC.set6{w:World}{S:Nat}{cv v mv:Value}{R:Rs}{looks:Nat}{bs bf:Int}(h:SC w S cv v mv R looks bs bf)(n:Nat):SC (w.setCell ⟨S,6,none⟩ (.int .i64 (n:Int))) S cv v mv R n bs bf :=
 (h.one (o:=6) (fun j hj=>by rw [zan w S 6 j _ _ h.c6,if_neg hj]) (fun j=>zcZ) (World.cell?_setCell_same _ _ _ h.c6)).2.1 n rfl rfl
end Go.Proofs.YtfpgjkbjbbgciaaGreatDoor
