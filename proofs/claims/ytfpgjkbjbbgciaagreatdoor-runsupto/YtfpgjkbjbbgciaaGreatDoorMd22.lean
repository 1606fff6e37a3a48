import Derived.Test.YtfpgjkbjbbgciaaGreatDoorMd20
import Derived.Deep.MidRow
set_option maxRecDepth 100000
set_option maxHeartbeats 8000000
namespace Go.Proofs.YtfpgjkbjbbgciaaGreatDoor
open Go.RowKit Sp
theorem zmY(L:List Said)(i:Nat)(h:i<L.length)(h2:L[i].kind=102):zc3 L i=i:=by rw [zc3,dif_pos h,if_pos h2]
theorem zpX(L:List Said)(i:Nat)(h:i<L.length)(h2:¬L[i].kind=102):zc3 L i=zc3 L (i+1):=by rw [zc3,dif_pos h,if_neg h2]
theorem zgx(L:List Said)(i p:Nat)(hp:p<L.length)(h2:L[p].kind=102)(hip:i≤p)(hz:∀ j (h:j<L.length),i≤j→j<p→L[j].kind=0):zc3 L i=p:=by
 by_cases e:i=p
 ·subst e;exact zmY L i hp h2
 ·have h0:=hz i (by omega) (by omega) (by omega)
  rw [zpX L i (by omega) (by omega)]
  exact zgx L (i+1) p hp h2 (by omega) (fun j h ha hb=>hz j h (by omega) hb)
termination_by p-i
theorem zxg(w:World)(lv iv:Value)(to:Int)(inp:List Int):RefM (w.alloc (.cells #[lv,.int .i64 to,.slice none 0 0,iv,.int .i64 0,.int .i64 0,.int .i64 0,.int .i64 0,.int .i64 0,.int .i64 0,.int .i64 0,.int .i64 0,.int .i64 0,.int .i64 0,.int .i64 0,.int .i64 0,.int .i64 0,.int .i64 0,.int .i64 0,.int .i64 0,.int .i64 0,.int .i64 0,.int .i64 0,.int .i64 0,.int .i64 0,.int .i64 0,.int .i64 0,.int .i64 0,.int .i64 0,.slice none 0 0,.int .i64 1,.int .i64 1,.int .i64 0,.int .i64 0] 99)) w.heap.size lv (.slice none 0 0) iv (.slice none 0 0) ⟨to,[],inp,0,fun _=>0,fun _=>0,[],1,1,0⟩:=by
 have h:=World.cell?_alloc_new (w:=w) #[lv,.int .i64 to,.slice none 0 0,iv,.int .i64 0,.int .i64 0,.int .i64 0,.int .i64 0,.int .i64 0,.int .i64 0,.int .i64 0,.int .i64 0,.int .i64 0,.int .i64 0,.int .i64 0,.int .i64 0,.int .i64 0,.int .i64 0,.int .i64 0,.int .i64 0,.int .i64 0,.int .i64 0,.int .i64 0,.int .i64 0,.int .i64 0,.int .i64 0,.int .i64 0,.int .i64 0,.int .i64 0,.slice none 0 0,.int .i64 1,.int .i64 1,.int .i64 0,.int .i64 0] 99
 refine⟨h 0,h 1,h 2,h 3,h 4,fun i hi=>?_,fun i hi=>?_,h 29,h 30,h 31,h 32,h 33,fun o=>zjH w _ _ o⟩
 ·have:i=0∨i=1∨i=2∨i=3∨i=4∨i=5∨i=6∨i=7:=by omega
  rcases this with rfl|rfl|rfl|rfl|rfl|rfl|rfl|rfl
  ·exact h 5
  ·exact h 6
  ·exact h 7
  ·exact h 8
  ·exact h 9
  ·exact h 10
  ·exact h 11
  ·exact h 12
 ·have:i=0∨i=1∨i=2∨i=3∨i=4∨i=5∨i=6∨i=7∨i=8∨i=9∨i=10∨i=11∨i=12∨i=13∨i=14∨i=15:=by omega
  rcases this with rfl|rfl|rfl|rfl|rfl|rfl|rfl|rfl|rfl|rfl|rfl|rfl|rfl|rfl|rfl|rfl
  ·exact h 13
  ·exact h 14
  ·exact h 15
  ·exact h 16
  ·exact h 17
  ·exact h 18
  ·exact h 19
  ·exact h 20
  ·exact h 21
  ·exact h 22
  ·exact h 23
  ·exact h 24
  ·exact h 25
  ·exact h 26
  ·exact h 27
  ·exact h 28
theorem zs2(w:World)(g cap2 p icap:Nat)(ao:Option Addr)(L:List Said)(inp:List Int)(hL:LinesIn w g L)(hn:L.length≤300)(hp:p<L.length)(h2:L[p].kind=102)(hz:∀ j (h:j<L.length),j<p→L[j].kind=0)(to:Int)(hto:zad L (p+1)=to)(hiv:SlB w w.heap.size (.slice ao inp.length icap) inp):
  Calls Tryz.prog 54 #[.slice (some ⟨g,0,none⟩) L.length cap2,.slice ao inp.length icap] w fun e w'=>e=.returned (.pointer (some ⟨w.heap.size,0,none⟩))∧RefAt w' w.heap.size g cap2 L ⟨to,[],inp,0,fun _=>0,fun _=>0,[],1,1,0⟩ (.slice none 0 0) (.slice ao inp.length icap) (.slice none 0 0)∧Below w.heap.size w w':=by
 have g1:∀ W,LinesIn W g L→Calls Tryz.prog 88 #[.slice (some ⟨g,0,none⟩) L.length cap2,.int .i64 ((p:Int)+1)] W fun e w'=>e=.returned (.int .i64 to)∧w'=W:=fun W hW=>by
  have:=zdb L g cap2 (p+1) W hW (by omega) (by omega)
  rw [hto] at this
  simpa using this
 have hp0:(0:Int)≤(p:Int):=by omega
 have hp1:(p:Int)<(L.length:Int):=by omega
 go_enter Tryz.func54,Tryz.ntmps54
 go_wp2
 go_loop [5] (fun t=>∃ j:Nat,j≤p∧t=.int .i64 (j:Int)) (fun t=>p-(intOf t).toNat)
 case atStart=>exact⟨0,by omega,rfl⟩
 case round =>
  obtain⟨j,hj,rfl⟩:=hrel
  have hjl:j<L.length:=by omega
  have hc:=hL.kind j hjl
  have hb:=zd8 (hL.wf j hjl)
  by_cases e:j=p
  ·subst e
   have h102:(L[j].kind != 102)=false:=by simp [h2]
   go_wp2_with(first|(go_at_call 88;refine(g1 _ hL).mono ?_;rintro e wx ⟨rfl,hww⟩;have hw2:=hww.symm;subst hw2))
   go_ret
   have hb:Below w.heap.size w (w.alloc (.cells #[.slice (some ⟨g,0,none⟩) L.length cap2,.int .i64 to,.slice none 0 0,.slice ao inp.length icap,.int .i64 0,.int .i64 0,.int .i64 0,.int .i64 0,.int .i64 0,.int .i64 0,.int .i64 0,.int .i64 0,.int .i64 0,.int .i64 0,.int .i64 0,.int .i64 0,.int .i64 0,.int .i64 0,.int .i64 0,.int .i64 0,.int .i64 0,.int .i64 0,.int .i64 0,.int .i64 0,.int .i64 0,.int .i64 0,.int .i64 0,.int .i64 0,.int .i64 0,.slice none 0 0,.int .i64 1,.int .i64 1,.int .i64 0,.int .i64 0] 99)):=(Below.refl _ _).alloc (Nat.le_refl _) _
   exact⟨rfl,⟨zxg w _ _ to inp,World.ownsRow_nil _ _ _ _,World.ownsRow_nil _ _ _ _,hiv.below hb⟩,hb⟩
  ·have h0:=hz j hjl (by omega)
   have h102:(L[j].kind != 102)=true:=by simp [h0]
   go_wp2
   go_round
   case rel=>exact⟨j+1,by omega,by go_num⟩
   case measure=>simp [intOf];omega
def SlN(w:World)(v:Value)(l:List Int):Prop:=∃ ao cap,v=.slice ao l.length cap∧(0<l.length→∃ g o,ao=some ⟨g,o,none⟩∧∀ j (h:j<l.length),w.cell? ⟨g,o+j,none⟩=some (.int .i64 l[j]))
theorem SlN.of_row{w:World}{B _n:Nat}{v:Value}{l:List Int}(h:w.ownsRow B 2 1 v l.length (i64s l)):SlN w v l:=by
 obtain⟨ao,cap,rfl⟩:=zb8 h
 refine⟨ao,cap,rfl,fun hp=>?_⟩
 obtain⟨g,c,e,_,_⟩:=h.form hp
 simp only [Value.slice.injEq,true_and] at e
 obtain⟨rfl,rfl⟩:=e
 refine⟨g,0,rfl,fun j hj=>?_⟩
 rw [Nat.zero_add,World.ownsRow.cellAt h j (by omega)]
 simp [hj]
theorem zgM(w:World)(va vb:Value)(l:List Int)(ha:SlN w va l)(hb:SlN w vb l)(hn:l.length≤1048577):
  Calls Tryz.prog 19 #[va,vb] w fun e w'=>e=.returned (.bool true)∧∃ n,w'=w.drewN n:=by
 obtain⟨ao,ca,rfl,hra⟩:=ha
 obtain⟨bo,cb,rfl,hrb⟩:=hb
 go_enter Tryz.func19,Tryz.ntmps19
 go_wp2
 go_loopw [5] (fun ti wr=>∃ j n:Nat,j≤l.length∧ti=.int .i64 (j:Int)∧wr=w.drewN n) (fun ti _=>l.length-(intOf ti).toNat)
 case atStart=>exact⟨0,0,by omega,rfl,rfl⟩
 case round =>
  obtain⟨j,n,hj,rfl,rfl⟩:=hrel
  by_cases hlt:j<l.length
  ·obtain⟨ga,oa,rfl,hca⟩:=hra (by omega)
   obtain⟨gb,ob,rfl,hcb⟩:=hrb (by omega)
   have c1:(w.drewN n).cell? ⟨ga,oa+j,none⟩=some (.int .i64 l[j]):=hca j hlt
   have c2:(w.drewN n).cell? ⟨gb,ob+j,none⟩=some (.int .i64 l[j]):=hcb j hlt
   have hn':∀ k,(w.drewN n).drewN k=w.drewN (n+k):=fun k=>by rw [World.drewN_drewN]
   have HN:Hid (∀ k,(w.drewN n).drewN k=w.drewN (n+k)):=hn'
   clear hn' hca hcb hra hrb
   have hj0:(0:Int)≤(j:Int):=by omega
   have hj1:(j:Int)<(l.length:Int):=by omega
   generalize l[j]=x at c1 c2
   generalize w.drewN n=W at c1 c2 HN ⊢
   go_wp2_with fail
   go_quiet(fail)
   go_wp2
   go_roundw
   case rel=>exact⟨j+1,_,by omega,by go_num,HN.out nq⟩
   case measure=>simp [intOf];omega
  ·go_wp2
   go_ret
   exact⟨rfl,n,rfl⟩
end Go.Proofs.YtfpgjkbjbbgciaaGreatDoor
namespace Go.Proofs.YtfpgjkbjbbgciaaGreatDoor
section
variable {P:Program} {ops:Array Oper} {C:World→Prop}
theorem zaf{id:Nat}{Q:Exit→Act→World→Prop}{a:Act}{w:World}{l:List Oper}(n:Nat)(C:World→Prop)(hC:C (w.drewN 1))(hm:P.follows .mixedOrders=true)(hB:Region.lexTailB .any l.toArray n=true)
  (h:wpQuiet P l.toArray C (fun a'=>∀ w',C w'→wpList P l.toArray Q (l.drop n) a' w') (l.take n) a):(Code.region id l.toArray true).wp P Q a w:=by
 simp only [Region.lexTailB,Bool.and_eq_true,decide_eq_true_eq] at hB
 obtain⟨⟨⟨⟨hsel,hn⟩,hs⟩,hc⟩,hlex⟩:=hB
 have hn':n<l.length:=by simpa using hn
 have htl:(l.take n).length=n:=by simp;omega
 have hdl:(l.drop n).length=l.toArray.size-n:=by simp
 have inv0:HeadInv .any l.toArray n (Array.replicate l.toArray.size false) :=
  ⟨by simp,fun j oj _ hl=>(by rw [getD_replicate_false] at hl;cases hl),fun t _ ht=>getD_in (by simpa using ht) (getD_replicate_false _ _)⟩
 have H:=zoe (md:=.any) (g:=l.toArray.size-n) hsel hs hc hn (l.take n) 0 _ a (fun j hj=>by
  have:j<n:=by rw [htl] at hj;exact hj
  simp [this]) (by simpa using htl) inv0 (by rw [htl];exact hlex) h
 refine wp_region_any hm ?_
 have:=zhL (Q:=Q) (g:=l.toArray.size-n) (fun listed a' w' hw' hL=>by
  have:=wpAny_of_seq (md:=.any) (Q':=Q) (l.drop n) n listed a' w' (fun j=>by simp [List.getElem?_drop]) (by rw [hdl];exact hL.1) (hL.2 w' hw')
  rwa [hdl] at this) _ _ _ _ hC H
 rw [htl,show n+(l.toArray.size-n)=l.toArray.size by omega] at this
 exact this
theorem zab{Q:Act→Prop}{o:Oper}{rest:List Oper}{a:Act}(hg:o.guard=none)(v:Value)(h:∀ W,C W→(execOp a.eval o).run P W=.ok (.value v) W)(hK:wpQuiet P ops C Q rest (a.put o.dst v)):wpQuiet P ops C Q (o :: rest) a:=by
 have hw:Region.wanted o (yielded ops a.tmps)=true:=by simp [Region.wanted,hg]
 unfold wpQuiet
 rw [if_pos hw]
 refine⟨v,fun W hW=>?_,hK⟩
 unfold Oper.quietAt
 rw [h W hW]
 exact⟨rfl,rfl⟩
theorem zaP{Q:Act→Prop}{o:Oper}{rest:List Oper}{a:Act}(hg:o.guard=none)(f:FuncId)(args:Array Value)(v:Value)(h:∀ W,C W→(execOp a.eval o).run P W=.ok (.enter f args) W)(hc:∀ W,C W→Calls P f args W fun e w''=>e=.returned v∧C w'')(hK:wpQuiet P ops C Q rest (a.put o.dst v)):wpQuiet P ops C Q (o :: rest) a:=by
 have hw:Region.wanted o (yielded ops a.tmps)=true:=by simp [Region.wanted,hg]
 unfold wpQuiet
 rw [if_pos hw]
 refine⟨v,fun W hW=>?_,hK⟩
 unfold Oper.quietAt
 rw [h W hW]
 exact⟨rfl,hc W hW⟩
end
end Go.Proofs.YtfpgjkbjbbgciaaGreatDoor
namespace Go.Proofs.YtfpgjkbjbbgciaaGreatDoor
open Go.RowKit Sp
theorem zeV(w:World)(a:Value):∀ j u,[a][j]?=some u→(w.alloc (.cells #[a] 2)).cell? ((⟨w.heap.size,0,none⟩:Addr).add j)=some u:=by
 intro j u hj
 have h1:=World.cell?_alloc_new (w:=w) #[a] 2 j
 have h2:(⟨w.heap.size,0,none⟩:Addr).add j=⟨w.heap.size,j,none⟩:=by simp [Addr.add];omega
 rw [h2,h1]
 rw [←List.getElem?_toArray] at hj
 exact hj
theorem zsw(w:World)(g o cap:Nat)(l:List Int)(hp:0<l.length)(hc:∀ j (h:j<l.length),w.cell? ⟨g,o+j,none⟩=some (.int .i64 l[j]))(hn:l.length≤1048576):
  Calls Tryz.prog 17 #[.slice (some ⟨g,o,none⟩) l.length cap] w fun e w'=>∃ v,e=.returned v∧w'.ownsRow w.heap.size 2 1 v (l.length+1) (i64s (l++[-77]))∧Below w.heap.size w w':=by
 obtain⟨i0,hi0,hz0,hz1,hz2⟩:=info_parts Tryz.info2
 have hnil:=World.ownsRow_nil w w.heap.size 2 1
 have hnews:∀ j u,(i64s l)[j]?=some u→w.cell? ((⟨g,o,none⟩:Addr).add j)=some u:=by
  intro j u hj
  rw [List.getElem?_map] at hj
  cases hq:l[j]? with
  | none=>rw [hq] at hj;cases hj
  | some x =>
   rw [hq] at hj
   obtain⟨hlt,hx⟩:=List.getElem?_eq_some_iff.1 hq
   have:=hc j hlt
   rw [hx] at this
   rw [Addr.add_mid,this]
   exact hj
 have hone:∀ u∈i64s l,u.oneCell'=true:=by
  intro u hu
  obtain⟨x,_,rfl⟩:=List.mem_map.1 hu
  rfl
 have hl:(i64s l).length=l.length*1:=by simp
 go_enter Tryz.func17,Tryz.ntmps17
 go_wp2_with(first
  | (at_builtin;refine wpList_append_own _ rfl _ _ 29 rfl w.heap.size 2 i0 (.int .i64 0) 1 8 Tryz.under29 hi0 hz0 hz1 hz2 rfl (by decide) _ _ _ rfl hnil ⟨g,o,none⟩ l.length cap (i64s l) rfl hl hnews hone (by unfold maxLen;omega) (by omega) (Nat.le_refl _) ?_))
 intro v1 w1 hown1 hgrow1 _
 have hb1:Below w.heap.size w w1:=(Below.refl _ _).grown hgrow1 (Nat.le_refl _) (fun j hj=>by cases hj)
 go_wp2_with(first
  | (at_builtin;refine wpList_append_own _ rfl _ _ 29 rfl w.heap.size 2 i0 (.int .i64 0) 1 8 Tryz.under29 hi0 hz0 hz1 hz2 rfl (by decide) _ _ _ rfl (hown1.alloc _) ⟨w1.heap.size,0,none⟩ 1 1 [.int .i64 (-77)] rfl rfl (zeV _ _) (by simp [Value.oneCell']) (by unfold maxLen;omega) (by omega) (by have:=hb1.size;simp;omega) ?_))
 intro v2 w2 hown2 hgrow2 _
 have hb2:Below w.heap.size w w2:=(hb1.alloc hb1.size _).grown hgrow2 (by have:=hb1.size;simp;omega) (fun j hj=>(hown1.lt j hj).1)
 go_wp2
 go_ret
 exact⟨v2,rfl,by simpa [i64s] using hown2,hb2⟩
theorem zsx(w:World)(ao:Option Addr)(cap:Nat):
  Calls Tryz.prog 17 #[.slice ao 0 cap] w fun e w'=>∃ v,e=.returned v∧w'.ownsRow w.heap.size 2 1 v 1 (i64s [-77])∧Below w.heap.size w w':=by
 obtain⟨i0,hi0,hz0,hz1,hz2⟩:=info_parts Tryz.info2
 go_enter Tryz.func17,Tryz.ntmps17
 cases ao with
 | none =>
  go_wp2_with(first
   | (at_builtin;refine wpList_append_own _ rfl _ _ 29 rfl w.heap.size 2 i0 (.int .i64 0) 1 8 Tryz.under29 hi0 hz0 hz1 hz2 rfl (by decide) _ _ _ rfl ((World.ownsRow_nil w w.heap.size 2 1).alloc _) ⟨w.heap.size,0,none⟩ 1 1 [.int .i64 (-77)] rfl rfl (zeV _ _) (by simp [Value.oneCell']) (by unfold maxLen;omega) (by omega) (by simp) ?_))
  intro v2 w2 hown2 hgrow2 _
  have hb2:Below w.heap.size w w2:=((Below.refl _ w).alloc (Nat.le_refl _) _).grown hgrow2 (by simp) (fun j hj=>by cases hj)
  go_wp2
  go_ret
  exact⟨v2,rfl,by simpa [i64s] using hown2,hb2⟩
 | some p =>
  go_wp2_with(first
   | (at_builtin;refine wpList_append_own _ rfl _ _ 29 rfl w.heap.size 2 i0 (.int .i64 0) 1 8 Tryz.under29 hi0 hz0 hz1 hz2 rfl (by decide) _ _ _ rfl ((World.ownsRow_nil w w.heap.size 2 1).alloc _) ⟨w.heap.size,0,none⟩ 1 1 [.int .i64 (-77)] rfl rfl (zeV _ _) (by simp [Value.oneCell']) (by unfold maxLen;omega) (by omega) (by simp) ?_))
  intro v2 w2 hown2 hgrow2 _
  have hb2:Below w.heap.size w w2:=((Below.refl _ w).alloc (Nat.le_refl _) _).grown hgrow2 (by simp) (fun j hj=>by cases hj)
  go_wp2
  go_ret
  exact⟨v2,rfl,by simpa [i64s] using hown2,hb2⟩
theorem zon(w:World)(v:Value)(l:List Int)(h:SlN w v l)(hn:l.length≤1048576):
  Calls Tryz.prog 17 #[v] w fun e w'=>∃ u,e=.returned u∧w'.ownsRow w.heap.size 2 1 u (l.length+1) (i64s (l++[-77]))∧Below w.heap.size w w':=by
 obtain⟨ao,cap,rfl,hr⟩:=h
 by_cases hp:0<l.length
 ·obtain⟨g,o,rfl,hc⟩:=hr hp
  exact zsw w g o cap l hp hc hn
 ·have hl:l=[]:=List.eq_nil_of_length_eq_zero (by omega)
  subst hl
  exact zsx w ao cap
theorem zjk(i:Ins)(next:Int)(m:Mc)(h:m.fin=0):
  (((exec i next m).fin=0∧(exec i next m).steps=m.steps+1)∨(((exec i next m).fin=1∨(exec i next m).fin=2)∧(exec i next m).at'=-1∧(exec i next m).steps=m.steps+1)∨(((exec i next m).fin=3∨(exec i next m).fin=4)∧(exec i next m).at'=m.at'∧(exec i next m).steps=m.steps))∧(exec i next m).inp.length≤m.inp.length:=by
 cases i with
 | load r s =>
  simp only [exec]
  split
  ·exact⟨.inr (.inr ⟨.inl rfl,rfl,rfl⟩),Nat.le_refl _⟩
  ·exact⟨.inl ⟨h,rfl⟩,Nat.le_refl _⟩
 | store r s =>
  simp only [exec]
  split
  ·exact⟨.inr (.inr ⟨.inl rfl,rfl,rfl⟩),Nat.le_refl _⟩
  ·exact⟨.inl ⟨h,rfl⟩,Nat.le_refl _⟩
 | call to =>
  simp only [exec]
  split
  ·exact⟨.inr (.inr ⟨.inr rfl,rfl,rfl⟩),Nat.le_refl _⟩
  ·exact⟨.inl ⟨h,rfl⟩,Nat.le_refl _⟩
 | back =>
  simp only [exec]
  split
  ·exact⟨.inr (.inl ⟨.inr rfl,rfl,rfl⟩),Nat.le_refl _⟩
  ·exact⟨.inl ⟨h,rfl⟩,Nat.le_refl _⟩
 | stop=>exact⟨.inr (.inl ⟨.inl rfl,rfl,rfl⟩),Nat.le_refl _⟩
 | read r =>
  refine⟨.inl ⟨h,rfl⟩,?_⟩
  show m.inp.tail.length≤_
  simp
 | set r k=>exact⟨.inl ⟨h,rfl⟩,Nat.le_refl _⟩
 | mov r s=>exact⟨.inl ⟨h,rfl⟩,Nat.le_refl _⟩
 | alu o r s t=>exact⟨.inl ⟨h,rfl⟩,Nat.le_refl _⟩
 | inc r k=>exact⟨.inl ⟨h,rfl⟩,Nat.le_refl _⟩
 | write r=>exact⟨.inl ⟨h,rfl⟩,Nat.le_refl _⟩
 | jump to=>exact⟨.inl ⟨h,rfl⟩,Nat.le_refl _⟩
 | less r s to=>exact⟨.inl ⟨h,rfl⟩,Nat.le_refl _⟩
 | same r s to=>exact⟨.inl ⟨h,rfl⟩,Nat.le_refl _⟩
def AtOk(L:List Said)(m:Mc):Prop:=((m.fin=1∨m.fin=2)∧m.at'=-1)∨((m.fin=0∨m.fin=3∨m.fin=4)∧zcX L m.at')
theorem zvc{L:List Said}{m:Mc}(h:zcX L m.at'):∃ i next,zbP L m=exec i next m:=by
 obtain⟨k,hk,hlt,_⟩:=h
 refine⟨insQ L k L[k],zad L (k+1),?_⟩
 unfold zbP
 rw [hk,Int.toNat_natCast,List.getElem?_eq_getElem hlt]
theorem zxh{L:List Said}{m:Mc}(I:InvR L m)(h:m.fin=0)(hI:(zbP L m).fin=0→InvR L (zbP L m)):
  AtOk L (zbP L m)∧(((zbP L m).fin=3∨(zbP L m).fin=4)∧(zbP L m).steps=m.steps∨((zbP L m).fin=0∨(zbP L m).fin=1∨(zbP L m).fin=2)∧(zbP L m).steps=m.steps+1)∧(zbP L m).inp.length≤m.inp.length:=by
 obtain⟨i,next,e⟩:=zvc I.at_
 have F:=zjk i next m h
 rw [←e] at F
 obtain⟨F,hin⟩:=F
 refine⟨?_,?_,hin⟩
 ·rcases F with ⟨h1,_⟩|⟨h1,h2,_⟩|⟨h1,h2,_⟩
  ·exact .inr ⟨.inl h1,(hI h1).at_⟩
  ·exact .inl ⟨h1,h2⟩
  ·exact .inr ⟨.inr h1,by rw [h2];exact I.at_⟩
 ·rcases F with ⟨h1,h2⟩|⟨h1,_,h2⟩|⟨h1,_,h2⟩
  ·exact .inr ⟨.inl h1,h2⟩
  ·exact .inr ⟨.inr h1,h2⟩
  ·exact .inl ⟨h1,h2⟩
theorem zpY(w:World)(b:Nat)(lv bv iv ov:Value)(m:Mc)(h:RefM w b lv bv iv ov m)(hz:(m.fin != 0)=true):
  Calls Tryz.prog 55 #[.pointer (some ⟨b,0,none⟩)] w fun e w'=>e=.returned (.bool false)∧w'=w:=by
 have cE:=h.cE
 generalize m.fin=z at cE hz
 go_enter Tryz.func55,Tryz.ntmps55
 go_wp2
 go_ret
 exact⟨rfl,rfl⟩
theorem zs3{L:List Said}(G:Good L)(inp:List Int):InvR L (ze4 L inp):=by
 obtain⟨p,hp,h2,hz⟩:=G.head
 have e:zc3 L 0=p:=zgx L 0 p hp h2 (by omega) (fun j h _ hb=>hz j h hb)
 refine⟨?_,by simp [ze4],rfl,by simp [ze4],⟨1,rfl,by omega⟩,Int.le_refl _,Int.le_refl _⟩
 show zcX L (zad L (zc3 L 0+1))
 rw [e]
 exact G.fn p hp h2
def zav(m:Mc)(ov:Value)(line:Int):List Value:=[.int .i64 m.steps]++((List.range 8).map (fun i=>Value.int .i64 (m.regs i))++((List.range 16).map (fun i=>Value.int .i64 (m.cells i))++[ov,.int .i64 m.frames,.int .i64 m.peak,.int .i64 line,.int .i64 m.fin]))
theorem zaS(m:Mc)(ov:Value)(line:Int):(zav m ov line).length=30:=by simp [zav]
theorem zbg(m:Mc)(ao:Option Addr)(n c:Nat)(line:Int):(zav m (.slice ao n c) line).toArray.all (·.oneCell')=true:=by
 refine all_oneCell_toArray fun v hv=>?_
 simp only [zav,List.mem_append,List.mem_map,List.mem_cons,List.mem_nil_iff,or_false] at hv
 rcases hv with rfl|⟨i,_,rfl⟩|⟨i,_,rfl⟩|rfl|rfl|rfl|rfl|rfl <;> rfl
theorem zhS(m:Mc)(ov:Value)(line:Int):(zav m ov line)[28]?=some (.int .i64 line):=by simp [zav]
theorem zsz(m:Mc)(ov:Value)(line:Int):(zav m ov line)[29]?=some (.int .i64 m.fin):=by simp [zav]
theorem zeW(m:Mc)(ov:Value)(line l2:Int):(zav m ov line).set 28 (.int .i64 l2)=zav m ov l2:=by simp [zav,List.range_succ]
theorem zs0(m:Mc)(ov:Value)(line:Int)(j:Nat)(v:Value)(h:(zav m ov line)[j]?=some v):
  (j=0∧v=.int .i64 m.steps)∨(∃ i,i<8∧j=1+i∧v=.int .i64 (m.regs i))∨(∃ i,i<16∧j=9+i∧v=.int .i64 (m.cells i))∨(j=25∧v=ov)∨(j=26∧v=.int .i64 m.frames)∨(j=27∧v=.int .i64 m.peak)∨(j=28∧v=.int .i64 line)∨(j=29∧v=.int .i64 m.fin):=by
 unfold zav at h
 rw [List.getElem?_append] at h
 split at h
 ·rename_i hj
  simp at hj;subst hj
  simp at h
  exact .inl ⟨rfl,h.symm⟩
 ·rename_i hj
  simp at hj
  rw [List.getElem?_append] at h
  split at h
  ·rename_i h8
   simp at h8
   simp [h8] at h
   exact .inr (.inl ⟨j-1,h8,by omega,by simpa using h.symm⟩)
  ·rename_i h8
   simp at h8
   rw [List.getElem?_append] at h
   split at h
   ·rename_i h16
    simp at h16
    simp [h16] at h
    exact .inr (.inr (.inl ⟨j-1-8,h16,by omega,by simpa using h.symm⟩))
   ·rename_i h16
    simp at h16 h
    obtain⟨q,hq⟩:∃ q,j=25+q:=⟨j-25,by omega⟩
    subst hq
    have e:25+q-1-8-16=q:=by omega
    rw [e] at h
    match q,h with
    | 0,h=>simp at h;exact .inr (.inr (.inr (.inl ⟨rfl,h.symm⟩)))
    | 1,h=>simp at h;exact .inr (.inr (.inr (.inr (.inl ⟨rfl,h.symm⟩))))
    | 2,h=>simp at h;exact .inr (.inr (.inr (.inr (.inr (.inl ⟨rfl,h.symm⟩)))))
    | 3,h=>simp at h;exact .inr (.inr (.inr (.inr (.inr (.inr (.inl ⟨rfl,h.symm⟩))))))
    | 4,h=>simp at h;exact .inr (.inr (.inr (.inr (.inr (.inr (.inr ⟨rfl,h.symm⟩))))))
    | q+5,h=>simp at h
theorem RefM.range{w:World}{b:Nat}{lv bv iv ov:Value}{m:Mc}(h:RefM w b lv bv iv ov m):w.rangeAt b 4 (zav m ov 0):=by
 intro j v hv
 rcases zs0 m ov 0 j v hv with ⟨rfl,rfl⟩|⟨i,hi,rfl,rfl⟩|⟨i,hi,rfl,rfl⟩|⟨rfl,rfl⟩|⟨rfl,rfl⟩|⟨rfl,rfl⟩|⟨rfl,rfl⟩|⟨rfl,rfl⟩
 ·exact h.cS
 ·rw [show 4+(1+i)=5+i by omega];exact h.cR i hi
 ·rw [show 4+(9+i)=13+i by omega];exact h.cC i hi
 ·exact h.cO
 ·exact h.cF
 ·exact h.cP
 ·exact h.cA
 ·exact h.cE
theorem zdz{w:World}{b o n:Nat}{cs:List Value}{v u:Value}(h:w.rangeAt b o cs)(hn:w.cell? ⟨b,o+n,none⟩=some u):(w.setCell ⟨b,o+n,none⟩ v).rangeAt b o (cs.set n v):=by
 intro j x hx
 by_cases e:j=n
 ·subst e
  rw [List.getElem?_set] at hx
  split at hx
  ·split at hx
   ·rw [←Option.some.inj hx];exact World.cell?_setCell_same w _ _ hn
   ·cases hx
  ·rename_i hne;exact absurd rfl hne
 ·rw [List.getElem?_set_ne (by omega)] at hx
  rw [World.cell?_setCell_other]
  ·exact h j x hx
  ·simp
theorem zdh{w:World}{b o n:Nat}(h:w.there b o n)(p:Addr)(v:Value):(w.setCell p v).there b o n:=fun j hj=>by
 obtain⟨h1,h2⟩:=h j hj
 refine⟨?_,by simpa using h2⟩
 obtain⟨u,hu⟩:=Option.isSome_iff_exists.1 h1
 obtain⟨x,hx⟩:=cell?_setCell_some (w:=w) (p:=p) (x:=v) (q:=⟨b,o+j,none⟩) (v:=u) hu
 rw [hx];rfl
abbrev Z34:Obj:=.cells #[.int .i64 0,.int .i64 0,.int .i64 0,.int .i64 0,.int .i64 0,.int .i64 0,.int .i64 0,.int .i64 0,.int .i64 0,.int .i64 0,.int .i64 0,.int .i64 0,.int .i64 0,.int .i64 0,.int .i64 0,.int .i64 0,.int .i64 0,.int .i64 0,.int .i64 0,.int .i64 0,.int .i64 0,.int .i64 0,.int .i64 0,.int .i64 0,.int .i64 0,.slice none 0 0,.int .i64 0,.int .i64 0,.int .i64 0,.int .i64 0] 34
theorem zdi(w:World):(w.alloc Z34).there w.heap.size 0 30:=fun j hj=>by
 refine⟨?_,by simp⟩
 have h:=World.cell?_alloc_new (w:=w) #[.int .i64 0,.int .i64 0,.int .i64 0,.int .i64 0,.int .i64 0,.int .i64 0,.int .i64 0,.int .i64 0,.int .i64 0,.int .i64 0,.int .i64 0,.int .i64 0,.int .i64 0,.int .i64 0,.int .i64 0,.int .i64 0,.int .i64 0,.int .i64 0,.int .i64 0,.int .i64 0,.int .i64 0,.int .i64 0,.int .i64 0,.int .i64 0,.int .i64 0,.slice none 0 0,.int .i64 0,.int .i64 0,.int .i64 0,.int .i64 0] 34 (0+j)
 rw [h,Array.getElem?_eq_getElem (by simpa using hj)]
 rfl
theorem zbz{fn:Func}{a:Tmp}{t:TypeId}(h:fn.results=#[.cell a t])(tmps:Array Value)(p:Addr)(hp:tmps.getD a undef=.pointer (some p)){P:Program}{w:World}{v:Value}(hl:(loadVar t p).run P w=.ok v w):(results fn tmps).run P w=.ok v w:=by
 have hp2:tmps[a]?.getD undef=.pointer (some p):=by simpa using hp
 simp [results,h,hp2,asAddr,hl]
theorem zjZ{fn:Func}{a b c:Tmp}{t:TypeId}(h:fn.results=#[.cell a t,.tmp b,.tmp c])(tmps:Array Value)(p:Addr)(hp:tmps.getD a undef=.pointer (some p)){P:Program}{w:World}{v:Value}(hl:(loadVar t p).run P w=.ok v w):(results fn tmps).run P w=.ok (.tuple #[v,tmps.getD b undef,tmps.getD c undef]) w:=by
 have hp2:tmps[a]?.getD undef=.pointer (some p):=by simpa using hp
 simp [results,h,hp2,asAddr,hl]
theorem Tryz.info34:(Tryz.prog.info? 34).map (·.size)=some 30:=by kernel_rfl
theorem zar(l:List Value){B b:Nat}{a w:World}(o:Nat)(h:Below B a w)(hb:B≤b):Below B a (w.setCells b o l):=by
 induction l generalizing w o with
 | nil=>exact h
 | cons x r ih=>exact ih (o+1) (h.setCell (p:=⟨b,o,none⟩) hb x)
theorem zb4(l:List Value)(w:World)(b o k:Nat)(h:¬k=b):(w.setCells b o l).heap[k]?=w.heap[k]?:=by
 induction l generalizing w o with
 | nil=>rfl
 | cons x r ih =>
  show((w.setCell ⟨b,o,none⟩ x).setCells b (o+1) r).heap[k]?=_
  rw [ih,Below.heap_setCell _ _ _ _ h]
theorem zfS(l:List Value)(w:World)(b o:Nat):(w.setCells b o l).heap.size=w.heap.size:=by
 induction l generalizing w o with
 | nil=>rfl
 | cons x r ih =>
  show((w.setCell ⟨b,o,none⟩ x).setCells b (o+1) r).heap.size=_
  rw [ih];simp [World.setCell]
theorem zdq{W1:World}{n:Nat}(hs1:W1.heap.size=n)(cs:List Value)(hlen:cs.length=30):(W1.alloc Z34).there n 0 cs.toArray.size:=by
 rw [show cs.toArray.size=30 by simp [hlen],←hs1]
 exact zdi W1
theorem zka{w W1:World}{b:Nat}{x:Value}(hs1:W1.heap.size=w.heap.size+1)(cs:List Value)(hlen:cs.length=30)(ca1:W1.cell? ⟨b,1,none⟩=some x)(ht1:W1.there w.heap.size 0 30)(hb1:Below w.heap.size w W1)(lg:b<w.heap.size):
  ((W1.alloc Z34).setCells (w.heap.size+1) 0 cs.toArray.toList).rangeAt (w.heap.size+1) 0 cs∧((W1.alloc Z34).setCells (w.heap.size+1) 0 cs.toArray.toList).there (w.heap.size+1) 0 30∧((W1.alloc Z34).setCells (w.heap.size+1) 0 cs.toArray.toList).there w.heap.size 0 30 ∧
    ((W1.alloc Z34).setCells (w.heap.size+1) 0 cs.toArray.toList).cell? ⟨b,1,none⟩=some x∧((W1.alloc Z34).setCells (w.heap.size+1) 0 cs.toArray.toList).heap.size=w.heap.size+2∧Below w.heap.size w ((W1.alloc Z34).setCells (w.heap.size+1) 0 cs.toArray.toList):=by
 have e:cs.toArray.toList=cs:=by simp
 rw [e]
 have t2:=zdq hs1 cs hlen
 rw [show cs.toArray.size=cs.length by simp] at t2
 refine⟨World.rangeAt_setCells_same _ _ _ _ t2,?_,World.there_setCells (World.there_alloc ht1 _) _ _ _,?_,?_,?_⟩
 ·rw [hlen] at t2;exact World.there_setCells t2 _ _ _
 ·rw [World.cell?_setCells_out _ _ _ _ _ (fun h=>by simp at h;omega),World.cell?_alloc_lt _ _ _ (by show b<W1.heap.size;omega)]
  exact ca1
 ·rw [zfS];simp;omega
 ·exact zar _ _ (hb1.alloc (by omega) _) (by omega)
theorem zs1(w:World)(b k:Nat)(cs ds:List Value)(z:Int)(hlen:cs.length=30)(hone:cs.toArray.all (·.oneCell')=true)(hc:w.rangeAt b 4 cs)(h28:cs[28]?=some (.int .i64 0))(h29:cs[29]?=some (.int .i64 z))(cAt:w.cell? ⟨b,1,none⟩=some (.int .i64 (k:Int)))(hk:k≤1000)(h1:(z == 1)=false)(h2:(z == 2)=false)(hds:cs.set 28 (.int .i64 ((k:Int)+1))=ds)(hone2:ds.toArray.all (·.oneCell')=true):
  Calls Tryz.prog 56 #[.pointer (some ⟨b,0,none⟩)] w fun e w'=>e=.returned (.agg ds.toArray)∧Below w.heap.size w w':=by
 have lg:b<w.heap.size:=World.block_lt_of_cell? w _ cAt
 have hdl:ds.length=30:=by rw [←hds,List.length_set];exact hlen
 have hc1:=World.rangeAt_alloc hc Z34
 have ca1:(w.alloc Z34).cell? ⟨b,1,none⟩=some (.int .i64 (k:Int)):=(World.cell?_alloc_lt w _ _ lg).trans cAt
 have ht1:=zdi w
 have hs1:(w.alloc Z34).heap.size=w.heap.size+1:=by simp
 have hb1:Below w.heap.size w (w.alloc Z34):=(Below.refl _ _).alloc (Nat.le_refl _) _
 have hu34:Tryz.prog.underlying 34=some (.struct _):=Tryz.underlying34
 have hi34:(Tryz.prog.info? 34).map (·.size)=some cs.length:=by rw [hlen];exact Tryz.info34
 have hi34a:(Tryz.prog.info? 34).map (·.size)=some cs.toArray.size:=by rw [show cs.toArray.size=30 by simp [hlen]];exact Tryz.info34
 have hi34d:(Tryz.prog.info? 34).map (·.size)=some ds.length:=by rw [hdl];exact Tryz.info34
 have hi34e:(Tryz.prog.info? 34).map (·.size)=some ds.toArray.size:=by rw [show ds.toArray.size=30 by simp [hdl]];exact Tryz.info34
 have hTd:∀ W:World,W.there w.heap.size 0 30→W.there w.heap.size 0 ds.toArray.size:=fun W h=>by rw [show ds.toArray.size=30 by simp [hdl]];exact h
 have hRd:∀ W:World,W.rangeAt (w.heap.size+1) 0 cs→W.cell? ⟨w.heap.size+1,28,none⟩=some (.int .i64 0)→(W.setCell ⟨w.heap.size+1,28,none⟩ (.int .i64 ((k:Int)+1))).rangeAt (w.heap.size+1) 0 ds:=fun W h hq=>by
  rw [←hds]
  have:=zdz (v:=.int .i64 ((k:Int)+1)) h (n:=28) (u:=.int .i64 0) (by simpa using hq)
  simpa using this
 clear hc cAt
 go_enter Tryz.func56,Tryz.ntmps56
 go_wp2_with(first
  | (refine wpList_load_mid rfl 34 _ rfl b 4 rfl cs _ hc1 hu34 rfl hi34 ?_;generalize w.alloc Z34=W1 at hc1 ca1 ht1 hs1 hb1 ⊢;have ht2:=zdq hs1 cs hlen)
  | (refine wpList_store_mid rfl 34 _ _ rfl (w.heap.size+1) 0 cs.toArray rfl rfl ht2 hi34a hone ?_;obtain⟨R2,T2,T1,ca2,hs2,hb2⟩:=zka hs1 cs hlen ca1 ht1 hb1 lg;generalize (W1.alloc Z34).setCells (w.heap.size+1) 0 cs.toArray.toList=W2 at R2 T2 T1 ca2 hs2 hb2 ⊢;clear hc1 ca1 ht1 hs1 hb1 ht2;have q28:=R2 28 _ h28;have q29:=R2 29 _ h29;have f28:=(T2 28 (by omega)).2;simp only [Nat.zero_add] at q28 q29 f28;have R3:=hRd W2 R2 q28;have T3:=hTd _ (zdh T1 ⟨w.heap.size+1,28,none⟩ (.int .i64 ((k:Int)+1)));  have hb3:=hb2.setCell (p:=⟨w.heap.size+1,28,none⟩) (Nat.le_succ _) (.int .i64 ((k:Int)+1)))
  | (refine wpList_load_mid rfl 34 _ rfl (w.heap.size+1) 0 rfl ds _ R3 hu34 rfl hi34d ?_)
  | (refine wpList_store_mid rfl 34 _ _ rfl w.heap.size 0 ds.toArray rfl rfl T3 hi34e hone2 ?_))
 have hr:=World.rangeAt_setCells_same (W2.setCell ⟨w.heap.size+1,28,none⟩ (.int .i64 ((k:Int)+1))) w.heap.size 0 ds (by rw [show ds.length=ds.toArray.size by simp];exact T3)
 have hb4:=zar ds (b:=w.heap.size) 0 hb3 (Nat.le_refl _)
 generalize (W2.setCell ⟨w.heap.size+1,28,none⟩ (.int .i64 ((k:Int)+1))).setCells w.heap.size 0 ds=W4 at hr hb4 ⊢
 have hres:=run_loadVar_mid W4 w.heap.size 0 34 ds _ hr hu34 rfl hi34d
 refine bodyPost_ret (v:=.agg ds.toArray) (zbz Tryz.results56 _ ⟨w.heap.size,0,none⟩ rfl hres) rfl ⟨rfl,hb4⟩
theorem zpV(w:World)(b:Nat)(cs ds:List Value)(z:Int)(hlen:cs.length=30)(hone:cs.toArray.all (·.oneCell')=true)(hc:w.rangeAt b 4 cs)(h28:cs[28]?=some (.int .i64 0))(h29:cs[29]?=some (.int .i64 z))(cAt:w.cell? ⟨b,1,none⟩=some (.int .i64 (-1)))(hz:z=1)(hds:cs.set 28 (.int .i64 0)=ds)(hone2:ds.toArray.all (·.oneCell')=true):
  Calls Tryz.prog 56 #[.pointer (some ⟨b,0,none⟩)] w fun e w'=>e=.returned (.agg ds.toArray)∧Below w.heap.size w w':=by
 subst hz
 have lg:b<w.heap.size:=World.block_lt_of_cell? w _ cAt
 have hdl:ds.length=30:=by rw [←hds,List.length_set];exact hlen
 have hc1:=World.rangeAt_alloc hc Z34
 have ca1:(w.alloc Z34).cell? ⟨b,1,none⟩=some (.int .i64 (-1)):=(World.cell?_alloc_lt w _ _ lg).trans cAt
 have ht1:=zdi w
 have hs1:(w.alloc Z34).heap.size=w.heap.size+1:=by simp
 have hb1:Below w.heap.size w (w.alloc Z34):=(Below.refl _ _).alloc (Nat.le_refl _) _
 have hu34:Tryz.prog.underlying 34=some (.struct _):=Tryz.underlying34
 have hi34:(Tryz.prog.info? 34).map (·.size)=some cs.length:=by rw [hlen];exact Tryz.info34
 have hi34a:(Tryz.prog.info? 34).map (·.size)=some cs.toArray.size:=by rw [show cs.toArray.size=30 by simp [hlen]];exact Tryz.info34
 have hi34d:(Tryz.prog.info? 34).map (·.size)=some ds.length:=by rw [hdl];exact Tryz.info34
 have hi34e:(Tryz.prog.info? 34).map (·.size)=some ds.toArray.size:=by rw [show ds.toArray.size=30 by simp [hdl]];exact Tryz.info34
 have hTd:∀ W:World,W.there w.heap.size 0 30→W.there w.heap.size 0 ds.toArray.size:=fun W h=>by rw [show ds.toArray.size=30 by simp [hdl]];exact h
 have hRd:∀ W:World,W.rangeAt (w.heap.size+1) 0 cs→W.cell? ⟨w.heap.size+1,28,none⟩=some (.int .i64 0)→(W.setCell ⟨w.heap.size+1,28,none⟩ (.int .i64 0)).rangeAt (w.heap.size+1) 0 ds:=fun W h hq=>by
  rw [←hds]
  have:=zdz (v:=.int .i64 0) h (n:=28) (u:=.int .i64 0) (by simpa using hq)
  simpa using this
 have hRe:∀ W:World,W.rangeAt (w.heap.size+1) 0 ds→W.cell? ⟨w.heap.size+1,28,none⟩=some (.int .i64 0)→(W.setCell ⟨w.heap.size+1,28,none⟩ (.int .i64 0)).rangeAt (w.heap.size+1) 0 ds:=fun W h hq=>by
  have:=zdz (v:=.int .i64 0) h (n:=28) (u:=.int .i64 0) (by simpa using hq)
  have e:ds.set 28 (.int .i64 0)=ds:=by rw [←hds,List.set_set]
  rw [e] at this
  simpa using this
 clear hc cAt
 go_enter Tryz.func56,Tryz.ntmps56
 go_wp2_with(first
  | (refine wpList_load_mid rfl 34 _ rfl b 4 rfl cs _ hc1 hu34 rfl hi34 ?_;generalize w.alloc Z34=W1 at hc1 ca1 ht1 hs1 hb1 ⊢;have ht2:=zdq hs1 cs hlen)
  | (refine wpList_store_mid rfl 34 _ _ rfl (w.heap.size+1) 0 cs.toArray rfl rfl ht2 hi34a hone ?_;obtain⟨R2,T2,T1,ca2,hs2,hb2⟩:=zka hs1 cs hlen ca1 ht1 hb1 lg;generalize (W1.alloc Z34).setCells (w.heap.size+1) 0 cs.toArray.toList=W2 at R2 T2 T1 ca2 hs2 hb2 ⊢;clear hc1 ca1 ht1 hs1 hb1 ht2;have q28:=R2 28 _ h28;have q29:=R2 29 _ h29;have f28:=(T2 28 (by omega)).2;simp only [Nat.zero_add] at q28 q29 f28;have R30:=hRd W2 R2 q28;have R3:=hRe _ R30 (World.cell?_setCell_same W2 _ _ q28);have T3:=hTd _ (zdh (zdh T1 ⟨w.heap.size+1,28,none⟩ (.int .i64 0)) ⟨w.heap.size+1,28,none⟩ (.int .i64 0));  have hb3:=(hb2.setCell (p:=⟨w.heap.size+1,28,none⟩) (Nat.le_succ _) (.int .i64 0)).setCell (p:=⟨w.heap.size+1,28,none⟩) (Nat.le_succ _) (.int .i64 0))
  | (refine wpList_load_mid rfl 34 _ rfl (w.heap.size+1) 0 rfl ds _ R3 hu34 rfl hi34d ?_)
  | (refine wpList_store_mid rfl 34 _ _ rfl w.heap.size 0 ds.toArray rfl rfl T3 hi34e hone2 ?_))
 have hr:=World.rangeAt_setCells_same ((W2.setCell ⟨w.heap.size+1,28,none⟩ (.int .i64 0)).setCell ⟨w.heap.size+1,28,none⟩ (.int .i64 0)) w.heap.size 0 ds (by rw [show ds.length=ds.toArray.size by simp];exact T3)
 have hb4:=zar ds (b:=w.heap.size) 0 hb3 (Nat.le_refl _)
 generalize ((W2.setCell ⟨w.heap.size+1,28,none⟩ (.int .i64 0)).setCell ⟨w.heap.size+1,28,none⟩ (.int .i64 0)).setCells w.heap.size 0 ds=W4 at hr hb4 ⊢
 have hres:=run_loadVar_mid W4 w.heap.size 0 34 ds _ hr hu34 rfl hi34d
 refine bodyPost_ret (v:=.agg ds.toArray) (zbz Tryz.results56 _ ⟨w.heap.size,0,none⟩ rfl hres) rfl ⟨rfl,hb4⟩
theorem zpW(w:World)(b:Nat)(cs ds:List Value)(z:Int)(hlen:cs.length=30)(hone:cs.toArray.all (·.oneCell')=true)(hc:w.rangeAt b 4 cs)(h28:cs[28]?=some (.int .i64 0))(h29:cs[29]?=some (.int .i64 z))(cAt:w.cell? ⟨b,1,none⟩=some (.int .i64 (-1)))(hz:z=2)(hds:cs.set 28 (.int .i64 0)=ds)(hone2:ds.toArray.all (·.oneCell')=true):
  Calls Tryz.prog 56 #[.pointer (some ⟨b,0,none⟩)] w fun e w'=>e=.returned (.agg ds.toArray)∧Below w.heap.size w w':=by
 subst hz
 have lg:b<w.heap.size:=World.block_lt_of_cell? w _ cAt
 have hdl:ds.length=30:=by rw [←hds,List.length_set];exact hlen
 have hc1:=World.rangeAt_alloc hc Z34
 have ca1:(w.alloc Z34).cell? ⟨b,1,none⟩=some (.int .i64 (-1)):=(World.cell?_alloc_lt w _ _ lg).trans cAt
 have ht1:=zdi w
 have hs1:(w.alloc Z34).heap.size=w.heap.size+1:=by simp
 have hb1:Below w.heap.size w (w.alloc Z34):=(Below.refl _ _).alloc (Nat.le_refl _) _
 have hu34:Tryz.prog.underlying 34=some (.struct _):=Tryz.underlying34
 have hi34:(Tryz.prog.info? 34).map (·.size)=some cs.length:=by rw [hlen];exact Tryz.info34
 have hi34a:(Tryz.prog.info? 34).map (·.size)=some cs.toArray.size:=by rw [show cs.toArray.size=30 by simp [hlen]];exact Tryz.info34
 have hi34d:(Tryz.prog.info? 34).map (·.size)=some ds.length:=by rw [hdl];exact Tryz.info34
 have hi34e:(Tryz.prog.info? 34).map (·.size)=some ds.toArray.size:=by rw [show ds.toArray.size=30 by simp [hdl]];exact Tryz.info34
 have hTd:∀ W:World,W.there w.heap.size 0 30→W.there w.heap.size 0 ds.toArray.size:=fun W h=>by rw [show ds.toArray.size=30 by simp [hdl]];exact h
 have hRd:∀ W:World,W.rangeAt (w.heap.size+1) 0 cs→W.cell? ⟨w.heap.size+1,28,none⟩=some (.int .i64 0)→(W.setCell ⟨w.heap.size+1,28,none⟩ (.int .i64 0)).rangeAt (w.heap.size+1) 0 ds:=fun W h hq=>by
  rw [←hds]
  have:=zdz (v:=.int .i64 0) h (n:=28) (u:=.int .i64 0) (by simpa using hq)
  simpa using this
 have hRe:∀ W:World,W.rangeAt (w.heap.size+1) 0 ds→W.cell? ⟨w.heap.size+1,28,none⟩=some (.int .i64 0)→(W.setCell ⟨w.heap.size+1,28,none⟩ (.int .i64 0)).rangeAt (w.heap.size+1) 0 ds:=fun W h hq=>by
  have:=zdz (v:=.int .i64 0) h (n:=28) (u:=.int .i64 0) (by simpa using hq)
  have e:ds.set 28 (.int .i64 0)=ds:=by rw [←hds,List.set_set]
  rw [e] at this
  simpa using this
 clear hc cAt
 go_enter Tryz.func56,Tryz.ntmps56
 go_wp2_with(first
  | (refine wpList_load_mid rfl 34 _ rfl b 4 rfl cs _ hc1 hu34 rfl hi34 ?_;generalize w.alloc Z34=W1 at hc1 ca1 ht1 hs1 hb1 ⊢;have ht2:=zdq hs1 cs hlen)
  | (refine wpList_store_mid rfl 34 _ _ rfl (w.heap.size+1) 0 cs.toArray rfl rfl ht2 hi34a hone ?_;obtain⟨R2,T2,T1,ca2,hs2,hb2⟩:=zka hs1 cs hlen ca1 ht1 hb1 lg;generalize (W1.alloc Z34).setCells (w.heap.size+1) 0 cs.toArray.toList=W2 at R2 T2 T1 ca2 hs2 hb2 ⊢;clear hc1 ca1 ht1 hs1 hb1 ht2;have q28:=R2 28 _ h28;have q29:=R2 29 _ h29;have f28:=(T2 28 (by omega)).2;simp only [Nat.zero_add] at q28 q29 f28;have R30:=hRd W2 R2 q28;have R3:=hRe _ R30 (World.cell?_setCell_same W2 _ _ q28);have T3:=hTd _ (zdh (zdh T1 ⟨w.heap.size+1,28,none⟩ (.int .i64 0)) ⟨w.heap.size+1,28,none⟩ (.int .i64 0));  have hb3:=(hb2.setCell (p:=⟨w.heap.size+1,28,none⟩) (Nat.le_succ _) (.int .i64 0)).setCell (p:=⟨w.heap.size+1,28,none⟩) (Nat.le_succ _) (.int .i64 0))
  | (refine wpList_load_mid rfl 34 _ rfl (w.heap.size+1) 0 rfl ds _ R3 hu34 rfl hi34d ?_)
  | (refine wpList_store_mid rfl 34 _ _ rfl w.heap.size 0 ds.toArray rfl rfl T3 hi34e hone2 ?_))
 have hr:=World.rangeAt_setCells_same ((W2.setCell ⟨w.heap.size+1,28,none⟩ (.int .i64 0)).setCell ⟨w.heap.size+1,28,none⟩ (.int .i64 0)) w.heap.size 0 ds (by rw [show ds.length=ds.toArray.size by simp];exact T3)
 have hb4:=zar ds (b:=w.heap.size) 0 hb3 (Nat.le_refl _)
 generalize ((W2.setCell ⟨w.heap.size+1,28,none⟩ (.int .i64 0)).setCell ⟨w.heap.size+1,28,none⟩ (.int .i64 0)).setCells w.heap.size 0 ds=W4 at hr hb4 ⊢
 have hres:=run_loadVar_mid W4 w.heap.size 0 34 ds _ hr hu34 rfl hi34d
 refine bodyPost_ret (v:=.agg ds.toArray) (zbz Tryz.results56 _ ⟨w.heap.size,0,none⟩ rfl hres) rfl ⟨rfl,hb4⟩
end Go.Proofs.YtfpgjkbjbbgciaaGreatDoor
