import Derived.Test.YtfpgjkbjbbgciaaGreatDoorMd36
set_option maxRecDepth 100000
set_option maxHeartbeats 8000000
namespace Go.Proofs.YtfpgjkbjbbgciaaGreatDoor
open Go.RowKit Sp
def rgs(f:Nat→Rg):Nat→List Value
 | 0=>[]
 | n+1=>rgs f n++[.int .i64 (f n).lo,.int .i64 (f n).hi]
theorem zdD(f:Nat→Rg)(n:Nat):(rgs f n).length=n*2:=by
 induction n with
 | zero=>rfl
 | succ n ih=>simp [rgs,ih];omega
theorem zlO(f:Nat→Rg)(n r:Nat)(h:r<n):(rgs f n)[r*2]?=some (.int .i64 (f r).lo)∧(rgs f n)[r*2+1]?=some (.int .i64 (f r).hi):=by
 induction n with
 | zero=>omega
 | succ n ih =>
  have hl:=zdD f n
  unfold rgs
  by_cases e:r=n
  ·subst e
   rw [List.getElem?_append_right (by omega),List.getElem?_append_right (by omega),hl,show r*2-r*2=0 by omega,show r*2+1-r*2=1 by omega]
   exact⟨rfl,rfl⟩
  ·rw [List.getElem?_append_left (by omega),List.getElem?_append_left (by omega)]
   exact ih (by omega)
theorem ztm(f:Nat→Rg)(n:Nat):∀ v∈rgs f n,v.oneCell'=true:=by
 induction n with
 | zero=>intro v hv;cases hv
 | succ n ih =>
  intro v hv
  rcases List.mem_append.1 hv with h|h
  ·exact ih v h
  ·rcases List.mem_cons.1 h with rfl|h
   ·rfl
   ·rw [List.mem_singleton.1 h];rfl
theorem zxz(f:Nat→Rg)(n r:Nat)(h:r<n):(rgs f n).toArray.extract (r*2) (r*2+2)=#[.int .i64 (f r).lo,.int .i64 (f r).hi]:=by
 obtain⟨h0,h1⟩:=zlO f n r h
 have hl:=zdD f n
 apply Array.ext
 ·simp [hl];omega
 ·intro i h2 h3
  have h4:i<2:=by simpa using h3
  rw [Array.getElem_extract]
  rcases(by omega:i=0∨i=1) with rfl|rfl
  ·have:=(List.getElem?_eq_some_iff.1 h0).2
   simpa using this
  ·have:=(List.getElem?_eq_some_iff.1 h1).2
   simpa using this
theorem ztn{t n:Nat}(hu:Tryz.prog.underlying t=some (.array n 213))(A:Array Value)(r:Nat)(h:r<n)(x y:Value)(hc:A.extract (r*2) (r*2+2)=#[x,y])(W:World):(Instr.index t (.agg A) (.int .i64 (r:Int))).run Tryz.prog W=.ok (.agg #[x,y]) W:=by
 have hs:(sizeOf 213).run Tryz.prog W=.ok 2 W:=by kernel_rfl
 have ha:(isAgg 213).run Tryz.prog W=.ok true W:=by kernel_rfl
 have h1:(0:Int)≤(r:Int)∧(r:Int)<(n:Int):=by omega
 simp only [Instr.index,run_underlying hu,asIntOf,Sem.run_bind,Sem.run_pure,Result.andThen_ok,if_pos h1,hs,Int.toNat_natCast,part,ha,if_true,hc]
theorem zoJ{t n:Nat}(hu:Tryz.prog.underlying t=some (.array n 213))(f:Nat→Rg)(r:Nat)(h:r<n)(W:World):(Instr.index t (.agg (rgs f n).toArray) (.int .i64 (r:Int))).run Tryz.prog W=.ok (rv (f r)) W :=
 ztn hu _ r h _ _ (zxz f n r h) W
theorem zlP{w:World}{b o n:Nat}{f:Nat→Rg}(h:∀ r,r<n→w.cell? ⟨b,o+r*2,none⟩=some (.int .i64 (f r).lo)∧w.cell? ⟨b,o+r*2+1,none⟩=some (.int .i64 (f r).hi)):w.rangeAt b o (rgs f n):=by
 intro j v hv
 have hj:=(List.getElem?_eq_some_iff.1 hv).1
 rw [zdD] at hj
 obtain⟨h0,h1⟩:=zlO f n (j/2) (by omega)
 obtain⟨g0,g1⟩:=h (j/2) (by omega)
 rcases Nat.mod_two_eq_zero_or_one j with e|e
 ·rw [show j/2*2=j by omega] at h0 g0
  rw [g0,←h0,hv]
 ·rw [show j/2*2+1=j by omega] at h1
  rw [show o+j/2*2+1=o+j by omega] at g1
  rw [g1,←h1,hv]
theorem KnM.rowR{w:World}{b:Nat}{bv:Value}{k:Kn}(h:KnM w b bv k):w.rangeAt b 0 (rgs k.regs 8) :=
 zlP fun r hr=>⟨by rw [Nat.zero_add];exact(h.cR r hr).1,by rw [Nat.zero_add];exact(h.cR r hr).2⟩
theorem KnM.rowC{w:World}{b:Nat}{bv:Value}{k:Kn}(h:KnM w b bv k):w.rangeAt b 16 (rgs k.cells 16) :=
 zlP fun r hr=>⟨(h.cC r hr).1,(h.cC r hr).2⟩
theorem znu{w:World}{ao:Option Addr}{cap:Nat}:Calls Tryz.prog 169 #[.slice ao 0 cap,.int .i64 0] w fun e w'=>e=.returned (.int .i64 0)∧Below w.heap.size w w':=by
 go_enter Tryz.func169,Tryz.ntmps169
 go_wp2
 go_loopw [5,6] (fun tl tb wr=>tl=.int .i64 0∧tb=.int .i64 1∧Below w.heap.size w wr) (fun _ _ _=>0)
 case atStart=>exact⟨rfl,rfl,Below.refl _ _⟩
 case round =>
  obtain⟨rfl,rfl,hb⟩:=hrel
  go_wp2
  go_ret
  exact⟨rfl,hb⟩
theorem zq2{w:World}{ao:Option Addr}{cap:Nat}:Calls Tryz.prog 154 #[.slice ao 0 cap,.int .i64 0] w fun e w'=>e=.returned (.tuple #[])∧Below w.heap.size w w':=by
 go_enter Tryz.func154,Tryz.ntmps154
 go_wp2
 go_loopw [1] (fun ti wr=>ti=.int .i64 0∧Below w.heap.size w wr) (fun _ _=>0)
 case atStart=>exact⟨rfl,Below.refl _ _⟩
 case round =>
  obtain⟨rfl,hb⟩:=hrel
  go_wp2_with(go_at_call 169;(with_reducible refine znu.mono ?_);rintro e wx ⟨rfl,hbx⟩)
  refine bodyPost_ret (results_none rfl _ _ _) rfl ⟨rfl,hb.trans (hbx.mono hb.size)⟩
theorem zvD{w:World}{H C cap n:Nat}{xs:List Wy}(h:HpM w H C xs)(hl:xs.length=n)(a:Nat)(ha:a<n)(hn:n≤100000)(hR:SinkI (stp xs) n a):Calls Tryz.prog 154 #[.slice (some ⟨H,0,none⟩) n cap,.int .i64 (a:Int)] w (zkp w H C xs):=by
 have L0:∃ ys:List Wy,ys.Perm xs∧HpM w H C ys∧SinkI (stp ys) n a∧w.grownBy w (some H):=⟨xs,List.Perm.refl _,h,hR,⟨rfl,rfl,rfl,Nat.le_refl _,fun _ _ _=>rfl⟩⟩
 have HN:Hid (xs.length=n):=hl
 clear hl h hR
 go_enter Tryz.func154,Tryz.ntmps154
 go_wp2
 go_loopw [1] (fun ti wr=>∃ a:Nat,ti=.int .i64 (a:Int)∧a<n∧∃ ys:List Wy,ys.Perm xs∧HpM wr H C ys∧SinkI (stp ys) n a∧w.grownBy wr (some H)) (fun ti _=>n-(intOf ti).toNat)
 case atStart=>exact⟨a,rfl,ha,L0⟩
 case round =>
  obtain⟨a,rfl,ha,ys,hp,hM,hR,hg⟩:=hrel
  clear L0
  have hl:ys.length=n:=hp.length_eq.trans HN.out
  have hls:=ztv (cap:=cap) hM a (by omega) (by omega)
  rw [hl] at hls
  go_wp2_with(go_at_call 169;(with_reducible refine hls.mono ?_);rintro e wx ⟨m,rfl,hX,m1,m2,m3,m4,m5⟩)
  ·have hx0:((m:Int) == (a:Int))=true:=by assumption
   have hx:(m:Int)=(a:Int):=by simpa using hx0
   obtain rfl:m=a:=by omega
   rw [hl] at m4 m5
   exact bodyPost_ret (results_none rfl _ _ _) rfl ⟨rfl,ys,hp,hM.below hX,by rw [hl];exact hR.done m4 m5,zag hg (zaQ hX)⟩
  ·have hx0:((m:Int) == (a:Int))=false:=by assumption
   have hx:¬(m:Int)=(a:Int):=by simpa using hx0
   have hma:¬a=m:=by omega
   have hay:a<ys.length:=by omega
   have hmy:m<ys.length:=m1
   have c1:=((hM.below hX).at' hay).1
   have c2:=((hM.below hX).at' hmy).1
   have z1:=(hM.below hX).fz a
   have z2:=(hM.below hX).fz m
   have HS2:=(hM.below hX).swap hay hmy hma
   rw [hl] at m4 m5
   have hR3:SinkI (stp (zek wy0 ys a m)) n m:=by
    have e:stp (zek wy0 ys a m)=znq (stp ys) a m:=ztq hay hmy hma (fun x=>keyK x.k)
    rw [e]
    exact hR.step (by omega) (by omega) m3 m4 m5
   have a0:(0:Int)≤(a:Int):=by omega
   have a1:(a:Int)<(n:Int):=by omega
   have q0:(0:Int)≤(m:Int):=by omega
   have q1:(m:Int)<(n:Int):=by omega
   have hmm:a<m:=by omega
   have hmn:m<n:=by omega
   generalize ys.getD a wy0=xa at c1 HS2
   generalize ys.getD m wy0=xm at c2 HS2
   clear m1 m2 m3 m4 m5 hls
   go_region
   all_goals go_wp2
   all_goals exact⟨⟨m,rfl,hmn,zek wy0 ys a m,(zg5 hay hmy).trans hp,HS2.drew,hR3,zby (zag hg (zag (zac hX) (zac (Below.refl _ _))))⟩,by simp [intOf];omega⟩
def ziH(xs:List Wy):List Value:=xs.map fun x=>.pointer (some ⟨x.b,0,none⟩)
structure HeapM(w:World)(B:Nat)(v:Value)(xs:List Wy):Prop where
 row:w.ownsRow B 197 1 v xs.length (ziH xs)
 wy:∀ x∈xs,WyM w x
 far:∀ g,v.ownBlock=some g→∀ x∈xs,¬x.b=g∧∀ a,x.ao=some a→¬a.block=g
theorem HeapM.hp{w:World}{B H cap:Nat}{xs:List Wy}(h:HeapM w B (.slice (some ⟨H,0,none⟩) xs.length cap) xs):HpM w H cap xs∧xs.length≤cap∧cap≤maxLen∧B≤H:=by
 obtain⟨hl,hr⟩:=h.row
 rcases hr with ⟨h1,_⟩|⟨g,cap',cur,h1,hB,hg,h2,h3,h4,h5⟩
 ·cases h1
 ·cases h1
  have hlt:H<w.heap.size:=by
   rcases Nat.lt_or_ge H w.heap.size with hlt|hge
   ·exact hlt
   ·rw [Array.getElem?_eq_none hge] at hg;cases hg
  refine⟨⟨fun i x hx=>zfZ h.row i _ (by unfold ziH;rw [List.getElem?_map,hx];rfl),h.wy,hlt,h.far H rfl,fun j=>?_,⟨cur,hg,by omega⟩⟩,h2,h3,hB⟩
  simp [World.frozen?,hg]
theorem HpM.heap{w:World}{B H cap:Nat}{xs:List Wy}(h:HpM w H cap xs)(h1:xs.length≤cap)(h2:cap≤maxLen)(hB:B≤H):HeapM w B (.slice (some ⟨H,0,none⟩) xs.length cap) xs:=by
 obtain⟨cur,hg,hs⟩:=h.shape
 refine⟨⟨by simp [ziH],.inr ⟨H,cap,cur,rfl,hB,hg,h1,h2,by omega,?_⟩⟩,h.wy,fun g hg=>by cases hg;exact h.far⟩
 apply List.ext_getElem?
 intro i
 by_cases hi:i<xs.length
 ·rw [List.getElem?_take_of_lt (by omega)]
  have e:=h.ptr i xs[i] (List.getElem?_eq_getElem hi)
  have e2:w.cell? ⟨H,i,none⟩=cur[i]?:=by simp [World.cell?,hg]
  rw [e2] at e
  unfold ziH
  rw [List.getElem?_map,List.getElem?_eq_getElem hi]
  simpa using e
 ·rw [List.getElem?_eq_none (by simp;omega),List.getElem?_eq_none (by simp [ziH];omega)]
theorem Tryz.under151:Tryz.prog.underlying 151=some (.slice 197):=by kernel_rfl
theorem zq3{w:World}{H n cap p:Nat}(hn:0<n)(hc:w.cell? ⟨H,0,none⟩=some (.pointer (some ⟨p,0,none⟩))):Calls Tryz.prog 140 #[.slice (some ⟨H,0,none⟩) n cap] w fun e w'=>e=.returned (.pointer (some ⟨p,0,none⟩))∧w'=w:=by
 have hn1:(0:Int)<(n:Int):=by omega
 go_enter Tryz.func140,Tryz.ntmps140
 go_wp2
 go_ret
 exact⟨rfl,rfl⟩
structure Kept2(w w':World)(S o:Nat)(hb:Option Nat):Prop where
 os:w'.os=w.os
 tape:w'.tape=w.tape
 output:w'.output=w.output
 size:w.heap.size≤w'.heap.size
 block:∀ q,q<w.heap.size→¬q=S→some q≠hb→w'.heap[q]?=w.heap[q]?
 cell:∀ j,¬j=o→w'.cell? ⟨S,j,none⟩=w.cell? ⟨S,j,none⟩
 fz:∀ j,w'.frozen? ⟨S,j,none⟩=w.frozen? ⟨S,j,none⟩
theorem zlV(w:World)(a:Value):∀ j u,[a][j]?=some u→(w.alloc (.cells #[a] 197)).cell? ((⟨w.heap.size,0,none⟩:Addr).add j)=some u:=by
 intro j u hj
 rw [Addr.add_mid,Nat.zero_add,World.cell?_alloc_new]
 cases j with
 | zero=>cases hj;rfl
 | succ j=>simp at hj
theorem WyM.grown{w w':World}{x:Wy}{r:Option Nat}(h:WyM w x)(hg:w.grownBy w' r)(f:∀ g,r=some g→¬x.b=g∧∀ a,x.ao=some a→¬a.block=g):WyM w' x :=
 ⟨h.key,h.kn.block (hg.block x.b h.kn.lt (fun e=>(f _ e.symm).1 rfl)),h.bh.kept hg.size (fun g e=>hg.block g (h.bh.cell g e).1 (fun e2=>(f _ e2.symm).2 _ e rfl))⟩
theorem zcZ{w:World}{S o j:Nat}{v:Value}:(w.setCell ⟨S,o,none⟩ v).frozen? ⟨S,j,none⟩=w.frozen? ⟨S,j,none⟩:=by
 simp
def zx1(w:World)(S o B:Nat)(v:Value)(xs:List Wy)(x:Wy):Ending→World→Prop:=fun e w'=>e=.returned (.tuple #[])∧∃(H cap:Nat) (ys:List Wy),w'.cell? ⟨S,o,none⟩=some (.slice (some ⟨H,0,none⟩) ys.length cap)∧ys.Perm (xs++[x])∧HeapM w' B (.slice (some ⟨H,0,none⟩) ys.length cap) ys∧HpAll (stp ys) ys.length∧(v.ownBlock=some H∨w.heap.size≤H)∧Kept2 w w' S o v.ownBlock
theorem zvE{w:World}{S o B:Nat}{v:Value}{xs:List Wy}{x:Wy}(hc:w.cell? ⟨S,o,none⟩=some v)(hz:w.frozen? ⟨S,o,none⟩=false)(M:HeapM w B v xs)(hA:HpAll (stp xs) xs.length)(X:WyM w x)(hlen:xs.length<100000)(hB:B≤w.heap.size)(hvS:v.ownBlock≠some S)
  (hxf:∀ g,v.ownBlock=some g→¬x.b=g∧∀ a,x.ao=some a→¬a.block=g) (hS:∀ y∈xs++[x],¬y.b=S∧∀ a,y.ao=some a→¬a.block=S) :
  Calls Tryz.prog 138 #[.pointer (some ⟨S,o,none⟩),.pointer (some ⟨x.b,0,none⟩)] w (zx1 w S o B v xs x):=by
 obtain⟨i0,hi0,hz0,hz1,hz2⟩:=info_parts Tryz.info197
 have hSl:S<w.heap.size:=World.block_lt_of_cell? w _ hc
 have hvS2:some S≠v.ownBlock:=fun e=>hvS e.symm
 have hne:¬w.heap.size=S:=by omega
 go_enter Tryz.func138,Tryz.ntmps138
 go_wp2_with(first
  | (at_builtin;refine wpList_append_lies _ rfl _ _ 151 rfl B 197 i0 (.pointer none) 1 8 Tryz.under151 hi0 hz0 hz1 hz2 rfl (by decide) _ _ _ rfl (M.row.alloc _) ⟨w.heap.size,0,none⟩ 1 1 [.pointer (some ⟨x.b,0,none⟩)] rfl rfl (zlV _ _) (by simp [Value.oneCell']) (by omega) (by unfold maxLen;omega) (by omega) (by simp;omega) (w.heap.size+1) (by simp) ?_))
 intro g cap w4 hown4 hgrow hat hg4
 have G0:w.grownBy w4 v.ownBlock:=(World.grownBy_alloc w _ _).trans hgrow
 have hSg:¬S=g:=by
  rcases hat with e|e
  ·intro e2;exact hvS (by rw [e,e2])
  ·omega
 have hcell4:w4.cell? ⟨S,o,none⟩=some v:=(World.cell?_of_block (a:=⟨S,o,none⟩) (G0.block S hSl hvS2)).trans hc
 have hz4:w4.frozen? ⟨S,o,none⟩=false:=(World.frozen?_of_block (a:=⟨S,o,none⟩) (G0.block S hSl hvS2)).trans hz
 have hfar4:∀ y∈xs++[x],∀ q,v.ownBlock=some q→¬y.b=q∧∀ a,y.ao=some a→¬a.block=q:=fun y hy q hq=>by
  rcases List.mem_append.1 hy with h|h
  ·exact M.far q hq y h
  ·rw [List.mem_singleton.1 h];exact hxf q hq
 have hall:∀ y∈xs++[x],WyM w y:=fun y hy=>by
  rcases List.mem_append.1 hy with h|h
  ·exact M.wy y h
  ·rw [List.mem_singleton.1 h];exact X
 have hfarg:∀ y∈xs++[x],¬y.b=g∧∀ a,y.ao=some a→¬a.block=g:=fun y hy=>by
  rcases hat with e|e
  ·exact hfar4 y hy g e
  ·have hy2:=hall y hy
   refine⟨fun e2=>?_,fun a ha e2=>?_⟩
   ·have:=hy2.kn.lt;omega
   ·obtain⟨q,rfl⟩:=hy2.bh.at0 a ha
    have:=(hy2.bh.cell q ha).1
    have e3:q=g:=e2
    omega
 have hpv:ziH xs++[Value.pointer (some ⟨x.b,0,none⟩)]=ziH (xs++[x]):=by simp [ziH]
 have hln:xs.length+1=(xs++[x]).length:=by simp
 have M4:HeapM w4 B (.slice (some ⟨g,0,none⟩) (xs++[x]).length cap) (xs++[x]):=by
  refine⟨by rw [←hpv,←hln];exact hown4,fun y hy=>(hall y hy).grown G0 (hfar4 y hy),fun q hq=>by cases hq;exact hfarg⟩
 obtain⟨P4,p1,p2,p3⟩:=M4.hp
 have P5:HpM (w4.setCell ⟨S,o,none⟩ (.slice (some ⟨g,0,none⟩) (xs++[x]).length cap)) g cap (xs++[x]) :=
  ⟨fun i y hy=>(World.cell?_of_block (a:=⟨g,i,none⟩) (Below.heap_setCell _ _ _ g (fun e=>hSg e.symm))).trans (P4.ptr i y hy),fun y hy=>(P4.wy y hy).other (hS y hy).1 (hS y hy).2,by rw [World.size_setCell];exact P4.lt,P4.far,fun j=>(World.frozen?_of_block (a:=⟨g,j,none⟩) (Below.heap_setCell _ _ _ g (fun e=>hSg e.symm))).trans (P4.fz j),by obtain⟨cur,q1,q2⟩:=P4.shape;exact⟨cur,(Below.heap_setCell _ _ _ g (fun e=>hSg e.symm)).trans q1,q2⟩⟩
 have hR:RiseI (stp (xs++[x])) (xs.length+1) xs.length:=RiseI.last hA (fun i hi=>by unfold stp;simp [List.getD,List.getElem?_append_left hi])
 have c5:(w4.setCell ⟨S,o,none⟩ (.slice (some ⟨g,0,none⟩) (xs++[x]).length cap)).cell? ⟨S,o,none⟩=some (.slice (some ⟨g,0,none⟩) (xs++[x]).length cap):=World.cell?_setCell_same _ _ _ hcell4
 rw [←hln] at P5 c5
 have HR:Hid (∀ W,Below (w4.setCell ⟨S,o,none⟩ (.slice (some ⟨g,0,none⟩) (xs.length+1) cap)).heap.size (w4.setCell ⟨S,o,none⟩ (.slice (some ⟨g,0,none⟩) (xs.length+1) cap)) W→Calls Tryz.prog 153 #[.slice (some ⟨g,0,none⟩) (xs.length+1) cap,.int .i64 (xs.length:Int)] W (zkp W g cap (xs++[x]))):=fun W hW=>zvC (cap:=cap) (P5.below hW) hln.symm xs.length (by omega) (by omega) hR
 have HLN:Hid (xs.length+1=(xs++[x]).length∧(xs++[x]).length≤cap∧cap≤maxLen∧B≤g):=⟨hln,p1,p2,p3⟩
 have HG:Hid (w.grownBy w4 v.ownBlock):=G0
 have HAT:Hid (v.ownBlock=some g∨g=w.heap.size+1):=hat
 clear hln hpv p1 p2 p3 P4 P5 M4 hall hfar4 hfarg hR hown4 hgrow G0 hat M X hxf hS hA
 go_wp2
 have G5:Hid (w4.grownBy (w4.setCell ⟨S,o,none⟩ (.slice (some ⟨g,0,none⟩) (xs.length+1) cap)) (some S)∧(∀ j,¬j=o→(w4.setCell ⟨S,o,none⟩ (.slice (some ⟨g,0,none⟩) (xs.length+1) cap)).cell? ⟨S,j,none⟩=w4.cell? ⟨S,j,none⟩)∧(∀ j,(w4.setCell ⟨S,o,none⟩ (.slice (some ⟨g,0,none⟩) (xs.length+1) cap)).frozen? ⟨S,j,none⟩=w4.frozen? ⟨S,j,none⟩)) :=
  ⟨zac (Below.refl _ _),fun j hj=>by rw [zan _ S o j _ _ hcell4,if_neg hj],fun j=>zcZ⟩
 have hS5:S<(w4.setCell ⟨S,o,none⟩ (.slice (some ⟨g,0,none⟩) (xs.length+1) cap)).heap.size:=World.block_lt_of_cell? _ _ c5
 generalize w4.setCell ⟨S,o,none⟩ (.slice (some ⟨g,0,none⟩) (xs.length+1) cap)=w5 at c5 HR G5 hS5 ⊢
 have HF:∀ W,Below w5.heap.size w5 W→W.cell? ⟨S,o,none⟩=some (.slice (some ⟨g,0,none⟩) (xs.length+1) cap):=fun W hW=>(World.cell?_of_block (a:=⟨S,o,none⟩) (hW.block S hS5)).trans c5
 refine zaf 8 (fun W=>Below w5.heap.size w5 W) (Below.refl _ _).drew (by kernel_rfl) (by kernel_rfl) ?_
 simp only [List.take,List.drop]
 iterate 8 (refine zab rfl ?_ (fun W hW=>?_) ?_;rotate_left 1;· (have f1:=HF W hW;go_simp;with_reducible rfl))
 refine wpQuiet_nil ?_
 intro W hW
 have hr:=HR.out W hW
 go_wp2_with(go_at_call 153;(with_reducible refine hr.mono ?_);rintro e w6 ⟨rfl,ys,hp,hM6,hA6,hg6⟩)
 obtain⟨q1,q2,q3,q4⟩:=HLN.out
 have G0:=HG.out
 obtain⟨g5,k5,z5⟩:=G5.out
 have hat:=HAT.out
 have hyl:ys.length=xs.length+1:=by rw [hp.length_eq,←q1]
 have hSne:some S≠some g:=fun e=>hSg (by cases e;rfl)
 have hb6:w6.heap[S]?=w5.heap[S]?:=(hg6.block S (Nat.lt_of_lt_of_le hS5 hW.size) hSne).trans (hW.block S hS5)
 refine bodyPost_end (results_none rfl _ _ _) rfl ⟨rfl,g,cap,ys,?_,hp,hM6.heap (by omega) q3 q4,hA6,hat.imp id (fun e=>by omega),⟨hg6.os.trans (hW.os.trans (g5.os.trans G0.os)),hg6.tape.trans (hW.tape.trans (g5.tape.trans G0.tape)),hg6.output.trans (hW.output.trans (g5.output.trans G0.output)),Nat.le_trans G0.size (Nat.le_trans g5.size (Nat.le_trans hW.size hg6.size)),fun q hq h1 h2=>?_,fun j hj=>?_,fun j=>?_⟩⟩
 ·rw [World.cell?_of_block (w:=w5) (a:=⟨S,o,none⟩) hb6,c5,hyl]
 ·have l4:q<w4.heap.size:=Nat.lt_of_lt_of_le hq G0.size
  have l5:q<w5.heap.size:=Nat.lt_of_lt_of_le l4 g5.size
  have hqg:some q≠some g:=fun e=>by
   cases e
   rcases hat with e|e
   ·exact h2 e.symm
   ·omega
  exact(hg6.block q (Nat.lt_of_lt_of_le l5 hW.size) hqg).trans ((hW.block q l5).trans ((g5.block q l4 (fun e=>h1 (by cases e;rfl))).trans (G0.block q hq h2)))
 ·rw [World.cell?_of_block (w:=w5) (a:=⟨S,j,none⟩) hb6,k5 j hj]
  exact World.cell?_of_block (a:=⟨S,j,none⟩) (G0.block S hSl hvS2)
 ·rw [World.frozen?_of_block (w:=w5) (a:=⟨S,j,none⟩) hb6,z5 j]
  exact World.frozen?_of_block (a:=⟨S,j,none⟩) (G0.block S hSl hvS2)
def zbR(s:Int):Bool:=bits BinOp.and IntKind.i64 s (s-1) == 0
theorem zcK{w:World}{S o:Nat}{s:Int}(hc:w.cell? ⟨S,o+1,none⟩=some (.int .i64 s))(h0:0≤s)(h1:s≤100000):Calls Tryz.prog 167 #[.pointer (some ⟨S,o,none⟩)] w fun e w'=>e=.returned (.bool (zbR s))∧Below w.heap.size w w':=by
 have hS:S<w.heap.size:=World.block_lt_of_cell? w _ hc
 have HF:∀ W,Below w.heap.size w W→W.cell? ⟨S,o+1,none⟩=some (.int .i64 s):=fun W hW=>(World.cell?_of_block (a:=⟨S,o+1,none⟩) (hW.block S hS)).trans hc
 go_enter Tryz.func167,Tryz.ntmps167
 go_wp2
 refine zaf 11 (fun W=>Below w.heap.size w W) (Below.refl _ _).drew (by kernel_rfl) (by kernel_rfl) ?_
 simp only [List.take,List.drop]
 iterate 11 (refine zab rfl ?_ (fun W hW=>?_) ?_;rotate_left 1;· (have f1:=HF W hW;go_simp;with_reducible rfl))
 refine wpQuiet_nil ?_
 intro W hW
 go_wp2
 go_ret
 exact⟨rfl,hW⟩
structure Mk where
 ao:Option Addr
 cap:Nat
 k:Kn
def zbd(bv:Value)(k:Kn):List Value:=rgs k.regs 8++(rgs k.cells 16++[.int .i64 k.next,bv,.int .i64 k.steps])
theorem zd2(bv:Value)(k:Kn):(zbd bv k).length=51:=by simp [zbd,zdD]
def Mk.cells(m:Mk):List Value:=zbd (.slice m.ao m.k.behind.length m.cap) m.k
def zbs(ms:List Mk):List Value:=ms.flatMap Mk.cells
theorem zlY(ms:List Mk)(m:Mk):zbs (ms++[m])=zbs ms++m.cells:=by simp [zbs]
theorem zq6{ms:List Mk}{i:Nat}{m:Mk}(h:ms[i]?=some m)(j:Nat)(hj:j<51):(zbs ms)[51*i+j]?=m.cells[j]?:=by
 induction ms generalizing i with
 | nil=>simp at h
 | cons x t ih =>
  show(x.cells++zbs t)[51*i+j]?=_
  have hl:x.cells.length=51:=zd2 _ _
  cases i with
  | zero =>
   cases h
   rw [Nat.mul_zero,Nat.zero_add,List.getElem?_append_left (by omega)]
  | succ i =>
   rw [List.getElem?_append_right (by omega),hl,show 51*(i+1)+j-51=51*i+j by omega]
   exact ih (by simpa using h)
theorem zio{w:World}{b o:Nat}{bv:Value}{k:Kn}(h:∀ j,j<51→w.cell? ⟨b,o+j,none⟩=(zbd bv k)[j]?):KnR w b o bv k:=by
 have l1:=zdD k.regs 8
 have l2:=zdD k.cells 16
 have tl:∀ j,j<3→(zbd bv k)[48+j]?=[Value.int .i64 k.next,bv,.int .i64 k.steps][j]?:=fun j hj=>by
  unfold zbd
  rw [List.getElem?_append_right (by omega),List.getElem?_append_right (by omega),l1,l2,show 48+j-8*2-16*2=j by omega]
 have r:∀ r,r<8→(zbd bv k)[r*2]?=some (.int .i64 (k.regs r).lo)∧(zbd bv k)[r*2+1]?=some (.int .i64 (k.regs r).hi):=fun r hr=>by
  unfold zbd
  rw [List.getElem?_append_left (by omega),List.getElem?_append_left (by omega)]
  exact zlO _ _ _ hr
 have c:∀ c,c<16→(zbd bv k)[16+c*2]?=some (.int .i64 (k.cells c).lo)∧(zbd bv k)[16+c*2+1]?=some (.int .i64 (k.cells c).hi):=fun c hc=>by
  unfold zbd
  refine⟨?_,?_⟩
  ·rw [List.getElem?_append_right (by omega),List.getElem?_append_left (by omega),l1,show 16+c*2-8*2=c*2 by omega]
   exact(zlO _ _ _ hc).1
  ·rw [List.getElem?_append_right (by omega),List.getElem?_append_left (by omega),l1,show 16+c*2+1-8*2=c*2+1 by omega]
   exact(zlO _ _ _ hc).2
 exact⟨fun x hx=>⟨(h _ (by omega)).trans (r x hx).1,(h _ (by omega)).trans (r x hx).2⟩,fun x hx=>⟨(h _ (by omega)).trans (c x hx).1,(h _ (by omega)).trans (c x hx).2⟩,(h 48 (by omega)).trans (tl 0 (by omega)),(h 49 (by omega)).trans (tl 1 (by omega)),(h 50 (by omega)).trans (tl 2 (by omega))⟩
theorem KnM.cells'{w:World}{b:Nat}{bv:Value}{k:Kn}(h:KnM w b bv k):w.rangeAt b 0 (zbd bv k):=by
 have l1:=zdD k.regs 8
 have l2:=zdD k.cells 16
 intro j v hv
 rw [Nat.zero_add]
 have hj:=(List.getElem?_eq_some_iff.1 hv).1
 rw [zd2] at hj
 unfold zbd at hv
 by_cases h1:j<16
 ·rw [List.getElem?_append_left (by omega)] at hv
  have:=h.rowR j v hv
  rw [Nat.zero_add] at this
  exact this
 ·rw [List.getElem?_append_right (by omega),l1] at hv
  by_cases h2:j<48
  ·rw [List.getElem?_append_left (by omega)] at hv
   have:=h.rowC (j-8*2) v hv
   rw [show 16+(j-8*2)=j by omega] at this
   exact this
  ·rw [List.getElem?_append_right (by omega),l2] at hv
   rcases(by omega:j=48∨j=49∨j=50) with e|e|e
   ·subst e;cases hv;exact h.cN
   ·subst e;cases hv;exact h.cB
   ·subst e;cases hv;exact h.cS
theorem znw{ao:Option Addr}{n cap:Nat}{k:Kn}:∀ v∈zbd (.slice ao n cap) k,v.oneCell'=true:=by
 intro v hv
 unfold zbd at hv
 rcases List.mem_append.1 hv with h|h
 ·exact ztm _ _ v h
 ·rcases List.mem_append.1 h with h|h
  ·exact ztm _ _ v h
  ·simp only [List.mem_cons,List.not_mem_nil,or_false] at h
   rcases h with rfl|rfl|rfl <;> rfl
structure Rs where
 marked:List Mk
 steps:Int
 seen:Nat
 covers:Bool
def Rs.begin(R:Rs)(s:Int):Rs:=⟨if zbR s then [] else R.marked,s,0,true⟩
structure RsC(w:World)(S o:Nat)(mv:Value)(R:Rs):Prop where
 cM:w.cell? ⟨S,o,none⟩=some mv
 cS:w.cell? ⟨S,o+1,none⟩=some (.int .i64 R.steps)
 cN:w.cell? ⟨S,o+2,none⟩=some (.int .i64 (R.seen:Int))
 cC:w.cell? ⟨S,o+3,none⟩=some (.bool R.covers)
structure Kept4(w w':World)(S o:Nat)(hb:Option Nat):Prop where
 os:w'.os=w.os
 tape:w'.tape=w.tape
 output:w'.output=w.output
 size:w.heap.size≤w'.heap.size
 block:∀ q,q<w.heap.size→¬q=S→some q≠hb→w'.heap[q]?=w.heap[q]?
 cell:∀ j,¬j=o→¬j=o+1→¬j=o+2→¬j=o+3→w'.cell? ⟨S,j,none⟩=w.cell? ⟨S,j,none⟩
 fz:∀ j,w'.frozen? ⟨S,j,none⟩=w.frozen? ⟨S,j,none⟩
theorem RsC.below{w w':World}{S o:Nat}{mv:Value}{R:Rs}(h:RsC w S o mv R)(hb:Below w.heap.size w w'):RsC w' S o mv R:=by
 have hS:S<w.heap.size:=World.block_lt_of_cell? w _ h.cM
 have c:∀ j,w'.cell? ⟨S,j,none⟩=w.cell? ⟨S,j,none⟩:=fun j=>World.cell?_of_block (a:=⟨S,j,none⟩) (hb.block S hS)
 exact⟨(c _).trans h.cM,(c _).trans h.cS,(c _).trans h.cN,(c _).trans h.cC⟩
theorem RsC.set{w:World}{S o:Nat}{mv mv2:Value}{R R2:Rs}(h:RsC w S o mv R)(n:Nat)(v u:Value)(hu:w.cell? ⟨S,n,none⟩=some u)
  (h1:(if o=n then v else mv)=mv2) (h2:(if o+1=n then v else .int .i64 R.steps)=.int .i64 R2.steps) (h3:(if o+2=n then v else .int .i64 (R.seen:Int))=.int .i64 (R2.seen:Int)) (h4:(if o+3=n then v else .bool R.covers)=.bool R2.covers):RsC (w.setCell ⟨S,n,none⟩ v) S o mv2 R2:=by
 have e:∀ j x,w.cell? ⟨S,j,none⟩=some x→(w.setCell ⟨S,n,none⟩ v).cell? ⟨S,j,none⟩=some (if j=n then v else x):=fun j x hx=>by
  rw [zan w S n j v u hu]
  split
  ·rfl
  ·exact hx
 exact⟨by rw [e _ _ h.cM,h1],by rw [e _ _ h.cS,h2],by rw [e _ _ h.cN,h3],by rw [e _ _ h.cC,h4]⟩
theorem zcx{w:World}{S o n:Nat}{v u:Value}{hb:Option Nat}(hu:w.cell? ⟨S,n,none⟩=some u)(hn:n=o∨n=o+1∨n=o+2∨n=o+3):Kept4 w (w.setCell ⟨S,n,none⟩ v) S o hb :=
 ⟨rfl,rfl,rfl,by rw [World.size_setCell];exact Nat.le_refl _,fun q _ h1 _=>Below.heap_setCell w _ _ q h1,fun j h1 h2 h3 h4=>by rw [zan w S n j v u hu,if_neg (by omega)],fun j=>zcZ⟩
theorem Kept4.trans{a b c:World}{S o:Nat}{hb:Option Nat}(h:Kept4 a b S o hb)(k:Kept4 b c S o hb):Kept4 a c S o hb :=
 ⟨k.os.trans h.os,k.tape.trans h.tape,k.output.trans h.output,Nat.le_trans h.size k.size,fun q hq h1 h2=>(k.block q (Nat.lt_of_lt_of_le hq h.size) h1 h2).trans (h.block q hq h1 h2),fun j h1 h2 h3 h4=>(k.cell j h1 h2 h3 h4).trans (h.cell j h1 h2 h3 h4),fun j=>(k.fz j).trans (h.fz j)⟩
theorem zcL{w w':World}{S o:Nat}{hb:Option Nat}(hS:S<w.heap.size)(h:Below w.heap.size w w'):Kept4 w w' S o hb :=
 ⟨h.os,h.tape,h.output,h.size,fun q hq _ _=>h.block q hq,fun j _ _ _ _=>World.cell?_of_block (a:=⟨S,j,none⟩) (h.block S hS),fun j=>World.frozen?_of_block (a:=⟨S,j,none⟩) (h.block S hS)⟩
def begN(s:Int)(n:Nat):Nat:=if zbR s then 0 else n
def znx(w:World)(S o:Nat)(mv:Value)(R:Rs):Ending→World→Prop:=fun e w'=>e=.returned (.tuple #[])∧RsC w' S o mv R∧Kept4 w w' S o none
theorem zq7{w:World}{S o n cap:Nat}{ao:Option Addr}{R:Rs}(h:RsC w S o (.slice ao n cap) R)(fz:∀ j,w.frozen? ⟨S,j,none⟩=false)(hn:n≤cap)(hcap:cap≤maxLen)(h0:ao=none→n=0∧cap=0)(s:Int)(s0:0≤s)(s1:s≤100000):
  Calls Tryz.prog 151 #[.pointer (some ⟨S,o,none⟩),.int .i64 s] w (znx w S o (.slice ao (begN s n) cap) (R.begin s)):=by
 have hS:S<w.heap.size:=World.block_lt_of_cell? w _ h.cM
 have c0:=h.cM
 have c1:=h.cS
 have c2:=h.cN
 have c3:=h.cC
 have f0:=fz o
 have f1:=fz (o+1)
 have f2:=fz (o+2)
 have f3:=fz (o+3)
 obtain⟨X,hX⟩:∃ X,(((w.setCell ⟨S,o,none⟩ (.slice ao n cap)).setCell ⟨S,o+1,none⟩ (.int .i64 s)).setCell ⟨S,o+2,none⟩ (.int .i64 0)).setCell ⟨S,o+3,none⟩ (.bool true)=X:=⟨_,rfl⟩
 have A1:RsC (w.setCell ⟨S,o,none⟩ (.slice ao n cap)) S o (.slice ao n cap) R:=h.set o _ _ c0 (by rw [if_pos rfl]) (by rw [if_neg (by omega)]) (by rw [if_neg (by omega)]) (by rw [if_neg (by omega)])
 have A2:RsC ((w.setCell ⟨S,o,none⟩ (.slice ao n cap)).setCell ⟨S,o+1,none⟩ (.int .i64 s)) S o (.slice ao n cap) ⟨R.marked,s,R.seen,R.covers⟩:=A1.set (o+1) _ _ A1.cS (by rw [if_neg (by omega)]) (by rw [if_pos rfl]) (by rw [if_neg (by omega)]) (by rw [if_neg (by omega)])
 have A3:RsC (((w.setCell ⟨S,o,none⟩ (.slice ao n cap)).setCell ⟨S,o+1,none⟩ (.int .i64 s)).setCell ⟨S,o+2,none⟩ (.int .i64 0)) S o (.slice ao n cap) ⟨R.marked,s,0,R.covers⟩:=A2.set (o+2) _ _ A2.cN (by rw [if_neg (by omega)]) (by rw [if_neg (by omega)]) (by rw [if_pos rfl];rfl) (by rw [if_neg (by omega)])
 have A4:RsC X S o (.slice ao n cap) ⟨R.marked,s,0,true⟩:=by rw [←hX];exact A3.set (o+3) _ _ A3.cC (by rw [if_neg (by omega)]) (by rw [if_neg (by omega)]) (by rw [if_neg (by omega)]) (by rw [if_pos rfl])
 have K4:Kept4 w X S o none:=by rw [←hX];exact(zcx c0 (by omega)).trans ((zcx A1.cS (by omega)).trans ((zcx A2.cN (by omega)).trans (zcx A3.cC (by omega))))
 have HX:Hid (RsC X S o (.slice ao n cap) ⟨R.marked,s,0,true⟩∧Kept4 w X S o none∧(∀ j,w.frozen? ⟨S,j,none⟩=false)∧n≤cap∧cap≤maxLen∧(ao=none→n=0∧cap=0)):=⟨A4,K4,fz,hn,hcap,h0⟩
 have hmk:=zcK A4.cS s0 s1
 clear A1 A2 A3 A4 K4 fz hn hcap h0 h
 by_cases hm:zbR s=true
 ·have hmk':Calls Tryz.prog 167 #[.pointer (some ⟨S,o,none⟩)] X fun e w'=>e=.returned (.bool true)∧Below X.heap.size X w':=by
   have t:zbR (⟨R.marked,s,0,true⟩:Rs).steps=true:=hm
   rw [t] at hmk;exact hmk
  clear hmk
  have hend:∀ wx,Below X.heap.size X wx→znx w S o (.slice ao (begN s n) cap) (R.begin s) (.returned (.tuple #[])) (wx.setCell ⟨S,o,none⟩ (.slice ao 0 cap)):=fun wx hbx=>by
   obtain⟨RX,KX,_⟩:=HX.out
   have RW:=RX.below hbx
   have hSX:S<X.heap.size:=World.block_lt_of_cell? _ _ RX.cM
   refine⟨rfl,?_,KX.trans ((zcL hSX hbx).trans (zcx RW.cM (by omega)))⟩
   unfold Rs.begin begN
   rw [if_pos hm,if_pos hm]
   exact RW.set o _ _ RW.cM (by rw [if_pos rfl]) (by rw [if_neg (by omega)]) (by rw [if_neg (by omega)]) (by rw [if_neg (by omega)])
  have hfx:∀ wx,Below X.heap.size X wx→wx.cell? ⟨S,o,none⟩=some (.slice ao n cap)∧wx.frozen? ⟨S,o,none⟩=false:=fun wx hbx=>by
   obtain⟨RX,KX,fz,_⟩:=HX.out
   have hSX:S<X.heap.size:=World.block_lt_of_cell? _ _ RX.cM
   exact⟨(RX.below hbx).cM,((zcL (o:=o) (hb:=none) hSX hbx).fz o).trans ((KX.fz o).trans (fz o))⟩
  cases ao with
  | none =>
   obtain⟨_,_,_,_,_,h0⟩:=HX.out
   obtain⟨rfl,rfl⟩:=h0 rfl
   clear HX h0
   go_enter Tryz.func151,Tryz.ntmps151
   go_wp2_with(go_at_call 167;(with_reducible refine hmk'.mono ?_);rintro e wx ⟨rfl,hbx⟩;obtain⟨d0,z0⟩:=hfx wx hbx)
   exact bodyPost_end (results_none rfl _ _ _) rfl (hend wx hbx)
  | some a =>
   obtain⟨_,_,_,hn,hcap,h0⟩:=HX.out
   clear HX h0
   unfold maxLen at hcap
   go_enter Tryz.func151,Tryz.ntmps151
   go_wp2_with(go_at_call 167;(with_reducible refine hmk'.mono ?_);rintro e wx ⟨rfl,hbx⟩;obtain⟨d0,z0⟩:=hfx wx hbx)
   exact bodyPost_end (results_none rfl _ _ _) rfl (hend wx hbx)
 ·have hm':zbR s=false:=by simpa using hm
  have hmk':Calls Tryz.prog 167 #[.pointer (some ⟨S,o,none⟩)] X fun e w'=>e=.returned (.bool false)∧Below X.heap.size X w':=by
   have t:zbR (⟨R.marked,s,0,true⟩:Rs).steps=false:=hm'
   rw [t] at hmk;exact hmk
  clear hmk
  have hend:∀ wx,Below X.heap.size X wx→znx w S o (.slice ao (begN s n) cap) (R.begin s) (.returned (.tuple #[])) wx:=fun wx hbx=>by
   obtain⟨RX,KX,_⟩:=HX.out
   have hSX:S<X.heap.size:=World.block_lt_of_cell? _ _ RX.cM
   refine⟨rfl,?_,KX.trans (zcL hSX hbx)⟩
   unfold Rs.begin begN
   rw [if_neg hm,if_neg hm]
   exact RX.below hbx
  clear HX hm hm'
  go_enter Tryz.func151,Tryz.ntmps151
  go_wp2_with(go_at_call 167;(with_reducible refine hmk'.mono ?_);rintro e wx ⟨rfl,hbx⟩)
  exact bodyPost_end (results_none rfl _ _ _) rfl (hend wx hbx)
end Go.Proofs.YtfpgjkbjbbgciaaGreatDoor
