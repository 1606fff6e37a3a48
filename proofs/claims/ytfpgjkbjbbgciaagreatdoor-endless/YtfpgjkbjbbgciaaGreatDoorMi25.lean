import Derived.Test.YtfpgjkbjbbgciaaGreatDoorMi22
import Derived.Test.YtfpgjkbjbbgciaaGreatDoorMi24
set_option maxRecDepth 100000
set_option maxHeartbeats 8000000
namespace Go.Proofs.YtfpgjkbjbbgciaaGreatDoor
open Go.RowKit Sp
theorem PIn.fns{B:Nat}{w:World}{pm:Nat}{v:Value}{F:List FnM}(h:PIn B w pm v F)(hF:0<F.length):
  ∃ fg cap,v=.slice (some ⟨fg,0,none⟩) F.length cap∧fg<w.heap.size∧F.length≤cap∧∀ k (hk:k<F.length),
   w.cell? ⟨fg,k*4,none⟩=some (.string F[k].name)∧w.cell? ⟨fg,k*4+1,none⟩=some (.int .i64 F[k].line)∧w.cell? ⟨fg,k*4+2,none⟩=some F[k].bv∧w.cell? ⟨fg,k*4+3,none⟩=some (.map (some F[k].m)):=by
 have hrow:=h.row
 obtain⟨fg,cap,hv,_,hlt⟩:=hrow.form hF
 subst hv
 have hcap:F.length≤cap:=by
  rcases hrow.2 with ⟨h',_⟩|⟨g',cap',cur,h',_,_,hnc,_⟩
  ·simp at h'
  ·simp at h';omega
 refine⟨fg,cap,rfl,hlt,hcap,fun k hk=>?_⟩
 have c:∀ j,j<4→w.cell? ⟨fg,k*4+j,none⟩=F[k].cells[j]?:=fun j hj=>by
  rw [World.ownsRow.cellAt hrow (k*4+j) (by omega),zjB F k hk j hj]
 exact⟨c 0 (by omega),c 1 (by omega),c 2 (by omega),c 3 (by omega)⟩
def zxZ(w:World)(F:List Fn):Ending→World→Prop:=fun e w' =>
 Below w.heap.size w w'∧((∃ l,endK F=some l∧e=zak 5 l)∨(endK F=none∧e=.returned (.tuple #[])))
theorem zsG(F:List Fn)(k:Nat)(h:k<F.length):endK (F.drop k)=if zqd F[k].body=true then endK (F.drop (k+1)) else some F[k].line:=by
 rw [List.drop_eq_getElem_cons h]
 rfl
theorem zoN{wr w2:World}{a b c d:Value}(hb:Below (wr.alloc (.cells #[a,b,c,d] 131)).heap.size (wr.alloc (.cells #[a,b,c,d] 131)) w2):
  w2.cell? ⟨wr.heap.size,1,none⟩=some b∧w2.cell? ⟨wr.heap.size,2,none⟩=some c∧w2.cell? ⟨wr.heap.size,3,none⟩=some d:=by
 have h:=World.cell?_alloc_new (w:=wr) #[a,b,c,d] 131
 refine⟨?_,?_,?_⟩
 ·rw [hb.cell (by simp)];exact h 1
 ·rw [hb.cell (by simp)];exact h 2
 ·rw [hb.cell (by simp)];exact h 3
theorem zqv(b:List Key)(k:Key):zqd (b++[k])=ends k.word:=by simp [zqd]
def zec(its:List It):Bool:=match its.getLast? with|none=>false|some i=>ends i.word
theorem zfX(I:List It)(i:It):zec (I++[i])=ends i.word:=by simp [zec]
def zsH(its:List It):Bool:=(zcm its).all (fun p=>!decide (p.2=(zal its).length))&&zec (zal its)
theorem znz(n:Nat)(l:List It):∀ p∈zbi n l,p.2≤n+(zal l).length:=by
 induction l generalizing n with
 | nil=>simp [zbi]
 | cons i l ih =>
  intro p hp
  rw [zbZ] at hp
  by_cases h:i.sort=1
  ·rw [if_pos h] at hp
   rw [show zal (i :: l)=zal l by simp [zal,h]]
   simp only [List.mem_cons] at hp
   rcases hp with rfl|hp
   ·show n≤_;omega
   ·exact ih n p hp
  ·rw [if_neg h] at hp
   rw [show zal (i :: l)=i :: zal l by simp [zal,h]]
   have:=ih (n+1) p hp
   simp;omega
theorem zqw:ends ⟨#[]⟩=false:=by kernel_rfl
theorem zvH(its:List It)(hl:∀ i∈its,ItOk i):zsH its=zqd (its.map It.key):=by
 rcases List.eq_nil_or_concat its with rfl|⟨I,i,hI⟩
 ·rfl
 ·rw [List.concat_eq_append] at hI
  subst hI
  rw [List.map_append,show [i].map It.key=[i.key] from rfl,zqv]
  unfold zsH
  by_cases h:i.sort=1
  ·rw [show i.key.word=⟨#[]⟩ from(hl i (by simp)).2 h,zqw,zj9 _ _ h,zlw _ _ h]
   simp
  ·rw [zjA _ _ h,zlv _ _ h]
   have:(zcm I).all (fun p=>!decide (p.2=(zal I++[i]).length))=true:=by
    rw [List.all_eq_true]
    intro p hp
    have:=znz 0 I p hp
    simp;omega
   rw [this,zfX]
   simp [It.key]
theorem zsI(E:List (ByteArray × Nat))(x:ByteArray)(p:Nat)(h:zbB E x=some p):∃ q∈E,q.2=p∧eqW q.1 x=true:=by
 induction E with
 | nil=>cases h
 | cons q r ih =>
  unfold zbB at h
  by_cases e:eqW q.1 x=true
  ·rw [if_pos e] at h
   simp only [Option.some.injEq] at h
   exact⟨q,by simp,h,e⟩
  ·rw [if_neg e] at h
   obtain⟨q',h1,h2⟩:=ih h
   exact⟨q',by simp [h1],h2⟩
theorem zqx(E:List (ByteArray × Nat))(hp:E.Pairwise (fun a b=>eqW a.1 b.1=false))(x:ByteArray)(p:Nat)(h:zbB E x=some p)(q:ByteArray × Nat)(hq:q∈E)(hx:eqW q.1 x=true):q.2=p:=by
 induction E with
 | nil=>cases hq
 | cons a r ih =>
  obtain⟨h1,h2⟩:=List.pairwise_cons.1 hp
  unfold zbB at h
  simp only [List.mem_cons] at hq
  by_cases e:eqW a.1 x=true
  ·rw [if_pos e] at h
   simp only [Option.some.injEq] at h
   rcases hq with rfl|hq
   ·exact h
   ·have:=h1 q hq
    have e1:=(zea _ _).1 e
    have e2:=(zea _ _).1 hx
    have:eqW a.1 q.1=true:=(zea _ _).2 (e1.trans e2.symm)
    simp_all
  ·rw [if_neg e] at h
   rcases hq with rfl|hq
   ·exact absurd hx e
   ·exact ih h2 h hq
theorem zn0(E:List (ByteArray × Nat))(n:Nat)(h:∀ p∈E,¬p.2=n):E.all (fun p=>!decide (p.2=n))=true:=by
 rw [List.all_eq_true]
 intro p hp
 simpa using h p hp
theorem zn1(E:List (ByteArray × Nat))(n:Nat)(p:ByteArray × Nat)(hp:p∈E)(h:p.2=n):E.all (fun p=>!decide (p.2=n))=false:=by
 rw [List.all_eq_false]
 exact⟨p,hp,by simpa using h⟩
section
attribute [local go_sem ↓] Go.wp_at_zero Go.wp_at_succ
theorem WrM.counted{B:Nat}{w w4:World}{b px:Nat}{cv:Value}{code:List Int}{S:Wst}{k:Nat}{V:Nat→Value}(h:WrM B w b px cv code S k V){gn cn:Nat}{l:Nat}(hl8:l<8)(hg:w.grownBy w4 (V 11).ownBlock)(hnew:(V 11).ownBlock=some gn∨w.heap.size≤gn)(hown:w4.ownsRow B 3 1 (.slice (some ⟨gn,0,none⟩) (S.counts.length+1) cn) (S.counts.length+1) ((S.counts++[l]).map natV)):
  WrM B (w4.setCell ⟨b,11,none⟩ (.slice (some ⟨gn,0,none⟩) (S.counts.length+1) cn)) b px cv code { S with counts:=S.counts++[l] } k (updV V 11 (.slice (some ⟨gn,0,none⟩) (S.counts.length+1) cn))∧Fr b px w V (w4.setCell ⟨b,11,none⟩ (.slice (some ⟨gn,0,none⟩) (S.counts.length+1) cn)) (updV V 11 (.slice (some ⟨gn,0,none⟩) (S.counts.length+1) cn))∧w4.cell? ⟨b,11,none⟩=some (V 11)∧w4.frozen? ⟨b,11,none⟩=false:=by
 have hB:=h.base
 have hb4:Below B w w4:=zfb hg (fun g e=>(h.counts.lt g e).1) hB
 have keep:∀ g,g<w.heap.size→¬(V 11).ownBlock=some g→w4.heap[g]?=w.heap[g]?:=fun g hl hne=>hg.block g hl (fun e=>hne e.symm)
 have eb:w4.heap[b]?=w.heap[b]?:=keep b h.blk.lt (fun e=>zcu h.counts h.blk.kb (by decide) b e rfl)
 have ex:w4.heap[px]?=w.heap[px]?:=keep px h.blk.di.lt (fun e=>zcu h.counts h.blk.di.kx (by decide) px e rfl)
 have B4:=h.blk.block hb4 eb ex
 have hc4:w4.ownsRow B 9 1 (V 1) S.lines.length (S.lines.map lnV):=zaj h.lines fun g e=>keep g (h.lines.lt g e).2 (fun e1=>by
  rcases zcU h.lines h.counts (by decide) with q|q
  ·rw [q] at e;cases e
  ·exact q (e.trans e1.symm))
 obtain⟨xs,k1,k2⟩:=h.known
 have hk4:w4.ownsRow B 113 10 (V 23) S.nk xs:=zaj k1 fun g e=>keep g (k1.lt g e).2 (fun e1=>by
  rcases zcU k1 h.counts (by decide) with q|q
  ·rw [q] at e;cases e
  ·exact q (e.trans e1.symm))
 have set5:∀{e:TypeId} {size n:Nat} {v:Value} {ys:List Value},w4.ownsRow B e size v n ys→¬e=109→(w4.setCell ⟨b,11,none⟩ (.slice (some ⟨gn,0,none⟩) (S.counts.length+1) cn)).ownsRow B e size v n ys:=fun ho hne=>zaj ho fun g e=>Below.heap_setCell _ _ _ _ (zcu ho B4.kb hne g e)
 refine⟨⟨B4.put 11 (by omega) _,?_,?_,?_,fun i hi=>?_,?_,?_,fun i hi=>?_,?_,?_,?_,?_⟩,⟨hg.os,hg.tape,hg.output,by rw [World.size_setCell];exact hg.size,fun q hq hm=>?_,fun q hq hm=>?_⟩,B4.cell 11 (by omega),B4.fz 11⟩
 ·rw [zac _ _ (by decide)];exact h.v0
 ·rw [zac _ _ (by decide)];exact set5 hc4 (by decide)
 ·rw [zac _ _ (by decide)];exact h.v2
 ·rw [zac _ _ (by omega)];exact h.held i hi
 ·rw [zbT]
  have:=set5 hown (by decide)
  simpa using this
 ·intro x hx
  rcases List.mem_append.1 hx with e|e
  ·exact h.cnt8 x e
  ·rw [List.mem_singleton.1 e];exact hl8
 ·rw [zac _ _ (by omega)];exact h.gives i hi
 ·rw [zac _ _ (by decide)];exact h.v20
 ·rw [zac _ _ (by decide)];exact h.v21
 ·rw [zac _ _ (by decide)];exact h.v22
 ·rw [zac _ _ (by decide)];exact⟨xs,set5 hk4 (by decide),k2⟩
 ·rw [Below.heap_setCell _ _ _ _ (fun e=>hm (.inl e))]
  exact keep q hq (fun e=>hm (.inr (.inr (.inr e))))
 ·rcases hm with e|e|e|e
  ·exact .inl e
  ·exact .inr (.inl e)
  ·rw [zac _ _ (by decide)] at e
   exact .inr (.inr (.inl e))
  ·rw [zbT] at e
   have e2:gn=q:=Option.some.inj e
   rcases hnew with e3|e3
   ·exact .inr (.inr (.inr (by rw [e3,e2])))
   ·omega
theorem zrG{w:World}{B:Nat}{e:TypeId}{ao:Option Addr}{n m cap:Nat}{xs:List Value}(h:w.ownsRow B e 1 (.slice ao n cap) n xs)(hm:m≤n):w.ownsRow B e 1 (.slice ao m cap) m (xs.take m):=by
 obtain⟨h1,h2⟩:=h
 refine⟨by rw [List.length_take];omega,?_⟩
 rcases h2 with ⟨hv,h0⟩|⟨g,c,cur,hv,hB,hg,hn,hc,hs,ht⟩
 ·left
  simp only [Value.slice.injEq] at hv
  obtain⟨rfl,_,rfl⟩:=hv
  have:m=0:=by omega
  subst this
  exact⟨rfl,rfl⟩
 ·right
  simp only [Value.slice.injEq] at hv
  obtain⟨rfl,_,rfl⟩:=hv
  refine⟨g,cap,cur,rfl,hB,hg,by omega,hc,hs,?_⟩
  rw [←ht,List.take_take,Nat.min_eq_left (by omega),Nat.mul_one]
theorem WrM.cut{B:Nat}{w:World}{b px:Nat}{cv:Value}{code:List Int}{S:Wst}{k:Nat}{V:Nat→Value}(h:WrM B w b px cv code S k V){ao:Option Addr}{cap:Nat}(hv:V 11=.slice ao S.counts.length cap)(C:List Nat)(R:List Nat)(hC:S.counts=C++R):
  WrM B (w.setCell ⟨b,11,none⟩ (.slice ao C.length cap)) b px cv code { S with counts:=C } k (updV V 11 (.slice ao C.length cap))∧Fr b px w V (w.setCell ⟨b,11,none⟩ (.slice ao C.length cap)) (updV V 11 (.slice ao C.length cap)):=by
 obtain⟨r1,r2,r3⟩:=h.rows (w':=w.setCell ⟨b,11,none⟩ (.slice ao C.length cap)) (fun g _ hne _=>Below.heap_setCell _ _ _ _ hne)
 rw [hv] at r2
 have r4:=zrG r2 (m:=C.length) (by rw [hC];simp)
 have e:(S.counts.map natV).take C.length=C.map natV:=by rw [hC,List.map_append];exact List.take_left' (by simp)
 rw [e] at r4
 refine⟨⟨h.blk.put 11 (by omega) _,?_,?_,?_,fun i hi=>?_,?_,fun x hx=>h.cnt8 x (by rw [hC];exact List.mem_append_left _ hx),fun i hi=>?_,?_,?_,?_,?_⟩,rfl,rfl,rfl,by rw [World.size_setCell];exact Nat.le_refl _,fun q _ hm=>Below.heap_setCell _ _ _ _ (fun e=>hm (.inl e)),fun q _ hm=>?_⟩
 ·rw [zac _ _ (by decide)];exact h.v0
 ·rw [zac _ _ (by decide)];exact r1
 ·rw [zac _ _ (by decide)];exact h.v2
 ·rw [zac _ _ (by omega)];exact h.held i hi
 ·rw [zbT];exact r4
 ·rw [zac _ _ (by omega)];exact h.gives i hi
 ·rw [zac _ _ (by decide)];exact h.v20
 ·rw [zac _ _ (by decide)];exact h.v21
 ·rw [zac _ _ (by decide)];exact h.v22
 ·rw [zac _ _ (by decide)];exact r3
 ·rcases hm with e|e|e|e
  ·exact .inl e
  ·exact .inr (.inl e)
  ·rw [zac _ _ (by decide)] at e
   exact .inr (.inr (.inl e))
  ·rw [zbT] at e
   refine .inr (.inr (.inr ?_))
   rw [hv]
   cases ao with
   | none=>cases e
   | some a=>exact e
def zjr(h:Nat→Bool):Nat:=(h 0).toNat+(h 1).toNat+(h 2).toNat+(h 3).toNat+(h 4).toNat+(h 5).toNat+(h 6).toNat+(h 7).toNat
theorem zxc(b:Bool):b.toNat≤1:=by cases b <;> decide
theorem zeH{h:Nat→Bool}(hl:zjr h<8):∃ r,r<8∧h r=false:=by
 refine Classical.byContradiction fun hn=>?_
 have all:∀ r,r<8→h r=true:=fun r hr=>by
  cases e:h r with
  | true=>rfl
  | false=>exact absurd ⟨r,hr,e⟩ hn
 unfold zjr at hl
 rw [all 0 (by omega),all 1 (by omega),all 2 (by omega),all 3 (by omega),all 4 (by omega),all 5 (by omega),all 6 (by omega),all 7 (by omega)] at hl
 exact absurd hl (by decide)
theorem zmG(h:Nat→Bool)(r:Nat)(hr:r<8):zjr (updH h r true)≤zjr h+1:=by
 have t:=fun j=>zxc (h j)
 have t0:=t 0
 have t1:=t 1
 have t2:=t 2
 have t3:=t 3
 have t4:=t 4
 have t5:=t 5
 have t6:=t 6
 have t7:=t 7
 have hr2:r=0∨r=1∨r=2∨r=3∨r=4∨r=5∨r=6∨r=7:=by omega
 unfold zjr updH
 rcases hr2 with rfl|rfl|rfl|rfl|rfl|rfl|rfl|rfl <;> simp <;> omega
theorem zuO{h:Nat→Bool}{i n:Nat}(hi:h i=false)(hn:updH h i true n=false):updH (updH (updH (updH h i true) n true) i false) n false=h:=by
 have hne:¬n=i:=fun e=>by rw [e] at hn;simp [updH] at hn
 have hn2:h n=false:=by simpa [updH,hne] using hn
 funext j
 unfold updH
 by_cases e:j=n
 ·rw [if_pos e,e,hn2]
 ·rw [if_neg e]
  by_cases e2:j=i
  ·rw [if_pos e2,e2,hi]
  ·rw [if_neg e2,if_neg e,if_neg e2]
end
def zoO(w:World)(names:List ByteArray)(F:List Fn):Ending→World→Prop:=fun e w' =>
 Below w.heap.size w w'∧((∃ l,zcA names F=some l∧e=zak 4 l)∨(zcA names F=none∧e=.returned (.tuple #[])))
theorem zqy(names:List ByteArray)(F:List Fn)(k:Nat)(h:k<F.length):zcA names (F.drop k)=match zaH names (labsOf F[k].body) F[k].body with|some l=>some l|none=>zcA names (F.drop (k+1)):=by
 rw [List.drop_eq_getElem_cons h]
 rfl
theorem zks(names labs:List ByteArray)(b:List Key)(k:Nat)(h:k<b.length):zaH names labs (b.drop k)=if zdn names labs b[k]=true then some b[k].line else zaH names labs (b.drop (k+1)):=by
 rw [List.drop_eq_getElem_cons h,zez]
theorem zqz(i:It)(l:List It):zal (i :: l)=if i.sort=1 then zal l else i :: zal l:=by
 by_cases h:i.sort=1 <;> simp [zal,h]
theorem zjD:zaE ⟨#[]⟩=false∧zbt ⟨#[]⟩=false:=⟨by kernel_rfl,by kernel_rfl⟩
theorem zvI(names labs:List ByteArray)(l:List It)(h:∀ i∈l,ItOk i):zaH names labs (l.map It.key)=zaH names labs ((zal l).map It.key):=by
 induction l with
 | nil=>rfl
 | cons i l ih =>
  have ih:=ih (fun j hj=>h j (by simp [hj]))
  rw [zqz]
  by_cases hs:i.sort=1
  ·rw [if_pos hs,←ih,List.map_cons,zez]
   have hw:i.key.word=⟨#[]⟩:=(h i (by simp)).2 hs
   rw [if_neg]
   unfold zdn
   rw [hw,zjD.1,zjD.2]
   simp
  ·rw [if_neg hs,List.map_cons,List.map_cons,zez,zez,ih]
theorem zg4{X W:World}(hb:Below X.heap.size X W){p:Addr}{u:Value}(h:X.cell? p=some u):W.cell? p=some u:=(hb.cell (World.block_lt_of_cell? X p h)).trans h
structure Sees(W:World)(rb pb sb m pm:Nat)(i:It)(labs names:List (ByteArray × Nat)):Prop where
 cm:W.cell? ⟨rb,3,none⟩=some (.map (some m))
 cp:W.cell? ⟨pb,1,none⟩=some (.map (some pm))
 c0:W.cell? ⟨sb,0,none⟩=some (.int .i64 i.sort)
 c1:W.cell? ⟨sb,1,none⟩=some (.int .i64 i.line)
 c2:W.cell? ⟨sb,2,none⟩=some (.string i.word)
 c3:W.cell? ⟨sb,3,none⟩=some (.int .i64 i.a)
 c4:W.cell? ⟨sb,4,none⟩=some (.int .i64 i.b)
 c5:W.cell? ⟨sb,5,none⟩=some (.int .i64 i.c)
 c6:W.cell? ⟨sb,6,none⟩=some (.int .i64 i.n)
 c7:W.cell? ⟨sb,7,none⟩=some (.string i.nm)
 ml:MapIs W m labs
 mp:MapIs W pm names
theorem Sees.below{X W:World}{rb pb sb m pm:Nat}{i:It}{labs names:List (ByteArray × Nat)}(h:Sees X rb pb sb m pm i labs names)(hb:Below X.heap.size X W):Sees W rb pb sb m pm i labs names :=
 ⟨zg4 hb h.cm,zg4 hb h.cp,zg4 hb h.c0,zg4 hb h.c1,zg4 hb h.c2,zg4 hb h.c3,zg4 hb h.c4,zg4 hb h.c5,zg4 hb h.c6,zg4 hb h.c7,h.ml.below hb h.ml.lt,h.mp.below hb h.mp.lt⟩
theorem Sees.made(w:World)(rb pb m pm:Nat)(i:It)(labs names:List (ByteArray × Nat))(cm:w.cell? ⟨rb,3,none⟩=some (.map (some m)))(cp:w.cell? ⟨pb,1,none⟩=some (.map (some pm)))(ml:MapIs w m labs)(mp:MapIs w pm names):
  Sees (w.alloc (.cells #[.int .i64 i.sort,.int .i64 i.line,.string i.word,.int .i64 i.a,.int .i64 i.b,.int .i64 i.c,.int .i64 i.n,.string i.nm] 135)) rb pb w.heap.size m pm i labs names:=by
 have hb:Below w.heap.size w (w.alloc (.cells #[.int .i64 i.sort,.int .i64 i.line,.string i.word,.int .i64 i.a,.int .i64 i.b,.int .i64 i.c,.int .i64 i.n,.string i.nm] 135)):=(Below.refl _ _).alloc (Nat.le_refl _) _
 have h:=World.cell?_alloc_new (w:=w) #[.int .i64 i.sort,.int .i64 i.line,.string i.word,.int .i64 i.a,.int .i64 i.b,.int .i64 i.c,.int .i64 i.n,.string i.nm] 135
 exact⟨zg4 hb cm,zg4 hb cp,h 0,h 1,h 2,h 3,h 4,h 5,h 6,h 7,ml.alloc _,mp.alloc _⟩
theorem zjE(w:World)(B pm:Nat)(v:Value)(F:List FnM)(h:PIn B w pm v F)(hF:0<F.length)(hn:F.length≤300)(hb:∀ f∈F,f.its.length≤300∧∀ i∈f.its,ItOk i):
  Calls Tryz.prog 69 #[.agg #[v,.map (some pm)]] w (zoO w (F.map FnM.name) (F.map FnM.fn)):=by
 obtain⟨fg,cap,rfl,hfg,hcap,hcells⟩:=h.fns hF
 have hMP:=h.places
 have hN0:=zcp 0 F
 rw [←hN0]
 clear hN0
 change Calls Tryz.prog 69 #[.agg #[.slice (some ⟨fg,0,none⟩) F.length cap,.map (some pm)]] w (zoO w (zbx (zbj F)) (F.map FnM.fn))
 generalize zbj F=nameE at hMP ⊢
 generalize hN:zbx nameE=names
 have HN:Hid (zbx nameE=names):=hN
 clear hN
 have hW1:Below w.heap.size w (w.alloc (.cells #[.slice (some ⟨fg,0,none⟩) F.length cap,.map (some pm)] 83)):=(Below.refl _ _).alloc (Nat.le_refl _) _
 have hZ1:(w.alloc (.cells #[.slice (some ⟨fg,0,none⟩) F.length cap,.map (some pm)] 83)).heap.size=w.heap.size+1:=by simp
 have hC1:(w.alloc (.cells #[.slice (some ⟨fg,0,none⟩) F.length cap,.map (some pm)] 83)).cell? ⟨w.heap.size,1,none⟩=some (.map (some pm)):=World.cell?_alloc_new (w:=w) #[.slice (some ⟨fg,0,none⟩) F.length cap,.map (some pm)] 83 1
 go_enter Tryz.func69,Tryz.ntmps69
 go_wp2
 generalize w.alloc (.cells #[.slice (some ⟨fg,0,none⟩) F.length cap,.map (some pm)] 83)=W1 at hW1 hZ1 hC1
 go_loopw [9] (fun ti wr=>∃(k:Nat),k≤F.length∧ti=.int .i64 (k:Int)∧Below (w.heap.size+1) W1 wr∧zcA names (F.map FnM.fn)=zcA names ((F.map FnM.fn).drop k)) (fun ti _=>F.length-(intOf ti).toNat)
 case atStart=>exact⟨0,by omega,rfl,Below.refl _ _,rfl⟩
 case round =>
  obtain⟨wo,hwo⟩:∃ wo,wo=wr:=⟨wr,rfl⟩
  subst hwo
  obtain⟨k,hk,rfl,hnx,hE⟩:=hrel
  have HE:Hid (zcA names (F.map FnM.fn)=zcA names ((F.map FnM.fn).drop k)):=hE
  clear hE
  have hszr:=hnx.size
  have hbw:Below w.heap.size w wo:=hW1.trans (hnx.mono (by omega))
  by_cases hlt:k<F.length
  ·obtain⟨c0,c1,c2,c3⟩:=hcells k hlt
   have hmem:=List.getElem_mem hlt
   have HD:Hid (zcA names (F.map FnM.fn)=match zaH names (zbx (zcm F[k].its)) ((zal F[k].its).map It.key) with|some l=>some l|none=>zcA names ((F.map FnM.fn).drop (k+1))):=by
    unfold Hid;rw [HE.out,zqy _ _ k (by simpa using hlt),←zvI _ _ _ (hb F[k] hmem).2,zd6];simp [FnM.fn]
   have hbo:=h.bodies F[k] hmem
   have hla:=h.labels F[k] hmem
   have hbl:=Nat.le_trans (zdJ F[k].its) (hb F[k] hmem).1
   have hnm:∀ i∈zal F[k].its,i.nm.size≤1048576:=fun i hi=>((hb F[k] hmem).2 i ((List.mem_filter.1 hi).1)).1
   generalize F[k]=f at c0 c1 c2 c3 hmem HD hbo hbl hla hnm
   have z:∀ j,wo.cell? ⟨fg,j,none⟩=w.cell? ⟨fg,j,none⟩:=fun j=>hbw.cell (p:=⟨fg,j,none⟩) hfg
   rw [←z] at c0 c1 c2 c3
   clear z HE
   have hk4:k*4≤1200:=by omega
   obtain⟨name,line,its0,bv,m⟩:=f
   simp only at c0 c1 c2 c3 hbo hbl HD hla hnm
   generalize zcm its0=labE at HD hla
   generalize zal its0=its at HD hbo hbl hnm
   obtain⟨ao,capb,rfl⟩:=zbb hbo
   generalize hlb:zbx labE=labs at HD
   have HLB:Hid (zbx labE=labs):=hlb
   clear hlb
   have hcp:wo.cell? ⟨w.heap.size,1,none⟩=some (.map (some pm)):=(hnx.cell (by simp)).trans hC1
   have hW2:Below wo.heap.size wo (wo.alloc (.cells #[.string name,.int .i64 line,.slice ao its.length capb,.map (some m)] 131)):=(Below.refl _ _).alloc (Nat.le_refl _) _
   have hZ2:(wo.alloc (.cells #[.string name,.int .i64 line,.slice ao its.length capb,.map (some m)] 131)).heap.size=wo.heap.size+1:=by simp
   have hC2:(wo.alloc (.cells #[.string name,.int .i64 line,.slice ao its.length capb,.map (some m)] 131)).cell? ⟨wo.heap.size,3,none⟩=some (.map (some m)):=World.cell?_alloc_new (w:=wo) #[.string name,.int .i64 line,.slice ao its.length capb,.map (some m)] 131 3
   go_wp2
   generalize wo.alloc (.cells #[.string name,.int .i64 line,.slice ao its.length capb,.map (some m)] 131)=W2 at hW2 hZ2 hC2
   go_loopw [16] (fun tj wi=>∃(j:Nat),j≤its.length∧tj=.int .i64 (j:Int)∧Below (wo.heap.size+1) W2 wi∧zaH names labs (its.map It.key)=zaH names labs ((its.map It.key).drop j)) (fun tj _=>its.length-(intOf tj).toNat)
   case atStart=>exact⟨0,by omega,rfl,Below.refl _ _,rfl⟩
   case round =>
    obtain⟨j,hj,rfl,hny,hI⟩:=hrel
    have HI:Hid (zaH names labs (its.map It.key)=zaH names labs ((its.map It.key).drop j)):=hI
    clear hI
    have hszi:=hny.size
    have hbi:Below wo.heap.size wo wr:=hW2.trans (hny.mono (by omega))
    have hbww:Below w.heap.size w wr:=hbw.trans (hbi.mono hbw.size)
    by_cases hjl:j<its.length
    ·obtain⟨bg,capb',hbv,_,hbg,hst⟩:=zg2 hbo (by omega)
     have hs:=hst j hjl
     have hnk:=hnm its[j] (List.getElem_mem hjl)
     have HB:Hid (zaH names labs (its.map It.key)=if zdn names labs its[j].key=true then some its[j].line else zaH names labs ((its.map It.key).drop (j+1))):=by
      unfold Hid;rw [HI.out,zks _ _ _ j (by simpa using hjl)];simp only [List.getElem_map];rfl
     generalize its[j]=i at hs hnk HB
     obtain⟨d0,d1,d2,d3,d4,d5,d6,d7⟩:=hs
     have z:∀ j,wr.cell? ⟨bg,j,none⟩=w.cell? ⟨bg,j,none⟩:=fun j=>hbww.cell (p:=⟨bg,j,none⟩) hbg
     rw [←z] at d0 d1 d2 d3 d4 d5 d6 d7
     simp only [Value.slice.injEq,true_and] at hbv
     obtain⟨rfl,rfl⟩:=hbv
     have hj8:j*8≤2400:=by omega
     have hML:=hla.below hbww hla.lt
     have hMPi:=hMP.below hbww hMP.lt
     have hcm:wr.cell? ⟨wo.heap.size,3,none⟩=some (.map (some m)):=(hny.cell (by simp)).trans hC2
     have hcpi:wr.cell? ⟨w.heap.size,1,none⟩=some (.map (some pm)):=zg4 hbi hcp
     have S:=Sees.made wr wo.heap.size w.heap.size m pm i labE nameE hcm hcpi hML hMPi
     have hX0:Below wr.heap.size wr (wr.alloc (.cells #[.int .i64 i.sort,.int .i64 i.line,.string i.word,.int .i64 i.a,.int .i64 i.b,.int .i64 i.c,.int .i64 i.n,.string i.nm] 135)):=(Below.refl _ _).alloc (Nat.le_refl _) _
     clear z hst hcp HI hML hMPi hcm hcpi
     have g36:=fun W=>zlt i.sort i.line i.word i.a i.b i.c i.n i.nm W
     have g38:=fun W=>znn i.sort i.line i.word i.a i.b i.c i.n i.nm W
     cases hal:zaE i.word with
     | true =>
      have haf:=zij _ hal
      rw [hal] at g36
      rw [haf] at g38
      cases hany:labs.any (fun y=>eqW y i.nm) with
      | true =>
       have HX:Hid (zaH names labs (its.map It.key)=zaH names labs ((its.map It.key).drop (j+1))):=by
        unfold Hid;rw [HB.out];simp [zdn,It.key,hal,haf,hany]
       clear HB
       go_wp2_with(first
        | (go_at_call 102;refine(g36 _).mono ?_;rintro e w3 ⟨rfl,hb3⟩;have S3:=S.below hb3;obtain⟨m3,p3,a0,a1,a2,a3,a4,a5,a6,a7,ml3,mp3⟩:=S3)
        | (go_at_call 103;refine(zj4 w3 m labE ml3 i.sort i.line i.word i.a i.b i.c i.n i.nm hnk (by rw [HLB.out];exact hany)).mono ?_;rintro e w4 ⟨rfl,hb4⟩;have hb34:=hb3.trans (hb4.mono hb3.size);have S4:=S.below hb34;obtain⟨m4,p4,b0,b1,b2,b3,b4,b5,b6,b7,ml4,mp4⟩:=S4)
        | (go_at_call 104;refine(g38 _).mono ?_;rintro e w5 ⟨rfl,hb5⟩))
       have hb9:Below (wo.heap.size+1) wr w5:=(zaZ _ _ (hb34.trans (hb5.mono hb34.size))).mono (by omega)
       clear hb3 hb4 hb34 hb5
       go_roundw
       case rel=>exact⟨j+1,by omega,by go_num,hny.trans hb9,HX.out⟩
       case measure=>simp [intOf];omega
      | false =>
       have HX:Hid (zcA names (F.map FnM.fn)=some i.line):=by
        unfold Hid;rw [HD.out,HB.out];simp [zdn,It.key,hal,haf,hany]
       clear HB
       go_wp2_with(first
        | (go_at_call 102;refine(g36 _).mono ?_;rintro e w3 ⟨rfl,hb3⟩;have S3:=S.below hb3;obtain⟨m3,p3,a0,a1,a2,a3,a4,a5,a6,a7,ml3,mp3⟩:=S3)
        | (go_at_call 103;refine(zli w3 m labE ml3 i.sort i.line i.word i.a i.b i.c i.n i.nm hnk (by rw [HLB.out];exact hany)).mono ?_;rintro e w4 ⟨rfl,hb4⟩;have hb34:=hb3.trans (hb4.mono hb3.size)))
       exact⟨rfl,hbww.trans ((zaZ _ _ hb34).mono hbww.size),.inl ⟨_,HX.out,rfl⟩⟩
     | false =>
      rw [hal] at g36
      cases haf:zbt i.word with
      | true =>
       rw [haf] at g38
       cases hany:names.any (fun y=>eqW y i.nm) with
       | true =>
        have HX:Hid (zaH names labs (its.map It.key)=zaH names labs ((its.map It.key).drop (j+1))):=by
         unfold Hid;rw [HB.out];simp [zdn,It.key,hal,haf,hany]
        clear HB
        go_wp2_with(first
         | (go_at_call 102;refine(g36 _).mono ?_;rintro e w3 ⟨rfl,hb3⟩;have S3:=S.below hb3;obtain⟨m3,p3,a0,a1,a2,a3,a4,a5,a6,a7,ml3,mp3⟩:=S3)
         | (go_at_call 104;refine(g38 _).mono ?_;rintro e w4 ⟨rfl,hb4⟩;have hb34:=hb3.trans (hb4.mono hb3.size);have S4:=S.below hb34;obtain⟨m4,p4,b0,b1,b2,b3,b4,b5,b6,b7,ml4,mp4⟩:=S4)
         | (go_at_call 103;refine(zj4 w4 pm nameE mp4 i.sort i.line i.word i.a i.b i.c i.n i.nm hnk (by rw [HN.out];exact hany)).mono ?_;rintro e w5 ⟨rfl,hb5⟩))
        have hb9:Below (wo.heap.size+1) wr w5:=(zaZ _ _ (hb34.trans (hb5.mono hb34.size))).mono (by omega)
        clear hb3 hb4 hb34 hb5
        go_roundw
        case rel=>exact⟨j+1,by omega,by go_num,hny.trans hb9,HX.out⟩
        case measure=>simp [intOf];omega
       | false =>
        have HX:Hid (zcA names (F.map FnM.fn)=some i.line):=by
         unfold Hid;rw [HD.out,HB.out];simp [zdn,It.key,hal,haf,hany]
        clear HB
        go_wp2_with(first
         | (go_at_call 102;refine(g36 _).mono ?_;rintro e w3 ⟨rfl,hb3⟩;have S3:=S.below hb3;obtain⟨m3,p3,a0,a1,a2,a3,a4,a5,a6,a7,ml3,mp3⟩:=S3)
         | (go_at_call 104;refine(g38 _).mono ?_;rintro e w4 ⟨rfl,hb4⟩;have hb34:=hb3.trans (hb4.mono hb3.size);have S4:=S.below hb34;obtain⟨m4,p4,b0,b1,b2,b3,b4,b5,b6,b7,ml4,mp4⟩:=S4)
         | (go_at_call 103;refine(zli w4 pm nameE mp4 i.sort i.line i.word i.a i.b i.c i.n i.nm hnk (by rw [HN.out];exact hany)).mono ?_;rintro e w5 ⟨rfl,hb5⟩))
        exact⟨rfl,hbww.trans ((zaZ _ _ (hb34.trans (hb5.mono hb34.size))).mono hbww.size),.inl ⟨_,HX.out,rfl⟩⟩
      | false =>
       rw [haf] at g38
       have HX:Hid (zaH names labs (its.map It.key)=zaH names labs ((its.map It.key).drop (j+1))):=by
        unfold Hid;rw [HB.out];simp [zdn,It.key,hal,haf]
       clear HB
       go_wp2_with(first
        | (go_at_call 102;refine(g36 _).mono ?_;rintro e w3 ⟨rfl,hb3⟩;have S3:=S.below hb3;obtain⟨m3,p3,a0,a1,a2,a3,a4,a5,a6,a7,ml3,mp3⟩:=S3)
        | (go_at_call 104;refine(g38 _).mono ?_;rintro e w4 ⟨rfl,hb4⟩;have hb34:=hb3.trans (hb4.mono hb3.size);have S4:=S.below hb34;obtain⟨m4,p4,b0,b1,b2,b3,b4,b5,b6,b7,ml4,mp4⟩:=S4))
       have hb9:Below (wo.heap.size+1) wr w4:=(zaZ _ _ hb34).mono (by omega)
       clear hb3 hb4 hb34
       go_roundw
       case rel=>exact⟨j+1,by omega,by go_num,hny.trans hb9,HX.out⟩
       case measure=>simp [intOf];omega
    ·have HX:Hid (zcA names (F.map FnM.fn)=zcA names ((F.map FnM.fn).drop (k+1))):=by
      unfold Hid;rw [HD.out,HI.out,List.drop_of_length_le (by simp;omega)];rfl
     have hb9:Below (w.heap.size+1) W1 wr:=hnx.trans (hbi.mono (by omega))
     go_wp2
     go_roundw
     case rel=>exact⟨k+1,by omega,by go_num,hb9,HX.out⟩
     case measure=>simp [intOf];omega
  ·have HX:Hid (k=F.length):=by unfold Hid;omega
   go_wp2
   go_end0
   refine⟨hbw,.inr ⟨?_,rfl⟩⟩
   rw [HE.out,HX.out,List.drop_of_length_le (by simp)];rfl
end Go.Proofs.YtfpgjkbjbbgciaaGreatDoor
