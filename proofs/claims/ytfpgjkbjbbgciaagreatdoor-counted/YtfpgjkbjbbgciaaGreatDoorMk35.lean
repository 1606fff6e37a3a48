import Derived.Test.YtfpgjkbjbbgciaaGreatDoorMk27
set_option maxRecDepth 100000
set_option maxHeartbeats 8000000
namespace Go.Proofs.YtfpgjkbjbbgciaaGreatDoor
open Go.RowKit Sp
structure Fw where
 wt:Nat
 gv:Nat→Bool
 fr:Nat
structure Wst where
 lines:List Ln
 labels:Nat
 held:Nat→Bool
 counts:List Nat
 deep:Nat
 most:Int
 nk:Nat
 fs:Nat→Fw
def updV(V:Nat→Value)(n:Nat)(v:Value):Nat→Value:=fun j=>if j=n then v else V j
theorem zaT(V:Nat→Value)(n:Nat)(v:Value):updV V n v n=v:=if_pos rfl
theorem zac(V:Nat→Value){n j:Nat}(v:Value)(h:¬j=n):updV V n v j=V j:=if_neg h
structure Blk(B:Nat)(w:World)(b px:Nat)(cv:Value)(code:List Int)(k:Nat)(V:Nat→Value):Prop where
 di:DiM B w px cv code k
 cell:∀ j,j<24→w.cell? ⟨b,j,none⟩=some (V j)
 fz:∀ j,w.frozen? ⟨b,j,none⟩=false
 kb:∃ c,w.heap[b]?=some (.cells c 109 (0,0))
 hB:B≤b
theorem Blk.lt{B:Nat}{w:World}{b px:Nat}{cv:Value}{code:List Int}{k:Nat}{V:Nat→Value}(h:Blk B w b px cv code k V):b<w.heap.size:=World.block_lt_of_cell? w _ (h.cell 0 (by omega))
theorem Blk.ne{B:Nat}{w:World}{b px:Nat}{cv:Value}{code:List Int}{k:Nat}{V:Nat→Value}(h:Blk B w b px cv code k V):¬b=px:=fun e=>by
 obtain⟨c,h1⟩:=h.kb;obtain⟨c2,h2⟩:=h.di.kx;rw [e,h2] at h1;simp at h1
theorem Blk.block{B:Nat}{w w':World}{b px:Nat}{cv:Value}{code:List Int}{k:Nat}{V:Nat→Value}(h:Blk B w b px cv code k V)(hb:Below B w w')(e1:w'.heap[b]?=w.heap[b]?)(e2:w'.heap[px]?=w.heap[px]?):Blk B w' b px cv code k V:=by
 have c:∀ j,w'.cell? ⟨b,j,none⟩=w.cell? ⟨b,j,none⟩:=fun j=>World.cell?_of_block (w:=w) (a:=⟨b,j,none⟩) e1;refine⟨h.di.block hb e2,fun j hj=>(c j).trans (h.cell j hj),fun j=>(World.frozen?_of_block (w:=w) (a:=⟨b,j,none⟩) e1).trans (h.fz j),?_,h.hB⟩;rw [e1];exact h.kb
theorem Blk.put{B:Nat}{w:World}{b px:Nat}{cv:Value}{code:List Int}{k:Nat}{V:Nat→Value}(h:Blk B w b px cv code k V)(n:Nat)(hn:n<24)(v:Value):Blk B (w.setCell ⟨b,n,none⟩ v) b px cv code k (updV V n v):=by
 have c:Below B w (w.setCell ⟨b,n,none⟩ v):=(Below.refl B w).setCell (p:=⟨b,n,none⟩) h.hB _;have a:(w.setCell ⟨b,n,none⟩ v).heap[px]?=w.heap[px]?:=Below.heap_setCell _ _ _ _ (fun e=>h.ne e.symm);refine⟨h.di.block c a,fun j hj=>?_,fun j=>zcB w _ _ j _ (h.fz j),zpT h.kb,h.hB⟩;rw [zat w b n j v _ (h.cell n hn)];unfold updV;split
 ·rfl
 ·exact h.cell j hj
theorem Blk.threw{B:Nat}{w w':World}{b px:Nat}{cv:Value}{code:List Int}{k k2:Nat}{V:Nat→Value}(h:Blk B w b px cv code k V)(hd:DiM B w' px cv code k2)(hg:w.grownBy w' (some px)):Blk B w' b px cv code k2 V:=by
 have d:w'.heap[b]?=w.heap[b]?:=hg.block b h.lt (fun e=>h.ne (Option.some.inj e));have c:∀ j,w'.cell? ⟨b,j,none⟩=w.cell? ⟨b,j,none⟩:=fun j=>World.cell?_of_block (w:=w) (a:=⟨b,j,none⟩) d;refine⟨hd,fun j hj=>(c j).trans (h.cell j hj),fun j=>(World.frozen?_of_block (w:=w) (a:=⟨b,j,none⟩) d).trans (h.fz j),?_,h.hB⟩;rw [d];exact h.kb
structure FwAt(xs:List Value)(j:Nat)(F:Fw):Prop where
 z:xs[j*10]?=some (.int .i64 (F.wt:Int))
 zb:F.wt≤(j+1)*2147483648
 g:∀ i,i<8→xs[j*10+(1+i)]?=some (.bool (F.gv i))
 g8:∀ i,8≤i→F.gv i=false
 f:xs[j*10+9]?=some (.int .i64 (F.fr:Int))
 fb:F.fr≤j+1
 f1:1≤F.fr
def KnRow(B:Nat)(w:World)(v:Value)(nk:Nat)(fs:Nat→Fw):Prop:=∃ xs,w.ownsRow B 113 10 v nk xs∧∀ j,j<nk→FwAt xs j (fs j)
def lnV(l:Ln):Value:=.string (ba l.bytes)
def natV(c:Nat):Value:=.int .i64 (c:Int)
structure WrM(B:Nat)(w:World)(b px:Nat)(cv:Value)(code:List Int)(S:Wst)(k:Nat)(V:Nat→Value):Prop where
 blk:Blk B w b px cv code k V
 v0:V 0=.pointer (some ⟨px,0,none⟩)
 lines:w.ownsRow B 9 1 (V 1) S.lines.length (S.lines.map lnV)
 v2:V 2=.int .i64 (S.labels:Int)
 held:∀ i,i<8→V (3+i)=.bool (S.held i)
 counts:w.ownsRow B 3 1 (V 11) S.counts.length (S.counts.map natV)
 cnt8:∀ c∈S.counts,c<8
 gives:∀ i,i<8→∃ g,V (12+i)=.bool g
 v20:V 20=.int .i64 (S.deep:Int)
 v21:V 21=.int .i64 S.most
 v22:∃ f:Nat,V 22=.int .i64 (f:Int)∧f≤S.nk+1∧1≤f
 known:KnRow B w (V 23) S.nk S.fs
theorem zcp{w:World}{B:Nat}{e:TypeId}{size n:Nat}{v:Value}{xs:List Value}(h:w.ownsRow B e size v n xs){b:Nat}{t:TypeId}(hk:∃ c,w.heap[b]?=some (.cells c t (0,0)))(hne:¬e=t):∀ g,v.ownBlock=some g→¬g=b:=fun g hg he=>by
 obtain⟨cur,h1⟩:=zbJ h hg;obtain⟨c,h2⟩:=hk;rw [he,h2] at h1;simp at h1;exact hne h1.2.symm
theorem WrM.rows{B:Nat}{w w':World}{b px:Nat}{cv:Value}{code:List Int}{S:Wst}{k:Nat}{V:Nat→Value}(h:WrM B w b px cv code S k V)(hb:∀ g,g<w.heap.size→¬g=b→¬g=px→w'.heap[g]?=w.heap[g]?):
  w'.ownsRow B 9 1 (V 1) S.lines.length (S.lines.map lnV)∧w'.ownsRow B 3 1 (V 11) S.counts.length (S.counts.map natV)∧KnRow B w' (V 23) S.nk S.fs:=by
 have kb:=h.blk.kb;have kx:=h.blk.di.kx;refine⟨zaj h.lines fun g hg=>hb g (h.lines.lt g hg).2 (zcp h.lines kb (by decide) g hg) (zcp h.lines kx (by decide) g hg),zaj h.counts fun g hg=>hb g (h.counts.lt g hg).2 (zcp h.counts kb (by decide) g hg) (zcp h.counts kx (by decide) g hg),?_⟩;obtain⟨d,a,c⟩:=h.known;exact⟨d,zaj a fun g hg=>hb g (a.lt g hg).2 (zcp a kb (by decide) g hg) (zcp a kx (by decide) g hg),c⟩
theorem WrM.threw{B:Nat}{w w':World}{b px:Nat}{cv:Value}{code:List Int}{S:Wst}{k k2:Nat}{V:Nat→Value}(h:WrM B w b px cv code S k V)(hd:DiM B w' px cv code k2)(hg:w.grownBy w' (some px)):WrM B w' b px cv code S k2 V:=by
 obtain⟨a,c,d⟩:=h.rows (w':=w') (fun g hg' _ hx=>hg.block g hg' (fun e=>hx (Option.some.inj e)));exact⟨h.blk.threw hd hg,h.v0,a,h.v2,h.held,c,h.cnt8,h.gives,h.v20,h.v21,h.v22,d⟩
theorem WrM.below{B:Nat}{w w':World}{b px:Nat}{cv:Value}{code:List Int}{S:Wst}{k:Nat}{V:Nat→Value}(h:WrM B w b px cv code S k V)(hb:Below w.heap.size w w')(hB:B≤w.heap.size):WrM B w' b px cv code S k V:=by
 obtain⟨a,c,d⟩:=h.rows (w':=w') (fun g hg' _ _=>hb.block g hg');exact⟨h.blk.block (hb.mono hB) (hb.block b h.blk.lt) (hb.block px h.blk.di.lt),h.v0,a,h.v2,h.held,c,h.cnt8,h.gives,h.v20,h.v21,h.v22,d⟩
theorem WrM.base{B:Nat}{w:World}{b px:Nat}{cv:Value}{code:List Int}{S:Wst}{k:Nat}{V:Nat→Value}(h:WrM B w b px cv code S k V):B≤w.heap.size:=by
 have:=h.blk.lt;have:=h.blk.hB;omega
theorem WrM.put{B:Nat}{w:World}{b px:Nat}{cv:Value}{code:List Int}{S S2:Wst}{k:Nat}{V:Nat→Value}(h:WrM B w b px cv code S k V)(n:Nat)(hn:n<24)(v:Value)
  (e1:S2.lines=S.lines) (e2:S2.counts=S.counts) (e3:S2.nk=S.nk) (e4:S2.fs=S.fs) (n0:¬n=0) (n1:¬n=1) (n11:¬n=11) (n23:¬n=23)
  (h2:updV V n v 2=.int .i64 (S2.labels:Int)) (hh:∀ i,i<8→updV V n v (3+i)=.bool (S2.held i)) (hg:∀ i,i<8→∃ g,updV V n v (12+i)=.bool g)
  (h20:updV V n v 20=.int .i64 (S2.deep:Int)) (h21:updV V n v 21=.int .i64 S2.most) (h22:∃ f:Nat,updV V n v 22=.int .i64 (f:Int)∧f≤S2.nk+1∧1≤f) :
  WrM B (w.setCell ⟨b,n,none⟩ v) b px cv code S2 k (updV V n v):=by
 obtain⟨a,c,d⟩:=h.rows (w':=w.setCell ⟨b,n,none⟩ v) (fun g _ hne _=>Below.heap_setCell _ _ _ _ hne);refine⟨h.blk.put n hn v,?_,?_,h2,hh,?_,by rw [e2];exact h.cnt8,hg,h20,h21,h22,?_⟩
 ·rw [zac _ _ (fun e=>n0 e.symm)];exact h.v0
 ·rw [zac _ _ (fun e=>n1 e.symm),e1];exact a
 ·rw [zac _ _ (fun e=>n11 e.symm),e2];exact c
 ·rw [zac _ _ (fun e=>n23 e.symm),e3,e4];exact d
def gvOf(V:Nat→Value)(r:Nat):Bool:=decide (r<8)&&(match V (12+r) with|.bool b=>b|_=>false)
def frOf(V:Nat→Value):Nat:=match V 22 with|.int _ z=>z.toNat|_=>0
theorem zgL{V:Nat→Value}{r:Nat}(h:r<8){g:Bool}(e:V (12+r)=.bool g):gvOf V r=g:=by
 unfold gvOf;rw [e,decide_eq_true h];rfl
theorem zx8{V:Nat→Value}{r:Nat}(h:8≤r):gvOf V r=false:=by
 unfold gvOf;rw [decide_eq_false (by omega)];rfl
theorem zoO{V:Nat→Value}{r:Nat}(h:gvOf V r=true):r<8:=by
 unfold gvOf at h;rw [Bool.and_eq_true] at h;exact of_decide_eq_true h.1
theorem zgM{V:Nat→Value}{f:Nat}(e:V 22=.int .i64 (f:Int)):frOf V=f:=by
 unfold frOf;rw [e];rfl
theorem zgN{V:Nat→Value}{n:Nat}{v:Value}(h:n<12∨20≤n):∀ r,gvOf V r=true→gvOf (updV V n v) r=true:=fun r hr=>by
 have h8:=zoO hr;unfold gvOf at hr ⊢;rw [zac _ _ (by omega)];exact hr
theorem zva{V:Nat→Value}{r:Nat}:∀ q,gvOf V q=true→gvOf (updV V (12+r) (.bool true)) q=true:=fun q hq=>by
 have h8:=zoO hq;by_cases e:q=r
 ·rw [e] at h8 ⊢;exact zgL h8 (zaT _ _ _)
 ·unfold gvOf at hq ⊢;rw [zac _ _ (by omega)];exact hq
theorem zpU{V:Nat→Value}{r:Nat}{v:Value}(h:V (12+r)=.bool false):∀ q,gvOf V q=true→gvOf (updV V (12+r) v) q=true:=fun q hq=>by
 have h8:=zoO hq;by_cases e:q=r
 ·rw [e,zgL (e▸h8) h] at hq;cases hq
 ·unfold gvOf at hq ⊢;rw [zac _ _ (by omega)];exact hq
theorem zld{V:Nat→Value}{n:Nat}{v:Value}(h:¬n=22):frOf V≤frOf (updV V n v):=by
 unfold frOf;rw [zac _ _ (fun e=>h e.symm)];exact Nat.le_refl _
theorem zzu{V:Nat→Value}{f g:Nat}(h:V 22=.int .i64 (f:Int))(hg:f≤g):frOf V≤frOf (updV V 22 (.int .i64 (g:Int))):=by
 rw [zgM h,zgM (f:=g) (zaT _ _ _)];exact hg
theorem WrM.fr1{B:Nat}{w:World}{b px:Nat}{cv:Value}{code:List Int}{S:Wst}{k:Nat}{V:Nat→Value}(h:WrM B w b px cv code S k V):1≤frOf V∧frOf V≤S.nk+1:=by
 obtain⟨f,a,c,d⟩:=h.v22;rw [zgM a];exact⟨d,c⟩
section
attribute [local go_sem ↓] Go.wp_at_zero Go.wp_at_succ
theorem zeR{B:Nat}{w w4:World}{r:Option Nat}(hg:w.grownBy w4 r)(hr:∀ g,r=some g→B≤g)(hB:B≤w.heap.size):Below B w w4 :=
 ⟨hg.os,hg.tape,hg.output,hg.size,fun q hq=>hg.block q (by omega) (fun e=>by have:=hr q e.symm;omega)⟩
def Mine(b px:Nat)(V:Nat→Value)(q:Nat):Prop:=q=b∨q=px∨(V 1).ownBlock=some q∨(V 11).ownBlock=some q
structure Fr(b px:Nat)(w:World)(V:Nat→Value)(w':World)(V':Nat→Value):Prop where
 os:w'.os=w.os
 tape:w'.tape=w.tape
 output:w'.output=w.output
 size:w.heap.size≤w'.heap.size
 keep:∀ q,q<w.heap.size→¬Mine b px V q→w'.heap[q]?=w.heap[q]?
 mine:∀ q,q<w.heap.size→Mine b px V' q→Mine b px V q
 gv:∀ r,gvOf V r=true→gvOf V' r=true
 fm:frOf V≤frOf V'
theorem Fr.refl(b px:Nat)(w:World)(V:Nat→Value):Fr b px w V w V:=⟨rfl,rfl,rfl,Nat.le_refl _,fun _ _ _=>rfl,fun _ _ h=>h,fun _ h=>h,Nat.le_refl _⟩
theorem Fr.trans{b px:Nat}{w1 w2 w3:World}{V1 V2 V3:Nat→Value}(h:Fr b px w1 V1 w2 V2)(k:Fr b px w2 V2 w3 V3):Fr b px w1 V1 w3 V3 :=
 ⟨k.os.trans h.os,k.tape.trans h.tape,k.output.trans h.output,Nat.le_trans h.size k.size,fun q hq hm=>(k.keep q (Nat.lt_of_lt_of_le hq h.size) (fun e=>hm (h.mine q hq e))).trans (h.keep q hq hm),fun q hq hm=>h.mine q hq (k.mine q (Nat.lt_of_lt_of_le hq h.size) hm),fun r hr=>k.gv r (h.gv r hr),Nat.le_trans h.fm k.fm⟩
theorem Fr.low{b px:Nat}{w1 w2:World}{V:Nat→Value}(h:Below w1.heap.size w1 w2):Fr b px w1 V w2 V:=⟨h.os,h.tape,h.output,h.size,fun q hq _=>h.block q hq,fun _ _ h=>h,fun _ h=>h,Nat.le_refl _⟩
theorem Fr.grown{b px:Nat}{w1 w2:World}{V:Nat→Value}(h:w1.grownBy w2 (some px)):Fr b px w1 V w2 V:=⟨h.os,h.tape,h.output,h.size,fun q hq hm=>h.block q hq (fun e=>hm (.inr (.inl (Option.some.inj e)))),fun _ _ h=>h,fun _ h=>h,Nat.le_refl _⟩
theorem WrM.mineB{B:Nat}{w:World}{b px:Nat}{cv:Value}{code:List Int}{S:Wst}{k:Nat}{V:Nat→Value}(h:WrM B w b px cv code S k V){q:Nat}(hm:Mine b px V q):B≤q:=by
 rcases hm with e|e|e|e
 ·rw [e];exact h.blk.hB
 ·rw [e];exact h.blk.di.hB
 ·exact(h.lines.lt q e).1
 ·exact(h.counts.lt q e).1
theorem WrM.low{B:Nat}{w:World}{b px:Nat}{cv:Value}{code:List Int}{S:Wst}{k:Nat}{V:Nat→Value}(h:WrM B w b px cv code S k V){w':World}{V':Nat→Value}(f:Fr b px w V w' V'):Below B w w' :=
 ⟨f.os,f.tape,f.output,f.size,fun q hq=>f.keep q (by have:=h.base;omega) (fun hm=>by have:=h.mineB hm;omega)⟩
theorem WrM.said{B:Nat}{w w4:World}{b px:Nat}{cv:Value}{code:List Int}{S:Wst}{k:Nat}{V:Nat→Value}(h:WrM B w b px cv code S k V){gn cn:Nat}{l:Ln}(hg:w.grownBy w4 (V 1).ownBlock)(hnew:(V 1).ownBlock=some gn∨w.heap.size≤gn)(hown:w4.ownsRow B 9 1 (.slice (some ⟨gn,0,none⟩) (S.lines.length+1) cn) (S.lines.length+1) ((S.lines++[l]).map lnV)):
  WrM B (w4.setCell ⟨b,1,none⟩ (.slice (some ⟨gn,0,none⟩) (S.lines.length+1) cn)) b px cv code { S with lines:=S.lines++[l] } k (updV V 1 (.slice (some ⟨gn,0,none⟩) (S.lines.length+1) cn))∧Fr b px w V (w4.setCell ⟨b,1,none⟩ (.slice (some ⟨gn,0,none⟩) (S.lines.length+1) cn)) (updV V 1 (.slice (some ⟨gn,0,none⟩) (S.lines.length+1) cn))∧w4.cell? ⟨b,1,none⟩=some (V 1)∧w4.frozen? ⟨b,1,none⟩=false:=by
 have u:=h.base;have f:Below B w w4:=zeR hg (fun g e=>(h.lines.lt g e).1) u;have a:∀ g,g<w.heap.size→¬(V 1).ownBlock=some g→w4.heap[g]?=w.heap[g]?:=fun g hl hne=>hg.block g hl (fun e=>hne e.symm);have s:w4.heap[b]?=w.heap[b]?:=a b h.blk.lt (fun e=>zcp h.lines h.blk.kb (by decide) b e rfl);have t:w4.heap[px]?=w.heap[px]?:=a px h.blk.di.lt (fun e=>zcp h.lines h.blk.di.kx (by decide) px e rfl);have d:=h.blk.block f s t;have j:w4.ownsRow B 3 1 (V 11) S.counts.length (S.counts.map natV):=zaj h.counts fun g e=>a g (h.counts.lt g e).2 (fun e1=>by
  rcases zcL h.counts h.lines (by decide) with q|q
  ·rw [q] at e;cases e
  ·exact q (e.trans e1.symm))
 obtain⟨o,m,x⟩:=h.known;have l:w4.ownsRow B 113 10 (V 23) S.nk o:=zaj m fun g e=>a g (m.lt g e).2 (fun e1=>by
  rcases zcL m h.lines (by decide) with q|q
  ·rw [q] at e;cases e
  ·exact q (e.trans e1.symm))
 have c:∀{e:TypeId} {size n:Nat} {v:Value} {ys:List Value},w4.ownsRow B e size v n ys→¬e=109→(w4.setCell ⟨b,1,none⟩ (.slice (some ⟨gn,0,none⟩) (S.lines.length+1) cn)).ownsRow B e size v n ys:=fun ho hne=>zaj ho fun g e=>Below.heap_setCell _ _ _ _ (zcp ho d.kb hne g e);refine⟨⟨d.put 1 (by omega) _,?_,?_,?_,fun i hi=>?_,?_,h.cnt8,fun i hi=>?_,?_,?_,?_,?_⟩,⟨hg.os,hg.tape,hg.output,by rw [World.size_setCell];exact hg.size,fun q hq hm=>?_,fun q hq hm=>?_,zgN (.inl (by decide)),zld (by decide)⟩,d.cell 1 (by omega),d.fz 1⟩
 ·rw [zac _ _ (by decide)];exact h.v0
 ·rw [zaT];have:=c hown (by decide);simpa using this
 ·rw [zac _ _ (by decide)];exact h.v2
 ·rw [zac _ _ (by omega)];exact h.held i hi
 ·rw [zac _ _ (by decide)];exact c j (by decide)
 ·rw [zac _ _ (by omega)];exact h.gives i hi
 ·rw [zac _ _ (by decide)];exact h.v20
 ·rw [zac _ _ (by decide)];exact h.v21
 ·rw [zac _ _ (by decide)];exact h.v22
 ·rw [zac _ _ (by decide)];exact⟨o,c l (by decide),x⟩
 ·rw [Below.heap_setCell _ _ _ _ (fun e=>hm (.inl e))];exact a q hq (fun e=>hm (.inr (.inr (.inl e))))
 ·rcases hm with e|e|e|e
  ·exact .inl e
  ·exact .inr (.inl e)
  ·rw [zaT] at e;have r:gn=q:=Option.some.inj e;rcases hnew with e3|e3
   ·exact .inr (.inr (.inl (by rw [e3,r])))
   ·omega
  ·rw [zac _ _ (by decide)] at e;exact .inr (.inr (.inr e))
def zmU(B:Nat)(w:World)(b px:Nat)(cv:Value)(code:List Int)(V:Nat→Value)(S:Wst)(w':World):Prop:=∃ k' V',WrM B w' b px cv code S k' V'∧Fr b px w V w' V'
theorem zbE{B:Nat}{w:World}{b px:Nat}{cv:Value}{code:List Int}{S:Wst}{k:Nat}{V:Nat→Value}(h:WrM B w b px cv code S k V)(l:Ln)(X:ByteArray)(hl:ba l.bytes=ba [9]++X)(z:X.size≤1000)(hn:S.lines.length≤100000):
  Calls Tryz.prog 62 #[.pointer (some ⟨b,0,none⟩),.string X] w fun e w'=>e=.returned (.tuple #[])∧zmU B w b px cv code V { S with lines:=S.lines++[l] } w':=by
 have u:=h.blk.cell 1 (by omega);have d:=h.lines;have hB:=h.base;have lb:=h.blk.lt;have q:lnV l=.string (ba [9]++X):=by unfold lnV;rw [hl]
 obtain⟨y,p,r,s,t⟩:=info_parts Tryz.info9;have z3:¬9223372036854775807<1+X.size:=by omega
 obtain⟨ao,cap,hv1⟩:=zba d;rw [hv1] at u;have a:=d;rw [hv1] at a;go_enter Tryz.func62,Tryz.ntmps62;go_wp2_with(first
  | (at_builtin;refine wpList_append_lies _ rfl _ _ 67 rfl B 9 y (.string ByteArray.empty) 1 16 Tryz.under67 p r s t rfl (by decide) _ _ _ rfl (a.alloc _) ⟨w.heap.size,0,none⟩ 1 1 [.string (ba [9]++X)] rfl rfl (cell_one_new _ _ _) (zdu _) (by decide) (by unfold maxLen;omega) (by omega) (by simp;omega) (w.heap.size+1) (by simp) ?_))
 intro x c v g f m _;have o:w.grownBy v (V 1).ownBlock:=by rw [hv1];exact(World.grownBy_alloc w _ _).trans f
 have i:v.ownsRow B 9 1 (.slice (some ⟨x,0,none⟩) (S.lines.length+1) c) (S.lines.length+1) ((S.lines++[l]).map lnV):=by
  have:=g;rw [List.map_append,List.map_singleton,q];exact this
 obtain⟨M,j,n,hfo⟩:=h.said o (by rw [hv1];rcases m with e|e;exact .inl e;exact .inr (by omega)) i;rw [hv1] at n;clear u;go_wp2
 go_end0
 exact⟨rfl,k,_,M,j⟩
end
section
attribute [local go_sem ↓] Go.wp_at_zero Go.wp_at_succ
theorem zvb{B:Nat}{w:World}{b px:Nat}{cv:Value}{code:List Int}{S:Wst}{k:Nat}{V:Nat→Value}(h:WrM B w b px cv code S k V)(n:Nat):WrM B (w.setCell ⟨b,2,none⟩ (.int .i64 (n:Int))) b px cv code { S with labels:=n } k (updV V 2 (.int .i64 (n:Int))) :=
 h.put 2 (by omega) _ rfl rfl rfl rfl (by omega) (by omega) (by omega) (by omega) (zaT _ _ _) (fun i hi=>by rw [zac _ _ (by omega)];exact h.held i hi) (fun i hi=>by rw [zac _ _ (by omega)];exact h.gives i hi)
  (by rw [zac _ _ (by decide)];exact h.v20) (by rw [zac _ _ (by decide)];exact h.v21) (by rw [zac _ _ (by decide)];exact h.v22)
theorem zpV{B:Nat}{w:World}{b px:Nat}{cv:Value}{code:List Int}{S:Wst}{k:Nat}{V:Nat→Value}(h:WrM B w b px cv code S k V)(n:Nat):WrM B (w.setCell ⟨b,20,none⟩ (.int .i64 (n:Int))) b px cv code { S with deep:=n } k (updV V 20 (.int .i64 (n:Int))) :=
 h.put 20 (by omega) _ rfl rfl rfl rfl (by omega) (by omega) (by omega) (by omega) (by rw [zac _ _ (by decide)];exact h.v2) (fun i hi=>by rw [zac _ _ (by omega)];exact h.held i hi) (fun i hi=>by rw [zac _ _ (by omega)];exact h.gives i hi)
  (zaT _ _ _) (by rw [zac _ _ (by decide)];exact h.v21) (by rw [zac _ _ (by decide)];exact h.v22)
theorem zsd{B:Nat}{w:World}{b px:Nat}{cv:Value}{code:List Int}{S:Wst}{k:Nat}{V:Nat→Value}(h:WrM B w b px cv code S k V)(n:Nat)(hn:n≤S.nk+1∧1≤n):WrM B (w.setCell ⟨b,22,none⟩ (.int .i64 (n:Int))) b px cv code S k (updV V 22 (.int .i64 (n:Int))) :=
 h.put 22 (by omega) _ rfl rfl rfl rfl (by omega) (by omega) (by omega) (by omega) (by rw [zac _ _ (by decide)];exact h.v2) (fun i hi=>by rw [zac _ _ (by omega)];exact h.held i hi) (fun i hi=>by rw [zac _ _ (by omega)];exact h.gives i hi)
  (by rw [zac _ _ (by decide)];exact h.v20) (by rw [zac _ _ (by decide)];exact h.v21) ⟨n,zaT _ _ _,hn⟩
def updH(f:Nat→Bool)(r:Nat)(v:Bool):Nat→Bool:=fun i=>if i=r then v else f i
theorem zhG{B:Nat}{w:World}{b px:Nat}{cv:Value}{code:List Int}{S:Wst}{k:Nat}{V:Nat→Value}(h:WrM B w b px cv code S k V)(r:Nat)(hr:r<8)(v:Bool):WrM B (w.setCell ⟨b,3+r,none⟩ (.bool v)) b px cv code { S with held:=updH S.held r v } k (updV V (3+r) (.bool v)) :=
 h.put (3+r) (by omega) _ rfl rfl rfl rfl (by omega) (by omega) (by omega) (by omega) (by rw [zac _ _ (by omega)];exact h.v2)
  (fun i hi=>by
    show _=Value.bool (if i=r then v else S.held i);by_cases e:i=r
    ·rw [e,zaT,if_pos rfl]
    ·rw [zac _ _ (by omega),if_neg e];exact h.held i hi)
  (fun i hi=>by rw [zac _ _ (by omega)];exact h.gives i hi)
  (by rw [zac _ _ (by omega)];exact h.v20) (by rw [zac _ _ (by omega)];exact h.v21) (by rw [zac _ _ (by omega)];exact h.v22)
theorem zjt{B:Nat}{w:World}{b px:Nat}{cv:Value}{code:List Int}{S:Wst}{k:Nat}{V:Nat→Value}(h:WrM B w b px cv code S k V)(r:Nat)(hr:r<8)(v:Bool):WrM B (w.setCell ⟨b,12+r,none⟩ (.bool v)) b px cv code S k (updV V (12+r) (.bool v)) :=
 h.put (12+r) (by omega) _ rfl rfl rfl rfl (by omega) (by omega) (by omega) (by omega) (by rw [zac _ _ (by omega)];exact h.v2)
  (fun i hi=>by rw [zac _ _ (by omega)];exact h.held i hi)
  (fun i hi=>by
    by_cases e:i=r
    ·rw [e,zaT];exact⟨v,rfl⟩
    ·rw [zac _ _ (by omega)];exact h.gives i hi)
  (by rw [zac _ _ (by omega)];exact h.v20) (by rw [zac _ _ (by omega)];exact h.v21) (by rw [zac _ _ (by omega)];exact h.v22)
theorem WrM.put_fr{B:Nat}{w:World}{b px:Nat}{cv:Value}{code:List Int}{S:Wst}{k:Nat}{V:Nat→Value}(_h:WrM B w b px cv code S k V)(n:Nat)(v:Value)(n1:¬n=1)(n11:¬n=11)(hg:∀ r,gvOf V r=true→gvOf (updV V n v) r=true:=by first|exact zgN (by omega)|exact zva)(hf:frOf V≤frOf (updV V n v):=by exact zld (by omega)):Fr b px w V (w.setCell ⟨b,n,none⟩ v) (updV V n v) :=
 ⟨rfl,rfl,rfl,by rw [World.size_setCell];exact Nat.le_refl _,fun q _ hm=>Below.heap_setCell _ _ _ _ (fun e=>hm (.inl e)),fun q _ hm=>by
  unfold Mine at hm;rw [zac _ _ (fun e=>n1 e.symm),zac _ _ (fun e=>n11 e.symm)] at hm;exact hm,hg,hf⟩
theorem zle{B:Nat}{w:World}{b px:Nat}{cv:Value}{code:List Int}{S:Wst}{k:Nat}{V:Nat→Value}(h:WrM B w b px cv code S k V)(hn:S.labels≤100000):
  Calls Tryz.prog 120 #[.pointer (some ⟨b,0,none⟩)] w fun e w'=>e=.returned (.string (ba (labW (S.labels+1))))∧zmU B w b px cv code V { S with labels:=S.labels+1 } w':=by
 have f:=h.blk.cell 2 (by omega);rw [h.v2] at f;have f2:=h.blk.fz 2;have M:=zvb h (S.labels+1);have a:=h.put_fr 2 (.int .i64 ((S.labels+1:Nat):Int)) (by decide) (by decide);have d:=zgI ((S.labels:Int)+1) ⟨by omega,by omega⟩ (w.setCell ⟨b,2,none⟩ (.int .i64 ((S.labels:Int)+1)));have ed:digL ((S.labels:Int)+1)=decL (S.labels+1):=by unfold digL;rw [if_neg (by omega)];congr 1
 have el:ba (labW (S.labels+1))=ba [108]++ba (decL (S.labels+1)):=(zeg [108] (decL (S.labels+1))).symm;have g:=zeO (S.labels+1) (by omega);rw [ed] at d;rw [el];rw [show((S.labels+1:Nat):Int)=(S.labels:Int)+1 by omega] at M a;generalize ba (decL (S.labels+1))=Y at d g ⊢;have z3:¬9223372036854775807<1+Y.size:=by omega
 go_enter Tryz.func120,Tryz.ntmps120;go_wp2_with(go_at_call 36;(with_reducible refine d.mono ?_);rintro e w2 ⟨rfl,c⟩)
 go_ret;exact⟨rfl,k,_,M.below c M.base,a.trans (.low c)⟩
theorem zzv{B:Nat}{w:World}{b px:Nat}{cv:Value}{code:List Int}{S:Wst}{k:Nat}{V:Nat→Value}(h:WrM B w b px cv code S k V)(c:Nat)(hc:(c:Int)<8)(rf:Nat)(hrf:rf<8)(hf:S.held rf=false):
  Calls Tryz.prog 143 #[.pointer (some ⟨b,0,none⟩),.int .i64 (c:Int)] w fun e w'=>∃ r:Nat,e=.returned (.int .i64 (r:Int))∧r<8∧S.held r=false∧w'=w:=by
 have j:=fun W=>zpM (c:Int) 8 W (by omega) ⟨by omega,by omega⟩;have ep:zkX (c:Int) 8=(c:Int):=by unfold zkX;rw [if_neg (by omega)];omega
 rw [ep] at j;have a:∀ r,r<8→w.cell? ⟨b,3+r,none⟩=some (.bool (S.held r)):=fun r d=>by rw [←h.held r d];exact h.blk.cell (3+r) (by omega)
 go_enter Tryz.func143,Tryz.ntmps143;go_wp2_with(go_at_call 37;(with_reducible refine(j _).mono ?_);rintro e l ⟨rfl,g⟩;subst g)
 go_loopw [5] (fun t wr=>∃ r:Nat,r<8∧t=.int .i64 (r:Int)∧wr=l) (fun t _=>(rf+8-(intOf t).toNat)%8)
 case atStart=>exact⟨c,by omega,rfl,rfl⟩
 case round =>
  obtain⟨r,d,rfl,f⟩:=hrel;subst f;have i:=a r d;have hr0:(0:Int)≤(r:Int):=by omega
  have hr8:(r:Int)<8:=by omega
  cases hh:S.held r with
  | false =>
   rw [hh] at i;clear a;go_wp2;go_ret;exact⟨r,rfl,d,hh,rfl⟩
  | true =>
   rw [hh] at i;have hne:¬r=rf:=fun e=>by rw [e,hf] at hh;cases hh
   have e3:((r:Int)+1)%8=((r+1)%8:Nat):=by omega
   clear a;go_wp2;go_roundw
   case rel=>exact⟨(r+1)%8,by omega,by rw [e3],trivial⟩
   case measure=>simp [intOf];omega
theorem zax{B:Nat}{w:World}{b px:Nat}{cv:Value}{code:List Int}{S:Wst}{k:Nat}{V:Nat→Value}(h:WrM B w b px cv code S k V)(n:Int)(hn:0<n):
  Calls Tryz.prog 41 #[.pointer (some ⟨px,0,none⟩),.int .i64 n] w fun e w'=>∃ c:Nat,e=.returned (.int .i64 (c:Int))∧(c:Int)<n∧zmU B w b px cv code V S w':=by
 refine(ze5 h.blk.di n hn).mono ?_;rintro e w' ⟨c,g,d,i,f,a⟩;exact⟨c,g,d,i,V,h.threw f a,.grown a⟩
theorem zzw{B:Nat}{w:World}{b px:Nat}{cv:Value}{code:List Int}{S:Wst}{k:Nat}{V:Nat→Value}(h:WrM B w b px cv code S k V):
  Calls Tryz.prog 121 #[.pointer (some ⟨px,0,none⟩)] w fun e w'=>∃ z:Int,e=.returned (.int .i64 z)∧i64 z∧zmU B w b px cv code V S w':=by
 refine(zyf h.blk.di).mono ?_;rintro e w' ⟨c,g,d,i,f,a⟩;exact⟨c,g,d,i,V,h.threw f a,.grown a⟩
theorem zca{B:Nat}{w:World}{b px:Nat}{cv:Value}{code:List Int}{S:Wst}{k:Nat}{V:Nat→Value}(h:WrM B w b px cv code S k V)(rf:Nat)(hrf:rf<8)(hf:S.held rf=false):
  Calls Tryz.prog 118 #[.pointer (some ⟨b,0,none⟩)] w fun e w'=>∃ r:Nat,e=.returned (.int .i64 (r:Int))∧r<8∧S.held r=false∧∃ k' V',WrM B w' b px cv code S k' V'∧Fr b px w V w' V'∧gvOf V' r=true:=by
 have m:=h.blk.cell 0 (by omega);rw [h.v0] at m;have n:=zax h 8 (by omega);go_enter Tryz.func118,Tryz.ntmps118;go_wp2_with(first
  | (go_at_call 41;(with_reducible refine n.mono ?_);rintro e w1 ⟨c,rfl,q,t,V1,a,i⟩;have d:=zzv a c q rf hrf hf)
  | (go_at_call 143;(with_reducible refine d.mono ?_);rintro e w2 ⟨r,rfl,f,s,l⟩;refine Hid.out ?_))
 unfold Hid;subst l;obtain⟨g,hg⟩:=a.gives r f;have p:=a.blk.cell (12+r) (by omega);rw [hg] at p;have fr:=a.blk.fz (12+r);have hr0:(0:Int)≤(r:Int):=by omega
 have hr8:(r:Int)<8:=by omega
 have o:=zjt a r f true;have j:=a.put_fr (12+r) (.bool true) (by omega) (by omega);clear n d m;go_wp2;go_ret;exact⟨r,rfl,f,s,t,_,o,i.trans j,zgL f (zaT _ _ _)⟩
end
end Go.Proofs.YtfpgjkbjbbgciaaGreatDoor
