import Derived.Test.YtfpgjkbjbbgciaaGreatDoorMi19
import Derived.Test.YtfpgjkbjbbgciaaGreatDoorMi23
set_option maxRecDepth 100000
set_option maxHeartbeats 8000000
namespace Go.Proofs.YtfpgjkbjbbgciaaGreatDoor
open Go.RowKit Sp
structure Wst where
 lines:List Ln
 labels:Nat
 held:Nat→Bool
 counts:List Nat
 deep:Nat
 most:Int
 nk:Nat
def updV(V:Nat→Value)(n:Nat)(v:Value):Nat→Value:=fun j=>if j=n then v else V j
theorem zbT(V:Nat→Value)(n:Nat)(v:Value):updV V n v n=v:=if_pos rfl
theorem zac(V:Nat→Value){n j:Nat}(v:Value)(h:¬j=n):updV V n v j=V j:=if_neg h
structure Blk(B:Nat)(w:World)(b px:Nat)(cv:Value)(code:List Int)(k:Nat)(V:Nat→Value):Prop where
 di:DiM B w px cv code k
 cell:∀ j,j<24→w.cell? ⟨b,j,none⟩=some (V j)
 fz:∀ j,w.frozen? ⟨b,j,none⟩=false
 kb:∃ c,w.heap[b]?=some (.cells c 109 (0,0))
 hB:B≤b
theorem Blk.lt{B:Nat}{w:World}{b px:Nat}{cv:Value}{code:List Int}{k:Nat}{V:Nat→Value}(h:Blk B w b px cv code k V):b<w.heap.size:=World.block_lt_of_cell? w _ (h.cell 0 (by omega))
theorem Blk.ne{B:Nat}{w:World}{b px:Nat}{cv:Value}{code:List Int}{k:Nat}{V:Nat→Value}(h:Blk B w b px cv code k V):¬b=px:=fun e=>by
 obtain⟨c,h1⟩:=h.kb
 obtain⟨c2,h2⟩:=h.di.kx
 rw [e,h2] at h1
 simp at h1
theorem Blk.block{B:Nat}{w w':World}{b px:Nat}{cv:Value}{code:List Int}{k:Nat}{V:Nat→Value}(h:Blk B w b px cv code k V)(hb:Below B w w')(e1:w'.heap[b]?=w.heap[b]?)(e2:w'.heap[px]?=w.heap[px]?):Blk B w' b px cv code k V:=by
 have c:∀ j,w'.cell? ⟨b,j,none⟩=w.cell? ⟨b,j,none⟩:=fun j=>World.cell?_of_block (w:=w) (a:=⟨b,j,none⟩) e1
 refine⟨h.di.block hb e2,fun j hj=>(c j).trans (h.cell j hj),fun j=>(World.frozen?_of_block (w:=w) (a:=⟨b,j,none⟩) e1).trans (h.fz j),?_,h.hB⟩
 rw [e1];exact h.kb
theorem Blk.put{B:Nat}{w:World}{b px:Nat}{cv:Value}{code:List Int}{k:Nat}{V:Nat→Value}(h:Blk B w b px cv code k V)(n:Nat)(hn:n<24)(v:Value):Blk B (w.setCell ⟨b,n,none⟩ v) b px cv code k (updV V n v):=by
 have hb:Below B w (w.setCell ⟨b,n,none⟩ v):=(Below.refl B w).setCell (p:=⟨b,n,none⟩) h.hB _
 have e2:(w.setCell ⟨b,n,none⟩ v).heap[px]?=w.heap[px]?:=Below.heap_setCell _ _ _ _ (fun e=>h.ne e.symm)
 refine⟨h.di.block hb e2,fun j hj=>?_,fun j=>zcE w _ _ j _ (h.fz j),zp6 h.kb,h.hB⟩
 rw [zaq w b n j v _ (h.cell n hn)]
 unfold updV
 split
 ·rfl
 ·exact h.cell j hj
theorem Blk.threw{B:Nat}{w w':World}{b px:Nat}{cv:Value}{code:List Int}{k k2:Nat}{V:Nat→Value}(h:Blk B w b px cv code k V)(hd:DiM B w' px cv code k2)(hg:w.grownBy w' (some px)):Blk B w' b px cv code k2 V:=by
 have e1:w'.heap[b]?=w.heap[b]?:=hg.block b h.lt (fun e=>h.ne (Option.some.inj e))
 have c:∀ j,w'.cell? ⟨b,j,none⟩=w.cell? ⟨b,j,none⟩:=fun j=>World.cell?_of_block (w:=w) (a:=⟨b,j,none⟩) e1
 refine⟨hd,fun j hj=>(c j).trans (h.cell j hj),fun j=>(World.frozen?_of_block (w:=w) (a:=⟨b,j,none⟩) e1).trans (h.fz j),?_,h.hB⟩
 rw [e1];exact h.kb
def KnRow(B:Nat)(w:World)(v:Value)(nk:Nat):Prop:=∃ xs,w.ownsRow B 113 10 v nk xs∧∀ j,j<nk→(∃ z:Nat,xs[j*10]?=some (.int .i64 (z:Int))∧z≤(j+1)*2147483648)∧(∀ i,i<8→∃ g,xs[j*10+(1+i)]?=some (.bool g))∧∃ f:Nat,xs[j*10+9]?=some (.int .i64 (f:Int))∧f≤j+1
def lnV(l:Ln):Value:=.string (ba l.bytes)
def natV(c:Nat):Value:=.int .i64 (c:Int)
structure WrM(B:Nat)(w:World)(b px:Nat)(cv:Value)(code:List Int)(S:Wst)(k:Nat)(V:Nat→Value):Prop where
 blk:Blk B w b px cv code k V
 v0:V 0=.pointer (some ⟨px,0,none⟩)
 lines:w.ownsRow B 9 1 (V 1) S.lines.length (S.lines.map lnV)
 v2:V 2=.int .i64 (S.labels:Int)
 held:∀ i,i<8→V (3+i)=.bool (S.held i)
 counts:w.ownsRow B 3 1 (V 11) S.counts.length (S.counts.map natV)
 cnt8:∀ c∈S.counts,c<8
 gives:∀ i,i<8→∃ g,V (12+i)=.bool g
 v20:V 20=.int .i64 (S.deep:Int)
 v21:V 21=.int .i64 S.most
 v22:∃ f:Nat,V 22=.int .i64 (f:Int)∧f≤S.nk+1
 known:KnRow B w (V 23) S.nk
theorem zcu{w:World}{B:Nat}{e:TypeId}{size n:Nat}{v:Value}{xs:List Value}(h:w.ownsRow B e size v n xs){b:Nat}{t:TypeId}(hk:∃ c,w.heap[b]?=some (.cells c t (0,0)))(hne:¬e=t):∀ g,v.ownBlock=some g→¬g=b:=fun g hg he=>by
 obtain⟨cur,h1⟩:=zbK h hg
 obtain⟨c,h2⟩:=hk
 rw [he,h2] at h1
 simp at h1
 exact hne h1.2.symm
theorem WrM.rows{B:Nat}{w w':World}{b px:Nat}{cv:Value}{code:List Int}{S:Wst}{k:Nat}{V:Nat→Value}(h:WrM B w b px cv code S k V)(hb:∀ g,g<w.heap.size→¬g=b→¬g=px→w'.heap[g]?=w.heap[g]?):
  w'.ownsRow B 9 1 (V 1) S.lines.length (S.lines.map lnV)∧w'.ownsRow B 3 1 (V 11) S.counts.length (S.counts.map natV)∧KnRow B w' (V 23) S.nk:=by
 have kb:=h.blk.kb
 have kx:=h.blk.di.kx
 refine⟨zaj h.lines fun g hg=>hb g (h.lines.lt g hg).2 (zcu h.lines kb (by decide) g hg) (zcu h.lines kx (by decide) g hg),zaj h.counts fun g hg=>hb g (h.counts.lt g hg).2 (zcu h.counts kb (by decide) g hg) (zcu h.counts kx (by decide) g hg),?_⟩
 obtain⟨xs,h1,h2⟩:=h.known
 exact⟨xs,zaj h1 fun g hg=>hb g (h1.lt g hg).2 (zcu h1 kb (by decide) g hg) (zcu h1 kx (by decide) g hg),h2⟩
theorem WrM.threw{B:Nat}{w w':World}{b px:Nat}{cv:Value}{code:List Int}{S:Wst}{k k2:Nat}{V:Nat→Value}(h:WrM B w b px cv code S k V)(hd:DiM B w' px cv code k2)(hg:w.grownBy w' (some px)):WrM B w' b px cv code S k2 V:=by
 obtain⟨r1,r2,r3⟩:=h.rows (w':=w') (fun g hg' _ hx=>hg.block g hg' (fun e=>hx (Option.some.inj e)))
 exact⟨h.blk.threw hd hg,h.v0,r1,h.v2,h.held,r2,h.cnt8,h.gives,h.v20,h.v21,h.v22,r3⟩
theorem WrM.below{B:Nat}{w w':World}{b px:Nat}{cv:Value}{code:List Int}{S:Wst}{k:Nat}{V:Nat→Value}(h:WrM B w b px cv code S k V)(hb:Below w.heap.size w w')(hB:B≤w.heap.size):WrM B w' b px cv code S k V:=by
 obtain⟨r1,r2,r3⟩:=h.rows (w':=w') (fun g hg' _ _=>hb.block g hg')
 exact⟨h.blk.block (hb.mono hB) (hb.block b h.blk.lt) (hb.block px h.blk.di.lt),h.v0,r1,h.v2,h.held,r2,h.cnt8,h.gives,h.v20,h.v21,h.v22,r3⟩
theorem WrM.base{B:Nat}{w:World}{b px:Nat}{cv:Value}{code:List Int}{S:Wst}{k:Nat}{V:Nat→Value}(h:WrM B w b px cv code S k V):B≤w.heap.size:=by
 have:=h.blk.lt
 have:=h.blk.hB
 omega
theorem WrM.put{B:Nat}{w:World}{b px:Nat}{cv:Value}{code:List Int}{S S2:Wst}{k:Nat}{V:Nat→Value}(h:WrM B w b px cv code S k V)(n:Nat)(hn:n<24)(v:Value)
  (e1:S2.lines=S.lines) (e2:S2.counts=S.counts) (e3:S2.nk=S.nk) (n0:¬n=0) (n1:¬n=1) (n11:¬n=11) (n23:¬n=23)
  (h2:updV V n v 2=.int .i64 (S2.labels:Int)) (hh:∀ i,i<8→updV V n v (3+i)=.bool (S2.held i)) (hg:∀ i,i<8→∃ g,updV V n v (12+i)=.bool g)
  (h20:updV V n v 20=.int .i64 (S2.deep:Int)) (h21:updV V n v 21=.int .i64 S2.most) (h22:∃ f:Nat,updV V n v 22=.int .i64 (f:Int)∧f≤S2.nk+1) :
  WrM B (w.setCell ⟨b,n,none⟩ v) b px cv code S2 k (updV V n v):=by
 obtain⟨r1,r2,r3⟩:=h.rows (w':=w.setCell ⟨b,n,none⟩ v) (fun g _ hne _=>Below.heap_setCell _ _ _ _ hne)
 refine⟨h.blk.put n hn v,?_,?_,h2,hh,?_,by rw [e2];exact h.cnt8,hg,h20,h21,h22,?_⟩
 ·rw [zac _ _ (fun e=>n0 e.symm)];exact h.v0
 ·rw [zac _ _ (fun e=>n1 e.symm),e1];exact r1
 ·rw [zac _ _ (fun e=>n11 e.symm),e2];exact r2
 ·rw [zac _ _ (fun e=>n23 e.symm),e3];exact r3
section
attribute [local go_sem ↓] Go.wp_at_zero Go.wp_at_succ
theorem zfb{B:Nat}{w w4:World}{r:Option Nat}(hg:w.grownBy w4 r)(hr:∀ g,r=some g→B≤g)(hB:B≤w.heap.size):Below B w w4 :=
 ⟨hg.os,hg.tape,hg.output,hg.size,fun q hq=>hg.block q (by omega) (fun e=>by have:=hr q e.symm;omega)⟩
def Mine(b px:Nat)(V:Nat→Value)(q:Nat):Prop:=q=b∨q=px∨(V 1).ownBlock=some q∨(V 11).ownBlock=some q
structure Fr(b px:Nat)(w:World)(V:Nat→Value)(w':World)(V':Nat→Value):Prop where
 os:w'.os=w.os
 tape:w'.tape=w.tape
 output:w'.output=w.output
 size:w.heap.size≤w'.heap.size
 keep:∀ q,q<w.heap.size→¬Mine b px V q→w'.heap[q]?=w.heap[q]?
 mine:∀ q,q<w.heap.size→Mine b px V' q→Mine b px V q
theorem Fr.refl(b px:Nat)(w:World)(V:Nat→Value):Fr b px w V w V:=⟨rfl,rfl,rfl,Nat.le_refl _,fun _ _ _=>rfl,fun _ _ h=>h⟩
theorem Fr.trans{b px:Nat}{w1 w2 w3:World}{V1 V2 V3:Nat→Value}(h:Fr b px w1 V1 w2 V2)(k:Fr b px w2 V2 w3 V3):Fr b px w1 V1 w3 V3 :=
 ⟨k.os.trans h.os,k.tape.trans h.tape,k.output.trans h.output,Nat.le_trans h.size k.size,fun q hq hm=>(k.keep q (Nat.lt_of_lt_of_le hq h.size) (fun e=>hm (h.mine q hq e))).trans (h.keep q hq hm),fun q hq hm=>h.mine q hq (k.mine q (Nat.lt_of_lt_of_le hq h.size) hm)⟩
theorem Fr.low{b px:Nat}{w1 w2:World}{V:Nat→Value}(h:Below w1.heap.size w1 w2):Fr b px w1 V w2 V:=⟨h.os,h.tape,h.output,h.size,fun q hq _=>h.block q hq,fun _ _ h=>h⟩
theorem Fr.grown{b px:Nat}{w1 w2:World}{V:Nat→Value}(h:w1.grownBy w2 (some px)):Fr b px w1 V w2 V:=⟨h.os,h.tape,h.output,h.size,fun q hq hm=>h.block q hq (fun e=>hm (.inr (.inl (Option.some.inj e)))),fun _ _ h=>h⟩
theorem WrM.mineB{B:Nat}{w:World}{b px:Nat}{cv:Value}{code:List Int}{S:Wst}{k:Nat}{V:Nat→Value}(h:WrM B w b px cv code S k V){q:Nat}(hm:Mine b px V q):B≤q:=by
 rcases hm with e|e|e|e
 ·rw [e];exact h.blk.hB
 ·rw [e];exact h.blk.di.hB
 ·exact(h.lines.lt q e).1
 ·exact(h.counts.lt q e).1
theorem WrM.low{B:Nat}{w:World}{b px:Nat}{cv:Value}{code:List Int}{S:Wst}{k:Nat}{V:Nat→Value}(h:WrM B w b px cv code S k V){w':World}{V':Nat→Value}(f:Fr b px w V w' V'):Below B w w' :=
 ⟨f.os,f.tape,f.output,f.size,fun q hq=>f.keep q (by have:=h.base;omega) (fun hm=>by have:=h.mineB hm;omega)⟩
theorem WrM.said{B:Nat}{w w4:World}{b px:Nat}{cv:Value}{code:List Int}{S:Wst}{k:Nat}{V:Nat→Value}(h:WrM B w b px cv code S k V){gn cn:Nat}{l:Ln}(hg:w.grownBy w4 (V 1).ownBlock)(hnew:(V 1).ownBlock=some gn∨w.heap.size≤gn)(hown:w4.ownsRow B 9 1 (.slice (some ⟨gn,0,none⟩) (S.lines.length+1) cn) (S.lines.length+1) ((S.lines++[l]).map lnV)):
  WrM B (w4.setCell ⟨b,1,none⟩ (.slice (some ⟨gn,0,none⟩) (S.lines.length+1) cn)) b px cv code { S with lines:=S.lines++[l] } k (updV V 1 (.slice (some ⟨gn,0,none⟩) (S.lines.length+1) cn))∧Fr b px w V (w4.setCell ⟨b,1,none⟩ (.slice (some ⟨gn,0,none⟩) (S.lines.length+1) cn)) (updV V 1 (.slice (some ⟨gn,0,none⟩) (S.lines.length+1) cn))∧w4.cell? ⟨b,1,none⟩=some (V 1)∧w4.frozen? ⟨b,1,none⟩=false:=by
 have hB:=h.base
 have hb4:Below B w w4:=zfb hg (fun g e=>(h.lines.lt g e).1) hB
 have keep:∀ g,g<w.heap.size→¬(V 1).ownBlock=some g→w4.heap[g]?=w.heap[g]?:=fun g hl hne=>hg.block g hl (fun e=>hne e.symm)
 have eb:w4.heap[b]?=w.heap[b]?:=keep b h.blk.lt (fun e=>zcu h.lines h.blk.kb (by decide) b e rfl)
 have ex:w4.heap[px]?=w.heap[px]?:=keep px h.blk.di.lt (fun e=>zcu h.lines h.blk.di.kx (by decide) px e rfl)
 have B4:=h.blk.block hb4 eb ex
 have hc4:w4.ownsRow B 3 1 (V 11) S.counts.length (S.counts.map natV):=zaj h.counts fun g e=>keep g (h.counts.lt g e).2 (fun e1=>by
  rcases zcU h.counts h.lines (by decide) with q|q
  ·rw [q] at e;cases e
  ·exact q (e.trans e1.symm))
 obtain⟨xs,k1,k2⟩:=h.known
 have hk4:w4.ownsRow B 113 10 (V 23) S.nk xs:=zaj k1 fun g e=>keep g (k1.lt g e).2 (fun e1=>by
  rcases zcU k1 h.lines (by decide) with q|q
  ·rw [q] at e;cases e
  ·exact q (e.trans e1.symm))
 have set5:∀{e:TypeId} {size n:Nat} {v:Value} {ys:List Value},w4.ownsRow B e size v n ys→¬e=109→(w4.setCell ⟨b,1,none⟩ (.slice (some ⟨gn,0,none⟩) (S.lines.length+1) cn)).ownsRow B e size v n ys:=fun ho hne=>zaj ho fun g e=>Below.heap_setCell _ _ _ _ (zcu ho B4.kb hne g e)
 refine⟨⟨B4.put 1 (by omega) _,?_,?_,?_,fun i hi=>?_,?_,h.cnt8,fun i hi=>?_,?_,?_,?_,?_⟩,⟨hg.os,hg.tape,hg.output,by rw [World.size_setCell];exact hg.size,fun q hq hm=>?_,fun q hq hm=>?_⟩,B4.cell 1 (by omega),B4.fz 1⟩
 ·rw [zac _ _ (by decide)];exact h.v0
 ·rw [zbT]
  have:=set5 hown (by decide)
  simpa using this
 ·rw [zac _ _ (by decide)];exact h.v2
 ·rw [zac _ _ (by omega)];exact h.held i hi
 ·rw [zac _ _ (by decide)];exact set5 hc4 (by decide)
 ·rw [zac _ _ (by omega)];exact h.gives i hi
 ·rw [zac _ _ (by decide)];exact h.v20
 ·rw [zac _ _ (by decide)];exact h.v21
 ·rw [zac _ _ (by decide)];exact h.v22
 ·rw [zac _ _ (by decide)];exact⟨xs,set5 hk4 (by decide),k2⟩
 ·rw [Below.heap_setCell _ _ _ _ (fun e=>hm (.inl e))]
  exact keep q hq (fun e=>hm (.inr (.inr (.inl e))))
 ·rcases hm with e|e|e|e
  ·exact .inl e
  ·exact .inr (.inl e)
  ·rw [zbT] at e
   have e2:gn=q:=Option.some.inj e
   rcases hnew with e3|e3
   ·exact .inr (.inr (.inl (by rw [e3,e2])))
   ·omega
  ·rw [zac _ _ (by decide)] at e
   exact .inr (.inr (.inr e))
def zd4(B:Nat)(w:World)(b px:Nat)(cv:Value)(code:List Int)(V:Nat→Value)(S:Wst)(w':World):Prop:=∃ k' V',WrM B w' b px cv code S k' V'∧Fr b px w V w' V'
theorem zbE{B:Nat}{w:World}{b px:Nat}{cv:Value}{code:List Int}{S:Wst}{k:Nat}{V:Nat→Value}(h:WrM B w b px cv code S k V)(l:Ln)(X:ByteArray)(hl:ba l.bytes=ba [9]++X)(z:X.size≤1000)(hn:S.lines.length≤100000):
  Calls Tryz.prog 62 #[.pointer (some ⟨b,0,none⟩),.string X] w fun e w'=>e=.returned (.tuple #[])∧zd4 B w b px cv code V { S with lines:=S.lines++[l] } w':=by
 have c1:=h.blk.cell 1 (by omega)
 have hown:=h.lines
 have hB:=h.base
 have lb:=h.blk.lt
 have hlv:lnV l=.string (ba [9]++X):=by unfold lnV;rw [hl]
 obtain⟨i0,hi0,hz0,hz1,hz2⟩:=info_parts Tryz.info9
 have z3:¬9223372036854775807<1+X.size:=by omega
 obtain⟨ao,cap,hv1⟩:=zbb hown
 rw [hv1] at c1
 have hown2:=hown
 rw [hv1] at hown2
 go_enter Tryz.func62,Tryz.ntmps62
 go_wp2_with(first
  | (at_builtin;refine wpList_append_lies _ rfl _ _ 67 rfl B 9 i0 (.string ByteArray.empty) 1 16 Tryz.under67 hi0 hz0 hz1 hz2 rfl (by decide) _ _ _ rfl (hown2.alloc _) ⟨w.heap.size,0,none⟩ 1 1 [.string (ba [9]++X)] rfl rfl (cell_one_new _ _ _) (zdx _) (by decide) (by unfold maxLen;omega) (by omega) (by simp;omega) (w.heap.size+1) (by simp) ?_))
 intro gb c w4 hown4 hgrow hnew _
 have hg4:w.grownBy w4 (V 1).ownBlock:=by rw [hv1];exact(World.grownBy_alloc w _ _).trans hgrow
 have hown5:w4.ownsRow B 9 1 (.slice (some ⟨gb,0,none⟩) (S.lines.length+1) c) (S.lines.length+1) ((S.lines++[l]).map lnV):=by
  have:=hown4
  rw [List.map_append,List.map_singleton,hlv]
  exact this
 obtain⟨M,hbel,hco,hfo⟩:=h.said hg4 (by rw [hv1];rcases hnew with e|e;exact .inl e;exact .inr (by omega)) hown5
 rw [hv1] at hco
 clear c1
 go_wp2
 go_end0
 exact⟨rfl,k,_,M,hbel⟩
end
section
attribute [local go_sem ↓] Go.wp_at_zero Go.wp_at_succ
theorem zu9{B:Nat}{w:World}{b px:Nat}{cv:Value}{code:List Int}{S:Wst}{k:Nat}{V:Nat→Value}(h:WrM B w b px cv code S k V)(n:Nat):WrM B (w.setCell ⟨b,2,none⟩ (.int .i64 (n:Int))) b px cv code { S with labels:=n } k (updV V 2 (.int .i64 (n:Int))) :=
 h.put 2 (by omega) _ rfl rfl rfl (by omega) (by omega) (by omega) (by omega) (zbT _ _ _) (fun i hi=>by rw [zac _ _ (by omega)];exact h.held i hi) (fun i hi=>by rw [zac _ _ (by omega)];exact h.gives i hi)
  (by rw [zac _ _ (by decide)];exact h.v20) (by rw [zac _ _ (by decide)];exact h.v21) (by rw [zac _ _ (by decide)];exact h.v22)
theorem zp7{B:Nat}{w:World}{b px:Nat}{cv:Value}{code:List Int}{S:Wst}{k:Nat}{V:Nat→Value}(h:WrM B w b px cv code S k V)(n:Nat):WrM B (w.setCell ⟨b,20,none⟩ (.int .i64 (n:Int))) b px cv code { S with deep:=n } k (updV V 20 (.int .i64 (n:Int))) :=
 h.put 20 (by omega) _ rfl rfl rfl (by omega) (by omega) (by omega) (by omega) (by rw [zac _ _ (by decide)];exact h.v2) (fun i hi=>by rw [zac _ _ (by omega)];exact h.held i hi) (fun i hi=>by rw [zac _ _ (by omega)];exact h.gives i hi)
  (zbT _ _ _) (by rw [zac _ _ (by decide)];exact h.v21) (by rw [zac _ _ (by decide)];exact h.v22)
theorem zr8{B:Nat}{w:World}{b px:Nat}{cv:Value}{code:List Int}{S:Wst}{k:Nat}{V:Nat→Value}(h:WrM B w b px cv code S k V)(n:Nat)(hn:n≤S.nk+1):WrM B (w.setCell ⟨b,22,none⟩ (.int .i64 (n:Int))) b px cv code S k (updV V 22 (.int .i64 (n:Int))) :=
 h.put 22 (by omega) _ rfl rfl rfl (by omega) (by omega) (by omega) (by omega) (by rw [zac _ _ (by decide)];exact h.v2) (fun i hi=>by rw [zac _ _ (by omega)];exact h.held i hi) (fun i hi=>by rw [zac _ _ (by omega)];exact h.gives i hi)
  (by rw [zac _ _ (by decide)];exact h.v20) (by rw [zac _ _ (by decide)];exact h.v21) ⟨n,zbT _ _ _,hn⟩
def updH(f:Nat→Bool)(r:Nat)(v:Bool):Nat→Bool:=fun i=>if i=r then v else f i
theorem zhA{B:Nat}{w:World}{b px:Nat}{cv:Value}{code:List Int}{S:Wst}{k:Nat}{V:Nat→Value}(h:WrM B w b px cv code S k V)(r:Nat)(hr:r<8)(v:Bool):WrM B (w.setCell ⟨b,3+r,none⟩ (.bool v)) b px cv code { S with held:=updH S.held r v } k (updV V (3+r) (.bool v)) :=
 h.put (3+r) (by omega) _ rfl rfl rfl (by omega) (by omega) (by omega) (by omega) (by rw [zac _ _ (by omega)];exact h.v2)
  (fun i hi=>by
    show _=Value.bool (if i=r then v else S.held i)
    by_cases e:i=r
    ·rw [e,zbT,if_pos rfl]
    ·rw [zac _ _ (by omega),if_neg e];exact h.held i hi)
  (fun i hi=>by rw [zac _ _ (by omega)];exact h.gives i hi)
  (by rw [zac _ _ (by omega)];exact h.v20) (by rw [zac _ _ (by omega)];exact h.v21) (by rw [zac _ _ (by omega)];exact h.v22)
theorem zjc{B:Nat}{w:World}{b px:Nat}{cv:Value}{code:List Int}{S:Wst}{k:Nat}{V:Nat→Value}(h:WrM B w b px cv code S k V)(r:Nat)(hr:r<8)(v:Bool):WrM B (w.setCell ⟨b,12+r,none⟩ (.bool v)) b px cv code S k (updV V (12+r) (.bool v)) :=
 h.put (12+r) (by omega) _ rfl rfl rfl (by omega) (by omega) (by omega) (by omega) (by rw [zac _ _ (by omega)];exact h.v2)
  (fun i hi=>by rw [zac _ _ (by omega)];exact h.held i hi)
  (fun i hi=>by
    by_cases e:i=r
    ·rw [e,zbT];exact⟨v,rfl⟩
    ·rw [zac _ _ (by omega)];exact h.gives i hi)
  (by rw [zac _ _ (by omega)];exact h.v20) (by rw [zac _ _ (by omega)];exact h.v21) (by rw [zac _ _ (by omega)];exact h.v22)
theorem WrM.put_fr{B:Nat}{w:World}{b px:Nat}{cv:Value}{code:List Int}{S:Wst}{k:Nat}{V:Nat→Value}(_h:WrM B w b px cv code S k V)(n:Nat)(v:Value)(n1:¬n=1)(n11:¬n=11):Fr b px w V (w.setCell ⟨b,n,none⟩ v) (updV V n v) :=
 ⟨rfl,rfl,rfl,by rw [World.size_setCell];exact Nat.le_refl _,fun q _ hm=>Below.heap_setCell _ _ _ _ (fun e=>hm (.inl e)),fun q _ hm=>by
  unfold Mine at hm
  rw [zac _ _ (fun e=>n1 e.symm),zac _ _ (fun e=>n11 e.symm)] at hm
  exact hm⟩
theorem zkH{B:Nat}{w:World}{b px:Nat}{cv:Value}{code:List Int}{S:Wst}{k:Nat}{V:Nat→Value}(h:WrM B w b px cv code S k V)(hn:S.labels≤100000):
  Calls Tryz.prog 120 #[.pointer (some ⟨b,0,none⟩)] w fun e w'=>e=.returned (.string (ba (labW (S.labels+1))))∧zd4 B w b px cv code V { S with labels:=S.labels+1 } w':=by
 have c2:=h.blk.cell 2 (by omega)
 rw [h.v2] at c2
 have f2:=h.blk.fz 2
 have M:=zu9 h (S.labels+1)
 have hb1:=h.put_fr 2 (.int .i64 ((S.labels+1:Nat):Int)) (by decide) (by decide)
 have hd:=zdP ((S.labels:Int)+1) ⟨by omega,by omega⟩ (w.setCell ⟨b,2,none⟩ (.int .i64 ((S.labels:Int)+1)))
 have ed:digL ((S.labels:Int)+1)=decL (S.labels+1):=by unfold digL;rw [if_neg (by omega)];congr 1
 have el:ba (labW (S.labels+1))=ba [108]++ba (decL (S.labels+1)):=(zc8 [108] (decL (S.labels+1))).symm
 have z1:=zdO (S.labels+1) (by omega)
 rw [ed] at hd
 rw [el]
 rw [show((S.labels+1:Nat):Int)=(S.labels:Int)+1 by omega] at M hb1
 generalize ba (decL (S.labels+1))=Y at hd z1 ⊢
 have z3:¬9223372036854775807<1+Y.size:=by omega
 go_enter Tryz.func120,Tryz.ntmps120
 go_wp2_with(go_at_call 36;(with_reducible refine hd.mono ?_);rintro e w2 ⟨rfl,hb2⟩)
 go_ret
 exact⟨rfl,k,_,M.below hb2 M.base,hb1.trans (.low hb2)⟩
theorem zyK{B:Nat}{w:World}{b px:Nat}{cv:Value}{code:List Int}{S:Wst}{k:Nat}{V:Nat→Value}(h:WrM B w b px cv code S k V)(c:Nat)(hc:(c:Int)<8)(rf:Nat)(hrf:rf<8)(hf:S.held rf=false):
  Calls Tryz.prog 143 #[.pointer (some ⟨b,0,none⟩),.int .i64 (c:Int)] w fun e w'=>∃ r:Nat,e=.returned (.int .i64 (r:Int))∧r<8∧S.held r=false∧w'=w:=by
 have hp:=fun W=>zh9 (c:Int) 8 W (by omega) ⟨by omega,by omega⟩
 have ep:zgk (c:Int) 8=(c:Int):=by unfold zgk;rw [if_neg (by omega)];omega
 rw [ep] at hp
 have hcell:∀ r,r<8→w.cell? ⟨b,3+r,none⟩=some (.bool (S.held r)):=fun r hr=>by rw [←h.held r hr];exact h.blk.cell (3+r) (by omega)
 go_enter Tryz.func143,Tryz.ntmps143
 go_wp2_with(go_at_call 37;(with_reducible refine(hp _).mono ?_);rintro e wx ⟨rfl,hwx⟩;subst hwx)
 go_loopw [5] (fun t wr=>∃ r:Nat,r<8∧t=.int .i64 (r:Int)∧wr=wx) (fun t _=>(rf+8-(intOf t).toNat)%8)
 case atStart=>exact⟨c,by omega,rfl,rfl⟩
 case round =>
  obtain⟨r,hr,rfl,hwr⟩:=hrel
  subst hwr
  have cr:=hcell r hr
  have hr0:(0:Int)≤(r:Int):=by omega
  have hr8:(r:Int)<8:=by omega
  cases hh:S.held r with
  | false =>
   rw [hh] at cr
   clear hcell
   go_wp2
   go_ret
   exact⟨r,rfl,hr,hh,rfl⟩
  | true =>
   rw [hh] at cr
   have hne:¬r=rf:=fun e=>by rw [e,hf] at hh;cases hh
   have e3:((r:Int)+1)%8=((r+1)%8:Nat):=by omega
   clear hcell
   go_wp2
   go_roundw
   case rel=>exact⟨(r+1)%8,by omega,by rw [e3],trivial⟩
   case measure=>simp [intOf];omega
theorem zax{B:Nat}{w:World}{b px:Nat}{cv:Value}{code:List Int}{S:Wst}{k:Nat}{V:Nat→Value}(h:WrM B w b px cv code S k V)(n:Int)(hn:0<n):
  Calls Tryz.prog 41 #[.pointer (some ⟨px,0,none⟩),.int .i64 n] w fun e w'=>∃ c:Nat,e=.returned (.int .i64 (c:Int))∧(c:Int)<n∧zd4 B w b px cv code V S w':=by
 refine(zeF h.blk.di n hn).mono ?_
 rintro e w' ⟨c,he,hc,k2,hd,hg⟩
 exact⟨c,he,hc,k2,V,h.threw hd hg,.grown hg⟩
theorem zyL{B:Nat}{w:World}{b px:Nat}{cv:Value}{code:List Int}{S:Wst}{k:Nat}{V:Nat→Value}(h:WrM B w b px cv code S k V):
  Calls Tryz.prog 121 #[.pointer (some ⟨px,0,none⟩)] w fun e w'=>∃ z:Int,e=.returned (.int .i64 z)∧i64 z∧zd4 B w b px cv code V S w':=by
 refine(zx1 h.blk.di).mono ?_
 rintro e w' ⟨c,he,hc,k2,hd,hg⟩
 exact⟨c,he,hc,k2,V,h.threw hd hg,.grown hg⟩
theorem zcf{B:Nat}{w:World}{b px:Nat}{cv:Value}{code:List Int}{S:Wst}{k:Nat}{V:Nat→Value}(h:WrM B w b px cv code S k V)(rf:Nat)(hrf:rf<8)(hf:S.held rf=false):
  Calls Tryz.prog 118 #[.pointer (some ⟨b,0,none⟩)] w fun e w'=>∃ r:Nat,e=.returned (.int .i64 (r:Int))∧r<8∧S.held r=false∧zd4 B w b px cv code V S w':=by
 have c0:=h.blk.cell 0 (by omega)
 rw [h.v0] at c0
 have hn:=zax h 8 (by omega)
 go_enter Tryz.func118,Tryz.ntmps118
 go_wp2_with(first
  | (go_at_call 41;(with_reducible refine hn.mono ?_);rintro e w1 ⟨c,rfl,hc,k1,V1,M1,hb1⟩;have hfr:=zyK M1 c hc rf hrf hf)
  | (go_at_call 143;(with_reducible refine hfr.mono ?_);rintro e w2 ⟨r,rfl,hr,hh,hw2⟩;refine Hid.out ?_))
 unfold Hid
 subst hw2
 obtain⟨g,hg⟩:=M1.gives r hr
 have cr:=M1.blk.cell (12+r) (by omega)
 rw [hg] at cr
 have fr:=M1.blk.fz (12+r)
 have hr0:(0:Int)≤(r:Int):=by omega
 have hr8:(r:Int)<8:=by omega
 have M2:=zjc M1 r hr true
 have hb2:=M1.put_fr (12+r) (.bool true) (by omega) (by omega)
 clear hn hfr c0
 go_wp2
 go_ret
 exact⟨r,rfl,hr,hh,k1,_,M2,hb1.trans hb2⟩
end
end Go.Proofs.YtfpgjkbjbbgciaaGreatDoor
