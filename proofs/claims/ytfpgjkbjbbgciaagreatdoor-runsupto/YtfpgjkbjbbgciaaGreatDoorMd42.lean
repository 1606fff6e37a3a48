import Derived.Test.YtfpgjkbjbbgciaaGreatDoorMd41
set_option maxRecDepth 100000
set_option maxHeartbeats 8000000
namespace Go.Proofs.YtfpgjkbjbbgciaaGreatDoor
open Go.RowKit Sp
structure SC(w:World)(S:Nat)(cv v mv:Value)(R:Rs)(looks:Nat)(bs bf:Int):Prop where
 c0:w.cell? ⟨S,0,none⟩=some cv
 c1:w.cell? ⟨S,1,none⟩=some v
 rs:RsC w S 2 mv R
 c6:w.cell? ⟨S,6,none⟩=some (.int .i64 (looks:Int))
 c7:w.cell? ⟨S,7,none⟩=some (.int .i64 bs)
 c8:w.cell? ⟨S,8,none⟩=some (.int .i64 bf)
 fz:∀ j,w.frozen? ⟨S,j,none⟩=false
theorem SC.lt{w:World}{S:Nat}{cv v mv:Value}{R:Rs}{looks:Nat}{bs bf:Int}(h:SC w S cv v mv R looks bs bf):S<w.heap.size:=World.block_lt_of_cell? w _ h.c0
theorem SC.block{w w':World}{S:Nat}{cv v mv:Value}{R:Rs}{looks:Nat}{bs bf:Int}(h:SC w S cv v mv R looks bs bf)(e:w'.heap[S]?=w.heap[S]?):SC w' S cv v mv R looks bs bf:=by
 have c:∀ j,w'.cell? ⟨S,j,none⟩=w.cell? ⟨S,j,none⟩:=fun j=>World.cell?_of_block (w:=w) (a:=⟨S,j,none⟩) e
 exact⟨(c _).trans h.c0,(c _).trans h.c1,⟨(c _).trans h.rs.cM,(c _).trans h.rs.cS,(c _).trans h.rs.cN,(c _).trans h.rs.cC⟩,(c _).trans h.c6,(c _).trans h.c7,(c _).trans h.c8,fun j=>(World.frozen?_of_block (w:=w) (a:=⟨S,j,none⟩) e).trans (h.fz j)⟩
theorem SC.one{w w':World}{S o:Nat}{cv v mv:Value}{R:Rs}{looks:Nat}{bs bf:Int}(h:SC w S cv v mv R looks bs bf)(c:∀ j,¬j=o→w'.cell? ⟨S,j,none⟩=w.cell? ⟨S,j,none⟩)(fz:∀ j,w'.frozen? ⟨S,j,none⟩=w.frozen? ⟨S,j,none⟩){x:Value}(hx:w'.cell? ⟨S,o,none⟩=some x):
  (o=1→SC w' S cv x mv R looks bs bf)∧(∀ n:Nat,o=6→x=.int .i64 (n:Int)→SC w' S cv v mv R n bs bf)∧(∀ n:Int,o=7→x=.int .i64 n→SC w' S cv v mv R looks n bf)∧(∀ n:Int,o=8→x=.int .i64 n→SC w' S cv v mv R looks bs n):=by
 have f:∀ j,w'.frozen? ⟨S,j,none⟩=false:=fun j=>(fz j).trans (h.fz j)
 refine⟨fun e=>?_,fun n e ex=>?_,fun n e ex=>?_,fun n e ex=>?_⟩
 ·subst e
  exact⟨(c _ (by omega)).trans h.c0,hx,⟨(c _ (by omega)).trans h.rs.cM,(c _ (by omega)).trans h.rs.cS,(c _ (by omega)).trans h.rs.cN,(c _ (by omega)).trans h.rs.cC⟩,(c _ (by omega)).trans h.c6,(c _ (by omega)).trans h.c7,(c _ (by omega)).trans h.c8,f⟩
 ·subst e;subst ex
  exact⟨(c _ (by omega)).trans h.c0,(c _ (by omega)).trans h.c1,⟨(c _ (by omega)).trans h.rs.cM,(c _ (by omega)).trans h.rs.cS,(c _ (by omega)).trans h.rs.cN,(c _ (by omega)).trans h.rs.cC⟩,hx,(c _ (by omega)).trans h.c7,(c _ (by omega)).trans h.c8,f⟩
 ·subst e;subst ex
  exact⟨(c _ (by omega)).trans h.c0,(c _ (by omega)).trans h.c1,⟨(c _ (by omega)).trans h.rs.cM,(c _ (by omega)).trans h.rs.cS,(c _ (by omega)).trans h.rs.cN,(c _ (by omega)).trans h.rs.cC⟩,(c _ (by omega)).trans h.c6,hx,(c _ (by omega)).trans h.c8,f⟩
 ·subst e;subst ex
  exact⟨(c _ (by omega)).trans h.c0,(c _ (by omega)).trans h.c1,⟨(c _ (by omega)).trans h.rs.cM,(c _ (by omega)).trans h.rs.cS,(c _ (by omega)).trans h.rs.cN,(c _ (by omega)).trans h.rs.cC⟩,(c _ (by omega)).trans h.c6,(c _ (by omega)).trans h.c7,hx,f⟩
def Free(S:Nat)(v mv:Value)(q:Nat):Prop:=¬q=S∧v.ownBlock≠some q∧mv.ownBlock≠some q
structure SO(w:World)(B S g:Nat)(C:List (Ins × Int))(v mv:Value)(xs hs:List Wy)(ms:List Mk):Prop where
 code:CodeIn w g C
 gB:g<B
 SB:B≤S
 SL:S<w.heap.size
 hp:HeapM w B v xs
 ord:HpAll (stp xs) xs.length
 hand:∀ h∈hs,WyM w h
 mkr:w.ownsRow B 217 51 mv ms.length (zbs ms)
 mbh:∀ m∈ms,BhM w m.ao m.cap m.k.behind
 vS:v.ownBlock≠some S
 mS:mv.ownBlock≠some S
 vm:∀ q,v.ownBlock=some q→mv.ownBlock≠some q
 nod:((hs++xs).map Wy.b).Nodup
 far:∀ x∈hs++xs,B≤x.b∧Free S v mv x.b∧∀ a,x.ao=some a→Free S v mv a.block∧∀ y∈hs++xs,¬a.block=y.b
 mfar:∀ m∈ms,∀ a,m.ao=some a→Free S v mv a.block∧∀ y∈hs++xs,¬a.block=y.b
theorem WyM.keep{w w':World}{x:Wy}(h:WyM w x)(hs:w.heap.size≤w'.heap.size)(h1:w'.heap[x.b]?=w.heap[x.b]?)(h2:∀ a,x.ao=some a→w'.heap[a.block]?=w.heap[a.block]?):WyM w' x :=
 ⟨h.key,h.kn.block h1,h.bh.kept hs fun _g e=>h2 _ e⟩
theorem zdP{w w':World}{g:Nat}{C:List (Ins × Int)}(h:CodeIn w g C)(e:w'.heap[g]?=w.heap[g]?):CodeIn w' g C :=
 fun j hj=>⟨(World.cell?_of_block (w:=w) (a:=⟨g,j*2,none⟩) e).trans (h j hj).1,(World.cell?_of_block (w:=w) (a:=⟨g,j*2+1,none⟩) e).trans (h j hj).2⟩
theorem WyM.aolt{w:World}{x:Wy}(h:WyM w x){a:Addr}(ha:x.ao=some a):a.block<w.heap.size:=by
 obtain⟨g,rfl⟩:=h.bh.at0 a ha
 exact(h.bh.cell g ha).1
theorem zx3{w:World}{ao:Option Addr}{cap:Nat}{l:List Int}(h:BhM w ao cap l){a:Addr}(ha:ao=some a):a.block<w.heap.size:=by
 obtain⟨g,rfl⟩:=h.at0 a ha
 exact(h.cell g ha).1
section
variable {w w':World} {B S g:Nat} {C:List (Ins × Int)} {v mv:Value} {xs hs:List Wy} {ms:List Mk}
theorem SO.wy(h:SO w B S g C v mv xs hs ms):∀ x∈hs++xs,WyM w x:=fun x hx=>by
 rcases List.mem_append.1 hx with e|e
 ·exact h.hand x e
 ·exact h.hp.wy x e
theorem SO.stay(h:SO w B S g C v mv xs hs ms)(hsz:w.heap.size≤w'.heap.size)(hb:∀ q,q<w.heap.size→¬q=S→w'.heap[q]?=w.heap[q]?):SO w' B S g C v mv xs hs ms:=by
 have hwy:∀ x∈hs++xs,WyM w' x:=fun x hx=>by
  have k:=h.wy x hx
  obtain⟨_,f1,f2⟩:=h.far x hx
  exact k.keep hsz (hb _ k.kn.lt f1.1) (fun a ha=>hb _ (k.aolt ha) (f2 a ha).1.1)
 have hv:∀ q,v.ownBlock=some q→w'.heap[q]?=w.heap[q]?:=fun q hq=>hb q (h.hp.row.lt q hq).2 (fun e=>h.vS (by rw [hq,e]))
 have hm:∀ q,mv.ownBlock=some q→w'.heap[q]?=w.heap[q]?:=fun q hq=>hb q (h.mkr.lt q hq).2 (fun e=>h.mS (by rw [hq,e]))
 have hgS:¬g=S:=by have:=h.gB;have:=h.SB;omega
 exact⟨zdP h.code (hb g (by have:=h.gB;have:=h.SB;have:=h.SL;omega) hgS),h.gB,h.SB,Nat.lt_of_lt_of_le h.SL hsz,⟨zcr h.hp.row hv,fun x hx=>hwy x (List.mem_append_right _ hx),h.hp.far⟩,h.ord,fun x hx=>hwy x (List.mem_append_left _ hx),zcr h.mkr hm,fun m hm2=>(h.mbh m hm2).kept hsz (fun q e=>hb q ((h.mbh m hm2).cell q e).1 (h.mfar m hm2 _ e).1.1),h.vS,h.mS,h.vm,h.nod,h.far,h.mfar⟩
theorem SO.below(h:SO w B S g C v mv xs hs ms)(hb:Below w.heap.size w w'):SO w' B S g C v mv xs hs ms:=h.stay hb.size fun q hq _=>hb.block q hq
theorem SO.drop{y:Wy}(h:SO w B S g C v mv xs (y :: hs) ms):SO w B S g C v mv xs hs ms :=
 ⟨h.code,h.gB,h.SB,h.SL,h.hp,h.ord,fun x hx=>h.hand x (List.mem_cons_of_mem _ hx),h.mkr,h.mbh,h.vS,h.mS,h.vm,(List.nodup_cons.1 h.nod).2,fun x hx=>by
  obtain⟨a1,a2,a3⟩:=h.far x (List.mem_cons_of_mem _ hx)
  exact⟨a1,a2,fun a ha=>⟨(a3 a ha).1,fun z hz=>(a3 a ha).2 z (List.mem_cons_of_mem _ hz)⟩⟩,fun m hm a ha=>⟨(h.mfar m hm a ha).1,fun z hz=>(h.mfar m hm a ha).2 z (List.mem_cons_of_mem _ hz)⟩⟩
theorem SO.turn{x:Wy}{rs:List Wy}(h:SO w B S g C v mv xs (x :: hs) ms)(hg:w.grownBy w' (some x.b))(hr:∀ y∈rs,WyM w' y)(hb:∀ y∈rs,y.b=x.b∨w.heap.size≤y.b)(hn:(rs.map Wy.b).Nodup)
  (ha:∀ y∈rs,∀ a,y.ao=some a→(x.ao=some a∨w.heap.size≤a.block)∧∀ z∈rs,¬a.block=z.b):SO w' B S g C v mv xs (rs++hs) ms:=by
 have hlt:=(h.hand x List.mem_cons_self).kn.lt
 obtain⟨x1,x2,x3⟩:=h.far x List.mem_cons_self
 have hnod:=List.nodup_cons.1 h.nod
 have hx:∀ y∈hs++xs,¬y.b=x.b:=fun y hy e=>hnod.1 (by rw [←e];exact List.mem_map_of_mem hy)
 have hin:∀ y∈hs++xs,y∈x :: hs++xs:=fun y hy=>List.mem_cons_of_mem _ hy
 have hblk:∀ q,q<w.heap.size→¬q=x.b→w'.heap[q]?=w.heap[q]?:=fun q hq hne=>hg.block q hq (fun e=>hne (by cases e;rfl))
 have hwy:∀ y∈hs++xs,WyM w' y:=fun y hy=>by
  have k:=h.wy y (hin y hy)
  obtain⟨_,f1,f2⟩:=h.far y (hin y hy)
  exact k.keep hg.size (hblk _ k.kn.lt (hx y hy)) (fun a ha=>hblk _ (k.aolt ha) ((f2 a ha).2 x List.mem_cons_self))
 have hv:∀ q,v.ownBlock=some q→w'.heap[q]?=w.heap[q]?:=fun q hq=>hblk q (h.hp.row.lt q hq).2 (fun e=>x2.2.1 (by rw [hq,e]))
 have hm:∀ q,mv.ownBlock=some q→w'.heap[q]?=w.heap[q]?:=fun q hq=>hblk q (h.mkr.lt q hq).2 (fun e=>x2.2.2 (by rw [hq,e]))
 have free:∀ q,w.heap.size≤q→Free S v mv q:=fun q hq=>⟨by have:=h.SL;omega,fun e=>by have:=(h.hp.row.lt q e).2;omega,fun e=>by have:=(h.mkr.lt q e).2;omega⟩
 have hrb:∀ y∈rs,B≤y.b∧Free S v mv y.b:=fun y hy=>by
  rcases hb y hy with e|e
  ·rw [e];exact⟨x1,x2⟩
  ·exact⟨by have:=h.SB;have:=h.SL;omega,free _ e⟩
 have mem:∀ z,z∈rs++hs++xs→z∈rs∨z∈hs++xs:=fun z hz=>by
  rw [List.append_assoc] at hz;exact List.mem_append.1 hz
 have gne:¬g=x.b:=by have:=h.gB;omega
 refine⟨zdP h.code (hblk g (by have:=h.gB;have:=h.SB;have:=h.SL;omega) gne),h.gB,h.SB,Nat.lt_of_lt_of_le h.SL hg.size,⟨zcr h.hp.row hv,fun y hy=>hwy y (List.mem_append_right _ hy),h.hp.far⟩,h.ord,fun y hy=>?_,zcr h.mkr hm,fun m hm2=>(h.mbh m hm2).kept hg.size (fun q e=>hblk q ((h.mbh m hm2).cell q e).1 ((h.mfar m hm2 _ e).2 x List.mem_cons_self)),h.vS,h.mS,h.vm,?_,fun y hy=>?_,fun m hm2 a ha2=>⟨(h.mfar m hm2 a ha2).1,fun z hz=>?_⟩⟩
 ·rcases List.mem_append.1 hy with e|e
  ·exact hr y e
  ·exact hwy y (List.mem_append_left _ e)
 ·rw [List.append_assoc,List.map_append]
  refine List.nodup_append.2 ⟨hn,hnod.2,fun p hp q hq e=>?_⟩
  subst e
  obtain⟨y,hy,rfl⟩:=List.mem_map.1 hp
  obtain⟨z,hz,e⟩:=List.mem_map.1 hq
  rcases hb y hy with e2|e2
  ·exact hx z hz (e.trans e2)
  ·have:=(h.wy z (hin z hz)).kn.lt;omega
 ·rcases mem y hy with e|e
  ·obtain⟨b1,b2⟩:=hrb y e
   refine⟨b1,b2,fun a ha2=>?_⟩
   obtain⟨c1,c2⟩:=ha y e a ha2
   have hfr:Free S v mv a.block∧∀ z∈hs++xs,¬a.block=z.b:=by
    rcases c1 with c|c
    ·exact⟨(x3 a c).1,fun z hz=>(x3 a c).2 z (hin z hz)⟩
    ·exact⟨free _ c,fun z hz e3=>by have:=(h.wy z (hin z hz)).kn.lt;omega⟩
   refine⟨hfr.1,fun z hz=>?_⟩
   rcases mem z hz with e3|e3
   ·exact c2 z e3
   ·exact hfr.2 z e3
  ·obtain⟨b1,b2,b3⟩:=h.far y (hin y e)
   refine⟨b1,b2,fun a ha2=>⟨(b3 a ha2).1,fun z hz=>?_⟩⟩
   rcases mem z hz with e3|e3
   ·rcases hb z e3 with e4|e4
    ·rw [e4];exact(b3 a ha2).2 x List.mem_cons_self
    ·have:=(h.wy y (hin y e)).aolt ha2;omega
   ·exact(b3 a ha2).2 z (hin z e3)
 ·rcases mem z hz with e3|e3
  ·rcases hb z e3 with e4|e4
   ·rw [e4];exact(h.mfar m hm2 a ha2).2 x List.mem_cons_self
   ·have:=zx3 (h.mbh m hm2) ha2;omega
  ·exact(h.mfar m hm2 a ha2).2 z (hin z e3)
end
end Go.Proofs.YtfpgjkbjbbgciaaGreatDoor
namespace Go.Proofs.YtfpgjkbjbbgciaaGreatDoor
open Go.RowKit Sp
section
variable {w w':World} {B S g:Nat} {C:List (Ins × Int)} {v mv:Value} {xs hs:List Wy} {ms:List Mk}
theorem SO.took{H cap:Nat}{ys:List Wy}{x:Wy}(h:SO w B S g C (.slice (some ⟨H,0,none⟩) xs.length cap) mv xs hs ms)(hk:Kept2 w w' S 1 (some H))(hp:(x :: ys).Perm xs)(hM:HeapM w' B (.slice (some ⟨H,0,none⟩) ys.length cap) ys)(hA:HpAll (stp ys) ys.length)(hx:WyM w' x):
  SO w' B S g C (.slice (some ⟨H,0,none⟩) ys.length cap) mv ys (x :: hs) ms:=by
 have hpp:(x :: hs++ys).Perm (hs++xs):=(List.perm_middle (l₁:=hs) (a:=x) (l₂:=ys)).symm.trans (List.Perm.append_left hs hp)
 have mem:∀ z,z∈x :: hs++ys→z∈hs++xs:=fun z hz=>hpp.mem_iff.1 hz
 have hblk:∀ q,q<w.heap.size→¬q=S→¬q=H→w'.heap[q]?=w.heap[q]?:=fun q hq h1 h2=>hk.block q hq h1 (fun e=>h2 (by cases e;rfl))
 have hwy:∀ z∈hs,WyM w' z:=fun z hz=>by
  have k:=h.hand z hz
  obtain⟨_,f1,f2⟩:=h.far z (List.mem_append_left _ hz)
  exact k.keep hk.size (hblk _ k.kn.lt f1.1 (fun e=>f1.2.1 (by rw [e];rfl))) (fun a ha=>hblk _ (k.aolt ha) (f2 a ha).1.1 (fun e=>(f2 a ha).1.2.1 (by rw [e];rfl)))
 have hm:∀ q,mv.ownBlock=some q→w'.heap[q]?=w.heap[q]?:=fun q hq=>hblk q (h.mkr.lt q hq).2 (fun e=>h.mS (by rw [hq,e])) (fun e=>h.vm H rfl (by rw [hq,e]))
 have gS:¬g=S:=by have:=h.gB;have:=h.SB;omega
 have gH:¬g=H:=by have:=h.gB;have:=(h.hp.row.lt H rfl).1;omega
 refine⟨zdP h.code (hblk g (by have:=h.gB;have:=h.SB;have:=h.SL;omega) gS gH),h.gB,h.SB,Nat.lt_of_lt_of_le h.SL hk.size,hM,hA,fun z hz=>?_,zcr h.mkr hm,fun m hm2=>(h.mbh m hm2).kept hk.size (fun q e=>hblk q ((h.mbh m hm2).cell q e).1 (h.mfar m hm2 _ e).1.1 (fun e2=>(h.mfar m hm2 _ e).1.2.1 (by rw [←e2];rfl))),h.vS,h.mS,h.vm,(hpp.map Wy.b).nodup_iff.2 h.nod,fun z hz=>?_,fun m hm2 a ha=>⟨(h.mfar m hm2 a ha).1,fun z hz=>(h.mfar m hm2 a ha).2 z (mem z hz)⟩⟩
 ·rcases List.mem_cons.1 hz with e|e
  ·rw [e];exact hx
  ·exact hwy z e
 ·obtain⟨a1,a2,a3⟩:=h.far z (mem z hz)
  exact⟨a1,a2,fun a ha=>⟨(a3 a ha).1,fun y hy=>(a3 a ha).2 y (mem y hy)⟩⟩
theorem SO.added{H cap:Nat}{ys:List Wy}{x:Wy}(h:SO w B S g C v mv xs (x :: hs) ms)(hk:Kept2 w w' S 1 v.ownBlock)(hp:ys.Perm (xs++[x]))(hM:HeapM w' B (.slice (some ⟨H,0,none⟩) ys.length cap) ys)(hA:HpAll (stp ys) ys.length)(hH:v.ownBlock=some H∨w.heap.size≤H):
  SO w' B S g C (.slice (some ⟨H,0,none⟩) ys.length cap) mv ys hs ms:=by
 have hpp:(hs++ys).Perm (x :: hs++xs):=(List.Perm.append_left hs (hp.trans List.perm_append_comm)).trans (List.perm_middle (l₁:=hs) (a:=x) (l₂:=xs))
 have mem:∀ z,z∈hs++ys→z∈x :: hs++xs:=fun z hz=>hpp.mem_iff.1 hz
 have hblk:∀ q,q<w.heap.size→¬q=S→v.ownBlock≠some q→w'.heap[q]?=w.heap[q]?:=fun q hq h1 h2=>hk.block q hq h1 (fun e=>h2 e.symm)
 have hwy:∀ z∈hs,WyM w' z:=fun z hz=>by
  have k:=h.hand z (List.mem_cons_of_mem _ hz)
  obtain⟨_,f1,f2⟩:=h.far z (List.mem_append_left _ (List.mem_cons_of_mem _ hz))
  exact k.keep hk.size (hblk _ k.kn.lt f1.1 f1.2.1) (fun a ha=>hblk _ (k.aolt ha) (f2 a ha).1.1 (f2 a ha).1.2.1)
 have hm:∀ q,mv.ownBlock=some q→w'.heap[q]?=w.heap[q]?:=fun q hq=>hblk q (h.mkr.lt q hq).2 (fun e=>h.mS (by rw [hq,e])) (fun e=>h.vm q e hq)
 have gS:¬g=S:=by have:=h.gB;have:=h.SB;omega
 have gv:v.ownBlock≠some g:=fun e=>by have:=h.gB;have:=(h.hp.row.lt g e).1;omega
 have free:∀ q,q<w.heap.size→Free S v mv q→Free S (.slice (some ⟨H,0,none⟩) ys.length cap) mv q:=fun q hq f=>by
  refine⟨f.1,fun e=>?_,f.2.2⟩
  have e2:H=q:=by have:some H=some q:=e;simpa using this
  rcases hH with e3|e3
  ·exact f.2.1 (by rw [e3,e2])
  ·omega
 refine⟨zdP h.code (hblk g (by have:=h.gB;have:=h.SB;have:=h.SL;omega) gS gv),h.gB,h.SB,Nat.lt_of_lt_of_le h.SL hk.size,hM,hA,hwy,zcr h.mkr hm,fun m hm2=>(h.mbh m hm2).kept hk.size (fun q e=>hblk q ((h.mbh m hm2).cell q e).1 (h.mfar m hm2 _ e).1.1 (h.mfar m hm2 _ e).1.2.1),fun e=>?_,h.mS,fun q e e2=>?_,(hpp.map Wy.b).nodup_iff.2 h.nod,fun z hz=>?_,fun m hm2 a ha=>⟨free _ (zx3 (h.mbh m hm2) ha) (h.mfar m hm2 a ha).1,fun z hz=>(h.mfar m hm2 a ha).2 z (mem z hz)⟩⟩
 ·have e2:H=S:=by have:some H=some S:=e;simpa using this
  rcases hH with e3|e3
  ·exact h.vS (by rw [e3,e2])
  ·have:=h.SL;omega
 ·have e3:H=q:=by have:some H=some q:=e;simpa using this
  rcases hH with e4|e4
  ·exact h.vm H e4 (by rw [e2,e3])
  ·have:=(h.mkr.lt q e2).2;omega
 ·have hz2:=mem z hz
  obtain⟨a1,a2,a3⟩:=h.far z hz2
  have kz:=h.wy z hz2
  exact⟨a1,free _ kz.kn.lt a2,fun a ha=>⟨free _ (kz.aolt ha) (a3 a ha).1,fun y hy=>(a3 a ha).2 y (mem y hy)⟩⟩
theorem SO.remark{mv':Value}{ms':List Mk}(h:SO w B S g C v mv xs hs ms)(hk:Kept4 w w' S 2 mv.ownBlock)(hM:w'.ownsRow B 217 51 mv' ms'.length (zbs ms'))(hM':∀ q,mv'.ownBlock=some q→mv.ownBlock=some q∨w.heap.size≤q)
  (hms:∀ m∈ms',m∈ms∨∃ x∈hs++xs,m.ao=x.ao∧m.cap=x.cap∧m.k=x.k):SO w' B S g C v mv' xs hs ms':=by
 have hblk:∀ q,q<w.heap.size→¬q=S→mv.ownBlock≠some q→w'.heap[q]?=w.heap[q]?:=fun q hq h1 h2=>hk.block q hq h1 (fun e=>h2 e.symm)
 have hwy:∀ z∈hs++xs,WyM w' z:=fun z hz=>by
  have k:=h.wy z hz
  obtain⟨_,f1,f2⟩:=h.far z hz
  exact k.keep hk.size (hblk _ k.kn.lt f1.1 f1.2.2) (fun a ha=>hblk _ (k.aolt ha) (f2 a ha).1.1 (f2 a ha).1.2.2)
 have hv:∀ q,v.ownBlock=some q→w'.heap[q]?=w.heap[q]?:=fun q hq=>hblk q (h.hp.row.lt q hq).2 (fun e=>h.vS (by rw [hq,e])) (h.vm q hq)
 have gS:¬g=S:=by have:=h.gB;have:=h.SB;omega
 have gv:mv.ownBlock≠some g:=fun e=>by have:=h.gB;have:=(h.mkr.lt g e).1;omega
 have free:∀ q,q<w.heap.size→Free S v mv q→Free S v mv' q:=fun q hq f=>by
  refine⟨f.1,f.2.1,fun e=>?_⟩
  rcases hM' q e with e3|e3
  ·exact f.2.2 e3
  ·omega
 refine⟨zdP h.code (hblk g (by have:=h.gB;have:=h.SB;have:=h.SL;omega) gS gv),h.gB,h.SB,Nat.lt_of_lt_of_le h.SL hk.size,⟨zcr h.hp.row hv,fun x hx=>hwy x (List.mem_append_right _ hx),h.hp.far⟩,h.ord,fun z hz=>hwy z (List.mem_append_left _ hz),hM,fun m hm2=>?_,h.vS,fun e=>?_,fun q e e2=>?_,h.nod,fun z hz=>?_,fun m hm2 a ha=>?_⟩
 ·rcases hms m hm2 with e|⟨x,hx,e1,e2,e3⟩
  ·exact(h.mbh m e).kept hk.size (fun q e2=>hblk q ((h.mbh m e).cell q e2).1 (h.mfar m e _ e2).1.1 (h.mfar m e _ e2).1.2.2)
  ·rw [e1,e2,e3];exact(hwy x hx).bh
 ·rcases hM' S e with e3|e3
  ·exact h.mS e3
  ·have:=h.SL;omega
 ·rcases hM' q e2 with e3|e3
  ·exact h.vm q e e3
  ·have:=(h.hp.row.lt q e).2;omega
 ·obtain⟨a1,a2,a3⟩:=h.far z hz
  have kz:=h.wy z hz
  exact⟨a1,free _ kz.kn.lt a2,fun a ha=>⟨free _ (kz.aolt ha) (a3 a ha).1,(a3 a ha).2⟩⟩
 ·rcases hms m hm2 with e|⟨x,hx,e1,e2,e3⟩
  ·exact⟨free _ (zx3 (h.mbh m e) ha) (h.mfar m e a ha).1,(h.mfar m e a ha).2⟩
  ·rw [e1] at ha
   obtain⟨_,_,f2⟩:=h.far x hx
   exact⟨free _ ((h.wy x hx).aolt ha) (f2 a ha).1,(f2 a ha).2⟩
theorem zip{o:Nat}{hb:Option Nat}(hk:Kept2 w w' S o hb)(hS:B≤S)(hBw:B≤w.heap.size)(hh:∀ q,hb=some q→B≤q):Below B w w' :=
 ⟨hk.os,hk.tape,hk.output,hk.size,fun q hq=>hk.block q (by omega) (by omega) (fun e=>by have:=hh q e.symm;omega)⟩
theorem znz{o:Nat}{hb:Option Nat}(hk:Kept4 w w' S o hb)(hS:B≤S)(hBw:B≤w.heap.size)(hh:∀ q,hb=some q→B≤q):Below B w w' :=
 ⟨hk.os,hk.tape,hk.output,hk.size,fun q hq=>hk.block q (by omega) (by omega) (fun e=>by have:=hh q e.symm;omega)⟩
end
end Go.Proofs.YtfpgjkbjbbgciaaGreatDoor
namespace Go.Proofs.YtfpgjkbjbbgciaaGreatDoor
open Go.RowKit Sp
theorem zt3{w:World}{S o cap n b:Nat}{ao:Option Addr}{R:Rs}{bv:Value}{k:Kn}(h:RsC w S o (.slice ao n cap) R)(X:KnM w b bv k)(e:k.steps=R.steps)(P:World→Prop)(hs:∀ W,Below w.heap.size w W→Calls Tryz.prog 152 #[.pointer (some ⟨S,o,none⟩),.pointer (some ⟨b,0,none⟩)] W fun e w'=>e=.returned (.tuple #[])∧P w'):
  Calls Tryz.prog 135 #[.pointer (some ⟨S,o,none⟩),.pointer (some ⟨b,0,none⟩)] w fun e w'=>e=.returned (.bool false)∧P w':=by
 have HF:∀ W,Below w.heap.size w W→W.cell? ⟨S,o,none⟩=some (.slice ao n cap)∧W.cell? ⟨S,o+1,none⟩=some (.int .i64 R.steps)∧W.cell? ⟨S,o+2,none⟩=some (.int .i64 (R.seen:Int))∧W.cell? ⟨S,o+3,none⟩=some (.bool R.covers):=fun W hW=>by
  have q:=h.below hW
  exact⟨q.cM,q.cS,q.cN,q.cC⟩
 have te:(k.steps != R.steps)=false:=by simpa using e
 clear e
 go_enter Tryz.func135,Tryz.ntmps135
 go_wp2
 refine zaf 6 (fun W=>Below w.heap.size w W) (Below.refl _ _).drew (by kernel_rfl) (by kernel_rfl) ?_
 simp only [List.take,List.drop]
 iterate 1 (refine zab rfl ?_ (fun W hW=>?_) ?_;rotate_left 1;· (obtain⟨q0,q1,q2,q3⟩:=HF W hW;go_simp;with_reducible rfl))
 refine zaP rfl 134 #[.pointer (some ⟨b,0,none⟩)] (.int .i64 k.steps) (fun W hW=>?_) (fun W hW=>(zbW (X.below hW X.lt)).mono (fun e w' hh=>⟨hh.1,by rw [hh.2];exact hW⟩)) ?_
 ·go_simp
 iterate 4 (refine zab rfl ?_ (fun W hW=>?_) ?_;rotate_left 1;· (obtain⟨q0,q1,q2,q3⟩:=HF W hW;go_simp;with_reducible rfl))
 refine wpQuiet_nil ?_
 intro W1 hW1
 have hs1:=hs W1 hW1
 go_wp2_with(go_at_call 152;(with_reducible refine hs1.mono ?_);rintro e wx ⟨rfl,hp⟩)
 go_ret
 exact⟨rfl,hp⟩
theorem zvP{w:World}{S o cap n b:Nat}{ao:Option Addr}{R:Rs}{bv:Value}{k:Kn}(h:RsC w S o (.slice ao n cap) R)(X:KnM w b bv k)(e:¬k.steps=R.steps)(hc:R.covers=true)(hn:R.seen=n)(hl:n≤500000):
  Calls Tryz.prog 135 #[.pointer (some ⟨S,o,none⟩),.pointer (some ⟨b,0,none⟩)] w fun e w'=>e=.returned (.bool true)∧Below w.heap.size w w':=by
 have HF:∀ W,Below w.heap.size w W→W.cell? ⟨S,o,none⟩=some (.slice ao n cap)∧W.cell? ⟨S,o+1,none⟩=some (.int .i64 R.steps)∧W.cell? ⟨S,o+2,none⟩=some (.int .i64 (n:Int))∧W.cell? ⟨S,o+3,none⟩=some (.bool true):=fun W hW=>by
  have q:=h.below hW
  exact⟨q.cM,q.cS,by rw [←hn];exact q.cN,by rw [←hc];exact q.cC⟩
 have te:(k.steps != R.steps)=true:=by simpa using e
 have hn2:(n:Int)≤500000:=by omega
 clear e hn hc hl
 go_enter Tryz.func135,Tryz.ntmps135
 go_wp2
 refine zaf 6 (fun W=>Below w.heap.size w W) (Below.refl _ _).drew (by kernel_rfl) (by kernel_rfl) ?_
 simp only [List.take,List.drop]
 iterate 1 (refine zab rfl ?_ (fun W hW=>?_) ?_;rotate_left 1;· (obtain⟨q0,q1,q2,q3⟩:=HF W hW;go_simp;with_reducible rfl))
 refine zaP rfl 134 #[.pointer (some ⟨b,0,none⟩)] (.int .i64 k.steps) (fun W hW=>?_) (fun W hW=>(zbW (X.below hW X.lt)).mono (fun e w' hh=>⟨hh.1,by rw [hh.2];exact hW⟩)) ?_
 ·go_simp
 iterate 4 (refine zab rfl ?_ (fun W hW=>?_) ?_;rotate_left 1;· (obtain⟨q0,q1,q2,q3⟩:=HF W hW;go_simp;with_reducible rfl))
 refine wpQuiet_nil ?_
 intro W1 hW1
 go_wp2
 refine zaf 15 (fun W=>Below w.heap.size w W) hW1.drew (by kernel_rfl) (by kernel_rfl) ?_
 simp only [List.take,List.drop]
 iterate 5 (refine zab rfl ?_ (fun W hW=>?_) ?_;rotate_left 1;· (obtain⟨q0,q1,q2,q3⟩:=HF W hW;go_simp;with_reducible rfl))
 simp only [Act.put,List.setIfInBounds_toArray,List.set_cons_zero,List.set_cons_succ]
 iterate 10 (go_big_quiet_want;rename_i K hK;refine⟨?_,fun W hW=>?_,hK _ ?_⟩;rotate_left 1;(· (obtain⟨q0,q1,q2,q3⟩:=HF W hW;unfold Oper.quietAt;go_simp;with_reducible rfl));clear hK K;simp only [Act.put,List.setIfInBounds_toArray,List.set_cons_zero,List.set_cons_succ])
 refine wpQuiet_nil ?_
 intro W2 hW2
 go_wp2
 go_ret
 exact⟨rfl,hW2⟩
theorem zt4{w:World}{S o cap n b:Nat}{ao:Option Addr}{R:Rs}{bv:Value}{k:Kn}(h:RsC w S o (.slice ao n cap) R)(X:KnM w b bv k)(e:¬k.steps=R.steps)(hc:R.covers=true)(hn:¬R.seen=n)(hl:n≤500000)(_hl2:R.seen≤500000)(Q P:World→Prop)(hg:∀ W,Below w.heap.size w W→Calls Tryz.prog 151 #[.pointer (some ⟨S,o,none⟩),.int .i64 k.steps] W fun e w'=>e=.returned (.tuple #[])∧Q w')
  (hs:∀ W,Q W→Calls Tryz.prog 152 #[.pointer (some ⟨S,o,none⟩),.pointer (some ⟨b,0,none⟩)] W fun e w'=>e=.returned (.tuple #[])∧P w') :
  Calls Tryz.prog 135 #[.pointer (some ⟨S,o,none⟩),.pointer (some ⟨b,0,none⟩)] w fun e w'=>e=.returned (.bool false)∧P w':=by
 have HF:∀ W,Below w.heap.size w W→W.cell? ⟨S,o,none⟩=some (.slice ao n cap)∧W.cell? ⟨S,o+1,none⟩=some (.int .i64 R.steps)∧W.cell? ⟨S,o+2,none⟩=some (.int .i64 (R.seen:Int))∧W.cell? ⟨S,o+3,none⟩=some (.bool true):=fun W hW=>by
  have q:=h.below hW
  exact⟨q.cM,q.cS,q.cN,by rw [←hc];exact q.cC⟩
 have te:(k.steps != R.steps)=true:=by simpa using e
 have tn:((R.seen:Int) == (n:Int))=false:=by simpa using (by omega:¬(R.seen:Int)=(n:Int))
 have hn2:(n:Int)≤500000:=by omega
 have hst:=fun W (hW:Below w.heap.size w W)=>zbW (X.below hW X.lt)
 clear e hn hc hl
 go_enter Tryz.func135,Tryz.ntmps135
 go_wp2
 refine zaf 6 (fun W=>Below w.heap.size w W) (Below.refl _ _).drew (by kernel_rfl) (by kernel_rfl) ?_
 simp only [List.take,List.drop]
 iterate 1 (refine zab rfl ?_ (fun W hW=>?_) ?_;rotate_left 1;· (obtain⟨q0,q1,q2,q3⟩:=HF W hW;go_simp;with_reducible rfl))
 refine zaP rfl 134 #[.pointer (some ⟨b,0,none⟩)] (.int .i64 k.steps) (fun W hW=>?_) (fun W hW=>(zbW (X.below hW X.lt)).mono (fun e w' hh=>⟨hh.1,by rw [hh.2];exact hW⟩)) ?_
 ·go_simp
 iterate 4 (refine zab rfl ?_ (fun W hW=>?_) ?_;rotate_left 1;· (obtain⟨q0,q1,q2,q3⟩:=HF W hW;go_simp;with_reducible rfl))
 refine wpQuiet_nil ?_
 intro W1 hW1
 go_wp2
 refine zaf 15 (fun W=>Below w.heap.size w W) hW1.drew (by kernel_rfl) (by kernel_rfl) ?_
 simp only [List.take,List.drop]
 iterate 5 (refine zab rfl ?_ (fun W hW=>?_) ?_;rotate_left 1;· (obtain⟨q0,q1,q2,q3⟩:=HF W hW;go_simp;with_reducible rfl))
 simp only [Act.put,List.setIfInBounds_toArray,List.set_cons_zero,List.set_cons_succ]
 iterate 10 (go_big_quiet_want;rename_i K hK;refine⟨?_,fun W hW=>?_,hK _ ?_⟩;rotate_left 1;(· (obtain⟨q0,q1,q2,q3⟩:=HF W hW;unfold Oper.quietAt;go_simp;with_reducible rfl));clear hK K;simp only [Act.put,List.setIfInBounds_toArray,List.set_cons_zero,List.set_cons_succ])
 refine wpQuiet_nil ?_
 intro W2 hW2
 have hst2:=hst W2 hW2
 have hg2:=hg W2 hW2
 go_wp2_with(first
  | (go_at_call 134;(with_reducible refine hst2.mono ?_);rintro e wx ⟨rfl,hww⟩;have hw2:=hww.symm;subst hw2)
  | (go_at_call 151;(with_reducible refine hg2.mono ?_);rintro e wy ⟨rfl,hq⟩;have hs2:=hs wy hq)
  | (go_at_call 152;(with_reducible refine hs2.mono ?_);rintro e wz ⟨rfl,hp⟩))
 go_ret
 exact⟨rfl,hp⟩
theorem zt5{w:World}{S o cap n b:Nat}{ao:Option Addr}{R:Rs}{bv:Value}{k:Kn}(h:RsC w S o (.slice ao n cap) R)(X:KnM w b bv k)(e:¬k.steps=R.steps)(hc:R.covers=false)(Q P:World→Prop)(hg:∀ W,Below w.heap.size w W→Calls Tryz.prog 151 #[.pointer (some ⟨S,o,none⟩),.int .i64 k.steps] W fun e w'=>e=.returned (.tuple #[])∧Q w')
  (hs:∀ W,Q W→Calls Tryz.prog 152 #[.pointer (some ⟨S,o,none⟩),.pointer (some ⟨b,0,none⟩)] W fun e w'=>e=.returned (.tuple #[])∧P w') :
  Calls Tryz.prog 135 #[.pointer (some ⟨S,o,none⟩),.pointer (some ⟨b,0,none⟩)] w fun e w'=>e=.returned (.bool false)∧P w':=by
 have HF:∀ W,Below w.heap.size w W→W.cell? ⟨S,o,none⟩=some (.slice ao n cap)∧W.cell? ⟨S,o+1,none⟩=some (.int .i64 R.steps)∧W.cell? ⟨S,o+2,none⟩=some (.int .i64 (R.seen:Int))∧W.cell? ⟨S,o+3,none⟩=some (.bool false):=fun W hW=>by
  have q:=h.below hW
  exact⟨q.cM,q.cS,q.cN,by rw [←hc];exact q.cC⟩
 have te:(k.steps != R.steps)=true:=by simpa using e
 have hst:=fun W (hW:Below w.heap.size w W)=>zbW (X.below hW X.lt)
 clear e hc
 go_enter Tryz.func135,Tryz.ntmps135
 go_wp2
 refine zaf 6 (fun W=>Below w.heap.size w W) (Below.refl _ _).drew (by kernel_rfl) (by kernel_rfl) ?_
 simp only [List.take,List.drop]
 iterate 1 (refine zab rfl ?_ (fun W hW=>?_) ?_;rotate_left 1;· (obtain⟨q0,q1,q2,q3⟩:=HF W hW;go_simp;with_reducible rfl))
 refine zaP rfl 134 #[.pointer (some ⟨b,0,none⟩)] (.int .i64 k.steps) (fun W hW=>?_) (fun W hW=>(zbW (X.below hW X.lt)).mono (fun e w' hh=>⟨hh.1,by rw [hh.2];exact hW⟩)) ?_
 ·go_simp
 iterate 4 (refine zab rfl ?_ (fun W hW=>?_) ?_;rotate_left 1;· (obtain⟨q0,q1,q2,q3⟩:=HF W hW;go_simp;with_reducible rfl))
 refine wpQuiet_nil ?_
 intro W1 hW1
 go_wp2
 refine zaf 15 (fun W=>Below w.heap.size w W) hW1.drew (by kernel_rfl) (by kernel_rfl) ?_
 simp only [List.take,List.drop]
 iterate 5 (refine zab rfl ?_ (fun W hW=>?_) ?_;rotate_left 1;· (obtain⟨q0,q1,q2,q3⟩:=HF W hW;go_simp;with_reducible rfl))
 simp only [Act.put,List.setIfInBounds_toArray,List.set_cons_zero,List.set_cons_succ]
 iterate 10 go_big_quiet_skip
 refine wpQuiet_nil ?_
 intro W2 hW2
 have hst2:=hst W2 hW2
 have hg2:=hg W2 hW2
 go_wp2_with(first
  | (go_at_call 134;(with_reducible refine hst2.mono ?_);rintro e wx ⟨rfl,hww⟩;have hw2:=hww.symm;subst hw2)
  | (go_at_call 151;(with_reducible refine hg2.mono ?_);rintro e wy ⟨rfl,hq⟩;have hs2:=hs wy hq)
  | (go_at_call 152;(with_reducible refine hs2.mono ?_);rintro e wz ⟨rfl,hp⟩))
 go_ret
 exact⟨rfl,hp⟩
end Go.Proofs.YtfpgjkbjbbgciaaGreatDoor
