import Derived.Test.YtfpgjkbjbbgciaaGreatDoorMk30
set_option maxRecDepth 100000
set_option maxHeartbeats 8000000
namespace Go.Proofs.YtfpgjkbjbbgciaaGreatDoor
open Go.RowKit Sp
section
structure SC(w:World)(S:Nat)(cv v mv:Value)(R:Rs)(looks:Nat)(bs bf:Int):Prop where
 c0:w.cell? ⟨S,0,none⟩=some cv
 c1:w.cell? ⟨S,1,none⟩=some v
 rs:RsC w S 2 mv R
 c6:w.cell? ⟨S,6,none⟩=some (.int .i64 (looks:Int))
 c7:w.cell? ⟨S,7,none⟩=some (.int .i64 bs)
 c8:w.cell? ⟨S,8,none⟩=some (.int .i64 bf)
 fz:∀ j,w.frozen? ⟨S,j,none⟩=false
theorem SC.lt{w:World}{S:Nat}{cv v mv:Value}{R:Rs}{looks:Nat}{bs bf:Int}(h:SC w S cv v mv R looks bs bf):S<w.heap.size:=World.block_lt_of_cell? w _ h.c0
theorem SC.block{w w':World}{S:Nat}{cv v mv:Value}{R:Rs}{looks:Nat}{bs bf:Int}(h:SC w S cv v mv R looks bs bf)(e:w'.heap[S]?=w.heap[S]?):SC w' S cv v mv R looks bs bf:=by
 have c:∀ j,w'.cell? ⟨S,j,none⟩=w.cell? ⟨S,j,none⟩:=fun j=>World.cell?_of_block (w:=w) (a:=⟨S,j,none⟩) e;exact⟨(c _).trans h.c0,(c _).trans h.c1,⟨(c _).trans h.rs.cM,(c _).trans h.rs.cS,(c _).trans h.rs.cN,(c _).trans h.rs.cC⟩,(c _).trans h.c6,(c _).trans h.c7,(c _).trans h.c8,fun j=>(World.frozen?_of_block (w:=w) (a:=⟨S,j,none⟩) e).trans (h.fz j)⟩
theorem SC.one{w w':World}{S o:Nat}{cv v mv:Value}{R:Rs}{looks:Nat}{bs bf:Int}(h:SC w S cv v mv R looks bs bf)(c:∀ j,¬j=o→w'.cell? ⟨S,j,none⟩=w.cell? ⟨S,j,none⟩)(fz:∀ j,w'.frozen? ⟨S,j,none⟩=w.frozen? ⟨S,j,none⟩){x:Value}(hx:w'.cell? ⟨S,o,none⟩=some x):
  (o=1→SC w' S cv x mv R looks bs bf)∧(∀ n:Nat,o=6→x=.int .i64 (n:Int)→SC w' S cv v mv R n bs bf)∧(∀ n:Int,o=7→x=.int .i64 n→SC w' S cv v mv R looks n bf)∧(∀ n:Int,o=8→x=.int .i64 n→SC w' S cv v mv R looks bs n):=by
 have f:∀ j,w'.frozen? ⟨S,j,none⟩=false:=fun j=>(fz j).trans (h.fz j);refine⟨fun e=>?_,fun n e ex=>?_,fun n e ex=>?_,fun n e ex=>?_⟩
 ·subst e;exact⟨(c _ (by omega)).trans h.c0,hx,⟨(c _ (by omega)).trans h.rs.cM,(c _ (by omega)).trans h.rs.cS,(c _ (by omega)).trans h.rs.cN,(c _ (by omega)).trans h.rs.cC⟩,(c _ (by omega)).trans h.c6,(c _ (by omega)).trans h.c7,(c _ (by omega)).trans h.c8,f⟩
 ·subst e;subst ex;exact⟨(c _ (by omega)).trans h.c0,(c _ (by omega)).trans h.c1,⟨(c _ (by omega)).trans h.rs.cM,(c _ (by omega)).trans h.rs.cS,(c _ (by omega)).trans h.rs.cN,(c _ (by omega)).trans h.rs.cC⟩,hx,(c _ (by omega)).trans h.c7,(c _ (by omega)).trans h.c8,f⟩
 ·subst e;subst ex;exact⟨(c _ (by omega)).trans h.c0,(c _ (by omega)).trans h.c1,⟨(c _ (by omega)).trans h.rs.cM,(c _ (by omega)).trans h.rs.cS,(c _ (by omega)).trans h.rs.cN,(c _ (by omega)).trans h.rs.cC⟩,(c _ (by omega)).trans h.c6,hx,(c _ (by omega)).trans h.c8,f⟩
 ·subst e;subst ex;exact⟨(c _ (by omega)).trans h.c0,(c _ (by omega)).trans h.c1,⟨(c _ (by omega)).trans h.rs.cM,(c _ (by omega)).trans h.rs.cS,(c _ (by omega)).trans h.rs.cN,(c _ (by omega)).trans h.rs.cC⟩,(c _ (by omega)).trans h.c6,(c _ (by omega)).trans h.c7,hx,f⟩
def Free(S:Nat)(v mv:Value)(q:Nat):Prop:=¬q=S∧v.ownBlock≠some q∧mv.ownBlock≠some q
structure SO(w:World)(B S g:Nat)(C:List (Ins × Int))(v mv:Value)(xs hs:List Wy)(ms:List Mk):Prop where
 code:CodeIn w g C
 gB:g<B
 SB:B≤S
 SL:S<w.heap.size
 hp:HeapM w B v xs
 ord:HpAll (stp xs) xs.length
 hand:∀ h∈hs,WyM w h
 mkr:w.ownsRow B 217 51 mv ms.length (zbi ms)
 mbh:∀ m∈ms,BhM w m.ao m.cap m.k.behind
 vS:v.ownBlock≠some S
 mS:mv.ownBlock≠some S
 vm:∀ q,v.ownBlock=some q→mv.ownBlock≠some q
 nod:((hs++xs).map Wy.b).Nodup
 far:∀ x∈hs++xs,B≤x.b∧Free S v mv x.b∧∀ a,x.ao=some a→Free S v mv a.block∧∀ y∈hs++xs,¬a.block=y.b
 mfar:∀ m∈ms,∀ a,m.ao=some a→Free S v mv a.block∧∀ y∈hs++xs,¬a.block=y.b
theorem WyM.keep{w w':World}{x:Wy}(h:WyM w x)(hs:w.heap.size≤w'.heap.size)(h1:w'.heap[x.b]?=w.heap[x.b]?)(h2:∀ a,x.ao=some a→w'.heap[a.block]?=w.heap[a.block]?):WyM w' x :=
 ⟨h.key,h.kn.block h1,h.bh.kept hs fun _g e=>h2 _ e⟩
theorem zdH{w w':World}{g:Nat}{C:List (Ins × Int)}(h:CodeIn w g C)(e:w'.heap[g]?=w.heap[g]?):CodeIn w' g C :=
 fun j hj=>⟨(World.cell?_of_block (w:=w) (a:=⟨g,j*2,none⟩) e).trans (h j hj).1,(World.cell?_of_block (w:=w) (a:=⟨g,j*2+1,none⟩) e).trans (h j hj).2⟩
theorem WyM.aolt{w:World}{x:Wy}(h:WyM w x){a:Addr}(ha:x.ao=some a):a.block<w.heap.size:=by
 obtain⟨g,rfl⟩:=h.bh.at0 a ha;exact(h.bh.cell g ha).1
theorem zyV{w:World}{ao:Option Addr}{cap:Nat}{l:List Int}(h:BhM w ao cap l){a:Addr}(ha:ao=some a):a.block<w.heap.size:=by
 obtain⟨g,rfl⟩:=h.at0 a ha;exact(h.cell g ha).1
section
variable {w w':World} {B S g:Nat} {C:List (Ins × Int)} {v mv:Value} {xs hs:List Wy} {ms:List Mk}
theorem SO.wy(h:SO w B S g C v mv xs hs ms):∀ x∈hs++xs,WyM w x:=fun x hx=>by
 rcases List.mem_append.1 hx with e|e
 ·exact h.hand x e
 ·exact h.hp.wy x e
theorem SO.stay(h:SO w B S g C v mv xs hs ms)(hsz:w.heap.size≤w'.heap.size)(hb:∀ q,q<w.heap.size→¬q=S→w'.heap[q]?=w.heap[q]?):SO w' B S g C v mv xs hs ms:=by
 have b:∀ x∈hs++xs,WyM w' x:=fun x hx=>by
  have k:=h.wy x hx;obtain⟨_,d,f⟩:=h.far x hx;exact k.keep hsz (hb _ k.kn.lt d.1) (fun a ha=>hb _ (k.aolt ha) (f a ha).1.1)
 have j:∀ q,v.ownBlock=some q→w'.heap[q]?=w.heap[q]?:=fun q hq=>hb q (h.hp.row.lt q hq).2 (fun e=>h.vS (by rw [hq,e]));have i:∀ q,mv.ownBlock=some q→w'.heap[q]?=w.heap[q]?:=fun q hq=>hb q (h.mkr.lt q hq).2 (fun e=>h.mS (by rw [hq,e]));have c:¬g=S:=by have:=h.gB;have:=h.SB;omega
 exact⟨zdH h.code (hb g (by have:=h.gB;have:=h.SB;have:=h.SL;omega) c),h.gB,h.SB,Nat.lt_of_lt_of_le h.SL hsz,⟨zbX h.hp.row j,fun x hx=>b x (List.mem_append_right _ hx),h.hp.far⟩,h.ord,fun x hx=>b x (List.mem_append_left _ hx),zbX h.mkr i,fun m hm2=>(h.mbh m hm2).kept hsz (fun q e=>hb q ((h.mbh m hm2).cell q e).1 (h.mfar m hm2 _ e).1.1),h.vS,h.mS,h.vm,h.nod,h.far,h.mfar⟩
theorem SO.below(h:SO w B S g C v mv xs hs ms)(hb:Below w.heap.size w w'):SO w' B S g C v mv xs hs ms:=h.stay hb.size fun q hq _=>hb.block q hq
theorem SO.drop{y:Wy}(h:SO w B S g C v mv xs (y :: hs) ms):SO w B S g C v mv xs hs ms :=
 ⟨h.code,h.gB,h.SB,h.SL,h.hp,h.ord,fun x hx=>h.hand x (List.mem_cons_of_mem _ hx),h.mkr,h.mbh,h.vS,h.mS,h.vm,(List.nodup_cons.1 h.nod).2,fun x hx=>by
  obtain⟨a1,a2,a3⟩:=h.far x (List.mem_cons_of_mem _ hx);exact⟨a1,a2,fun a ha=>⟨(a3 a ha).1,fun z hz=>(a3 a ha).2 z (List.mem_cons_of_mem _ hz)⟩⟩,fun m hm a ha=>⟨(h.mfar m hm a ha).1,fun z hz=>(h.mfar m hm a ha).2 z (List.mem_cons_of_mem _ hz)⟩⟩
theorem SO.turn{x:Wy}{rs:List Wy}(h:SO w B S g C v mv xs (x :: hs) ms)(hg:w.grownBy w' (some x.b))(hr:∀ y∈rs,WyM w' y)(hb:∀ y∈rs,y.b=x.b∨w.heap.size≤y.b)(hn:(rs.map Wy.b).Nodup)
  (ha:∀ y∈rs,∀ a,y.ao=some a→(x.ao=some a∨w.heap.size≤a.block)∧∀ z∈rs,¬a.block=z.b):SO w' B S g C v mv xs (rs++hs) ms:=by
 have hlt:=(h.hand x List.mem_cons_self).kn.lt;obtain⟨U,H,K⟩:=h.far x List.mem_cons_self;have r:=List.nodup_cons.1 h.nod;have J:∀ y∈hs++xs,¬y.b=x.b:=fun y i e=>r.1 (by rw [←e];exact List.mem_map_of_mem i);have f:∀ y∈hs++xs,y∈x :: hs++xs:=fun y i=>List.mem_cons_of_mem _ i;have d:∀ q,q<w.heap.size→¬q=x.b→w'.heap[q]?=w.heap[q]?:=fun q hq hne=>hg.block q hq (fun e=>hne (by cases e;rfl));have t:∀ y∈hs++xs,WyM w' y:=fun y i=>by
  have k:=h.wy y (f y i);obtain⟨_,f1,Q⟩:=h.far y (f y i);exact k.keep hg.size (d _ k.kn.lt (J y i)) (fun a ha=>d _ (k.aolt ha) ((Q a ha).2 x List.mem_cons_self))
 have T:∀ q,v.ownBlock=some q→w'.heap[q]?=w.heap[q]?:=fun q hq=>d q (h.hp.row.lt q hq).2 (fun e=>H.2.1 (by rw [hq,e]));have R:∀ q,mv.ownBlock=some q→w'.heap[q]?=w.heap[q]?:=fun q hq=>d q (h.mkr.lt q hq).2 (fun e=>H.2.2 (by rw [hq,e]));have o:∀ q,w.heap.size≤q→Free S v mv q:=fun q hq=>⟨by have:=h.SL;omega,fun e=>by have:=(h.hp.row.lt q e).2;omega,fun e=>by have:=(h.mkr.lt q e).2;omega⟩
 have G:∀ y∈rs,B≤y.b∧Free S v mv y.b:=fun y i=>by
  rcases hb y i with e|e
  ·rw [e];exact⟨U,H⟩
  ·exact⟨by have:=h.SB;have:=h.SL;omega,o _ e⟩
 have n:∀ z,z∈rs++hs++xs→z∈rs∨z∈hs++xs:=fun z j=>by
  rw [List.append_assoc] at j;exact List.mem_append.1 j
 have F:¬g=x.b:=by have:=h.gB;omega
 refine⟨zdH h.code (d g (by have:=h.gB;have:=h.SB;have:=h.SL;omega) F),h.gB,h.SB,Nat.lt_of_lt_of_le h.SL hg.size,⟨zbX h.hp.row T,fun y i=>t y (List.mem_append_right _ i),h.hp.far⟩,h.ord,fun y i=>?_,zbX h.mkr R,fun m hm2=>(h.mbh m hm2).kept hg.size (fun q e=>d q ((h.mbh m hm2).cell q e).1 ((h.mfar m hm2 _ e).2 x List.mem_cons_self)),h.vS,h.mS,h.vm,?_,fun y i=>?_,fun m hm2 a ha2=>⟨(h.mfar m hm2 a ha2).1,fun z j=>?_⟩⟩
 ·rcases List.mem_append.1 i with e|e
  ·exact hr y e
  ·exact t y (List.mem_append_left _ e)
 ·rw [List.append_assoc,List.map_append];refine List.nodup_append.2 ⟨hn,r.2,fun p hp q hq e=>?_⟩;subst e;obtain⟨y,i,rfl⟩:=List.mem_map.1 hp;obtain⟨z,j,e⟩:=List.mem_map.1 hq;rcases hb y i with O|O
  ·exact J z j (e.trans O)
  ·have:=(h.wy z (f z j)).kn.lt;omega
 ·rcases n y i with e|e
  ·obtain⟨A,D⟩:=G y e;refine⟨A,D,fun a ha2=>?_⟩;obtain⟨M,N⟩:=ha y e a ha2;have s:Free S v mv a.block∧∀ z∈hs++xs,¬a.block=z.b:=by
    rcases M with c|c
    ·exact⟨(K a c).1,fun z j=>(K a c).2 z (f z j)⟩
    ·exact⟨o _ c,fun z j l=>by have:=(h.wy z (f z j)).kn.lt;omega⟩
   refine⟨s.1,fun z j=>?_⟩;rcases n z j with l|l
   ·exact N z l
   ·exact s.2 z l
  ·obtain⟨A,D,E⟩:=h.far y (f y e);refine⟨A,D,fun a ha2=>⟨(E a ha2).1,fun z j=>?_⟩⟩;rcases n z j with l|l
   ·rcases hb z l with P|P
    ·rw [P];exact(E a ha2).2 x List.mem_cons_self
    ·have:=(h.wy y (f y e)).aolt ha2;omega
   ·exact(E a ha2).2 z (f z l)
 ·rcases n z j with l|l
  ·rcases hb z l with P|P
   ·rw [P];exact(h.mfar m hm2 a ha2).2 x List.mem_cons_self
   ·have:=zyV (h.mbh m hm2) ha2;omega
  ·exact(h.mfar m hm2 a ha2).2 z (f z l)
end
end
section
section
variable {w w':World} {B S g:Nat} {C:List (Ins × Int)} {v mv:Value} {xs hs:List Wy} {ms:List Mk}
theorem SO.took{H cap:Nat}{ys:List Wy}{x:Wy}(h:SO w B S g C (.slice (some ⟨H,0,none⟩) xs.length cap) mv xs hs ms)(hk:Kept2 w w' S 1 (some H))(hp:(x :: ys).Perm xs)(hM:HeapM w' B (.slice (some ⟨H,0,none⟩) ys.length cap) ys)(hA:HpAll (stp ys) ys.length)(hx:WyM w' x):
  SO w' B S g C (.slice (some ⟨H,0,none⟩) ys.length cap) mv ys (x :: hs) ms:=by
 have f:(x :: hs++ys).Perm (hs++xs):=(List.perm_middle (l₁:=hs) (a:=x) (l₂:=ys)).symm.trans (List.Perm.append_left hs hp);have d:∀ z,z∈x :: hs++ys→z∈hs++xs:=fun z hz=>f.mem_iff.1 hz;have c:∀ q,q<w.heap.size→¬q=S→¬q=H→w'.heap[q]?=w.heap[q]?:=fun q hq h1 h2=>hk.block q hq h1 (fun e=>h2 (by cases e;rfl));have i:∀ z∈hs,WyM w' z:=fun z hz=>by
  have k:=h.hand z hz;obtain⟨_,l,n⟩:=h.far z (List.mem_append_left _ hz);exact k.keep hk.size (c _ k.kn.lt l.1 (fun e=>l.2.1 (by rw [e];rfl))) (fun a ha=>c _ (k.aolt ha) (n a ha).1.1 (fun e=>(n a ha).1.2.1 (by rw [e];rfl)))
 have t:∀ q,mv.ownBlock=some q→w'.heap[q]?=w.heap[q]?:=fun q hq=>c q (h.mkr.lt q hq).2 (fun e=>h.mS (by rw [hq,e])) (fun e=>h.vm H rfl (by rw [hq,e]));have s:¬g=S:=by have:=h.gB;have:=h.SB;omega
 have r:¬g=H:=by have:=h.gB;have:=(h.hp.row.lt H rfl).1;omega
 refine⟨zdH h.code (c g (by have:=h.gB;have:=h.SB;have:=h.SL;omega) s r),h.gB,h.SB,Nat.lt_of_lt_of_le h.SL hk.size,hM,hA,fun z hz=>?_,zbX h.mkr t,fun m hm2=>(h.mbh m hm2).kept hk.size (fun q e=>c q ((h.mbh m hm2).cell q e).1 (h.mfar m hm2 _ e).1.1 (fun e2=>(h.mfar m hm2 _ e).1.2.1 (by rw [←e2];rfl))),h.vS,h.mS,h.vm,(f.map Wy.b).nodup_iff.2 h.nod,fun z hz=>?_,fun m hm2 a ha=>⟨(h.mfar m hm2 a ha).1,fun z hz=>(h.mfar m hm2 a ha).2 z (d z hz)⟩⟩
 ·rcases List.mem_cons.1 hz with e|e
  ·rw [e];exact hx
  ·exact i z e
 ·obtain⟨o,p,j⟩:=h.far z (d z hz);exact⟨o,p,fun a ha=>⟨(j a ha).1,fun y hy=>(j a ha).2 y (d y hy)⟩⟩
theorem SO.added{H cap:Nat}{ys:List Wy}{x:Wy}(h:SO w B S g C v mv xs (x :: hs) ms)(hk:Kept2 w w' S 1 v.ownBlock)(hp:ys.Perm (xs++[x]))(hM:HeapM w' B (.slice (some ⟨H,0,none⟩) ys.length cap) ys)(hA:HpAll (stp ys) ys.length)(hH:v.ownBlock=some H∨w.heap.size≤H):
  SO w' B S g C (.slice (some ⟨H,0,none⟩) ys.length cap) mv ys hs ms:=by
 have l:(hs++ys).Perm (x :: hs++xs):=(List.Perm.append_left hs (hp.trans List.perm_append_comm)).trans (List.perm_middle (l₁:=hs) (a:=x) (l₂:=xs));have i:∀ z,z∈hs++ys→z∈x :: hs++xs:=fun z hz=>l.mem_iff.1 hz;have c:∀ q,q<w.heap.size→¬q=S→v.ownBlock≠some q→w'.heap[q]?=w.heap[q]?:=fun q hq h1 h2=>hk.block q hq h1 (fun e=>h2 e.symm);have p:∀ z∈hs,WyM w' z:=fun z hz=>by
  have k:=h.hand z (List.mem_cons_of_mem _ hz);obtain⟨_,t,u⟩:=h.far z (List.mem_append_left _ (List.mem_cons_of_mem _ hz));exact k.keep hk.size (c _ k.kn.lt t.1 t.2.1) (fun a ha=>c _ (k.aolt ha) (u a ha).1.1 (u a ha).1.2.1)
 have J:∀ q,mv.ownBlock=some q→w'.heap[q]?=w.heap[q]?:=fun q hq=>c q (h.mkr.lt q hq).2 (fun e=>h.mS (by rw [hq,e])) (fun e=>h.vm q e hq);have G:¬g=S:=by have:=h.gB;have:=h.SB;omega
 have I:v.ownBlock≠some g:=fun e=>by have:=h.gB;have:=(h.hp.row.lt g e).1;omega
 have d:∀ q,q<w.heap.size→Free S v mv q→Free S (.slice (some ⟨H,0,none⟩) ys.length cap) mv q:=fun q hq f=>by
  refine⟨f.1,fun e=>?_,f.2.2⟩;have j:H=q:=by have:some H=some q:=e;simpa using this
  rcases hH with o|o
  ·exact f.2.1 (by rw [o,j])
  ·omega
 refine⟨zdH h.code (c g (by have:=h.gB;have:=h.SB;have:=h.SL;omega) G I),h.gB,h.SB,Nat.lt_of_lt_of_le h.SL hk.size,hM,hA,p,zbX h.mkr J,fun m hm2=>(h.mbh m hm2).kept hk.size (fun q e=>c q ((h.mbh m hm2).cell q e).1 (h.mfar m hm2 _ e).1.1 (h.mfar m hm2 _ e).1.2.1),fun e=>?_,h.mS,fun q e j=>?_,(l.map Wy.b).nodup_iff.2 h.nod,fun z hz=>?_,fun m hm2 a ha=>⟨d _ (zyV (h.mbh m hm2) ha) (h.mfar m hm2 a ha).1,fun z hz=>(h.mfar m hm2 a ha).2 z (i z hz)⟩⟩
 ·have j:H=S:=by have:some H=some S:=e;simpa using this
  rcases hH with o|o
  ·exact h.vS (by rw [o,j])
  ·have:=h.SL;omega
 ·have o:H=q:=by have:some H=some q:=e;simpa using this
  rcases hH with F|F
  ·exact h.vm H F (by rw [j,o])
  ·have:=(h.mkr.lt q j).2;omega
 ·have n:=i z hz;obtain⟨D,E,s⟩:=h.far z n;have A:=h.wy z n;exact⟨D,d _ A.kn.lt E,fun a ha=>⟨d _ (A.aolt ha) (s a ha).1,fun y hy=>(s a ha).2 y (i y hy)⟩⟩
theorem SO.remark{mv':Value}{ms':List Mk}(h:SO w B S g C v mv xs hs ms)(hk:Kept4 w w' S 2 mv.ownBlock)(hM:w'.ownsRow B 217 51 mv' ms'.length (zbi ms'))(hM':∀ q,mv'.ownBlock=some q→mv.ownBlock=some q∨w.heap.size≤q)
  (hms:∀ m∈ms',m∈ms∨∃ x∈hs++xs,m.ao=x.ao∧m.cap=x.cap∧m.k=x.k):SO w' B S g C v mv' xs hs ms':=by
 have b:∀ q,q<w.heap.size→¬q=S→mv.ownBlock≠some q→w'.heap[q]?=w.heap[q]?:=fun q hq h1 h2=>hk.block q hq h1 (fun e=>h2 e.symm);have j:∀ z∈hs++xs,WyM w' z:=fun z hz=>by
  have k:=h.wy z hz;obtain⟨_,r,n⟩:=h.far z hz;exact k.keep hk.size (b _ k.kn.lt r.1 r.2.2) (fun a ha=>b _ (k.aolt ha) (n a ha).1.1 (n a ha).1.2.2)
 have E:∀ q,v.ownBlock=some q→w'.heap[q]?=w.heap[q]?:=fun q hq=>b q (h.hp.row.lt q hq).2 (fun e=>h.vS (by rw [hq,e])) (h.vm q hq);have A:¬g=S:=by have:=h.gB;have:=h.SB;omega
 have D:mv.ownBlock≠some g:=fun e=>by have:=h.gB;have:=(h.mkr.lt g e).1;omega
 have c:∀ q,q<w.heap.size→Free S v mv q→Free S v mv' q:=fun q hq f=>by
  refine⟨f.1,f.2.1,fun e=>?_⟩;rcases hM' q e with i|i
  ·exact f.2.2 i
  ·omega
 refine⟨zdH h.code (b g (by have:=h.gB;have:=h.SB;have:=h.SL;omega) A D),h.gB,h.SB,Nat.lt_of_lt_of_le h.SL hk.size,⟨zbX h.hp.row E,fun x l=>j x (List.mem_append_right _ l),h.hp.far⟩,h.ord,fun z hz=>j z (List.mem_append_left _ hz),hM,fun m hm2=>?_,h.vS,fun e=>?_,fun q e d=>?_,h.nod,fun z hz=>?_,fun m hm2 a ha=>?_⟩
 ·rcases hms m hm2 with e|⟨x,l,y,d,i⟩
  ·exact(h.mbh m e).kept hk.size (fun q d=>b q ((h.mbh m e).cell q d).1 (h.mfar m e _ d).1.1 (h.mfar m e _ d).1.2.2)
  ·rw [y,d,i];exact(j x l).bh
 ·rcases hM' S e with i|i
  ·exact h.mS i
  ·have:=h.SL;omega
 ·rcases hM' q d with i|i
  ·exact h.vm q e i
  ·have:=(h.hp.row.lt q e).2;omega
 ·obtain⟨t,u,p⟩:=h.far z hz;have s:=h.wy z hz;exact⟨t,c _ s.kn.lt u,fun a ha=>⟨c _ (s.aolt ha) (p a ha).1,(p a ha).2⟩⟩
 ·rcases hms m hm2 with e|⟨x,l,y,d,i⟩
  ·exact⟨c _ (zyV (h.mbh m e) ha) (h.mfar m e a ha).1,(h.mfar m e a ha).2⟩
  ·rw [y] at ha;obtain⟨_,_,n⟩:=h.far x l;exact⟨c _ ((h.wy x l).aolt ha) (n a ha).1,(n a ha).2⟩
theorem ziR{o:Nat}{hb:Option Nat}(hk:Kept2 w w' S o hb)(hS:B≤S)(hBw:B≤w.heap.size)(hh:∀ q,hb=some q→B≤q):Below B w w' :=
 ⟨hk.os,hk.tape,hk.output,hk.size,fun q hq=>hk.block q (by omega) (by omega) (fun e=>by have:=hh q e.symm;omega)⟩
theorem zos{o:Nat}{hb:Option Nat}(hk:Kept4 w w' S o hb)(hS:B≤S)(hBw:B≤w.heap.size)(hh:∀ q,hb=some q→B≤q):Below B w w' :=
 ⟨hk.os,hk.tape,hk.output,hk.size,fun q hq=>hk.block q (by omega) (by omega) (fun e=>by have:=hh q e.symm;omega)⟩
end
end
end Go.Proofs.YtfpgjkbjbbgciaaGreatDoor
