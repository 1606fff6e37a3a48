import Derived.Test.YtfpgjkbjbbgciaaGreatDoorMc45
set_option maxRecDepth 100000
set_option maxHeartbeats 8000000
namespace Go.Proofs.YtfpgjkbjbbgciaaGreatDoor
open Go.RowKit Sp
structure SC (w : World) (S : Nat) (cv v mv : Value) (R : Rs) (looks : Nat) (bs bf : Int) : Prop where
 c0 : w.cell? ⟨S,0,none⟩ = some cv
 c1 : w.cell? ⟨S,1,none⟩ = some v
 rs : RsC w S 2 mv R
 c6 : w.cell? ⟨S,6,none⟩ = some (.int .i64 (looks : Int))
 c7 : w.cell? ⟨S,7,none⟩ = some (.int .i64 bs)
 c8 : w.cell? ⟨S,8,none⟩ = some (.int .i64 bf)
 fz : ∀ j,w.frozen? ⟨S,j,none⟩ = false
theorem SC.lt {w : World} {S : Nat} {cv v mv : Value} {R : Rs} {looks : Nat} {bs bf : Int} (h : SC w S cv v mv R looks bs bf) : S < w.heap.size:=World.block_lt_of_cell? w _ h.c0
theorem SC.block {w w' : World} {S : Nat} {cv v mv : Value} {R : Rs} {looks : Nat} {bs bf : Int} (h : SC w S cv v mv R looks bs bf) (e : w'.heap[S]? = w.heap[S]?) : SC w' S cv v mv R looks bs bf:=by
 have c : ∀ j,w'.cell? ⟨S,j,none⟩ = w.cell? ⟨S,j,none⟩:=fun j => World.cell?_of_block (w:=w) (a:=⟨S,j,none⟩) e
 exact ⟨(c _).trans h.c0,(c _).trans h.c1,⟨(c _).trans h.rs.cM,(c _).trans h.rs.cS,(c _).trans h.rs.cN,(c _).trans h.rs.cC⟩,(c _).trans h.c6,(c _).trans h.c7,(c _).trans h.c8,fun j => (World.frozen?_of_block (w:=w) (a:=⟨S,j,none⟩) e).trans (h.fz j)⟩
theorem SC.one {w w' : World} {S o : Nat} {cv v mv : Value} {R : Rs} {looks : Nat} {bs bf : Int} (h : SC w S cv v mv R looks bs bf) (c : ∀ j,¬ j = o → w'.cell? ⟨S,j,none⟩ = w.cell? ⟨S,j,none⟩) (fz : ∀ j,w'.frozen? ⟨S,j,none⟩ = w.frozen? ⟨S,j,none⟩) {x : Value} (hx : w'.cell? ⟨S,o,none⟩ = some x) :
  (o = 1 → SC w' S cv x mv R looks bs bf) ∧ (∀ n : Nat,o = 6 → x = .int .i64 (n : Int) → SC w' S cv v mv R n bs bf) ∧ (∀ n : Int,o = 7 → x = .int .i64 n → SC w' S cv v mv R looks n bf) ∧ (∀ n : Int,o = 8 → x = .int .i64 n → SC w' S cv v mv R looks bs n):=by
 have f : ∀ j,w'.frozen? ⟨S,j,none⟩ = false:=fun j => (fz j).trans (h.fz j)
 refine ⟨fun e => ?_,fun n e ex => ?_,fun n e ex => ?_,fun n e ex => ?_⟩
 ·subst e
  exact ⟨(c _ (by omega)).trans h.c0,hx,⟨(c _ (by omega)).trans h.rs.cM,(c _ (by omega)).trans h.rs.cS,(c _ (by omega)).trans h.rs.cN,(c _ (by omega)).trans h.rs.cC⟩,(c _ (by omega)).trans h.c6,(c _ (by omega)).trans h.c7,(c _ (by omega)).trans h.c8,f⟩
 ·subst e; subst ex
  exact ⟨(c _ (by omega)).trans h.c0,(c _ (by omega)).trans h.c1,⟨(c _ (by omega)).trans h.rs.cM,(c _ (by omega)).trans h.rs.cS,(c _ (by omega)).trans h.rs.cN,(c _ (by omega)).trans h.rs.cC⟩,hx,(c _ (by omega)).trans h.c7,(c _ (by omega)).trans h.c8,f⟩
 ·subst e; subst ex
  exact ⟨(c _ (by omega)).trans h.c0,(c _ (by omega)).trans h.c1,⟨(c _ (by omega)).trans h.rs.cM,(c _ (by omega)).trans h.rs.cS,(c _ (by omega)).trans h.rs.cN,(c _ (by omega)).trans h.rs.cC⟩,(c _ (by omega)).trans h.c6,hx,(c _ (by omega)).trans h.c8,f⟩
 ·subst e; subst ex
  exact ⟨(c _ (by omega)).trans h.c0,(c _ (by omega)).trans h.c1,⟨(c _ (by omega)).trans h.rs.cM,(c _ (by omega)).trans h.rs.cS,(c _ (by omega)).trans h.rs.cN,(c _ (by omega)).trans h.rs.cC⟩,(c _ (by omega)).trans h.c6,(c _ (by omega)).trans h.c7,hx,f⟩
def Free (S : Nat) (v mv : Value) (q : Nat) : Prop:=¬ q = S ∧ v.ownBlock ≠ some q ∧ mv.ownBlock ≠ some q
structure SO (w : World) (B S g : Nat) (C : List (Ins × Int)) (v mv : Value) (xs hs : List Wy) (ms : List Mk) : Prop where
 code : CodeIn w g C
 gB : g < B
 SB : B ≤ S
 SL : S < w.heap.size
 hp : HeapM w B v xs
 ord : HpAll (stp xs) xs.length
 hand : ∀ h ∈ hs,WyM w h
 mkr : w.ownsRow B 217 51 mv ms.length (zbg ms)
 mbh : ∀ m ∈ ms,BhM w m.ao m.cap m.k.behind
 vS : v.ownBlock ≠ some S
 mS : mv.ownBlock ≠ some S
 vm : ∀ q,v.ownBlock = some q → mv.ownBlock ≠ some q
 nod : ((hs ++ xs).map Wy.b).Nodup
 far : ∀ x ∈ hs ++ xs,B ≤ x.b ∧ Free S v mv x.b ∧ ∀ a,x.ao = some a → Free S v mv a.block ∧ ∀ y ∈ hs ++ xs,¬ a.block = y.b
 mfar : ∀ m ∈ ms,∀ a,m.ao = some a → Free S v mv a.block ∧ ∀ y ∈ hs ++ xs,¬ a.block = y.b
theorem WyM.keep {w w' : World} {x : Wy} (h : WyM w x) (hs : w.heap.size ≤ w'.heap.size) (h1 : w'.heap[x.b]? = w.heap[x.b]?) (h2 : ∀ a,x.ao = some a → w'.heap[a.block]? = w.heap[a.block]?) : WyM w' x :=
 ⟨h.key,h.kn.block h1,h.bh.kept hs fun _g e => h2 _ e⟩
theorem zdF {w w' : World} {g : Nat} {C : List (Ins × Int)} (h : CodeIn w g C) (e : w'.heap[g]? = w.heap[g]?) : CodeIn w' g C :=
 fun j hj => ⟨(World.cell?_of_block (w:=w) (a:=⟨g,j * 2,none⟩) e).trans (h j hj).1,(World.cell?_of_block (w:=w) (a:=⟨g,j * 2 + 1,none⟩) e).trans (h j hj).2⟩
theorem WyM.aolt {w : World} {x : Wy} (h : WyM w x) {a : Addr} (ha : x.ao = some a) : a.block < w.heap.size:=by
 obtain ⟨g,rfl⟩:=h.bh.at0 a ha
 exact (h.bh.cell g ha).1
theorem zvY {w : World} {ao : Option Addr} {cap : Nat} {l : List Int} (h : BhM w ao cap l) {a : Addr} (ha : ao = some a) : a.block < w.heap.size:=by
 obtain ⟨g,rfl⟩:=h.at0 a ha
 exact (h.cell g ha).1
section
variable {w w' : World} {B S g : Nat} {C : List (Ins × Int)} {v mv : Value} {xs hs : List Wy} {ms : List Mk}
theorem SO.wy (h : SO w B S g C v mv xs hs ms) : ∀ x ∈ hs ++ xs,WyM w x:=fun x hx => by
 rcases List.mem_append.1 hx with e | e
 ·exact h.hand x e
 ·exact h.hp.wy x e
theorem SO.stay (h : SO w B S g C v mv xs hs ms) (hsz : w.heap.size ≤ w'.heap.size) (hb : ∀ q,q < w.heap.size → ¬ q = S → w'.heap[q]? = w.heap[q]?) : SO w' B S g C v mv xs hs ms:=by
 have hwy : ∀ x ∈ hs ++ xs,WyM w' x:=fun x hx => by
  have k:=h.wy x hx
  obtain ⟨_,f1,f2⟩:=h.far x hx
  exact k.keep hsz (hb _ k.kn.lt f1.1) (fun a ha => hb _ (k.aolt ha) (f2 a ha).1.1)
 have hv : ∀ q,v.ownBlock = some q → w'.heap[q]? = w.heap[q]?:=fun q hq => hb q (h.hp.row.lt q hq).2 (fun e => h.vS (by rw [hq,e]))
 have hm : ∀ q,mv.ownBlock = some q → w'.heap[q]? = w.heap[q]?:=fun q hq => hb q (h.mkr.lt q hq).2 (fun e => h.mS (by rw [hq,e]))
 have hgS : ¬ g = S:=by have:=h.gB; have:=h.SB; omega
 exact ⟨zdF h.code (hb g (by have:=h.gB; have:=h.SB; have:=h.SL; omega) hgS),h.gB,h.SB,Nat.lt_of_lt_of_le h.SL hsz,⟨zcd h.hp.row hv,fun x hx => hwy x (List.mem_append_right _ hx),h.hp.far⟩,h.ord,fun x hx => hwy x (List.mem_append_left _ hx),zcd h.mkr hm,fun m hm2 => (h.mbh m hm2).kept hsz (fun q e => hb q ((h.mbh m hm2).cell q e).1 (h.mfar m hm2 _ e).1.1),h.vS,h.mS,h.vm,h.nod,h.far,h.mfar⟩
theorem SO.below (h : SO w B S g C v mv xs hs ms) (hb : Below w.heap.size w w') : SO w' B S g C v mv xs hs ms:=h.stay hb.size fun q hq _ => hb.block q hq
theorem SO.drop {y : Wy} (h : SO w B S g C v mv xs (y :: hs) ms) : SO w B S g C v mv xs hs ms :=
 ⟨h.code,h.gB,h.SB,h.SL,h.hp,h.ord,fun x hx => h.hand x (List.mem_cons_of_mem _ hx),h.mkr,h.mbh,h.vS,h.mS,h.vm,(List.nodup_cons.1 h.nod).2,fun x hx => by
  obtain ⟨a1,a2,a3⟩:=h.far x (List.mem_cons_of_mem _ hx)
  exact ⟨a1,a2,fun a ha => ⟨(a3 a ha).1,fun z hz => (a3 a ha).2 z (List.mem_cons_of_mem _ hz)⟩⟩,fun m hm a ha => ⟨(h.mfar m hm a ha).1,fun z hz => (h.mfar m hm a ha).2 z (List.mem_cons_of_mem _ hz)⟩⟩
theorem SO.turn {x : Wy} {rs : List Wy} (h : SO w B S g C v mv xs (x :: hs) ms) (hg : w.grownBy w' (some x.b)) (hr : ∀ y ∈ rs,WyM w' y) (hb : ∀ y ∈ rs,y.b = x.b ∨ w.heap.size ≤ y.b) (hn : (rs.map Wy.b).Nodup)
  (ha : ∀ y ∈ rs,∀ a,y.ao = some a → (x.ao = some a ∨ w.heap.size ≤ a.block) ∧ ∀ z ∈ rs,¬ a.block = z.b) : SO w' B S g C v mv xs (rs ++ hs) ms:=by
 have hlt:=(h.hand x List.mem_cons_self).kn.lt
 obtain ⟨x1,x2,x3⟩:=h.far x List.mem_cons_self
 have hnod:=List.nodup_cons.1 h.nod
 have hx : ∀ y ∈ hs ++ xs,¬ y.b = x.b:=fun y hy e => hnod.1 (by rw [← e]; exact List.mem_map_of_mem hy)
 have hin : ∀ y ∈ hs ++ xs,y ∈ x :: hs ++ xs:=fun y hy => List.mem_cons_of_mem _ hy
 have hblk : ∀ q,q < w.heap.size → ¬ q = x.b → w'.heap[q]? = w.heap[q]?:=fun q hq hne => hg.block q hq (fun e => hne (by cases e; rfl))
 have hwy : ∀ y ∈ hs ++ xs,WyM w' y:=fun y hy => by
  have k:=h.wy y (hin y hy)
  obtain ⟨_,f1,f2⟩:=h.far y (hin y hy)
  exact k.keep hg.size (hblk _ k.kn.lt (hx y hy)) (fun a ha => hblk _ (k.aolt ha) ((f2 a ha).2 x List.mem_cons_self))
 have hv : ∀ q,v.ownBlock = some q → w'.heap[q]? = w.heap[q]?:=fun q hq => hblk q (h.hp.row.lt q hq).2 (fun e => x2.2.1 (by rw [hq,e]))
 have hm : ∀ q,mv.ownBlock = some q → w'.heap[q]? = w.heap[q]?:=fun q hq => hblk q (h.mkr.lt q hq).2 (fun e => x2.2.2 (by rw [hq,e]))
 have free : ∀ q,w.heap.size ≤ q → Free S v mv q:=fun q hq => ⟨by have:=h.SL; omega,fun e => by have:=(h.hp.row.lt q e).2; omega,fun e => by have:=(h.mkr.lt q e).2; omega⟩
 have hrb : ∀ y ∈ rs,B ≤ y.b ∧ Free S v mv y.b:=fun y hy => by
  rcases hb y hy with e | e
  ·rw [e]; exact ⟨x1,x2⟩
  ·exact ⟨by have:=h.SB; have:=h.SL; omega,free _ e⟩
 have mem : ∀ z,z ∈ rs ++ hs ++ xs → z ∈ rs ∨ z ∈ hs ++ xs:=fun z hz => by
  rw [List.append_assoc] at hz; exact List.mem_append.1 hz
 have gne : ¬ g = x.b:=by have:=h.gB; omega
 refine ⟨zdF h.code (hblk g (by have:=h.gB; have:=h.SB; have:=h.SL; omega) gne),h.gB,h.SB,Nat.lt_of_lt_of_le h.SL hg.size,⟨zcd h.hp.row hv,fun y hy => hwy y (List.mem_append_right _ hy),h.hp.far⟩,h.ord,fun y hy => ?_,zcd h.mkr hm,fun m hm2 => (h.mbh m hm2).kept hg.size (fun q e => hblk q ((h.mbh m hm2).cell q e).1 ((h.mfar m hm2 _ e).2 x List.mem_cons_self)),h.vS,h.mS,h.vm,?_,fun y hy => ?_,fun m hm2 a ha2 => ⟨(h.mfar m hm2 a ha2).1,fun z hz => ?_⟩⟩
 ·rcases List.mem_append.1 hy with e | e
  ·exact hr y e
  ·exact hwy y (List.mem_append_left _ e)
 ·rw [List.append_assoc,List.map_append]
  refine List.nodup_append.2 ⟨hn,hnod.2,fun p hp q hq e => ?_⟩
  subst e
  obtain ⟨y,hy,rfl⟩:=List.mem_map.1 hp
  obtain ⟨z,hz,e⟩:=List.mem_map.1 hq
  rcases hb y hy with e2 | e2
  ·exact hx z hz (e.trans e2)
  ·have:=(h.wy z (hin z hz)).kn.lt; omega
 ·rcases mem y hy with e | e
  ·obtain ⟨b1,b2⟩:=hrb y e
   refine ⟨b1,b2,fun a ha2 => ?_⟩
   obtain ⟨c1,c2⟩:=ha y e a ha2
   have hfr : Free S v mv a.block ∧ ∀ z ∈ hs ++ xs,¬ a.block = z.b:=by
    rcases c1 with c | c
    ·exact ⟨(x3 a c).1,fun z hz => (x3 a c).2 z (hin z hz)⟩
    ·exact ⟨free _ c,fun z hz e3 => by have:=(h.wy z (hin z hz)).kn.lt; omega⟩
   refine ⟨hfr.1,fun z hz => ?_⟩
   rcases mem z hz with e3 | e3
   ·exact c2 z e3
   ·exact hfr.2 z e3
  ·obtain ⟨b1,b2,b3⟩:=h.far y (hin y e)
   refine ⟨b1,b2,fun a ha2 => ⟨(b3 a ha2).1,fun z hz => ?_⟩⟩
   rcases mem z hz with e3 | e3
   ·rcases hb z e3 with e4 | e4
    ·rw [e4]; exact (b3 a ha2).2 x List.mem_cons_self
    ·have:=(h.wy y (hin y e)).aolt ha2; omega
   ·exact (b3 a ha2).2 z (hin z e3)
 ·rcases mem z hz with e3 | e3
  ·rcases hb z e3 with e4 | e4
   ·rw [e4]; exact (h.mfar m hm2 a ha2).2 x List.mem_cons_self
   ·have:=zvY (h.mbh m hm2) ha2; omega
  ·exact (h.mfar m hm2 a ha2).2 z (hin z e3)
end
end Go.Proofs.YtfpgjkbjbbgciaaGreatDoor
namespace Go.Proofs.YtfpgjkbjbbgciaaGreatDoor
open Go.RowKit Sp
section
variable {w w' : World} {B S g : Nat} {C : List (Ins × Int)} {v mv : Value} {xs hs : List Wy} {ms : List Mk}
theorem SO.took {H cap : Nat} {ys : List Wy} {x : Wy} (h : SO w B S g C (.slice (some ⟨H,0,none⟩) xs.length cap) mv xs hs ms) (hk : Kept2 w w' S 1 (some H)) (hp : (x :: ys).Perm xs) (hM : HeapM w' B (.slice (some ⟨H,0,none⟩) ys.length cap) ys) (hA : HpAll (stp ys) ys.length) (hx : WyM w' x) :
  SO w' B S g C (.slice (some ⟨H,0,none⟩) ys.length cap) mv ys (x :: hs) ms:=by
 have hpp : (x :: hs ++ ys).Perm (hs ++ xs):=(List.perm_middle (l₁:=hs) (a:=x) (l₂:=ys)).symm.trans (List.Perm.append_left hs hp)
 have mem : ∀ z,z ∈ x :: hs ++ ys → z ∈ hs ++ xs:=fun z hz => hpp.mem_iff.1 hz
 have hblk : ∀ q,q < w.heap.size → ¬ q = S → ¬ q = H → w'.heap[q]? = w.heap[q]?:=fun q hq h1 h2 => hk.block q hq h1 (fun e => h2 (by cases e; rfl))
 have hwy : ∀ z ∈ hs,WyM w' z:=fun z hz => by
  have k:=h.hand z hz
  obtain ⟨_,f1,f2⟩:=h.far z (List.mem_append_left _ hz)
  exact k.keep hk.size (hblk _ k.kn.lt f1.1 (fun e => f1.2.1 (by rw [e]; rfl))) (fun a ha => hblk _ (k.aolt ha) (f2 a ha).1.1 (fun e => (f2 a ha).1.2.1 (by rw [e]; rfl)))
 have hm : ∀ q,mv.ownBlock = some q → w'.heap[q]? = w.heap[q]?:=fun q hq => hblk q (h.mkr.lt q hq).2 (fun e => h.mS (by rw [hq,e])) (fun e => h.vm H rfl (by rw [hq,e]))
 have gS : ¬ g = S:=by have:=h.gB; have:=h.SB; omega
 have gH : ¬ g = H:=by have:=h.gB; have:=(h.hp.row.lt H rfl).1; omega
 refine ⟨zdF h.code (hblk g (by have:=h.gB; have:=h.SB; have:=h.SL; omega) gS gH),h.gB,h.SB,Nat.lt_of_lt_of_le h.SL hk.size,hM,hA,fun z hz => ?_,zcd h.mkr hm,fun m hm2 => (h.mbh m hm2).kept hk.size (fun q e => hblk q ((h.mbh m hm2).cell q e).1 (h.mfar m hm2 _ e).1.1 (fun e2 => (h.mfar m hm2 _ e).1.2.1 (by rw [← e2]; rfl))),h.vS,h.mS,h.vm,(hpp.map Wy.b).nodup_iff.2 h.nod,fun z hz => ?_,fun m hm2 a ha => ⟨(h.mfar m hm2 a ha).1,fun z hz => (h.mfar m hm2 a ha).2 z (mem z hz)⟩⟩
 ·rcases List.mem_cons.1 hz with e | e
  ·rw [e]; exact hx
  ·exact hwy z e
 ·obtain ⟨a1,a2,a3⟩:=h.far z (mem z hz)
  exact ⟨a1,a2,fun a ha => ⟨(a3 a ha).1,fun y hy => (a3 a ha).2 y (mem y hy)⟩⟩
theorem SO.added {H cap : Nat} {ys : List Wy} {x : Wy} (h : SO w B S g C v mv xs (x :: hs) ms) (hk : Kept2 w w' S 1 v.ownBlock) (hp : ys.Perm (xs ++ [x])) (hM : HeapM w' B (.slice (some ⟨H,0,none⟩) ys.length cap) ys) (hA : HpAll (stp ys) ys.length) (hH : v.ownBlock = some H ∨ w.heap.size ≤ H) :
  SO w' B S g C (.slice (some ⟨H,0,none⟩) ys.length cap) mv ys hs ms:=by
 have hpp : (hs ++ ys).Perm (x :: hs ++ xs):=(List.Perm.append_left hs (hp.trans List.perm_append_comm)).trans (List.perm_middle (l₁:=hs) (a:=x) (l₂:=xs))
 have mem : ∀ z,z ∈ hs ++ ys → z ∈ x :: hs ++ xs:=fun z hz => hpp.mem_iff.1 hz
 have hblk : ∀ q,q < w.heap.size → ¬ q = S → v.ownBlock ≠ some q → w'.heap[q]? = w.heap[q]?:=fun q hq h1 h2 => hk.block q hq h1 (fun e => h2 e.symm)
 have hwy : ∀ z ∈ hs,WyM w' z:=fun z hz => by
  have k:=h.hand z (List.mem_cons_of_mem _ hz)
  obtain ⟨_,f1,f2⟩:=h.far z (List.mem_append_left _ (List.mem_cons_of_mem _ hz))
  exact k.keep hk.size (hblk _ k.kn.lt f1.1 f1.2.1) (fun a ha => hblk _ (k.aolt ha) (f2 a ha).1.1 (f2 a ha).1.2.1)
 have hm : ∀ q,mv.ownBlock = some q → w'.heap[q]? = w.heap[q]?:=fun q hq => hblk q (h.mkr.lt q hq).2 (fun e => h.mS (by rw [hq,e])) (fun e => h.vm q e hq)
 have gS : ¬ g = S:=by have:=h.gB; have:=h.SB; omega
 have gv : v.ownBlock ≠ some g:=fun e => by have:=h.gB; have:=(h.hp.row.lt g e).1; omega
 have free : ∀ q,q < w.heap.size → Free S v mv q → Free S (.slice (some ⟨H,0,none⟩) ys.length cap) mv q:=fun q hq f => by
  refine ⟨f.1,fun e => ?_,f.2.2⟩
  have e2 : H = q:=by have : some H = some q:=e; simpa using this
  rcases hH with e3 | e3
  ·exact f.2.1 (by rw [e3,e2])
  ·omega
 refine ⟨zdF h.code (hblk g (by have:=h.gB; have:=h.SB; have:=h.SL; omega) gS gv),h.gB,h.SB,Nat.lt_of_lt_of_le h.SL hk.size,hM,hA,hwy,zcd h.mkr hm,fun m hm2 => (h.mbh m hm2).kept hk.size (fun q e => hblk q ((h.mbh m hm2).cell q e).1 (h.mfar m hm2 _ e).1.1 (h.mfar m hm2 _ e).1.2.1),fun e => ?_,h.mS,fun q e e2 => ?_,(hpp.map Wy.b).nodup_iff.2 h.nod,fun z hz => ?_,fun m hm2 a ha => ⟨free _ (zvY (h.mbh m hm2) ha) (h.mfar m hm2 a ha).1,fun z hz => (h.mfar m hm2 a ha).2 z (mem z hz)⟩⟩
 ·have e2 : H = S:=by have : some H = some S:=e; simpa using this
  rcases hH with e3 | e3
  ·exact h.vS (by rw [e3,e2])
  ·have:=h.SL; omega
 ·have e3 : H = q:=by have : some H = some q:=e; simpa using this
  rcases hH with e4 | e4
  ·exact h.vm H e4 (by rw [e2,e3])
  ·have:=(h.mkr.lt q e2).2; omega
 ·have hz2:=mem z hz
  obtain ⟨a1,a2,a3⟩:=h.far z hz2
  have kz:=h.wy z hz2
  exact ⟨a1,free _ kz.kn.lt a2,fun a ha => ⟨free _ (kz.aolt ha) (a3 a ha).1,fun y hy => (a3 a ha).2 y (mem y hy)⟩⟩
theorem SO.remark {mv' : Value} {ms' : List Mk} (h : SO w B S g C v mv xs hs ms) (hk : Kept4 w w' S 2 mv.ownBlock) (hM : w'.ownsRow B 217 51 mv' ms'.length (zbg ms')) (hM' : ∀ q,mv'.ownBlock = some q → mv.ownBlock = some q ∨ w.heap.size ≤ q)
  (hms : ∀ m ∈ ms',m ∈ ms ∨ ∃ x ∈ hs ++ xs,m.ao = x.ao ∧ m.cap = x.cap ∧ m.k = x.k) : SO w' B S g C v mv' xs hs ms':=by
 have hblk : ∀ q,q < w.heap.size → ¬ q = S → mv.ownBlock ≠ some q → w'.heap[q]? = w.heap[q]?:=fun q hq h1 h2 => hk.block q hq h1 (fun e => h2 e.symm)
 have hwy : ∀ z ∈ hs ++ xs,WyM w' z:=fun z hz => by
  have k:=h.wy z hz
  obtain ⟨_,f1,f2⟩:=h.far z hz
  exact k.keep hk.size (hblk _ k.kn.lt f1.1 f1.2.2) (fun a ha => hblk _ (k.aolt ha) (f2 a ha).1.1 (f2 a ha).1.2.2)
 have hv : ∀ q,v.ownBlock = some q → w'.heap[q]? = w.heap[q]?:=fun q hq => hblk q (h.hp.row.lt q hq).2 (fun e => h.vS (by rw [hq,e])) (h.vm q hq)
 have gS : ¬ g = S:=by have:=h.gB; have:=h.SB; omega
 have gv : mv.ownBlock ≠ some g:=fun e => by have:=h.gB; have:=(h.mkr.lt g e).1; omega
 have free : ∀ q,q < w.heap.size → Free S v mv q → Free S v mv' q:=fun q hq f => by
  refine ⟨f.1,f.2.1,fun e => ?_⟩
  rcases hM' q e with e3 | e3
  ·exact f.2.2 e3
  ·omega
 refine ⟨zdF h.code (hblk g (by have:=h.gB; have:=h.SB; have:=h.SL; omega) gS gv),h.gB,h.SB,Nat.lt_of_lt_of_le h.SL hk.size,⟨zcd h.hp.row hv,fun x hx => hwy x (List.mem_append_right _ hx),h.hp.far⟩,h.ord,fun z hz => hwy z (List.mem_append_left _ hz),hM,fun m hm2 => ?_,h.vS,fun e => ?_,fun q e e2 => ?_,h.nod,fun z hz => ?_,fun m hm2 a ha => ?_⟩
 ·rcases hms m hm2 with e | ⟨x,hx,e1,e2,e3⟩
  ·exact (h.mbh m e).kept hk.size (fun q e2 => hblk q ((h.mbh m e).cell q e2).1 (h.mfar m e _ e2).1.1 (h.mfar m e _ e2).1.2.2)
  ·rw [e1,e2,e3]; exact (hwy x hx).bh
 ·rcases hM' S e with e3 | e3
  ·exact h.mS e3
  ·have:=h.SL; omega
 ·rcases hM' q e2 with e3 | e3
  ·exact h.vm q e e3
  ·have:=(h.hp.row.lt q e).2; omega
 ·obtain ⟨a1,a2,a3⟩:=h.far z hz
  have kz:=h.wy z hz
  exact ⟨a1,free _ kz.kn.lt a2,fun a ha => ⟨free _ (kz.aolt ha) (a3 a ha).1,(a3 a ha).2⟩⟩
 ·rcases hms m hm2 with e | ⟨x,hx,e1,e2,e3⟩
  ·exact ⟨free _ (zvY (h.mbh m e) ha) (h.mfar m e a ha).1,(h.mfar m e a ha).2⟩
  ·rw [e1] at ha
   obtain ⟨_,_,f2⟩:=h.far x hx
   exact ⟨free _ ((h.wy x hx).aolt ha) (f2 a ha).1,(f2 a ha).2⟩
theorem zhN {o : Nat} {hb : Option Nat} (hk : Kept2 w w' S o hb) (hS : B ≤ S) (hBw : B ≤ w.heap.size) (hh : ∀ q,hb = some q → B ≤ q) : Below B w w' :=
 ⟨hk.os,hk.tape,hk.output,hk.size,fun q hq => hk.block q (by omega) (by omega) (fun e => by have:=hh q e.symm; omega)⟩
theorem zmG {o : Nat} {hb : Option Nat} (hk : Kept4 w w' S o hb) (hS : B ≤ S) (hBw : B ≤ w.heap.size) (hh : ∀ q,hb = some q → B ≤ q) : Below B w w' :=
 ⟨hk.os,hk.tape,hk.output,hk.size,fun q hq => hk.block q (by omega) (by omega) (fun e => by have:=hh q e.symm; omega)⟩
end
end Go.Proofs.YtfpgjkbjbbgciaaGreatDoor
namespace Go.Proofs.YtfpgjkbjbbgciaaGreatDoor
open Go.RowKit Sp
theorem zvZ {w W5 W : World} {S o B g cap cap' : Nat} {ao : Option Addr} {R : Rs} {m : Mk} (A5 : RsC W5 S o (.slice (some ⟨g,0,none⟩) (R.marked.length + 1) cap') ⟨R.marked ++ [m],R.steps,R.seen,R.covers⟩)
  (K5 : Kept4 w W5 S o (Value.slice ao R.marked.length cap).ownBlock) (O5 : W5.ownsRow B 217 51 (.slice (some ⟨g,0,none⟩) (R.marked.length + 1) cap') (R.marked.length + 1) (zbg (R.marked ++ [m]))) (F5 : ∀ q,(Value.slice (some ⟨g,0,none⟩) (R.marked.length + 1) cap').ownBlock = some q → (Value.slice ao R.marked.length cap).ownBlock = some q ∨ w.heap.size ≤ q)
  (hm : zbC R.steps = true) (hS : S < w.heap.size) (hmS : (Value.slice ao R.marked.length cap).ownBlock ≠ some S) (hW : Below W5.heap.size W5 W) :
  zde w S o B (.slice ao R.marked.length cap) (R.see m) (.returned (.tuple #[])) ((W.setCell ⟨S,o + 3,none⟩ (.bool false)).setCell ⟨S,o + 2,none⟩ (.int .i64 ((R.seen : Int) + 1))):=by
 have hS5 : S < W5.heap.size:=World.block_lt_of_cell? _ _ A5.cM
 have q:=A5.below hW
 have q1 : RsC (W.setCell ⟨S,o + 3,none⟩ (.bool false)) S o (.slice (some ⟨g,0,none⟩) (R.marked.length + 1) cap') ⟨R.marked ++ [m],R.steps,R.seen,false⟩:=q.set (o + 3) _ _ q.cC (by rw [if_neg (by omega)]) (by rw [if_neg (by omega)]) (by rw [if_neg (by omega)]) (by rw [if_pos rfl])
 have q2 : RsC ((W.setCell ⟨S,o + 3,none⟩ (.bool false)).setCell ⟨S,o + 2,none⟩ (.int .i64 ((R.seen : Int) + 1))) S o (.slice (some ⟨g,0,none⟩) (R.marked.length + 1) cap') ⟨R.marked ++ [m],R.steps,R.seen + 1,false⟩:=q1.set (o + 2) _ _ q1.cN (by rw [if_neg (by omega)]) (by rw [if_neg (by omega)]) (by rw [if_pos rfl]; go_num) (by rw [if_neg (by omega)])
 have eR : R.see m = ⟨R.marked ++ [m],R.steps,R.seen + 1,false⟩:=by unfold Rs.see; rw [hm]; simp
 have hgl:=(O5.lt g rfl).2
 have hgS : ¬ g = S:=fun e => by
  rcases F5 g rfl with e2 | e2
  ·exact hmS (by rw [e2,e])
  ·omega
 refine ⟨rfl,.slice (some ⟨g,0,none⟩) (R.marked.length + 1) cap',by rw [eR]; exact q2,?_,F5,K5.trans ((zc9 hS5 hW).trans ((zck q.cC (by omega)).trans (zck q1.cN (by omega))))⟩
 rw [eR]
 show World.ownsRow _ B 217 51 _ (R.marked ++ [m]).length _
 rw [List.length_append]
 refine zcd O5 (fun q hq => ?_)
 have eq : g = q:=by have : some g = some q:=hq; simpa using this
 subst eq
 exact (Below.heap_setCell _ _ _ g hgS).trans ((Below.heap_setCell _ _ _ g hgS).trans (hW.block g hgl))
theorem zus {w : World} {S o B cap : Nat} {ao : Option Addr} {R : Rs} {x : Wy} (h : RsC w S o (.slice ao R.marked.length cap) R) (fz : ∀ j,w.frozen? ⟨S,j,none⟩ = false) (hm : zbC R.steps = true) (s0 : 0 ≤ R.steps) (s1 : R.steps ≤ 100000) (M : w.ownsRow B 217 51 (.slice ao R.marked.length cap) R.marked.length (zbg R.marked)) (X : WyM w x) (hB : B ≤ w.heap.size) (hmS : (Value.slice ao R.marked.length cap).ownBlock ≠ some S) (hl : R.marked.length ≤ 500000) (hn : R.seen ≤ 500000) :
  Calls Tryz.prog 152 #[.pointer (some ⟨S,o,none⟩),.pointer (some ⟨x.b,0,none⟩)] w (zde w S o B (.slice ao R.marked.length cap) (R.see ⟨x.ao,x.cap,x.k⟩)):=by
 have hS : S < w.heap.size:=World.block_lt_of_cell? w _ h.cM
 have hmk0 : Calls Tryz.prog 167 #[.pointer (some ⟨S,o,none⟩)] w fun e w' => e = .returned (.bool true) ∧ Below w.heap.size w w':=by
  have:=zc8 h.cS s0 s1
  rw [hm] at this; exact this
 obtain ⟨i0,z0,hi0,hz0,hz1,hz2,hz3⟩:=zjL
 have hkc : (zaS (.slice x.ao x.k.behind.length x.cap) x.k).length = 51:=zdq _ _
 have hrow : ∀ W,Below w.heap.size w W → W.rangeAt x.b 0 (zaS (.slice x.ao x.k.behind.length x.cap) x.k):=fun W hW => (X.below hW).kn.cells'
 have hone : ∀ u ∈ zaS (.slice x.ao x.k.behind.length x.cap) x.k,u.oneCell' = true:=zmA
 have hmc : Hid (zbg R.marked ++ zaS (.slice x.ao x.k.behind.length x.cap) x.k = zbg (R.marked ++ [⟨x.ao,x.cap,x.k⟩])):=(zly R.marked ⟨x.ao,x.cap,x.k⟩).symm
 generalize hcs : zaS (.slice x.ao x.k.behind.length x.cap) x.k = cs at hkc hrow hone hmc
 clear hcs
 have HF : ∀ W,Below w.heap.size w W → W.cell? ⟨S,o,none⟩ = some (.slice ao R.marked.length cap):=fun W hW => (h.below hW).cM
 have hi51 : (Tryz.prog.info? 217).map (·.size) = some cs.length:=by rw [hkc]; exact Tryz.size217
 have hu : Tryz.prog.underlying 217 = some (.struct _):=Tryz.underlying217
 go_enter Tryz.func152,Tryz.ntmps152
 go_wp2_with (go_at_call 167; (with_reducible refine hmk0.mono ?_); rintro e wx ⟨rfl,hbx⟩)
 have hbd : Below w.heap.size w wx.drew:=hbx.drew
 have f1:=HF _ hbd
 have hrd:=hrow _ hbd
 refine wp_region_any (by kernel_rfl) ?_
 change wpAny _ _ _ _ _ _ _ (World.drew _)
 refine wpAny_take (i:=0) (v:=?_) rfl (by kernel_rfl) (by kernel_rfl) (by kernel_rfl) (fun _ _ _ h => h) (Or.inl ⟨by rfl,?_⟩) ?_
 rotate_left 1
 ·intro w; go_simp; with_reducible rfl
 simp only [List.getElem_toArray,List.getElem_cons_zero,Act.put,List.setIfInBounds_toArray,List.set_cons_zero,List.set_cons_succ]
 refine wpAny_take (i:=1) (v:=?_) rfl (by kernel_rfl) (by kernel_rfl) (by kernel_rfl) (fun _ _ _ h => h) (Or.inl ⟨by rfl,?_⟩) ?_
 rotate_left 1
 ·intro w; go_simp; with_reducible rfl
 simp only [List.getElem_toArray,List.getElem_cons_zero,List.getElem_cons_succ,Act.put,List.setIfInBounds_toArray,List.set_cons_zero,List.set_cons_succ]
 refine wpAny_take (i:=2) (v:=?_) rfl (by kernel_rfl) (by kernel_rfl) (by kernel_rfl) (fun _ _ _ h => h) (Or.inl ⟨by rfl,?_⟩) ?_
 rotate_left 1
 ·intro w; go_simp; with_reducible rfl
 simp only [List.getElem_toArray,List.getElem_cons_zero,List.getElem_cons_succ,Act.put,List.setIfInBounds_toArray,List.set_cons_zero,List.set_cons_succ]
 refine wpAny_take (i:=3) (v:=?_) rfl (by kernel_rfl) (by kernel_rfl) (by kernel_rfl) (fun _ _ _ h => h) (Or.inl ⟨by rfl,?_⟩) ?_
 rotate_left 1
 ·intro w; go_simp; with_reducible rfl
 simp only [List.getElem_toArray,List.getElem_cons_zero,List.getElem_cons_succ,Act.put,List.setIfInBounds_toArray,List.set_cons_zero,List.set_cons_succ]
 refine wpAny_take (i:=5) (v:=?_) rfl (by kernel_rfl) (by kernel_rfl) (by kernel_rfl) (fun _ _ _ h => h) (Or.inl ⟨by rfl,?_⟩) ?_
 rotate_left 1
 ·intro w; go_simp; with_reducible rfl
 simp only [List.getElem_toArray,List.getElem_cons_zero,List.getElem_cons_succ,Act.put,List.setIfInBounds_toArray,List.set_cons_zero,List.set_cons_succ]
 refine wpAny_take (i:=6) (v:=?_) rfl (by kernel_rfl) (by kernel_rfl) (by kernel_rfl) (fun _ _ _ h => h) (Or.inl ⟨by rfl,?_⟩) ?_
 rotate_left 1
 ·intro w; go_simp; with_reducible rfl
 simp only [List.getElem_toArray,List.getElem_cons_zero,List.getElem_cons_succ,Act.put,List.setIfInBounds_toArray,List.set_cons_zero,List.set_cons_succ]
 have hal : ∀ o,Below w.heap.size w (wx.drew.alloc o):=fun o => hbd.alloc hbd.size o
 have f2:=HF _ (hal (.cells cs.toArray 217))
 have f3 : (wx.alloc (.cells cs.toArray 217)).cell? ⟨S,o,none⟩ = some (.slice ao R.marked.length cap):=f2
 have fz2 : ∀ j,(wx.drew.alloc (.cells cs.toArray 217)).frozen? ⟨S,j,none⟩ = false:=fun j => (World.frozen?_of_block (a:=⟨S,j,none⟩) ((hal _).block S hS)).trans (fz j)
 refine zsh 4 7 (by kernel_rfl) rfl rfl (.slice ao R.marked.length cap) wx.drew (by go_simp) ?_ rfl rfl (.agg cs.toArray) wx.drew (zg3 217 _ rfl x.b 0 rfl cs _ hrd hu rfl hi51) ?_
 simp only [List.getElem_toArray,List.getElem_cons_zero,List.getElem_cons_succ,Act.put,List.setIfInBounds_toArray,List.set_cons_zero,List.set_cons_succ]
 refine zdr 7 (by kernel_rfl) rfl rfl (.agg cs.toArray) wx.drew (zg3 217 _ rfl x.b 0 rfl cs _ hrd hu rfl hi51) ?_
 simp only [List.getElem_toArray,List.getElem_cons_zero,List.getElem_cons_succ,Act.put,List.setIfInBounds_toArray,List.set_cons_zero,List.set_cons_succ]
 refine zdr 8 (by kernel_rfl) rfl rfl (.slice (some ⟨wx.drew.heap.size,0,none⟩) 1 1) (wx.drew.alloc (.cells cs.toArray 217)) (zdY _ rfl cs rfl hkc _) ?_
 simp only [List.getElem_toArray,List.getElem_cons_zero,List.getElem_cons_succ,Act.put,List.setIfInBounds_toArray,List.set_cons_zero,List.set_cons_succ]
 rotate_left 1
 simp only [List.getElem_toArray,List.getElem_cons_zero,List.getElem_cons_succ,Act.put,List.setIfInBounds_toArray,List.set_cons_zero,List.set_cons_succ]
 refine zsh 4 8 (by kernel_rfl) rfl rfl (.slice ao R.marked.length cap) wx.drew (by go_simp) ?_ rfl rfl (.slice (some ⟨wx.drew.heap.size,0,none⟩) 1 1) (wx.drew.alloc (.cells cs.toArray 217)) (zdY _ rfl cs rfl hkc _) ?_
 simp only [List.getElem_toArray,List.getElem_cons_zero,List.getElem_cons_succ,Act.put,List.setIfInBounds_toArray,List.set_cons_zero,List.set_cons_succ]
 refine zdr 8 (by kernel_rfl) rfl rfl (.slice (some ⟨wx.drew.heap.size,0,none⟩) 1 1) (wx.drew.alloc (.cells cs.toArray 217)) (zdY _ rfl cs rfl hkc _) ?_
 simp only [List.getElem_toArray,List.getElem_cons_zero,List.getElem_cons_succ,Act.put,List.setIfInBounds_toArray,List.set_cons_zero,List.set_cons_succ]
 rotate_left 1
 simp only [List.getElem_toArray,List.getElem_cons_zero,List.getElem_cons_succ,Act.put,List.setIfInBounds_toArray,List.set_cons_zero,List.set_cons_succ]
 refine zdr 4 (by kernel_rfl) rfl rfl (.slice ao R.marked.length cap) (wx.drew.alloc (.cells cs.toArray 217)) (by go_simp) ?_
 simp only [List.getElem_toArray,List.getElem_cons_zero,List.getElem_cons_succ,Act.put,List.setIfInBounds_toArray,List.set_cons_zero,List.set_cons_succ]
 all_goals
  refine wpAny_ready (rs:=[9]) (by kernel_rfl) (by simp) (AllReady.cons rfl (fun K hK => ?_) AllReady.nil)
  refine step_append_lies _ rfl _ _ _ rfl B 217 i0 z0 51 424 Tryz.under152 hi0 hz0 hz1 hz2 hz3 (by omega) (.slice ao R.marked.length cap) R.marked.length (zbg R.marked) rfl (zcd M (fun q hq => (hal _).block q (M.lt q hq).2)) ⟨wx.drew.heap.size,0,none⟩ 1 1 cs rfl (by rw [hkc]) (zvX wx.drew cs) hone (by omega) (by unfold maxLen; omega) (by omega) (Nat.le_trans hB (hal _).size) _ rfl ?_
  intro g cap' w4 hown4 hgrow hat hg4
  refine hK _ _ ?_
  clear hK
  simp only [List.getElem_toArray,List.getElem_cons_zero,List.getElem_cons_succ,Act.put,List.setIfInBounds_toArray,List.set_cons_zero,List.set_cons_succ]
  have hne : some S ≠ (Value.slice ao R.marked.length cap).ownBlock:=fun e => hmS e.symm
  have hSx : S < (wx.drew.alloc (.cells cs.toArray 217)).heap.size:=Nat.lt_of_lt_of_le hS (hal _).size
  have c4 : w4.cell? ⟨S,o,none⟩ = some (.slice ao R.marked.length cap):=(World.cell?_of_block (a:=⟨S,o,none⟩) (hgrow.block S hSx hne)).trans f2
  have z4 : w4.frozen? ⟨S,o,none⟩ = false:=(World.frozen?_of_block (a:=⟨S,o,none⟩) (hgrow.block S hSx hne)).trans (fz2 o)
  refine zdr 10 (by kernel_rfl) rfl rfl (.pointer (some ⟨S,o,none⟩)) (w4) ?_ ?_
  ·go_simp
  simp only [List.getElem_toArray,List.getElem_cons_zero,List.getElem_cons_succ,Act.put,List.setIfInBounds_toArray,List.set_cons_zero,List.set_cons_succ]
  refine zdr 11 (by kernel_rfl) rfl rfl (.pointer (some ⟨S,o,none⟩)) (w4) ?_ ?_
  ·go_simp
  simp only [List.getElem_toArray,List.getElem_cons_zero,List.getElem_cons_succ,Act.put,List.setIfInBounds_toArray,List.set_cons_zero,List.set_cons_succ]
  refine zuq 12 (by kernel_rfl) rfl rfl (w4.setCell ⟨S,o,none⟩ (.slice (some ⟨g,0,none⟩) (R.marked.length + 1) cap')) ?_ ?_
  ·go_simp
  simp only [List.getElem_toArray,List.getElem_cons_zero,List.getElem_cons_succ,Act.put]
  refine wpAny_done (by kernel_rfl) ?_ _
  have K4 : Kept4 w w4 S o (Value.slice ao R.marked.length cap).ownBlock:=(zc9 hS (hal _)).trans (zmC hSx hmS hgrow)
  have A4 : RsC w4 S o (.slice ao R.marked.length cap) R:=by
   have e : ∀ j,w4.cell? ⟨S,j,none⟩ = w.cell? ⟨S,j,none⟩:=fun j => (World.cell?_of_block (a:=⟨S,j,none⟩) (hgrow.block S hSx hne)).trans (World.cell?_of_block (a:=⟨S,j,none⟩) ((hal _).block S hS))
   exact ⟨c4,(e _).trans h.cS,(e _).trans h.cN,(e _).trans h.cC⟩
  have A5 : RsC (w4.setCell ⟨S,o,none⟩ (.slice (some ⟨g,0,none⟩) (R.marked.length + 1) cap')) S o (.slice (some ⟨g,0,none⟩) (R.marked.length + 1) cap') ⟨R.marked ++ [⟨x.ao,x.cap,x.k⟩],R.steps,R.seen,R.covers⟩:=A4.set o _ _ c4 (by rw [if_pos rfl]) (by rw [if_neg (by omega)]) (by rw [if_neg (by omega)]) (by rw [if_neg (by omega)])
  have K5:=K4.trans (zck (o:=o) (hb:=(Value.slice ao R.marked.length cap).ownBlock) (v:=.slice (some ⟨g,0,none⟩) (R.marked.length + 1) cap') c4 (by omega))
  have hgS : ¬ g = S:=by
   rcases hat with e | e
   ·intro e2; exact hmS (by rw [e,e2])
   ·omega
  have O5 : (w4.setCell ⟨S,o,none⟩ (.slice (some ⟨g,0,none⟩) (R.marked.length + 1) cap')).ownsRow B 217 51 (.slice (some ⟨g,0,none⟩) (R.marked.length + 1) cap') (R.marked.length + 1) (zbg (R.marked ++ [⟨x.ao,x.cap,x.k⟩])):=by
   rw [← hmc.out]
   exact zcd hown4 (fun q hq => Below.heap_setCell _ _ _ q (fun e => hgS (by cases hq; exact e)))
  have HX : Hid (Kept4 w (w4.setCell ⟨S,o,none⟩ (.slice (some ⟨g,0,none⟩) (R.marked.length + 1) cap')) S o (Value.slice ao R.marked.length cap).ownBlock ∧ (w4.setCell ⟨S,o,none⟩ (.slice (some ⟨g,0,none⟩) (R.marked.length + 1) cap')).ownsRow B 217 51 (.slice (some ⟨g,0,none⟩) (R.marked.length + 1) cap') (R.marked.length + 1) (zbg (R.marked ++ [⟨x.ao,x.cap,x.k⟩])) ∧ (∀ q,(Value.slice (some ⟨g,0,none⟩) (R.marked.length + 1) cap').ownBlock = some q → (Value.slice ao R.marked.length cap).ownBlock = some q ∨ w.heap.size ≤ q)):=⟨K5,O5,fun q hq => by
   have eq : g = q:=by have : some g = some q:=hq; simpa using this
   rcases hat with e | e
   ·exact .inl (by rw [e,eq])
   ·exact .inr (by have:=(hal (.cells cs.toArray 217)).size; omega)⟩
  have fz5 : ∀ j,(w4.setCell ⟨S,o,none⟩ (.slice (some ⟨g,0,none⟩) (R.marked.length + 1) cap')).frozen? ⟨S,j,none⟩ = false:=fun j => (K5.fz j).trans (fz j)
  clear K4 A4 K5 O5 c4 z4 hgrow hown4 hat hne hSx hgS
  generalize w4.setCell ⟨S,o,none⟩ (.slice (some ⟨g,0,none⟩) (R.marked.length + 1) cap') = W5 at A5 HX fz5 ⊢
  go_wp2
  have HE : ∀ W,Below W5.heap.size W5 W → RsC W S o (.slice (some ⟨g,0,none⟩) (R.marked.length + 1) cap') ⟨R.marked ++ [⟨x.ao,x.cap,x.k⟩],R.steps,R.seen,R.covers⟩ ∧ ∀ j,W.frozen? ⟨S,j,none⟩ = false:=fun W hW => ⟨A5.below hW,fun j => (World.frozen?_of_block (a:=⟨S,j,none⟩) (hW.block S (World.block_lt_of_cell? _ _ A5.cM))).trans (fz5 j)⟩
  have HEND : Hid (∀ W,Below W5.heap.size W5 W → zde w S o B (.slice ao R.marked.length cap) (R.see ⟨x.ao,x.cap,x.k⟩) (.returned (.tuple #[])) ((W.setCell ⟨S,o + 3,none⟩ (.bool false)).setCell ⟨S,o + 2,none⟩ (.int .i64 ((R.seen : Int) + 1)))):=fun W hW => zvZ A5 HX.out.1 HX.out.2.1 HX.out.2.2 hm hS hmS hW
  have hmk5 : ∀ W,Below W5.heap.size W5 W → Calls Tryz.prog 167 #[.pointer (some ⟨S,o,none⟩)] W fun e w' => e = .returned (.bool true) ∧ Below W5.heap.size W5 w':=fun W hW => by
   have:=zc8 (HE W hW).1.cS s0 s1
   rw [show zbC (⟨R.marked ++ [⟨x.ao,x.cap,x.k⟩],R.steps,R.seen,R.covers⟩ : Rs).steps = true from hm] at this
   exact this.mono fun e w' hh => ⟨hh.1,hW.trans (hh.2.mono hW.size)⟩
  clear HX A5 fz5 hmk0 hbx hbd f1 hrd hal f2 f3 fz2 hone hkc hi51 hmc HF hrow hi0 hz0 hz1 hz2 hz3 hu M X h hmS
  cases hcv : R.covers with
  | true =>
   have HF : ∀ W,Below W5.heap.size W5 W → W.cell? ⟨S,o + 3,none⟩ = some (.bool true):=fun W hW => by rw [← hcv]; exact (HE W hW).1.cC
   refine zad 35 (fun W => Below W5.heap.size W5 W) (Below.refl _ _).drew (by kernel_rfl) (by kernel_rfl) ?_
   simp only [List.take_succ_cons,List.take_zero,List.drop_succ_cons,List.drop_zero]
   iterate 6 (refine zab rfl ?_ (fun W hW => ?_) ?_; rotate_left 1; · (have q3:=HF W hW; go_simp; with_reducible rfl))
   simp only [Act.put,List.setIfInBounds_toArray,List.set_cons_zero,List.set_cons_succ]
   iterate 1 (go_big_quiet_want; rename_i K hK; refine ⟨?_,fun W hW => ?_,hK _ ?_⟩; rotate_left 1; (· (unfold Oper.quietAt; go_simp; with_reducible rfl)); clear hK K; simp only [Act.put,List.setIfInBounds_toArray,List.set_cons_zero,List.set_cons_succ])
   go_big_quiet_want; rename_i K hK; refine ⟨.bool true,fun W hW => ?_,hK _ ?_⟩
   ·unfold Oper.quietAt; go_simp
   clear hK K
   simp only [Act.put,List.setIfInBounds_toArray,List.set_cons_zero,List.set_cons_succ]
   iterate 1 (go_big_quiet_want; rename_i K hK; refine ⟨?_,fun W hW => ?_,hK _ ?_⟩; rotate_left 1; (· (unfold Oper.quietAt; go_simp; with_reducible rfl)); clear hK K; simp only [Act.put,List.setIfInBounds_toArray,List.set_cons_zero,List.set_cons_succ])
   iterate 2 (refine zab rfl ?_ (fun W hW => ?_) ?_; rotate_left 1; · (have q3:=HF W hW; go_simp; with_reducible rfl))
   simp only [Act.put,List.setIfInBounds_toArray,List.set_cons_zero,List.set_cons_succ]
   iterate 10 go_big_quiet_skip
   iterate 2 (refine zab rfl ?_ (fun W hW => ?_) ?_; rotate_left 1; · (have q3:=HF W hW; go_simp; with_reducible rfl))
   simp only [Act.put,List.setIfInBounds_toArray,List.set_cons_zero,List.set_cons_succ]
   iterate 11 go_big_quiet_skip
   iterate 1 (refine zab rfl ?_ (fun W hW => ?_) ?_; rotate_left 1; · (have q3:=HF W hW; go_simp; with_reducible rfl))
   simp only [Act.put,List.setIfInBounds_toArray,List.set_cons_zero,List.set_cons_succ]
   refine wpQuiet_nil ?_
   intro W hW
   obtain ⟨⟨d0,d1,d2,d3⟩,zz⟩:=HE W hW
   have z2:=zz (o + 2)
   have z3:=zz (o + 3)
   have hfin:=HEND.out W hW
   have hn0 : (0 : Int) ≤ (R.seen : Int):=by omega
   have hn1 : (R.seen : Int) ≤ 500000:=by omega
   simp only at d2 d3
   clear HE HEND hmk5
   go_wp2
   exact bodyPost_end (results_none rfl _ _ _) rfl hfin
  | false =>
   have HF : ∀ W,Below W5.heap.size W5 W → W.cell? ⟨S,o + 3,none⟩ = some (.bool false):=fun W hW => by rw [← hcv]; exact (HE W hW).1.cC
   clear hmk5
   refine zad 35 (fun W => Below W5.heap.size W5 W) (Below.refl _ _).drew (by kernel_rfl) (by kernel_rfl) ?_
   simp only [List.take_succ_cons,List.take_zero,List.drop_succ_cons,List.drop_zero]
   iterate 6 (refine zab rfl ?_ (fun W hW => ?_) ?_; rotate_left 1; · (have q3:=HF W hW; go_simp; with_reducible rfl))
   simp only [Act.put,List.setIfInBounds_toArray,List.set_cons_zero,List.set_cons_succ]
   iterate 3 go_big_quiet_skip
   iterate 2 (refine zab rfl ?_ (fun W hW => ?_) ?_; rotate_left 1; · (have q3:=HF W hW; go_simp; with_reducible rfl))
   simp only [Act.put,List.setIfInBounds_toArray,List.set_cons_zero,List.set_cons_succ]
   iterate 10 go_big_quiet_skip
   iterate 2 (refine zab rfl ?_ (fun W hW => ?_) ?_; rotate_left 1; · (have q3:=HF W hW; go_simp; with_reducible rfl))
   simp only [Act.put,List.setIfInBounds_toArray,List.set_cons_zero,List.set_cons_succ]
   iterate 11 go_big_quiet_skip
   iterate 1 (refine zab rfl ?_ (fun W hW => ?_) ?_; rotate_left 1; · (have q3:=HF W hW; go_simp; with_reducible rfl))
   simp only [Act.put,List.setIfInBounds_toArray,List.set_cons_zero,List.set_cons_succ]
   refine wpQuiet_nil ?_
   intro W hW
   obtain ⟨⟨d0,d1,d2,d3⟩,zz⟩:=HE W hW
   have z2:=zz (o + 2)
   have z3:=zz (o + 3)
   have hfin:=HEND.out W hW
   have hn0 : (0 : Int) ≤ (R.seen : Int):=by omega
   have hn1 : (R.seen : Int) ≤ 500000:=by omega
   simp only at d2 d3
   clear HE HEND
   go_wp2
   exact bodyPost_end (results_none rfl _ _ _) rfl hfin
end Go.Proofs.YtfpgjkbjbbgciaaGreatDoor
