import Derived.Test.YtfpgjkbjbbgciaaGreatDoorMe39
import Derived.Test.YtfpgjkbjbbgciaaGreatDoorMe41
import Derived.Test.YtfpgjkbjbbgciaaGreatDoorMe43
set_option maxRecDepth 100000
set_option maxHeartbeats 8000000
namespace Go.Proofs.YtfpgjkbjbbgciaaGreatDoor
open Go.RowKit Sp
theorem zf3 {w : World} {B e size n : Nat} {v : Value} {l : List Value} (h : w.ownsRow B e size v n l) : ∃ ao cap,v = .slice ao n cap ∧ n ≤ cap ∧ cap ≤ maxLen ∧ (ao = none → n = 0 ∧ cap = 0):=by
 rcases h.2 with ⟨rfl,rfl⟩ | ⟨g,cap,cur,rfl,_,_,h1,h2,_⟩
 ·exact ⟨none,0,rfl,Nat.le_refl _,Nat.zero_le _,fun _ => ⟨rfl,rfl⟩⟩
 ·exact ⟨_,cap,rfl,h1,h2,fun e => by cases e⟩
theorem zvM {w : World} {B g cap : Nat} {ms : List Mk} (M : w.ownsRow B 217 51 (.slice (some ⟨g,0,none⟩) ms.length cap) ms.length (zbf ms)) {i : Nat} (hi : i < ms.length) : KnR w g (i * 51) (.slice (ms.getD i mk0).ao (ms.getD i mk0).k.behind.length (ms.getD i mk0).cap) (ms.getD i mk0).k:=by
 have e : ms[i]? = some (ms.getD i mk0):=by simp [List.getD,hi]
 refine zhJ fun j hj => ?_
 have h1:=zpt e j hj
 have hl : j < (ms.getD i mk0).cells.length:=by rw [show (ms.getD i mk0).cells.length = 51 from zcY _ _]; exact hj
 have h2 : (ms.getD i mk0).cells[j]? = some (ms.getD i mk0).cells[j]:=List.getElem?_eq_getElem hl
 rw [h2] at h1
 have:=zfz M (51 * i + j) _ h1
 rw [show i * 51 + j = 51 * i + j by omega,this]
 exact h2.symm
theorem zsa {w : World} {S o B : Nat} {mv : Value} {R : Rs} {x : Wy} (h : RsC w S o mv R) (fz : ∀ j,w.frozen? ⟨S,j,none⟩ = false) (s0 : 0 ≤ R.steps) (s1 : R.steps ≤ 100000) (M : w.ownsRow B 217 51 mv R.marked.length (zbf R.marked)) (mbh : ∀ m ∈ R.marked,BhM w m.ao m.cap m.k.behind) (X : WyM w x) (hB : B ≤ w.heap.size) (hmS : mv.ownBlock ≠ some S) (hl : R.marked.length ≤ 500000) (hn : R.seen ≤ 500000) :
  Calls Tryz.prog 152 #[.pointer (some ⟨S,o,none⟩),.pointer (some ⟨x.b,0,none⟩)] w (zcH w S o B mv (R.see ⟨x.ao,x.cap,x.k⟩)):=by
 obtain ⟨ao,cap,rfl,_,_,_⟩:=zf3 M
 cases hm : zbF R.steps with
 | true => exact zui h fz hm s0 s1 M X hB hmS hl hn
 | false =>
  cases hcv : R.covers with
  | false => exact zp3 h fz hm s0 s1 M hmS hl hn hcv
  | true =>
   by_cases hlt : R.seen < R.marked.length
   ·refine zp5 h fz hm s0 s1 M hmS hl hn hcv hlt _ rfl (fun g hg W hW => ?_)
    subst hg
    have hmem : R.marked.getD R.seen mk0 ∈ R.marked:=by simp [List.getD,hlt]
    have M' : W.ownsRow B 217 51 (.slice (some ⟨g,0,none⟩) R.marked.length cap) R.marked.length (zbf R.marked):=zbW M (fun q hq => hW.block q (M.lt q hq).2)
    have X':=X.below hW
    exact (zmy X'.kn (zvM M' hlt) X'.bh ((mbh _ hmem).below hW)).mono fun e w' hh => ⟨hh.1,hW.trans (hh.2.mono hW.size)⟩
   ·exact zp4 h fz hm s0 s1 M hmS hl hn hcv hlt
def Rs.kn (R : Rs) : RsK:=⟨R.marked.map Mk.k,R.steps,R.seen,R.covers⟩
theorem zuJ (R : Rs) (m : Mk) : (R.see m).kn = R.kn.see m.k:=by
 unfold Rs.see Rs.kn RsK.see
 simp only [RsK.mk.injEq,true_and]
 refine ⟨?_,?_⟩
 ·split <;> simp
 ·have e : (R.marked.map Mk.k).getD R.seen kn0 = (R.marked.getD R.seen mk0).k:=by
   simp only [List.getD,List.getElem?_map]
   cases R.marked[R.seen]? <;> rfl
  rw [e,List.length_map]
theorem zuj (R : Rs) (s : Int) : (R.begin s).kn = R.kn.begin s:=by
 unfold Rs.begin Rs.kn RsK.begin
 simp only [RsK.mk.injEq,and_true]
 split <;> simp
def Rs.endless (R : Rs) (m : Mk) : Option Rs :=
 if m.k.steps = R.steps then some (R.see m) else if R.covers && decide (R.seen = R.marked.length) then none else some ((R.begin m.k.steps).see m)
theorem zp6 (R : Rs) (m : Mk) : R.kn.endless m.k = (R.endless m).map Rs.kn:=by
 unfold Rs.endless RsK.endless
 show (if m.k.steps = R.steps then _ else if R.covers && decide (R.seen = (R.marked.map Mk.k).length) then _ else _) = _
 rw [List.length_map]
 split
 ·rw [Option.map_some,zuJ]
 ·split
  ·rfl
  ·rw [Option.map_some,zuJ,zuj]
theorem zuk {w : World} {B e size n cap : Nat} {ao : Option Addr} {l : List Value} (h : w.ownsRow B e size (.slice ao n cap) n l) : w.ownsRow B e size (.slice ao 0 cap) 0 []:=by
 refine ⟨by simp,?_⟩
 rcases h.2 with ⟨e1,e2⟩ | ⟨g,c,cur,e1,hB,hg,h1,h2,h3,h4⟩
 ·cases e1; exact .inl ⟨rfl,rfl⟩
 ·cases e1; exact .inr ⟨g,cap,cur,rfl,hB,hg,Nat.zero_le _,h2,h3,by simp⟩
def zgc (ao : Option Addr) (cap : Nat) (ps : List Nat) (ks : List Kn) : List Wy:=List.zipWith (fun p k => (⟨p,ao,cap,k⟩ : Wy)) ps ks
theorem zln {ao : Option Addr} {cap : Nat} {ps : List Nat} {ks : List Kn} (h : ps.length = ks.length) : (zgc ao cap ps ks).length = ks.length:=by simp [zgc,h]
theorem znO {ao : Option Addr} {cap : Nat} {ps : List Nat} {ks : List Kn} (i : Nat) (y : Wy) (h : (zgc ao cap ps ks)[i]? = some y) : ∃ p k,ps[i]? = some p ∧ ks[i]? = some k ∧ y = ⟨p,ao,cap,k⟩:=by
 unfold zgc at h
 rw [List.getElem?_zipWith] at h
 cases hp : ps[i]? with
 | none => rw [hp] at h; cases h
 | some p =>
  cases hk : ks[i]? with
  | none => rw [hp,hk] at h; cases h
  | some k => rw [hp,hk] at h; exact ⟨p,k,rfl,rfl,by simpa using h.symm⟩
theorem zvR {ao : Option Addr} {cap : Nat} {ps : List Nat} {ks : List Kn} (h : ps.length = ks.length) : (zgc ao cap ps ks).map Wy.b = ps:=by
 unfold zgc
 rw [List.map_zipWith]
 show List.zipWith (fun p _ => p) ps ks = ps
 clear ao cap
 induction ps generalizing ks with
 | nil => rfl
 | cons p r ih =>
  cases ks with
  | nil => simp at h
  | cons k t => rw [List.zipWith_cons_cons,ih (by simpa using h)]
theorem zf6 {ao : Option Addr} {cap : Nat} {ps : List Nat} {ks : List Kn} {y : Wy} (h : y ∈ zgc ao cap ps ks) : ∃ (i p : Nat) (k : Kn),ps[i]? = some p ∧ ks[i]? = some k ∧ y = ⟨p,ao,cap,k⟩:=by
 obtain ⟨i,hi⟩:=List.mem_iff_getElem?.1 h
 obtain ⟨p,k,a,b,c⟩:=znO i y hi
 exact ⟨i,p,k,a,b,c⟩
theorem zpC {w w' : World} {B S g : Nat} {C : List (Ins × Int)} {v mv : Value} {xs : List Wy} {ms : List Mk} {x : Wy} {ks : List Kn} {so : Option Addr} {ps : List Nat} {ao' : Option Addr} {cap' n' : Nat} (O : SO w B S g C v mv xs [x] ms) (A : WaysAt w w' x.b (.slice ao' n' cap') ks so ps) (hb : ∀ k' ∈ ks,n' = k'.behind.length ∧ BhM w' ao' cap' k'.behind) (ha : ao' = x.ao ∨ ∀ a,ao' = some a → w.heap.size ≤ a.block) (hf : ∀ p ∈ ps,∀ a,ao' = some a → ¬ a.block = p) (hkey : ∀ k' ∈ ks,KeyOk k') :
  SO w' B S g C v mv xs (zgc ao' cap' ps ks) ms:=by
 have:=O.turn (rs:=zgc ao' cap' ps ks) A.grown (fun y hy => ?_) (fun y hy => ?_) (by rw [zvR A.len]; exact A.nodup) (fun y hy a hya => ?_)
 ·rw [List.append_nil] at this; exact this
 ·obtain ⟨i,p,k,hp,hk,rfl⟩:=zf6 hy
  have hkm:=List.mem_of_getElem? hk
  obtain ⟨h1,h2⟩:=hb k hkm
  have h3:=A.kn i p k hp hk
  rw [h1] at h3
  exact ⟨hkey k hkm,h3,h2⟩
 ·obtain ⟨i,p,k,hp,hk,rfl⟩:=zf6 hy
  exact A.from' p (List.mem_of_getElem? hp)
 ·obtain ⟨i,p,k,hp,hk,rfl⟩:=zf6 hy
  refine ⟨?_,fun z hz => ?_⟩
  ·rcases ha with e | e
   ·exact .inl (by rw [← e]; exact hya)
   ·exact .inr (e a hya)
  ·obtain ⟨i2,p2,k2,hp2,_,rfl⟩:=zf6 hz
   exact hf p2 (List.mem_of_getElem? hp2) a hya
theorem zwH {w w0 : World} {B S g : Nat} {C : List (Ins × Int)} {cv v mv : Value} {R : Rs} {looks : Nat} {bs bf : Int} {xs hs : List Wy} {x : Wy} (O : SO w B S g C v mv xs (x :: hs) R.marked) (c : SC w S cv v mv R looks bs bf) (hb : Below B w0 w) (hlen : xs.length < 100000) :
  Calls Tryz.prog 138 #[.pointer (some ⟨S,1,none⟩),.pointer (some ⟨x.b,0,none⟩)] w fun e w' => e = .returned (.tuple #[]) ∧ ∃ (v' : Value) (ys : List Wy),ys.Perm (xs ++ [x]) ∧ SO w' B S g C v' mv ys hs R.marked ∧ SC w' S cv v' mv R looks bs bf ∧ Below B w0 w' ∧ Kept2 w w' S 1 v.ownBlock ∧ (∀ q,v'.ownBlock = some q → v.ownBlock = some q ∨ w.heap.size ≤ q):=by
 have hBw : B ≤ w.heap.size:=by have:=O.SB; have:=O.SL; omega
 obtain ⟨_,f1,f2⟩:=O.far x List.mem_cons_self
 have mem : ∀ y,y ∈ xs ++ [x] → y ∈ x :: hs ++ xs:=fun y hy => by
  rcases List.mem_append.1 hy with e | e
  ·exact List.mem_append_right _ e
  ·rw [List.mem_singleton.1 e]; exact List.mem_cons_self
 refine (zub (B:=B) c.c1 (c.fz 1) O.hp O.ord (O.hand x List.mem_cons_self) hlen hBw O.vS (fun q hq => ⟨fun e => f1.2.1 (by rw [hq,e]),fun a ha e => (f2 a ha).1.2.1 (by rw [hq,e])⟩) (fun y hy => ?_)).mono ?_
 ·obtain ⟨_,g1,g2⟩:=O.far y (mem y hy)
  exact ⟨g1.1,fun a ha => (g2 a ha).1.1⟩
 ·rintro e w' ⟨rfl,H,cap,ys,hc,hp,hM,hA,hH,hk⟩
  refine ⟨rfl,.slice (some ⟨H,0,none⟩) ys.length cap,ys,hp,O.added hk hp hM hA hH,(c.one (o:=1) hk.cell hk.fz hc).1 rfl,hb.trans (zhR hk O.SB hBw (fun q hq => (O.hp.row.lt q hq).1)),hk,fun q hq => ?_⟩
  have e : H = q:=by have : some H = some q:=hq; simpa using this
  rw [← e]; exact hH
theorem SC.kept4 {w w' : World} {S : Nat} {cv v mv mv' : Value} {R R' : Rs} {looks : Nat} {bs bf : Int} {hb : Option Nat} (h : SC w S cv v mv R looks bs bf) (hk : Kept4 w w' S 2 hb) (hr : RsC w' S 2 mv' R') : SC w' S cv v mv' R' looks bs bf:=by
 have c : ∀ j,¬ j = 2 → ¬ j = 3 → ¬ j = 4 → ¬ j = 5 → w'.cell? ⟨S,j,none⟩ = w.cell? ⟨S,j,none⟩:=fun j a b c d => hk.cell j a b c d
 exact ⟨(c _ (by omega) (by omega) (by omega) (by omega)).trans h.c0,(c _ (by omega) (by omega) (by omega) (by omega)).trans h.c1,hr,(c _ (by omega) (by omega) (by omega) (by omega)).trans h.c6,(c _ (by omega) (by omega) (by omega) (by omega)).trans h.c7,(c _ (by omega) (by omega) (by omega) (by omega)).trans h.c8,fun j => (hk.fz j).trans (h.fz j)⟩
theorem zsl {w : World} {B S g o : Nat} {C : List (Ins × Int)} {v mv u : Value} {xs hs : List Wy} {ms : List Mk} (O : SO w B S g C v mv xs hs ms) : SO (w.setCell ⟨S,o,none⟩ u) B S g C v mv xs hs ms :=
 O.stay (by rw [World.size_setCell]; exact Nat.le_refl _) (fun q _ hq => Below.heap_setCell w _ _ q hq)
theorem SC.set7 {w : World} {S : Nat} {cv v mv : Value} {R : Rs} {looks : Nat} {bs bf : Int} (h : SC w S cv v mv R looks bs bf) (n : Int) : SC (w.setCell ⟨S,7,none⟩ (.int .i64 n)) S cv v mv R looks n bf :=
 (h.one (o:=7) (fun j hj => by rw [za1 w S 7 j _ _ h.c7,if_neg hj]) (fun j => zc5) (World.cell?_setCell_same _ _ _ h.c7)).2.2.1 n rfl rfl
theorem SC.set8 {w : World} {S : Nat} {cv v mv : Value} {R : Rs} {looks : Nat} {bs bf : Int} (h : SC w S cv v mv R looks bs bf) (n : Int) : SC (w.setCell ⟨S,8,none⟩ (.int .i64 n)) S cv v mv R looks bs n :=
 (h.one (o:=8) (fun j hj => by rw [za1 w S 8 j _ _ h.c8,if_neg hj]) (fun j => zc5) (World.cell?_setCell_same _ _ _ h.c8)).2.2.2 n rfl rfl
theorem SC.set6 {w : World} {S : Nat} {cv v mv : Value} {R : Rs} {looks : Nat} {bs bf : Int} (h : SC w S cv v mv R looks bs bf) (n : Nat) : SC (w.setCell ⟨S,6,none⟩ (.int .i64 (n : Int))) S cv v mv R n bs bf :=
 (h.one (o:=6) (fun j hj => by rw [za1 w S 6 j _ _ h.c6,if_neg hj]) (fun j => zc5) (World.cell?_setCell_same _ _ _ h.c6)).2.1 n rfl rfl
theorem zsb {w : World} {S o cap n b : Nat} {ao : Option Addr} {R : Rs} {bv : Value} {k : Kn} (h : RsC w S o (.slice ao n cap) R) (X : KnM w b bv k) (e : k.steps = R.steps) (P : World → Prop) (hs : ∀ W,Below w.heap.size w W → Calls Tryz.prog 152 #[.pointer (some ⟨S,o,none⟩),.pointer (some ⟨b,0,none⟩)] W fun e w' => e = .returned (.tuple #[]) ∧ P w') :
  Calls Tryz.prog 135 #[.pointer (some ⟨S,o,none⟩),.pointer (some ⟨b,0,none⟩)] w fun e w' => e = .returned (.bool false) ∧ P w':=by
 have HF : ∀ W,Below w.heap.size w W → W.cell? ⟨S,o,none⟩ = some (.slice ao n cap) ∧ W.cell? ⟨S,o + 1,none⟩ = some (.int .i64 R.steps) ∧ W.cell? ⟨S,o + 2,none⟩ = some (.int .i64 (R.seen : Int)) ∧ W.cell? ⟨S,o + 3,none⟩ = some (.bool R.covers):=fun W hW => by
  have q:=h.below hW
  exact ⟨q.cM,q.cS,q.cN,q.cC⟩
 have te : (k.steps != R.steps) = false:=by simpa using e
 clear e
 go_enter Tryz.func135,Tryz.ntmps135
 go_wp2
 refine zac 6 (fun W => Below w.heap.size w W) (Below.refl _ _).drew (by kernel_rfl) (by kernel_rfl) ?_
 simp only [List.take_succ_cons,List.take_zero,List.drop_succ_cons,List.drop_zero]
 iterate 1 (refine zab rfl ?_ (fun W hW => ?_) ?_; rotate_left 1; · (obtain ⟨q0,q1,q2,q3⟩:=HF W hW; go_simp; with_reducible rfl))
 refine zaK rfl 134 #[.pointer (some ⟨b,0,none⟩)] (.int .i64 k.steps) (fun W hW => ?_) (fun W hW => (zbI (X.below hW X.lt)).mono (fun e w' hh => ⟨hh.1,by rw [hh.2]; exact hW⟩)) ?_
 ·go_simp
 iterate 4 (refine zab rfl ?_ (fun W hW => ?_) ?_; rotate_left 1; · (obtain ⟨q0,q1,q2,q3⟩:=HF W hW; go_simp; with_reducible rfl))
 refine wpQuiet_nil ?_
 intro W1 hW1
 have hs1:=hs W1 hW1
 go_wp2_with (go_at_call 152; (with_reducible refine hs1.mono ?_); rintro e wx ⟨rfl,hp⟩)
 go_ret
 exact ⟨rfl,hp⟩
theorem zul {w : World} {S o cap n b : Nat} {ao : Option Addr} {R : Rs} {bv : Value} {k : Kn} (h : RsC w S o (.slice ao n cap) R) (X : KnM w b bv k) (e : ¬ k.steps = R.steps) (hc : R.covers = true) (hn : R.seen = n) (hl : n ≤ 500000) :
  Calls Tryz.prog 135 #[.pointer (some ⟨S,o,none⟩),.pointer (some ⟨b,0,none⟩)] w fun e w' => e = .returned (.bool true) ∧ Below w.heap.size w w':=by
 have HF : ∀ W,Below w.heap.size w W → W.cell? ⟨S,o,none⟩ = some (.slice ao n cap) ∧ W.cell? ⟨S,o + 1,none⟩ = some (.int .i64 R.steps) ∧ W.cell? ⟨S,o + 2,none⟩ = some (.int .i64 (n : Int)) ∧ W.cell? ⟨S,o + 3,none⟩ = some (.bool true):=fun W hW => by
  have q:=h.below hW
  exact ⟨q.cM,q.cS,by rw [← hn]; exact q.cN,by rw [← hc]; exact q.cC⟩
 have te : (k.steps != R.steps) = true:=by simpa using e
 have hn2 : (n : Int) ≤ 500000:=by omega
 clear e hn hc hl
 go_enter Tryz.func135,Tryz.ntmps135
 go_wp2
 refine zac 6 (fun W => Below w.heap.size w W) (Below.refl _ _).drew (by kernel_rfl) (by kernel_rfl) ?_
 simp only [List.take_succ_cons,List.take_zero,List.drop_succ_cons,List.drop_zero]
 iterate 1 (refine zab rfl ?_ (fun W hW => ?_) ?_; rotate_left 1; · (obtain ⟨q0,q1,q2,q3⟩:=HF W hW; go_simp; with_reducible rfl))
 refine zaK rfl 134 #[.pointer (some ⟨b,0,none⟩)] (.int .i64 k.steps) (fun W hW => ?_) (fun W hW => (zbI (X.below hW X.lt)).mono (fun e w' hh => ⟨hh.1,by rw [hh.2]; exact hW⟩)) ?_
 ·go_simp
 iterate 4 (refine zab rfl ?_ (fun W hW => ?_) ?_; rotate_left 1; · (obtain ⟨q0,q1,q2,q3⟩:=HF W hW; go_simp; with_reducible rfl))
 refine wpQuiet_nil ?_
 intro W1 hW1
 go_wp2
 refine zac 15 (fun W => Below w.heap.size w W) hW1.drew (by kernel_rfl) (by kernel_rfl) ?_
 simp only [List.take_succ_cons,List.take_zero,List.drop_succ_cons,List.drop_zero]
 iterate 5 (refine zab rfl ?_ (fun W hW => ?_) ?_; rotate_left 1; · (obtain ⟨q0,q1,q2,q3⟩:=HF W hW; go_simp; with_reducible rfl))
 simp only [Act.put,List.setIfInBounds_toArray,List.set_cons_zero,List.set_cons_succ]
 iterate 10 (go_big_quiet_want; rename_i K hK; refine ⟨?_,fun W hW => ?_,hK _ ?_⟩; rotate_left 1; (· (obtain ⟨q0,q1,q2,q3⟩:=HF W hW; unfold Oper.quietAt; go_simp; with_reducible rfl)); clear hK K; simp only [Act.put,List.setIfInBounds_toArray,List.set_cons_zero,List.set_cons_succ])
 refine wpQuiet_nil ?_
 intro W2 hW2
 go_wp2
 go_ret
 exact ⟨rfl,hW2⟩
theorem zsc {w : World} {S o cap n b : Nat} {ao : Option Addr} {R : Rs} {bv : Value} {k : Kn} (h : RsC w S o (.slice ao n cap) R) (X : KnM w b bv k) (e : ¬ k.steps = R.steps) (hc : R.covers = true) (hn : ¬ R.seen = n) (hl : n ≤ 500000) (_hl2 : R.seen ≤ 500000) (Q P : World → Prop) (hg : ∀ W,Below w.heap.size w W → Calls Tryz.prog 151 #[.pointer (some ⟨S,o,none⟩),.int .i64 k.steps] W fun e w' => e = .returned (.tuple #[]) ∧ Q w')
  (hs : ∀ W,Q W → Calls Tryz.prog 152 #[.pointer (some ⟨S,o,none⟩),.pointer (some ⟨b,0,none⟩)] W fun e w' => e = .returned (.tuple #[]) ∧ P w') :
  Calls Tryz.prog 135 #[.pointer (some ⟨S,o,none⟩),.pointer (some ⟨b,0,none⟩)] w fun e w' => e = .returned (.bool false) ∧ P w':=by
 have HF : ∀ W,Below w.heap.size w W → W.cell? ⟨S,o,none⟩ = some (.slice ao n cap) ∧ W.cell? ⟨S,o + 1,none⟩ = some (.int .i64 R.steps) ∧ W.cell? ⟨S,o + 2,none⟩ = some (.int .i64 (R.seen : Int)) ∧ W.cell? ⟨S,o + 3,none⟩ = some (.bool true):=fun W hW => by
  have q:=h.below hW
  exact ⟨q.cM,q.cS,q.cN,by rw [← hc]; exact q.cC⟩
 have te : (k.steps != R.steps) = true:=by simpa using e
 have tn : ((R.seen : Int) == (n : Int)) = false:=by simpa using (by omega : ¬ (R.seen : Int) = (n : Int))
 have hn2 : (n : Int) ≤ 500000:=by omega
 have hst:=fun W (hW : Below w.heap.size w W) => zbI (X.below hW X.lt)
 clear e hn hc hl
 go_enter Tryz.func135,Tryz.ntmps135
 go_wp2
 refine zac 6 (fun W => Below w.heap.size w W) (Below.refl _ _).drew (by kernel_rfl) (by kernel_rfl) ?_
 simp only [List.take_succ_cons,List.take_zero,List.drop_succ_cons,List.drop_zero]
 iterate 1 (refine zab rfl ?_ (fun W hW => ?_) ?_; rotate_left 1; · (obtain ⟨q0,q1,q2,q3⟩:=HF W hW; go_simp; with_reducible rfl))
 refine zaK rfl 134 #[.pointer (some ⟨b,0,none⟩)] (.int .i64 k.steps) (fun W hW => ?_) (fun W hW => (zbI (X.below hW X.lt)).mono (fun e w' hh => ⟨hh.1,by rw [hh.2]; exact hW⟩)) ?_
 ·go_simp
 iterate 4 (refine zab rfl ?_ (fun W hW => ?_) ?_; rotate_left 1; · (obtain ⟨q0,q1,q2,q3⟩:=HF W hW; go_simp; with_reducible rfl))
 refine wpQuiet_nil ?_
 intro W1 hW1
 go_wp2
 refine zac 15 (fun W => Below w.heap.size w W) hW1.drew (by kernel_rfl) (by kernel_rfl) ?_
 simp only [List.take_succ_cons,List.take_zero,List.drop_succ_cons,List.drop_zero]
 iterate 5 (refine zab rfl ?_ (fun W hW => ?_) ?_; rotate_left 1; · (obtain ⟨q0,q1,q2,q3⟩:=HF W hW; go_simp; with_reducible rfl))
 simp only [Act.put,List.setIfInBounds_toArray,List.set_cons_zero,List.set_cons_succ]
 iterate 10 (go_big_quiet_want; rename_i K hK; refine ⟨?_,fun W hW => ?_,hK _ ?_⟩; rotate_left 1; (· (obtain ⟨q0,q1,q2,q3⟩:=HF W hW; unfold Oper.quietAt; go_simp; with_reducible rfl)); clear hK K; simp only [Act.put,List.setIfInBounds_toArray,List.set_cons_zero,List.set_cons_succ])
 refine wpQuiet_nil ?_
 intro W2 hW2
 have hst2:=hst W2 hW2
 have hg2:=hg W2 hW2
 go_wp2_with (first
  | (go_at_call 134; (with_reducible refine hst2.mono ?_); rintro e wx ⟨rfl,hww⟩; have hw2:=hww.symm; subst hw2)
  | (go_at_call 151; (with_reducible refine hg2.mono ?_); rintro e wy ⟨rfl,hq⟩; have hs2:=hs wy hq)
  | (go_at_call 152; (with_reducible refine hs2.mono ?_); rintro e wz ⟨rfl,hp⟩))
 go_ret
 exact ⟨rfl,hp⟩
theorem zsd {w : World} {S o cap n b : Nat} {ao : Option Addr} {R : Rs} {bv : Value} {k : Kn} (h : RsC w S o (.slice ao n cap) R) (X : KnM w b bv k) (e : ¬ k.steps = R.steps) (hc : R.covers = false) (Q P : World → Prop) (hg : ∀ W,Below w.heap.size w W → Calls Tryz.prog 151 #[.pointer (some ⟨S,o,none⟩),.int .i64 k.steps] W fun e w' => e = .returned (.tuple #[]) ∧ Q w')
  (hs : ∀ W,Q W → Calls Tryz.prog 152 #[.pointer (some ⟨S,o,none⟩),.pointer (some ⟨b,0,none⟩)] W fun e w' => e = .returned (.tuple #[]) ∧ P w') :
  Calls Tryz.prog 135 #[.pointer (some ⟨S,o,none⟩),.pointer (some ⟨b,0,none⟩)] w fun e w' => e = .returned (.bool false) ∧ P w':=by
 have HF : ∀ W,Below w.heap.size w W → W.cell? ⟨S,o,none⟩ = some (.slice ao n cap) ∧ W.cell? ⟨S,o + 1,none⟩ = some (.int .i64 R.steps) ∧ W.cell? ⟨S,o + 2,none⟩ = some (.int .i64 (R.seen : Int)) ∧ W.cell? ⟨S,o + 3,none⟩ = some (.bool false):=fun W hW => by
  have q:=h.below hW
  exact ⟨q.cM,q.cS,q.cN,by rw [← hc]; exact q.cC⟩
 have te : (k.steps != R.steps) = true:=by simpa using e
 have hst:=fun W (hW : Below w.heap.size w W) => zbI (X.below hW X.lt)
 clear e hc
 go_enter Tryz.func135,Tryz.ntmps135
 go_wp2
 refine zac 6 (fun W => Below w.heap.size w W) (Below.refl _ _).drew (by kernel_rfl) (by kernel_rfl) ?_
 simp only [List.take_succ_cons,List.take_zero,List.drop_succ_cons,List.drop_zero]
 iterate 1 (refine zab rfl ?_ (fun W hW => ?_) ?_; rotate_left 1; · (obtain ⟨q0,q1,q2,q3⟩:=HF W hW; go_simp; with_reducible rfl))
 refine zaK rfl 134 #[.pointer (some ⟨b,0,none⟩)] (.int .i64 k.steps) (fun W hW => ?_) (fun W hW => (zbI (X.below hW X.lt)).mono (fun e w' hh => ⟨hh.1,by rw [hh.2]; exact hW⟩)) ?_
 ·go_simp
 iterate 4 (refine zab rfl ?_ (fun W hW => ?_) ?_; rotate_left 1; · (obtain ⟨q0,q1,q2,q3⟩:=HF W hW; go_simp; with_reducible rfl))
 refine wpQuiet_nil ?_
 intro W1 hW1
 go_wp2
 refine zac 15 (fun W => Below w.heap.size w W) hW1.drew (by kernel_rfl) (by kernel_rfl) ?_
 simp only [List.take_succ_cons,List.take_zero,List.drop_succ_cons,List.drop_zero]
 iterate 5 (refine zab rfl ?_ (fun W hW => ?_) ?_; rotate_left 1; · (obtain ⟨q0,q1,q2,q3⟩:=HF W hW; go_simp; with_reducible rfl))
 simp only [Act.put,List.setIfInBounds_toArray,List.set_cons_zero,List.set_cons_succ]
 iterate 10 go_big_quiet_skip
 refine wpQuiet_nil ?_
 intro W2 hW2
 have hst2:=hst W2 hW2
 have hg2:=hg W2 hW2
 go_wp2_with (first
  | (go_at_call 134; (with_reducible refine hst2.mono ?_); rintro e wx ⟨rfl,hww⟩; have hw2:=hww.symm; subst hw2)
  | (go_at_call 151; (with_reducible refine hg2.mono ?_); rintro e wy ⟨rfl,hq⟩; have hs2:=hs wy hq)
  | (go_at_call 152; (with_reducible refine hs2.mono ?_); rintro e wz ⟨rfl,hp⟩))
 go_ret
 exact ⟨rfl,hp⟩
end Go.Proofs.YtfpgjkbjbbgciaaGreatDoor
