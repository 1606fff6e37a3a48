import Derived.Test.YtfpgjkbjbbgciaaGreatDoorMc51
import Derived.Test.YtfpgjkbjbbgciaaGreatDoorMc52
set_option maxRecDepth 100000
set_option maxHeartbeats 8000000
namespace Go.Proofs.YtfpgjkbjbbgciaaGreatDoor
open Go.RowKit Sp
theorem zmN (W : List Kn) (h : W ≠ []) : ∃ k ys,(k :: ys).Perm W ∧ ∀ y ∈ ys,keyK k ≤ keyK y:=by
 induction W with
 | nil => exact absurd rfl h
 | cons a r ih =>
  by_cases hr : r = []
  ·subst hr
   exact ⟨a,[],List.Perm.refl _,fun y hy => by cases hy⟩
  ·obtain ⟨k,ys,hp,hl⟩:=ih hr
   by_cases hle : keyK a ≤ keyK k
   ·refine ⟨a,r,List.Perm.refl _,fun y hy => ?_⟩
    rcases List.mem_cons.1 (hp.mem_iff.2 hy) with e | e
    ·rw [e]; exact hle
    ·have:=hl y e; omega
   ·refine ⟨k,a :: ys,(List.Perm.swap a k ys).trans (List.Perm.cons a hp),fun y hy => ?_⟩
    rcases List.mem_cons.1 hy with e | e
    ·rw [e]; omega
    ·exact hl y e
theorem zpM {W : List Kn} (n : Nat) {k : Kn} {ys : List Kn} (h : TakeR W k ys) (hn : ys.length ≤ n) : ∃ k' ys',TakeD W k' ys':=by
 induction n generalizing k ys with
 | zero =>
  have e : ys = []:=List.length_eq_zero_iff.1 (by omega)
  exact ⟨k,ys,h,fun y hy => by rw [e] at hy; cases hy⟩
 | succ n ih =>
  by_cases hm : ∃ y ∈ ys,Meet y k
  ·obtain ⟨y,hy,hm⟩:=hm
   obtain ⟨a,b,rfl⟩:=List.append_of_mem hy
   refine ih (.more h (List.perm_middle (l₁:=a) (a:=y) (l₂:=b)).symm hm) ?_
   simp only [List.length_append,List.length_cons] at hn ⊢
   omega
  ·exact ⟨k,ys,h,fun y hy hM => hm ⟨y,hy,hM⟩⟩
theorem zpN {C : List (Ins × Int)} (S : CodeSure C) (n : Nat) {G : Gs} (h : Reach C G) (hn : 500000 - G.looks ≤ n) : ∃ v,Verd C v:=by
 induction n generalizing G with
 | zero =>
  by_cases hW : G.W = []
  ·exact ⟨some (G.bs,G.bf),G,h,hW,rfl,rfl⟩
  ·exact ⟨none,G,h,hW,.inl (by omega)⟩
 | succ n ih =>
  by_cases hW : G.W = []
  ·exact ⟨some (G.bs,G.bf),G,h,hW,rfl,rfl⟩
  ·by_cases h1 : 500000 ≤ G.looks
   ·exact ⟨none,G,h,hW,.inl h1⟩
   ·by_cases h2 : 1000 < G.W.length
    ·exact ⟨none,G,h,hW,.inr (.inl h2)⟩
    ·obtain ⟨k0,ys0,hp0,hl0⟩:=zmN G.W hW
     obtain ⟨k,ys,ht⟩:=zpM ys0.length (.one hp0 hl0) (Nat.le_refl _)
     have ok:=(h.t S).ok
     obtain ⟨K,_,_,_⟩:=ht.1.kn S.ok.few ok.kn
     obtain ⟨p,hpn,hpl⟩:=K.next
     by_cases h3 : k.steps = 100000
     ·exact ⟨none,G,h,hW,.inr (.inr ⟨k,ys,ht,.inl h3⟩)⟩
     ·cases hR : G.R.endless k with
      | none => exact ⟨none,G,h,hW,.inr (.inr ⟨k,ys,ht,.inr (.inl hR)⟩)⟩
      | some R' =>
       cases hL : zav C[p].1 k with
       | none => exact ⟨none,G,h,hW,.inr (.inr ⟨k,ys,ht,.inr (.inr ⟨p,hpl,hpn,hL⟩)⟩)⟩
       | some ks =>
        exact ih (G:=⟨ys ++ ks,G.looks + 1,R',k.steps + 1,max G.bf ((k.behind.length : Int) + 1)⟩) (.step h ⟨k,ys,ks,p,hpl,by omega,by omega,ht,h3,hR,hpn,hL,List.Perm.refl _,rfl,rfl,rfl⟩) (by show 500000 - (G.looks + 1) ≤ n; omega)
theorem zhU {L : List Said} {F : List FnM} (R : Right L F) : ∃ v,VerdL L v:=by
 obtain ⟨v,hv⟩:=zpN R.sure 500000 (.zero) (by omega)
 exact ⟨v,F,R,hv⟩
def toIt (k : Key) : It:=⟨k.sort,k.line,k.word,k.nm,k.a,k.b,k.c,k.n⟩
def zwh (f : Fn) : FnM:=⟨f.name,f.line,f.body.map toIt,undef,0⟩
theorem zu4 (l : List Fn) : (l.map zwh).map FnM.fn = l:=by
 rw [List.map_map]
 have : (FnM.fn ∘ zwh) = id:=funext fun f => by
  show (⟨f.name,f.line,(f.body.map toIt).map It.key⟩ : Fn) = f
  rw [List.map_map,show (It.key ∘ toIt) = id from funext fun k => rfl,List.map_id]
 rw [this,List.map_id]
theorem zu5 (F : List Fn) (k : Key) : F.length ≤ (addK F k).length:=by
 unfold addK
 split
 ·rw [List.length_append]; omega
 ·cases h : F.getLast? with
  | none => exact Nat.le_refl _
  | some f =>
   have : F ≠ []:=fun e => by rw [e] at h; cases h
   simp only [List.length_append,List.length_dropLast,List.length_singleton]
   have:=List.length_pos_iff.2 this
   omega
theorem zij (K : List Key) (F : List Fn) : F.length ≤ (K.foldl addK F).length:=by
 induction K generalizing F with
 | nil => exact Nat.le_refl _
 | cons k r ih => exact Nat.le_trans (zu5 F k) (ih _)
theorem zfl (s : ByteArray) (h : zbN s = (0,0)) : ∃ F,Right ((lines s).map say) F:=by
 have hgood:=zmm s h
 unfold zbN at h
 by_cases hf : 4000 < s.size ∨ 300 < (lines s).length
 ·rw [if_pos hf] at h; exact absurd (congrArg Prod.fst h) (by decide)
 ·rw [if_neg hf] at h
  by_cases hok : ∀ x ∈ lines s,(say x).ok = true
  ·rw [zeA _ hok 0,ze9 _ hok] at h
   have hka:=zjp (lines s)
   generalize zaT (lines s) (lines s).length = K at h hka
   cases K with
   | nil => exact absurd (congrArg Prod.fst h) (by decide)
   | cons k r =>
    unfold sayK at h
    dsimp only at h
    by_cases h0 : k.sort = 0
    ·have hfn:=zmr _ 0 k r hka.symm h0
     refine ⟨(zaM ((lines s).map say) 0).map zwh,hgood,zhw _ 0 k r hka.symm h0,zu4 _,?_⟩
     rw [List.length_map,← hfn]
     have h1 : 0 < (addK [] k).length:=by unfold addK; rw [if_pos h0]; simp
     exact Nat.lt_of_lt_of_le h1 (zij r _)
    ·rw [if_neg h0] at h
     exact absurd (congrArg Prod.fst h) (show ¬ (2 : Int) = 0 by decide)
  ·exfalso
   have : ∃ x ∈ lines s,¬ (say x).ok = true:=by
    refine Classical.byContradiction fun hn => hok fun x hx => ?_
    refine Classical.byContradiction fun hx' => hn ⟨x,hx,hx'⟩
   obtain ⟨x,hx,hb⟩:=this
   obtain ⟨j,hj,rfl⟩:=List.mem_iff_getElem.1 hx
   exact zjA (lines s) 0 j hj (by omega) (by simpa using hb) h
def VerS (s : ByteArray) (bs bf er ln : Int) : Prop:=(¬ zbN s = (0,0) ∧ zbN s = (er,ln) ∧ bs = 0 ∧ bf = 0) ∨ (zbN s = (0,0) ∧ VerdL ((lines s).map say) none ∧ bs = 0 ∧ bf = 0 ∧ er = 8 ∧ ln = 0) ∨ (zbN s = (0,0) ∧ VerdL ((lines s).map say) (some (bs,bf)) ∧ er = 0 ∧ ln = 0)
theorem VerS.unique {s : ByteArray} {a b c d a' b' c' d' : Int} (h : VerS s a b c d) (h' : VerS s a' b' c' d') : a = a' ∧ b = b' ∧ c = c' ∧ d = d':=by
 rcases h with ⟨n,r,e1,e2⟩ | ⟨r,v,e1,e2,e3,e4⟩ | ⟨r,v,e3,e4⟩ <;> rcases h' with ⟨n',r',e1',e2'⟩ | ⟨r',v',e1',e2',e3',e4'⟩ | ⟨r',v',e3',e4'⟩
 ·rw [r] at r'; cases r'; exact ⟨by omega,by omega,rfl,rfl⟩
 ·exact absurd r' n
 ·exact absurd r' n
 ·exact absurd r n'
 ·exact ⟨by omega,by omega,by omega,by omega⟩
 ·have:=v.unique v'; cases this
 ·exact absurd r n'
 ·have:=v.unique v'; cases this
 ·have:=v.unique v'; cases this; exact ⟨rfl,rfl,by omega,by omega⟩
theorem zmO (s : ByteArray) (w : World) (hw : LibW w) (hs : s.size ≤ 1048576) : Calls Tryz.prog 26 #[.string s] w fun e w' => ∃ bs bf er ln,VerS s bs bf er ln ∧ znU w bs bf er ln e w':=by
 have hbw:=zhT w s
 have hbo:=ziL (VfW w s)
 have hb2 : Below w.heap.size w (OutW (VfW w s)):=hbw.trans (hbo.mono hbw.size)
 have hw2:=hw.below hb2
 have hsz:=zjP w s
 obtain ⟨t1,d0,d1,z⟩:=zs9 w s
 have t1' : (OutW (VfW w s)).cell? ⟨w.heap.size,0,none⟩ = some (.string s):=(World.cell?_of_block (a:=⟨w.heap.size,0,none⟩) (hbo.block _ (by show w.heap.size < _; rw [hsz]; omega))).trans t1
 have d0' : (OutW (VfW w s)).cell? ⟨w.heap.size + 1,0,none⟩ = some (.int .i64 0):=(World.cell?_of_block (a:=⟨w.heap.size + 1,0,none⟩) (hbo.block _ (by show w.heap.size + 1 < _; rw [hsz]; omega))).trans d0
 have d1' : (OutW (VfW w s)).cell? ⟨w.heap.size + 1,1,none⟩ = some (.int .i64 0):=(World.cell?_of_block (a:=⟨w.heap.size + 1,1,none⟩) (hbo.block _ (by show w.heap.size + 1 < _; rw [hsz]; omega))).trans d1
 have z' : ∀ j,(OutW (VfW w s)).frozen? ⟨w.heap.size + 1,j,none⟩ = false:=fun j => (World.frozen?_of_block (a:=⟨w.heap.size + 1,j,none⟩) (hbo.block _ (by show w.heap.size + 1 < _; rw [hsz]; omega))).trans (z j)
 by_cases hR : zbN s = (0,0)
 ·have hv:=zs8 _ hw2 w.heap.size (w.heap.size + 1) s t1' _ (ztV s hR) d0' d1' z'
  by_cases hn : VerdL ((lines s).map say) none
  ·refine (zey w s 8 0 (hv.mono ?_)).mono fun e w' h => ⟨0,0,8,0,.inr (.inl ⟨hR,hn,rfl,rfl,rfl,rfl⟩),h⟩
   rintro e w' (⟨rfl,_,hb⟩ | ⟨bs,bf,_,hv2,_⟩)
   ·exact ⟨rfl,hb⟩
   ·have:=hn.unique hv2; cases this
  ·by_cases hy : ∃ b,VerdL ((lines s).map say) (some b)
   ·obtain ⟨⟨bs,bf⟩,hy⟩:=hy
    refine (zpL w s bs bf (hv.mono ?_)).mono fun e w' h => ⟨bs,bf,0,0,.inr (.inr ⟨hR,hy,rfl,rfl⟩),h⟩
    rintro e w' (⟨_,hv2,_⟩ | ⟨bs2,bf2,rfl,hv2,w1,hb,rfl⟩)
    ·exact absurd hv2 hn
    ·have:=hy.unique hv2
     cases this
     exact ⟨rfl,w1,hb,rfl⟩
   ·exfalso
    obtain ⟨F,R⟩:=zfl s hR
    obtain ⟨v,hv2⟩:=zhU R
    cases v with
    | none => exact hn hv2
    | some b => exact hy ⟨b,hv2⟩
 ·have hv:=zu3 _ hw2 w.heap.size (w.heap.size + 1) s t1' (zbN s) hR (zrf s hs)
  exact (zey w s _ _ hv).mono fun e w' h => ⟨0,0,(zbN s).1,(zbN s).2,.inl ⟨hR,rfl,rfl,rfl⟩,h⟩
theorem zpO (s : ByteArray) : ∃ bs bf er ln,VerS s bs bf er ln:=by
 by_cases hR : zbN s = (0,0)
 ·obtain ⟨F,R⟩:=zfl s hR
  obtain ⟨v,hv⟩:=zhU R
  cases v with
  | none => exact ⟨0,0,8,0,.inr (.inl ⟨hR,hv,rfl,rfl,rfl,rfl⟩)⟩
  | some b => exact ⟨b.1,b.2,0,0,.inr (.inr ⟨hR,hv,rfl,rfl⟩)⟩
 ·exact ⟨0,0,(zbN s).1,(zbN s).2,.inl ⟨hR,rfl,rfl,rfl⟩⟩
theorem zgm {s : ByteArray} {bs bf er ln : Int} (h : VerS s bs bf er ln) (w : World) (hw : LibW w) (hs : s.size ≤ 1048576) : Calls Tryz.prog 26 #[.string s] w (znU w bs bf er ln):=by
 refine (zmO s w hw hs).mono ?_
 rintro e w' ⟨a,b,c,d,h',hp⟩
 obtain ⟨rfl,rfl,rfl,rfl⟩:=h.unique h'
 exact hp
theorem zhV {w : World} {g q o : Nat} {x : Int} {v : Value} {L : List Said} (h : LinesIn w g L) (hq : w.cell? ⟨q,0,none⟩ = some (.int .i64 x)) (hg : ¬ g = q) : LinesIn (w.setCell ⟨q,o,none⟩ v) g L:=by
 have e : ∀ b j,¬ b = q → (w.setCell ⟨q,o,none⟩ v).cell? ⟨b,j,none⟩ = w.cell? ⟨b,j,none⟩:=fun b j hb => World.cell?_of_block (a:=⟨b,j,none⟩) (Below.heap_setCell w _ _ b hb)
 refine ⟨fun i hi => (e _ _ hg).trans (h.kind i hi),fun i hi hp => ?_,h.wf⟩
 obtain ⟨b,c,h1,h2⟩:=h.words i hi hp
 have hb : ¬ b = q:=fun eb => by
  have:=h2 0 hp
  rw [eb,hq] at this
  cases this
 exact ⟨b,c,(e _ _ hg).trans h1,fun j hj => (e _ _ hb).trans (h2 j hj)⟩
theorem zjQ {w w1 w2 : World} {ob : Obj} (h1 : Below w.heap.size w w1) (h2 : Below (w1.alloc ob).heap.size (w1.alloc ob) w2) : Below w.heap.size w w2:=by
 have hs:=h1.size
 exact (h1.alloc hs ob).trans (h2.mono (by simp; omega))
def znV (w : World) (bs bf : Int) (v0 : Option Nat) (inB : Bool) (L : List Said) : Ending → World → Prop:=fun e w' => ∃ v,e = .returned (.tuple #[.agg #[.int .i64 bs,.int .i64 bf],v,.bool inB,.bool true]) ∧ Below w.heap.size w w' ∧ (v0 = some 0 → ∃ g cap,v = .slice (some ⟨g,0,none⟩) L.length cap ∧ LinesIn w' g L ∧ w.heap.size ≤ g)
theorem zl9 {s : ByteArray} (w : World) (hw : LibW w) (hs : s.size ≤ 1048576) (hR : ¬ zbN s = (0,0)) : Calls Tryz.prog 23 #[.string s] w (znV w 0 0 none false ((lines s).map say)):=by
 have hb0 : Below w.heap.size w (w.alloc (.cells #[.int .i64 0,.int .i64 0] 42)):=(Below.refl _ _).alloc (Nat.le_refl _) _
 have hs0 : (w.alloc (.cells #[.int .i64 0,.int .i64 0] 42)).heap.size = w.heap.size + 1:=by simp
 have r0:=World.cell?_alloc_new (w:=w) #[.int .i64 0,.int .i64 0] 42 0
 have r1:=World.cell?_alloc_new (w:=w) #[.int .i64 0,.int .i64 0] 42 1
 have rz:=fun j => zfI w #[.int .i64 0,.int .i64 0] 42 j
 obtain ⟨er,ln,hRe⟩ : ∃ er ln,zbN s = (er,ln):=⟨_,_,rfl⟩
 have hver:=zgm (.inl ⟨hR,hRe,rfl,rfl⟩) (w.alloc (.cells #[.int .i64 0,.int .i64 0] 42)) (hw.below hb0) hs
 have hne:=zvA hR
 have hread:=fun W => zjl s W hs
 rw [hRe] at hne
 have hread2 : ∀ W : World,Calls Tryz.prog 16 #[.string s] W (zdP W ((lines s).map say) (er,ln)):=fun W => by have:=hread W; rw [hRe] at this; exact this
 simp only at hne
 clear hR hread hRe
 go_enter Tryz.func23,Tryz.ntmps23
 go_wp2_with (first
  | (go_at_call 26; (with_reducible refine hver.mono ?_); rintro e w1 ⟨rfl,hb1⟩; obtain ⟨hc1,hf1⟩:=zdO hb1; have hz1 : w.heap.size < w1.heap.size:=Nat.lt_of_lt_of_le (by rw [hs0]; exact Nat.lt_succ_self _) hb1.size)
  | (go_at_call 16; (with_reducible refine (hread2 _).mono ?_); rintro e w2 ⟨v,rfl,hb2,hv2⟩; obtain ⟨hc2,hf2⟩:=zdO hb2; have hz2 : w1.heap.size < w2.heap.size:=Nat.lt_of_lt_of_le (by simp) hb2.size))
 have hB : Below w.heap.size w w2:=zjQ (hb0.trans (hb1.mono (by omega))) hb2
 have hsz2 : w.heap.size < w2.heap.size:=by omega
 have k0 : w2.cell? ⟨w.heap.size,0,none⟩ = some (.int .i64 0):=by rw [hc2 _ _ (by simp; omega),World.cell?_of_block (w:=w1) (a:=⟨w.heap.size,0,none⟩) (Below.heap_alloc _ _ _ hz1),hc1 _ _ (by rw [hs0]; omega)]; exact r0
 have k1 : w2.cell? ⟨w.heap.size,1,none⟩ = some (.int .i64 0):=by rw [hc2 _ _ (by simp; omega),World.cell?_of_block (w:=w1) (a:=⟨w.heap.size,1,none⟩) (Below.heap_alloc _ _ _ hz1),hc1 _ _ (by rw [hs0]; omega)]; exact r1
 refine bodyPost_ret (v:=.tuple #[.agg #[.int .i64 0,.int .i64 0],.slice none 0 0,.bool false,.bool true]) (by simp [results,Tryz.results23,go_sem,k0,k1]) rfl ⟨_,rfl,?_,?_⟩
 ·exact (hB.setCell (p:=⟨w.heap.size,0,none⟩) (Nat.le_refl _) _).setCell (p:=⟨w.heap.size,1,none⟩) (Nat.le_refl _) _
 ·intro h; cases h
theorem zmP {s : ByteArray} (w : World) (hw : LibW w) (hs : s.size ≤ 1048576) (hR : zbN s = (0,0)) (hv : VerdL ((lines s).map say) none) : Calls Tryz.prog 23 #[.string s] w (znV w 0 0 none false ((lines s).map say)):=by
 have hb0 : Below w.heap.size w (w.alloc (.cells #[.int .i64 0,.int .i64 0] 42)):=(Below.refl _ _).alloc (Nat.le_refl _) _
 have hs0 : (w.alloc (.cells #[.int .i64 0,.int .i64 0] 42)).heap.size = w.heap.size + 1:=by simp
 have r0:=World.cell?_alloc_new (w:=w) #[.int .i64 0,.int .i64 0] 42 0
 have r1:=World.cell?_alloc_new (w:=w) #[.int .i64 0,.int .i64 0] 42 1
 have rz:=fun j => zfI w #[.int .i64 0,.int .i64 0] 42 j
 have hver:=zgm (.inr (.inl ⟨hR,hv,rfl,rfl,rfl,rfl⟩)) (w.alloc (.cells #[.int .i64 0,.int .i64 0] 42)) (hw.below hb0) hs
 have hread:=fun W => zjl s W hs
 have hread2 : ∀ W : World,Calls Tryz.prog 16 #[.string s] W (zdP W ((lines s).map say) (0,0)):=fun W => by have:=hread W; rw [hR] at this; exact this
 clear hread
 generalize (lines s).map say = L at hread2 hv ⊢
 go_enter Tryz.func23,Tryz.ntmps23
 go_wp2_with (first
  | (go_at_call 26; (with_reducible refine hver.mono ?_); rintro e w1 ⟨rfl,hb1⟩; obtain ⟨hc1,hf1⟩:=zdO hb1; have hz1 : w.heap.size < w1.heap.size:=Nat.lt_of_lt_of_le (by rw [hs0]; exact Nat.lt_succ_self _) hb1.size)
  | (go_at_call 16; (with_reducible refine (hread2 _).mono ?_); rintro e w2 ⟨v,rfl,hb2,hv2⟩; obtain ⟨hc2,hf2⟩:=zdO hb2; have hz2 : w1.heap.size < w2.heap.size:=Nat.lt_of_lt_of_le (by simp) hb2.size))
 have hB : Below w.heap.size w w2:=zjQ (hb0.trans (hb1.mono (by omega))) hb2
 have hsz2 : w.heap.size < w2.heap.size:=by omega
 have k0 : w2.cell? ⟨w.heap.size,0,none⟩ = some (.int .i64 0):=by rw [hc2 _ _ (by simp; omega),World.cell?_of_block (w:=w1) (a:=⟨w.heap.size,0,none⟩) (Below.heap_alloc _ _ _ hz1),hc1 _ _ (by rw [hs0]; omega)]; exact r0
 have k1 : w2.cell? ⟨w.heap.size,1,none⟩ = some (.int .i64 0):=by rw [hc2 _ _ (by simp; omega),World.cell?_of_block (w:=w1) (a:=⟨w.heap.size,1,none⟩) (Below.heap_alloc _ _ _ hz1),hc1 _ _ (by rw [hs0]; omega)]; exact r1
 refine bodyPost_ret (v:=.tuple #[.agg #[.int .i64 0,.int .i64 0],v,.bool false,.bool true]) (by simp [results,Tryz.results23,go_sem,k0,k1]) rfl ⟨_,rfl,?_,?_⟩
 ·exact (hB.setCell (p:=⟨w.heap.size,0,none⟩) (Nat.le_refl _) _).setCell (p:=⟨w.heap.size,1,none⟩) (Nat.le_refl _) _
 ·intro h; cases h
theorem zhW {s : ByteArray} {bs bf : Int} (w : World) (hw : LibW w) (hs : s.size ≤ 1048576) (hR : zbN s = (0,0)) (hv : VerdL ((lines s).map say) (some (bs,bf))) (b1 : 1 ≤ bs) (b2 : bs ≤ 100000) (f1 : 1 ≤ bf) (f2 : bf ≤ 16) : Calls Tryz.prog 23 #[.string s] w (znV w bs bf (some 0) true ((lines s).map say)):=by
 have hb0 : Below w.heap.size w (w.alloc (.cells #[.int .i64 0,.int .i64 0] 42)):=(Below.refl _ _).alloc (Nat.le_refl _) _
 have hs0 : (w.alloc (.cells #[.int .i64 0,.int .i64 0] 42)).heap.size = w.heap.size + 1:=by simp
 have r0:=World.cell?_alloc_new (w:=w) #[.int .i64 0,.int .i64 0] 42 0
 have r1:=World.cell?_alloc_new (w:=w) #[.int .i64 0,.int .i64 0] 42 1
 have rz:=fun j => zfI w #[.int .i64 0,.int .i64 0] 42 j
 have hver:=zgm (.inr (.inr ⟨hR,hv,rfl,rfl⟩)) (w.alloc (.cells #[.int .i64 0,.int .i64 0] 42)) (hw.below hb0) hs
 have hread:=fun W => zjl s W hs
 have hread2 : ∀ W : World,Calls Tryz.prog 16 #[.string s] W (zdP W ((lines s).map say) (0,0)):=fun W => by have:=hread W; rw [hR] at this; exact this
 clear hread
 generalize (lines s).map say = L at hread2 hv ⊢
 have hnb : (bs == 0) = false:=by simpa using (by omega : ¬ bs = 0)
 go_enter Tryz.func23,Tryz.ntmps23
 go_wp2_with (first
  | (go_at_call 26; (with_reducible refine hver.mono ?_); rintro e w1 ⟨rfl,hb1⟩; obtain ⟨hc1,hf1⟩:=zdO hb1; have hz1 : w.heap.size < w1.heap.size:=Nat.lt_of_lt_of_le (by rw [hs0]; exact Nat.lt_succ_self _) hb1.size)
  | (go_at_call 16; (with_reducible refine (hread2 _).mono ?_); rintro e w2 ⟨v,rfl,hb2,hv2⟩; obtain ⟨hc2,hf2⟩:=zdO hb2; have hz2 : w1.heap.size < w2.heap.size:=Nat.lt_of_lt_of_le (by simp) hb2.size))
 have HF : ∀ W,Below w2.heap.size w2 W → W.cell? ⟨w1.heap.size,0,none⟩ = some (.int .i64 bs) ∧ W.cell? ⟨w1.heap.size,1,none⟩ = some (.int .i64 bf):=fun W hW => by
  have e : ∀ j,W.cell? ⟨w1.heap.size,j,none⟩ = (w1.alloc (.cells #[.int .i64 bs,.int .i64 bf] 42)).cell? ⟨w1.heap.size,j,none⟩:=fun j => (World.cell?_of_block (a:=⟨w1.heap.size,j,none⟩) (hW.block _ hz2)).trans (hc2 _ _ (by simp))
  rw [e,e,World.cell?_alloc_new,World.cell?_alloc_new]
  exact ⟨rfl,rfl⟩
 have k0 : w2.cell? ⟨w.heap.size,0,none⟩ = some (.int .i64 0):=by rw [hc2 _ _ (by simp; omega),World.cell?_of_block (w:=w1) (a:=⟨w.heap.size,0,none⟩) (Below.heap_alloc _ _ _ hz1),hc1 _ _ (by rw [hs0]; omega)]; exact r0
 have k1 : w2.cell? ⟨w.heap.size,1,none⟩ = some (.int .i64 0):=by rw [hc2 _ _ (by simp; omega),World.cell?_of_block (w:=w1) (a:=⟨w.heap.size,1,none⟩) (Below.heap_alloc _ _ _ hz1),hc1 _ _ (by rw [hs0]; omega)]; exact r1
 have kz : ∀ j,w2.frozen? ⟨w.heap.size,j,none⟩ = false:=fun j => by rw [hf2 _ _ (by simp; omega),World.frozen?_of_block (w:=w1) (a:=⟨w.heap.size,j,none⟩) (Below.heap_alloc _ _ _ hz1),hf1 _ _ (by rw [hs0]; omega)]; exact rz j
 have hB : Below w.heap.size w w2:=zjQ (hb0.trans (hb1.mono (by omega))) hb2
 have hsz2 : w.heap.size < w2.heap.size:=by omega
 have HL : Hid (∃ g cap,v = .slice (some ⟨g,0,none⟩) L.length cap ∧ w1.heap.size < g ∧ LinesIn w2 g L):=by
  obtain ⟨g,cap,a,b,c⟩:=hv2 trivial
  exact ⟨g,cap,a,by simp at b; omega,c⟩
 clear hc1 hf1 hc2 hf2 r0 r1 rz hver hread2 hb0 hb1 hb2 hs0 hv2 hv
 have m0 : w2.drew.cell? ⟨w.heap.size,0,none⟩ = some (.int .i64 0):=k0
 have m1 : w2.drew.cell? ⟨w.heap.size,1,none⟩ = some (.int .i64 0):=k1
 have y0 : w2.drew.frozen? ⟨w.heap.size,0,none⟩ = false:=kz 0
 have y1 : w2.drew.frozen? ⟨w.heap.size,1,none⟩ = false:=kz 1
 have HS1 : w2.drew.cell? ⟨w1.heap.size,0,none⟩ = some (.int .i64 bs) ∧ w2.drew.cell? ⟨w1.heap.size,1,none⟩ = some (.int .i64 bf):=HF _ (Below.refl _ _).drew
 have hne : ¬ w1.heap.size = w.heap.size:=by omega
 have hne2 : ¬ w.heap.size = w1.heap.size:=by omega
 have HS2 : ((w2.drew.setCell ⟨w.heap.size,0,none⟩ (.int .i64 bs)).setCell ⟨w.heap.size,1,none⟩ (.int .i64 bf)).cell? ⟨w1.heap.size,0,none⟩ = some (.int .i64 bs) ∧ ((w2.drew.setCell ⟨w.heap.size,0,none⟩ (.int .i64 bs)).setCell ⟨w.heap.size,1,none⟩ (.int .i64 bf)).cell? ⟨w1.heap.size,1,none⟩ = some (.int .i64 bf):=by
  have e : ∀ j,((w2.drew.setCell ⟨w.heap.size,0,none⟩ (.int .i64 bs)).setCell ⟨w.heap.size,1,none⟩ (.int .i64 bf)).cell? ⟨w1.heap.size,j,none⟩ = w2.drew.cell? ⟨w1.heap.size,j,none⟩:=fun j => World.cell?_of_block (a:=⟨w1.heap.size,j,none⟩) ((Below.heap_setCell _ _ _ _ hne).trans (Below.heap_setCell _ _ _ _ hne))
  rw [e,e]; exact HS1
 have hBW : Below w.heap.size w w2.drew:=hB.trans (Below.refl _ _).drew
 have hW : Below w2.heap.size w2 w2.drew:=(Below.refl _ _).drew
 have kz0:=kz 0
 have kz1:=kz 1
 clear HF kz hB
 go_region_held3 (fun W => W.cell? ⟨w1.heap.size,0,none⟩ = some (.int .i64 bs) ∧ W.cell? ⟨w1.heap.size,1,none⟩ = some (.int .i64 bf))
  (first
    | exact HS1
    | exact HS2)
  (first
    | fail)
 go_wp2
 refine bodyPost_ret (v:=.tuple #[.agg #[.int .i64 bs,.int .i64 bf],v,.bool true,.bool true]) (by simp [results,Tryz.results23,go_sem,k0,k1]) rfl ⟨_,rfl,?_,fun _ => ?_⟩
 ·exact (hBW.setCell (p:=⟨w.heap.size,0,none⟩) (Nat.le_refl _) _).setCell (p:=⟨w.heap.size,1,none⟩) (Nat.le_refl _) _
 ·obtain ⟨g,cap,a,b,c⟩:=HL.out
  have hgne : ¬ g = w.heap.size:=by omega
  have c2:=zhV (o:=0) (v:=.int .i64 bs) (c.below hW) m0 hgne
  exact ⟨g,cap,a,zhV c2 (World.cell?_setCell_same _ _ _ m0) hgne,by omega⟩
def zlA : ByteArray:=⟨#[102,117,110,99,32,102,10,98,97,99,107]⟩
def zjb : List Said:=(lines zlA).map say
theorem zjc : zbN zlA = (0,0):=by kernel_rfl
theorem zpP : zjb.length = 2:=by kernel_rfl
theorem zu6 : (zjb[0]?).map (·.kind) = some 102:=by kernel_rfl
theorem zu7 : (zjb[1]?).map zeh = some ⟨#[98,97,99,107]⟩:=by kernel_rfl
theorem zpQ : cnt zjb 1 = 0:=by kernel_rfl
theorem zpR {F : List FnM} (R : Right zjb F) : ∃ ln,zbB F = [(.back,ln)]:=by
 have key : ∀ p (hp : p < (zbB F).length),p = 0 ∧ (zbB F)[p].1 = .back:=fun p hp => by
  rw [zgc] at hp
  obtain ⟨k,f,m,it,hk,hm,rfl⟩:=zr0 F p hp
  have h1:=zj8 F 0 F k f hk m it hm
  rw [Nat.zero_add] at h1
  have h2 : (zbB F)[lenF (F.take k) + m]? = some (insM F k it,it.line):=h1
  obtain ⟨j,hj,h5,hkey,hc,_⟩:=R.it_at hk hm
  have hj2 : j = 1:=by
   have hl:=zpP
   have h0 : ¬ j = 0:=fun e => by
    subst e
    have:=zu6
    rw [List.getElem?_eq_getElem hj] at this
    simp only [Option.map_some,Option.some.injEq] at this
    omega
   omega
  subst hj2
  have hw : it.word = zeh zjb[1]:=congrArg Key.word hkey
  have hb:=zu7
  rw [List.getElem?_eq_getElem hj,Option.map_some,Option.some.injEq] at hb
  refine ⟨by rw [hc]; exact zpQ,?_⟩
  rw [(List.getElem?_eq_some_iff.1 h2).2]
  show insX it.word it.a it.b it.c it.n _ _ = .back
  rw [hw,hb]
  exact zhx _ _ _ _ _ _
 have hs:=R.codeOk.some_
 have hl : (zbB F).length = 1:=by
  by_cases h : 1 < (zbB F).length
  ·have:=(key 1 h).1; omega
  ·omega
 obtain ⟨q,hq⟩:=List.length_eq_one_iff.1 hl
 have:=(key 0 hs).2
 simp only [hq] at this
 refine ⟨q.2,?_⟩
 rw [hq]
 have e : q.1 = .back:=by simpa using this
 rw [← e]
theorem zpS {ln : Int} : Verd [(.back,ln)] (some (1,1)):=by
 have ht : TakeD [kn0] kn0 []:=⟨.one (List.Perm.refl _) (fun y hy => by cases hy),fun y hy => by cases hy⟩
 refine ⟨⟨[],1,rsk0.see kn0,1,1⟩,.step .zero ⟨kn0,[],[],0,by simp,by show 0 < 500000; omega,by show 1 ≤ 1000; omega,ht,by show ¬ (0 : Int) = 100000; omega,?_,rfl,rfl,List.Perm.refl _,rfl,rfl,rfl⟩,rfl,rfl,rfl⟩
 show rsk0.endless kn0 = some (rsk0.see kn0)
 exact if_pos rfl
theorem zmQ : VerdL ((lines zlA).map say) (some (1,1)):=by
 obtain ⟨F,R⟩:=zfl zlA zjc
 obtain ⟨ln,e⟩:=zpR R
 exact ⟨F,R,by rw [e]; exact zpS⟩
theorem znW (w : World) (hw : LibW w) : Calls Tryz.prog 22 #[] w fun e w' => e = .returned (.bool true) ∧ Below w.heap.size w w':=by
 have hv:=zhW w hw (s:=zlA) (by show 11 ≤ 1048576; omega) zjc zmQ (by omega) (by omega) (by omega) (by omega)
 have hv2 : Calls Tryz.prog 23 #[.string ⟨#[102,117,110,99,32,102,10,98,97,99,107]⟩] w fun e w' => ∃ v,e = .returned (.tuple #[.agg #[.int .i64 1,.int .i64 1],v,.bool true,.bool true]) ∧ Below w.heap.size w w':=hv.mono fun e w' ⟨v,h1,h2,_⟩ => ⟨v,h1,h2⟩
 clear hv
 go_enter Tryz.func22,Tryz.ntmps22
 go_wp2_with (go_at_call 23; (with_reducible refine hv2.mono ?_); rintro e w1 ⟨v,rfl,hb1⟩)
 go_ret
 exact ⟨rfl,hb1.alloc hb1.size _⟩
theorem VerdL.ends {L : List Said} {bs bf : Int} (h : VerdL L (some (bs,bf))) (inp : List Int) (hin : ∀ x ∈ inp,i64 x) (N : Nat) (hN : bs ≤ (N : Int)) :
  ((runS (zb9 L) N (zdB L inp)).fin = 1 ∨ (runS (zb9 L) N (zdB L inp)).fin = 2) ∧ (runS (zb9 L) N (zdB L inp)).steps ≤ bs ∧ (runS (zb9 L) N (zdB L inp)).peak ≤ bf:=by
 obtain ⟨F,R,hv⟩:=h
 have e:=(zvB R.sim R.codeOk N (ziE R.codeOk inp)).1
 rw [← R.begin inp] at e
 rw [e]
 exact hv.ends R.sure inp hin N hN
theorem VerdL.bound {L : List Said} {bs bf : Int} (h : VerdL L (some (bs,bf))) : 1 ≤ bs ∧ bs ≤ 100000 ∧ 1 ≤ bf ∧ bf ≤ 16:=by
 obtain ⟨F,R,hv⟩:=h
 exact hv.bound R.sure
theorem zsA (m : Mc) (ov : Value) (line : Int) : (zbA m ov line)[27]? = some (.int .i64 m.peak):=by simp [zbA]
theorem zpT (m : Mc) (ov : Value) (line : Int) : (zbA m ov line)[29]? = some (.int .i64 m.fin):=by simp [zbA]
theorem zlB {s : ByteArray} (w : World) (hw : LibW w) (iv : Value) (hv : ∀ W,LibW W → Calls Tryz.prog 23 #[.string s] W (znV W 0 0 none false ((lines s).map say))) : Calls Tryz.prog 5 #[.string s,iv] w fun e w' => e = .returned (.bool true) ∧ Below w.heap.size w w':=by
 have hl:=znW w hw
 go_enter Tryz.func5,Tryz.ntmps5
 go_wp2_with (first
  | (go_at_call 22; (with_reducible refine hl.mono ?_); rintro e w1 ⟨rfl,hb1⟩; have hv1:=hv w1 (hw.below hb1))
  | (go_at_call 23; (with_reducible refine hv1.mono ?_); rintro e w2 ⟨v,rfl,hb2,_⟩))
 go_ret
 have hB:=hb1.trans (hb2.mono hb1.size)
 exact ⟨rfl,hB.alloc hB.size _⟩
theorem zu8 {s : ByteArray} {bs bf : Int} (w : World) (hw : LibW w) (ao : Option Addr) (icap : Nat) (inp : List Int) (hs : s.size ≤ 1048576) (hiv : SlB w w.heap.size (.slice ao inp.length icap) inp) (hin : inp.length ≤ 1048576) (h64 : ∀ x ∈ inp,i64 x) (hR : zbN s = (0,0)) (hv : VerdL ((lines s).map say) (some (bs,bf))) :
  Calls Tryz.prog 5 #[.string s,.slice ao inp.length icap] w fun e w' => e = .returned (.bool true) ∧ Below w.heap.size w w':=by
 have hl:=znW w hw
 obtain ⟨b1,b2,f1,f2⟩:=hv.bound
 obtain ⟨n,rfl⟩:=Int.eq_ofNat_of_zero_le (show 0 ≤ bs by omega)
 have hver:=fun W (hW : LibW W) => zhW (s:=s) W hW hs hR hv b1 b2 f1 f2
 obtain ⟨e1,_,e3⟩:=hv.ends inp h64 n (Int.le_refl _)
 have G:=zmm s hR
 have htr:=fun (W : World) (g cap2 : Nat) (hL : LinesIn W g ((lines s).map say)) (hb : Below w.heap.size w W) => zoV W g cap2 n icap ao ((lines s).map say) inp G hL (hiv.mono hb) hin (by omega)
 generalize runS (zb9 ((lines s).map say)) n (zdB ((lines s).map say) inp) = FIN at e1 e3 htr
 generalize (lines s).map say = L at hver htr
 clear hv G hR hiv
 go_enter Tryz.func5,Tryz.ntmps5
 go_wp2_with (first
  | (go_at_call 22; (with_reducible refine hl.mono ?_); rintro e w1 ⟨rfl,hb1⟩; have hv1:=hver w1 (hw.below hb1))
  | (go_at_call 23; (with_reducible refine hv1.mono ?_); rintro e w2 ⟨v,rfl,hb2,hL2⟩; obtain ⟨g,gcap,rfl,hLn,hg⟩:=hL2 rfl; have hB2 : Below w.heap.size w w2:=hb1.trans (hb2.mono hb1.size); have hal : Below w2.heap.size w2 (w2.alloc (.cells #[.int .i64 (n : Int),.int .i64 bf] 42)):=(Below.refl _ _).alloc (Nat.le_refl _) _; have ht2:=htr _ g gcap (hLn.below hal) (hB2.trans (hal.mono hB2.size)))
  | (go_at_call 24; refine Hid.out ?_))
 unfold Hid
 have q6 : (w2.alloc (.cells #[.int .i64 (n : Int),.int .i64 bf] 42)).cell? ⟨w2.heap.size,1,none⟩ = some (.int .i64 bf):=World.cell?_alloc_new (w:=w2) #[.int .i64 (n : Int),.int .i64 bf] 42 1
 have hs2 : (w2.alloc (.cells #[.int .i64 (n : Int),.int .i64 bf] 42)).heap.size = w2.heap.size + 1:=by simp
 have hB3 : Below w.heap.size w (w2.alloc (.cells #[.int .i64 (n : Int),.int .i64 bf] 42)):=hB2.trans (hal.mono hB2.size)
 refine ht2.mono ?_
 rintro e w4 ⟨oo,no,co,rfl,_,hb4⟩
 dsimp only
 have q64 : w4.cell? ⟨w2.heap.size,1,none⟩ = some (.int .i64 bf):=(World.cell?_of_block (a:=⟨w2.heap.size,1,none⟩) (hb4.block _ (by show w2.heap.size < _; rw [hs2]; omega))).trans q6
 have hB4 : Below w.heap.size w w4:=hB3.trans (hb4.mono hB3.size)
 have hlt : w2.heap.size < w4.heap.size:=Nat.lt_of_lt_of_le (by rw [hs2]; omega) hb4.size
 have hln:=zcM FIN (.slice oo no co) FIN.line
 have h1:=zcN FIN oo no co FIN.line
 have h27:=zsA FIN (.slice oo no co) FIN.line
 have h29:=zpT FIN (.slice oo no co) FIN.line
 generalize zbA FIN (.slice oo no co) FIN.line = ds at hln h1 h27 h29
 have hi:=zga ds hln
 have ht5:=zf6 (W1:=w4) rfl ds hln
 have hB5 : Below w4.heap.size w4 ((w4.alloc Z34).setCells w4.heap.size 0 ds.toArray.toList):=zbd _ 0 ((Below.refl w4.heap.size w4).alloc (Nat.le_refl _) _) (Nat.le_refl _)
 have hr5 : ((w4.alloc Z34).setCells w4.heap.size 0 ds.toArray.toList).rangeAt w4.heap.size 0 ds:=by rw [show ds.toArray.toList = ds by simp]; exact World.rangeAt_setCells_same _ _ _ _ (by rw [show ds.length = ds.toArray.size by simp]; exact ht5)
 have c27:=hr5 27 _ h27
 have c29:=hr5 29 _ h29
 rw [Nat.zero_add] at c27 c29
 have q65 : ((w4.alloc Z34).setCells w4.heap.size 0 ds.toArray.toList).cell? ⟨w2.heap.size,1,none⟩ = some (.int .i64 bf):=(World.cell?_of_block (a:=⟨w2.heap.size,1,none⟩) (hB5.block _ hlt)).trans q64
 have hB6 : Below w.heap.size w ((w4.alloc Z34).setCells w4.heap.size 0 ds.toArray.toList):=hB4.trans (hB5.mono hB4.size)
 clear hr5 h27 h29 q64 q6 ht2 hv1 htr hver hl hB3 hB4 hB5 hb4 hb1 hb2 hB2 hal hLn
 have hpk : decide (FIN.peak ≤ bf) = true:=by simpa using e3
 rcases e1 with e1 | e1
 ·rw [e1] at c29
  go_wp2_with (first | (refine wpList_store_mid rfl 34 _ _ rfl w4.heap.size 0 ds.toArray rfl rfl ht5 hi h1 ?_))
  go_ret
  exact ⟨rfl,hB6⟩
 ·rw [e1] at c29
  go_wp2_with (first | (refine wpList_store_mid rfl 34 _ _ rfl w4.heap.size 0 ds.toArray rfl rfl ht5 hi h1 ?_))
  go_ret
  exact ⟨rfl,hB6⟩
theorem zu9 (s : ByteArray) (w : World) (hw : LibW w) (ao : Option Addr) (icap : Nat) (inp : List Int) (hs : s.size ≤ 1048576) (hiv : SlB w w.heap.size (.slice ao inp.length icap) inp) (hin : inp.length ≤ 1048576) (h64 : ∀ x ∈ inp,i64 x) :
  Calls Tryz.prog 5 #[.string s,.slice ao inp.length icap] w fun e w' => e = .returned (.bool true) ∧ Below w.heap.size w w':=by
 obtain ⟨bs,bf,er,ln,h | h | h⟩:=zpO s
 ·exact zlB w hw _ (fun W hW => zl9 W hW hs h.1)
 ·exact zlB w hw _ (fun W hW => zmP W hW hs h.1 h.2.1)
 ·exact zu8 w hw ao icap inp hs hiv hin h64 h.1 h.2.1
end Go.Proofs.YtfpgjkbjbbgciaaGreatDoor
namespace Go.Proofs.YtfpgjkbjbbgciaaGreatDoor
open Go.ChangeShapes Go.WideShapes Go.ChangeAt Go.RowKit Sp
open Go.ChangeMaps (open_string shut_string)
theorem zmR {H : Type} {enc : TypeId × Value → H} {W : World} {base : Nat} {v : Value} {d : DataW H} {p : List MemPlace} (hval : Value.okWide Tryz.prog W .any base 29 v) (h : DataW.Trod enc Tryz.prog W 0 (fun _ => true) true 29 v d p) :
  ∃ (ao : Option Addr) (icap : Nat) (inp : List Int),v = .slice ao inp.length icap ∧ SlB W W.heap.size (.slice ao inp.length icap) inp ∧ inp.length ≤ Rows.uptoBulk d ∧ (∀ x ∈ inp,i64 x) ∧
   ∀ W',Below W.heap.size W W' → DataW.Trod enc Tryz.prog W' 0 (fun b => decide (b < W.heap.size)) true 29 v d p:=by
 obtain ⟨a0,len0,cap0,rfl⟩:=okWide_slice Tryz.underlying29 hval
 obtain ⟨fuel,hf⟩:=h
 have hc : Tryz.prog.cellsOf 2 = 1:=by kernel_rfl
 rcases open_ints Tryz.underlying29 Tryz.underlying2 hc hf with ⟨hcs,hx⟩ | ⟨a,len,cap,zs,hcs,_,hle,hmax,hall,hx,hcell,hwf⟩
 ·simp [Value.cells] at hcs
  obtain ⟨rfl,rfl,rfl⟩:=hcs
  simp only [Prod.mk.injEq] at hx
  obtain ⟨rfl,rfl⟩:=hx
  refine ⟨none,0,[],rfl,⟨none,0,rfl,Nat.le_refl _,fun h => by simp at h⟩,Nat.zero_le _,(fun x hx => (by cases hx)),fun W' _ => ⟨1,?_⟩⟩
  simp [DataW.trod,Value.cells,Tryz.underlying29]
 ·simp [Value.cells] at hcs
  obtain ⟨rfl,rfl,rfl⟩:=hcs
  simp only [Prod.mk.injEq] at hx
  obtain ⟨rfl,rfl⟩:=hx
  simp only [if_true] at hall
  have hlt : (zs.take len0).length = len0:=by rw [List.length_take]; omega
  refine ⟨some a,cap0,zs.take len0,by rw [hlt],⟨some a,cap0,rfl,by omega,fun hp => ?_⟩,?_,fun x hx => ?_,fun W' hb => ⟨2,?_⟩⟩
  ·obtain ⟨b,off,rfl,hat⟩:=ints_at hcell (by omega)
   have hbl : b < W.heap.size:=World.block_lt_of_cell? W _ (hat 0 (by omega))
   refine ⟨b,off,rfl,hbl,hbl,fun j hj => ?_⟩
   rw [hat j (by omega)]
   simp [List.getD,show j < zs.length by omega]
  ·have:=zpa (lits (H:=H) .i64 (zs.take len0)) (lits .i64 (zs.drop len0))
   have hll : (lits (H:=H) .i64 (zs.take len0)).length = (zs.take len0).length:=by simp [lits]
   rw [hll] at this
   exact Nat.le_trans (Nat.le_add_right _ _) this
  ·have:=hwf x (List.mem_of_mem_take hx)
   simp only [Lit.wf,Bool.and_eq_true,decide_eq_true_eq] at this
   exact this
  ·have hz : zs.length = (if decide (a.block < W.heap.size) = true then cap0 else len0):=by
    by_cases h0 : 0 < zs.length
    ·have : a.block < W.heap.size:=by
      have:=World.block_lt_of_cell? W _ (hcell 0 h0)
      simpa [Addr.add] using this
     rw [if_pos (by simpa using this)]; exact hall
    ·split <;> omega
   have:=shut_ints (enc:=enc) (P:=Tryz.prog) (w:=W') (base:=0) (spare:=fun b => decide (b < W.heap.size)) (held:=true) 0 Tryz.underlying29 Tryz.underlying2 hc (Nat.zero_le _) hle hmax hz (fun i hi => zaC hb (hcell i hi)) hwf
   simpa [Value.cells] using this
theorem zsB (H : Type) (enc : TypeId × Value → H) (W : World) (base : Nat) (args : Array Value) (ds gs : List (DataW H)) (before : List MemPlace)
  (hval : ∀ (j : Nat) t v,Tryz.f5.params[j]? = some t → args[j]? = some v → Value.okWide Tryz.prog W .any base t v)
  (hW : DataW.Whole enc Tryz.prog Tryz.f5.params.toList Rows.soundSpec.vars false W args.toList ds gs before) (hbulk : Rows.uptoSmall H (ds ++ gs) = true) (hL : laidMetH Tryz.prog Rows.soundUptoRow.laid W) (hsh : W.ShapedOpen Tryz.prog) :
  Calls Tryz.prog 5 args W fun e W' => ∃ v,e = .returned v ∧ Rows.soundSpec.post enc Tryz.prog Tryz.f5 false true false false W args v W':=by
 have hW':=hW
 obtain ⟨p,q,hA0,hV,rfl,hfz,hnd⟩:=hW
 have hA : DataW.TrodAll enc Tryz.prog W 0 (fun _ => true) true Tryz.f5.params.toList args.toList ds p:=hA0
 rw [Tryz.params5] at hA hval
 obtain ⟨v0,v1,d0,d1,p0,p1,rfl,rfl,rfl,h0,h1⟩:=trodAll_two hA
 obtain ⟨rfl,rfl⟩:=trodVars_none hV
 obtain ⟨s,rfl,rfl,rfl,ws⟩:=open_string Tryz.underlying9 (hval 0 9 v0 rfl rfl) h0
 obtain ⟨ao,icap,inp,rfl,hiv,hbk,h64,hback⟩:=zmR (hval 1 29 v1 rfl rfl) h1
 have hsz : s.size ≤ 1048576 ∧ inp.length ≤ 1048576:=by
  have h:=of_decide_eq_true hbulk
  simp only [List.append_nil,Rows.uptoBulkAll,Rows.uptoBulk,Array.length_toList] at h
  have e : s.size = s.data.size:=rfl
  omega
 clear hA0
 simp only [List.append_nil] at hW'
 refine (zu9 s W (zlT hL hsh) ao icap inp hsz.1 hiv hsz.2 h64).mono fun e W' ⟨he,hb⟩ => ?_
 subst he
 refine ⟨_,rfl,_,_,_,[],[] ++ p1,[],hW',?_,?_,?_,hb.frame _,fun h => by cases h⟩
 ·exact trodAll_mk1 (shut_bool Tryz.underlying4 _)
 ·exact trodAll_mk2 (shut_string Tryz.underlying9 ws) (hback W' hb)
 ·rfl
end Go.Proofs.YtfpgjkbjbbgciaaGreatDoor
namespace Go.Proofs.YtfpgjkbjbbgciaaGreatDoor
open Go.ChangeShapes Go.WideShapes Go.ChangeAt Go.RowKit Sp
theorem zlC (os : Os) {H : Type} (enc : TypeId × Value → H) :
  (Rows.OpenSpec.upto Rows.soundSpec).preRow enc Tryz.prog Tryz.f5 Rows.soundUptoRow.domain false Rows.soundUptoRow.laid ((laidWorld os).forCall (fun _ _ => 0) ⟨#[],#[.string ⟨#[]⟩,.slice none 0 0],[]⟩).memory #[.string ⟨#[]⟩,.slice none 0 0]:=by
 have hw : (DataW.whole enc Tryz.prog ((laidWorld os).forCall (fun _ _ => 0) ⟨#[],#[.string ⟨#[]⟩,.slice none 0 0],[]⟩).memory Tryz.f5.params.toList Rows.soundSpec.vars false #[Value.string ⟨#[]⟩,.slice none 0 0].toList 8).map (fun x => (x.1,x.2.1)) =
   some ([.lit (.string []),.nil],[]):=by kernel_rfl
 obtain ⟨⟨x1,x2,x3⟩,hx,hx1⟩:=Option.map_eq_some_iff.1 hw
 simp only [Prod.mk.injEq] at hx1
 obtain ⟨rfl,rfl⟩:=hx1
 exact OpenSpec.preRow_of_cond 8 hx (by kernel_rfl) (fun k hk => by cases hk; kernel_rfl) (by kernel_rfl) (zt6 os _)
theorem zmS (os : Os) (started : os.Started) (H : Type) (enc : TypeId × Value → H) (F : Stop.Interp) :
  ReturnsInHanded {} Tryz.checked os 5 .any ((Rows.OpenSpec.upto Rows.soundSpec).preRow enc Tryz.prog Tryz.f5 Rows.soundUptoRow.domain false Rows.soundUptoRow.laid) (((Rows.OpenSpec.upto Rows.soundSpec).at F).post enc Tryz.prog Tryz.f5 false true false false):=by
 refine returnsInHanded_of_row (C:=Tryz.checked) (s:=Rows.OpenSpec.upto Rows.soundSpec) Tryz.own started (by kernel_rfl) Tryz.func5
  (witness_row_atRef (enc:=enc) (C:=Tryz.checked) false (laidWorld os) #[.string ⟨#[]⟩,.slice none 0 0] rfl (by kernel_rfl) (by kernel_rfl) (by kernel_rfl) (zlC os enc)) ?_
 intro W base args ds gs before hval hW x1 x2 x3 hL x4 x5
 exact zsB H enc W base args ds gs before hval hW (x2 _ rfl) hL x4
theorem zsC : Rows.SoundUptoSaid :=
 OpenClaim.holds_of_cond 5 Tryz.f5 rfl rfl rfl rfl rfl rfl rfl ⟨rfl,rfl,rfl,rfl,rfl⟩ rfl rfl rfl rfl rfl (by kernel_rfl) Tryz.func5 (by kernel_rfl)
  (of_decide_eq_true (by kernel_rfl)) (by unfold Func.isWrapper; first | (rw [if_pos (by decide +kernel)]; kernel_rfl) | (rw [if_neg (by decide +kernel)]; exact ⟨rfl,rfl⟩))
  (fun os started H enc _ F => by rw [OpenClaim.pre_eq_preRow]; exact zmS os started H enc F)
theorem zwE (f : FuncId) (fn : Func) (hf : Tryz.pinned.checked.prog.funcNamed "bounded/boundedlaw.Sound" = some f) (hfn : Tryz.pinned.checked.prog.funcs[f]? = some fn) :
  true = Tryz.pinned.checked.prog.looks [] ∧ ∀ (j : Nat) t,fn.params[j]? = some t → Tryz.pinned.checked.prog.wantsStandIn t = false:=by
 obtain rfl : f = 5:=Option.some.inj ((show Tryz.prog.funcNamed "bounded/boundedlaw.Sound" = some 5 by kernel_rfl).symm.trans hf) |>.symm
 obtain rfl : fn = Tryz.f5:=(Option.some.inj (Tryz.func5.symm.trans hfn)).symm
 refine ⟨by kernel_rfl,fun j t ht => ?_⟩
 rw [Tryz.params5] at ht
 have hm : t = 9 ∨ t = 29:=by simpa using Array.mem_of_getElem? ht
 rcases hm with rfl | rfl
 ·exact (show Tryz.prog.wantsStandIn 9 = false by kernel_rfl)
 ·exact (show Tryz.prog.wantsStandIn 29 = false by kernel_rfl)
theorem scardUpto : Rows.SoundUptoCardSaid :=
 Claim7.holds_tied_plain_at .later [] _ _ _ _ zsC (fun _ h => by cases h) (by kernel_rfl) (fun _ h => by cases h) soundUpto_row_tie rfl ⟨rfl,rfl⟩ (by kernel_rfl) rfl zwE (by kernel_rfl)
end Go.Proofs.YtfpgjkbjbbgciaaGreatDoor
