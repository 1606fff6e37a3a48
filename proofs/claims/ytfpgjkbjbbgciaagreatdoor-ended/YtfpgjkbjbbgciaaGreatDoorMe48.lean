import Derived.Test.YtfpgjkbjbbgciaaGreatDoorMe46
set_option maxRecDepth 100000
set_option maxHeartbeats 8000000
namespace Go.Proofs.YtfpgjkbjbbgciaaGreatDoor
open Go.RowKit Sp
structure RnIn (w : World) (pt pi pr : Nat) (s : ByteArray) (iv : Value) : Prop where
 text : w.cell? ⟨pt,0,none⟩ = some (.string s)
 inp : w.cell? ⟨pi,0,none⟩ = some iv
 state : w.there pr 0 30
 ne : ¬ pi = pr
abbrev znR (pt pi pr : Nat) : Array Value:=#[.pointer (some ⟨pt,0,none⟩),.pointer (some ⟨pi,0,none⟩),.pointer (some ⟨pr,0,none⟩)]
theorem zuy (w : World) (hw : LibW w) (pt pi pr : Nat) (s : ByteArray) (iv : Value) (T : RnIn w pt pi pr s iv) (R : Int × Int) (hR : ¬ R = (0,0)) (h : zbJ s R) :
  Calls Tryz.prog 57 (znR pt pi pr) w fun e w' => e = zah R.1 R.2 ∧ Below w.heap.size w w':=by
 have hc:=(h w hw).mono (R':=fun e w' => e = zah R.1 R.2 ∧ Below w.heap.size w w') (by
  rintro e w' ⟨hb,⟨h,_⟩ | ⟨_,h⟩⟩
  ·exact absurd h hR
  ·exact ⟨h,hb⟩)
 have t1:=T.text
 go_enter Tryz.func57,Tryz.ntmps57
 go_wp2_with (go_at_call 44; refine hc.mono ?_; rintro e w1 ⟨rfl,hb⟩)
 exact ⟨rfl,rfl,hb⟩
def ranL (L : List Said) (inp : List Int) (bs : Int) : Mc:=runS (zbc L) bs.toNat (zbl L inp)
def zuM (w : World) (pr : Nat) (L : List Said) (inp : List Int) : Ending → World → Prop:=fun e w' => (e = zah 8 0 ∧ VerdL L none ∧ Below w.heap.size w w') ∨ ∃ bs bf,e = .returned (.tuple #[]) ∧ VerdL L (some (bs,bf)) ∧ zkF w pr (ranL L inp bs) (ranL L inp bs).line w'
theorem zst {L : List Said} {F : List FnM} (R : Right L F) (inp : List Int) (n : Nat) (ov : Value) : zak (runS (zck (zao F)) n (zbe inp)) ov (zfQ (zao F) (runS (zck (zao F)) n (zbe inp))) = zak (ranL L inp (n : Int)) ov (ranL L inp (n : Int)).line ∧ (runS (zck (zao F)) n (zbe inp)).out = (ranL L inp (n : Int)).out:=by
 obtain ⟨hsim,hinv⟩:=zmd R.sim R.codeOk n (zdv R.codeOk inp)
 rw [← R.begin] at hsim
 have hline:=znp R.sim hinv
 rw [← hsim] at hline
 unfold ranL
 rw [Int.toNat_natCast]
 refine ⟨?_,by rw [hsim]; rfl⟩
 rw [hline,hsim]; rfl
theorem zsu (w : World) (hw : LibW w) (pt pi pr : Nat) (s : ByteArray) (ao : Option Addr) (icap : Nat) (inp : List Int) (T : RnIn w pt pi pr s (.slice ao inp.length icap)) (L : List Said) (h : zh0 s L) (hiv : SlB w w.heap.size (.slice ao inp.length icap) inp) (hin : inp.length ≤ 9223372036854775807) :
  Calls Tryz.prog 57 (znR pt pi pr) w (zuM w pr L inp):=by
 have hc:=h w hw
 obtain ⟨t1,t3,t4,t5⟩:=T
 have hlti : pi < w.heap.size:=World.block_lt_of_cell? w _ t3
 have hprl : pr < w.heap.size:=by
  obtain ⟨u,hu⟩:=Option.isSome_iff_exists.1 (t4 0 (by omega)).1
  exact World.block_lt_of_cell? w _ hu
 go_enter Tryz.func57,Tryz.ntmps57
 go_wp2_with (first
  | (go_at_call 44; refine hc.mono ?_; rintro e w1 ⟨hb1,pm,vo,m,cap,F,rfl,hP,R,hn,hits⟩; have hof:=zmg R w1 _ pm _ hP hn hits)
  | (go_at_call 52; refine hof.mono ?_; rintro e w2 ⟨g,gcap,rfl,hg1,hg2,hCI,hb2⟩; have hbd:=zlp (ccap:=gcap) R.sure hg2 hCI)
  | (go_at_call 58; refine Hid.out ?_))
 unfold Hid
 refine hbd.mono ?_
 rintro e w3 ⟨hb3,hcase⟩
 have hb12 : Below w.heap.size w w2:=hb1.trans (hb2.mono hb1.size)
 have hB : Below w.heap.size w w3:=hb12.trans (hb3.mono hb12.size)
 have hCI3:=hCI.below hb3 hg2
 have hg3 : g < w3.heap.size:=Nat.lt_of_lt_of_le hg2 hb3.size
 rcases hcase with ⟨rfl,hv⟩ | ⟨bs,bf,rfl,hv⟩
 ·dsimp only
  exact ⟨rfl,.inl ⟨rfl,⟨F,R,hv⟩,hB⟩⟩
 ·dsimp only
  have hbd2:=hv.bound R.sure
  obtain ⟨n,rfl⟩ : ∃ n : Nat,bs = (n : Int):=⟨bs.toNat,by omega⟩
  have hn1 : n ≤ 100000:=by omega
  have hb4 : Below w.heap.size w (w3.alloc (.cells #[.int .i64 (n : Int),.int .i64 bf] 42)):=hB.alloc hB.size _
  have hb34 : Below w3.heap.size w3 (w3.alloc (.cells #[.int .i64 (n : Int),.int .i64 bf] 42)):=(Below.refl _ _).alloc (Nat.le_refl _) _
  have t3':=zap hb4 t3
  have hrun:=zn9 (w3.alloc (.cells #[.int .i64 (n : Int),.int .i64 bf] 42)) g gcap n icap ao (zao F) inp R.codeOk (hCI3.below hb34 hg3) (Nat.lt_of_lt_of_le hg3 hb34.size) (hiv.mono hb4) hin hn1 _ rfl
  have hran:=zst R inp n
  have t4':=zas t4 hb4 hprl
  have hpr4 : pr < (w3.alloc (.cells #[.int .i64 (n : Int),.int .i64 bf] 42)).heap.size:=Nat.lt_of_lt_of_le hprl hb4.size
  have hu34 : Tryz.prog.underlying 34 = some (.struct _):=Tryz.underlying34
  clear hbd hof hc hCI hP
  go_wp2_with (first
   | (go_at_call 53; refine hrun.mono ?_; rintro e w6 ⟨oo,no,co,rfl,hrow,hb6⟩; have t6:=zas t4' hb6 hpr4; rw [(hran _).1]; have hl:=zaE (ranL L inp (n : Int)) (.slice oo no co) (ranL L inp (n : Int)).line; have h1:=zaO (ranL L inp (n : Int)) oo no co (ranL L inp (n : Int)).line; generalize hds : zak (ranL L inp (n : Int)) (.slice oo no co) (ranL L inp (n : Int)).line = ds at hl h1; have hi:=zaU ds hl; have ht : w6.there pr 0 ds.toArray.size:=(by rw [show ds.toArray.size = 30 by simp [hl]]; exact t6))
   | (refine wpList_store_mid rfl 34 _ _ rfl pr 0 ds.toArray rfl rfl ht hi h1 ?_))
  have hb6':=hb4.trans (hb6.mono hb4.size)
  have hfin : Hid (zuM w pr L inp (.returned (.tuple #[])) (w6.setCells pr 0 ds)):=.inr ⟨(n : Int),bf,rfl,⟨F,R,hv⟩,w6,oo,no,co,by rw [hds],hb6',zb5 (by rw [← (hran (.slice oo no co)).2]; exact hrow) hb4.size⟩
  exact bodyPost_end (results_none rfl _ _ _) rfl hfin.out
theorem zmC (W : List Kn) (h : W ≠ []) : ∃ k ys,(k :: ys).Perm W ∧ ∀ y ∈ ys,keyK k ≤ keyK y:=by
 induction W with
 | nil => exact absurd rfl h
 | cons a r ih =>
  by_cases hr : r = []
  ·subst hr
   exact ⟨a,[],List.Perm.refl _,fun y hy => by cases hy⟩
  ·obtain ⟨k,ys,hp,hl⟩:=ih hr
   by_cases hle : keyK a ≤ keyK k
   ·refine ⟨a,r,List.Perm.refl _,fun y hy => ?_⟩
    rcases List.mem_cons.1 (hp.mem_iff.2 hy) with e | e
    ·rw [e]; exact hle
    ·have:=hl y e; omega
   ·refine ⟨k,a :: ys,(List.Perm.swap a k ys).trans (List.Perm.cons a hp),fun y hy => ?_⟩
    rcases List.mem_cons.1 hy with e | e
    ·rw [e]; omega
    ·exact hl y e
theorem zpF {W : List Kn} (n : Nat) {k : Kn} {ys : List Kn} (h : TakeR W k ys) (hn : ys.length ≤ n) : ∃ k' ys',TakeD W k' ys':=by
 induction n generalizing k ys with
 | zero =>
  have e : ys = []:=List.length_eq_zero_iff.1 (by omega)
  exact ⟨k,ys,h,fun y hy => by rw [e] at hy; cases hy⟩
 | succ n ih =>
  by_cases hm : ∃ y ∈ ys,Meet y k
  ·obtain ⟨y,hy,hm⟩:=hm
   obtain ⟨a,b,rfl⟩:=List.append_of_mem hy
   refine ih (.more h (List.perm_middle (l₁:=a) (a:=y) (l₂:=b)).symm hm) ?_
   simp only [List.length_append,List.length_cons] at hn ⊢
   omega
  ·exact ⟨k,ys,h,fun y hy hM => hm ⟨y,hy,hM⟩⟩
theorem zpG {C : List (Ins × Int)} (S : CodeSure C) (n : Nat) {G : Gs} (h : Reach C G) (hn : 500000 - G.looks ≤ n) : ∃ v,Verd C v:=by
 induction n generalizing G with
 | zero =>
  by_cases hW : G.W = []
  ·exact ⟨some (G.bs,G.bf),G,h,hW,rfl,rfl⟩
  ·exact ⟨none,G,h,hW,.inl (by omega)⟩
 | succ n ih =>
  by_cases hW : G.W = []
  ·exact ⟨some (G.bs,G.bf),G,h,hW,rfl,rfl⟩
  ·by_cases h1 : 500000 ≤ G.looks
   ·exact ⟨none,G,h,hW,.inl h1⟩
   ·by_cases h2 : 1000 < G.W.length
    ·exact ⟨none,G,h,hW,.inr (.inl h2)⟩
    ·obtain ⟨k0,ys0,hp0,hl0⟩:=zmC G.W hW
     obtain ⟨k,ys,ht⟩:=zpF ys0.length (.one hp0 hl0) (Nat.le_refl _)
     have ok:=(h.t S).ok
     obtain ⟨K,_,_,_⟩:=ht.1.kn S.ok.few ok.kn
     obtain ⟨p,hpn,hpl⟩:=K.next
     by_cases h3 : k.steps = 100000
     ·exact ⟨none,G,h,hW,.inr (.inr ⟨k,ys,ht,.inl h3⟩)⟩
     ·cases hR : G.R.endless k with
      | none => exact ⟨none,G,h,hW,.inr (.inr ⟨k,ys,ht,.inr (.inl hR)⟩)⟩
      | some R' =>
       cases hL : zaz C[p].1 k with
       | none => exact ⟨none,G,h,hW,.inr (.inr ⟨k,ys,ht,.inr (.inr ⟨p,hpl,hpn,hL⟩)⟩)⟩
       | some ks =>
        exact ih (G:=⟨ys ++ ks,G.looks + 1,R',k.steps + 1,max G.bf ((k.behind.length : Int) + 1)⟩) (.step h ⟨k,ys,ks,p,hpl,by omega,by omega,ht,h3,hR,hpn,hL,List.Perm.refl _,rfl,rfl,rfl⟩) (by show 500000 - (G.looks + 1) ≤ n; omega)
theorem zdG {L : List Said} {F : List FnM} (R : Right L F) : ∃ v,VerdL L v:=by
 obtain ⟨v,hv⟩:=zpG R.sure 500000 (.zero) (by omega)
 exact ⟨v,F,R,hv⟩
def toIt (k : Key) : It:=⟨k.sort,k.line,k.word,k.nm,k.a,k.b,k.c,k.n⟩
def zvT (f : Fn) : FnM:=⟨f.name,f.line,f.body.map toIt,undef,0⟩
theorem zuu (l : List Fn) : (l.map zvT).map FnM.fn = l:=by
 rw [List.map_map]
 have : (FnM.fn ∘ zvT) = id:=funext fun f => by
  show (⟨f.name,f.line,(f.body.map toIt).map It.key⟩ : Fn) = f
  rw [List.map_map,show (It.key ∘ toIt) = id from funext fun k => rfl,List.map_id]
 rw [this,List.map_id]
theorem zuv (F : List Fn) (k : Key) : F.length ≤ (addK F k).length:=by
 unfold addK
 split
 ·rw [List.length_append]; omega
 ·cases h : F.getLast? with
  | none => exact Nat.le_refl _
  | some f =>
   have : F ≠ []:=fun e => by rw [e] at h; cases h
   simp only [List.length_append,List.length_dropLast,List.length_singleton]
   have:=List.length_pos_iff.2 this
   omega
theorem zim (K : List Key) (F : List Fn) : F.length ≤ (K.foldl addK F).length:=by
 induction K generalizing F with
 | nil => exact Nat.le_refl _
 | cons k r ih => exact Nat.le_trans (zuv F k) (ih _)
theorem zda (s : ByteArray) (h : zbk s = (0,0)) : ∃ F,Right ((lines s).map say) F:=by
 have hgood:=zqG s h
 unfold zbk at h
 by_cases hf : 4000 < s.size ∨ 300 < (lines s).length
 ·rw [if_pos hf] at h; exact absurd (congrArg Prod.fst h) (by decide)
 ·rw [if_neg hf] at h
  by_cases hok : ∀ x ∈ lines s,(say x).ok = true
  ·rw [zes _ hok 0,zer _ hok] at h
   have hka:=zjk (lines s)
   generalize zaT (lines s) (lines s).length = K at h hka
   cases K with
   | nil => exact absurd (congrArg Prod.fst h) (by decide)
   | cons k r =>
    unfold sayK at h
    dsimp only at h
    by_cases h0 : k.sort = 0
    ·have hfn:=zmf _ 0 k r hka.symm h0
     refine ⟨(zaN ((lines s).map say) 0).map zvT,hgood,zhx _ 0 k r hka.symm h0,zuu _,?_⟩
     rw [List.length_map,← hfn]
     have h1 : 0 < (addK [] k).length:=by unfold addK; rw [if_pos h0]; simp
     exact Nat.lt_of_lt_of_le h1 (zim r _)
    ·rw [if_neg h0] at h
     exact absurd (congrArg Prod.fst h) (show ¬ (2 : Int) = 0 by decide)
  ·exfalso
   have : ∃ x ∈ lines s,¬ (say x).ok = true:=by
    refine Classical.byContradiction fun hn => hok fun x hx => ?_
    refine Classical.byContradiction fun hx' => hn ⟨x,hx,hx'⟩
   obtain ⟨x,hx,hb⟩:=this
   obtain ⟨j,hj,rfl⟩:=List.mem_iff_getElem.1 hx
   exact zjv (lines s) 0 j hj (by omega) (by simpa using hb) h
def VerS (s : ByteArray) (bs bf er ln : Int) : Prop:=(¬ zbk s = (0,0) ∧ zbk s = (er,ln) ∧ bs = 0 ∧ bf = 0) ∨ (zbk s = (0,0) ∧ VerdL ((lines s).map say) none ∧ bs = 0 ∧ bf = 0 ∧ er = 8 ∧ ln = 0) ∨ (zbk s = (0,0) ∧ VerdL ((lines s).map say) (some (bs,bf)) ∧ er = 0 ∧ ln = 0)
theorem VerS.unique {s : ByteArray} {a b c d a' b' c' d' : Int} (h : VerS s a b c d) (h' : VerS s a' b' c' d') : a = a' ∧ b = b' ∧ c = c' ∧ d = d':=by
 rcases h with ⟨n,r,e1,e2⟩ | ⟨r,v,e1,e2,e3,e4⟩ | ⟨r,v,e3,e4⟩ <;> rcases h' with ⟨n',r',e1',e2'⟩ | ⟨r',v',e1',e2',e3',e4'⟩ | ⟨r',v',e3',e4'⟩
 ·rw [r] at r'; cases r'; exact ⟨by omega,by omega,rfl,rfl⟩
 ·exact absurd r' n
 ·exact absurd r' n
 ·exact absurd r n'
 ·exact ⟨by omega,by omega,by omega,by omega⟩
 ·have:=v.unique v'; cases this
 ·exact absurd r n'
 ·have:=v.unique v'; cases this
 ·have:=v.unique v'; cases this; exact ⟨rfl,rfl,by omega,by omega⟩
theorem zmD (s : ByteArray) (w : World) (hw : LibW w) (hs : s.size ≤ 9223372036854775807) : Calls Tryz.prog 26 #[.string s] w fun e w' => ∃ bs bf er ln,VerS s bs bf er ln ∧ zlq w bs bf er ln e w':=by
 have hbw:=zhX w s
 have hbo:=zcP (VfW w s)
 have hb2 : Below w.heap.size w (OutW (VfW w s)):=hbw.trans (hbo.mono hbw.size)
 have hw2:=hw.below hb2
 have hsz:=zjB w s
 obtain ⟨t1,d0,d1,z⟩:=zss w s
 have t1' : (OutW (VfW w s)).cell? ⟨w.heap.size,0,none⟩ = some (.string s):=(World.cell?_of_block (a:=⟨w.heap.size,0,none⟩) (hbo.block _ (by show w.heap.size < _; rw [hsz]; omega))).trans t1
 have d0' : (OutW (VfW w s)).cell? ⟨w.heap.size + 1,0,none⟩ = some (.int .i64 0):=(World.cell?_of_block (a:=⟨w.heap.size + 1,0,none⟩) (hbo.block _ (by show w.heap.size + 1 < _; rw [hsz]; omega))).trans d0
 have d1' : (OutW (VfW w s)).cell? ⟨w.heap.size + 1,1,none⟩ = some (.int .i64 0):=(World.cell?_of_block (a:=⟨w.heap.size + 1,1,none⟩) (hbo.block _ (by show w.heap.size + 1 < _; rw [hsz]; omega))).trans d1
 have z' : ∀ j,(OutW (VfW w s)).frozen? ⟨w.heap.size + 1,j,none⟩ = false:=fun j => (World.frozen?_of_block (a:=⟨w.heap.size + 1,j,none⟩) (hbo.block _ (by show w.heap.size + 1 < _; rw [hsz]; omega))).trans (z j)
 by_cases hR : zbk s = (0,0)
 ·have hv:=zsr _ hw2 w.heap.size (w.heap.size + 1) s t1' _ (zgE s hR) d0' d1' z'
  by_cases hn : VerdL ((lines s).map say) none
  ·refine (zeh w s 8 0 (hv.mono ?_)).mono fun e w' h => ⟨0,0,8,0,.inr (.inl ⟨hR,hn,rfl,rfl,rfl,rfl⟩),h⟩
   rintro e w' (⟨rfl,_,hb⟩ | ⟨bs,bf,_,hv2,_⟩)
   ·exact ⟨rfl,hb⟩
   ·have:=hn.unique hv2; cases this
  ·by_cases hy : ∃ b,VerdL ((lines s).map say) (some b)
   ·obtain ⟨⟨bs,bf⟩,hy⟩:=hy
    refine (zpE w s bs bf (hv.mono ?_)).mono fun e w' h => ⟨bs,bf,0,0,.inr (.inr ⟨hR,hy,rfl,rfl⟩),h⟩
    rintro e w' (⟨_,hv2,_⟩ | ⟨bs2,bf2,rfl,hv2,w1,hb,rfl⟩)
    ·exact absurd hv2 hn
    ·have:=hy.unique hv2
     cases this
     exact ⟨rfl,w1,hb,rfl⟩
   ·exfalso
    obtain ⟨F,R⟩:=zda s hR
    obtain ⟨v,hv2⟩:=zdG R
    cases v with
    | none => exact hn hv2
    | some b => exact hy ⟨b,hv2⟩
 ·have hv:=zut _ hw2 w.heap.size (w.heap.size + 1) s t1' (zbk s) hR (zfu s hs)
  exact (zeh w s _ _ hv).mono fun e w' h => ⟨0,0,(zbk s).1,(zbk s).2,.inl ⟨hR,rfl,rfl,rfl⟩,h⟩
theorem ztK (i : Ins) (nx : Int) (m : Mc) : (exec i nx m).out.length ≤ m.out.length + 1:=by
 cases i <;> simp only [exec]
 all_goals (try split)
 all_goals (simp [Mc.goes])
theorem zru (L : List Said) (m : Mc) : (zbc L m).out.length ≤ m.out.length + 1:=by
 unfold zbc
 split
 ·omega
 ·exact ztK _ _ _
theorem ztL (L : List Said) (n : Nat) (m : Mc) : (runS (zbc L) n m).out.length ≤ m.out.length + n:=by
 induction n generalizing m with
 | zero => exact Nat.le_refl _
 | succ n ih =>
  by_cases h : m.fin = 0
  ·rw [zay _ _ _ h]
   have:=ih (zbc L m)
   have:=zru L m
   omega
  ·rw [zbQ _ _ _ h]; omega
theorem SlN.below {w w' : World} {v : Value} {l : List Int} (h : SlN w v l) (hb : Below w.heap.size w w') : SlN w' v l:=by
 obtain ⟨ao,cap,h1,h3⟩:=h
 exact ⟨ao,cap,h1,fun hp => by obtain ⟨g,o,a,d⟩:=h3 hp; exact ⟨g,o,a,fun j hj => zap hb (d j hj)⟩⟩
theorem zpH (s : ByteArray) : ∃ bs bf er ln,VerS s bs bf er ln:=by
 by_cases hR : zbk s = (0,0)
 ·obtain ⟨F,R⟩:=zda s hR
  obtain ⟨v,hv⟩:=zdG R
  cases v with
  | none => exact ⟨0,0,8,0,.inr (.inl ⟨hR,hv,rfl,rfl,rfl,rfl⟩)⟩
  | some b => exact ⟨b.1,b.2,0,0,.inr (.inr ⟨hR,hv,rfl,rfl⟩)⟩
 ·exact ⟨0,0,(zbk s).1,(zbk s).2,.inl ⟨hR,rfl,rfl,rfl⟩⟩
theorem ziY {s : ByteArray} {bs bf er ln : Int} (h : VerS s bs bf er ln) (w : World) (hw : LibW w) (hs : s.size ≤ 9223372036854775807) : Calls Tryz.prog 26 #[.string s] w (zlq w bs bf er ln):=by
 refine (zmD s w hw hs).mono ?_
 rintro e w' ⟨a,b,c,d,h',hp⟩
 obtain ⟨rfl,rfl,rfl,rfl⟩:=h.unique h'
 exact hp
def zei : ByteArray:=⟨#[102,117,110,99,32,102,10,98,97,99,107]⟩
def ziZ : List Said:=(lines zei).map say
theorem zgd : zbk zei = (0,0):=by kernel_rfl
theorem zpI : ziZ.length = 2:=by kernel_rfl
theorem zuw : (ziZ[0]?).map (·.kind) = some 102:=by kernel_rfl
theorem zux : (ziZ[1]?).map zdP = some ⟨#[98,97,99,107]⟩:=by kernel_rfl
theorem zpJ : cnt ziZ 1 = 0:=by kernel_rfl
theorem zpK {F : List FnM} (R : Right ziZ F) : ∃ ln,zao F = [(.back,ln)]:=by
 have key : ∀ p (hp : p < (zao F).length),p = 0 ∧ (zao F)[p].1 = .back:=fun p hp => by
  rw [zdw] at hp
  obtain ⟨k,f,m,it,hk,hm,rfl⟩:=zjs F p hp
  have h1:=zft F 0 F k f hk m it hm
  rw [Nat.zero_add] at h1
  have h2 : (zao F)[lenF (F.take k) + m]? = some (insM F k it,it.line):=h1
  obtain ⟨j,hj,h5,hkey,hc,_⟩:=R.it_at hk hm
  have hj2 : j = 1:=by
   have hl:=zpI
   have h0 : ¬ j = 0:=fun e => by
    subst e
    have:=zuw
    rw [List.getElem?_eq_getElem hj] at this
    simp only [Option.map_some,Option.some.injEq] at this
    omega
   omega
  subst hj2
  have hw : it.word = zdP ziZ[1]:=congrArg Key.word hkey
  have hb:=zux
  rw [List.getElem?_eq_getElem hj,Option.map_some,Option.some.injEq] at hb
  refine ⟨by rw [hc]; exact zpJ,?_⟩
  rw [(List.getElem?_eq_some_iff.1 h2).2]
  show insX it.word it.a it.b it.c it.n _ _ = .back
  rw [hw,hb]
  exact zhy _ _ _ _ _ _
 have hs:=R.codeOk.some_
 have hl : (zao F).length = 1:=by
  by_cases h : 1 < (zao F).length
  ·have:=(key 1 h).1; omega
  ·omega
 obtain ⟨q,hq⟩:=List.length_eq_one_iff.1 hl
 have:=(key 0 hs).2
 simp only [hq] at this
 refine ⟨q.2,?_⟩
 rw [hq]
 have e : q.1 = .back:=by simpa using this
 rw [← e]
theorem zpL {ln : Int} : Verd [(.back,ln)] (some (1,1)):=by
 have ht : TakeD [kn0] kn0 []:=⟨.one (List.Perm.refl _) (fun y hy => by cases hy),fun y hy => by cases hy⟩
 refine ⟨⟨[],1,rsk0.see kn0,1,1⟩,.step .zero ⟨kn0,[],[],0,by simp,by show 0 < 500000; omega,by show 1 ≤ 1000; omega,ht,by show ¬ (0 : Int) = 100000; omega,?_,rfl,rfl,List.Perm.refl _,rfl,rfl,rfl⟩,rfl,rfl,rfl⟩
 show rsk0.endless kn0 = some (rsk0.see kn0)
 exact if_pos rfl
theorem zhY : VerdL ((lines zei).map say) (some (1,1)):=by
 obtain ⟨F,R⟩:=zda zei zgd
 obtain ⟨ln,e⟩:=zpK R
 exact ⟨F,R,by rw [e]; exact zpL⟩
end Go.Proofs.YtfpgjkbjbbgciaaGreatDoor
