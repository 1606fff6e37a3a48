import Derived.Test.YtfpgjkbjbbgciaaGreatDoorMi47
import Derived.Test.YtfpgjkbjbbgciaaGreatDoorMi51
set_option maxRecDepth 100000
set_option maxHeartbeats 8000000
namespace Go.Proofs.YtfpgjkbjbbgciaaGreatDoor
section
open Go.RowKit Sp
theorem zmt{w:World}{g ccap:Nat}{C:List (Ins × Int)}(hC:CodeSure C)(hg:g<w.heap.size)(hI:CodeIn w g C):Calls Tryz.prog 58 #[.slice (some ⟨g,0,none⟩) C.length ccap] w (zua w C):=by
 have hb0:Below w.heap.size w (w.alloc (.cells #[.int .i64 0,.int .i64 0] 42)):=(Below.refl _ _).alloc (Nat.le_refl _) _
 have hs0:(w.alloc (.cells #[.int .i64 0,.int .i64 0] 42)).heap.size=w.heap.size+1:=by simp
 have hc0:=World.cell?_alloc_new (w:=w) #[.int .i64 0,.int .i64 0] 42 0
 have hc1:=World.cell?_alloc_new (w:=w) #[.int .i64 0,.int .i64 0] 42 1
 have hf0:∀ j,(w.alloc (.cells #[.int .i64 0,.int .i64 0] 42)).frozen? ⟨w.heap.size,j,none⟩=false:=fun j=>by simp
 have hbeg:=zrq (ccap:=ccap) (by rw [hs0];omega) (hI.below hb0 hg)
 go_enter Tryz.func58,Tryz.ntmps58
 go_wp2_with(first
  | (go_at_call 91;(with_reducible refine hbeg.mono ?_);rintro e w1 ⟨S,v,mv,xs,rfl,hb1,I⟩;have hrun:=zw5 I hC)
  | (go_at_call 92;refine Hid.out ?_))
 unfold Hid
 refine hrun.mono ?_
 rintro e w2 ⟨hb2,hcase⟩
 have hb12:Below (w.heap.size+1) (w.alloc (.cells #[.int .i64 0,.int .i64 0] 42)) w2:=by rw [←hs0];exact hb1.trans hb2
 have hbw:Below w.heap.size w w2:=hb0.trans (hb12.mono (by omega))
 have hSB:=I.so'.SB
 rcases hcase with ⟨rfl,hv⟩|⟨rfl,bs,bf,hv,d7,d8⟩
 ·dsimp only
  exact⟨rfl,hbw,.inl ⟨rfl,hv⟩⟩
 ·dsimp only
  have d0:w2.cell? ⟨w.heap.size,0,none⟩=some (.int .i64 0):=(World.cell?_of_block (a:=⟨w.heap.size,0,none⟩) (hb12.block w.heap.size (by omega))).trans hc0
  have d1:w2.cell? ⟨w.heap.size,1,none⟩=some (.int .i64 0):=(World.cell?_of_block (a:=⟨w.heap.size,1,none⟩) (hb12.block w.heap.size (by omega))).trans hc1
  have z0:w2.frozen? ⟨w.heap.size,0,none⟩=false:=(World.frozen?_of_block (a:=⟨w.heap.size,0,none⟩) (hb12.block w.heap.size (by omega))).trans (hf0 0)
  have z1:w2.frozen? ⟨w.heap.size,1,none⟩=false:=(World.frozen?_of_block (a:=⟨w.heap.size,1,none⟩) (hb12.block w.heap.size (by omega))).trans (hf0 1)
  have HV:Hid (Verd C (some (bs,bf))):=hv
  clear hv hrun I hbeg hb0 hc0 hc1 hf0 hb1 hb2 hb12
  go_wp2
  refine bodyPost_ret (v:=.agg #[.int .i64 bs,.int .i64 bf]) (by simp [results,Tryz.results58,go_sem,d0,d1]) rfl ⟨?_,.inr ⟨bs,bf,rfl,HV.out⟩⟩
  exact(hbw.setCell (p:=⟨w.heap.size,0,none⟩) (Nat.le_refl _) _).setCell (p:=⟨w.heap.size,1,none⟩) (Nat.le_refl _) _
def VerdL(L:List Said)(v:Option (Int × Int)):Prop:=∃ F,Right L F∧Verd (zao F) v
theorem VerdL.unique{L:List Said}{a b:Option (Int × Int)}(ha:VerdL L a)(hb:VerdL L b):a=b:=by
 obtain⟨F,R,h⟩:=ha
 obtain⟨G,R',h'⟩:=hb
 rw [←zoc R R'] at h'
 exact h.unique R.sure h'
def zxx(w:World)(pr:Nat)(L:List Said):Ending→World→Prop:=fun e w'=>(e=zak 8 0∧VerdL L none∧Below w.heap.size w w')∨∃ bs bf,e=.returned (.tuple #[])∧VerdL L (some (bs,bf))∧∃ w1,Below w.heap.size w w1∧w'=(w1.setCell ⟨pr,0,none⟩ (.int .i64 bs)).setCell ⟨pr,1,none⟩ (.int .i64 bf)
theorem zw9(w:World)(hw:LibW w)(pt pr:Nat)(s:ByteArray)(t1:w.cell? ⟨pt,0,none⟩=some (.string s))(R:Int × Int)(hR:¬R=(0,0))(h:zbQ s R):
  Calls Tryz.prog 59 #[.pointer (some ⟨pt,0,none⟩),.pointer (some ⟨pr,0,none⟩)] w fun e w'=>e=zak R.1 R.2∧Below w.heap.size w w':=by
 have hc:=(h w hw).mono (R':=fun e w'=>e=zak R.1 R.2∧Below w.heap.size w w') (by
  rintro e w' ⟨hb,⟨h,_⟩|⟨_,h⟩⟩
  ·exact absurd h hR
  ·exact⟨h,hb⟩)
 go_enter Tryz.func59,Tryz.ntmps59
 go_wp2_with(go_at_call 44;refine hc.mono ?_;rintro e w1 ⟨rfl,hb⟩)
 exact⟨rfl,rfl,hb⟩
theorem zud(w:World)(hw:LibW w)(pt pr:Nat)(s:ByteArray)(t1:w.cell? ⟨pt,0,none⟩=some (.string s))(L:List Said)(h:zn4 s L)(d0:w.cell? ⟨pr,0,none⟩=some (.int .i64 0))(d1:w.cell? ⟨pr,1,none⟩=some (.int .i64 0))(fz:∀ j,w.frozen? ⟨pr,j,none⟩=false):
  Calls Tryz.prog 59 #[.pointer (some ⟨pt,0,none⟩),.pointer (some ⟨pr,0,none⟩)] w (zxx w pr L):=by
 have hc:=h w hw
 have hlt:pr<w.heap.size:=World.block_lt_of_cell? w _ d0
 go_enter Tryz.func59,Tryz.ntmps59
 go_wp2_with(first
  | (go_at_call 44;refine hc.mono ?_;rintro e w1 ⟨hb1,pm,ao,m,cap,F,rfl,hP,R,hn,hits⟩;have hof:=ztf R w1 _ pm _ hP hn hits)
  | (go_at_call 52;refine hof.mono ?_;rintro e w2 ⟨g,gcap,rfl,hg1,hg2,hCI,hb2⟩;have hbd:=zmt (ccap:=gcap) R.sure hg2 hCI)
  | (go_at_call 58;refine Hid.out ?_))
 unfold Hid
 refine hbd.mono ?_
 rintro e w3 ⟨hb3,hcase⟩
 have hB:Below w.heap.size w w3:=hb1.trans ((hb2.mono hb1.size).trans (hb3.mono (Nat.le_trans hb1.size hb2.size)))
 rcases hcase with ⟨rfl,hv⟩|⟨bs,bf,rfl,hv⟩
 ·dsimp only
  exact⟨rfl,.inl ⟨rfl,⟨F,R,hv⟩,hB⟩⟩
 ·dsimp only
  have e0:w3.cell? ⟨pr,0,none⟩=some (.int .i64 0):=(World.cell?_of_block (a:=⟨pr,0,none⟩) (hB.block pr hlt)).trans d0
  have e1:w3.cell? ⟨pr,1,none⟩=some (.int .i64 0):=(World.cell?_of_block (a:=⟨pr,1,none⟩) (hB.block pr hlt)).trans d1
  have z0:w3.frozen? ⟨pr,0,none⟩=false:=(World.frozen?_of_block (a:=⟨pr,0,none⟩) (hB.block pr hlt)).trans (fz 0)
  have z1:w3.frozen? ⟨pr,1,none⟩=false:=(World.frozen?_of_block (a:=⟨pr,1,none⟩) (hB.block pr hlt)).trans (fz 1)
  have hfin:Hid (zxx w pr L (.returned (.tuple #[])) ((w3.setCell ⟨pr,0,none⟩ (.int .i64 bs)).setCell ⟨pr,1,none⟩ (.int .i64 bf))):=.inr ⟨bs,bf,rfl,⟨F,R,hv⟩,w3,hB,rfl⟩
  clear hbd hof hc hv hCI hP
  go_wp2
  exact bodyPost_end (results_none rfl _ _ _) rfl hfin.out
structure RnIn(w:World)(pt pi pr:Nat)(s:ByteArray)(iv:Value):Prop where
 text:w.cell? ⟨pt,0,none⟩=some (.string s)
 inp:w.cell? ⟨pi,0,none⟩=some iv
 state:w.there pr 0 30
 ne:¬pi=pr
abbrev zp0(pt pi pr:Nat):Array Value:=#[.pointer (some ⟨pt,0,none⟩),.pointer (some ⟨pi,0,none⟩),.pointer (some ⟨pr,0,none⟩)]
theorem zwF(w:World)(hw:LibW w)(pt pi pr:Nat)(s:ByteArray)(iv:Value)(T:RnIn w pt pi pr s iv)(R:Int × Int)(hR:¬R=(0,0))(h:zbQ s R):
  Calls Tryz.prog 57 (zp0 pt pi pr) w fun e w'=>e=zak R.1 R.2∧Below w.heap.size w w':=by
 have hc:=(h w hw).mono (R':=fun e w'=>e=zak R.1 R.2∧Below w.heap.size w w') (by
  rintro e w' ⟨hb,⟨h,_⟩|⟨_,h⟩⟩
  ·exact absurd h hR
  ·exact⟨h,hb⟩)
 have t1:=T.text
 go_enter Tryz.func57,Tryz.ntmps57
 go_wp2_with(go_at_call 44;refine hc.mono ?_;rintro e w1 ⟨rfl,hb⟩)
 exact⟨rfl,rfl,hb⟩
def ranL(L:List Said)(inp:List Int)(bs:Int):Mc:=runS (zc9 L) bs.toNat (zbL L inp)
def zxy(w:World)(pr:Nat)(L:List Said)(inp:List Int):Ending→World→Prop:=fun e w'=>(e=zak 8 0∧VerdL L none∧Below w.heap.size w w')∨∃ bs bf,e=.returned (.tuple #[])∧VerdL L (some (bs,bf))∧ztg w pr (ranL L inp bs) (ranL L inp bs).line w'
theorem zuf{L:List Said}{F:List FnM}(R:Right L F)(inp:List Int)(n:Nat)(ov:Value):zaV (runS (zc0 (zao F)) n (zbl inp)) ov (zho (zao F) (runS (zc0 (zao F)) n (zbl inp)))=zaV (ranL L inp (n:Int)) ov (ranL L inp (n:Int)).line∧(runS (zc0 (zao F)) n (zbl inp)).out=(ranL L inp (n:Int)).out:=by
 obtain⟨hsim,hinv⟩:=zsT R.sim R.codeOk n (zeQ R.codeOk inp)
 rw [←R.begin] at hsim
 have hline:=zvV R.sim hinv
 rw [←hsim] at hline
 unfold ranL
 rw [Int.toNat_natCast]
 refine⟨?_,by rw [hsim];rfl⟩
 rw [hline,hsim];rfl
theorem zug(w:World)(hw:LibW w)(pt pi pr:Nat)(s:ByteArray)(ao:Option Addr)(icap:Nat)(inp:List Int)(T:RnIn w pt pi pr s (.slice ao inp.length icap))(L:List Said)(h:zn4 s L)(hiv:SlB w w.heap.size (.slice ao inp.length icap) inp)(hin:inp.length≤9223372036854775807):
  Calls Tryz.prog 57 (zp0 pt pi pr) w (zxy w pr L inp):=by
 have hc:=h w hw
 obtain⟨t1,t3,t4,t5⟩:=T
 have hlti:pi<w.heap.size:=World.block_lt_of_cell? w _ t3
 have hprl:pr<w.heap.size:=by
  obtain⟨u,hu⟩:=Option.isSome_iff_exists.1 (t4 0 (by omega)).1
  exact World.block_lt_of_cell? w _ hu
 go_enter Tryz.func57,Tryz.ntmps57
 go_wp2_with(first
  | (go_at_call 44;refine hc.mono ?_;rintro e w1 ⟨hb1,pm,vo,m,cap,F,rfl,hP,R,hn,hits⟩;have hof:=ztf R w1 _ pm _ hP hn hits)
  | (go_at_call 52;refine hof.mono ?_;rintro e w2 ⟨g,gcap,rfl,hg1,hg2,hCI,hb2⟩;have hbd:=zmt (ccap:=gcap) R.sure hg2 hCI)
  | (go_at_call 58;refine Hid.out ?_))
 unfold Hid
 refine hbd.mono ?_
 rintro e w3 ⟨hb3,hcase⟩
 have hb12:Below w.heap.size w w2:=hb1.trans (hb2.mono hb1.size)
 have hB:Below w.heap.size w w3:=hb12.trans (hb3.mono hb12.size)
 have hCI3:=hCI.below hb3 hg2
 have hg3:g<w3.heap.size:=Nat.lt_of_lt_of_le hg2 hb3.size
 rcases hcase with ⟨rfl,hv⟩|⟨bs,bf,rfl,hv⟩
 ·dsimp only
  exact⟨rfl,.inl ⟨rfl,⟨F,R,hv⟩,hB⟩⟩
 ·dsimp only
  have hbd2:=hv.bound R.sure
  obtain⟨n,rfl⟩:∃ n:Nat,bs=(n:Int):=⟨bs.toNat,by omega⟩
  have hn1:n≤100000:=by omega
  have hb4:Below w.heap.size w (w3.alloc (.cells #[.int .i64 (n:Int),.int .i64 bf] 42)):=hB.alloc hB.size _
  have hb34:Below w3.heap.size w3 (w3.alloc (.cells #[.int .i64 (n:Int),.int .i64 bf] 42)):=(Below.refl _ _).alloc (Nat.le_refl _) _
  have t3':=za3 hb4 t3
  have hrun:=zvG (w3.alloc (.cells #[.int .i64 (n:Int),.int .i64 bf] 42)) g gcap n icap ao (zao F) inp R.codeOk (hCI3.below hb34 hg3) (Nat.lt_of_lt_of_le hg3 hb34.size) (hiv.mono hb4) hin hn1 _ rfl
  have hran:=zuf R inp n
  have t4':=za9 t4 hb4 hprl
  have hpr4:pr<(w3.alloc (.cells #[.int .i64 (n:Int),.int .i64 bf] 42)).heap.size:=Nat.lt_of_lt_of_le hprl hb4.size
  have hu34:Tryz.prog.underlying 34=some (.struct _):=Tryz.underlying34
  clear hbd hof hc hCI hP
  go_wp2_with(first
   | (go_at_call 53;refine hrun.mono ?_;rintro e w6 ⟨oo,no,co,rfl,hrow,hb6⟩;have t6:=za9 t4' hb6 hpr4;rw [(hran _).1];have hl:=zbX (ranL L inp (n:Int)) (.slice oo no co) (ranL L inp (n:Int)).line;have h1:=zcH (ranL L inp (n:Int)) oo no co (ranL L inp (n:Int)).line;generalize hds:zaV (ranL L inp (n:Int)) (.slice oo no co) (ranL L inp (n:Int)).line=ds at hl h1;have hi:=zcK ds hl;have ht:w6.there pr 0 ds.toArray.size:=(by rw [show ds.toArray.size=30 by simp [hl]];exact t6))
   | (refine wpList_store_mid rfl 34 _ _ rfl pr 0 ds.toArray rfl rfl ht hi h1 ?_))
  have hb6':=hb4.trans (hb6.mono hb4.size)
  have hfin:Hid (zxy w pr L inp (.returned (.tuple #[])) (w6.setCells pr 0 ds)):=.inr ⟨(n:Int),bf,rfl,⟨F,R,hv⟩,w6,oo,no,co,by rw [hds],hb6',zbV (by rw [←(hran (.slice oo no co)).2];exact hrow) hb4.size⟩
  exact bodyPost_end (results_none rfl _ _ _) rfl hfin.out
theorem zod(W:List Kn)(h:W≠[]):∃ k ys,(k :: ys).Perm W∧∀ y∈ys,keyK k≤keyK y:=by
 induction W with
 | nil=>exact absurd rfl h
 | cons a r ih =>
  by_cases hr:r=[]
  ·subst hr
   exact⟨a,[],List.Perm.refl _,fun y hy=>by cases hy⟩
  ·obtain⟨k,ys,hp,hl⟩:=ih hr
   by_cases hle:keyK a≤keyK k
   ·refine⟨a,r,List.Perm.refl _,fun y hy=>?_⟩
    rcases List.mem_cons.1 (hp.mem_iff.2 hy) with e|e
    ·rw [e];exact hle
    ·have:=hl y e;omega
   ·refine⟨k,a :: ys,(List.Perm.swap a k ys).trans (List.Perm.cons a hp),fun y hy=>?_⟩
    rcases List.mem_cons.1 hy with e|e
    ·rw [e];omega
    ·exact hl y e
theorem zrt{W:List Kn}(n:Nat){k:Kn}{ys:List Kn}(h:TakeR W k ys)(hn:ys.length≤n):∃ k' ys',TakeD W k' ys':=by
 induction n generalizing k ys with
 | zero =>
  have e:ys=[]:=List.length_eq_zero_iff.1 (by omega)
  exact⟨k,ys,h,fun y hy=>by rw [e] at hy;cases hy⟩
 | succ n ih =>
  by_cases hm:∃ y∈ys,Meet y k
  ·obtain⟨y,hy,hm⟩:=hm
   obtain⟨a,b,rfl⟩:=List.append_of_mem hy
   refine ih (.more h (List.perm_middle (l₁:=a) (a:=y) (l₂:=b)).symm hm) ?_
   simp only [List.length_append,List.length_cons] at hn ⊢
   omega
  ·exact⟨k,ys,h,fun y hy hM=>hm ⟨y,hy,hM⟩⟩
theorem zru{C:List (Ins × Int)}(S:CodeSure C)(n:Nat){G:Gs}(h:Reach C G)(hn:500000-G.looks≤n):∃ v,Verd C v:=by
 induction n generalizing G with
 | zero =>
  by_cases hW:G.W=[]
  ·exact⟨some (G.bs,G.bf),G,h,hW,rfl,rfl⟩
  ·exact⟨none,G,h,hW,.inl (by omega)⟩
 | succ n ih =>
  by_cases hW:G.W=[]
  ·exact⟨some (G.bs,G.bf),G,h,hW,rfl,rfl⟩
  ·by_cases h1:500000≤G.looks
   ·exact⟨none,G,h,hW,.inl h1⟩
   ·by_cases h2:1000<G.W.length
    ·exact⟨none,G,h,hW,.inr (.inl h2)⟩
    ·obtain⟨k0,ys0,hp0,hl0⟩:=zod G.W hW
     obtain⟨k,ys,ht⟩:=zrt ys0.length (.one hp0 hl0) (Nat.le_refl _)
     have ok:=(h.t S).ok
     obtain⟨K,_,_,_⟩:=ht.1.kn S.ok.few ok.kn
     obtain⟨p,hpn,hpl⟩:=K.next
     by_cases h3:k.steps=100000
     ·exact⟨none,G,h,hW,.inr (.inr ⟨k,ys,ht,.inl h3⟩)⟩
     ·cases hR:G.R.endless k with
      | none=>exact⟨none,G,h,hW,.inr (.inr ⟨k,ys,ht,.inr (.inl hR)⟩)⟩
      | some R' =>
       cases hL:zaw C[p].1 k with
       | none=>exact⟨none,G,h,hW,.inr (.inr ⟨k,ys,ht,.inr (.inr ⟨p,hpl,hpn,hL⟩)⟩)⟩
       | some ks =>
        exact ih (G:=⟨ys++ks,G.looks+1,R',k.steps+1,max G.bf ((k.behind.length:Int)+1)⟩) (.step h ⟨k,ys,ks,p,hpl,by omega,by omega,ht,h3,hR,hpn,hL,List.Perm.refl _,rfl,rfl,rfl⟩) (by show 500000-(G.looks+1)≤n;omega)
theorem zfC{L:List Said}{F:List FnM}(R:Right L F):∃ v,VerdL L v:=by
 obtain⟨v,hv⟩:=zru R.sure 500000 (.zero) (by omega)
 exact⟨v,F,R,hv⟩
def toIt(k:Key):It:=⟨k.sort,k.line,k.word,k.nm,k.a,k.b,k.c,k.n⟩
def zy7(f:Fn):FnM:=⟨f.name,f.line,f.body.map toIt,undef,0⟩
theorem zwA(l:List Fn):(l.map zy7).map FnM.fn=l:=by
 rw [List.map_map]
 have:(FnM.fn∘zy7)=id:=funext fun f=>by
  show(⟨f.name,f.line,(f.body.map toIt).map It.key⟩:Fn)=f
  rw [List.map_map,show(It.key∘toIt)=id from funext fun k=>rfl,List.map_id]
 rw [this,List.map_id]
theorem zwB(F:List Fn)(k:Key):F.length≤(addK F k).length:=by
 unfold addK
 split
 ·rw [List.length_append];omega
 ·cases h:F.getLast? with
  | none=>exact Nat.le_refl _
  | some f =>
   have:F≠[]:=fun e=>by rw [e] at h;cases h
   simp only [List.length_append,List.length_dropLast,List.length_singleton]
   have:=List.length_pos_iff.2 this
   omega
theorem zjq(K:List Key)(F:List Fn):F.length≤(K.foldl addK F).length:=by
 induction K generalizing F with
 | nil=>exact Nat.le_refl _
 | cons k r ih=>exact Nat.le_trans (zwB F k) (ih _)
theorem zei(s:ByteArray)(h:zcg s=(0,0)):∃ F,Right ((lines s).map say) F:=by
 have hgood:=zs2 s h
 unfold zcg at h
 by_cases hf:4000<s.size∨300<(lines s).length
 ·rw [if_pos hf] at h;exact absurd (congrArg Prod.fst h) (by decide)
 ·rw [if_neg hf] at h
  by_cases hok:∀ x∈lines s,(say x).ok=true
  ·rw [zeP _ hok 0,zeO _ hok] at h
   have hka:=zkp (lines s)
   generalize zaU (lines s) (lines s).length=K at h hka
   cases K with
   | nil=>exact absurd (congrArg Prod.fst h) (by decide)
   | cons k r =>
    unfold sayK at h
    dsimp only at h
    by_cases h0:k.sort=0
    ·have hfn:=zn3 _ 0 k r hka.symm h0
     refine⟨(zaP ((lines s).map say) 0).map zy7,hgood,ziu _ 0 k r hka.symm h0,zwA _,?_⟩
     rw [List.length_map,←hfn]
     have h1:0<(addK [] k).length:=by unfold addK;rw [if_pos h0];simp
     exact Nat.lt_of_lt_of_le h1 (zjq r _)
    ·rw [if_neg h0] at h
     exact absurd (congrArg Prod.fst h) (show ¬(2:Int)=0 by decide)
  ·exfalso
   have:∃ x∈lines s,¬(say x).ok=true:=by
    refine Classical.byContradiction fun hn=>hok fun x hx=>?_
    refine Classical.byContradiction fun hx'=>hn ⟨x,hx,hx'⟩
   obtain⟨x,hx,hb⟩:=this
   obtain⟨j,hj,rfl⟩:=List.mem_iff_getElem.1 hx
   exact zkx (lines s) 0 j hj (by omega) (by simpa using hb) h
def VerS(s:ByteArray)(bs bf er ln:Int):Prop:=(¬zcg s=(0,0)∧zcg s=(er,ln)∧bs=0∧bf=0)∨(zcg s=(0,0)∧VerdL ((lines s).map say) none∧bs=0∧bf=0∧er=8∧ln=0)∨(zcg s=(0,0)∧VerdL ((lines s).map say) (some (bs,bf))∧er=0∧ln=0)
theorem VerS.unique{s:ByteArray}{a b c d a' b' c' d':Int}(h:VerS s a b c d)(h':VerS s a' b' c' d'):a=a'∧b=b'∧c=c'∧d=d':=by
 rcases h with ⟨n,r,e1,e2⟩|⟨r,v,e1,e2,e3,e4⟩|⟨r,v,e3,e4⟩ <;> rcases h' with ⟨n',r',e1',e2'⟩|⟨r',v',e1',e2',e3',e4'⟩|⟨r',v',e3',e4'⟩
 ·rw [r] at r';cases r';exact⟨by omega,by omega,rfl,rfl⟩
 ·exact absurd r' n
 ·exact absurd r' n
 ·exact absurd r n'
 ·exact⟨by omega,by omega,by omega,by omega⟩
 ·have:=v.unique v';cases this
 ·exact absurd r n'
 ·have:=v.unique v';cases this
 ·have:=v.unique v';cases this;exact⟨rfl,rfl,by omega,by omega⟩
theorem zoe(s:ByteArray)(w:World)(hw:LibW w)(hs:s.size≤9223372036854775807):Calls Tryz.prog 26 #[.string s] w fun e w'=>∃ bs bf er ln,VerS s bs bf er ln∧ziR w bs bf er ln e w':=by
 have hbw:=ziQ w s
 have hbo:=zeS (VfW w s)
 have hb2:Below w.heap.size w (OutW (VfW w s)):=hbw.trans (hbo.mono hbw.size)
 have hw2:=hw.below hb2
 have hsz:=zkC w s
 obtain⟨t1,d0,d1,z⟩:=zue w s
 have t1':(OutW (VfW w s)).cell? ⟨w.heap.size,0,none⟩=some (.string s):=(World.cell?_of_block (a:=⟨w.heap.size,0,none⟩) (hbo.block _ (by show w.heap.size<_;rw [hsz];omega))).trans t1
 have d0':(OutW (VfW w s)).cell? ⟨w.heap.size+1,0,none⟩=some (.int .i64 0):=(World.cell?_of_block (a:=⟨w.heap.size+1,0,none⟩) (hbo.block _ (by show w.heap.size+1<_;rw [hsz];omega))).trans d0
 have d1':(OutW (VfW w s)).cell? ⟨w.heap.size+1,1,none⟩=some (.int .i64 0):=(World.cell?_of_block (a:=⟨w.heap.size+1,1,none⟩) (hbo.block _ (by show w.heap.size+1<_;rw [hsz];omega))).trans d1
 have z':∀ j,(OutW (VfW w s)).frozen? ⟨w.heap.size+1,j,none⟩=false:=fun j=>(World.frozen?_of_block (a:=⟨w.heap.size+1,j,none⟩) (hbo.block _ (by show w.heap.size+1<_;rw [hsz];omega))).trans (z j)
 by_cases hR:zcg s=(0,0)
 ·have hv:=zud _ hw2 w.heap.size (w.heap.size+1) s t1' _ (zpi s hR) d0' d1' z'
  by_cases hn:VerdL ((lines s).map say) none
  ·refine(zeB w s 8 0 (hv.mono ?_)).mono fun e w' h=>⟨0,0,8,0,.inr (.inl ⟨hR,hn,rfl,rfl,rfl,rfl⟩),h⟩
   rintro e w' (⟨rfl,_,hb⟩|⟨bs,bf,_,hv2,_⟩)
   ·exact⟨rfl,hb⟩
   ·have:=hn.unique hv2;cases this
  ·by_cases hy:∃ b,VerdL ((lines s).map say) (some b)
   ·obtain⟨⟨bs,bf⟩,hy⟩:=hy
    refine(zrs w s bs bf (hv.mono ?_)).mono fun e w' h=>⟨bs,bf,0,0,.inr (.inr ⟨hR,hy,rfl,rfl⟩),h⟩
    rintro e w' (⟨_,hv2,_⟩|⟨bs2,bf2,rfl,hv2,w1,hb,rfl⟩)
    ·exact absurd hv2 hn
    ·have:=hy.unique hv2
     cases this
     exact⟨rfl,w1,hb,rfl⟩
   ·exfalso
    obtain⟨F,R⟩:=zei s hR
    obtain⟨v,hv2⟩:=zfC R
    cases v with
    | none=>exact hn hv2
    | some b=>exact hy ⟨b,hv2⟩
 ·have hv:=zw9 _ hw2 w.heap.size (w.heap.size+1) s t1' (zcg s) hR (ziq s hs)
  exact(zeB w s _ _ hv).mono fun e w' h=>⟨0,0,(zcg s).1,(zcg s).2,.inl ⟨hR,rfl,rfl,rfl⟩,h⟩
abbrev RnW(w:World)(s:ByteArray)(iv:Value):World:=((w.alloc (.cells #[.string s] 9)).alloc (.cells #[iv] 29)).alloc Z34
theorem zp1(w:World)(s:ByteArray)(iv:Value):(RnW w s iv).heap.size=w.heap.size+1+1+1:=by simp
theorem ziU(w:World)(s:ByteArray)(iv:Value):Below w.heap.size w (RnW w s iv):=(((Below.refl _ _).alloc (Nat.le_refl _) _).alloc (by simp) _).alloc (by simp;omega) _
theorem zuh(w:World)(s:ByteArray)(iv:Value):RnIn (RnW w s iv) w.heap.size (w.heap.size+1) (w.heap.size+1+1) s iv:=by
 have b1:Below (w.alloc (.cells #[.string s] 9)).heap.size (w.alloc (.cells #[.string s] 9)) (RnW w s iv):=((Below.refl _ _).alloc (Nat.le_refl _) _).alloc (by simp) _
 have b2:Below ((w.alloc (.cells #[.string s] 9)).alloc (.cells #[iv] 29)).heap.size ((w.alloc (.cells #[.string s] 9)).alloc (.cells #[iv] 29)) (RnW w s iv):=(Below.refl _ _).alloc (Nat.le_refl _) _
 have c1:=World.cell?_alloc_new (w:=w) #[.string s] 9 0
 have c2:=World.cell?_alloc_new (w:=w.alloc (.cells #[.string s] 9)) #[iv] 29 0
 rw [show(w.alloc (.cells #[.string s] 9)).heap.size=w.heap.size+1 by simp] at c2
 refine⟨za3 b1 c1,za3 b2 c2,?_,by omega⟩
 have:=zfS ((w.alloc (.cells #[.string s] 9)).alloc (.cells #[iv] 29))
 rwa [show((w.alloc (.cells #[.string s] 9)).alloc (.cells #[iv] 29)).heap.size=w.heap.size+1+1 by simp] at this
theorem zwG(w:World)(s:ByteArray)(iv:Value):(RnW w s iv).rangeAt (w.heap.size+1+1) 0 (zaV zfj (.slice none 0 0) 0):=by
 rw [zzY]
 have:=zio ((w.alloc (.cells #[.string s] 9)).alloc (.cells #[iv] 29)) [.int .i64 0,.int .i64 0,.int .i64 0,.int .i64 0,.int .i64 0,.int .i64 0,.int .i64 0,.int .i64 0,.int .i64 0,.int .i64 0,.int .i64 0,.int .i64 0,.int .i64 0,.int .i64 0,.int .i64 0,.int .i64 0,.int .i64 0,.int .i64 0,.int .i64 0,.int .i64 0,.int .i64 0,.int .i64 0,.int .i64 0,.int .i64 0,.int .i64 0,.slice none 0 0,.int .i64 0,.int .i64 0,.int .i64 0,.int .i64 0] 34
 rwa [show((w.alloc (.cells #[.string s] 9)).alloc (.cells #[iv] 29)).heap.size=w.heap.size+1+1 by simp] at this
theorem RnIn.below{w w':World}{pt pi pr:Nat}{s:ByteArray}{iv:Value}(T:RnIn w pt pi pr s iv)(hb:Below w.heap.size w w'):RnIn w' pt pi pr s iv:=by
 obtain⟨t1,t3,t4,t5⟩:=T
 refine⟨za3 hb t1,za3 hb t3,za9 t4 hb ?_,t5⟩
 obtain⟨u,hu⟩:=Option.isSome_iff_exists.1 (t4 0 (by omega)).1
 exact World.block_lt_of_cell? w _ hu
theorem zgi(w:World)(s:ByteArray)(ao:Option Addr)(m icap:Nat)(er ln:Int)
  (hcall:Calls Tryz.prog 57 (zp0 w.heap.size (w.heap.size+1) (w.heap.size+1+1)) (OutW (RnW w s (.slice ao m icap))) fun e w'=>e=zak er ln∧Below (OutW (RnW w s (.slice ao m icap))).heap.size (OutW (RnW w s (.slice ao m icap))) w') :
  Calls Tryz.prog 25 #[.string s,.slice ao m icap] w (ze2 w ⟨zfj,0,er,ln⟩):=by
 have hmf:∀(fn:Go.Fn) (first cap:Array Value) (w:World),(Instr.makeFunc fn first cap).run Tryz.prog w=.ok (.func fn first cap) w:=fun _ _ _ _=>rfl
 have hout:=zeq 57 _ (RnW w s (.slice ao m icap)) er ln (fun W=>by kernel_rfl) hcall
 have hz:=zwG w s (.slice ao m icap)
 have hsz:=zp1 w s (.slice ao m icap)
 have hbw:=ziU w s (.slice ao m icap)
 have hth:=(zuh w s (.slice ao m icap)).state
 go_enter Tryz.func25,Tryz.ntmps25
 go_wp2_with(first|(go_at_call 42;refine hout.mono ?_;rintro e w5 ⟨rfl,hb5⟩;refine Hid.out ?_))
 unfold Hid
 have hr:=zn5 hz hb5 (by rw [hsz];omega)
 have hth5:=za9 hth hb5 (by rw [hsz];omega)
 have hb05:Below w.heap.size w w5:=hbw.trans (hb5.mono hbw.size)
 have hl:=zbX zfj (.slice none 0 0) 0
 have h1:=zcH zfj none 0 0 0
 generalize hds:zaV zfj (.slice none 0 0) 0=ds at hr hl h1
 have hi:=zcK ds hl
 have hid:(Tryz.prog.info? 34).map (·.size)=some ds.length:=by rw [hl];exact Tryz.info34
 have hu34:Tryz.prog.underlying 34=some (.struct _):=Tryz.underlying34
 have ht:w5.there (w.heap.size+1+1) 0 ds.toArray.size:=by rw [show ds.toArray.size=30 by simp [hl]];exact hth5
 clear hz hout
 repeat(first
  | (refine wpList_load_mid rfl 34 _ rfl (w.heap.size+1+1) 0 rfl ds _ hr hu34 rfl hid ?_)
  | (refine wpList_store_mid rfl 34 _ _ rfl (w.heap.size+1+1) 0 ds.toArray rfl rfl ht hi h1 ?_)
  | go_values|go_skip|go_guarded|go_step|go_upon|go_back)
 exact zlL (T:=⟨zfj,0,er,ln⟩) (w.heap.size+1+1) (by omega) Tryz.results25 ds hds ht hb05 (World.ownsRow_nil _ _ _ _) (by simp [Value.ownBlock]) rfl rfl rfl rfl
theorem zwH(w:World)(s:ByteArray)(ao:Option Addr)(m icap:Nat)(FIN:Mc)
  (hcall:Calls Tryz.prog 57 (zp0 w.heap.size (w.heap.size+1) (w.heap.size+1+1)) (OutW (RnW w s (.slice ao m icap))) fun e w'=>e=.returned (.tuple #[])∧ztg (OutW (RnW w s (.slice ao m icap))) (w.heap.size+1+1) FIN FIN.line w') :
  Calls Tryz.prog 25 #[.string s,.slice ao m icap] w (ze2 w ⟨FIN,FIN.line,0,0⟩):=by
 have hmf:∀(fn:Go.Fn) (first cap:Array Value) (w:World),(Instr.makeFunc fn first cap).run Tryz.prog w=.ok (.func fn first cap) w:=fun _ _ _ _=>rfl
 have hsz:=zp1 w s (.slice ao m icap)
 have hout:=zhH 57 _ (RnW w s (.slice ao m icap)) _ (fun W=>by kernel_rfl) hcall (fun w1 h=>zq6 (by rw [hsz];omega) h)
 have hbw:=ziU w s (.slice ao m icap)
 have hth:=(zuh w s (.slice ao m icap)).state
 have hbo:=zeS (RnW w s (.slice ao m icap))
 have hso:(OutW (RnW w s (.slice ao m icap))).heap.size=w.heap.size+1+1+1+1+1:=by simp
 go_enter Tryz.func25,Tryz.ntmps25
 go_wp2_with(first|(go_at_call 42;refine hout.mono ?_;rintro e w5 ⟨rfl,w1,hq,hw5⟩;have HW5:Hid _:=hw5;clear hw5;refine Hid.out ?_))
 have hw5:=HW5.out
 clear HW5
 unfold Hid
 obtain⟨wz,oo,no,co,rfl,hbz,hrow⟩:=hq
 have hl:=zbX FIN (.slice oo no co) FIN.line
 have h1:=zcH FIN oo no co FIN.line
 generalize hds:zaV FIN (.slice oo no co) FIN.line=ds at hw5 hl h1
 have hthz:=za9 (za9 hth hbo (by rw [hsz];omega)) hbz (by rw [hso];omega)
 have hrz:=World.rangeAt_setCells_same wz (w.heap.size+1+1) 0 ds (by rw [hl];exact hthz)
 have hthz2:=World.there_setCells hthz (w.heap.size+1+1) 0 ds
 have hbz2:Below w.heap.size w (wz.setCells (w.heap.size+1+1) 0 ds):=zaF ds 0 (hbw.trans ((hbo.mono hbw.size).trans (hbz.mono (by rw [hso];omega)))) (by omega)
 have hrow2:(wz.setCells (w.heap.size+1+1) 0 ds).ownsRow (OutW (RnW w s (.slice ao m icap))).heap.size 2 1 (.slice oo no co) FIN.out.length (i64s FIN.out):=zaj hrow (fun q hq=>zbG ds wz _ _ _ (by have:=(hrow.lt q hq).1;omega))
 generalize wz.setCells (w.heap.size+1+1) 0 ds=X at hw5 hrz hthz2 hbz2 hrow2
 have eb:∀ b,¬b=(RnW w s (.slice ao m icap)).heap.size→¬b=(RnW w s (.slice ao m icap)).heap.size+1→w5.heap[b]?=X.heap[b]?:=fun b n0 n1=>by
  rw [hw5,Below.heap_setCell _ _ _ _ (by exact n1),Below.heap_setCell _ _ _ _ (by exact n0)]
 have hr:=zn6 hrz (eb _ (by omega) (by omega))
 have hth5:=zn7 hthz2 (eb _ (by omega) (by omega))
 have hb05:Below w.heap.size w w5:=by
  rw [hw5]
  exact(hbz2.setCell (p:=⟨(RnW w s (.slice ao m icap)).heap.size,0,none⟩) (by show w.heap.size≤(RnW w s (.slice ao m icap)).heap.size;omega) _).setCell (p:=⟨(RnW w s (.slice ao m icap)).heap.size+1,0,none⟩) (by show w.heap.size≤(RnW w s (.slice ao m icap)).heap.size+1;omega) _
 have hrow5:w5.ownsRow (OutW (RnW w s (.slice ao m icap))).heap.size 2 1 (.slice oo no co) FIN.out.length (i64s FIN.out):=zaj hrow2 (fun q hq=>eb q (by have:=(hrow2.lt q hq).1;omega) (by have:=(hrow2.lt q hq).1;omega))
 have hi:=zcK ds hl
 have hid:(Tryz.prog.info? 34).map (·.size)=some ds.length:=by rw [hl];exact Tryz.info34
 have hu34:Tryz.prog.underlying 34=some (.struct _):=Tryz.underlying34
 have ht:w5.there (w.heap.size+1+1) 0 ds.toArray.size:=by rw [show ds.toArray.size=30 by simp [hl]];exact hth5
 clear hout hw5 eb hrz hthz2 hrow2 hbz2 hrow hbz hthz
 repeat(first
  | (refine wpList_load_mid rfl 34 _ rfl (w.heap.size+1+1) 0 rfl ds _ hr hu34 rfl hid ?_)
  | (refine wpList_store_mid rfl 34 _ _ rfl (w.heap.size+1+1) 0 ds.toArray rfl rfl ht hi h1 ?_)
  | go_values|go_skip|go_guarded|go_step|go_upon|go_back)
 exact zlL (T:=⟨FIN,FIN.line,0,0⟩) (w.heap.size+1+1) (by omega) Tryz.results25 ds hds ht hb05 (zbV hrow5 (by omega)) (fun q hq=>by have:=(hrow5.lt q hq).1;omega) rfl rfl rfl rfl
def RunS(s:ByteArray)(inp:List Int)(T:Told):Prop:=(¬zcg s=(0,0)∧T=⟨zfj,0,(zcg s).1,(zcg s).2⟩)∨(zcg s=(0,0)∧VerdL ((lines s).map say) none∧T=⟨zfj,0,8,0⟩)∨(zcg s=(0,0)∧∃ bs bf,VerdL ((lines s).map say) (some (bs,bf))∧T=⟨ranL ((lines s).map say) inp bs,(ranL ((lines s).map say) inp bs).line,0,0⟩)
theorem zui(s:ByteArray)(w:World)(hw:LibW w)(hs:s.size≤9223372036854775807)(ao:Option Addr)(icap:Nat)(inp:List Int)(hiv:SlB w w.heap.size (.slice ao inp.length icap) inp)(hin:inp.length≤9223372036854775807):Calls Tryz.prog 25 #[.string s,.slice ao inp.length icap] w fun e w'=>∃ T,RunS s inp T∧ze2 w T e w':=by
 have hbw:=ziU w s (.slice ao inp.length icap)
 have hbo:=zeS (RnW w s (.slice ao inp.length icap))
 have hb2:Below w.heap.size w (OutW (RnW w s (.slice ao inp.length icap))):=hbw.trans (hbo.mono hbw.size)
 have hw2:=hw.below hb2
 have hT:=(zuh w s (.slice ao inp.length icap)).below hbo
 by_cases hR:zcg s=(0,0)
 ·have hv:=zug _ hw2 _ _ _ s ao icap inp hT _ (zpi s hR) (hiv.mono hb2) hin
  by_cases hn:VerdL ((lines s).map say) none
  ·refine(zgi w s ao inp.length icap 8 0 (hv.mono ?_)).mono fun e w' h=>⟨_,.inr (.inl ⟨hR,hn,rfl⟩),h⟩
   rintro e w' (⟨rfl,_,hb⟩|⟨bs,bf,_,hv2,_⟩)
   ·exact⟨rfl,hb⟩
   ·have:=hn.unique hv2;cases this
  ·by_cases hy:∃ b,VerdL ((lines s).map say) (some b)
   ·obtain⟨⟨bs,bf⟩,hy⟩:=hy
    refine(zwH w s ao inp.length icap (ranL ((lines s).map say) inp bs) (hv.mono ?_)).mono fun e w' h=>⟨_,.inr (.inr ⟨hR,bs,bf,hy,rfl⟩),h⟩
    rintro e w' (⟨_,hv2,_⟩|⟨bs2,bf2,rfl,hv2,hp⟩)
    ·exact absurd hv2 hn
    ·have:=hy.unique hv2
     cases this
     exact⟨rfl,hp⟩
   ·exfalso
    obtain⟨F,R⟩:=zei s hR
    obtain⟨v,hv2⟩:=zfC R
    cases v with
    | none=>exact hn hv2
    | some b=>exact hy ⟨b,hv2⟩
 ·have hv:=zwF _ hw2 _ _ _ s _ hT (zcg s) hR (ziq s hs)
  exact(zgi w s ao inp.length icap _ _ hv).mono fun e w' h=>⟨_,.inl ⟨hR,rfl⟩,h⟩
theorem zgG{s:ByteArray}{bs bf er ln:Int}(h:VerS s bs bf er ln)(w:World)(hw:LibW w)(hs:s.size≤9223372036854775807):Calls Tryz.prog 26 #[.string s] w (ziR w bs bf er ln):=by
 refine(zoe s w hw hs).mono ?_
 rintro e w' ⟨a,b,c,d,h',hp⟩
 obtain⟨rfl,rfl,rfl,rfl⟩:=h.unique h'
 exact hp
theorem VerdL.ends{L:List Said}{bs bf:Int}(h:VerdL L (some (bs,bf)))(inp:List Int)(hin:∀ x∈inp,i64 x)(N:Nat)(hN:bs≤(N:Int)):
  ((runS (zc9 L) N (zbL L inp)).fin=1∨(runS (zc9 L) N (zbL L inp)).fin=2)∧(runS (zc9 L) N (zbL L inp)).steps≤bs∧(runS (zc9 L) N (zbL L inp)).peak≤bf:=by
 obtain⟨F,R,hv⟩:=h
 have e:=(zsT R.sim R.codeOk N (zeQ R.codeOk inp)).1
 rw [←R.begin inp] at e
 rw [e]
 exact hv.ends R.sure inp hin N hN
theorem VerdL.bound{L:List Said}{bs bf:Int}(h:VerdL L (some (bs,bf))):1≤bs∧bs≤100000∧1≤bf∧bf≤16:=by
 obtain⟨F,R,hv⟩:=h
 exact hv.bound R.sure
theorem zrz(m:Mc)(ov:Value)(line:Int):(zaV m ov line)[29]?=some (.int .i64 m.fin):=by simp [zaV]
def zeC:ByteArray:=⟨#[102,117,110,99,32,102,10,98,97,99,107]⟩
def zkb:List Said:=(lines zeC).map say
theorem zgH:zcg zeC=(0,0):=by kernel_rfl
theorem zrv:zkb.length=2:=by kernel_rfl
theorem zwC:(zkb[0]?).map (·.kind)=some 102:=by kernel_rfl
theorem zwD:(zkb[1]?).map zew=some ⟨#[98,97,99,107]⟩:=by kernel_rfl
theorem zrw:cnt zkb 1=0:=by kernel_rfl
theorem zrx{F:List FnM}(R:Right zkb F):∃ ln,zao F=[(.back,ln)]:=by
 have key:∀ p (hp:p<(zao F).length),p=0∧(zao F)[p].1=.back:=fun p hp=>by
  rw [zdK] at hp
  obtain⟨k,f,m,it,hk,hm,rfl⟩:=zkw F p hp
  have h1:=zfY F 0 F k f hk m it hm
  rw [Nat.zero_add] at h1
  have h2:(zao F)[lenF (F.take k)+m]?=some (insM F k it,it.line):=h1
  obtain⟨j,hj,h5,hkey,hc,_⟩:=R.it_at hk hm
  have hj2:j=1:=by
   have hl:=zrv
   have h0:¬j=0:=fun e=>by
    subst e
    have:=zwC
    rw [List.getElem?_eq_getElem hj] at this
    simp only [Option.map_some,Option.some.injEq] at this
    omega
   omega
  subst hj2
  have hw:it.word=zew zkb[1]:=congrArg Key.word hkey
  have hb:=zwD
  rw [List.getElem?_eq_getElem hj,Option.map_some,Option.some.injEq] at hb
  refine⟨by rw [hc];exact zrw,?_⟩
  rw [(List.getElem?_eq_some_iff.1 h2).2]
  show insX it.word it.a it.b it.c it.n _ _=.back
  rw [hw,hb]
  exact ziv _ _ _ _ _ _
 have hs:=R.codeOk.some_
 have hl:(zao F).length=1:=by
  by_cases h:1<(zao F).length
  ·have:=(key 1 h).1;omega
  ·omega
 obtain⟨q,hq⟩:=List.length_eq_one_iff.1 hl
 have:=(key 0 hs).2
 simp only [hq] at this
 refine⟨q.2,?_⟩
 rw [hq]
 have e:q.1=.back:=by simpa using this
 rw [←e]
theorem zry{ln:Int}:Verd [(.back,ln)] (some (1,1)):=by
 have ht:TakeD [kn0] kn0 []:=⟨.one (List.Perm.refl _) (fun y hy=>by cases hy),fun y hy=>by cases hy⟩
 refine⟨⟨[],1,rsk0.see kn0,1,1⟩,.step .zero ⟨kn0,[],[],0,by simp,by show 0<500000;omega,by show 1≤1000;omega,ht,by show ¬(0:Int)=100000;omega,?_,rfl,rfl,List.Perm.refl _,rfl,rfl,rfl⟩,rfl,rfl,rfl⟩
 show rsk0.endless kn0=some (rsk0.see kn0)
 exact if_pos rfl
theorem ziS:VerdL ((lines zeC).map say) (some (1,1)):=by
 obtain⟨F,R⟩:=zei zeC zgH
 obtain⟨ln,e⟩:=zrx R
 exact⟨F,R,by rw [e];exact zry⟩
end
section
open Go.ChangeShapes Go.WideShapes Go.ChangeAt Go.RowKit Sp
theorem zo0{H:Type}{enc:TypeId × Value→H}{W:World}{base:Nat}{v:Value}{d:DataW H}{p:List MemPlace}(hval:Value.okWide Tryz.prog W .any base 59 v)(h:DataW.Trod enc Tryz.prog W 0 (fun _=>true) true 59 v d p):
  ∃(ao:Option Addr) (icap:Nat) (inp:List Int),v=.slice ao inp.length icap∧SlB W W.heap.size (.slice ao inp.length icap) inp∧inp.length≤Rows.uptoBulk d∧(∀ x∈inp,i64 x)∧inp.length≤9223372036854775807 ∧
   ∀ W',Below W.heap.size W W'→DataW.Trod enc Tryz.prog W' 0 (fun b=>decide (b<W.heap.size)) true 59 v d p:=by
 obtain⟨a0,len0,cap0,rfl⟩:=okWide_slice Tryz.underlying59 hval
 obtain⟨fuel,hf⟩:=h
 have hc:Tryz.prog.cellsOf 3=1:=by kernel_rfl
 rcases open_ints Tryz.underlying59 Tryz.underlying3 hc hf with ⟨hcs,hx⟩|⟨a,len,cap,zs,hcs,_,hle,hmax,hall,hx,hcell,hwf⟩
 ·simp [Value.cells] at hcs
  obtain⟨rfl,rfl,rfl⟩:=hcs
  simp only [Prod.mk.injEq] at hx
  obtain⟨rfl,rfl⟩:=hx
  refine⟨none,0,[],rfl,⟨none,0,rfl,Nat.le_refl _,fun h=>by simp at h⟩,Nat.zero_le _,(fun x hx=>(by cases hx)),Nat.zero_le _,fun W' _=>⟨1,?_⟩⟩
  simp [DataW.trod,Value.cells,Tryz.underlying59]
 ·simp [Value.cells] at hcs
  obtain⟨rfl,rfl,rfl⟩:=hcs
  simp only [Prod.mk.injEq] at hx
  obtain⟨rfl,rfl⟩:=hx
  simp only [if_true] at hall
  have hlt:(zs.take len0).length=len0:=by rw [List.length_take];omega
  refine⟨some a,cap0,zs.take len0,by rw [hlt],⟨some a,cap0,rfl,by omega,fun hp=>?_⟩,?_,fun x hx=>?_,by rw [hlt];exact Nat.le_trans hle (Nat.le_trans hmax (by decide)),fun W' hb=>⟨2,?_⟩⟩
  ·obtain⟨b,off,rfl,hat⟩:=ints_at hcell (by omega)
   have hbl:b<W.heap.size:=World.block_lt_of_cell? W _ (hat 0 (by omega))
   refine⟨b,off,rfl,hbl,hbl,fun j hj=>?_⟩
   rw [hat j (by omega)]
   simp [List.getD,show j<zs.length by omega]
  ·have:=zq7 (lits (H:=H) .i64 (zs.take len0)) (lits .i64 (zs.drop len0))
   have hll:(lits (H:=H) .i64 (zs.take len0)).length=(zs.take len0).length:=by simp [lits]
   rw [hll] at this
   exact Nat.le_trans (Nat.le_add_right _ _) this
  ·have:=hwf x (List.mem_of_mem_take hx)
   simp only [Lit.wf,Bool.and_eq_true,decide_eq_true_eq] at this
   exact this
  ·have hz:zs.length=(if decide (a.block<W.heap.size)=true then cap0 else len0):=by
    by_cases h0:0<zs.length
    ·have:a.block<W.heap.size:=by
      have:=World.block_lt_of_cell? W _ (hcell 0 h0)
      simpa [Addr.add] using this
     rw [if_pos (by simpa using this)];exact hall
    ·split <;> omega
   have:=shut_ints (enc:=enc) (P:=Tryz.prog) (w:=W') (base:=0) (spare:=fun b=>decide (b<W.heap.size)) (held:=true) 0 Tryz.underlying59 Tryz.underlying3 hc (Nat.zero_le _) hle hmax hz (fun i hi=>za3 hb (hcell i hi)) hwf
   simpa [Value.cells] using this
end
end Go.Proofs.YtfpgjkbjbbgciaaGreatDoor
