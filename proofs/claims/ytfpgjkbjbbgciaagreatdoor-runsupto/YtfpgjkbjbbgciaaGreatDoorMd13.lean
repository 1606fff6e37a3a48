import Derived.Test.YtfpgjkbjbbgciaaGreatDoorMd11
set_option maxRecDepth 100000
set_option maxHeartbeats 8000000
namespace Go.Proofs.YtfpgjkbjbbgciaaGreatDoor
open Go.RowKit Sp
attribute [local go_sem ↓] Go.wp_at_zero Go.wp_at_succ
theorem ziY(w:World)(a b:Obj)(p:Addr)(h:p.block<w.heap.size):((w.alloc a).alloc b).drew.frozen? p=w.frozen? p :=
 World.frozen?_of_block (w:=w) ((((Below.refl w.heap.size w).alloc (Nat.le_refl _) a).alloc (by simp) b).drew.block p.block h)
theorem znY(w:World)(a b:Obj)(p:Addr)(h:p.block<w.heap.size):((w.alloc a).alloc b).drew.cell? p=w.cell? p :=
 World.cell?_of_block (w:=w) ((((Below.refl w.heap.size w).alloc (Nat.le_refl _) a).alloc (by simp) b).drew.block p.block h)
theorem znZ(w:World)(a:Obj)(cs:Array Value)(t:TypeId):((w.alloc a).alloc (.cells cs t)).drew.heap[w.heap.size+1]?=some (.cells cs t (0,0)):=by
 have h:=heap_alloc_new (w.alloc a) (.cells cs t)
 rw [show(w.alloc a).heap.size=w.heap.size+1 by simp] at h
 exact h
theorem zkS{w w1:World}{a b:Obj}{row:Option Nat}(h:((w.alloc a).alloc b).drew.grownBy w1 row):w.grownBy w1 row :=
 ((World.grownBy_alloc w a row).trans (World.grownBy_alloc _ b row)).trans ⟨h.os,h.tape,h.output,h.size,h.block⟩
theorem zsf(w:World)(B fg o:Nat)(bv:Value)(its:List It)(i:It)(hs:¬i.sort=1)
  (hc:w.cell? ⟨fg,o+2,none⟩=some bv) (hf:w.frozen? ⟨fg,o+2,none⟩=false) (hown:w.ownsRow B 135 8 bv its.length (za0 its)) (hne:bv.ownBlock≠some fg) (hB:B≤w.heap.size) (hn:its.length≤4096) :
  Calls Tryz.prog 101 #[.pointer (some ⟨fg,o,none⟩),stm i.sort i.line i.word i.a i.b i.c i.n i.nm] w fun e w'=>e=.returned (.tuple #[]) ∧
   ∃ g cap w1,w'=w1.setCell ⟨fg,o+2,none⟩ (.slice (some ⟨g,0,none⟩) (its.length+1) cap)∧w.grownBy w1 bv.ownBlock ∧
    w1.ownsRow B 135 8 (.slice (some ⟨g,0,none⟩) (its.length+1) cap) (its.length+1) (za0 (its++[i]))∧(bv.ownBlock=some g∨w.heap.size≤g):=by
 obtain⟨i0,hi0,hz0,hz1,hz2⟩:=info_parts Tryz.info135
 have lg:fg<w.heap.size:=World.block_lt_of_cell? w _ hc
 have hs':(i.sort == 1)=false:=by simpa using hs
 have hlt:∀ b,bv.ownBlock=some b→b<w.heap.size:=fun b hb=>(hown.lt b hb).2
 have hne2:some fg≠bv.ownBlock:=fun e=>hne e.symm
 have hne3:some w.heap.size≠bv.ownBlock:=fun e=>by have:=hlt _ e.symm;omega
 have hne4:¬w.heap.size=fg:=by omega
 have hne5:¬fg=w.heap.size:=by omega
 go_enter Tryz.func101,Tryz.ntmps101
 go_wp2_with fail
 go_region_law
  ((refine step_append_lies _ (by rfl) _ _ _ (by rfl) B 135 i0 _ 8 80 Tryz.under116 hi0 hz0 hz1 hz2 rfl (by omega) bv its.length (za0 its) (by rfl) (((hown.alloc _).alloc _).drew)
     ⟨w.heap.size+1,0,none⟩ 1 1 i.cells (by rfl) (by rfl) (World.news_of_block (cs:=i.cells.toArray) (t:=135) (fr:=(0,0)) (znZ w _ _ _)) (zkH i)
     (by omega) (by unfold maxLen;omega) (by omega) (by simp;omega) (w.heap.size+1+1) (by simp) ?_;intro g cap w1 hown1 hgrow hat hltg;have hfz:w1.frozen? ⟨fg,o+2,none⟩=false:=(hgrow.frozen_far _ (by simp;omega) hne2).trans ((ziY w _ _ _ lg).trans hf);have hcz:w1.cell? ⟨fg,o+2,none⟩=some bv:=(hgrow.cell_far _ (by simp;omega) hne2).trans ((znY w _ _ _ lg).trans hc)))
 all_goals go_end0
 all_goals exact⟨rfl,g,cap,w1,rfl,zkS hgrow,by rw [zfK];exact hown1,by rcases hat with h|h;exact .inl h;exact .inr (by omega)⟩
end Go.Proofs.YtfpgjkbjbbgciaaGreatDoor
namespace Go.Proofs.YtfpgjkbjbbgciaaGreatDoor
open Go.RowKit Sp
theorem zuU(w:World)(b wb cap r s t:Nat)(lv bv iv ov:Value)(m:Mc)(x1 x2 x3:ByteArray)(h:RefM w b lv bv iv ov m)(hw:WdIn w wb [⟨#[97,100,100]⟩,x1,x2,x3])(_hne:¬wb=b)(hr:r<8)(hreg:reg x1=(r:Int))(hs:s<8)(hreg2:reg x2=(s:Int))(ht:t<8)(hreg3:reg x3=(t:Int))(hx1:x1.size≤1048576)(hx2:x2.size≤1048576)(hx3:x3.size≤1048576):
  Calls Tryz.prog 90 #[.pointer (some ⟨b,0,none⟩),.slice (some ⟨wb,0,none⟩) 4 cap] w fun e w'=>e=.returned (.tuple #[])∧RefM w' b lv bv iv ov { m with regs:=upd m.regs r (zbr 0 (m.regs s) (m.regs t)) }∧w.grownBy w' (some b):=by
 have c0:=hw 0 (by simp)
 have c1:=hw 1 (by simp)
 have c2:=hw 2 (by simp)
 have c3:=hw 3 (by simp)
 simp only [List.getElem_cons_zero,List.getElem_cons_succ] at c0 c1 c2 c3
 have hcr:=h.cR r hr
 have hfz:=h.fz (5+r)
 have hr0:(0:Int)≤(r:Int):=by omega
 have hr8:(r:Int)<8:=by omega
 have g1:=zap x1 r hreg hx1
 have hcs:=h.cR s hs
 have hs0:(0:Int)≤(s:Int):=by omega
 have hs8:(s:Int)<8:=by omega
 have hct:=h.cR t ht
 have ht0:(0:Int)≤(t:Int):=by omega
 have ht8:(t:Int)<8:=by omega
 have g2:=zap x2 s hreg2 hx2
 have g3:=zap x3 t hreg3 hx3
 have g4:=fun W=>zpF (m.regs s) (m.regs t) W
 generalize zbr 0 (m.regs s) (m.regs t)=v at g4 ⊢
 go_enter Tryz.func90,Tryz.ntmps90
 go_wp2_with(first|(go_at_call 75;refine(g1 _).mono ?_;rintro e wx ⟨rfl,hww⟩;have hw2:=hww.symm;subst hw2))
 refine zak 30 (by kernel_rfl) (by kernel_rfl) ?_
 simp only [List.take,List.drop]
 repeat(go_big_quiet_step (first|(go_at_call 111;exact Calls.quiet_of_same (g4 _))|(go_at_call_of 75 (Value.string x2);exact Calls.quiet_of_same (g2 _))|(go_at_call_of 75 (Value.string x3);exact Calls.quiet_of_same (g3 _))))
 refine wpQuiet_nil ?_
 rintro _ ⟨nq,rfl⟩
 go_wp2
 go_end0
 exact⟨rfl,(h.drewN nq).setR r hr _,zac (zaN _ _)⟩
theorem zuV(w:World)(b wb cap r s t:Nat)(lv bv iv ov:Value)(m:Mc)(x1 x2 x3:ByteArray)(h:RefM w b lv bv iv ov m)(hw:WdIn w wb [⟨#[115,117,98]⟩,x1,x2,x3])(_hne:¬wb=b)(hr:r<8)(hreg:reg x1=(r:Int))(hs:s<8)(hreg2:reg x2=(s:Int))(ht:t<8)(hreg3:reg x3=(t:Int))(hx1:x1.size≤1048576)(hx2:x2.size≤1048576)(hx3:x3.size≤1048576):
  Calls Tryz.prog 90 #[.pointer (some ⟨b,0,none⟩),.slice (some ⟨wb,0,none⟩) 4 cap] w fun e w'=>e=.returned (.tuple #[])∧RefM w' b lv bv iv ov { m with regs:=upd m.regs r (zbr 1 (m.regs s) (m.regs t)) }∧w.grownBy w' (some b):=by
 have c0:=hw 0 (by simp)
 have c1:=hw 1 (by simp)
 have c2:=hw 2 (by simp)
 have c3:=hw 3 (by simp)
 simp only [List.getElem_cons_zero,List.getElem_cons_succ] at c0 c1 c2 c3
 have hcr:=h.cR r hr
 have hfz:=h.fz (5+r)
 have hr0:(0:Int)≤(r:Int):=by omega
 have hr8:(r:Int)<8:=by omega
 have g1:=zap x1 r hreg hx1
 have hcs:=h.cR s hs
 have hs0:(0:Int)≤(s:Int):=by omega
 have hs8:(s:Int)<8:=by omega
 have hct:=h.cR t ht
 have ht0:(0:Int)≤(t:Int):=by omega
 have ht8:(t:Int)<8:=by omega
 have g2:=zap x2 s hreg2 hx2
 have g3:=zap x3 t hreg3 hx3
 have g4:=fun W=>zpG (m.regs s) (m.regs t) W
 generalize zbr 1 (m.regs s) (m.regs t)=v at g4 ⊢
 go_enter Tryz.func90,Tryz.ntmps90
 go_wp2_with(first|(go_at_call 75;refine(g1 _).mono ?_;rintro e wx ⟨rfl,hww⟩;have hw2:=hww.symm;subst hw2))
 refine zak 30 (by kernel_rfl) (by kernel_rfl) ?_
 simp only [List.take,List.drop]
 repeat(go_big_quiet_step (first|(go_at_call 111;exact Calls.quiet_of_same (g4 _))|(go_at_call_of 75 (Value.string x2);exact Calls.quiet_of_same (g2 _))|(go_at_call_of 75 (Value.string x3);exact Calls.quiet_of_same (g3 _))))
 refine wpQuiet_nil ?_
 rintro _ ⟨nq,rfl⟩
 go_wp2
 go_end0
 exact⟨rfl,(h.drewN nq).setR r hr _,zac (zaN _ _)⟩
end Go.Proofs.YtfpgjkbjbbgciaaGreatDoor
namespace Go.Proofs.YtfpgjkbjbbgciaaGreatDoor
open Go.RowKit Sp
attribute [local go_sem ↓] Go.wp_at_zero Go.wp_at_succ
theorem Tryz.info131:(Tryz.prog.info? 131).map (fun i=>(i.zero,i.size,i.bytes))=some (some (.agg #[.string ByteArray.empty,.int .i64 0,.slice none 0 0,.map none]),4,56):=by kernel_rfl
theorem Tryz.under80:Tryz.prog.underlying 80=some (.slice 131):=by kernel_rfl
theorem zwp(W:World):(Instr.makeMap 81 none).run Tryz.prog W=.ok (.map (some W.heap.size)) (W.alloc (.map #[] 0)):=by kernel_rfl
theorem zb8{w:World}{B:Nat}{e:TypeId}{size n:Nat}{v:Value}{xs:List Value}(hown:w.ownsRow B e size v n xs):∃ ao cap,v=.slice ao n cap:=by
 rcases hown.2 with ⟨hv,h0⟩|⟨g,cap,cur,hv,_⟩
 ·exact⟨none,0,by rw [hv,h0]⟩
 ·exact⟨_,cap,hv⟩
theorem zsg(w:World)(B p pm n:Nat)(v:Value)(xs:List Value)(i:It)(E:List (ByteArray × Nat))
  (hc:w.cell? ⟨p,0,none⟩=some v) (hm:w.cell? ⟨p,1,none⟩=some (.map (some pm))) (hM:MapIs w pm E) (hown:w.ownsRow B 131 4 v n xs) (_hn:n≤4096)
  (hnm:i.nm.size≤1048576) (hold:(zbA E).any (fun y=>eqW y i.nm)=true) :
  Calls Tryz.prog 100 #[.pointer (some ⟨p,0,none⟩),stm i.sort i.line i.word i.a i.b i.c i.n i.nm] w fun e w'=>e=zaj 3 i.line∧Below w.heap.size w w':=by
 have lg:p<w.heap.size:=World.block_lt_of_cell? w _ hc
 have hne4:¬w.heap.size=p:=by omega
 have hne5:¬p=w.heap.size:=by omega
 obtain⟨ao,cap,rfl⟩:=zb8 hown
 have hcall:=zkP ((w.alloc (.cells #[.int .i64 i.sort,.int .i64 i.line,.string i.word,.int .i64 i.a,.int .i64 i.b,.int .i64 i.c,.int .i64 i.n,.string i.nm] 135)).drew) pm E (hM.alloc _).drew i.sort i.line i.word i.a i.b i.c i.n i.nm (n:Int) hnm hold
 go_enter Tryz.func100,Tryz.ntmps100
 go_wp2_with fail
 go_region_dies
 all_goals(go_at_call 131;refine hcall.mono ?_;rintro e w2 ⟨rfl,hb⟩)
 all_goals exact⟨rfl,rfl,zmI _ _ hb⟩
theorem zsh(w:World)(B p pm n:Nat)(v:Value)(xs:List Value)(i:It)(E:List (ByteArray × Nat))
  (hc:w.cell? ⟨p,0,none⟩=some v) (hm:w.cell? ⟨p,1,none⟩=some (.map (some pm))) (hf:w.frozen? ⟨p,0,none⟩=false) (hM:MapIs w pm E) (hown:w.ownsRow B 131 4 v n xs) (hne:v.ownBlock≠some p) (hB:B≤w.heap.size) (hn:n≤4096) (hnn:E.length≤4096)
  (hnm:i.nm.size≤1048576) (hold:(zbA E).any (fun y=>eqW y i.nm)=false) (hpm:¬p=pm) :
  Calls Tryz.prog 100 #[.pointer (some ⟨p,0,none⟩),stm i.sort i.line i.word i.a i.b i.c i.n i.nm] w fun e w'=>e=.returned (.tuple #[]) ∧
   ∃ g cap w1 w2,w'=w1.setCell ⟨p,0,none⟩ (.slice (some ⟨g,0,none⟩) (n+1) cap)∧w.grownBy w2 (some pm)∧MapIs w2 pm (E++[(i.nm,n)])∧w2.grownBy w1 v.ownBlock∧w.heap.size≤w2.heap.size∧MapIs w1 w2.heap.size [] ∧
    w1.ownsRow B 131 4 (.slice (some ⟨g,0,none⟩) (n+1) cap) (n+1) (xs++[.string i.nm,.int .i64 i.line,.slice none 0 0,.map (some w2.heap.size)])∧(v.ownBlock=some g∨w2.heap.size<g):=by
 obtain⟨i0,hi0,hz0,hz1,hz2⟩:=info_parts Tryz.info131
 have lg:p<w.heap.size:=World.block_lt_of_cell? w _ hc
 have lm:pm<w.heap.size:=hM.lt
 have hne4:¬w.heap.size=p:=by omega
 have hne5:¬p=w.heap.size:=by omega
 have hlt:∀ b,v.ownBlock=some b→b<w.heap.size:=fun b hb=>(hown.lt b hb).2
 have hne2:some p≠v.ownBlock:=fun e=>hne e.symm
 have hmr:=zwI hM hown
 have hrow:v.ownBlock=none∨v.ownBlock≠some pm:=.inr (fun e=>hmr e.symm)
 obtain⟨ao,cap0,hbv⟩:=zb8 hown
 have hc':=hc
 rw [hbv] at hc'
 have hcall:=zkO ((w.alloc (.cells #[.int .i64 i.sort,.int .i64 i.line,.string i.word,.int .i64 i.a,.int .i64 i.b,.int .i64 i.c,.int .i64 i.n,.string i.nm] 135)).drew) pm E (hM.alloc _).drew i.sort i.line i.word i.a i.b i.c i.n i.nm n hn hnn hnm hold
 obtain⟨k0,k1,k2,k3,k4,k5,k6,k7⟩:=zuG w i.sort i.line i.word i.a i.b i.c i.n i.nm
 go_enter Tryz.func100,Tryz.ntmps100
 go_wp2_with fail
 go_region_held3 (fun w'=>w'.cell? ⟨p,0,none⟩=some (.slice ao n cap0)∧w'.cell? ⟨p,1,none⟩=some (.map (some pm))∧w'.cell? ⟨w.heap.size,0,none⟩=some (.int .i64 i.sort)∧w'.cell? ⟨w.heap.size,1,none⟩=some (.int .i64 i.line)∧w'.cell? ⟨w.heap.size,2,none⟩=some (.string i.word) ∧
   w'.cell? ⟨w.heap.size,3,none⟩=some (.int .i64 i.a)∧w'.cell? ⟨w.heap.size,4,none⟩=some (.int .i64 i.b)∧w'.cell? ⟨w.heap.size,5,none⟩=some (.int .i64 i.c)∧w'.cell? ⟨w.heap.size,6,none⟩=some (.int .i64 i.n)∧w'.cell? ⟨w.heap.size,7,none⟩=some (.string i.nm))
  (first
    | go_keep
    | (refine⟨?_,?_,?_,?_,?_,?_,?_,?_,?_,?_⟩
       ·(exact(hg2.cell_far _ (by simp;omega) (by simp;omega)).trans ((zfO w _ _ lg).trans hc'))
       ·(exact(hg2.cell_far _ (by simp;omega) (by simp;omega)).trans ((zfO w _ _ lg).trans hm))
       ·(exact(hg2.cell_far _ (by simp) (by simp;omega)).trans k0)
       ·(exact(hg2.cell_far _ (by simp) (by simp;omega)).trans k1)
       ·(exact(hg2.cell_far _ (by simp) (by simp;omega)).trans k2)
       ·(exact(hg2.cell_far _ (by simp) (by simp;omega)).trans k3)
       ·(exact(hg2.cell_far _ (by simp) (by simp;omega)).trans k4)
       ·(exact(hg2.cell_far _ (by simp) (by simp;omega)).trans k5)
       ·(exact(hg2.cell_far _ (by simp) (by simp;omega)).trans k6)
       ·(exact(hg2.cell_far _ (by simp) (by simp;omega)).trans k7)))
  (first|(go_at_call 131;refine hcall.mono ?_;rintro e w2 ⟨rfl,hM2,hg2⟩))
 have hsz2:w.heap.size+1≤w2.heap.size:=by have:=hg2.size;simpa using this
 have c2:w2.cell? ⟨p,0,none⟩=some v:=(hg2.cell_far _ (by simp;omega) (by simp;omega)).trans ((zfO w _ _ lg).trans hc)
 have f2:w2.frozen? ⟨p,0,none⟩=false:=(hg2.frozen_far _ (by simp;omega) (by simp;omega)).trans ((zgs w _ _ lg).trans hf)
 replace k1:=(hg2.cell_far ⟨w.heap.size,1,none⟩ (by simp) (by simp;omega)).trans k1
 replace k7:=(hg2.cell_far ⟨w.heap.size,7,none⟩ (by simp) (by simp;omega)).trans k7
 have own2:w2.ownsRow B 131 4 v n xs:=((hown.alloc _).drew).kept hg2 hrow
 have hgw:w.grownBy w2 (some pm):=zfP hg2
 clear hcall hg2 hc' hc hm hf hM hown k0 k2 k3 k4 k5 k6
 have l2:p<w2.heap.size:=by omega
 have l3:w.heap.size<w2.heap.size:=by omega
 have hne6:¬w2.heap.size=p:=by omega
 have hne7:¬p=w2.heap.size:=by omega
 have hne8:¬w2.heap.size=w.heap.size:=by omega
 have hne9:¬w.heap.size=w2.heap.size:=by omega
 have hmade:=MapIs.made w2
 have hlt2:∀ b,v.ownBlock=some b→b<w2.heap.size:=fun b hb=>(own2.lt b hb).2
 have hnm2:some w2.heap.size≠v.ownBlock:=fun e=>by have:=hlt2 _ e.symm;omega
 have hmk:=fun W=>zwp W
 go_wp2_with fail
 go_region_law
  ((refine step_append_lies _ (by rfl) _ _ _ (by rfl) B 131 i0 _ 4 56 Tryz.under80 hi0 hz0 hz1 hz2 rfl (by omega) v n xs (by rw [hbv];rfl) (((own2.alloc _).alloc _).drew)
     ⟨w2.heap.size+1,0,none⟩ 1 1 [.string i.nm,.int .i64 i.line,.slice none 0 0,.map (some w2.heap.size)] (by rfl) (by rfl) (World.news_of_block (cs:=#[.string i.nm,.int .i64 i.line,.slice none 0 0,.map (some w2.heap.size)]) (t:=131) (fr:=(0,0)) (znZ w2 _ _ _)) (by simp [Value.oneCell'])
     (by omega) (by unfold maxLen;omega) (by omega) (by simp;omega) (w2.heap.size+1+1) (by simp) ?_;intro g cap w1 hown1 hgrow hat hltg;have hfz:w1.frozen? ⟨p,0,none⟩=false:=(hgrow.frozen_far _ (by simp;omega) hne2).trans ((ziY w2 _ _ _ l2).trans f2);have hcz:w1.cell? ⟨p,0,none⟩=some v:=(hgrow.cell_far _ (by simp;omega) hne2).trans ((znY w2 _ _ _ l2).trans c2)))
 all_goals go_end0
 all_goals exact⟨rfl,g,cap,w1,w2,rfl,hgw,hM2,zkS hgrow,by omega,((hmade.alloc _).drew).kept hgrow hnm2,hown1,by rcases hat with h|h;exact .inl h;exact .inr (by omega)⟩
end Go.Proofs.YtfpgjkbjbbgciaaGreatDoor
namespace Go.Proofs.YtfpgjkbjbbgciaaGreatDoor
open Go.RowKit Sp
structure FnM where
 name:ByteArray
 line:Int
 its:List It
 bv:Value
 m:Nat
abbrev FnM.cells(f:FnM):List Value:=[.string f.name,.int .i64 f.line,f.bv,.map (some f.m)]
def zc2(F:List FnM):List Value:=F.flatMap FnM.cells
def zal(l:List It):List It:=l.filter (fun i=>!decide (i.sort=1))
theorem zkT(l:List It)(i:It)(h:¬i.sort=1):zal (l++[i])=zal l++[i]:=by simp [zal,List.filter_append,h]
theorem zkU(l:List It)(i:It)(h:i.sort=1):zal (l++[i])=zal l:=by simp [zal,List.filter_append,h]
theorem zdM(l:List It):(zal l).length≤l.length:=List.length_filter_le _ _
def zbt:Nat→List It→List (ByteArray × Nat)
 | _,[]=>[]
 | n,i :: r=>if i.sort=1 then(i.nm,n) :: zbt n r else zbt (n+1) r
abbrev zcw(l:List It):List (ByteArray × Nat):=zbt 0 l
theorem zco(n:Nat)(i:It)(r:List It):zbt n (i :: r)=if i.sort=1 then(i.nm,n) :: zbt n r else zbt (n+1) r:=rfl
theorem ze0(n:Nat)(l r:List It):zbt n (l++r)=zbt n l++zbt (n+(zal l).length) r:=by
 induction l generalizing n with
 | nil=>simp [zbt,zal]
 | cons i l ih =>
  rw [List.cons_append,zco,zco]
  by_cases h:i.sort=1
  ·rw [if_pos h,if_pos h,ih n,show zal (i :: l)=zal l by simp [zal,h]]
   rfl
  ·rw [if_neg h,if_neg h,ih (n+1),show zal (i :: l)=i :: zal l by simp [zal,h]]
   rw [show n+1+(zal l).length=n+(i :: zal l).length by simp;omega]
theorem ziZ(l:List It)(i:It)(h:i.sort=1):zcw (l++[i])=zcw l++[(i.nm,(zal l).length)]:=by
 unfold zcw;rw [ze0];simp [zbt,h]
theorem zja(l:List It)(i:It)(h:¬i.sort=1):zcw (l++[i])=zcw l:=by
 unfold zcw;rw [ze0];simp [zbt,h]
theorem zdA(n:Nat)(l:List It):zbA (zbt n l)=zcb (l.map It.key):=by
 induction l generalizing n with
 | nil=>rfl
 | cons i l ih =>
  rw [zco]
  by_cases h:i.sort=1
  ·rw [if_pos h]
   have:=ih n
   simp only [zbA] at this ⊢
   simp [zcb,It.key,h] at this ⊢
   exact this
  ·rw [if_neg h]
   have:=ih (n+1)
   simp only [zbA] at this ⊢
   simp [zcb,It.key,h] at this ⊢
   exact this
def zaR:Nat→List FnM→List (ByteArray × Nat)
 | _,[]=>[]
 | n,f :: r=>(f.name,n) :: zaR (n+1) r
abbrev zbu(F:List FnM):List (ByteArray × Nat):=zaR 0 F
theorem zdx(n:Nat)(f:FnM)(r:List FnM):zaR n (f :: r)=(f.name,n) :: zaR (n+1) r:=rfl
theorem zgt(n:Nat)(F G:List FnM):zaR n (F++G)=zaR n F++zaR (n+F.length) G:=by
 induction F generalizing n with
 | nil=>simp [zaR]
 | cons f F ih =>
  rw [List.cons_append,zdx,zdx,ih (n+1),show n+1+F.length=n+(f :: F).length by simp;omega]
  rfl
theorem zec(F:List FnM)(f:FnM):zbu (F++[f])=zbu F++[(f.name,F.length)]:=by
 unfold zbu;rw [zgt];simp [zaR]
theorem zcy(n:Nat)(F:List FnM):zbA (zaR n F)=F.map FnM.name:=by
 induction F generalizing n with
 | nil=>rfl
 | cons f F ih =>
  have:=ih (n+1)
  simp only [zbA,zaR,List.map_cons] at this ⊢
  rw [this]
theorem zkV(F:List FnM):(zbu F).length=F.length:=by
 have:=congrArg List.length (zcy 0 F)
 simpa [zbA] using this
def FnM.fn(f:FnM):Fn:=⟨f.name,f.line,f.its.map It.key⟩
theorem zhG(F:List FnM):(zc2 F).length=F.length*4:=by
 induction F with
 | nil=>rfl
 | cons i l ih=>simp [zc2] at ih ⊢;omega
theorem zd6(F:List FnM)(f:FnM):zc2 (F++[f])=zc2 F++f.cells:=by simp [zc2]
theorem zjb(F:List FnM)(k:Nat)(h:k<F.length)(j:Nat)(hj:j<4):(zc2 F)[k*4+j]?=F[k].cells[j]?:=by
 induction F generalizing k with
 | nil=>simp at h
 | cons i l ih =>
  have e:zc2 (i :: l)=i.cells++zc2 l:=by simp [zc2]
  rw [e]
  cases k with
  | zero =>
   rw [List.getElem?_append_left (by simp;omega)]
   simp
  | succ k =>
   rw [List.getElem?_append_right (by simp;omega)]
   have:=ih k (by simpa using h)
   simp only [List.getElem_cons_succ]
   rw [←this]
   congr 1
   simp;omega
theorem zmJ(F:List FnM)(f:FnM)(its:List It)(u:Value):(zc2 (F++[f])).set (F.length*4+2) u=zc2 (F++[⟨f.name,f.line,its,u,f.m⟩]):=by
 rw [zd6,zd6,List.set_append_right _ _ (by rw [zhG];omega),zhG]
 rw [show F.length*4+2-F.length*4=2 by omega]
 rfl
theorem MapIs.of_block{w w':World}{b:Nat}{E:List (ByteArray × Nat)}(h:MapIs w b E)(e:w'.heap[b]?=w.heap[b]?):MapIs w' b E:=by
 obtain⟨D,⟨es,clock,hh,r⟩,h2⟩:=h
 exact⟨D,⟨es,clock,e.trans hh,r⟩,h2⟩
theorem zas{w w':World}{B:Nat}{e:TypeId}{size n:Nat}{v:Value}{xs:List Value}(h:w.ownsRow B e size v n xs)(hb:∀ g,v.ownBlock=some g→w'.heap[g]?=w.heap[g]?):w'.ownsRow B e size v n xs:=by
 refine⟨h.1,?_⟩
 rcases h.2 with h2|⟨g,cap,cur,hv,hg,hh,r⟩
 ·exact .inl h2
 ·exact .inr ⟨g,cap,cur,hv,hg,(hb g (by rw [hv];rfl)).trans hh,r⟩
theorem zcj{w:World}{B:Nat}{e:TypeId}{size n:Nat}{v:Value}{xs:List Value}(h:w.ownsRow B e size v n xs){g:Nat}(hg:v.ownBlock=some g):∃ cur,w.heap[g]?=some (.cells cur e (0,0)):=by
 rcases h.2 with ⟨hv,_⟩|⟨g',cap,cur,hv,_,hh,_⟩
 ·rw [hv] at hg;cases hg
 ·rw [hv] at hg
  have:g'=g:=by simpa [Value.ownBlock] using hg
  subst this
  exact⟨cur,hh⟩
theorem ze1{w:World}{b:Nat}{E:List (ByteArray × Nat)}(h:MapIs w b E):∃ es c,w.heap[b]?=some (.map es c):=by
 obtain⟨D,⟨es,clock,hh,r⟩,_⟩:=h
 exact⟨es,clock,hh⟩
structure PIn(B:Nat)(w:World)(pm:Nat)(v:Value)(F:List FnM):Prop where
 row:w.ownsRow B 131 4 v F.length (zc2 F)
 bodies:∀ f∈F,w.ownsRow B 135 8 f.bv (zal f.its).length (za0 (zal f.its))
 labels:∀ f∈F,MapIs w f.m (zcw f.its)
 places:MapIs w pm (zbu F)
 lowm:∀ f∈F,B≤f.m
 lowp:B≤pm
 pmNot:∀ f∈F,¬f.m=pm
 maps:F.Pairwise (fun a b=>¬a.m=b.m)
 rows:F.Pairwise (fun a b=>∀ g,a.bv.ownBlock=some g→¬b.bv.ownBlock=some g)
theorem PIn.of_blocks{B:Nat}{w w':World}{pm:Nat}{v:Value}{F:List FnM}(h:PIn B w pm v F)(hb:∀ b,B≤b→b<w.heap.size→w'.heap[b]?=w.heap[b]?):PIn B w' pm v F:=by
 refine⟨zas h.row fun g hg=>?_,fun f hf=>zas (h.bodies f hf) fun g hg=>?_,fun f hf=>(h.labels f hf).of_block (hb _ (h.lowm f hf) (h.labels f hf).lt),h.places.of_block (hb _ h.lowp h.places.lt),h.lowm,h.lowp,h.pmNot,h.maps,h.rows⟩
 ·have:=h.row.lt g hg;exact hb g this.1 this.2
 ·have:=(h.bodies f hf).lt g hg;exact hb g this.1 this.2
theorem PIn.start(B:Nat)(w:World)(pm:Nat)(hM:MapIs w pm [])(hB:B≤pm):PIn B w pm (.slice none 0 0) [] :=
 ⟨World.ownsRow_nil _ _ _ _,by simp,by simp,hM,by simp,hB,by simp,by simp,by simp⟩
theorem PIn.added{B:Nat}{w w1:World}{pm:Nat}{F:List FnM}{f:FnM}{i:It}{fg cap0 g cap:Nat}
  (h:PIn B w pm (.slice (some ⟨fg,0,none⟩) (F.length+1) cap0) (F++[f]))
  (hi:¬i.sort=1) (h3:w.grownBy w1 f.bv.ownBlock)
  (h4:w1.ownsRow B 135 8 (.slice (some ⟨g,0,none⟩) ((zal f.its).length+1) cap) ((zal f.its).length+1) (za0 (zal f.its++[i]))) (hat:f.bv.ownBlock=some g∨w.heap.size≤g) :
  PIn B (w1.setCell ⟨fg,F.length*4+2,none⟩ (.slice (some ⟨g,0,none⟩) ((zal f.its).length+1) cap)) pm (.slice (some ⟨fg,0,none⟩) (F.length+1) cap0) (F++[⟨f.name,f.line,f.its++[i],.slice (some ⟨g,0,none⟩) ((zal f.its).length+1) cap,f.m⟩]) ∧
  Below B w (w1.setCell ⟨fg,F.length*4+2,none⟩ (.slice (some ⟨g,0,none⟩) ((zal f.its).length+1) cap)) ∧
  (∀(p:Nat) (cs:Array Value),w.heap[p]?=some (Obj.cells cs 83 (0,0))→(w1.setCell ⟨fg,F.length*4+2,none⟩ (.slice (some ⟨g,0,none⟩) ((zal f.its).length+1) cap)).heap[p]?=some (Obj.cells cs 83 (0,0))):=by
 have hmem:f∈F++[f]:=by simp
 have hrow:=h.row
 have hlen:(F++[f]).length=F.length+1:=by simp
 rw [hlen] at hrow
 obtain⟨cr,hcr⟩:=zcj hrow (g:=fg) rfl
 obtain⟨em,cm,hem⟩:=ze1 (h.labels f hmem)
 have hfgl:fg<w.heap.size:=(Array.getElem?_eq_some_iff.1 hcr).1
 have hml:f.m<w.heap.size:=(h.labels f hmem).lt
 have n1:¬fg=f.m:=by intro e;rw [e,hem] at hcr;cases hcr
 have n2:¬f.bv.ownBlock=some fg:=by
  intro e
  obtain⟨c2,hc2⟩:=zcj (h.bodies f hmem) e
  rw [hc2] at hcr;simp at hcr
 have n3:¬f.bv.ownBlock=some f.m:=by
  intro e
  obtain⟨c2,hc2⟩:=zcj (h.bodies f hmem) e
  rw [hem] at hc2;cases hc2
 have fr:∀ b,b<w.heap.size→¬f.bv.ownBlock=some b→¬b=fg→(w1.setCell ⟨fg,F.length*4+2,none⟩ (.slice (some ⟨g,0,none⟩) ((zal f.its).length+1) cap)).heap[b]?=w.heap[b]?:=by
  intro b hb hb2 hb3
  rw [Below.heap_setCell _ _ _ _ (by exact hb3),h3.block b hb (fun e=>hb2 e.symm)]
 have hgfg:¬g=fg:=by
  rcases hat with e|e
  ·intro e2;rw [e2] at e;exact n2 e
  ·omega
 refine⟨⟨?_,?_,?_,?_,?_,h.lowp,?_,?_,?_⟩,?_,?_⟩
 ·have a2:=hrow.kept h3 (.inr (by simp only [Value.ownBlock];exact fun e=>n2 e.symm))
  have a3:=(World.ownsRow.stored a2 (F.length*4+2) (.slice (some ⟨g,0,none⟩) ((zal f.its).length+1) cap)).1
  rw [zmJ F f (f.its++[i])] at a3
  simpa using a3
 ·intro f' hf'
  rw [List.mem_append] at hf'
  rcases hf' with hf'|hf'
  ·have hb':=h.bodies f' (by simp [hf'])
   refine zas hb' fun b hb=>?_
   obtain⟨c2,hc2⟩:=zcj hb' hb
   refine fr b (hb'.lt b hb).2 ?_ ?_
   ·exact(List.pairwise_append.1 h.rows).2.2 f' hf' f (by simp) b hb
   ·intro e;rw [e,hcr] at hc2;simp at hc2
  ·simp at hf';subst hf'
   have e:(zal f.its++[i]).length=(zal f.its).length+1:=by simp
   show World.ownsRow _ B 135 8 _ (zal (f.its++[i])).length (za0 (zal (f.its++[i])))
   rw [zkT _ _ hi,e]
   exact zas h4 fun b hb=>by
    have:g=b:=by simpa [Value.ownBlock] using hb
    subst this
    exact Below.heap_setCell _ _ _ _ (by exact hgfg)
 ·intro f' hf'
  rw [List.mem_append] at hf'
  rcases hf' with hf'|hf'
  ·have hb':=h.labels f' (by simp [hf'])
   obtain⟨e2,c2,hc2⟩:=ze1 hb'
   refine hb'.of_block (fr _ hb'.lt ?_ ?_)
   ·intro e
    obtain⟨c3,hc3⟩:=zcj (h.bodies f hmem) e
    rw [hc2] at hc3;cases hc3
   ·intro e;rw [e,hcr] at hc2;cases hc2
  ·simp at hf';subst hf'
   have a0:MapIs w f.m (zcw (f.its++[i])):=by rw [zja _ _ hi];exact h.labels f hmem
   have a1:=a0.kept h3 (fun e=>n3 e.symm)
   exact a1.of_block (Below.heap_setCell _ _ _ _ (fun e=>n1 e.symm))
 ·have hp:=h.places
  obtain⟨e2,c2,hc2⟩:=ze1 hp
  have:=hp.of_block (fr _ hp.lt (by
   intro e
   obtain⟨c3,hc3⟩:=zcj (h.bodies f hmem) e
   rw [hc2] at hc3;cases hc3) (by intro e;rw [e,hcr] at hc2;cases hc2))
  rw [zec] at this ⊢
  exact this
 ·intro f' hf'
  rw [List.mem_append] at hf'
  rcases hf' with hf'|hf'
  ·exact h.lowm f' (by simp [hf'])
  ·simp at hf';subst hf';exact h.lowm f hmem
 ·intro f' hf'
  rw [List.mem_append] at hf'
  rcases hf' with hf'|hf'
  ·exact h.pmNot f' (by simp [hf'])
  ·simp at hf';subst hf';exact h.pmNot f hmem
 ·have:=List.pairwise_append.1 h.maps
  refine List.pairwise_append.2 ⟨this.1,by simp,fun a ha b hb=>?_⟩
  simp at hb;subst hb
  exact this.2.2 a ha f (by simp)
 ·have:=List.pairwise_append.1 h.rows
  refine List.pairwise_append.2 ⟨this.1,by simp,fun a ha b hb b' hb'=>?_⟩
  simp at hb;subst hb
  simp only [Value.ownBlock,Option.some.injEq]
  intro e
  subst e
  rcases hat with e|e
  ·exact this.2.2 a ha f (by simp) g hb' e
  ·have:=((h.bodies a (by simp [ha])).lt g hb').2;omega
 ·have b2:Below B w w1:=(Below.refl B w).grown h3 (by have:=h.lowm f hmem;omega) (fun k e=>((h.bodies f hmem).lt k e).1)
  exact b2.setCell (hrow.lt fg rfl).1 _
 ·intro p cs hp
  rw [fr p ((Array.getElem?_eq_some_iff.1 hp).1) (by
   intro e
   obtain⟨c3,hc3⟩:=zcj (h.bodies f hmem) e
   rw [hp] at hc3;simp at hc3) (by intro e;rw [e,hcr] at hp;simp at hp)]
  exact hp
theorem PIn.labelled{B:Nat}{w w2:World}{pm:Nat}{v:Value}{F:List FnM}{f:FnM}{i:It}(h:PIn B w pm v (F++[f]))(hi:i.sort=1)
  (h1:w.grownBy w2 (some f.m)) (h2:MapIs w2 f.m (zcw f.its++[(i.nm,(zal f.its).length)])) :
  PIn B w2 pm v (F++[⟨f.name,f.line,f.its++[i],f.bv,f.m⟩])∧Below B w w2∧(∀(p:Nat) (cs:Array Value),w.heap[p]?=some (Obj.cells cs 83 (0,0))→w2.heap[p]?=some (Obj.cells cs 83 (0,0))):=by
 have hmem:f∈F++[f]:=by simp
 obtain⟨em,cm,hem⟩:=ze1 (h.labels f hmem)
 have fr:∀ b,b<w.heap.size→¬b=f.m→w2.heap[b]?=w.heap[b]?:=fun b hb hb1=>h1.block b hb (by simpa using hb1)
 have frc:∀(b:Nat) cs t,w.heap[b]?=some (Obj.cells cs t (0,0))→w2.heap[b]?=w.heap[b]?:=by
  intro b cs t hb
  refine fr b (Array.getElem?_eq_some_iff.1 hb).1 ?_
  intro e;rw [e,hem] at hb;cases hb
 refine⟨⟨?_,?_,?_,?_,?_,h.lowp,?_,?_,?_⟩,?_,?_⟩
 ·have hr:=zas (w':=w2) h.row (fun g hg=>by obtain⟨c2,hc2⟩:=zcj h.row hg;exact frc g c2 _ hc2)
  rw [zd6] at hr ⊢
  simpa using hr
 ·intro f' hf'
  have hbo:∀ f0∈F++[f],w2.ownsRow B 135 8 f0.bv (zal f0.its).length (za0 (zal f0.its)):=fun f0 hf0 =>
   zas (h.bodies f0 hf0) (fun g hg=>by obtain⟨c2,hc2⟩:=zcj (h.bodies f0 hf0) hg;exact frc g c2 _ hc2)
  rw [List.mem_append] at hf'
  rcases hf' with hf'|hf'
  ·exact hbo f' (by simp [hf'])
  ·simp at hf';subst hf'
   show World.ownsRow _ B 135 8 _ (zal (f.its++[i])).length (za0 (zal (f.its++[i])))
   rw [zkU _ _ hi]
   exact hbo f hmem
 ·intro f' hf'
  rw [List.mem_append] at hf'
  rcases hf' with hf'|hf'
  ·have hb':=h.labels f' (by simp [hf'])
   exact hb'.of_block (fr _ hb'.lt ((List.pairwise_append.1 h.maps).2.2 f' hf' f (by simp)))
  ·simp at hf';subst hf'
   show MapIs w2 f.m (zcw (f.its++[i]))
   rw [ziZ _ _ hi]
   exact h2
 ·have:=h.places.of_block (w':=w2) (fr _ h.places.lt (fun e=>h.pmNot f hmem e.symm))
  rw [zec] at this ⊢
  exact this
 ·intro f' hf'
  rw [List.mem_append] at hf'
  rcases hf' with hf'|hf'
  ·exact h.lowm f' (by simp [hf'])
  ·simp at hf';subst hf';exact h.lowm f hmem
 ·intro f' hf'
  rw [List.mem_append] at hf'
  rcases hf' with hf'|hf'
  ·exact h.pmNot f' (by simp [hf'])
  ·simp at hf';subst hf';exact h.pmNot f hmem
 ·have:=List.pairwise_append.1 h.maps
  refine List.pairwise_append.2 ⟨this.1,by simp,fun a ha b hb=>?_⟩
  simp at hb;subst hb
  exact this.2.2 a ha f (by simp)
 ·have:=List.pairwise_append.1 h.rows
  refine List.pairwise_append.2 ⟨this.1,by simp,fun a ha b hb=>?_⟩
  simp at hb;subst hb
  exact this.2.2 a ha f (by simp)
 ·exact(Below.refl B w).grown h1 (by have:=h.lowm f hmem;have:=(h.labels f hmem).lt;omega) (fun k e=>by simp at e;subst e;exact h.lowm f hmem)
 ·intro p cs hp
  rw [frc p cs _ hp];exact hp
theorem PIn.begun{B:Nat}{w w1 w2:World}{pm:Nat}{v:Value}{F:List FnM}{nm:ByteArray}{line:Int}{p g cap:Nat}
  (h:PIn B w pm v F) (hp:w.heap[p]?=some (.cells #[v,.map (some pm)] 83 (0,0))) (hpB:B≤p)
  (h1:w.grownBy w2 (some pm)) (h2:MapIs w2 pm (zbu F++[(nm,F.length)])) (h3:w2.grownBy w1 v.ownBlock) (hsz:w.heap.size≤w2.heap.size) (h5:MapIs w1 w2.heap.size [])
  (h4:w1.ownsRow B 131 4 (.slice (some ⟨g,0,none⟩) (F.length+1) cap) (F.length+1) (zc2 F++[.string nm,.int .i64 line,.slice none 0 0,.map (some w2.heap.size)])) (hat:v.ownBlock=some g∨w2.heap.size<g) :
  PIn B (w1.setCell ⟨p,0,none⟩ (.slice (some ⟨g,0,none⟩) (F.length+1) cap)) pm (.slice (some ⟨g,0,none⟩) (F.length+1) cap) (F++[⟨nm,line,[],.slice none 0 0,w2.heap.size⟩]) ∧
  Below B w (w1.setCell ⟨p,0,none⟩ (.slice (some ⟨g,0,none⟩) (F.length+1) cap)) ∧
  (w1.setCell ⟨p,0,none⟩ (.slice (some ⟨g,0,none⟩) (F.length+1) cap)).heap[p]?=some (.cells #[.slice (some ⟨g,0,none⟩) (F.length+1) cap,.map (some pm)] 83 (0,0)):=by
 have hpl:p<w.heap.size:=(Array.getElem?_eq_some_iff.1 hp).1
 have hpml:pm<w.heap.size:=h.places.lt
 obtain⟨em,cm,hem⟩:=ze1 h.places
 have n1:¬p=pm:=by intro e;rw [e,hem] at hp;cases hp
 have n2:¬v.ownBlock=some p:=by
  intro e
  obtain⟨c2,hc2⟩:=zcj h.row e
  rw [hp] at hc2;simp at hc2
 have n3:¬v.ownBlock=some pm:=by
  intro e
  obtain⟨c2,hc2⟩:=zcj h.row e
  rw [hem] at hc2;cases hc2
 have fr:∀ b,b<w.heap.size→¬b=pm→¬v.ownBlock=some b→¬b=p→(w1.setCell ⟨p,0,none⟩ (.slice (some ⟨g,0,none⟩) (F.length+1) cap)).heap[b]?=w.heap[b]?:=by
  intro b hb hb1 hb2 hb3
  rw [Below.heap_setCell _ _ _ _ (by exact hb3),h3.block b (by omega) (fun e=>hb2 e.symm),h1.block b hb (by simpa using hb1)]
 have hp1:w1.heap[p]?=some (.cells #[v,.map (some pm)] 83 (0,0)):=by
  rw [h3.block p (by omega) (fun e=>n2 e.symm),h1.block p hpl (by simpa using n1)]
  exact hp
 have hgp:¬g=p:=by
  rcases hat with e|e
  ·intro e2;rw [e2] at e;exact n2 e
  ·omega
 refine⟨⟨?_,?_,?_,?_,?_,h.lowp,?_,?_,?_⟩,?_,?_⟩
 ·have e:(F++[(⟨nm,line,[],.slice none 0 0,w2.heap.size⟩:FnM)]).length=F.length+1:=by simp
  rw [e,zd6]
  exact zas h4 fun b hb=>by
   have:g=b:=by simpa [Value.ownBlock] using hb
   subst this
   exact Below.heap_setCell _ _ _ _ (by exact hgp)
 ·intro f' hf'
  rw [List.mem_append] at hf'
  rcases hf' with hf'|hf'
  ·have hb':=h.bodies f' hf'
   refine zas hb' fun b hb=>?_
   obtain⟨c2,hc2⟩:=zcj hb' hb
   refine fr b (hb'.lt b hb).2 ?_ ?_ ?_
   ·intro e;rw [e,hem] at hc2;cases hc2
   ·intro e
    obtain⟨c3,hc3⟩:=zcj h.row e
    rw [hc2] at hc3;simp at hc3
   ·intro e;rw [e,hp] at hc2;simp at hc2
  ·simp at hf';subst hf'
   exact World.ownsRow_nil _ _ _ _
 ·intro f' hf'
  rw [List.mem_append] at hf'
  rcases hf' with hf'|hf'
  ·have hb':=h.labels f' hf'
   obtain⟨e2,c2,hc2⟩:=ze1 hb'
   refine hb'.of_block (fr _ hb'.lt (h.pmNot f' hf') ?_ ?_)
   ·intro e
    obtain⟨c3,hc3⟩:=zcj h.row e
    rw [hc2] at hc3;cases hc3
   ·intro e;rw [e,hp] at hc2;cases hc2
  ·simp at hf';subst hf'
   exact h5.of_block (Below.heap_setCell _ _ _ _ (by show ¬w2.heap.size=p;omega))
 ·have a1:=h2.kept h3 (fun e=>n3 e.symm)
  have a2:=a1.of_block (w':=w1.setCell ⟨p,0,none⟩ (.slice (some ⟨g,0,none⟩) (F.length+1) cap)) (Below.heap_setCell _ _ _ _ (fun e=>n1 e.symm))
  rw [zec]
  exact a2
 ·intro f' hf'
  rw [List.mem_append] at hf'
  rcases hf' with hf'|hf'
  ·exact h.lowm f' hf'
  ·simp at hf';subst hf';show B≤w2.heap.size;omega
 ·intro f' hf'
  rw [List.mem_append] at hf'
  rcases hf' with hf'|hf'
  ·exact h.pmNot f' hf'
  ·simp at hf';subst hf';show ¬w2.heap.size=pm;omega
 ·refine List.pairwise_append.2 ⟨h.maps,by simp,fun a ha b hb=>?_⟩
  simp at hb;subst hb
  have:=(h.labels a ha).lt
  show ¬a.m=w2.heap.size;omega
 ·refine List.pairwise_append.2 ⟨h.rows,by simp,fun a ha b hb b' hb'=>?_⟩
  simp at hb;subst hb
  simp [Value.ownBlock]
 ·have b1:Below B w w2:=(Below.refl B w).grown h1 (by have:=h.lowp;omega) (fun k e=>by simp at e;subst e;exact h.lowp)
  have b2:Below B w w1:=b1.grown h3 (by omega) (fun k e=>(h.row.lt k e).1)
  exact b2.setCell hpB _
 ·have:=heap_setCell_same w1 p 0 #[v,.map (some pm)] 83 (.slice (some ⟨g,0,none⟩) (F.length+1) cap) hp1
  rw [this]
  simp
end Go.Proofs.YtfpgjkbjbbgciaaGreatDoor
