import Derived.Test.YtfpgjkbjbbgciaaGreatDoorMi17
import Derived.Test.YtfpgjkbjbbgciaaGreatDoorMi19
set_option maxRecDepth 100000
set_option maxHeartbeats 8000000
namespace Go.Proofs.YtfpgjkbjbbgciaaGreatDoor
open Go.RowKit Sp
section
attribute [local go_sem ↓] Go.wp_at_zero Go.wp_at_succ
theorem zj8(w:World)(a b:Obj)(p:Addr)(h:p.block<w.heap.size):((w.alloc a).alloc b).drew.frozen? p=w.frozen? p :=
 World.frozen?_of_block (w:=w) ((((Below.refl w.heap.size w).alloc (Nat.le_refl _) a).alloc (by simp) b).drew.block p.block h)
theorem zoJ(w:World)(a b:Obj)(p:Addr)(h:p.block<w.heap.size):((w.alloc a).alloc b).drew.cell? p=w.cell? p :=
 World.cell?_of_block (w:=w) ((((Below.refl w.heap.size w).alloc (Nat.le_refl _) a).alloc (by simp) b).drew.block p.block h)
theorem zoK(w:World)(a:Obj)(cs:Array Value)(t:TypeId):((w.alloc a).alloc (.cells cs t)).drew.heap[w.heap.size+1]?=some (.cells cs t (0,0)):=by
 have h:=heap_alloc_new (w.alloc a) (.cells cs t)
 rw [show(w.alloc a).heap.size=w.heap.size+1 by simp] at h
 exact h
theorem zlu{w w1:World}{a b:Obj}{row:Option Nat}(h:((w.alloc a).alloc b).drew.grownBy w1 row):w.grownBy w1 row :=
 ((World.grownBy_alloc w a row).trans (World.grownBy_alloc _ b row)).trans ⟨h.os,h.tape,h.output,h.size,h.block⟩
theorem zsy(w:World)(B fg o:Nat)(bv:Value)(its:List It)(i:It)(hs:¬i.sort=1)
  (hc:w.cell? ⟨fg,o+2,none⟩=some bv) (hf:w.frozen? ⟨fg,o+2,none⟩=false) (hown:w.ownsRow B 135 8 bv its.length (zav its)) (hne:bv.ownBlock≠some fg) (hB:B≤w.heap.size) (hn:its.length≤4096) :
  Calls Tryz.prog 101 #[.pointer (some ⟨fg,o,none⟩),stm i.sort i.line i.word i.a i.b i.c i.n i.nm] w fun e w'=>e=.returned (.tuple #[]) ∧
   ∃ g cap w1,w'=w1.setCell ⟨fg,o+2,none⟩ (.slice (some ⟨g,0,none⟩) (its.length+1) cap)∧w.grownBy w1 bv.ownBlock ∧
    w1.ownsRow B 135 8 (.slice (some ⟨g,0,none⟩) (its.length+1) cap) (its.length+1) (zav (its++[i]))∧(bv.ownBlock=some g∨w.heap.size≤g):=by
 obtain⟨i0,hi0,hz0,hz1,hz2⟩:=info_parts Tryz.info135
 have lg:fg<w.heap.size:=World.block_lt_of_cell? w _ hc
 have hs':(i.sort == 1)=false:=by simpa using hs
 have hlt:∀ b,bv.ownBlock=some b→b<w.heap.size:=fun b hb=>(hown.lt b hb).2
 have hne2:some fg≠bv.ownBlock:=fun e=>hne e.symm
 have hne3:some w.heap.size≠bv.ownBlock:=fun e=>by have:=hlt _ e.symm;omega
 have hne4:¬w.heap.size=fg:=by omega
 have hne5:¬fg=w.heap.size:=by omega
 go_enter Tryz.func101,Tryz.ntmps101
 go_wp2_with fail
 go_region_law
  ((refine step_append_lies _ (by rfl) _ _ _ (by rfl) B 135 i0 _ 8 80 Tryz.under116 hi0 hz0 hz1 hz2 rfl (by omega) bv its.length (zav its) (by rfl) (((hown.alloc _).alloc _).drew)
     ⟨w.heap.size+1,0,none⟩ 1 1 i.cells (by rfl) (by rfl) (World.news_of_block (cs:=i.cells.toArray) (t:=135) (fr:=(0,0)) (zoK w _ _ _)) (zld i)
     (by omega) (by unfold maxLen;omega) (by omega) (by simp;omega) (w.heap.size+1+1) (by simp) ?_;intro g cap w1 hown1 hgrow hat hltg;have hfz:w1.frozen? ⟨fg,o+2,none⟩=false:=(hgrow.frozen_far _ (by simp;omega) hne2).trans ((zj8 w _ _ _ lg).trans hf);have hcz:w1.cell? ⟨fg,o+2,none⟩=some bv:=(hgrow.cell_far _ (by simp;omega) hne2).trans ((zoJ w _ _ _ lg).trans hc)))
 all_goals go_end0
 all_goals exact⟨rfl,g,cap,w1,rfl,zlu hgrow,by rw [zfR];exact hown1,by rcases hat with h|h;exact .inl h;exact .inr (by omega)⟩
end
def rgs(f:Nat→Rg):Nat→List Value
 | 0=>[]
 | n+1=>rgs f n++[.int .i64 (f n).lo,.int .i64 (f n).hi]
theorem zd9(f:Nat→Rg)(n:Nat):(rgs f n).length=n*2:=by
 induction n with
 | zero=>rfl
 | succ n ih=>simp [rgs,ih];omega
theorem zlR(f:Nat→Rg)(n r:Nat)(h:r<n):(rgs f n)[r*2]?=some (.int .i64 (f r).lo)∧(rgs f n)[r*2+1]?=some (.int .i64 (f r).hi):=by
 induction n with
 | zero=>omega
 | succ n ih =>
  have hl:=zd9 f n
  unfold rgs
  by_cases e:r=n
  ·subst e
   rw [List.getElem?_append_right (by omega),List.getElem?_append_right (by omega),hl,show r*2-r*2=0 by omega,show r*2+1-r*2=1 by omega]
   exact⟨rfl,rfl⟩
  ·rw [List.getElem?_append_left (by omega),List.getElem?_append_left (by omega)]
   exact ih (by omega)
theorem zts(f:Nat→Rg)(n:Nat):∀ v∈rgs f n,v.oneCell'=true:=by
 induction n with
 | zero=>intro v hv;cases hv
 | succ n ih =>
  intro v hv
  rcases List.mem_append.1 hv with h|h
  ·exact ih v h
  ·rcases List.mem_cons.1 h with rfl|h
   ·rfl
   ·rw [List.mem_singleton.1 h];rfl
theorem zyl(f:Nat→Rg)(n r:Nat)(h:r<n):(rgs f n).toArray.extract (r*2) (r*2+2)=#[.int .i64 (f r).lo,.int .i64 (f r).hi]:=by
 obtain⟨h0,h1⟩:=zlR f n r h
 have hl:=zd9 f n
 apply Array.ext
 ·simp [hl];omega
 ·intro i h2 h3
  have h4:i<2:=by simpa using h3
  rw [Array.getElem_extract]
  rcases(by omega:i=0∨i=1) with rfl|rfl
  ·have:=(List.getElem?_eq_some_iff.1 h0).2
   simpa using this
  ·have:=(List.getElem?_eq_some_iff.1 h1).2
   simpa using this
theorem ztt{t n:Nat}(hu:Tryz.prog.underlying t=some (.array n 213))(A:Array Value)(r:Nat)(h:r<n)(x y:Value)(hc:A.extract (r*2) (r*2+2)=#[x,y])(W:World):(Instr.index t (.agg A) (.int .i64 (r:Int))).run Tryz.prog W=.ok (.agg #[x,y]) W:=by
 have hs:(sizeOf 213).run Tryz.prog W=.ok 2 W:=by kernel_rfl
 have ha:(isAgg 213).run Tryz.prog W=.ok true W:=by kernel_rfl
 have h1:(0:Int)≤(r:Int)∧(r:Int)<(n:Int):=by omega
 simp only [Instr.index,run_underlying hu,asIntOf,Sem.run_bind,Sem.run_pure,Result.andThen_ok,if_pos h1,hs,Int.toNat_natCast,part,ha,if_true,hc]
theorem zpo{t n:Nat}(hu:Tryz.prog.underlying t=some (.array n 213))(f:Nat→Rg)(r:Nat)(h:r<n)(W:World):(Instr.index t (.agg (rgs f n).toArray) (.int .i64 (r:Int))).run Tryz.prog W=.ok (rv (f r)) W :=
 ztt hu _ r h _ _ (zyl f n r h) W
theorem zlS{w:World}{b o n:Nat}{f:Nat→Rg}(h:∀ r,r<n→w.cell? ⟨b,o+r*2,none⟩=some (.int .i64 (f r).lo)∧w.cell? ⟨b,o+r*2+1,none⟩=some (.int .i64 (f r).hi)):w.rangeAt b o (rgs f n):=by
 intro j v hv
 have hj:=(List.getElem?_eq_some_iff.1 hv).1
 rw [zd9] at hj
 obtain⟨h0,h1⟩:=zlR f n (j/2) (by omega)
 obtain⟨g0,g1⟩:=h (j/2) (by omega)
 rcases Nat.mod_two_eq_zero_or_one j with e|e
 ·rw [show j/2*2=j by omega] at h0 g0
  rw [g0,←h0,hv]
 ·rw [show j/2*2+1=j by omega] at h1
  rw [show o+j/2*2+1=o+j by omega] at g1
  rw [g1,←h1,hv]
theorem KnM.rowR{w:World}{b:Nat}{bv:Value}{k:Kn}(h:KnM w b bv k):w.rangeAt b 0 (rgs k.regs 8) :=
 zlS fun r hr=>⟨by rw [Nat.zero_add];exact(h.cR r hr).1,by rw [Nat.zero_add];exact(h.cR r hr).2⟩
theorem KnM.rowC{w:World}{b:Nat}{bv:Value}{k:Kn}(h:KnM w b bv k):w.rangeAt b 16 (rgs k.cells 16) :=
 zlS fun r hr=>⟨(h.cC r hr).1,(h.cC r hr).2⟩
section
attribute [local go_sem ↓] Go.wp_at_zero Go.wp_at_succ
theorem Tryz.info131:(Tryz.prog.info? 131).map (fun i=>(i.zero,i.size,i.bytes))=some (some (.agg #[.string ByteArray.empty,.int .i64 0,.slice none 0 0,.map none]),4,56):=by kernel_rfl
theorem Tryz.under80:Tryz.prog.underlying 80=some (.slice 131):=by kernel_rfl
theorem zxr(W:World):(Instr.makeMap 81 none).run Tryz.prog W=.ok (.map (some W.heap.size)) (W.alloc (.map #[] 0)):=by kernel_rfl
theorem zsz(w:World)(B p pm n:Nat)(v:Value)(xs:List Value)(i:It)(E:List (ByteArray × Nat))
  (hc:w.cell? ⟨p,0,none⟩=some v) (hm:w.cell? ⟨p,1,none⟩=some (.map (some pm))) (hM:MapIs w pm E) (hown:w.ownsRow B 131 4 v n xs) (_hn:n≤4096)
  (hnm:i.nm.size≤1048576) (hold:(zbx E).any (fun y=>eqW y i.nm)=true) :
  Calls Tryz.prog 100 #[.pointer (some ⟨p,0,none⟩),stm i.sort i.line i.word i.a i.b i.c i.n i.nm] w fun e w'=>e=zak 3 i.line∧Below w.heap.size w w':=by
 have lg:p<w.heap.size:=World.block_lt_of_cell? w _ hc
 have hne4:¬w.heap.size=p:=by omega
 have hne5:¬p=w.heap.size:=by omega
 obtain⟨ao,cap,rfl⟩:=zbb hown
 have hcall:=zlh ((w.alloc (.cells #[.int .i64 i.sort,.int .i64 i.line,.string i.word,.int .i64 i.a,.int .i64 i.b,.int .i64 i.c,.int .i64 i.n,.string i.nm] 135)).drew) pm E (hM.alloc _).drew i.sort i.line i.word i.a i.b i.c i.n i.nm (n:Int) hnm hold
 go_enter Tryz.func100,Tryz.ntmps100
 go_wp2_with fail
 go_region_dies
 all_goals(go_at_call 131;refine hcall.mono ?_;rintro e w2 ⟨rfl,hb⟩)
 all_goals exact⟨rfl,rfl,znf _ _ hb⟩
theorem zs0(w:World)(B p pm n:Nat)(v:Value)(xs:List Value)(i:It)(E:List (ByteArray × Nat))
  (hc:w.cell? ⟨p,0,none⟩=some v) (hm:w.cell? ⟨p,1,none⟩=some (.map (some pm))) (hf:w.frozen? ⟨p,0,none⟩=false) (hM:MapIs w pm E) (hown:w.ownsRow B 131 4 v n xs) (hne:v.ownBlock≠some p) (hB:B≤w.heap.size) (hn:n≤4096) (hnn:E.length≤4096)
  (hnm:i.nm.size≤1048576) (hold:(zbx E).any (fun y=>eqW y i.nm)=false) (hpm:¬p=pm) :
  Calls Tryz.prog 100 #[.pointer (some ⟨p,0,none⟩),stm i.sort i.line i.word i.a i.b i.c i.n i.nm] w fun e w'=>e=.returned (.tuple #[]) ∧
   ∃ g cap w1 w2,w'=w1.setCell ⟨p,0,none⟩ (.slice (some ⟨g,0,none⟩) (n+1) cap)∧w.grownBy w2 (some pm)∧MapIs w2 pm (E++[(i.nm,n)])∧w2.grownBy w1 v.ownBlock∧w.heap.size≤w2.heap.size∧MapIs w1 w2.heap.size [] ∧
    w1.ownsRow B 131 4 (.slice (some ⟨g,0,none⟩) (n+1) cap) (n+1) (xs++[.string i.nm,.int .i64 i.line,.slice none 0 0,.map (some w2.heap.size)])∧(v.ownBlock=some g∨w2.heap.size<g):=by
 obtain⟨i0,hi0,hz0,hz1,hz2⟩:=info_parts Tryz.info131
 have lg:p<w.heap.size:=World.block_lt_of_cell? w _ hc
 have lm:pm<w.heap.size:=hM.lt
 have hne4:¬w.heap.size=p:=by omega
 have hne5:¬p=w.heap.size:=by omega
 have hlt:∀ b,v.ownBlock=some b→b<w.heap.size:=fun b hb=>(hown.lt b hb).2
 have hne2:some p≠v.ownBlock:=fun e=>hne e.symm
 have hmr:=zxK hM hown
 have hrow:v.ownBlock=none∨v.ownBlock≠some pm:=.inr (fun e=>hmr e.symm)
 obtain⟨ao,cap0,hbv⟩:=zbb hown
 have hc':=hc
 rw [hbv] at hc'
 have hcall:=zlg ((w.alloc (.cells #[.int .i64 i.sort,.int .i64 i.line,.string i.word,.int .i64 i.a,.int .i64 i.b,.int .i64 i.c,.int .i64 i.n,.string i.nm] 135)).drew) pm E (hM.alloc _).drew i.sort i.line i.word i.a i.b i.c i.n i.nm n hn hnn hnm hold
 obtain⟨k0,k1,k2,k3,k4,k5,k6,k7⟩:=zvw w i.sort i.line i.word i.a i.b i.c i.n i.nm
 go_enter Tryz.func100,Tryz.ntmps100
 go_wp2_with fail
 go_region_held3 (fun w'=>w'.cell? ⟨p,0,none⟩=some (.slice ao n cap0)∧w'.cell? ⟨p,1,none⟩=some (.map (some pm))∧w'.cell? ⟨w.heap.size,0,none⟩=some (.int .i64 i.sort)∧w'.cell? ⟨w.heap.size,1,none⟩=some (.int .i64 i.line)∧w'.cell? ⟨w.heap.size,2,none⟩=some (.string i.word) ∧
   w'.cell? ⟨w.heap.size,3,none⟩=some (.int .i64 i.a)∧w'.cell? ⟨w.heap.size,4,none⟩=some (.int .i64 i.b)∧w'.cell? ⟨w.heap.size,5,none⟩=some (.int .i64 i.c)∧w'.cell? ⟨w.heap.size,6,none⟩=some (.int .i64 i.n)∧w'.cell? ⟨w.heap.size,7,none⟩=some (.string i.nm))
  (first
    | go_keep
    | (refine⟨?_,?_,?_,?_,?_,?_,?_,?_,?_,?_⟩
       ·(exact(hg2.cell_far _ (by simp;omega) (by simp;omega)).trans ((zhu w _ _ lg).trans hc'))
       ·(exact(hg2.cell_far _ (by simp;omega) (by simp;omega)).trans ((zhu w _ _ lg).trans hm))
       ·(exact(hg2.cell_far _ (by simp) (by simp;omega)).trans k0)
       ·(exact(hg2.cell_far _ (by simp) (by simp;omega)).trans k1)
       ·(exact(hg2.cell_far _ (by simp) (by simp;omega)).trans k2)
       ·(exact(hg2.cell_far _ (by simp) (by simp;omega)).trans k3)
       ·(exact(hg2.cell_far _ (by simp) (by simp;omega)).trans k4)
       ·(exact(hg2.cell_far _ (by simp) (by simp;omega)).trans k5)
       ·(exact(hg2.cell_far _ (by simp) (by simp;omega)).trans k6)
       ·(exact(hg2.cell_far _ (by simp) (by simp;omega)).trans k7)))
  (first|(go_at_call 131;refine hcall.mono ?_;rintro e w2 ⟨rfl,hM2,hg2⟩))
 have hsz2:w.heap.size+1≤w2.heap.size:=by have:=hg2.size;simpa using this
 have c2:w2.cell? ⟨p,0,none⟩=some v:=(hg2.cell_far _ (by simp;omega) (by simp;omega)).trans ((zhu w _ _ lg).trans hc)
 have f2:w2.frozen? ⟨p,0,none⟩=false:=(hg2.frozen_far _ (by simp;omega) (by simp;omega)).trans ((zj5 w _ _ lg).trans hf)
 replace k1:=(hg2.cell_far ⟨w.heap.size,1,none⟩ (by simp) (by simp;omega)).trans k1
 replace k7:=(hg2.cell_far ⟨w.heap.size,7,none⟩ (by simp) (by simp;omega)).trans k7
 have own2:w2.ownsRow B 131 4 v n xs:=((hown.alloc _).drew).kept hg2 hrow
 have hgw:w.grownBy w2 (some pm):=zig hg2
 clear hcall hg2 hc' hc hm hf hM hown k0 k2 k3 k4 k5 k6
 have l2:p<w2.heap.size:=by omega
 have l3:w.heap.size<w2.heap.size:=by omega
 have hne6:¬w2.heap.size=p:=by omega
 have hne7:¬p=w2.heap.size:=by omega
 have hne8:¬w2.heap.size=w.heap.size:=by omega
 have hne9:¬w.heap.size=w2.heap.size:=by omega
 have hmade:=MapIs.made w2
 have hlt2:∀ b,v.ownBlock=some b→b<w2.heap.size:=fun b hb=>(own2.lt b hb).2
 have hnm2:some w2.heap.size≠v.ownBlock:=fun e=>by have:=hlt2 _ e.symm;omega
 have hmk:=fun W=>zxr W
 go_wp2_with fail
 go_region_law
  ((refine step_append_lies _ (by rfl) _ _ _ (by rfl) B 131 i0 _ 4 56 Tryz.under80 hi0 hz0 hz1 hz2 rfl (by omega) v n xs (by rw [hbv];rfl) (((own2.alloc _).alloc _).drew)
     ⟨w2.heap.size+1,0,none⟩ 1 1 [.string i.nm,.int .i64 i.line,.slice none 0 0,.map (some w2.heap.size)] (by rfl) (by rfl) (World.news_of_block (cs:=#[.string i.nm,.int .i64 i.line,.slice none 0 0,.map (some w2.heap.size)]) (t:=131) (fr:=(0,0)) (zoK w2 _ _ _)) (by simp [Value.oneCell'])
     (by omega) (by unfold maxLen;omega) (by omega) (by simp;omega) (w2.heap.size+1+1) (by simp) ?_;intro g cap w1 hown1 hgrow hat hltg;have hfz:w1.frozen? ⟨p,0,none⟩=false:=(hgrow.frozen_far _ (by simp;omega) hne2).trans ((zj8 w2 _ _ _ l2).trans f2);have hcz:w1.cell? ⟨p,0,none⟩=some v:=(hgrow.cell_far _ (by simp;omega) hne2).trans ((zoJ w2 _ _ _ l2).trans c2)))
 all_goals go_end0
 all_goals exact⟨rfl,g,cap,w1,w2,rfl,hgw,hM2,zlu hgrow,by omega,((hmade.alloc _).drew).kept hgrow hnm2,hown1,by rcases hat with h|h;exact .inl h;exact .inr (by omega)⟩
end
structure PAt(B:Nat)(w:World)(p pm:Nat)(v:Value)(F:List FnM):Prop where
 pin:PIn B w pm v F
 var:w.heap[p]?=some (.cells #[v,.map (some pm)] 83 (0,0))
 low:B≤p
theorem PAt.cells{B:Nat}{w:World}{p pm:Nat}{v:Value}{F:List FnM}(h:PAt B w p pm v F):
  w.cell? ⟨p,0,none⟩=some v∧w.cell? ⟨p,1,none⟩=some (.map (some pm))∧w.frozen? ⟨p,0,none⟩=false:=by
 refine⟨?_,?_,frozen_of_row w p 0 _ _ h.var⟩
 ·rw [cell_of_row w p 0 _ _ _ h.var];rfl
 ·rw [cell_of_row w p 1 _ _ _ h.var];rfl
theorem PAt.of_blocks{B:Nat}{w w':World}{p pm:Nat}{v:Value}{F:List FnM}(h:PAt B w p pm v F)(hb:∀ b,B≤b→b<w.heap.size→w'.heap[b]?=w.heap[b]?):PAt B w' p pm v F :=
 ⟨h.pin.of_blocks hb,(hb p h.low (Array.getElem?_eq_some_iff.1 h.var).1).trans h.var,h.low⟩
theorem PAt.drew{B:Nat}{w:World}{p pm:Nat}{v:Value}{F:List FnM}(h:PAt B w p pm v F):PAt B w.drew p pm v F:=h.of_blocks fun _ _ _=>rfl
theorem PAt.alloc{B:Nat}{w:World}{p pm:Nat}{v:Value}{F:List FnM}(h:PAt B w p pm v F)(o:Obj):PAt B (w.alloc o) p pm v F:=h.of_blocks fun _b _ hb=>Below.heap_alloc _ _ _ hb
theorem zkq(F:List FnM):(F.map FnM.fn).map Fn.name=F.map FnM.name:=by simp [FnM.fn]
theorem PAt.apart{B:Nat}{w:World}{p pm:Nat}{v:Value}{F:List FnM}(h:PAt B w p pm v F):¬p=pm∧v.ownBlock≠some p:=by
 constructor
 ·intro e
  obtain⟨em,cm,hem⟩:=ze1 h.pin.places
  have:=h.var
  rw [e,hem] at this;cases this
 ·intro e
  obtain⟨c2,hc2⟩:=zbK h.pin.row e
  have:=h.var
  rw [hc2] at this;simp at this
theorem zv2{B:Nat}{w:World}{p pm:Nat}{v:Value}{F:List FnM}(h:PAt B w p pm v F)(i:It)(hs:i.sort=0)(hbad:bad0 (F.map FnM.fn) i.key=true)(hn:F.length≤4096)(hnm:i.nm.size≤1048576):
  Calls Tryz.prog 100 #[.pointer (some ⟨p,0,none⟩),stm i.sort i.line i.word i.a i.b i.c i.n i.nm] w fun e w'=>e=zak 3 i.line∧Below w.heap.size w w':=by
 obtain⟨c1,c2,c3⟩:=h.cells
 refine zsz w B p pm F.length v (zct F) i (zbj F) c1 c2 h.pin.places h.pin.row hn hnm ?_
 unfold bad0 at hbad
 rw [if_pos (show i.key.sort=0 from hs),zkq] at hbad
 rw [zcp]
 exact hbad
theorem zv3{B:Nat}{w:World}{p pm:Nat}{v:Value}{F:List FnM}(h:PAt B w p pm v F)(i:It)(hs:i.sort=0)(hbad:bad0 (F.map FnM.fn) i.key=false)(hn:F.length≤4096)(hnm:i.nm.size≤1048576)(hB:B≤w.heap.size):
  Calls Tryz.prog 100 #[.pointer (some ⟨p,0,none⟩),stm i.sort i.line i.word i.a i.b i.c i.n i.nm] w fun e w'=>e=.returned (.tuple #[]) ∧
   ∃ v' F',PAt B w' p pm v' F'∧F'.map FnM.fn=addK (F.map FnM.fn) i.key∧F'.length≤F.length+1∧(∀ f∈F',f.its=[]∨∃ f0∈F,f0.its=f.its)∧Below B w w':=by
 obtain⟨c1,c2,c3⟩:=h.cells
 obtain⟨a1,a2⟩:=h.apart
 unfold bad0 at hbad
 rw [if_pos (show i.key.sort=0 from hs),zkq] at hbad
 refine(zs0 w B p pm F.length v (zct F) i (zbj F) c1 c2 c3 h.pin.places h.pin.row a2 hB hn (by rw [zlx];exact hn) hnm (by rw [zcp];exact hbad) a1).mono ?_
 rintro e w' ⟨rfl,g,cap,w1,w2,rfl,h1,h2,h3,h4,h5,h6,h7⟩
 obtain⟨q1,q2,q3⟩:=h.pin.begun h.var h.low h1 h2 h3 h4 h5 h6 h7
 refine⟨rfl,_,_,⟨q1,q3,h.low⟩,?_,by simp,?_,q2⟩
 ·rw [List.map_append,zcw _ _ (show i.key.sort=0 from hs)]
  rfl
 ·intro f hf
  rw [List.mem_append] at hf
  rcases hf with hf|hf
  ·exact .inr ⟨f,hf,rfl⟩
  ·simp at hf;subst hf;exact .inl rfl
theorem PIn.last{B:Nat}{w:World}{pm:Nat}{v:Value}{F:List FnM}{f:FnM}(h:PIn B w pm v (F++[f])):
  ∃ fg cap,v=.slice (some ⟨fg,0,none⟩) (F.length+1) cap∧w.cell? ⟨fg,F.length*4+2,none⟩=some f.bv∧w.cell? ⟨fg,F.length*4+3,none⟩=some (.map (some f.m))∧w.frozen? ⟨fg,F.length*4+2,none⟩=false∧f.bv.ownBlock≠some fg∧¬fg=f.m∧F.length+1≤cap:=by
 have hmem:f∈F++[f]:=by simp
 have hrow:=h.row
 have hlen:(F++[f]).length=F.length+1:=by simp
 rw [hlen] at hrow
 obtain⟨fg,cap,hv,_,_⟩:=hrow.form (by omega)
 subst hv
 obtain⟨cr,hcr⟩:=zbK hrow (g:=fg) rfl
 obtain⟨em,cm,hem⟩:=ze1 (h.labels f hmem)
 have c:∀ j,j<4→w.cell? ⟨fg,F.length*4+j,none⟩=f.cells[j]?:=fun j hj=>by
  rw [World.ownsRow.cellAt hrow (F.length*4+j) (by omega),zjB (F++[f]) F.length (by simp) j hj]
  simp
 have hcap:F.length+1≤cap:=by
  rcases hrow.2 with ⟨h',_⟩|⟨g',cap',cur,h',_,_,hnc,_⟩
  ·simp at h'
  ·simp at h';omega
 refine⟨fg,cap,rfl,c 2 (by omega),c 3 (by omega),World.ownsRow.frozenAt hrow _,?_,?_,hcap⟩
 ·intro e
  obtain⟨c2,hc2⟩:=zbK (h.bodies f hmem) e
  rw [hc2] at hcr;simp at hcr
 ·intro e;rw [e,hem] at hcr;cases hcr
theorem zly(n:Nat)(l:List It):(zbi n l).length≤l.length:=by
 induction l generalizing n with
 | nil=>simp [zbi]
 | cons i l ih =>
  rw [zbZ]
  split
  ·have:=ih n;simp;omega
  ·have:=ih (n+1);simp;omega
theorem zzw{B:Nat}{w:World}{p pm:Nat}{v:Value}{F:List FnM}{f:FnM}(h:PAt B w p pm v (F++[f]))(i:It)(hs:¬i.sort=0)(hbad:bad0 ((F++[f]).map FnM.fn) i.key=true)(hn:f.its.length≤4096)(hnm:i.nm.size≤1048576)(fg cap:Nat)(hv:v=.slice (some ⟨fg,0,none⟩) (F.length+1) cap):
  Calls Tryz.prog 101 #[.pointer (some ⟨fg,F.length*4,none⟩),stm i.sort i.line i.word i.a i.b i.c i.n i.nm] w fun e w'=>e=zak 3 i.line∧Below w.heap.size w w':=by
 have hmem:f∈F++[f]:=by simp
 obtain⟨fg',cap',hv',c1,c2,c3,c4,c5,c6⟩:=h.pin.last
 rw [hv] at hv'
 simp at hv'
 obtain⟨rfl,rfl⟩:=hv'
 unfold bad0 at hbad
 rw [if_neg (show ¬i.key.sort=0 from hs)] at hbad
 by_cases h1:i.sort=1
 ·rw [if_pos (show i.key.sort=1 from h1)] at hbad
  simp only [List.map_append,List.map_cons,List.map_nil,List.getLast?_append,List.getLast?_singleton,Option.some_or] at hbad
  exact zxM w B fg (F.length*4) f.m f.bv (zal f.its) i _ h1 c1 c2 (h.pin.labels f hmem) (h.pin.bodies f hmem) (Nat.le_trans (zdJ _) hn) hnm (by rw [zd6];exact hbad)
 ·rw [if_neg (show ¬i.key.sort=1 from h1)] at hbad
  cases hbad
theorem zzx{B:Nat}{w:World}{p pm:Nat}{v:Value}{F:List FnM}{f:FnM}(h:PAt B w p pm v (F++[f]))(i:It)(hs:¬i.sort=0)(hbad:bad0 ((F++[f]).map FnM.fn) i.key=false)(hn:f.its.length≤4096)(hnm:i.nm.size≤1048576)(hB:B≤w.heap.size)(fg cap:Nat)(hv:v=.slice (some ⟨fg,0,none⟩) (F.length+1) cap):
  Calls Tryz.prog 101 #[.pointer (some ⟨fg,F.length*4,none⟩),stm i.sort i.line i.word i.a i.b i.c i.n i.nm] w fun e w'=>e=.returned (.tuple #[]) ∧
   ∃ f',PAt B w' p pm v (F++[f'])∧(F++[f']).map FnM.fn=addK ((F++[f]).map FnM.fn) i.key∧f'.its=f.its++[i]∧Below B w w':=by
 have hmem:f∈F++[f]:=by simp
 obtain⟨fg',cap',hv',c1,c2,c3,c4,c5,c6⟩:=h.pin.last
 rw [hv] at hv'
 simp at hv'
 obtain⟨rfl,rfl⟩:=hv'
 have hpin:=h.pin
 have hadd:∀ u:Value,(F++[(⟨f.name,f.line,f.its++[i],u,f.m⟩:FnM)]).map FnM.fn=addK ((F++[f]).map FnM.fn) i.key:=by
  intro u
  rw [List.map_append,List.map_append]
  rw [show [f].map FnM.fn=[f.fn] from rfl,zfT _ _ _ (show ¬i.key.sort=0 from hs)]
  simp [FnM.fn]
 unfold bad0 at hbad
 rw [if_neg (show ¬i.key.sort=0 from hs)] at hbad
 by_cases h1:i.sort=1
 ·rw [if_pos (show i.key.sort=1 from h1)] at hbad
  simp only [List.map_append,List.map_cons,List.map_nil,List.getLast?_append,List.getLast?_singleton,Option.some_or] at hbad
  refine(zxN w B fg (F.length*4) f.m f.bv (zal f.its) i _ h1 c1 c2 (h.pin.labels f hmem) (h.pin.bodies f hmem) (Nat.le_trans (zdJ _) hn) (Nat.le_trans (zly _ _) hn) hnm (by rw [zd6];exact hbad)).mono ?_
  rintro e w' ⟨rfl,h2,h3⟩
  obtain⟨q1,q2,q3⟩:=hpin.labelled h1 h2 h3
  exact⟨rfl,_,⟨q1,q3 p _ h.var,h.low⟩,hadd _,rfl,q2⟩
 ·refine(zsy w B fg (F.length*4) f.bv (zal f.its) i h1 c1 c3 (h.pin.bodies f hmem) c4 hB (Nat.le_trans (zdJ _) hn)).mono ?_
  rintro e w' ⟨rfl,g,cap2,w1,rfl,h4,h5,h6⟩
  rw [hv] at hpin
  obtain⟨q1,q2,q3⟩:=hpin.added h1 h4 h5 h6
  exact⟨rfl,_,⟨by rw [hv];exact q1,q3 p _ h.var,h.low⟩,hadd _,rfl,q2⟩
end Go.Proofs.YtfpgjkbjbbgciaaGreatDoor
