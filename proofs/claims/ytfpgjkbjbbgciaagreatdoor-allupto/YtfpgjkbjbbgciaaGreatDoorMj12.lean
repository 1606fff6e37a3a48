import Derived.Test.YtfpgjkbjbbgciaaGreatDoorMj06
import Derived.Test.YtfpgjkbjbbgciaaGreatDoorMj09
set_option maxRecDepth 100000
set_option maxHeartbeats 8000000
namespace Go.Proofs.YtfpgjkbjbbgciaaGreatDoor
section
open Go.RowKit Sp
def WdIn(w:World)(wb:Nat)(l:List ByteArray):Prop:=∀ j (h:j<l.length),w.cell? ⟨wb,j,none⟩=some (.string l[j])
theorem RefM.drew{w:World}{b:Nat}{lv bv iv ov:Value}{m:Mc}(h:RefM w b lv bv iv ov m):RefM w.drew b lv bv iv ov m:=h.of_block rfl
theorem RefM.drewN{w:World}{b:Nat}{lv bv iv ov:Value}{m:Mc}(h:RefM w b lv bv iv ov m)(n:Nat):RefM (w.drewN n) b lv bv iv ov m:=h.of_block rfl
theorem zaF(w:World)(n:Nat):qB w (w.drewN n):=⟨rfl,rfl,rfl,Nat.le_refl _,fun _ _=>rfl⟩
theorem zc9(x:Int):wrap64 x=w64 x:=by simp [w64,wrap64]
theorem zav(x:ByteArray)(r:Nat)(hreg:reg x=(r:Int))(h:x.size≤1048576):∀ W,qC 75 #[.string x] W fun e w'=>e=.returned (.int .i64 (r:Int))∧w'=W:=fun W=>by
 rw [←hreg];exact zmX x W (by unfold maxLen;omega)
theorem zlh(x:ByteArray)(h:x.size≤1048576):∀ W,qC 76 #[.string x] W fun e w'=>e=.returned (.tuple #[.int .i64 (zaI x).1,.bool (zaI x).2])∧w'=W:=fun W=>znd x W (by omega)
theorem zs6(w:World)(b r n:Nat)(lv bv iv ov:Value)(m:Mc)(x:ByteArray)(h:RefM w b lv bv iv ov m)(hr:r<8)(hreg:reg x=(r:Int))(h1:x.size≤1048576)(hn:m.regs r=(n:Int))(hn16:n<16):
  qC 112 #[.pointer (some ⟨b,0,none⟩),.string x] w fun e w'=>e=.returned (.int .i64 (n:Int))∧∃ k,w'=w.drewN k:=by
 have a:=h.cR r hr;rw [hn] at a;have hr0:(0:Int)≤(r:Int):=by omega
 have hr8:(r:Int)<8:=by omega
 have c:=zav x r hreg h1;have hn0:((n:Int)<0)=False:=by simp
 have hn15:((15:Int)<(n:Int))=False:=by simp;omega
 go_enter Tryz.func112,Tryz.ntmps112;go_wp2_with fail
 go_quiet(first|(go_at_call 75;exact Calls.quiet_of_same (c _)))
 go_wp2;go_ret;exact⟨rfl,_,rfl⟩
theorem zoA(w:World)(b r:Nat)(lv bv iv ov:Value)(m:Mc)(x:ByteArray)(h:RefM w b lv bv iv ov m)(hr:r<8)(hreg:reg x=(r:Int))(h1:x.size≤1048576)(hn:m.regs r<0∨15<m.regs r):
  qC 112 #[.pointer (some ⟨b,0,none⟩),.string x] w fun e w'=>e=.returned (.int .i64 (-1))∧RefM w' b lv bv iv ov { m with fin:=3 }∧w.grownBy w' (some b):=by
 have a:=h.cR r hr;have hce:=h.cE;have hfz:=h.fz 33;have hr0:(0:Int)≤(r:Int):=by omega
 have hr8:(r:Int)<8:=by omega
 have c:=zav x r hreg h1;generalize m.regs r=v at a hn;by_cases hv:v<0
 ·go_enter Tryz.func112,Tryz.ntmps112;go_wp2_with fail
  go_quiet(first|(go_at_call 75;exact Calls.quiet_of_same (c _)))
  go_wp2;go_ret;exact⟨rfl,((h.drewN nq).setE 3),zac (zaF _ _)⟩
 ·have hv2:15<v:=by omega
  go_enter Tryz.func112,Tryz.ntmps112;go_wp2_with fail
  go_quiet(first|(go_at_call 75;exact Calls.quiet_of_same (c _)))
  go_wp2;go_ret;exact⟨rfl,((h.drewN nq).setE 3),zac (zaF _ _)⟩
theorem zv5(w:World)(b wb cap r:Nat)(lv bv iv ov:Value)(m:Mc)(x1 x2:ByteArray)(h:RefM w b lv bv iv ov m)(hw:WdIn w wb [⟨#[115,101,116]⟩,x1,x2])(_hne:¬wb=b)(hr:r<8)(hreg:reg x1=(r:Int))(h1:x1.size≤1048576)(h2:x2.size≤1048576):
  qC 90 #[.pointer (some ⟨b,0,none⟩),.slice (some ⟨wb,0,none⟩) 3 cap] w fun e w'=>e=.returned (.tuple #[])∧RefM w' b lv bv iv ov { m with regs:=upd m.regs r (zaI x2).1 }∧w.grownBy w' (some b):=by
 have i:=hw 0 (by simp);have f:=hw 1 (by simp);have j:=hw 2 (by simp);simp only [List.getElem_cons_zero,List.getElem_cons_succ] at i f j;have hcr:=h.cR r hr;have hfz:=h.fz (5+r);have hr0:(0:Int)≤(r:Int):=by omega
 have hr8:(r:Int)<8:=by omega
 have g:=zav x1 r hreg h1;have d:=zlh x2 h2;generalize (zaI x2).1=v at d ⊢;generalize (zaI x2).2=ok at d;go_enter Tryz.func90,Tryz.ntmps90;go_wp2_with(first|(go_at_call 75;refine(g _).mono ?_;rintro e k ⟨rfl,a⟩;have c:=a.symm;subst c))
 go_region_with(go_at_call 76;refine(d _).mono ?_;rintro e k ⟨rfl,a⟩;have c:=a.symm;subst c)
 all_goals go_wp2
 all_goals go_end0
 all_goals exact⟨rfl,(h.setR r hr v).drew,zb6 (zac (Below.refl _ _))⟩
theorem zv6(w:World)(b wb cap r s:Nat)(lv bv iv ov:Value)(m:Mc)(x1 x2:ByteArray)(h:RefM w b lv bv iv ov m)(hw:WdIn w wb [⟨#[109,111,118]⟩,x1,x2])(_hne:¬wb=b)(hr:r<8)(hreg:reg x1=(r:Int))(hs:s<8)(hreg2:reg x2=(s:Int))(hx1:x1.size≤1048576)(hx2:x2.size≤1048576):
  qC 90 #[.pointer (some ⟨b,0,none⟩),.slice (some ⟨wb,0,none⟩) 3 cap] w fun e w'=>e=.returned (.tuple #[])∧RefM w' b lv bv iv ov { m with regs:=upd m.regs r (m.regs s) }∧w.grownBy w' (some b):=by
 have j:=hw 0 (by simp);have g:=hw 1 (by simp);have k:=hw 2 (by simp);simp only [List.getElem_cons_zero,List.getElem_cons_succ] at j g k;have hcr:=h.cR r hr;have hfz:=h.fz (5+r);have hr0:(0:Int)≤(r:Int):=by omega
 have hr8:(r:Int)<8:=by omega
 have i:=zav x1 r hreg hx1;have hcs:=h.cR s hs;have hs0:(0:Int)≤(s:Int):=by omega
 have hs8:(s:Int)<8:=by omega
 have d:=zav x2 s hreg2 hx2;go_enter Tryz.func90,Tryz.ntmps90;go_wp2_with(first|(go_at_call 75;refine(i _).mono ?_;rintro e f ⟨rfl,a⟩;have c:=a.symm;subst c))
 go_region_with(first|(go_at_call_of 75 (Value.string x2);refine(d _).mono ?_;rintro e f ⟨rfl,a⟩;have c:=a.symm;subst c)|(go_at_call 75;refine(d _).mono ?_;rintro e f ⟨rfl,a⟩;have c:=a.symm;subst c))
 all_goals go_wp2
 all_goals go_end0
 all_goals exact⟨rfl,(h.setR r hr _).drew,zb6 (zac (Below.refl _ _))⟩
theorem zv7(w:World)(b wb cap r:Nat)(lv bv iv ov:Value)(m:Mc)(x1 x2:ByteArray)(h:RefM w b lv bv iv ov m)(hw:WdIn w wb [⟨#[105,110,99]⟩,x1,x2])(_hne:¬wb=b)(hr:r<8)(hreg:reg x1=(r:Int))(hx1:x1.size≤1048576)(hx2:x2.size≤1048576):
  qC 90 #[.pointer (some ⟨b,0,none⟩),.slice (some ⟨wb,0,none⟩) 3 cap] w fun e w'=>e=.returned (.tuple #[])∧RefM w' b lv bv iv ov { m with regs:=upd m.regs r (w64 (m.regs r+(zaI x2).1)) }∧w.grownBy w' (some b):=by
 have i:=hw 0 (by simp);have f:=hw 1 (by simp);have j:=hw 2 (by simp);simp only [List.getElem_cons_zero,List.getElem_cons_succ] at i f j;have hcr:=h.cR r hr;have hfz:=h.fz (5+r);have hr0:(0:Int)≤(r:Int):=by omega
 have hr8:(r:Int)<8:=by omega
 have g:=zav x1 r hreg hx1;have d:=zlh x2 hx2;generalize (zaI x2).1=v at d ⊢;generalize (zaI x2).2=ok at d;go_enter Tryz.func90,Tryz.ntmps90;go_wp2_with(first|(go_at_call 75;refine(g _).mono ?_;rintro e k ⟨rfl,a⟩;have c:=a.symm;subst c)|(go_at_call 76;refine(d _).mono ?_;rintro e k ⟨rfl,a⟩;have c:=a.symm;subst c))
 go_region
 all_goals go_wp2
 all_goals go_end0
 all_goals rw [zc9]
 all_goals exact⟨rfl,(h.setR r hr _).drew,zb6 (zac (Below.refl _ _))⟩
def zan(m:Mc)(ov:Value)(line:Int):List Value:=[.int .i64 m.steps]++((List.range 8).map (fun i=>Value.int .i64 (m.regs i))++((List.range 16).map (fun i=>Value.int .i64 (m.cells i))++[ov,.int .i64 m.frames,.int .i64 m.peak,.int .i64 line,.int .i64 m.fin]))
theorem zas(m:Mc)(ov:Value)(line:Int):(zan m ov line).length=30:=by simp [zan]
theorem zaz(m:Mc)(ao:Option Addr)(n c:Nat)(line:Int):(zan m (.slice ao n c) line).toArray.all (·.oneCell')=true:=by
 refine all_oneCell_toArray fun v hv=>?_;simp only [zan,List.mem_append,List.mem_map,List.mem_cons,List.mem_nil_iff,or_false] at hv;rcases hv with rfl|⟨i,_,rfl⟩|⟨i,_,rfl⟩|rfl|rfl|rfl|rfl|rfl <;> rfl
theorem zil(m:Mc)(ov:Value)(line:Int):(zan m ov line)[28]?=some (.int .i64 line):=by simp [zan]
theorem zsY(m:Mc)(ov:Value)(line:Int):(zan m ov line)[29]?=some (.int .i64 m.fin):=by simp [zan]
theorem zfj(m:Mc)(ov:Value)(line l2:Int):(zan m ov line).set 28 (.int .i64 l2)=zan m ov l2:=by simp [zan,List.range_succ]
theorem zsZ(m:Mc)(ov:Value)(line:Int)(j:Nat)(v:Value)(h:(zan m ov line)[j]?=some v):
  (j=0∧v=.int .i64 m.steps)∨(∃ i,i<8∧j=1+i∧v=.int .i64 (m.regs i))∨(∃ i,i<16∧j=9+i∧v=.int .i64 (m.cells i))∨(j=25∧v=ov)∨(j=26∧v=.int .i64 m.frames)∨(j=27∧v=.int .i64 m.peak)∨(j=28∧v=.int .i64 line)∨(j=29∧v=.int .i64 m.fin):=by
 unfold zan at h;rw [List.getElem?_append] at h;split at h
 ·rename_i hj;simp at hj;subst hj;simp at h;exact .inl ⟨rfl,h.symm⟩
 ·rename_i hj;simp at hj;rw [List.getElem?_append] at h;split at h
  ·rename_i h8;simp at h8;simp [h8] at h;exact .inr (.inl ⟨j-1,h8,by omega,by simpa using h.symm⟩)
  ·rename_i h8;simp at h8;rw [List.getElem?_append] at h;split at h
   ·rename_i h16;simp at h16;simp [h16] at h;exact .inr (.inr (.inl ⟨j-1-8,h16,by omega,by simpa using h.symm⟩))
   ·rename_i h16;simp at h16 h;obtain⟨q,a⟩:∃ q,j=25+q:=⟨j-25,by omega⟩
    subst a;have e:25+q-1-8-16=q:=by omega
    rw [e] at h
    match q,h with
    | 0,h=>simp at h;exact .inr (.inr (.inr (.inl ⟨rfl,h.symm⟩)))
    | 1,h=>simp at h;exact .inr (.inr (.inr (.inr (.inl ⟨rfl,h.symm⟩))))
    | 2,h=>simp at h;exact .inr (.inr (.inr (.inr (.inr (.inl ⟨rfl,h.symm⟩)))))
    | 3,h=>simp at h;exact .inr (.inr (.inr (.inr (.inr (.inr (.inl ⟨rfl,h.symm⟩))))))
    | 4,h=>simp at h;exact .inr (.inr (.inr (.inr (.inr (.inr (.inr ⟨rfl,h.symm⟩))))))
    | q+5,h=>simp at h
theorem RefM.range{w:World}{b:Nat}{lv bv iv ov:Value}{m:Mc}(h:RefM w b lv bv iv ov m):w.rangeAt b 4 (zan m ov 0):=by
 intro j v c;rcases zsZ m ov 0 j v c with ⟨rfl,rfl⟩|⟨i,a,rfl,rfl⟩|⟨i,a,rfl,rfl⟩|⟨rfl,rfl⟩|⟨rfl,rfl⟩|⟨rfl,rfl⟩|⟨rfl,rfl⟩|⟨rfl,rfl⟩
 ·exact h.cS
 ·rw [show 4+(1+i)=5+i by omega];exact h.cR i a
 ·rw [show 4+(9+i)=13+i by omega];exact h.cC i a
 ·exact h.cO
 ·exact h.cF
 ·exact h.cP
 ·exact h.cA
 ·exact h.cE
theorem zdA{w:World}{b o n:Nat}{cs:List Value}{v u:Value}(h:w.rangeAt b o cs)(hn:w.cell? ⟨b,o+n,none⟩=some u):(w.setCell ⟨b,o+n,none⟩ v).rangeAt b o (cs.set n v):=by
 intro j x a;by_cases e:j=n
 ·subst e;rw [List.getElem?_set] at a;split at a
  ·split at a
   ·rw [←Option.some.inj a];exact World.cell?_setCell_same w _ _ hn
   ·cases a
  ·rename_i hne;exact absurd rfl hne
 ·rw [List.getElem?_set_ne (by omega)] at a;rw [World.cell?_setCell_other]
  ·exact h j x a
  ·simp
theorem zds{w:World}{b o n:Nat}(h:w.there b o n)(p:Addr)(v:Value):(w.setCell p v).there b o n:=fun j hj=>by
 obtain⟨h1,h2⟩:=h j hj;refine⟨?_,by simpa using h2⟩;obtain⟨u,hu⟩:=Option.isSome_iff_exists.1 h1;obtain⟨x,hx⟩:=cell?_setCell_some (w:=w) (p:=p) (x:=v) (q:=⟨b,o+j,none⟩) (v:=u) hu;rw [hx];rfl
abbrev Z34:Obj:=.cells #[.int .i64 0,.int .i64 0,.int .i64 0,.int .i64 0,.int .i64 0,.int .i64 0,.int .i64 0,.int .i64 0,.int .i64 0,.int .i64 0,.int .i64 0,.int .i64 0,.int .i64 0,.int .i64 0,.int .i64 0,.int .i64 0,.int .i64 0,.int .i64 0,.int .i64 0,.int .i64 0,.int .i64 0,.int .i64 0,.int .i64 0,.int .i64 0,.int .i64 0,.slice none 0 0,.int .i64 0,.int .i64 0,.int .i64 0,.int .i64 0] 34
theorem zb8(w:World):(w.alloc Z34).there w.heap.size 0 30:=fun j hj=>by
 refine⟨?_,by simp⟩;have h:=World.cell?_alloc_new (w:=w) #[.int .i64 0,.int .i64 0,.int .i64 0,.int .i64 0,.int .i64 0,.int .i64 0,.int .i64 0,.int .i64 0,.int .i64 0,.int .i64 0,.int .i64 0,.int .i64 0,.int .i64 0,.int .i64 0,.int .i64 0,.int .i64 0,.int .i64 0,.int .i64 0,.int .i64 0,.int .i64 0,.int .i64 0,.int .i64 0,.int .i64 0,.int .i64 0,.int .i64 0,.slice none 0 0,.int .i64 0,.int .i64 0,.int .i64 0,.int .i64 0] 34 (0+j);rw [h,Array.getElem?_eq_getElem (by simpa using hj)];rfl
theorem zb9{fn:Func}{a:Tmp}{t:TypeId}(h:fn.results=#[.cell a t])(tmps:Array Value)(p:Addr)(hp:tmps.getD a undef=.pointer (some p)){P:Program}{w:World}{v:Value}(hl:(loadVar t p).run P w=.ok v w):(results fn tmps).run P w=.ok v w:=by
 have b:tmps[a]?.getD undef=.pointer (some p):=by simpa using hp
 simp [results,h,b,asAddr,hl]
theorem zgf{fn:Func}{a b c:Tmp}{t:TypeId}(h:fn.results=#[.cell a t,.tmp b,.tmp c])(tmps:Array Value)(p:Addr)(hp:tmps.getD a undef=.pointer (some p)){P:Program}{w:World}{v:Value}(hl:(loadVar t p).run P w=.ok v w):(results fn tmps).run P w=.ok (.tuple #[v,tmps.getD b undef,tmps.getD c undef]) w:=by
 have d:tmps[a]?.getD undef=.pointer (some p):=by simpa using hp
 simp [results,h,d,asAddr,hl]
theorem Tryz.info34:(Tryz.prog.info? 34).map (·.size)=some 30:=by kernel_rfl
theorem zal(l:List Value){B b:Nat}{a w:World}(o:Nat)(h:Below B a w)(hb:B≤b):Below B a (w.setCells b o l):=by
 induction l generalizing w o with
 | nil=>exact h
 | cons x r ih=>exact ih (o+1) (h.setCell (p:=⟨b,o,none⟩) hb x)
theorem za6(l:List Value)(w:World)(b o k:Nat)(h:¬k=b):(w.setCells b o l).heap[k]?=w.heap[k]?:=by
 induction l generalizing w o with
 | nil=>rfl
 | cons x r ih =>
  show((w.setCell ⟨b,o,none⟩ x).setCells b (o+1) r).heap[k]?=_;rw [ih,Below.heap_setCell _ _ _ _ h]
theorem zd0(l:List Value)(w:World)(b o:Nat):(w.setCells b o l).heap.size=w.heap.size:=by
 induction l generalizing w o with
 | nil=>rfl
 | cons x r ih =>
  show((w.setCell ⟨b,o,none⟩ x).setCells b (o+1) r).heap.size=_;rw [ih];simp [World.setCell]
theorem zli(f:Nat→Int)(i:Nat)(a b:Int):upd (upd f i a) i b=upd f i b:=by
 funext j
 unfold upd;split <;> rfl
theorem zae{a b c:World}{q:Option Nat}(h:a.grownBy b q)(k:b.grownBy c q):a.grownBy c q :=
 ⟨k.os.trans h.os,k.tape.trans h.tape,k.output.trans h.output,Nat.le_trans h.size k.size,fun i hi hne=>(k.block i (Nat.lt_of_lt_of_le hi h.size) hne).trans (h.block i hi hne)⟩
theorem zlj(w:World)(b wb cap r s n:Nat)(lv bv iv ov:Value)(m:Mc)(x1 x2:ByteArray)(h:RefM w b lv bv iv ov m)(hw:WdIn w wb [⟨#[108,111,97,100]⟩,x1,x2])(_hne:¬wb=b)(hr:r<8)(hreg:reg x1=(r:Int))(hs:s<8)(hreg2:reg x2=(s:Int))(hn:m.regs s=(n:Int))(hn16:n<16)(hx1:x1.size≤1048576)(hx2:x2.size≤1048576):
  qC 90 #[.pointer (some ⟨b,0,none⟩),.slice (some ⟨wb,0,none⟩) 3 cap] w fun e w'=>e=.returned (.tuple #[])∧RefM w' b lv bv iv ov { m with regs:=upd m.regs r (m.cells n) }∧w.grownBy w' (some b):=by
 have i:=hw 0 (by simp);have d:=hw 1 (by simp);have j:=hw 2 (by simp);simp only [List.getElem_cons_zero,List.getElem_cons_succ] at i d j;have hcr:=h.cR r hr;have hfz:=h.fz (5+r);have hr0:(0:Int)≤(r:Int):=by omega
 have hr8:(r:Int)<8:=by omega
 have f:=zav x1 r hreg hx1;have hcc:=h.cC n hn16;have hn0:(0:Int)≤(n:Int):=by omega
 have hn1:(n:Int)<16:=by omega
 have g:=zs6 w b s n lv bv iv ov m x2 h hs hreg2 hx2 hn hn16;clear hn;go_enter Tryz.func90,Tryz.ntmps90;go_wp2_with(first|(go_at_call 75;refine(f _).mono ?_;rintro e l ⟨rfl,a⟩;have c:=a.symm;subst c)|(go_at_call 112;refine g.mono ?_;rintro e l ⟨rfl,k,rfl⟩))
 go_region
 all_goals go_wp2
 all_goals go_end0
 all_goals first|exact⟨rfl,(h.drewN (k+1)).setR r hr _,zac (zaF _ _)⟩|exact⟨rfl,((h.drewN k).setR r hr _).drew,zb6 (zac (zaF _ _))⟩
theorem zks(w:World)(b wb cap r s:Nat)(lv bv iv ov:Value)(m:Mc)(x1 x2:ByteArray)(h:RefM w b lv bv iv ov m)(hw:WdIn w wb [⟨#[108,111,97,100]⟩,x1,x2])(_hne:¬wb=b)(hr:r<8)(hreg:reg x1=(r:Int))(hs:s<8)(hreg2:reg x2=(s:Int))(hn:m.regs s<0∨15<m.regs s)(hx1:x1.size≤1048576)(hx2:x2.size≤1048576):
  qC 90 #[.pointer (some ⟨b,0,none⟩),.slice (some ⟨wb,0,none⟩) 3 cap] w fun e w'=>e=.returned (.tuple #[])∧RefM w' b lv bv iv ov { m with fin:=3 }∧w.grownBy w' (some b):=by
 have i:=hw 0 (by simp);have d:=hw 1 (by simp);have k:=hw 2 (by simp);simp only [List.getElem_cons_zero,List.getElem_cons_succ] at i d k;have hcr:=h.cR r hr;have hfz:=h.fz (5+r);have hr0:(0:Int)≤(r:Int):=by omega
 have hr8:(r:Int)<8:=by omega
 have f:=zav x1 r hreg hx1;have g:=zoA w b s lv bv iv ov m x2 h hs hreg2 hx2 hn;clear hn;go_enter Tryz.func90,Tryz.ntmps90;go_wp2_with(first|(go_at_call 75;refine(f _).mono ?_;rintro e n ⟨rfl,a⟩;have c:=a.symm;subst c)|(go_at_call 112;refine g.mono ?_;rintro e n ⟨rfl,l,j⟩))
 go_end0
 exact⟨rfl,l,j⟩
theorem zkt(w:World)(b wb cap r s n:Nat)(lv bv iv ov:Value)(m:Mc)(x1 x2:ByteArray)(h:RefM w b lv bv iv ov m)(hw:WdIn w wb [⟨#[115,116,111,114,101]⟩,x1,x2])(_hne:¬wb=b)(hr:r<8)(hreg:reg x1=(r:Int))(hs:s<8)(hreg2:reg x2=(s:Int))(hn:m.regs r=(n:Int))(hn16:n<16)(hx1:x1.size≤1048576)(hx2:x2.size≤1048576):
  qC 90 #[.pointer (some ⟨b,0,none⟩),.slice (some ⟨wb,0,none⟩) 3 cap] w fun e w'=>e=.returned (.tuple #[])∧RefM w' b lv bv iv ov { m with cells:=upd m.cells n (m.regs s) }∧w.grownBy w' (some b):=by
 have o:=hw 0 (by simp);have g:=hw 1 (by simp);have p:=hw 2 (by simp);simp only [List.getElem_cons_zero,List.getElem_cons_succ] at o g p;have d:=h.cR r hr;have hfz:=h.fz (5+r);have hr0:(0:Int)≤(r:Int):=by omega
 have hr8:(r:Int)<8:=by omega
 have j:=zav x1 r hreg hx1;have hcc:=h.cC n hn16;have hfc:=h.fz (13+n);have hcs:=h.cR s hs;have hs0:(0:Int)≤(s:Int):=by omega
 have hs8:(s:Int)<8:=by omega
 have hn0:(0:Int)≤(n:Int):=by omega
 have hn1:(n:Int)<16:=by omega
 have l:=zs6 w b r n lv bv iv ov m x1 h hr hreg hx1 hn hn16;have i:=zav x2 s hreg2 hx2;clear hn d;go_enter Tryz.func90,Tryz.ntmps90;go_wp2_with(first|(go_at_call 75;refine(j _).mono ?_;rintro e f ⟨rfl,a⟩;have c:=a.symm;subst c)|(go_at_call 112;refine l.mono ?_;rintro e f ⟨rfl,k,rfl⟩))
 go_region_with(go_at_call 75;refine(i _).mono ?_;rintro e f ⟨rfl,a⟩;have c:=a.symm;subst c)
 all_goals go_wp2
 all_goals go_end0
 all_goals first|exact⟨rfl,(h.drewN (k+1)).setC n hn16 _,zac (zaF _ _)⟩|exact⟨rfl,((h.drewN k).setC n hn16 _).drew,zb6 (zac (zaF _ _))⟩
theorem zjf(w:World)(b wb cap r:Nat)(lv bv iv ov:Value)(m:Mc)(x1 x2:ByteArray)(h:RefM w b lv bv iv ov m)(hw:WdIn w wb [⟨#[115,116,111,114,101]⟩,x1,x2])(_hne:¬wb=b)(hr:r<8)(hreg:reg x1=(r:Int))(hn:m.regs r<0∨15<m.regs r)(hx1:x1.size≤1048576)(_hx2:x2.size≤1048576):
  qC 90 #[.pointer (some ⟨b,0,none⟩),.slice (some ⟨wb,0,none⟩) 3 cap] w fun e w'=>e=.returned (.tuple #[])∧RefM w' b lv bv iv ov { m with fin:=3 }∧w.grownBy w' (some b):=by
 have i:=hw 0 (by simp);have f:=hw 1 (by simp);have l:=hw 2 (by simp);simp only [List.getElem_cons_zero,List.getElem_cons_succ] at i f l;have a:=h.cR r hr;have hfz:=h.fz (5+r);have hr0:(0:Int)≤(r:Int):=by omega
 have hr8:(r:Int)<8:=by omega
 have g:=zav x1 r hreg hx1;have j:=zoA w b r lv bv iv ov m x1 h hr hreg hx1 hn;clear hn a;go_enter Tryz.func90,Tryz.ntmps90;go_wp2_with(first|(go_at_call 75;refine(g _).mono ?_;rintro e o ⟨rfl,c⟩;have d:=c.symm;subst d)|(go_at_call 112;refine j.mono ?_;rintro e o ⟨rfl,n,k⟩))
 go_end0
 exact⟨rfl,n,k⟩
theorem zjg(w:World)(b wb cap r:Nat)(lv bv iv ov:Value)(m:Mc)(x1:ByteArray)(h:RefM w b lv bv iv ov m)(hw:WdIn w wb [⟨#[114,101,97,100]⟩,x1])(_hne:¬wb=b)(hr:r<8)(hreg:reg x1=(r:Int))(ao:Option Addr)(icap:Nat)(hiv:iv=.slice ao 0 icap)(hx1:x1.size≤1048576):
  qC 90 #[.pointer (some ⟨b,0,none⟩),.slice (some ⟨wb,0,none⟩) 2 cap] w fun e w'=>e=.returned (.tuple #[])∧RefM w' b lv bv iv ov { m with regs:=upd m.regs r 0 }∧w.grownBy w' (some b):=by
 have i:=hw 0 (by simp);have f:=hw 1 (by simp);simp only [List.getElem_cons_zero,List.getElem_cons_succ] at i f;have hcr:=h.cR r hr;have hfz:=h.fz (5+r);have hr0:(0:Int)≤(r:Int):=by omega
 have hr8:(r:Int)<8:=by omega
 have g:=zav x1 r hreg hx1;have d:=h.cI;rw [hiv] at d;go_enter Tryz.func90,Tryz.ntmps90;go_wp2_with(first|(go_at_call 75;refine(g _).mono ?_;rintro e wx ⟨rfl,a⟩;have c:=a.symm;subst c))
 go_end0
 exact⟨rfl,h.setR r hr _,zac (Below.refl _ _)⟩
theorem zjh(w:World)(b wb cap r g o icap n:Nat)(lv bv iv ov:Value)(m:Mc)(x1:ByteArray)(h:RefM w b lv bv iv ov m)(hw:WdIn w wb [⟨#[114,101,97,100]⟩,x1])(_hne:¬wb=b)(hr:r<8)(hreg:reg x1=(r:Int))(v:Int)(l:List Int)(hiv:iv=.slice (some ⟨g,o,none⟩) (n+1) icap)(hcg:w.cell? ⟨g,o,none⟩=some (.int .i64 v))(hgb:¬g=b)(hic:n+1≤icap)(hn:n≤1048576)(hx1:x1.size≤1048576):
  qC 90 #[.pointer (some ⟨b,0,none⟩),.slice (some ⟨wb,0,none⟩) 2 cap] w fun e w'=>e=.returned (.tuple #[])∧(∃ o',RefM w' b lv bv (.slice (some ⟨g,o',none⟩) n (icap-1)) ov { m with regs:=upd m.regs r v,inp:=l }∧(n=0∨o'=o+1))∧w.grownBy w' (some b):=by
 have p:=hw 0 (by simp);have j:=hw 1 (by simp);simp only [List.getElem_cons_zero,List.getElem_cons_succ] at p j;have hcr:=h.cR r hr;have hfz:=h.fz (5+r);have hr0:(0:Int)≤(r:Int):=by omega
 have hr8:(r:Int)<8:=by omega
 have k:=zav x1 r hreg hx1;have c:=h.cI;rw [hiv] at c;have hfi:=h.fz 3;have hbg:¬b=g:=fun e=>hgb e.symm;have i:=h;go_enter Tryz.func90,Tryz.ntmps90;go_wp2_with(first|(go_at_call 75;refine(k _).mono ?_;rintro e wx ⟨rfl,d⟩;have f:=d.symm;subst f))
 go_region
 all_goals go_wp2
 all_goals go_end0
 ·have a:=((i.setR r hr 0).setR r hr v).setI (.slice (some ⟨g,o,none⟩) n 0) l;rw [zli] at a;exact⟨rfl,⟨o,a.drew,.inl (by omega)⟩,zb6 (zae (zae (zac (Below.refl _ _)) (zac (Below.refl _ _))) (zac (Below.refl _ _)))⟩
 ·have a:=((i.setR r hr 0).setR r hr v).setI (.slice (some ⟨g,o+1,none⟩) n (icap-1)) l;rw [zli] at a;exact⟨rfl,⟨o+1,a.drew,.inr rfl⟩,zb6 (zae (zae (zac (Below.refl _ _)) (zac (Below.refl _ _))) (zac (Below.refl _ _)))⟩
theorem LinesIn.drewN{w:World}{g:Nat}{L:List Said}(h:LinesIn w g L)(n:Nat):LinesIn (w.drewN n) g L:=⟨h.kind,h.words,h.wf⟩
theorem zqu(w:World)(b wb cap g cap2 k:Nat)(bv iv ov:Value)(L:List Said)(m:Mc)(x:ByteArray)(next:Int)(j:Nat)(h:RefM w b (.slice (some ⟨g,0,none⟩) L.length cap2) bv iv ov m)(hL:LinesIn w g L)(hn:L.length≤300)(hk:k<L.length)(hat:m.at'=(k:Int))(hw:WdIn w wb [⟨#[106,117,109,112]⟩,x])(hlab:zcj L k x=(j:Int))(hj:j≤L.length):
  qC 89 #[.pointer (some ⟨b,0,none⟩),.slice (some ⟨wb,0,none⟩) 2 cap,.int .i64 next] w fun e w'=>e=.returned (.tuple #[.int .i64 (zad L j),.bool true])∧∃ n,w'=w.drewN n:=by
 have i:=hw 0 (by simp);have d:=hw 1 (by simp);simp only [List.getElem_cons_zero,List.getElem_cons_succ] at i d;have hcl:=h.cL;have a:=h.cAt;rw [hat] at a;have f:∀ n,qC 78 #[.slice (some ⟨g,0,none⟩) L.length cap2,.int .i64 (k:Int),.string x] (w.drewN n) fun e w'=>e=.returned (.int .i64 (j:Int))∧w'=w.drewN n:=fun n=>by
  rw [←hlab];exact zf3 L g cap2 k x _ (hL.drewN n) (by omega) hk
 have c:∀ n,qC 88 #[.slice (some ⟨g,0,none⟩) L.length cap2,.int .i64 (j:Int)] (w.drewN n) fun e w'=>e=.returned (.int .i64 (zad L j))∧w'=w.drewN n:=fun n=>zdn L g cap2 j _ (hL.drewN n) (by omega) (by omega);generalize zad L j=to at c ⊢;clear hlab;go_enter Tryz.func89,Tryz.ntmps89;go_wp2_with fail
 go_quiet(first|(go_at_call 78;exact Calls.quiet_of_same (f _))|(go_at_call 88;exact Calls.quiet_of_same (c _)))
 go_wp2;go_ret2;exact⟨rfl,_,rfl⟩
theorem zbw(w:World)(b wb cap n:Nat)(l:List ByteArray)(next:Int)(hl:l.length=n+1)(hn:n≤8)(hw:WdIn w wb l)(h0:((l[0]'(by omega)).toList == [106,117,109,112])=false)(h1:((l[0]'(by omega)).toList == [108,101,115,115])=false)(h2:((l[0]'(by omega)).toList == [115,97,109,101])=false)(h3:((l[0]'(by omega)).toList == [99,97,108,108])=false)(h4:((l[0]'(by omega)).toList == [98,97,99,107])=false)(h5:((l[0]'(by omega)).toList == [115,116,111,112])=false):
  qC 89 #[.pointer (some ⟨b,0,none⟩),.slice (some ⟨wb,0,none⟩) (n+1) cap,.int .i64 next] w fun e w'=>e=.returned (.tuple #[.int .i64 next,.bool false])∧w'=w:=by
 have c:=hw 0 (by omega);have a:=hw n (by omega);generalize l[0]=x0 at c h0 h1 h2 h3 h4 h5;generalize l[n]=xn at a;have hwrap:IntKind.i64.wrap (n:Int)=(n:Int):=zcH _ (by omega) (by omega);have hf0:(0:Int)≤(n:Int):=by omega
 have hf1:(n:Int)<(n:Int)+1:=by omega
 have hf2:(0:Int)<(n:Int)+1:=by omega
 clear hw hl;go_enter Tryz.func89,Tryz.ntmps89;go_wp2;go_ret2;exact⟨rfl,rfl⟩
theorem zqv(w:World)(b wb cap:Nat)(lv bv iv ov:Value)(m:Mc)(next:Int)(h:RefM w b lv bv iv ov m)(hw:WdIn w wb [⟨#[115,116,111,112]⟩]):
  qC 89 #[.pointer (some ⟨b,0,none⟩),.slice (some ⟨wb,0,none⟩) 1 cap,.int .i64 next] w fun e w'=>e=.returned (.tuple #[.int .i64 (-1),.bool true])∧RefM w' b lv bv iv ov { m with fin:=1 }∧w.grownBy w' (some b):=by
 have a:=hw 0 (by simp);simp only [List.getElem_cons_zero] at a;have hce:=h.cE;have hfe:=h.fz 33;go_enter Tryz.func89,Tryz.ntmps89;go_wp2;go_ret2;exact⟨rfl,h.setE 1,zac (Below.refl _ _)⟩
end
section
open Sp
theorem zlJ(L:List Said)(k:Nat)(q:Said)(x1:ByteArray)(h:q.kept=[⟨#[106,117,109,112]⟩,x1]):insQ L k q=.jump (ze9 L k x1):=by
 obtain⟨kd,kp,ok⟩:=q;cases h;kernel_rfl
theorem zlK(L:List Said)(k:Nat)(q:Said)(x1 x2 x3:ByteArray)(h:q.kept=[⟨#[108,101,115,115]⟩,x1,x2,x3]):insQ L k q=.less (regN x1) (regN x2) (ze9 L k x3):=by
 obtain⟨kd,kp,ok⟩:=q;cases h;kernel_rfl
theorem zlL(L:List Said)(k:Nat)(q:Said)(x1 x2 x3:ByteArray)(h:q.kept=[⟨#[115,97,109,101]⟩,x1,x2,x3]):insQ L k q=.same (regN x1) (regN x2) (ze9 L k x3):=by
 obtain⟨kd,kp,ok⟩:=q;cases h;kernel_rfl
theorem zlM(L:List Said)(k:Nat)(q:Said)(x1:ByteArray)(h:q.kept=[⟨#[99,97,108,108]⟩,x1]):insQ L k q=.call (fnTo L x1):=by
 obtain⟨kd,kp,ok⟩:=q;cases h;kernel_rfl
theorem zlN(L:List Said)(k:Nat)(q:Said)(h:q.kept=[⟨#[98,97,99,107]⟩]):insQ L k q=.back:=by
 obtain⟨kd,kp,ok⟩:=q;cases h;kernel_rfl
theorem zlO(L:List Said)(k:Nat)(q:Said)(h:q.kept=[⟨#[115,116,111,112]⟩]):insQ L k q=.stop:=by
 obtain⟨kd,kp,ok⟩:=q;cases h;kernel_rfl
theorem zoK(L:List Said)(k:Nat)(q:Said)(x1 x2:ByteArray)(h:q.kept=[⟨#[115,101,116]⟩,x1,x2]):insQ L k q=.set (regN x1) (zaI x2).1:=by
 obtain⟨kd,kp,ok⟩:=q;cases h;kernel_rfl
theorem zoL(L:List Said)(k:Nat)(q:Said)(x1 x2:ByteArray)(h:q.kept=[⟨#[109,111,118]⟩,x1,x2]):insQ L k q=.mov (regN x1) (regN x2):=by
 obtain⟨kd,kp,ok⟩:=q;cases h;kernel_rfl
theorem zoM(L:List Said)(k:Nat)(q:Said)(x1 x2 x3:ByteArray)(h:q.kept=[⟨#[97,100,100]⟩,x1,x2,x3]):insQ L k q=.alu 0 (regN x1) (regN x2) (regN x3):=by
 obtain⟨kd,kp,ok⟩:=q;cases h;kernel_rfl
theorem zoN(L:List Said)(k:Nat)(q:Said)(x1 x2 x3:ByteArray)(h:q.kept=[⟨#[115,117,98]⟩,x1,x2,x3]):insQ L k q=.alu 1 (regN x1) (regN x2) (regN x3):=by
 obtain⟨kd,kp,ok⟩:=q;cases h;kernel_rfl
theorem zoO(L:List Said)(k:Nat)(q:Said)(x1 x2 x3:ByteArray)(h:q.kept=[⟨#[109,117,108]⟩,x1,x2,x3]):insQ L k q=.alu 2 (regN x1) (regN x2) (regN x3):=by
 obtain⟨kd,kp,ok⟩:=q;cases h;kernel_rfl
theorem zoP(L:List Said)(k:Nat)(q:Said)(x1 x2:ByteArray)(h:q.kept=[⟨#[105,110,99]⟩,x1,x2]):insQ L k q=.inc (regN x1) (zaI x2).1:=by
 obtain⟨kd,kp,ok⟩:=q;cases h;kernel_rfl
theorem zlP(L:List Said)(k:Nat)(q:Said)(x1 x2:ByteArray)(h:q.kept=[⟨#[108,111,97,100]⟩,x1,x2]):insQ L k q=.load (regN x1) (regN x2):=by
 obtain⟨kd,kp,ok⟩:=q;cases h;kernel_rfl
theorem zjE(L:List Said)(k:Nat)(q:Said)(x1 x2:ByteArray)(h:q.kept=[⟨#[115,116,111,114,101]⟩,x1,x2]):insQ L k q=.store (regN x1) (regN x2):=by
 obtain⟨kd,kp,ok⟩:=q;cases h;kernel_rfl
theorem zlQ(L:List Said)(k:Nat)(q:Said)(x1:ByteArray)(h:q.kept=[⟨#[114,101,97,100]⟩,x1]):insQ L k q=.read (regN x1):=by
 obtain⟨kd,kp,ok⟩:=q;cases h;kernel_rfl
theorem zjF(L:List Said)(k:Nat)(q:Said)(x1:ByteArray)(h:q.kept=[⟨#[119,114,105,116,101]⟩,x1]):insQ L k q=.write (regN x1):=by
 obtain⟨kd,kp,ok⟩:=q;cases h;kernel_rfl
end
end Go.Proofs.YtfpgjkbjbbgciaaGreatDoor
