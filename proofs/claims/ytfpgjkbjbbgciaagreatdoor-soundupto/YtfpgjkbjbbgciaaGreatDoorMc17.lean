import Derived.Test.YtfpgjkbjbbgciaaGreatDoorMc15
set_option maxRecDepth 100000
set_option maxHeartbeats 8000000
namespace Go.Proofs.YtfpgjkbjbbgciaaGreatDoor
open Sp
def zdm (names labs : List ByteArray) (k : Key) : Bool :=
 (zaF k.word && !labs.any (fun y => eqW y k.nm)) || (zcs k.word && !names.any (fun y => eqW y k.nm))
def zaG (names labs : List ByteArray) (b : List Key) : Option Int:=(b.find? (zdm names labs)).map Key.line
def zcA (names : List ByteArray) : List Fn → Option Int
 | [] => none
 | f :: r => match zaG names (zbK f.body) f.body with | some l => some l | none => zcA names r
def endK : List Fn → Option Int
 | [] => none
 | f :: r => if zo2 f.body = true then endK r else some f.line
def zaP : List Fn → List Key → Option Int
 | _,[] => none
 | F,k :: r => if bad0 F k = true then some k.line else zaP (addK F k) r
def zeb (e : Int) (o : Option Int) (c : Int × Int) : Int × Int:=match o with | some l => (e,l) | none => c
theorem zvl (L : List Said) (hw : WfAll L) (i : Nat) (c : Int × Int) : pass L 2 i c = zeb 5 (endK (zaM L i)) c:=by
 by_cases h : i < L.length
 ·have hb : badB L 2 i = (if L[i].kind = 102 then !zdK L (i + 1) false else false):=by
   simp [badB,zaZ,List.getElem?_eq_getElem h]
  by_cases h1 : L[i].kind = 102
  ·rw [if_pos h1,zqR L hw (i + 1) false] at hb
   change badB L 2 i = !zo2 (zan L (i + 1)) at hb
   rw [zbT L i h h1]
   cases he : zo2 (zan L (i + 1)) with
   | true =>
    rw [zbP L 2 i c h (by rw [hb,he]; rfl),zvl L hw (i + 1) c]
    simp [endK,he]
   | false =>
    rw [zdf L 2 i c h (by rw [hb,he]; rfl)]
    simp [endK,he,zeb]
  ·rw [if_neg h1] at hb
   rw [zbP L 2 i c h hb,zbE L i h h1]
   exact zvl L hw (i + 1) c
 ·rw [zdt L 2 i c h,zcK L i h]; rfl
termination_by L.length - i
def NmOk (L : List Said) : Prop:=∀ q ∈ L,q.kind = 105 → (zaF (q.word 0) = true ∨ zcs (q.word 0) = true) → zdy q = q.last
theorem zks (x : ByteArray) (h : zaF x = true) : zcs x = false:=by
 unfold zaF isW at h
 unfold zcs isW
 simp only [Bool.or_eq_true,beq_iff_eq] at h
 rcases h with (h | h) | h <;> rw [h] <;> decide
theorem zkt : zaF ⟨#[]⟩ = false:=by simp [zaF,isW,ByteArray.toList_eq]
theorem zlZ : zcs ⟨#[]⟩ = false:=by simp [zcs,isW,ByteArray.toList_eq]
theorem zvm (L : List Said) (_hw : WfAll L) (hn : NmOk L) (names labs : List ByteArray) (i o : Nat) (h : i < L.length) (ho : zbW L i = (o : Int))
  (hN : ∀ x,names.any (fun y => eqW y x) = decide (0 ≤ zaE L x 0)) (hL : ∀ x,labs.any (fun y => eqW y x) = decide (0 ≤ zaR L x (o + 1))) :
  badB L 1 i = zdm names labs (keyQ L[i] ((i : Int) + 1)):=by
 have e : badB L 1 i = zaD L i:=by simp [badB]
 rw [e]
 unfold zaD
 rw [List.getElem?_eq_getElem h]
 dsimp only
 by_cases h5 : L[i].kind = 105
 ·rw [if_pos h5]
  have hlab : zbM L i L[i].last = zaR L L[i].last (o + 1):=by
   unfold zbM
   rw [ho]
   congr 1
  have ew : zeh L[i] = L[i].word 0:=by simp [zeh,h5]
  unfold zdm keyQ
  dsimp only
  rw [ew,hlab,hN,hL]
  by_cases h1 : zaF (L[i].word 0) = true
  ·rw [if_pos h1,hn _ (List.getElem_mem h) h5 (.inl h1),h1,zks _ h1]
   simp [← Int.not_le]
  ·rw [if_neg h1]
   by_cases h2 : zcs (L[i].word 0) = true
   ·rw [if_pos h2,hn _ (List.getElem_mem h) h5 (.inr h2),h2]
    simp [h1,← Int.not_le]
   ·rw [if_neg h2]
    simp [h1,h2]
 ·rw [if_neg h5]
  have ew : zeh L[i] = ⟨#[]⟩:=by simp [zeh,h5]
  unfold zdm keyQ
  dsimp only
  rw [ew,zkt,zlZ]
  rfl
theorem zek (names labs : List ByteArray) (k : Key) (b : List Key) : zaG names labs (k :: b) = if zdm names labs k = true then some k.line else zaG names labs b:=by
 unfold zaG
 rw [List.find?_cons]
 cases zdm names labs k <;> rfl
theorem ztu (L : List Said) (hw : WfAll L) (hn : NmOk L) (names : List ByteArray) (hN : ∀ x,names.any (fun y => eqW y x) = decide (0 ≤ zaE L x 0)) (c : Int × Int) (i o : Nat) (ho : zbW L i = (o : Int)) (labs : List ByteArray)
  (hL : ∀ x,labs.any (fun y => eqW y x) = decide (0 ≤ zaR L x (o + 1))) :
  pass L 1 (i + 1) c = zeb 4 (match zaG names labs (zan L (i + 1)) with | some l => some l | none => zcA names (zaM L (i + 1))) c:=by
 by_cases h : i + 1 < L.length
 ·by_cases h1 : L[i + 1].kind = 102
  ·have ho':=zfq L (i + 1) h h1
   have hb : badB L 1 (i + 1) = false:=by simp [badB,zaD,List.getElem?_eq_getElem h,h1]
   rw [zbP L 1 (i + 1) c h hb,zcJ L (i + 1) h h1,zbT L (i + 1) h h1,ztu L hw hn names hN c (i + 1) (i + 1) ho' (zbK (zan L (i + 1 + 1))) (fun x => zf2 L (i + 1 + 1) x)]
   rfl
  ·have ho' : zbW L (i + 1) = (o : Int):=(zd6 L i h h1).trans ho
   have hb:=zvm L hw hn names labs (i + 1) o h ho' hN hL
   rw [zbE L (i + 1) h h1]
   by_cases h0 : L[i + 1].kind = 0
   ·have hb : badB L 1 (i + 1) = false:=by simp [badB,zaD,List.getElem?_eq_getElem h,h0]
    rw [zbP L 1 (i + 1) c h hb,zbY L (i + 1) h h0]
    exact ztu L hw hn names hN c (i + 1) o ho' labs hL
   ·rw [zb4 L (i + 1) h h0 h1,zek]
    cases hk : zdm names labs (keyQ L[i + 1] (((i + 1 : Nat) : Int) + 1)) with
    | true => rw [zdf L 1 (i + 1) c h (hb.trans hk)]; rfl
    | false =>
     rw [zbP L 1 (i + 1) c h (hb.trans hk)]
     exact ztu L hw hn names hN c (i + 1) o ho' labs hL
 ·rw [zdt L 1 (i + 1) c h,zcv L _ h,zcK L _ h]; rfl
termination_by L.length - i
end Go.Proofs.YtfpgjkbjbbgciaaGreatDoor
namespace Go.Proofs.YtfpgjkbjbbgciaaGreatDoor
open Go.RowKit Sp
theorem ztC (w : World) (b wb cap r s t : Nat) (lv bv iv ov : Value) (m : Mc) (x1 x2 x3 : ByteArray) (h : RefM w b lv bv iv ov m) (hw : WdIn w wb [⟨#[109,117,108]⟩,x1,x2,x3]) (_hne : ¬ wb = b) (hr : r < 8) (hreg : reg x1 = (r : Int)) (hs : s < 8) (hreg2 : reg x2 = (s : Int)) (ht : t < 8) (hreg3 : reg x3 = (t : Int)) (hx1 : x1.size ≤ 1048576) (hx2 : x2.size ≤ 1048576) (hx3 : x3.size ≤ 1048576) :
  Calls Tryz.prog 90 #[.pointer (some ⟨b,0,none⟩),.slice (some ⟨wb,0,none⟩) 4 cap] w fun e w' => e = .returned (.tuple #[]) ∧ RefM w' b lv bv iv ov { m with regs:=upd m.regs r (zbv 2 (m.regs s) (m.regs t)) } ∧ w.grownBy w' (some b):=by
 have c0:=hw 0 (by simp)
 have c1:=hw 1 (by simp)
 have c2:=hw 2 (by simp)
 have c3:=hw 3 (by simp)
 simp only [List.getElem_cons_zero,List.getElem_cons_succ] at c0 c1 c2 c3
 have hcr:=h.cR r hr
 have hfz:=h.fz (5 + r)
 have hr0 : (0 : Int) ≤ (r : Int):=by omega
 have hr8 : (r : Int) < 8:=by omega
 have g1:=zal x1 r hreg hx1
 have hcs:=h.cR s hs
 have hs0 : (0 : Int) ≤ (s : Int):=by omega
 have hs8 : (s : Int) < 8:=by omega
 have hct:=h.cR t ht
 have ht0 : (0 : Int) ≤ (t : Int):=by omega
 have ht8 : (t : Int) < 8:=by omega
 have g2:=zal x2 s hreg2 hx2
 have g3:=zal x3 t hreg3 hx3
 have g4:=fun W => zoK (m.regs s) (m.regs t) W
 generalize zbv 2 (m.regs s) (m.regs t) = v at g4 ⊢
 go_enter Tryz.func90,Tryz.ntmps90
 go_wp2_with (first | (go_at_call 75; refine (g1 _).mono ?_; rintro e wx ⟨rfl,hww⟩; have hw2:=hww.symm; subst hw2))
 refine zdg 30 (by kernel_rfl) (by kernel_rfl) ?_
 simp only [List.take_succ_cons,List.take_zero,List.drop_succ_cons,List.drop_zero]
 repeat (go_big_quiet_step (first | (go_at_call 111; exact Calls.quiet_of_same (g4 _)) | (go_at_call_of 75 (Value.string x2); exact Calls.quiet_of_same (g2 _)) | (go_at_call_of 75 (Value.string x3); exact Calls.quiet_of_same (g3 _))))
 refine wpQuiet_nil ?_
 rintro _ ⟨nq,rfl⟩
 go_wp2
 go_end0
 exact ⟨rfl,(h.drewN nq).setR r hr _,zae (zbf _ _)⟩
end Go.Proofs.YtfpgjkbjbbgciaaGreatDoor
namespace Go.Proofs.YtfpgjkbjbbgciaaGreatDoor
section
variable {P : Program} {ops : Array Oper} {C : World → Prop}
theorem zad {id : Nat} {Q : Exit → Act → World → Prop} {a : Act} {w : World} {l : List Oper} (n : Nat) (C : World → Prop) (hC : C (w.drewN 1)) (hm : P.follows .mixedOrders = true) (hB : Region.lexTailB .any l.toArray n = true)
  (h : wpQuiet P l.toArray C (fun a' => ∀ w',C w' → wpList P l.toArray Q (l.drop n) a' w') (l.take n) a) : (Code.region id l.toArray true).wp P Q a w:=by
 simp only [Region.lexTailB,Bool.and_eq_true,decide_eq_true_eq] at hB
 obtain ⟨⟨⟨⟨hsel,hn⟩,hs⟩,hc⟩,hlex⟩:=hB
 have hn' : n < l.length:=by simpa using hn
 have htl : (l.take n).length = n:=by simp; omega
 have hdl : (l.drop n).length = l.toArray.size - n:=by simp
 have inv0 : HeadInv .any l.toArray n (Array.replicate l.toArray.size false) :=
  ⟨by simp,fun j oj _ hl => (by rw [getD_replicate_false] at hl; cases hl),fun t _ ht => getD_in (by simpa using ht) (getD_replicate_false _ _)⟩
 have H:=znr (md:=.any) (g:=l.toArray.size - n) hsel hs hc hn (l.take n) 0 _ a (fun j hj => by
  have : j < n:=by rw [htl] at hj; exact hj
  simp [this]) (by simpa using htl) inv0 (by rw [htl]; exact hlex) h
 refine wp_region_any hm ?_
 have:=zhq (Q:=Q) (g:=l.toArray.size - n) (fun listed a' w' hw' hL => by
  have:=wpAny_of_seq (md:=.any) (Q':=Q) (l.drop n) n listed a' w' (fun j => by simp [List.getElem?_drop]) (by rw [hdl]; exact hL.1) (hL.2 w' hw')
  rwa [hdl] at this) _ _ _ _ hC H
 rw [htl,show n + (l.toArray.size - n) = l.toArray.size by omega] at this
 exact this
theorem zab {Q : Act → Prop} {o : Oper} {rest : List Oper} {a : Act} (hg : o.guard = none) (v : Value) (h : ∀ W,C W → (execOp a.eval o).run P W = .ok (.value v) W) (hK : wpQuiet P ops C Q rest (a.put o.dst v)) : wpQuiet P ops C Q (o :: rest) a:=by
 have hw : Region.wanted o (yielded ops a.tmps) = true:=by simp [Region.wanted,hg]
 unfold wpQuiet
 rw [if_pos hw]
 refine ⟨v,fun W hW => ?_,hK⟩
 unfold Oper.quietAt
 rw [h W hW]
 exact ⟨rfl,rfl⟩
theorem zaI {Q : Act → Prop} {o : Oper} {rest : List Oper} {a : Act} (hg : o.guard = none) (f : FuncId) (args : Array Value) (v : Value) (h : ∀ W,C W → (execOp a.eval o).run P W = .ok (.enter f args) W) (hc : ∀ W,C W → Calls P f args W fun e w'' => e = .returned v ∧ C w'') (hK : wpQuiet P ops C Q rest (a.put o.dst v)) : wpQuiet P ops C Q (o :: rest) a:=by
 have hw : Region.wanted o (yielded ops a.tmps) = true:=by simp [Region.wanted,hg]
 unfold wpQuiet
 rw [if_pos hw]
 refine ⟨v,fun W hW => ?_,hK⟩
 unfold Oper.quietAt
 rw [h W hW]
 exact ⟨rfl,hc W hW⟩
end
end Go.Proofs.YtfpgjkbjbbgciaaGreatDoor
namespace Go.Proofs.YtfpgjkbjbbgciaaGreatDoor
open Go.RowKit Sp
theorem zk7 (f : Nat → Int) (i : Nat) (a b : Int) : upd (upd f i a) i b = upd f i b:=by
 funext j
 unfold upd
 split <;> rfl
theorem zau {a b c : World} {q : Option Nat} (h : a.grownBy b q) (k : b.grownBy c q) : a.grownBy c q :=
 ⟨k.os.trans h.os,k.tape.trans h.tape,k.output.trans h.output,Nat.le_trans h.size k.size,fun i hi hne => (k.block i (Nat.lt_of_lt_of_le hi h.size) hne).trans (h.block i hi hne)⟩
theorem zk8 (w : World) (b wb cap r s n : Nat) (lv bv iv ov : Value) (m : Mc) (x1 x2 : ByteArray) (h : RefM w b lv bv iv ov m) (hw : WdIn w wb [⟨#[108,111,97,100]⟩,x1,x2]) (_hne : ¬ wb = b) (hr : r < 8) (hreg : reg x1 = (r : Int)) (hs : s < 8) (hreg2 : reg x2 = (s : Int)) (hn : m.regs s = (n : Int)) (hn16 : n < 16) (hx1 : x1.size ≤ 1048576) (hx2 : x2.size ≤ 1048576) :
  Calls Tryz.prog 90 #[.pointer (some ⟨b,0,none⟩),.slice (some ⟨wb,0,none⟩) 3 cap] w fun e w' => e = .returned (.tuple #[]) ∧ RefM w' b lv bv iv ov { m with regs:=upd m.regs r (m.cells n) } ∧ w.grownBy w' (some b):=by
 have c0:=hw 0 (by simp)
 have c1:=hw 1 (by simp)
 have c2:=hw 2 (by simp)
 simp only [List.getElem_cons_zero,List.getElem_cons_succ] at c0 c1 c2
 have hcr:=h.cR r hr
 have hfz:=h.fz (5 + r)
 have hr0 : (0 : Int) ≤ (r : Int):=by omega
 have hr8 : (r : Int) < 8:=by omega
 have g1:=zal x1 r hreg hx1
 have hcc:=h.cC n hn16
 have hn0 : (0 : Int) ≤ (n : Int):=by omega
 have hn1 : (n : Int) < 16:=by omega
 have g2:=zrg w b s n lv bv iv ov m x2 h hs hreg2 hx2 hn hn16
 clear hn
 go_enter Tryz.func90,Tryz.ntmps90
 go_wp2_with (first | (go_at_call 75; refine (g1 _).mono ?_; rintro e wx ⟨rfl,hww⟩; have hw2:=hww.symm; subst hw2) | (go_at_call 112; refine g2.mono ?_; rintro e wx ⟨rfl,k,rfl⟩))
 go_region
 all_goals go_wp2
 all_goals go_end0
 all_goals first | exact ⟨rfl,(h.drewN (k + 1)).setR r hr _,zae (zbf _ _)⟩ | exact ⟨rfl,((h.drewN k).setR r hr _).drew,zbk (zae (zbf _ _))⟩
theorem zjs (w : World) (b wb cap r s : Nat) (lv bv iv ov : Value) (m : Mc) (x1 x2 : ByteArray) (h : RefM w b lv bv iv ov m) (hw : WdIn w wb [⟨#[108,111,97,100]⟩,x1,x2]) (_hne : ¬ wb = b) (hr : r < 8) (hreg : reg x1 = (r : Int)) (hs : s < 8) (hreg2 : reg x2 = (s : Int)) (hn : m.regs s < 0 ∨ 15 < m.regs s) (hx1 : x1.size ≤ 1048576) (hx2 : x2.size ≤ 1048576) :
  Calls Tryz.prog 90 #[.pointer (some ⟨b,0,none⟩),.slice (some ⟨wb,0,none⟩) 3 cap] w fun e w' => e = .returned (.tuple #[]) ∧ RefM w' b lv bv iv ov { m with fin:=3 } ∧ w.grownBy w' (some b):=by
 have c0:=hw 0 (by simp)
 have c1:=hw 1 (by simp)
 have c2:=hw 2 (by simp)
 simp only [List.getElem_cons_zero,List.getElem_cons_succ] at c0 c1 c2
 have hcr:=h.cR r hr
 have hfz:=h.fz (5 + r)
 have hr0 : (0 : Int) ≤ (r : Int):=by omega
 have hr8 : (r : Int) < 8:=by omega
 have g1:=zal x1 r hreg hx1
 have g2:=znq w b s lv bv iv ov m x2 h hs hreg2 hx2 hn
 clear hn
 go_enter Tryz.func90,Tryz.ntmps90
 go_wp2_with (first | (go_at_call 75; refine (g1 _).mono ?_; rintro e wx ⟨rfl,hww⟩; have hw2:=hww.symm; subst hw2) | (go_at_call 112; refine g2.mono ?_; rintro e wx ⟨rfl,hM,hg⟩))
 go_end0
 exact ⟨rfl,hM,hg⟩
theorem zjt (w : World) (b wb cap r s n : Nat) (lv bv iv ov : Value) (m : Mc) (x1 x2 : ByteArray) (h : RefM w b lv bv iv ov m) (hw : WdIn w wb [⟨#[115,116,111,114,101]⟩,x1,x2]) (_hne : ¬ wb = b) (hr : r < 8) (hreg : reg x1 = (r : Int)) (hs : s < 8) (hreg2 : reg x2 = (s : Int)) (hn : m.regs r = (n : Int)) (hn16 : n < 16) (hx1 : x1.size ≤ 1048576) (hx2 : x2.size ≤ 1048576) :
  Calls Tryz.prog 90 #[.pointer (some ⟨b,0,none⟩),.slice (some ⟨wb,0,none⟩) 3 cap] w fun e w' => e = .returned (.tuple #[]) ∧ RefM w' b lv bv iv ov { m with cells:=upd m.cells n (m.regs s) } ∧ w.grownBy w' (some b):=by
 have c0:=hw 0 (by simp)
 have c1:=hw 1 (by simp)
 have c2:=hw 2 (by simp)
 simp only [List.getElem_cons_zero,List.getElem_cons_succ] at c0 c1 c2
 have hcr:=h.cR r hr
 have hfz:=h.fz (5 + r)
 have hr0 : (0 : Int) ≤ (r : Int):=by omega
 have hr8 : (r : Int) < 8:=by omega
 have g1:=zal x1 r hreg hx1
 have hcc:=h.cC n hn16
 have hfc:=h.fz (13 + n)
 have hcs:=h.cR s hs
 have hs0 : (0 : Int) ≤ (s : Int):=by omega
 have hs8 : (s : Int) < 8:=by omega
 have hn0 : (0 : Int) ≤ (n : Int):=by omega
 have hn1 : (n : Int) < 16:=by omega
 have g2:=zrg w b r n lv bv iv ov m x1 h hr hreg hx1 hn hn16
 have g3:=zal x2 s hreg2 hx2
 clear hn hcr
 go_enter Tryz.func90,Tryz.ntmps90
 go_wp2_with (first | (go_at_call 75; refine (g1 _).mono ?_; rintro e wx ⟨rfl,hww⟩; have hw2:=hww.symm; subst hw2) | (go_at_call 112; refine g2.mono ?_; rintro e wx ⟨rfl,k,rfl⟩))
 go_region_with (go_at_call 75; refine (g3 _).mono ?_; rintro e wx ⟨rfl,hww⟩; have hw2:=hww.symm; subst hw2)
 all_goals go_wp2
 all_goals go_end0
 all_goals first | exact ⟨rfl,(h.drewN (k + 1)).setC n hn16 _,zae (zbf _ _)⟩ | exact ⟨rfl,((h.drewN k).setC n hn16 _).drew,zbk (zae (zbf _ _))⟩
theorem zia (w : World) (b wb cap r : Nat) (lv bv iv ov : Value) (m : Mc) (x1 x2 : ByteArray) (h : RefM w b lv bv iv ov m) (hw : WdIn w wb [⟨#[115,116,111,114,101]⟩,x1,x2]) (_hne : ¬ wb = b) (hr : r < 8) (hreg : reg x1 = (r : Int)) (hn : m.regs r < 0 ∨ 15 < m.regs r) (hx1 : x1.size ≤ 1048576) (_hx2 : x2.size ≤ 1048576) :
  Calls Tryz.prog 90 #[.pointer (some ⟨b,0,none⟩),.slice (some ⟨wb,0,none⟩) 3 cap] w fun e w' => e = .returned (.tuple #[]) ∧ RefM w' b lv bv iv ov { m with fin:=3 } ∧ w.grownBy w' (some b):=by
 have c0:=hw 0 (by simp)
 have c1:=hw 1 (by simp)
 have c2:=hw 2 (by simp)
 simp only [List.getElem_cons_zero,List.getElem_cons_succ] at c0 c1 c2
 have hcr:=h.cR r hr
 have hfz:=h.fz (5 + r)
 have hr0 : (0 : Int) ≤ (r : Int):=by omega
 have hr8 : (r : Int) < 8:=by omega
 have g1:=zal x1 r hreg hx1
 have g2:=znq w b r lv bv iv ov m x1 h hr hreg hx1 hn
 clear hn hcr
 go_enter Tryz.func90,Tryz.ntmps90
 go_wp2_with (first | (go_at_call 75; refine (g1 _).mono ?_; rintro e wx ⟨rfl,hww⟩; have hw2:=hww.symm; subst hw2) | (go_at_call 112; refine g2.mono ?_; rintro e wx ⟨rfl,hM,hg⟩))
 go_end0
 exact ⟨rfl,hM,hg⟩
theorem zib (w : World) (b wb cap r : Nat) (lv bv iv ov : Value) (m : Mc) (x1 : ByteArray) (h : RefM w b lv bv iv ov m) (hw : WdIn w wb [⟨#[114,101,97,100]⟩,x1]) (_hne : ¬ wb = b) (hr : r < 8) (hreg : reg x1 = (r : Int)) (ao : Option Addr) (icap : Nat) (hiv : iv = .slice ao 0 icap) (hx1 : x1.size ≤ 1048576) :
  Calls Tryz.prog 90 #[.pointer (some ⟨b,0,none⟩),.slice (some ⟨wb,0,none⟩) 2 cap] w fun e w' => e = .returned (.tuple #[]) ∧ RefM w' b lv bv iv ov { m with regs:=upd m.regs r 0 } ∧ w.grownBy w' (some b):=by
 have c0:=hw 0 (by simp)
 have c1:=hw 1 (by simp)
 simp only [List.getElem_cons_zero,List.getElem_cons_succ] at c0 c1
 have hcr:=h.cR r hr
 have hfz:=h.fz (5 + r)
 have hr0 : (0 : Int) ≤ (r : Int):=by omega
 have hr8 : (r : Int) < 8:=by omega
 have g1:=zal x1 r hreg hx1
 have hci:=h.cI
 rw [hiv] at hci
 go_enter Tryz.func90,Tryz.ntmps90
 go_wp2_with (first | (go_at_call 75; refine (g1 _).mono ?_; rintro e wx ⟨rfl,hww⟩; have hw2:=hww.symm; subst hw2))
 go_end0
 exact ⟨rfl,h.setR r hr _,zae (Below.refl _ _)⟩
theorem zic (w : World) (b wb cap r g o icap n : Nat) (lv bv iv ov : Value) (m : Mc) (x1 : ByteArray) (h : RefM w b lv bv iv ov m) (hw : WdIn w wb [⟨#[114,101,97,100]⟩,x1]) (_hne : ¬ wb = b) (hr : r < 8) (hreg : reg x1 = (r : Int)) (v : Int) (l : List Int) (hiv : iv = .slice (some ⟨g,o,none⟩) (n + 1) icap) (hcg : w.cell? ⟨g,o,none⟩ = some (.int .i64 v)) (hgb : ¬ g = b) (hic : n + 1 ≤ icap) (hn : n ≤ 1048576) (hx1 : x1.size ≤ 1048576) :
  Calls Tryz.prog 90 #[.pointer (some ⟨b,0,none⟩),.slice (some ⟨wb,0,none⟩) 2 cap] w fun e w' => e = .returned (.tuple #[]) ∧ (∃ o',RefM w' b lv bv (.slice (some ⟨g,o',none⟩) n (icap - 1)) ov { m with regs:=upd m.regs r v,inp:=l } ∧ (n = 0 ∨ o' = o + 1)) ∧ w.grownBy w' (some b):=by
 have c0:=hw 0 (by simp)
 have c1:=hw 1 (by simp)
 simp only [List.getElem_cons_zero,List.getElem_cons_succ] at c0 c1
 have hcr:=h.cR r hr
 have hfz:=h.fz (5 + r)
 have hr0 : (0 : Int) ≤ (r : Int):=by omega
 have hr8 : (r : Int) < 8:=by omega
 have g1:=zal x1 r hreg hx1
 have hci:=h.cI
 rw [hiv] at hci
 have hfi:=h.fz 3
 have hbg : ¬ b = g:=fun e => hgb e.symm
 have h0:=h
 go_enter Tryz.func90,Tryz.ntmps90
 go_wp2_with (first | (go_at_call 75; refine (g1 _).mono ?_; rintro e wx ⟨rfl,hww⟩; have hw2:=hww.symm; subst hw2))
 go_region
 all_goals go_wp2
 all_goals go_end0
 ·have hR:=((h0.setR r hr 0).setR r hr v).setI (.slice (some ⟨g,o,none⟩) n 0) l
  rw [zk7] at hR
  exact ⟨rfl,⟨o,hR.drew,.inl (by omega)⟩,zbk (zau (zau (zae (Below.refl _ _)) (zae (Below.refl _ _))) (zae (Below.refl _ _)))⟩
 ·have hR:=((h0.setR r hr 0).setR r hr v).setI (.slice (some ⟨g,o + 1,none⟩) n (icap - 1)) l
  rw [zk7] at hR
  exact ⟨rfl,⟨o + 1,hR.drew,.inr rfl⟩,zbk (zau (zau (zae (Below.refl _ _)) (zae (Below.refl _ _))) (zae (Below.refl _ _)))⟩
end Go.Proofs.YtfpgjkbjbbgciaaGreatDoor
