import Derived.Test.YtfpgjkbjbbgciaaGreatDoorMe33
set_option maxRecDepth 100000
set_option maxHeartbeats 8000000
namespace Go.Proofs.YtfpgjkbjbbgciaaGreatDoor
open Go.RowKit Sp
theorem zj4 (a b : Int) (w : World) : Calls Tryz.prog 170 #[.int .i64 a,.int .i64 b] w fun e w' => e = .returned (.int .i64 (cmpI a b)) ∧ w' = w:=by
 by_cases h : a < b
 ·have e0 : cmpI a b = -1:=if_pos h
  rw [e0]
  go_enter Tryz.func170,Tryz.ntmps170
  go_wp2
  go_ret
  exact ⟨rfl,rfl⟩
 ·have hd : decide (a < b) = false:=by simpa using h
  by_cases h2 : b < a
  ·have e0 : cmpI a b = 1:=(if_neg h).trans (if_pos h2)
   rw [e0]
   go_enter Tryz.func170,Tryz.ntmps170
   go_wp2
   go_ret
   exact ⟨rfl,rfl⟩
  ·have hd2 : decide (b < a) = false:=by simpa using h2
   have e0 : cmpI a b = 0:=(if_neg h).trans (if_neg h2)
   rw [e0]
   go_enter Tryz.func170,Tryz.ntmps170
   go_wp2
   go_ret
   exact ⟨rfl,rfl⟩
def AgreeTo (xs ys : List Int) (j : Nat) : Prop:=∀ i : Nat,i < j → xs[i]? = ys[i]?
theorem AgreeTo.all {xs ys : List Int} {j : Nat} (h : AgreeTo xs ys j) (h1 : j = xs.length) (h2 : j = ys.length) : xs = ys:=by
 apply List.ext_getElem?
 intro i
 by_cases hi : i < j
 ·exact h i hi
 ·rw [List.getElem?_eq_none (by omega),List.getElem?_eq_none (by omega)]
theorem AgreeTo.succ {xs ys : List Int} {j : Nat} (h : AgreeTo xs ys j) (e : xs[j]? = ys[j]?) : AgreeTo xs ys (j + 1):=fun i hi => by
 by_cases e2 : i = j
 ·rw [e2]; exact e
 ·exact h i (by omega)
theorem AgreeTo.cmp {xs ys : List Int} {j : Nat} (h : AgreeTo xs ys j) (h1 : j ≤ xs.length) (h2 : j ≤ ys.length) : cmpL xs ys = cmpL (xs.drop j) (ys.drop j):=by
 induction j generalizing xs ys with
 | zero => rfl
 | succ j ih =>
  cases xs with
  | nil => simp at h1
  | cons a x =>
   cases ys with
   | nil => simp at h2
   | cons b y =>
    have e : a = b:=by have:=h 0 (by omega); simpa using this
    subst e
    show (if cmpI a a = 0 then cmpL x y else cmpI a a) = cmpL (x.drop j) (y.drop j)
    rw [if_pos (zkT a)]
    exact ih (fun i hi => by have:=h (i + 1) (by omega); simpa using this) (by simpa using h1) (by simpa using h2)
theorem AgreeTo.end1 {xs ys : List Int} {j : Nat} (h : AgreeTo xs ys j) (h1 : j = xs.length) (h2 : j < ys.length) : cmpL xs ys = -1:=by
 rw [h.cmp (by omega) (by omega),List.drop_of_length_le (by omega)]
 cases hd : ys.drop j with
 | nil => have:=congrArg List.length hd; simp at this; omega
 | cons b y => rfl
theorem AgreeTo.end2 {xs ys : List Int} {j : Nat} (h : AgreeTo xs ys j) (h1 : j < xs.length) (h2 : j = ys.length) : cmpL xs ys = 1:=by
 rw [h.cmp (by omega) (by omega),List.drop_of_length_le (l:=ys) (by omega)]
 cases hd : xs.drop j with
 | nil => have:=congrArg List.length hd; simp at this; omega
 | cons b y => rfl
theorem AgreeTo.end3 {xs ys : List Int} {j : Nat} (h : AgreeTo xs ys j) (h1 : j < xs.length) (h2 : j < ys.length) (hc : ¬ cmpI xs[j] ys[j] = 0) : cmpL xs ys = cmpI xs[j] ys[j]:=by
 rw [h.cmp (by omega) (by omega),List.drop_eq_getElem_cons h1,List.drop_eq_getElem_cons h2]
 show (if cmpI xs[j] ys[j] = 0 then _ else _) = _
 rw [if_neg hc]
theorem BhM.addr {w : World} {ao : Option Addr} {cap : Nat} {l : List Int} (h : BhM w ao cap l) (hl : 0 < l.length) : ∃ g,ao = some ⟨g,0,none⟩:=by
 cases ao with
 | none => obtain ⟨e,_⟩:=h.nil rfl; rw [e] at hl; simp at hl
 | some a => obtain ⟨g,rfl⟩:=h.at0 a rfl; exact ⟨g,rfl⟩
theorem zkV {w : World} (a1 a2 : Option Addr) (c1 c2 : Nat) (xs ys : List Int) (h1 : BhM w a1 c1 xs) (h2 : BhM w a2 c2 ys) : Calls Tryz.prog 171 #[.slice a1 xs.length c1,.slice a2 ys.length c2] w fun e w' => e = .returned (.int .i64 (cmpL xs ys)) ∧ Below w.heap.size w w':=by
 have l1:=h1.len
 have l2:=h2.len
 go_enter Tryz.func171,Tryz.ntmps171
 go_wp2
 go_loopw [11] (fun ti wr => ∃ j : Nat,j ≤ xs.length ∧ j ≤ ys.length ∧ ti = .int .i64 (j : Int) ∧ AgreeTo xs ys j ∧ Below w.heap.size w wr) (fun ti _ => xs.length - (intOf ti).toNat)
 case atStart => exact ⟨0,by omega,by omega,rfl,fun i hi => absurd hi (by omega),Below.refl _ _⟩
 case round =>
  obtain ⟨j,hj,hj2,rfl,hA,hb⟩:=hrel
  have B1:=h1.below hb
  have B2:=h2.below hb
  have hj0 : (0 : Int) ≤ (j : Int):=by omega
  by_cases hx : j < xs.length
  ·have hx1 : (j : Int) < (xs.length : Int):=by omega
   obtain ⟨g1,rfl⟩:=B1.addr (by omega)
   have d1:=(B1.cell g1 rfl).2 j xs[j] (List.getElem?_eq_getElem hx)
   by_cases hy : j < ys.length
   ·have hy1 : (j : Int) < (ys.length : Int):=by omega
    have hy2 : decide ((ys.length : Int) ≤ (j : Int)) = false:=by simpa using hy
    obtain ⟨g2,rfl⟩:=B2.addr (by omega)
    have d2:=(B2.cell g2 rfl).2 j ys[j] (List.getElem?_eq_getElem hy)
    by_cases hc : cmpI xs[j] ys[j] = 0
    ·have hcmp:=zj4 xs[j] ys[j]
     rw [hc] at hcmp
     go_wp2_with (go_at_call 170; (with_reducible refine (hcmp _).mono ?_); rintro e wx ⟨rfl,hww⟩; have hw2:=hww.symm; subst hw2)
     exact ⟨⟨j + 1,by omega,by omega,by go_num,hA.succ (by rw [List.getElem?_eq_getElem hx,List.getElem?_eq_getElem hy,zf0 hc]),hb⟩,by simp [intOf]; omega⟩
    ·have hcmp:=zj4 xs[j] ys[j]
     have he : Hid (cmpL xs ys = cmpI xs[j] ys[j]):=hA.end3 hx hy hc
     generalize cmpI xs[j] ys[j] = c at hc hcmp he
     have hc2 : (c != 0) = true:=by simpa using hc
     go_wp2_with (go_at_call 170; (with_reducible refine (hcmp _).mono ?_); rintro e wx ⟨rfl,hww⟩; have hw2:=hww.symm; subst hw2)
     go_ret
     exact ⟨by rw [he.out]; rfl,hb⟩
   ·have hy2 : (ys.length : Int) ≤ (j : Int):=by omega
    have he : Hid (cmpL xs ys = 1):=hA.end2 hx (by omega)
    go_wp2
    go_ret
    exact ⟨by rw [he.out]; rfl,hb⟩
  ·have hx2 : decide ((j : Int) < (xs.length : Int)) = false:=by simpa using hx
   by_cases hl : xs.length < ys.length
   ·have hl2 : (xs.length : Int) < (ys.length : Int):=by omega
    have he : Hid (cmpL xs ys = -1):=hA.end1 (by omega) (by omega)
    go_wp2
    go_ret
    exact ⟨by rw [he.out]; rfl,hb⟩
   ·have hl2 : decide ((xs.length : Int) < (ys.length : Int)) = false:=by simpa using hl
    have he : Hid (cmpL xs ys = 0):=by rw [hA.all (by omega) (by omega)]; exact zkU _
    go_wp2
    go_ret
    exact ⟨by rw [he.out]; rfl,hb⟩
def zfc (w : World) (k o : Kn) : Ending → World → Prop:=fun e w' => e = .returned (.int .i64 (cmpK k o)) ∧ Below w.heap.size w w'
theorem zgw {w : World} {b c b1 c1 : Nat} {a1 a2 : Option Addr} {k o : Kn} (h : KnM w b (.slice a1 k.behind.length b1) k) (h2 : KnM w c (.slice a2 o.behind.length c1) o) (B1 : BhM w a1 b1 k.behind) (B2 : BhM w a2 c1 o.behind) : Calls Tryz.prog 155 #[.pointer (some ⟨b,0,none⟩),.pointer (some ⟨c,0,none⟩)] w (zfc w k o):=by
 have HF : ∀ W,Below w.heap.size w W → W.cell? ⟨b,50,none⟩ = some (.int .i64 k.steps) ∧ W.cell? ⟨c,50,none⟩ = some (.int .i64 o.steps) ∧ W.cell? ⟨b,48,none⟩ = some (.int .i64 k.next) ∧ W.cell? ⟨c,48,none⟩ = some (.int .i64 o.next) ∧ W.cell? ⟨b,49,none⟩ = some (.slice a1 k.behind.length b1) ∧ W.cell? ⟨c,49,none⟩ = some (.slice a2 o.behind.length c1):=fun W hW => by
  have k1:=h.below hW h.lt
  have k2:=h2.below hW h2.lt
  exact ⟨k1.cS,k2.cS,k1.cN,k2.cN,k1.cB,k2.cB⟩
 by_cases e1 : k.steps = o.steps
 ·have t1 : (k.steps != o.steps) = false:=by simpa using e1
  by_cases e2 : k.next = o.next
  ·have e0 : cmpK k o = cmpL k.behind o.behind:=(if_pos e1).trans (if_pos e2)
   rw [show zfc w k o = fun e w' => e = .returned (.int .i64 (cmpL k.behind o.behind)) ∧ Below w.heap.size w w' by unfold zfc; rw [e0]]
   have t2 : (k.next != o.next) = false:=by simpa using e2
   go_enter Tryz.func155,Tryz.ntmps155
   go_wp2
   refine zac 8 (fun W => Below w.heap.size w W) ((Below.refl _ _).drew) (by kernel_rfl) (by kernel_rfl) ?_
   simp only [List.take_succ_cons,List.take_zero,List.drop_succ_cons,List.drop_zero]
   repeat (refine zab rfl ?_ (fun W hW => ?_) ?_; rotate_left 1; · (obtain ⟨f1,f2,f3,f4,f5,f6⟩:=HF W hW; go_simp; with_reducible rfl))
   refine wpQuiet_nil ?_
   intro W1 hW1
   go_wp2
   refine zac 8 (fun W => Below w.heap.size w W) (hW1.drew) (by kernel_rfl) (by kernel_rfl) ?_
   simp only [List.take_succ_cons,List.take_zero,List.drop_succ_cons,List.drop_zero]
   repeat (refine zab rfl ?_ (fun W hW => ?_) ?_; rotate_left 1; · (obtain ⟨f1,f2,f3,f4,f5,f6⟩:=HF W hW; go_simp; with_reducible rfl))
   refine wpQuiet_nil ?_
   intro W2 hW2
   go_wp2
   refine zac 8 (fun W => Below w.heap.size w W) (hW2.drew) (by kernel_rfl) (by kernel_rfl) ?_
   simp only [List.take_succ_cons,List.take_zero,List.drop_succ_cons,List.drop_zero]
   repeat (refine zab rfl ?_ (fun W hW => ?_) ?_; rotate_left 1; · (obtain ⟨f1,f2,f3,f4,f5,f6⟩:=HF W hW; go_simp; with_reducible rfl))
   refine wpQuiet_nil ?_
   intro W3 hW3
   have hsc:=zkV a1 a2 b1 c1 k.behind o.behind (B1.below hW3) (B2.below hW3)
   go_wp2_with (go_at_call 171; (with_reducible refine hsc.mono ?_); rintro e wx ⟨rfl,hbx⟩)
   go_ret
   exact ⟨rfl,hW3.trans (hbx.mono hW3.size)⟩
  ·have e0 : cmpK k o = cmpI k.next o.next:=(if_pos e1).trans (if_neg e2)
   rw [show zfc w k o = fun e w' => e = .returned (.int .i64 (cmpI k.next o.next)) ∧ Below w.heap.size w w' by unfold zfc; rw [e0]]
   have t2 : (k.next != o.next) = true:=by simpa using e2
   go_enter Tryz.func155,Tryz.ntmps155
   go_wp2
   refine zac 8 (fun W => Below w.heap.size w W) ((Below.refl _ _).drew) (by kernel_rfl) (by kernel_rfl) ?_
   simp only [List.take_succ_cons,List.take_zero,List.drop_succ_cons,List.drop_zero]
   repeat (refine zab rfl ?_ (fun W hW => ?_) ?_; rotate_left 1; · (obtain ⟨f1,f2,f3,f4,f5,f6⟩:=HF W hW; go_simp; with_reducible rfl))
   refine wpQuiet_nil ?_
   intro W1 hW1
   go_wp2
   refine zac 8 (fun W => Below w.heap.size w W) (hW1.drew) (by kernel_rfl) (by kernel_rfl) ?_
   simp only [List.take_succ_cons,List.take_zero,List.drop_succ_cons,List.drop_zero]
   repeat (refine zab rfl ?_ (fun W hW => ?_) ?_; rotate_left 1; · (obtain ⟨f1,f2,f3,f4,f5,f6⟩:=HF W hW; go_simp; with_reducible rfl))
   refine wpQuiet_nil ?_
   intro W2 hW2
   go_wp2
   refine zac 9 (fun W => Below w.heap.size w W) (hW2.drew) (by kernel_rfl) (by kernel_rfl) ?_
   simp only [List.take_succ_cons,List.take_zero,List.drop_succ_cons,List.drop_zero]
   repeat (refine zab rfl ?_ (fun W hW => ?_) ?_; rotate_left 1; · (obtain ⟨f1,f2,f3,f4,f5,f6⟩:=HF W hW; go_simp; with_reducible rfl))
   refine zaK rfl 170 #[.int .i64 k.next,.int .i64 o.next] (.int .i64 (cmpI k.next o.next)) (fun W hW => ?_) (fun W hW => (zj4 _ _ W).mono (fun e w' hh => ⟨hh.1,by rw [hh.2]; exact hW⟩)) ?_
   ·go_simp
   refine wpQuiet_nil ?_
   intro W3 hW3
   go_wp2
   go_ret
   exact ⟨rfl,hW3⟩
 ·have e0 : cmpK k o = cmpI k.steps o.steps:=if_neg e1
  rw [show zfc w k o = fun e w' => e = .returned (.int .i64 (cmpI k.steps o.steps)) ∧ Below w.heap.size w w' by unfold zfc; rw [e0]]
  have t1 : (k.steps != o.steps) = true:=by simpa using e1
  go_enter Tryz.func155,Tryz.ntmps155
  go_wp2
  refine zac 8 (fun W => Below w.heap.size w W) ((Below.refl _ _).drew) (by kernel_rfl) (by kernel_rfl) ?_
  simp only [List.take_succ_cons,List.take_zero,List.drop_succ_cons,List.drop_zero]
  repeat (refine zab rfl ?_ (fun W hW => ?_) ?_; rotate_left 1; · (obtain ⟨f1,f2,f3,f4,f5,f6⟩:=HF W hW; go_simp; with_reducible rfl))
  refine wpQuiet_nil ?_
  intro W1 hW1
  go_wp2
  refine zac 9 (fun W => Below w.heap.size w W) (hW1.drew) (by kernel_rfl) (by kernel_rfl) ?_
  simp only [List.take_succ_cons,List.take_zero,List.drop_succ_cons,List.drop_zero]
  repeat (refine zab rfl ?_ (fun W hW => ?_) ?_; rotate_left 1; · (obtain ⟨f1,f2,f3,f4,f5,f6⟩:=HF W hW; go_simp; with_reducible rfl))
  refine zaK rfl 170 #[.int .i64 k.steps,.int .i64 o.steps] (.int .i64 (cmpI k.steps o.steps)) (fun W hW => ?_) (fun W hW => (zj4 _ _ W).mono (fun e w' hh => ⟨hh.1,by rw [hh.2]; exact hW⟩)) ?_
  ·go_simp
  refine wpQuiet_nil ?_
  intro W2 hW2
  go_wp2
  go_ret
  exact ⟨rfl,hW2⟩
end Go.Proofs.YtfpgjkbjbbgciaaGreatDoor
