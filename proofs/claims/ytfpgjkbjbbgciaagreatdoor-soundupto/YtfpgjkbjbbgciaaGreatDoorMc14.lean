import Derived.Test.YtfpgjkbjbbgciaaGreatDoorMc09
import Derived.Test.YtfpgjkbjbbgciaaGreatDoorMc12
import Derived.Test.YtfpgjkbjbbgciaaGreatDoorMc13
set_option maxRecDepth 100000
set_option maxHeartbeats 8000000
namespace Go.Proofs.YtfpgjkbjbbgciaaGreatDoor
open Go.RowKit Sp
theorem zqv (now : ByteArray) (l : List ByteArray) : (zeO now l).length ≤ l.length + 1:=by
 unfold zeO; split <;> simp
theorem zeS (s : ByteArray) (i : Nat) (now : ByteArray) (l : List ByteArray) : (zax s i now l).length ≤ l.length + (s.size - i) + 1:=by
 have hf:=zqv now l
 by_cases h : i < s.size
 ·by_cases h1 : bt s i = 32 ∨ bt s i = 9 ∨ bt s i = 59
  ·by_cases h2 : bt s i = 59
   ·rw [zcr s i now l h h2]; omega
   ·rw [zbo s i now l h (by omega)]
    have:=zeS s (i + 1) ByteArray.empty (zeO now l)
    omega
  ·rw [ze2 s i now l h h1]
   have:=zeS s (i + 1) (now ++ s.extract i (i + 1)) l
   omega
 ·rw [zcF s i now l h]; omega
termination_by s.size - i
theorem zjW (s : ByteArray) : (words s).length ≤ s.size + 1:=by
 have:=zeS s 0 ByteArray.empty []
 simpa [words] using this
theorem zjX (x : ByteArray) : (zaa x).length ≤ 3:=by
 unfold zaa
 repeat' split
 all_goals decide
theorem zqw (x : ByteArray) (h : zjT x = true) : x = ⟨#[102,117,110,99]⟩:=zap x _ h
theorem zuQ (s : ByteArray) (w : World) (hs : s.size ≤ 1048576) : Calls Tryz.prog 46 #[.string s] w (zbX w.heap.size w (say s)):=by
 cases hv : zak s 0 with
 | false => have e : say s = ⟨0,[],false⟩:=by simp [say,hv]
            rw [e]; exact zuP s w hs hv
 | true =>
  have e : say s = sayW (words s):=by simp [say,hv]
  rw [e]
  have hsz:=zeQ s
  have hln:=zjW s
  cases hl : words s with
  | nil => exact zsW s w hs hv hl
  | cons x r =>
   rw [hl] at hsz hln
   have hx:=hsz x (by simp)
   have hr : r.length ≤ 1048576:=by simp at hln; omega
   cases hf : zjT x with
   | true =>
    have e1 : sayW (x :: r) = ⟨102,x :: r,decide ((x :: r).length = 2) && zaz ((x :: r).getLast?.getD ByteArray.empty)⟩:=by simp only [sayW,hf,if_true]
    rw [e1]
    have:=zqw x hf
    subst this
    match r,hl,hsz with
    | [y],hl,hsz =>
     have h2:=hsz y (by simp)
     exact zqp s w hs hv y hl (by omega)
    | [],hl,_ => exact zjV s w hs hv [] hl (by simp)
    | a :: b :: c,hl,_ => simpa using zjV s w hs hv (a :: b :: c) hl (by simp)
   | false =>
    have hnf : (x.toList == [102,117,110,99]) = false:=hf
    have hlastE:=zd3 x (x.size - 1) (by omega)
    by_cases hlab : (x :: r).length = 1 ∧ zfo x = 58
    ·have e1 : sayW (x :: r) = ⟨108,[x.extract 0 (x.size - 1)],zaz (x.extract 0 (x.size - 1))⟩:=by simp only [sayW,hf]; rw [if_neg (by simp),if_pos hlab]
     rw [e1]
     obtain ⟨h1,h2⟩:=hlab
     have hr0 : r = []:=List.eq_nil_of_length_eq_zero (by simpa using h1)
     subst hr0
     exact zqq s w hs hv x hl (by omega) (by omega) hnf (by rw [hlastE,beq_iff_eq]; exact h2)
    ·have e1 : sayW (x :: r) = ⟨105,x :: r,if zaa x = [63] ∨ ¬ (x :: r).length = (zaa x).length + 1 then false else zaK (zaa x) r⟩:=by simp only [sayW,hf]; rw [if_neg (by simp),if_neg hlab]
     rw [e1]
     have hsl:=zjX x
     by_cases hr0 : r = []
     ·subst hr0
      have hlast : ((x[x.size - 1].toNat : Int) == 58) = false:=by
       rw [hlastE]; simp [zfo] at hlab; simpa using hlab
      by_cases h63 : zaa x = [63]
      ·rw [if_pos (.inl h63)]
       exact zqr s w hs hv x hl (by omega) (by omega) hnf hlast (zaa x) rfl hsl (by simp [h63])
      ·by_cases hn : (zaa x).length = 0
       ·have h0:=List.eq_nil_of_length_eq_zero hn
        rw [if_neg (by simp [h0]),h0]
        exact zsX s w hs hv x hl (by omega) (by omega) hnf hlast h0
       ·rw [if_pos (.inr (by show ¬ 1 = _; omega))]
        exact zqs s w hs hv x hl (by omega) (by omega) hnf hlast (zaa x) rfl hsl (by simpa using h63) (by simp; omega)
     ·have hr1 : 1 ≤ r.length:=by cases r with | nil => exact absurd rfl hr0 | cons a b => simp
      have hr2 : ((r.length : Int) + 1 == 1) = false:=by simp; omega
      by_cases h63 : zaa x = [63]
      ·rw [if_pos (.inl h63)]
       exact zqt s w hs hv x r hl (by omega) (by omega) hnf hr hr1 hr2 (zaa x) rfl hsl (by simp [h63])
      ·by_cases hn : r.length = (zaa x).length
       ·rw [if_neg (by simp [h63]; omega)]
        exact zsY s w hs hv x r hl (by omega) (by omega) hnf hr1 hr2 (fun j hj => by have:=hsz r[j] (List.mem_cons_of_mem _ (List.getElem_mem hj)); omega) (zaa x) rfl hsl (by simpa using h63) hr (by omega) (by omega)
       ·rw [if_pos (.inr (by simp; omega))]
        exact zqu s w hs hv x r hl (by omega) (by omega) hnf hr hr1 hr2 (zaa x) rfl hsl (by simpa using h63) (zwk _ _ hn)
end Go.Proofs.YtfpgjkbjbbgciaaGreatDoor
namespace Go.Proofs.YtfpgjkbjbbgciaaGreatDoor.Sp
def pre (p : List UInt8) : List (List UInt8) → List (List UInt8)
 | h :: t => (p ++ h) :: t
 | [] => [p]
def zd9 : List UInt8 → List (List UInt8)
 | [] => [[]]
 | c :: r => if c = 10 then [] :: zd9 r else pre [c] (zd9 r)
theorem zqK (l : List (List UInt8)) (h : l ≠ []) : pre [] l = l:=by
 cases l with
 | nil => exact absurd rfl h
 | cons a b => rfl
theorem zkl (l : List UInt8) : zd9 l ≠ []:=by
 cases l with
 | nil => simp [zd9]
 | cons c r =>
  unfold zd9
  split
  ·simp
  ·cases zd9 r <;> simp [pre]
theorem zvg (p q : List UInt8) (l : List (List UInt8)) : pre p (pre q l) = pre (p ++ q) l:=by
 cases l <;> simp [pre]
theorem zlV (s : ByteArray) (f i : Nat) (hf : f ≤ i) (hi : i ≤ s.size) : (zbI s f i).map (·.data.toList) = pre ((s.data.toList.drop f).take (i - f)) (zd9 (s.data.toList.drop i)):=by
 by_cases h : i < s.size
 ·obtain ⟨c,r,h1,h2,h3⟩:=zjg s i h
  by_cases h10 : bt s i = 10
  ·rw [zdH s f i h h10,List.map_cons,zlV s (i + 1) (i + 1) (by omega) (by omega),h1,← h3]
   have hc : c = 10:=by
    apply UInt8.toNat_inj.1
    have : (c.toNat : Int) = 10:=by omega
    simp; omega
   subst hc
   simp only [Nat.sub_self,List.take_zero]
   rw [zqK _ (zkl _)]
   simp [zd9,pre]
  ·rw [ze1 s f i h h10,zlV s f (i + 1) (by omega) (by omega),h1,← h3]
   have hc : ¬ c = 10:=by
    intro e; apply h10; rw [← h2,e]; rfl
   simp only [zd9,hc,if_false]
   rw [zvg]
   congr 1
   have e : i + 1 - f = (i - f) + 1:=by omega
   rw [e,List.take_add_one]
   congr 1
   rw [List.getElem?_drop]
   have e2 : f + (i - f) = i:=by omega
   rw [e2]
   have h5 : s.data.toList[i]? = some c:=by
    have : (s.data.toList.drop i)[0]? = some c:=by rw [h1]; rfl
    rw [List.getElem?_drop] at this
    simpa using this
   rw [h5]; rfl
 ·have hz : i = s.size:=by omega
  rw [zdG s f i h]
  have hl : s.data.toList.drop i = []:=List.drop_of_length_le (by simp; omega)
  rw [hl]
  simp [zd9,pre,hz]
termination_by s.size - i
theorem zvh (l : List UInt8) : Lib.splitK [10] 0 (Lib.count l [10]) l = zd9 l:=by
 induction l with
 | nil => rw [Lib.count_miss (by simp [Lib.index])]; rfl
 | cons c r ih =>
  by_cases hc : c = 10
  ·subst hc
   rw [Lib.count_cons_eq,Nat.add_comm]
   have hix : Lib.index (10 :: r) [10] = 0:=by rw [Lib.index]; simp [List.isPrefixOf]
   unfold Lib.splitK
   rw [hix]
   simp only [zd9,if_true]
   rw [← ih]
   simp
  ·rw [Lib.count_cons_ne c 10 r hc]
   have hp : ([10] : List UInt8).isPrefixOf (c :: r) = false:=by simp [List.isPrefixOf,Ne.symm hc]
   have hix : Lib.index (c :: r) [10] = if Lib.index r [10] == -1 then -1 else Lib.index r [10] + 1:=by rw [Lib.index,hp]; simp
   simp only [zd9,hc,if_false]
   rw [← ih]
   by_cases hm : Lib.index r [10] = -1
   ·rw [Lib.count_miss hm]; rfl
   ·have hge:=Lib.index_ge r [10]
    obtain ⟨j,hj⟩ : ∃ j : Nat,Lib.index r [10] = j:=⟨(Lib.index r [10]).toNat,by omega⟩
    rw [Lib.count_hit (by simp) hj,Nat.add_comm]
    unfold Lib.splitK
    rw [hix,hj]
    have b1 : (((j : Nat) : Int) == -1) = false:=by simp
    have b2 : (((j : Nat) : Int) + 1 == -1) = false:=by simp; omega
    simp only [b1,b2,if_false,Bool.false_eq_true]
    have e1 : ((j : Int) + 1).toNat = j + 1:=by omega
    have e2 : ((j : Nat) : Int).toNat = j:=by omega
    rw [e1,e2]
    simp [pre]
theorem zhf (s : ByteArray) : Lib.splitB ⟨#[10]⟩ 0 (Lib.countB s ⟨#[10]⟩) s = lines s:=by
 have h1 : (Lib.splitB ⟨#[10]⟩ 0 (Lib.countB s ⟨#[10]⟩) s).map (·.data.toList) = (lines s).map (·.data.toList):=by
  rw [Lib.splitB_data]
  have h2:=zlV s 0 0 (by omega) (by omega)
  simp only [List.drop_zero,Nat.sub_self,List.take_zero] at h2
  rw [zqK _ (zkl _)] at h2
  show Lib.splitK [10] 0 (Lib.count s.data.toList [10]) s.data.toList = (zbI s 0 0).map _
  rw [h2,zvh]
 refine (List.map_inj_right ?_).1 h1
 intro a b h
 exact ByteArray.ext (Array.ext' h)
theorem zeW (s : ByteArray) : (lines s).length = Lib.countByte s.data.toList 10 + 1 ∧ Lib.countB s ⟨#[10]⟩ + 1 = (lines s).length:=by
 have h:=Lib.splitB_all ⟨#[10]⟩ (by decide) 0 _ s rfl
 rw [zhf] at h
 refine ⟨?_,h.symm⟩
 rw [h]
 unfold Lib.countByte
 rw [← Lib.count_one]
end Go.Proofs.YtfpgjkbjbbgciaaGreatDoor.Sp
namespace Go.Proofs.YtfpgjkbjbbgciaaGreatDoor
open Go.RowKit Sp
def WdIn (w : World) (wb : Nat) (l : List ByteArray) : Prop:=∀ j (h : j < l.length),w.cell? ⟨wb,j,none⟩ = some (.string l[j])
theorem RefM.drew {w : World} {b : Nat} {lv bv iv ov : Value} {m : Mc} (h : RefM w b lv bv iv ov m) : RefM w.drew b lv bv iv ov m:=h.of_block rfl
theorem RefM.drewN {w : World} {b : Nat} {lv bv iv ov : Value} {m : Mc} (h : RefM w b lv bv iv ov m) (n : Nat) : RefM (w.drewN n) b lv bv iv ov m:=h.of_block rfl
theorem zbf (w : World) (n : Nat) : Below w.heap.size w (w.drewN n):=⟨rfl,rfl,rfl,Nat.le_refl _,fun _ _ => rfl⟩
theorem zc5 (x : Int) : wrap64 x = w64 x:=by simp [w64,wrap64]
theorem zal (x : ByteArray) (r : Nat) (hreg : reg x = (r : Int)) (h : x.size ≤ 1048576) : ∀ W,Calls Tryz.prog 75 #[.string x] W fun e w' => e = .returned (.int .i64 (r : Int)) ∧ w' = W:=fun W => by
 rw [← hreg]; exact zlD x W (by unfold maxLen; omega)
theorem zk6 (x : ByteArray) (h : x.size ≤ 1048576) : ∀ W,Calls Tryz.prog 76 #[.string x] W fun e w' => e = .returned (.tuple #[.int .i64 (za6 x).1,.bool (za6 x).2]) ∧ w' = W:=fun W => zlI x W (by omega)
theorem zrg (w : World) (b r n : Nat) (lv bv iv ov : Value) (m : Mc) (x : ByteArray) (h : RefM w b lv bv iv ov m) (hr : r < 8) (hreg : reg x = (r : Int)) (h1 : x.size ≤ 1048576) (hn : m.regs r = (n : Int)) (hn16 : n < 16) :
  Calls Tryz.prog 112 #[.pointer (some ⟨b,0,none⟩),.string x] w fun e w' => e = .returned (.int .i64 (n : Int)) ∧ ∃ k,w' = w.drewN k:=by
 have hcr:=h.cR r hr
 rw [hn] at hcr
 have hr0 : (0 : Int) ≤ (r : Int):=by omega
 have hr8 : (r : Int) < 8:=by omega
 have g1:=zal x r hreg h1
 have hn0 : ((n : Int) < 0) = False:=by simp
 have hn15 : ((15 : Int) < (n : Int)) = False:=by simp; omega
 go_enter Tryz.func112,Tryz.ntmps112
 go_wp2_with fail
 go_quiet (first | (go_at_call 75; exact Calls.quiet_of_same (g1 _)))
 go_wp2
 go_ret
 exact ⟨rfl,_,rfl⟩
theorem znq (w : World) (b r : Nat) (lv bv iv ov : Value) (m : Mc) (x : ByteArray) (h : RefM w b lv bv iv ov m) (hr : r < 8) (hreg : reg x = (r : Int)) (h1 : x.size ≤ 1048576) (hn : m.regs r < 0 ∨ 15 < m.regs r) :
  Calls Tryz.prog 112 #[.pointer (some ⟨b,0,none⟩),.string x] w fun e w' => e = .returned (.int .i64 (-1)) ∧ RefM w' b lv bv iv ov { m with fin:=3 } ∧ w.grownBy w' (some b):=by
 have hcr:=h.cR r hr
 have hce:=h.cE
 have hfz:=h.fz 33
 have hr0 : (0 : Int) ≤ (r : Int):=by omega
 have hr8 : (r : Int) < 8:=by omega
 have g1:=zal x r hreg h1
 generalize m.regs r = v at hcr hn
 by_cases hv : v < 0
 ·go_enter Tryz.func112,Tryz.ntmps112
  go_wp2_with fail
  go_quiet (first | (go_at_call 75; exact Calls.quiet_of_same (g1 _)))
  go_wp2
  go_ret
  exact ⟨rfl,((h.drewN nq).setE 3),zae (zbf _ _)⟩
 ·have hv2 : 15 < v:=by omega
  go_enter Tryz.func112,Tryz.ntmps112
  go_wp2_with fail
  go_quiet (first | (go_at_call 75; exact Calls.quiet_of_same (g1 _)))
  go_wp2
  go_ret
  exact ⟨rfl,((h.drewN nq).setE 3),zae (zbf _ _)⟩
theorem zt7 (w : World) (b wb cap r : Nat) (lv bv iv ov : Value) (m : Mc) (x1 x2 : ByteArray) (h : RefM w b lv bv iv ov m) (hw : WdIn w wb [⟨#[115,101,116]⟩,x1,x2]) (_hne : ¬ wb = b) (hr : r < 8) (hreg : reg x1 = (r : Int)) (h1 : x1.size ≤ 1048576) (h2 : x2.size ≤ 1048576) :
  Calls Tryz.prog 90 #[.pointer (some ⟨b,0,none⟩),.slice (some ⟨wb,0,none⟩) 3 cap] w fun e w' => e = .returned (.tuple #[]) ∧ RefM w' b lv bv iv ov { m with regs:=upd m.regs r (za6 x2).1 } ∧ w.grownBy w' (some b):=by
 have c0:=hw 0 (by simp)
 have c1:=hw 1 (by simp)
 have c2:=hw 2 (by simp)
 simp only [List.getElem_cons_zero,List.getElem_cons_succ] at c0 c1 c2
 have hcr:=h.cR r hr
 have hfz:=h.fz (5 + r)
 have hr0 : (0 : Int) ≤ (r : Int):=by omega
 have hr8 : (r : Int) < 8:=by omega
 have g1:=zal x1 r hreg h1
 have g2:=zk6 x2 h2
 generalize (za6 x2).1 = v at g2 ⊢
 generalize (za6 x2).2 = ok at g2
 go_enter Tryz.func90,Tryz.ntmps90
 go_wp2_with (first | (go_at_call 75; refine (g1 _).mono ?_; rintro e wx ⟨rfl,hww⟩; have hw2:=hww.symm; subst hw2))
 go_region_with (go_at_call 76; refine (g2 _).mono ?_; rintro e wx ⟨rfl,hww⟩; have hw2:=hww.symm; subst hw2)
 all_goals go_wp2
 all_goals go_end0
 all_goals exact ⟨rfl,(h.setR r hr v).drew,zbk (zae (Below.refl _ _))⟩
theorem zt8 (w : World) (b wb cap r s : Nat) (lv bv iv ov : Value) (m : Mc) (x1 x2 : ByteArray) (h : RefM w b lv bv iv ov m) (hw : WdIn w wb [⟨#[109,111,118]⟩,x1,x2]) (_hne : ¬ wb = b) (hr : r < 8) (hreg : reg x1 = (r : Int)) (hs : s < 8) (hreg2 : reg x2 = (s : Int)) (hx1 : x1.size ≤ 1048576) (hx2 : x2.size ≤ 1048576) :
  Calls Tryz.prog 90 #[.pointer (some ⟨b,0,none⟩),.slice (some ⟨wb,0,none⟩) 3 cap] w fun e w' => e = .returned (.tuple #[]) ∧ RefM w' b lv bv iv ov { m with regs:=upd m.regs r (m.regs s) } ∧ w.grownBy w' (some b):=by
 have c0:=hw 0 (by simp)
 have c1:=hw 1 (by simp)
 have c2:=hw 2 (by simp)
 simp only [List.getElem_cons_zero,List.getElem_cons_succ] at c0 c1 c2
 have hcr:=h.cR r hr
 have hfz:=h.fz (5 + r)
 have hr0 : (0 : Int) ≤ (r : Int):=by omega
 have hr8 : (r : Int) < 8:=by omega
 have g1:=zal x1 r hreg hx1
 have hcs:=h.cR s hs
 have hs0 : (0 : Int) ≤ (s : Int):=by omega
 have hs8 : (s : Int) < 8:=by omega
 have g2:=zal x2 s hreg2 hx2
 go_enter Tryz.func90,Tryz.ntmps90
 go_wp2_with (first | (go_at_call 75; refine (g1 _).mono ?_; rintro e wx ⟨rfl,hww⟩; have hw2:=hww.symm; subst hw2))
 go_region_with (first | (go_at_call_of 75 (Value.string x2); refine (g2 _).mono ?_; rintro e wx ⟨rfl,hww⟩; have hw2:=hww.symm; subst hw2) | (go_at_call 75; refine (g2 _).mono ?_; rintro e wx ⟨rfl,hww⟩; have hw2:=hww.symm; subst hw2))
 all_goals go_wp2
 all_goals go_end0
 all_goals exact ⟨rfl,(h.setR r hr _).drew,zbk (zae (Below.refl _ _))⟩
theorem zt9 (w : World) (b wb cap r : Nat) (lv bv iv ov : Value) (m : Mc) (x1 x2 : ByteArray) (h : RefM w b lv bv iv ov m) (hw : WdIn w wb [⟨#[105,110,99]⟩,x1,x2]) (_hne : ¬ wb = b) (hr : r < 8) (hreg : reg x1 = (r : Int))  (hx1 : x1.size ≤ 1048576) (hx2 : x2.size ≤ 1048576) :
  Calls Tryz.prog 90 #[.pointer (some ⟨b,0,none⟩),.slice (some ⟨wb,0,none⟩) 3 cap] w fun e w' => e = .returned (.tuple #[]) ∧ RefM w' b lv bv iv ov { m with regs:=upd m.regs r (w64 (m.regs r + (za6 x2).1)) } ∧ w.grownBy w' (some b):=by
 have c0:=hw 0 (by simp)
 have c1:=hw 1 (by simp)
 have c2:=hw 2 (by simp)
 simp only [List.getElem_cons_zero,List.getElem_cons_succ] at c0 c1 c2
 have hcr:=h.cR r hr
 have hfz:=h.fz (5 + r)
 have hr0 : (0 : Int) ≤ (r : Int):=by omega
 have hr8 : (r : Int) < 8:=by omega
 have g1:=zal x1 r hreg hx1
 have g2:=zk6 x2 hx2
 generalize (za6 x2).1 = v at g2 ⊢
 generalize (za6 x2).2 = ok at g2
 go_enter Tryz.func90,Tryz.ntmps90
 go_wp2_with (first | (go_at_call 75; refine (g1 _).mono ?_; rintro e wx ⟨rfl,hww⟩; have hw2:=hww.symm; subst hw2) | (go_at_call 76; refine (g2 _).mono ?_; rintro e wx ⟨rfl,hww⟩; have hw2:=hww.symm; subst hw2))
 go_region
 all_goals go_wp2
 all_goals go_end0
 all_goals rw [zc5]
 all_goals exact ⟨rfl,(h.setR r hr _).drew,zbk (zae (Below.refl _ _))⟩
end Go.Proofs.YtfpgjkbjbbgciaaGreatDoor
