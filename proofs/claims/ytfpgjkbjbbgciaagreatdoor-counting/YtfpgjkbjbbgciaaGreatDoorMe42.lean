import Derived.Test.YtfpgjkbjbbgciaaGreatDoorMe35
import Derived.Test.YtfpgjkbjbbgciaaGreatDoorMe39
import Derived.Test.YtfpgjkbjbbgciaaGreatDoorMe41
set_option maxRecDepth 100000
set_option maxHeartbeats 8000000
namespace Go.Proofs.YtfpgjkbjbbgciaaGreatDoor
open Go.RowKit Sp
theorem zeU {e : Int} {o : Option Int} {c : Int × Int} (h : zdJ e o c = (0,0)) (he : ¬ e = 0) : o = none ∧ c = (0,0):=by
 cases o with
 | none => exact ⟨rfl,h⟩
 | some l => exact absurd (congrArg Prod.fst h) he
theorem zjv (A : List ByteArray) (i j : Nat) (hj : j < A.length) (hij : i ≤ j) (hb : (say A[j]).ok = false) : ¬ zbM A i = (0,0):=by
 have hi : i < A.length:=by omega
 cases hc : (say A[i]).ok with
 | false => rw [zdO A i hi hc]; exact fun e => absurd (congrArg Prod.fst e) (show ¬ (1 : Int) = 0 by decide)
 | true =>
  rw [zep A i hi hc]
  have hne : ¬ i = j:=fun e => by subst e; rw [hb] at hc; cases hc
  exact zjv A (i + 1) j hj (by omega) hb
termination_by A.length - i
theorem zgE (s : ByteArray) (h : zbk s = (0,0)) : zh0 s ((lines s).map say):=by
 have hgood:=zqG s h
 unfold zbk at h
 by_cases hf : 4000 < s.size ∨ 300 < (lines s).length
 ·rw [if_pos hf] at h; exact absurd (congrArg Prod.fst h) (by decide)
 ·rw [if_neg hf] at h
  have h4 : s.size ≤ 4000:=by omega
  have h3 : (lines s).length ≤ 300:=by omega
  by_cases hok : ∀ x ∈ lines s,(say x).ok = true
  ·rw [zes _ hok 0,zer _ hok] at h
   have S : Sts s (zaT (lines s) (lines s).length):=⟨h4,h3,hok,rfl⟩
   have hka:=zjk (lines s)
   generalize zaT (lines s) (lines s).length = K at S h hka
   cases K with
   | nil => exact absurd (congrArg Prod.fst h) (by decide)
   | cons k r =>
    unfold sayK at h
    dsimp only at h
    by_cases h0 : k.sort = 0
    ·rw [if_pos h0] at h
     obtain ⟨ht,h⟩:=zeU h (by decide)
     obtain ⟨hm,h⟩:=zeU h (by decide)
     obtain ⟨he,_⟩:=zeU h (by decide)
     intro w hw
     refine (ziG s k r S h0 ht _ rfl hm he w hw).mono ?_
     rintro e w' ⟨hb,pm,ao,n,cap,F,rfl,hP,hG,hF0,hFn,hFi⟩
     refine ⟨hb,pm,ao,n,cap,F,rfl,hP,⟨hgood,zhx _ 0 k r hka.symm h0,?_,hF0⟩,hFn,hFi⟩
     rw [hG.out]; exact zmf _ 0 k r hka.symm h0
    ·rw [if_neg h0] at h
     exact absurd (congrArg Prod.fst h) (show ¬ (2 : Int) = 0 by decide)
  ·exfalso
   have : ∃ x ∈ lines s,¬ (say x).ok = true:=by
    refine Classical.byContradiction fun hn => hok fun x hx => ?_
    refine Classical.byContradiction fun hx' => hn ⟨x,hx,hx'⟩
   obtain ⟨x,hx,hb⟩:=this
   obtain ⟨j,hj,rfl⟩:=List.mem_iff_getElem.1 hx
   exact zjv (lines s) 0 j hj (by omega) (by simpa using hb) h
theorem zfT (s : ByteArray) (w : World) (hw : LibW w) (ao : Option Addr) (icap : Nat) (n : Int) (inp : List Int) (hs : s.size ≤ 9223372036854775807) (hiv : SlB w w.heap.size (.slice ao inp.length icap) inp) (hin : inp.length ≤ 9223372036854775807) :
  Calls Tryz.prog 18 #[.string s,.slice ao inp.length icap,.int .i64 n] w (zbz w (zkx s inp n)):=by
 have hbw:=zh1 w s (.slice ao inp.length icap) n
 have hbo:=zcP (TrW w s (.slice ao inp.length icap) n)
 have hb2 : Below w.heap.size w (OutW (TrW w s (.slice ao inp.length icap) n)):=hbw.trans (hbo.mono hbw.size)
 have hw2:=hw.below hb2
 have T:=(zrs w s (.slice ao inp.length icap) n).below hbo
 unfold zkx
 by_cases hR : zbk s = (0,0)
 ·rw [if_neg (by simpa using hR)]
  by_cases h0 : n < 0 ∨ 100000 < n
  ·rw [if_pos h0]
   exact ze6 w s ao _ icap n 7 0 (zrq _ hw2 _ _ _ _ s _ n T _ (zgE s hR) h0)
  ·rw [if_neg h0]
   obtain ⟨k,rfl⟩:=Int.eq_ofNat_of_zero_le (show 0 ≤ n by omega)
   exact zrt w s ao _ icap _ _ (ztI _ hw2 _ _ _ _ s ao icap k inp T _ (zgE s hR) (by omega) (hiv.mono hb2) hin _ rfl)
 ·rw [if_pos hR]
  exact ze6 w s ao _ icap n _ _ (ztG _ hw2 _ _ _ _ s _ n T (zbk s) hR (zfu s hs))
theorem zmx {w : World} {ao : Option Addr} {cap : Nat} : Calls Tryz.prog 169 #[.slice ao 0 cap,.int .i64 0] w fun e w' => e = .returned (.int .i64 0) ∧ Below w.heap.size w w':=by
 go_enter Tryz.func169,Tryz.ntmps169
 go_wp2
 go_loopw [5,6] (fun tl tb wr => tl = .int .i64 0 ∧ tb = .int .i64 1 ∧ Below w.heap.size w wr) (fun _ _ _ => 0)
 case atStart => exact ⟨rfl,rfl,Below.refl _ _⟩
 case round =>
  obtain ⟨rfl,rfl,hb⟩:=hrel
  go_wp2
  go_ret
  exact ⟨rfl,hb⟩
theorem zpp {w : World} {ao : Option Addr} {cap : Nat} : Calls Tryz.prog 154 #[.slice ao 0 cap,.int .i64 0] w fun e w' => e = .returned (.tuple #[]) ∧ Below w.heap.size w w':=by
 go_enter Tryz.func154,Tryz.ntmps154
 go_wp2
 go_loopw [1] (fun ti wr => ti = .int .i64 0 ∧ Below w.heap.size w wr) (fun _ _ => 0)
 case atStart => exact ⟨rfl,Below.refl _ _⟩
 case round =>
  obtain ⟨rfl,hb⟩:=hrel
  go_wp2_with (go_at_call 169; (with_reducible refine zmx.mono ?_); rintro e wx ⟨rfl,hbx⟩)
  refine bodyPost_ret (results_none rfl _ _ _) rfl ⟨rfl,hb.trans (hbx.mono hb.size)⟩
theorem zua {w : World} {H C cap n : Nat} {xs : List Wy} (h : HpM w H C xs) (hl : xs.length = n) (a : Nat) (ha : a < n) (hn : n ≤ 100000) (hR : SinkI (stp xs) n a) : Calls Tryz.prog 154 #[.slice (some ⟨H,0,none⟩) n cap,.int .i64 (a : Int)] w (zj5 w H C xs):=by
 have L0 : ∃ ys : List Wy,ys.Perm xs ∧ HpM w H C ys ∧ SinkI (stp ys) n a ∧ w.grownBy w (some H):=⟨xs,List.Perm.refl _,h,hR,⟨rfl,rfl,rfl,Nat.le_refl _,fun _ _ _ => rfl⟩⟩
 have HN : Hid (xs.length = n):=hl
 clear hl h hR
 go_enter Tryz.func154,Tryz.ntmps154
 go_wp2
 go_loopw [1] (fun ti wr => ∃ a : Nat,ti = .int .i64 (a : Int) ∧ a < n ∧ ∃ ys : List Wy,ys.Perm xs ∧ HpM wr H C ys ∧ SinkI (stp ys) n a ∧ w.grownBy wr (some H)) (fun ti _ => n - (intOf ti).toNat)
 case atStart => exact ⟨a,rfl,ha,L0⟩
 case round =>
  obtain ⟨a,rfl,ha,ys,hp,hM,hR,hg⟩:=hrel
  clear L0
  have hl : ys.length = n:=hp.length_eq.trans HN.out
  have hls:=zrJ (cap:=cap) hM a (by omega) (by omega)
  rw [hl] at hls
  go_wp2_with (go_at_call 169; (with_reducible refine hls.mono ?_); rintro e wx ⟨m,rfl,hX,m1,m2,m3,m4,m5⟩)
  ·have hx0 : ((m : Int) == (a : Int)) = true:=by assumption
   have hx : (m : Int) = (a : Int):=by simpa using hx0
   obtain rfl : m = a:=by omega
   rw [hl] at m4 m5
   exact bodyPost_ret (results_none rfl _ _ _) rfl ⟨rfl,ys,hp,hM.below hX,by rw [hl]; exact hR.done m4 m5,zad hg (zaJ hX)⟩
  ·have hx0 : ((m : Int) == (a : Int)) = false:=by assumption
   have hx : ¬ (m : Int) = (a : Int):=by simpa using hx0
   have hma : ¬ a = m:=by omega
   have hay : a < ys.length:=by omega
   have hmy : m < ys.length:=m1
   have c1:=((hM.below hX).at' hay).1
   have c2:=((hM.below hX).at' hmy).1
   have z1:=(hM.below hX).fz a
   have z2:=(hM.below hX).fz m
   have HS2:=(hM.below hX).swap hay hmy hma
   rw [hl] at m4 m5
   have hR3 : SinkI (stp (zdC wy0 ys a m)) n m:=by
    have e : stp (zdC wy0 ys a m) = zmm (stp ys) a m:=zr7 hay hmy hma (fun x => keyK x.k)
    rw [e]
    exact hR.step (by omega) (by omega) m3 m4 m5
   have a0 : (0 : Int) ≤ (a : Int):=by omega
   have a1 : (a : Int) < (n : Int):=by omega
   have q0 : (0 : Int) ≤ (m : Int):=by omega
   have q1 : (m : Int) < (n : Int):=by omega
   have hmm : a < m:=by omega
   have hmn : m < n:=by omega
   generalize ys.getD a wy0 = xa at c1 HS2
   generalize ys.getD m wy0 = xm at c2 HS2
   clear m1 m2 m3 m4 m5 hls
   go_region
   all_goals go_wp2
   all_goals exact ⟨⟨m,rfl,hmn,zdC wy0 ys a m,(zfW hay hmy).trans hp,HS2.drew,hR3,zdq (zad hg (zad (zai hX) (zai (Below.refl _ _))))⟩,by simp [intOf]; omega⟩
def insL : Ins → Nat
 | .set _ _ => 224 | .mov _ _ => 231 | .alu o _ _ _ => if o = 0 then 233 else if o = 1 then 240 else 244 | .inc _ _ => 250 | .load _ _ => 252 | .store _ _ => 257
 | .read _ => 260 | .write _ => 263 | .jump _ => 266 | .less _ _ _ => 268 | .same _ _ _ => 275 | .call _ => 280 | .back => 285 | .stop => 289
def zdy (w : World) (b : Nat) (ao : Option Addr) : Option (List Kn) → Ending → World → Prop
 | none => fun e w' => e = zah 8 0 ∧ w.grownBy w' (some b)
 | some ks => fun e w' => ∃ (so : Option Addr) (sc : Nat) (ps : List Nat) (ao' : Option Addr) (cap' n' : Nat),e = .returned (.slice so ps.length sc) ∧ WaysAt w w' b (.slice ao' n' cap') ks so ps ∧ (∀ k' ∈ ks,n' = k'.behind.length ∧ BhM w' ao' cap' k'.behind) ∧ (ao' = ao ∨ ∀ a,ao' = some a → w.heap.size ≤ a.block) ∧ ∀ p ∈ ps,∀ a,ao' = some a → ¬ a.block = p
theorem zhQ {w : World} {b f : Nat} {ao : Option Addr} {args : Array Value} (h : Calls Tryz.prog f args w fun e w' => e = zah 8 0 ∧ Below w.heap.size w w') : Calls Tryz.prog f args w (zdy w b ao none) :=
 h.mono fun _ _ hh => ⟨hh.1,zaJ hh.2⟩
theorem zj7 {w : World} {b f cap : Nat} {ao : Option Addr} {args : Array Value} {l : List Int} {ks : List Kn} (_hlt : b < w.heap.size) (B : BhM w ao cap l) (ap : ∀ a,ao = some a → ¬ a.block = b) (hks : ∀ k' ∈ ks,k'.behind = l) (h : Calls Tryz.prog f args w (zcu w b (.slice ao l.length cap) ks)) : Calls Tryz.prog f args w (zdy w b ao (some ks)):=by
 refine h.mono ?_
 rintro e w' ⟨so,sc,ps,rfl,A⟩
 refine ⟨so,sc,ps,ao,cap,l.length,rfl,A,fun k' hk' => ?_,.inl rfl,fun p hp a ha => ?_⟩
 ·rw [hks k' hk']; exact ⟨rfl,B.grown A.grown ap⟩
 ·obtain ⟨g,rfl⟩:=B.at0 a ha
  rcases A.from' p hp with e | e
  ·rw [e]; exact ap _ ha
  ·have:=(B.cell g ha).1
   show ¬ g = p
   omega
theorem zb4 {w : World} {b f cap : Nat} {ao : Option Addr} {args : Array Value} {l : List Int} {k' : Kn} (hlt : b < w.heap.size) (B : BhM w ao cap l) (ap : ∀ a,ao = some a → ¬ a.block = b) (hk : k'.behind = l) (h : Calls Tryz.prog f args w (zaP w b (.slice ao l.length cap) k')) : Calls Tryz.prog f args w (zdy w b ao (some [k'])) :=
 zj7 hlt B ap (fun x hx => by rw [List.mem_singleton.1 hx]; exact hk) (h.mono fun _ _ hh => zj2 hh)
theorem zlh {w : World} {b f : Nat} {ao : Option Addr} {args : Array Value} (h : Calls Tryz.prog f args w fun e w' => e = .returned (.slice none 0 0) ∧ Below w.heap.size w w') : Calls Tryz.prog f args w (zdy w b ao (some [])):=by
 refine h.mono ?_
 rintro e w' ⟨rfl,hb⟩
 exact ⟨none,0,[],ao,0,0,rfl,⟨zaJ hb,fun i p hp => by simp at hp,rfl,fun i p k hp => by simp at hp,List.nodup_nil,fun p hp => by cases hp⟩,fun k' hk' => (by cases hk'),.inl rfl,fun p hp => (by cases hp)⟩
theorem zwE {w : World} {b : Nat} {bv : Value} {k : Kn} {e : Ending} {w' : World} (h : zaP w b bv k e w') : ∃ g,e = .returned (.slice (some ⟨g,0,none⟩) [b].length 1) ∧ WaysAt w w' b bv [k] (some ⟨g,0,none⟩) [b]:=by
 obtain ⟨g,rfl,hg,hc,hk,hgr⟩:=h
 refine ⟨g,rfl,⟨hgr,fun i p hp => ?_,rfl,fun i p k' hp hk' => ?_,by simp,fun p hp => .inl (List.mem_singleton.1 hp)⟩⟩
 ·cases i with
  | zero => cases hp; exact ⟨g,rfl,hg,hc⟩
  | succ i => simp at hp
 ·cases i with
  | zero => cases hp; cases hk'; exact hk
  | succ i => simp at hp
theorem zf2 {k : Kn} {l r : Nat} {f g : Rg → Rg → Option (Rg × Rg)} {z : Int} : ∀ k' ∈ zbs k l r f g z,k'.behind = k.behind:=by
 intro k' hk'
 unfold zbs at hk'
 split at hk'
 ·rcases List.mem_cons.1 hk' with rfl | h
  ·rfl
  ·rw [List.mem_singleton.1 h]; rfl
 ·rw [List.mem_singleton.1 hk']; rfl
 ·rw [List.mem_singleton.1 hk']; rfl
 ·rw [List.mem_singleton.1 hk']; rfl
theorem zm4 {l : List Int} (h : l ≠ []) : l = l.dropLast ++ [l.getLastD 0]:=by
 rw [List.getLastD_eq_getLast?,List.getLast?_eq_some_getLast h]
 exact (List.dropLast_concat_getLast h).symm
theorem zrZ {w : World} {b cap : Nat} {ao : Option Addr} {k : Kn} (i : Ins) (hi : zg2 i) (h : KnM w b (.slice ao k.behind.length cap) k) (B : BhM w ao cap k.behind) (ap : ∀ a,ao = some a → ¬ a.block = b) (K : KnOk k) (h0 : 0 ≤ k.steps) (h1 : k.steps ≤ 100000) (n0 : 0 ≤ k.next) (n1 : k.next ≤ 100000) :
  Calls Tryz.prog (insL i) #[.agg (insA i),.pointer (some ⟨b,0,none⟩)] w (zdy w b ao (zaz i k)):=by
 have hlt:=h.lt
 cases i with
 | set r n => exact zb4 hlt B ap rfl (zrO h r hi n h0 h1 n0 n1)
 | mov r s => exact zb4 hlt B ap rfl (zrV h r hi.1 s hi.2 h0 h1 n0 n1)
 | alu o r s t =>
  obtain ⟨ho,hr,hs,ht⟩:=hi
  rcases (by omega : o = 0 ∨ o = 1 ∨ o = 2) with rfl | rfl | rfl
  ·exact zb4 hlt B ap rfl (zrS h r hr s hs t ht h0 h1 n0 n1)
  ·exact zb4 hlt B ap rfl (zrX h r hr s hs t ht h0 h1 n0 n1)
  ·exact zb4 hlt B ap rfl (zrT h K r hr s hs t ht h0 h1 n0 n1)
 | inc r n => exact zb4 hlt B ap rfl (zrU h r hi n h0 h1 n0 n1)
 | load r s =>
  have hs:=(K.regs s hi.2)
  by_cases hc : 0 ≤ (k.regs s).lo ∧ (k.regs s).hi ≤ 15
  ·have e : zaz (.load r s) k = some [{ k with regs:=updR k.regs r (zbX k.cells (k.regs s).lo.toNat ((k.regs s).hi.toNat - (k.regs s).lo.toNat)) }.goTo (k.next + 1)]:=by simp only [zaz,zbL,if_pos hc]
   rw [e]
   exact zb4 hlt B ap rfl (zpy h r hi.1 s hi.2 hs.2.2 hc.1 hc.2 h0 h1 n0 n1)
  ·have e : zaz (.load r s) k = none:=by simp only [zaz,zbL,if_neg hc]
   rw [e]
   exact zhQ (zil h r s hi.2 hs hc)
 | store r s =>
  have hs:=(K.regs r hi.1)
  by_cases hc : 0 ≤ (k.regs r).lo ∧ (k.regs r).hi ≤ 15
  ·have e : zaz (.store r s) k = some [{ k with cells:=zaC k.cells (k.regs r).lo.toNat (k.regs r).hi.toNat (k.regs s) }.goTo (k.next + 1)]:=by simp only [zaz,zbL,if_pos hc]
   rw [e]
   exact zb4 hlt B ap rfl (zm2 h r hi.1 s hi.2 hs.2.2 hc.1 hc.2 h0 h1 n0 n1)
  ·have e : zaz (.store r s) k = none:=by simp only [zaz,zbL,if_neg hc]
   rw [e]
   exact zhQ (zhK h r hi.1 s hi.2 hs hc)
 | read r => exact zb4 hlt B ap rfl (zpw h r hi h0 h1 n0 n1)
 | write r => exact zb4 hlt B ap rfl (zm3 h r h0 h1 n0 n1)
 | jump to => exact zb4 hlt B ap rfl (zp0 h to h0 h1)
 | less l r to =>
  by_cases e : l = r
  ·subst e
   have e1 : zaz (.less l l to) k = some [k.goTo (k.next + 1)]:=by simp only [zaz,if_true]
   rw [e1]
   exact zb4 hlt B ap rfl (zhO h l to h0 h1 n0 n1)
  ·have e1 : zaz (.less l r to) k = some (zbs k l r zec zbi to):=by simp only [zaz,if_neg e]
   rw [e1]
   exact zj7 hlt B ap zf2 (zg3 h rfl K l r hi.1 hi.2 e to h0 h1 n0 n1)
 | same l r to =>
  by_cases e : l = r
  ·subst e
   have e1 : zaz (.same l l to) k = some [k.goTo to]:=by simp only [zaz,if_true]
   rw [e1]
   exact zb4 hlt B ap rfl (zhP h l to h0 h1)
  ·have e1 : zaz (.same l r to) k = some (zbs k l r zed zaA to):=by simp only [zaz,if_neg e]
   rw [e1]
   exact zj7 hlt B ap zf2 (zg4 h rfl K l r hi.1 hi.2 e to h0 h1 n0 n1)
 | call to =>
  have hl:=B.len
  by_cases e : k.behind.length + 1 = 16
  ·have e1 : zaz (.call to) k = none:=by simp only [zaz,if_pos e]
   rw [e1]
   exact zhQ (zhL h to (by omega))
  ·have e1 : zaz (.call to) k = some [{ k with behind:=k.behind ++ [k.next + 1] }.goTo to]:=by simp only [zaz,if_neg e]
   rw [e1]
   refine (zp2 h B to (by omega) h0 h1 n0 n1).mono ?_
   rintro e w' ⟨g,c,hw,hB,hg⟩
   obtain ⟨g2,rfl,A⟩:=zwE hw
   refine ⟨some ⟨g2,0,none⟩,1,[b],some ⟨g,0,none⟩,c,_,rfl,A,fun k' hk' => ?_,.inr fun a ha => (by cases ha; exact hg),fun p hp a ha => ?_⟩
   ·rw [List.mem_singleton.1 hk']; exact ⟨by show _ = (k.behind ++ [k.next + 1]).length; simp,hB⟩
   ·cases ha
    rw [List.mem_singleton.1 hp]
    show ¬ g = b
    omega
 | back =>
  cases hb : k.behind with
  | nil =>
   have e1 : zaz .back k = some []:=by simp only [zaz,hb]
   rw [e1]
   rw [hb] at h
   exact zlh (zhM h)
  | cons x r =>
   have hne : k.behind ≠ []:=by rw [hb]; simp
   have e1 : zaz .back k = some [{ k with behind:=k.behind.dropLast }.goTo (k.behind.getLastD 0)]:=by simp only [zaz,hb]
   rw [e1]
   refine (zhN h B (zm4 hne) ap h0 h1).mono ?_
   rintro e w' ⟨hw,hB⟩
   obtain ⟨so,sc,ps,rfl,A⟩:=zj2 hw
   refine ⟨so,sc,ps,ao,cap,_,rfl,A,fun k' hk' => ?_,.inl rfl,fun p hp a ha => ?_⟩
   ·rw [List.mem_singleton.1 hk']; exact ⟨rfl,hB⟩
   ·obtain ⟨g,rfl⟩:=B.at0 a ha
    rcases A.from' p hp with e | e
    ·rw [e]; exact ap _ ha
    ·have:=(B.cell g ha).1
     show ¬ g = p
     omega
 | stop => exact zlh (zp1 _)
theorem zp7 (v : Value) (w : World) : (method 422 171 v "Learn").run Tryz.prog w = .ok (233,v) w:=by kernel_rfl
theorem zm8 (args : Array Value) (w : World) : (callFunc 233 args).run Tryz.prog w = .ok (.enter 233 args) w:=by kernel_rfl
theorem zp8 (v : Value) (w : World) : (method 422 172 v "Learn").run Tryz.prog w = .ok (240,v) w:=by kernel_rfl
theorem zm9 (args : Array Value) (w : World) : (callFunc 240 args).run Tryz.prog w = .ok (.enter 240 args) w:=by kernel_rfl
theorem zp9 (v : Value) (w : World) : (method 422 173 v "Learn").run Tryz.prog w = .ok (244,v) w:=by kernel_rfl
theorem zmA (args : Array Value) (w : World) : (callFunc 244 args).run Tryz.prog w = .ok (.enter 244 args) w:=by kernel_rfl
theorem zsj (i : Ins) (hi : zg2 i) (w : World) : (method 422 (insT i) (.agg (insA i)) "Learn").run Tryz.prog w = .ok (insL i,.agg (insA i)) w:=by
 cases i with
 | alu o r s t =>
  have ho:=hi.1
  clear hi
  rcases (by omega : o = 0 ∨ o = 1 ∨ o = 2) with rfl | rfl | rfl
  ·exact zp7 _ w
  ·exact zp8 _ w
  ·exact zp9 _ w
 | _ => kernel_rfl
theorem zpA (i : Ins) (hi : zg2 i) (args : Array Value) (w : World) : (callFunc (insL i) args).run Tryz.prog w = .ok (.enter (insL i) args) w:=by
 cases i with
 | alu o r s t =>
  have ho:=hi.1
  clear hi
  rcases (by omega : o = 0 ∨ o = 1 ∨ o = 2) with rfl | rfl | rfl
  ·exact zm8 args w
  ·exact zm9 args w
  ·exact zmA args w
 | _ => kernel_rfl
theorem zsk {w : World} {S b : Nat} {bv : Value} {k : Kn} (X : KnM w b bv k) (e : k.steps = 100000) :
  Calls Tryz.prog 116 #[.pointer (some ⟨S,0,none⟩),.pointer (some ⟨b,0,none⟩)] w fun e w' => e = zah 8 0 ∧ w' = w:=by
 have h1:=zbI X
 rw [e] at h1
 go_enter Tryz.func116,Tryz.ntmps116
 go_wp2_with (go_at_call 134; (with_reducible refine h1.mono ?_); rintro e wx ⟨rfl,hww⟩; have hw2:=hww.symm; subst hw2)
 all_goals go_wp2
 exact ⟨rfl,rfl,rfl,rfl,rfl⟩
theorem zpB {w : World} {S b : Nat} {bv : Value} {k : Kn} (X : KnM w b bv k) (e : ¬ k.steps = 100000) (h : Calls Tryz.prog 135 #[.pointer (some ⟨S,2,none⟩),.pointer (some ⟨b,0,none⟩)] w fun e w' => e = .returned (.bool true) ∧ Below w.heap.size w w') :
  Calls Tryz.prog 116 #[.pointer (some ⟨S,0,none⟩),.pointer (some ⟨b,0,none⟩)] w fun e w' => e = zah 8 0 ∧ Below w.heap.size w w':=by
 have h1:=zbI X
 have t : (k.steps == 100000) = false:=by simpa using e
 go_enter Tryz.func116,Tryz.ntmps116
 go_wp2_with (first
  | (go_at_call 134; (with_reducible refine h1.mono ?_); rintro e wx ⟨rfl,hww⟩; have hw2:=hww.symm; subst hw2)
  | (go_at_call 135; (with_reducible refine h.mono ?_); rintro e wy ⟨rfl,hby⟩))
 all_goals go_wp2
 exact ⟨rfl,rfl,rfl,rfl,hby⟩
theorem zf5 (w : World) (ao : Option Addr) (n cap : Nat) (_hn : n ≤ 1000000) : Calls Tryz.prog 114 #[.slice ao n cap] w fun e w' => e = .returned (.int .i64 (n : Int)) ∧ w' = w:=by
 go_enter Tryz.func114,Tryz.ntmps114
 go_wp2
 go_ret
 exact ⟨rfl,rfl⟩
theorem zlk {w : World} {S o : Nat} {v : Value} : Below S w (w.setCell ⟨S,o,none⟩ v):=(Below.refl S w).setCell (p:=⟨S,o,none⟩) (Nat.le_refl _) v
theorem zsg {w : World} {S : Nat} {ao : Option Addr} {n cap looks : Nat} (c1 : w.cell? ⟨S,1,none⟩ = some (.slice ao n cap)) (c6 : w.cell? ⟨S,6,none⟩ = some (.int .i64 (looks : Int))) (fz : w.frozen? ⟨S,6,none⟩ = false) (hl : looks < 500000) (hn : n ≤ 1000) :
  Calls Tryz.prog 115 #[.pointer (some ⟨S,0,none⟩)] w fun e w' => e = .returned (.tuple #[]) ∧ w' = w.setCell ⟨S,6,none⟩ (.int .i64 ((looks : Int) + 1)):=by
 have h1 : (0 : Int) ≤ (looks : Int):=by omega
 have h2 : (looks : Int) < 500000:=by omega
 have t1 : decide ((500000 : Int) < (looks : Int) + 1) = false:=by simpa using (by omega : ¬ (500000 : Int) < (looks : Int) + 1)
 have t2 : decide ((1000 : Int) < (n : Int)) = false:=by simpa using (by omega : ¬ (1000 : Int) < (n : Int))
 have hlen:=fun W => zf5 W ao n cap (by omega)
 go_enter Tryz.func115,Tryz.ntmps115
 go_wp2_with (go_at_call 114; (with_reducible refine (hlen _).mono ?_); rintro e wx ⟨rfl,hww⟩; have hw2:=hww.symm; subst hw2)
 exact bodyPost_end (results_none rfl _ _ _) rfl ⟨rfl,rfl⟩
theorem zsh {w : World} {S : Nat} {ao : Option Addr} {n cap looks : Nat} (c1 : w.cell? ⟨S,1,none⟩ = some (.slice ao n cap)) (c6 : w.cell? ⟨S,6,none⟩ = some (.int .i64 (looks : Int))) (fz : w.frozen? ⟨S,6,none⟩ = false) (hl : looks ≤ 500000) (hn : n ≤ 100000) (h : 500000 ≤ looks ∨ 1000 < n) :
  Calls Tryz.prog 115 #[.pointer (some ⟨S,0,none⟩)] w fun e w' => e = zah 8 0 ∧ Below S w w':=by
 have h1 : (0 : Int) ≤ (looks : Int):=by omega
 have hlen:=fun W => zf5 W ao n cap (by omega)
 by_cases h5 : looks = 500000
 ·subst h5
  go_enter Tryz.func115,Tryz.ntmps115
  go_wp2_with (go_at_call 114; (with_reducible refine (hlen _).mono ?_); rintro e wx ⟨rfl,hww⟩; have hw2:=hww.symm; subst hw2)
  all_goals go_wp2
  exact ⟨rfl,rfl,rfl,rfl,zlk⟩
 ·have h2 : (looks : Int) < 500000:=by omega
  have t1 : decide ((500000 : Int) < (looks : Int) + 1) = false:=by simpa using (by omega : ¬ (500000 : Int) < (looks : Int) + 1)
  have t2 : (1000 : Int) < (n : Int):=by omega
  go_enter Tryz.func115,Tryz.ntmps115
  go_wp2_with (go_at_call 114; (with_reducible refine (hlen _).mono ?_); rintro e wx ⟨rfl,hww⟩; have hw2:=hww.symm; subst hw2)
  all_goals go_wp2
  exact ⟨rfl,rfl,rfl,rfl,zlk⟩
def zuc (w : World) (S o B H cap : Nat) (xs : List Wy) : Ending → World → Prop:=fun e w' => e = .returned (.pointer (some ⟨(xs.getD 0 wy0).b,0,none⟩)) ∧ ∃ ys : List Wy,(xs.getD 0 wy0 :: ys).Perm xs ∧ w'.cell? ⟨S,o,none⟩ = some (.slice (some ⟨H,0,none⟩) ys.length cap) ∧ HeapM w' B (.slice (some ⟨H,0,none⟩) ys.length cap) ys ∧ HpAll (stp ys) ys.length ∧ WyM w' (xs.getD 0 wy0) ∧ Kept2 w w' S o (some H)
theorem zrL {w : World} {S o B H cap : Nat} {xs : List Wy} (hc : w.cell? ⟨S,o,none⟩ = some (.slice (some ⟨H,0,none⟩) xs.length cap)) (hz : w.frozen? ⟨S,o,none⟩ = false) (M : HeapM w B (.slice (some ⟨H,0,none⟩) xs.length cap) xs) (hA : HpAll (stp xs) xs.length) (hne : 0 < xs.length) (hlen : xs.length ≤ 100000) (hSH : ¬ S = H) (hS : ∀ y ∈ xs,¬ y.b = S ∧ ∀ a,y.ao = some a → ¬ a.block = S) :
  Calls Tryz.prog 139 #[.pointer (some ⟨S,o,none⟩)] w (zuc w S o B H cap xs):=by
 obtain ⟨P,p1,p2,p3⟩:=M.hp
 obtain ⟨m,hm⟩ : ∃ m,xs.length = m + 1:=⟨xs.length - 1,by omega⟩
 have hSl : S < w.heap.size:=World.block_lt_of_cell? w _ hc
 have c0:=(P.at' (i:=0) (by omega)).1
 have cl:=(P.at' (i:=m) (by omega)).1
 obtain ⟨W1,hW1⟩ : ∃ W1,W1 = (w.setCell ⟨H,0,none⟩ (.pointer (some ⟨(xs.getD m wy0).b,0,none⟩))).setCell ⟨H,m,none⟩ (.pointer none):=⟨_,rfl⟩
 obtain ⟨W2,hW2⟩ : ∃ W2,W2 = W1.setCell ⟨S,o,none⟩ (.slice (some ⟨H,0,none⟩) m cap):=⟨_,rfl⟩
 have hHS : ¬ H = S:=fun e => hSH e.symm
 have b1 : ∀ q,¬ q = H → W1.heap[q]? = w.heap[q]?:=fun q hq => by rw [hW1]; exact (Below.heap_setCell _ _ _ q hq).trans (Below.heap_setCell _ _ _ q hq)
 have b2 : ∀ q,¬ q = S → W2.heap[q]? = W1.heap[q]?:=fun q hq => by rw [hW2]; exact Below.heap_setCell _ _ _ q hq
 have s1 : W1.heap.size = w.heap.size:=by rw [hW1,World.size_setCell,World.size_setCell]
 have s2 : W2.heap.size = w.heap.size:=by rw [hW2,World.size_setCell,s1]
 have l0 : (w.setCell ⟨H,0,none⟩ (.pointer (some ⟨(xs.getD m wy0).b,0,none⟩))).cell? ⟨H,m,none⟩ = some (.pointer (some ⟨(xs.getD m wy0).b,0,none⟩)):=by
  rw [za1 w H 0 m _ _ c0]
  split
  ·rfl
  ·exact cl
 have cS1 : W1.cell? ⟨S,o,none⟩ = some (.slice (some ⟨H,0,none⟩) xs.length cap):=(World.cell?_of_block (a:=⟨S,o,none⟩) (b1 S hSH)).trans hc
 have cS2 : W2.cell? ⟨S,o,none⟩ = some (.slice (some ⟨H,0,none⟩) m cap):=by rw [hW2]; exact World.cell?_setCell_same _ _ _ cS1
 have wyk : ∀ x ∈ xs,WyM W2 x:=fun x hx => by
  obtain ⟨f1,f2⟩:=P.far x hx
  obtain ⟨f3,f4⟩:=hS x hx
  rw [hW2,hW1]
  exact (((P.wy x hx).other f1 f2).other f1 f2).other f3 f4
 have PX : HpM W2 H cap (zga xs m):=by
  refine ⟨fun i x hx => ?_,fun x hx => wyk x (zkY hm x hx),by rw [s2]; exact P.lt,fun x hx => P.far x (zkY hm x hx),fun j => ?_,?_⟩
  ·have hi : i < m:=by have:=(List.getElem?_eq_some_iff.1 hx).1; rw [zf1 hm] at this; exact this
   rw [znL hm hi] at hx
   rw [World.cell?_of_block (a:=⟨H,i,none⟩) (b2 H hHS),hW1,za1 _ H m i _ _ l0,if_neg (by omega),za1 w H 0 i _ _ c0]
   cases hx
   by_cases e : i = 0
   ·rw [if_pos e,if_pos e]
   ·rw [if_neg e,if_neg e]; exact (P.at' (i:=i) (by omega)).1
  ·rw [World.frozen?_of_block (a:=⟨H,j,none⟩) (b2 H hHS),hW1,zc5,zc5]; exact P.fz j
  ·obtain ⟨cur,h1,h2⟩:=P.shape
   refine ⟨_,(b2 H hHS).trans (by rw [hW1]; exact heap_setCell_same _ H m _ 197 _ (heap_setCell_same _ H 0 _ 197 _ h1)),by simpa using h2⟩
 have hK2 : ∀ W',W2.grownBy W' (some H) → Kept2 w W' S o (some H):=fun W' hg => by
  have hbS : W'.heap[S]? = W2.heap[S]?:=hg.block S (by omega) (fun e => hSH (by cases e; rfl))
  refine ⟨hg.os.trans (by rw [hW2,hW1]; rfl),hg.tape.trans (by rw [hW2,hW1]; rfl),hg.output.trans (by rw [hW2,hW1]; rfl),by rw [← s2]; exact hg.size,fun q hq h1 h2 => ?_,fun j hj => ?_,fun j => ?_⟩
  ·exact (hg.block q (by omega) h2).trans ((b2 q h1).trans (b1 q (fun e => h2 (by rw [e]))))
  ·rw [World.cell?_of_block (w:=W2) (a:=⟨S,j,none⟩) hbS,hW2,za1 _ S o j _ _ cS1,if_neg hj]
   exact World.cell?_of_block (a:=⟨S,j,none⟩) (b1 S hSH)
  ·rw [World.frozen?_of_block (w:=W2) (a:=⟨S,j,none⟩) hbS,hW2,zc5]
   exact World.frozen?_of_block (a:=⟨S,j,none⟩) (b1 S hSH)
 have x0in : xs.getD 0 wy0 ∈ xs:=(zgb hm).mem_iff.1 List.mem_cons_self
 have hfin : ∀ W' ys,W2.grownBy W' (some H) → ys.Perm (zga xs m) → HpM W' H cap ys → HpAll (stp ys) ys.length → ∃ ys : List Wy,(xs.getD 0 wy0 :: ys).Perm xs ∧ W'.cell? ⟨S,o,none⟩ = some (.slice (some ⟨H,0,none⟩) ys.length cap) ∧ HeapM W' B (.slice (some ⟨H,0,none⟩) ys.length cap) ys ∧ HpAll (stp ys) ys.length ∧ WyM W' (xs.getD 0 wy0) ∧ Kept2 w W' S o (some H):=fun W' ys hg hp hM hA2 => by
  have hyl : ys.length = m:=by rw [hp.length_eq,zf1 hm]
  refine ⟨ys,(List.Perm.cons _ hp).trans (zgb hm),?_,hM.heap (by omega) p2 p3,hA2,(wyk _ x0in).grown hg (fun g e => by cases e; exact P.far _ x0in),hK2 W' hg⟩
  rw [World.cell?_of_block (w:=W2) (a:=⟨S,o,none⟩) (hg.block S (by omega) (fun e => hSH (by cases e; rfl))),cS2,hyl]
 rw [hm] at hc p1
 refine (zrK hc hz hSH (by omega) p1 p2 c0 cl P.fz hSl (fun W' => ∃ ys : List Wy,(xs.getD 0 wy0 :: ys).Perm xs ∧ W'.cell? ⟨S,o,none⟩ = some (.slice (some ⟨H,0,none⟩) ys.length cap) ∧ HeapM W' B (.slice (some ⟨H,0,none⟩) ys.length cap) ys ∧ HpAll (stp ys) ys.length ∧ WyM W' (xs.getD 0 wy0) ∧ Kept2 w W' S o (some H)) (fun W hW => ?_)).mono fun e w' hh => hh
 rw [← hW1,← hW2] at hW
 have hW' : Below W2.heap.size W2 W:=by rw [s2]; exact hW
 by_cases h0 : m = 0
 ·subst h0
  refine zpp.mono ?_
  rintro e w' ⟨rfl,hb⟩
  have hb2 : Below W2.heap.size W2 w':=hW'.trans (hb.mono hW'.size)
  exact ⟨rfl,hfin w' (zga xs 0) (zaJ hb2) (List.Perm.refl _) (PX.below hb2) (fun i hi hn => by rw [zf1 hm] at hn; omega)⟩
 ·have hR : SinkI (stp (zga xs m)) m 0:=SinkI.head (m:=m) (n:=xs.length) hA (by omega) (fun i hi hn => by
   unfold stp
   have e:=znL hm (i:=i) hn
   rw [if_neg (by omega)] at e
   simp only [List.getD,e]
   rfl)
  refine (zua (cap:=cap) (PX.below hW') (zf1 hm) 0 (by omega) (by omega) hR).mono ?_
  rintro e w' ⟨rfl,ys,hp,hM,hA2,hg⟩
  exact ⟨rfl,hfin w' ys (zad (zaJ hW') hg) hp hM hA2⟩
end Go.Proofs.YtfpgjkbjbbgciaaGreatDoor
