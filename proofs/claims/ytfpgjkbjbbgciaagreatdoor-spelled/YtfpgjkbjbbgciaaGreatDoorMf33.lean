import Derived.Test.YtfpgjkbjbbgciaaGreatDoorMf23
import Derived.Test.YtfpgjkbjbbgciaaGreatDoorMf28
import Derived.Test.YtfpgjkbjbbgciaaGreatDoorMf31
import Derived.Test.YtfpgjkbjbbgciaaGreatDoorMf32
set_option maxRecDepth 100000
set_option maxHeartbeats 8000000
namespace Go.Proofs.YtfpgjkbjbbgciaaGreatDoor
open Go.RowKit Sp
structure MchAt (w : World) (b : Nat) (m : Mc) (bv iv ov : Value) : Prop where
 mem : MchM w b bv iv ov m
 backs : w.ownsRow (b + 1) 3 1 bv m.backs.length (i64s m.backs)
 out : w.ownsRow (b + 1) 2 1 ov m.out.length (i64s m.out)
 inp : SlB w b iv m.inp
theorem MchAt.same {w w' : World} {b : Nat} {m m2 : Mc} {bv iv ov : Value} (h : MchAt w b m bv iv ov) (hM : MchM w' b bv iv ov m2) (hg : w.grownBy w' (some b)) (e1 : m2.backs = m.backs) (e2 : m2.out = m.out) (e3 : m2.inp = m.inp) :
  MchAt w' b m2 bv iv ov ∧ Below b w w':=by
 have hb:=zdW h.mem.lt hg
 refine ⟨⟨hM,?_,?_,?_⟩,hb⟩
 ·rw [e1]; exact h.backs.kept hg (.inr (zbY h.backs))
 ·rw [e2]; exact h.out.kept hg (.inr (zbY h.out))
 ·rw [e3]; exact h.inp.below hb
def insT : Ins → Nat
 | .set _ _ => 167 | .mov _ _ => 169 | .alu o _ _ _ => if o = 0 then 171 else if o = 1 then 172 else 173 | .inc _ _ => 174 | .load _ _ => 176 | .store _ _ => 178
 | .read _ => 180 | .write _ => 182 | .jump _ => 185 | .less _ _ _ => 187 | .same _ _ _ => 188 | .call _ => 190 | .back => 192 | .stop => 193
def insF : Ins → Nat
 | .set _ _ => 223 | .mov _ _ => 230 | .alu o _ _ _ => if o = 0 then 232 else if o = 1 then 239 else 243 | .inc _ _ => 249 | .load _ _ => 251 | .store _ _ => 256
 | .read _ => 259 | .write _ => 262 | .jump _ => 265 | .less _ _ _ => 267 | .same _ _ _ => 274 | .call _ => 279 | .back => 284 | .stop => 288
def insA : Ins → Array Value
 | .set r k => #[.int .i64 (r : Int),.int .i64 k]
 | .mov r s => #[.int .i64 (r : Int),.int .i64 (s : Int)]
 | .alu _ r s t => #[.int .i64 (r : Int),.int .i64 (s : Int),.int .i64 (t : Int)]
 | .inc r k => #[.int .i64 (r : Int),.int .i64 k]
 | .load r s => #[.int .i64 (r : Int),.int .i64 (s : Int)]
 | .store r s => #[.int .i64 (r : Int),.int .i64 (s : Int)]
 | .read r => #[.int .i64 (r : Int)]
 | .write r => #[.int .i64 (r : Int)]
 | .jump to => #[.int .i64 to]
 | .less r s to => #[.int .i64 (r : Int),.int .i64 (s : Int),.int .i64 to]
 | .same r s to => #[.int .i64 (r : Int),.int .i64 (s : Int),.int .i64 to]
 | .call to => #[.int .i64 to]
 | .back => #[]
 | .stop => #[]
def zlO : Ins → Prop
 | .set r _ => r < 8
 | .mov r s => r < 8 ∧ s < 8
 | .alu o r s t => o ≤ 2 ∧ r < 8 ∧ s < 8 ∧ t < 8
 | .inc r _ => r < 8
 | .load r s => r < 8 ∧ s < 8
 | .store r s => r < 8 ∧ s < 8
 | .read r => r < 8
 | .write r => r < 8
 | .less r s _ => r < 8 ∧ s < 8
 | .same r s _ => r < 8 ∧ s < 8
 | _ => True
def zbo (i : Ins) (m : Mc) : Mc:=if (exec i (m.at' + 1) m).fin = 1 ∨ (exec i (m.at' + 1) m).fin = 2 then { exec i (m.at' + 1) m with at':=m.at' } else exec i (m.at' + 1) m
theorem zae {i : Ins} {m : Mc} (h : (exec i (m.at' + 1) m).fin = m.fin ∨ 2 < (exec i (m.at' + 1) m).fin) (h0 : m.fin = 0) : zbo i m = exec i (m.at' + 1) m:=by
 unfold zbo; rw [if_neg (by omega)]
structure InvC (m : Mc) : Prop where
 at0 : 0 ≤ m.at'
 at1 : m.at' ≤ 1000
 frames : m.frames = (m.backs.length : Int) + 1
 few : m.backs.length ≤ 15
 peak : ∃ p : Nat,m.peak = (p : Int) ∧ p ≤ 16
 steps : 0 ≤ m.steps
 out : (m.out.length : Int) ≤ m.steps
def zgR (w : World) (b : Nat) (m2 : Mc) : Ending → World → Prop:=fun e w' => e = .returned (.tuple #[]) ∧ ∃ bv iv ov,MchAt w' b m2 bv iv ov ∧ Below b w w'
theorem MchAt.done {w : World} {b f : Nat} {args : Array Value} {m m2 : Mc} {bv iv ov : Value} (M : MchAt w b m bv iv ov) (e1 : m2.backs = m.backs) (e2 : m2.out = m.out) (e3 : m2.inp = m.inp)
  (h : Calls Tryz.prog f args w fun e w' => e = .returned (.tuple #[]) ∧ MchM w' b bv iv ov m2 ∧ w.grownBy w' (some b)) : Calls Tryz.prog f args w (zgR w b m2):=by
 refine h.mono ?_
 rintro e w' ⟨h1,hM,hg⟩
 obtain ⟨h2,h3⟩:=M.same hM hg e1 e2 e3
 exact ⟨h1,_,_,_,h2,h3⟩
theorem zjG {w : World} {b r : Nat} {m : Mc} {bv iv ov : Value} (hr : r < 8) (M : MchAt w b m bv iv ov) (I : InvC m) (hst : m.steps ≤ 99999) (hin : m.inp.length ≤ 9223372036854775807) :
  Calls Tryz.prog 259 #[.agg #[.int .i64 (r : Int)],.pointer (some ⟨b,0,none⟩)] w (zgR w b (exec (.read r) (m.at' + 1) m)):=by
 have h0:=I.steps
 have ha:=I.at0
 have hb:=I.at1
 obtain ⟨ao,cap,rfl,hcap,hl⟩:=M.inp
 cases hi : m.inp with
 | nil =>
  have hz : m.inp.length = 0:=by rw [hi]; rfl
  have hm:=M.mem
  rw [hz] at hm
  have e1 : exec (.read r) (m.at' + 1) m = { m with regs:=upd m.regs r 0 }.goes (m.at' + 1):=by simp [exec,hi,Mc.goes]
  rw [e1]
  refine (zin w b cap r bv ov ao m hr hm h0 (by omega) ha (by omega)).mono ?_
  rintro e w' ⟨h1,hM,hg⟩
  rw [← hz] at hM
  obtain ⟨h2,h3⟩:=M.same hM hg rfl rfl rfl
  exact ⟨h1,_,_,_,h2,h3⟩
 | cons x l =>
  obtain ⟨g,o,rfl,hgb,hgs,hc⟩:=hl (by rw [hi]; simp)
  have hz : m.inp.length = l.length + 1:=by rw [hi]; rfl
  have hm:=M.mem
  rw [hz] at hm
  have hx : w.cell? ⟨g,o,none⟩ = some (.int .i64 x):=by
   have:=hc 0 (by omega)
   rw [Nat.add_zero] at this
   rw [this]
   simp [hi]
  have e1 : exec (.read r) (m.at' + 1) m = { m with regs:=upd m.regs r x,inp:=l }.goes (m.at' + 1):=by simp [exec,hi,Mc.goes]
  rw [e1]
  refine (zio w b cap r g o l.length bv ov m x l hr hm hx (by omega) (by omega) h0 (by omega) ha (by omega)).mono ?_
  rintro e w' ⟨h1,⟨o',hM,ho⟩,hg⟩
  have hB:=zdW M.mem.lt hg
  refine ⟨h1,_,_,_,⟨hM,M.backs.kept hg (.inr (zbY M.backs)),M.out.kept hg (.inr (zbY M.out)),?_⟩,hB⟩
  refine ⟨some ⟨g,o',none⟩,cap - 1,rfl,by show l.length ≤ cap - 1; omega,fun hp => ⟨g,o',rfl,hgb,Nat.lt_of_lt_of_le hgs hB.size,fun j hj => ?_⟩⟩
  rcases ho with ho | rfl
  ·have : 0 < l.length:=hp
   omega
  ·have hj2 : j < l.length:=hj
   have:=hc (j + 1) (by omega)
   rw [show o + (j + 1) = o + 1 + j by omega] at this
   rw [(hB.cell (p:=⟨g,o + 1 + j,none⟩) hgb).trans this]
   simp [hi,Mc.goes]
theorem ziq {w : World} {b r : Nat} {m : Mc} {bv iv ov : Value} (hr : r < 8) (M : MchAt w b m bv iv ov) (I : InvC m) (hst : m.steps ≤ 99999) :
  Calls Tryz.prog 262 #[.agg #[.int .i64 (r : Int)],.pointer (some ⟨b,0,none⟩)] w (zgR w b (exec (.write r) (m.at' + 1) m)):=by
 have h0:=I.steps
 have ha:=I.at0
 have hb:=I.at1
 have hlen:=I.out
 refine (zpz w b r bv iv ov m hr M.mem M.out (by omega) h0 (by omega) ha (by omega)).mono ?_
 rintro e w' ⟨h1,v',w4,hM,how,hg4,hg⟩
 have hb4 : Below b w w4:=(Below.refl b w).grown hg4 (by have:=M.mem.lt; omega) (fun q hq => by have:=(M.out.lt q hq).1; omega)
 have hB : Below b w w':=hb4.trans ((Below.refl b w4).grown hg (by have:=hb4.size; have:=M.mem.lt; omega) (fun j hj => by cases hj; exact Nat.le_refl _))
 refine ⟨h1,_,_,_,⟨hM,?_,?_,M.inp.below hB⟩,hB⟩
 ·exact (M.backs.kept hg4 (zbR M.backs M.out (by decide))).kept hg (.inr (zbY M.backs))
 ·have:=how.kept hg (.inr (zbY how))
  show World.ownsRow _ (b + 1) 2 1 _ (m.out ++ [m.regs r]).length (i64s (m.out ++ [m.regs r]))
  rw [List.length_append]
  exact this
theorem zjH {w : World} {b : Nat} {m : Mc} {bv iv ov : Value} (to : Int) (M : MchAt w b m bv iv ov) (I : InvC m) (hfin : m.fin = 0) (hst : m.steps ≤ 99999) :
  Calls Tryz.prog 279 #[.agg #[.int .i64 to],.pointer (some ⟨b,0,none⟩)] w (zgR w b (exec (.call to) (m.at' + 1) m)):=by
 have h0:=I.steps
 have ha:=I.at0
 have hb:=I.at1
 have hfr:=I.frames
 have hfew:=I.few
 obtain ⟨p,hp,hp1⟩:=I.peak
 obtain ⟨ao,c,rfl⟩:=za9 M.backs
 have h2 : (m.fin == 2) = false:=by rw [hfin]; rfl
 by_cases hf : m.frames = 16
 ·have e1 : exec (.call to) (m.at' + 1) m = { m with fin:=4 }:=if_pos hf
  rw [e1]
  have hz : m.backs.length = 15:=by omega
  have hm:=M.mem
  rw [hz] at hm
  refine (zip w b c ao iv ov m to hm h2).mono ?_
  rintro e w' ⟨h1,hM,hg⟩
  rw [← hz] at hM
  obtain ⟨h2,h3⟩:=M.same hM hg rfl rfl rfl
  exact ⟨h1,_,_,_,h2,h3⟩
 ·have e1 : exec (.call to) (m.at' + 1) m = { m with backs:=m.backs ++ [m.at' + 1],frames:=m.frames + 1,peak:=max m.peak (m.frames + 1) }.goes to:=if_neg hf
  rw [e1]
  have hpk : max m.peak (m.frames + 1) = max m.peak ((m.backs.length : Int) + 2):=by rw [hfr,Int.add_assoc]; rfl
  rw [hpk]
  refine (zlM w b c ao iv ov m to p M.mem h2 M.backs (by omega) hp hp1 h0 (by omega) ha (by omega)).mono ?_
  rintro e w' ⟨h1,g,c',w4,hM,how,hg4,hg⟩
  have hb4 : Below b w w4:=(Below.refl b w).grown hg4 (by have:=M.mem.lt; omega) (fun q hq => by have:=(M.backs.lt q hq).1; omega)
  have hB : Below b w w':=hb4.trans ((Below.refl b w4).grown hg (by have:=hb4.size; have:=M.mem.lt; omega) (fun j hj => by cases hj; exact Nat.le_refl _))
  refine ⟨h1,_,_,_,⟨hM.frames (m.frames + 1),?_,?_,M.inp.below hB⟩,hB⟩
  ·have:=how.kept hg (.inr (zbY how))
   show World.ownsRow _ (b + 1) 3 1 _ (m.backs ++ [m.at' + 1]).length (i64s (m.backs ++ [m.at' + 1]))
   rw [List.length_append]
   exact this
  ·exact (M.out.kept hg4 (zbR M.out M.backs (by decide))).kept hg (.inr (zbY M.out))
theorem zjI {w : World} {b : Nat} {m : Mc} {bv iv ov : Value} (M : MchAt w b m bv iv ov) (I : InvC m) (hfin : m.fin = 0) (hst : m.steps ≤ 99999) :
  Calls Tryz.prog 284 #[.agg #[],.pointer (some ⟨b,0,none⟩)] w (zgR w b (zbo .back m)):=by
 have h0:=I.steps
 have hfr:=I.frames
 have hfew:=I.few
 by_cases hf : m.frames = 1
 ·have hz : m.backs.length = 0:=by omega
  have e0 : exec .back (m.at' + 1) m = { m with frames:=0,fin:=2 }.goes (-1):=if_pos hf
  have e1 : zbo .back m = { m with steps:=m.steps + 1,frames:=0,fin:=2 }:=by
   unfold zbo; rw [e0,if_pos (.inr rfl)]; rfl
  rw [e1]
  obtain ⟨ao,c,rfl⟩:=za9 M.backs
  have hm:=M.mem
  rw [hz] at hm
  refine (zjF w b c ao iv ov m hm h0 (by omega)).mono ?_
  rintro e w' ⟨h1,hM,hg⟩
  rw [← hz] at hM
  obtain ⟨h2,h3⟩:=M.same (hM.frames 0) hg rfl rfl rfl
  exact ⟨h1,_,_,_,h2,h3⟩
 ·have e0 : exec .back (m.at' + 1) m = { m with frames:=m.frames - 1,backs:=m.backs.dropLast }.goes (m.backs.getLastD 0):=if_neg hf
  have e1 : zbo .back m = { m with frames:=m.frames - 1,backs:=m.backs.dropLast }.goes (m.backs.getLastD 0):=by
   rw [zae (.inl (by rw [e0]; rfl)) hfin,e0]
  rw [e1]
  obtain ⟨I',x,hI⟩ : ∃ I x,m.backs = I ++ [x]:=by
   rcases List.eq_nil_or_concat m.backs with h | ⟨I,x,h⟩
   ·rw [h] at hfr; simp at hfr; omega
   ·exact ⟨I,x,by rw [h,List.concat_eq_append]⟩
  have hrow:=M.backs
  have hIl : m.backs.length = I'.length + 1:=by rw [hI]; simp
  rw [hIl] at hrow
  obtain ⟨gb,c,hbv,hgb,hgl⟩:=hrow.form (by omega)
  have hcap : I'.length + 1 ≤ c:=by
   rcases hrow.2 with ⟨h',_⟩ | ⟨g',cap',cur,h',_,_,hnc,_⟩
   ·rw [hbv] at h'; simp at h'
   ·rw [hbv] at h'; simp at h'; omega
  have hcell : w.cell? ⟨gb,I'.length,none⟩ = some (.int .i64 x):=by
   rw [hbv] at hrow
   rw [World.ownsRow.cellAt hrow I'.length (by omega),hI]
   simp
  have hlast : m.backs.getLastD 0 = x:=by rw [hI]; simp
  rw [hlast]
  have hm:=M.mem
  rw [hbv] at hm
  refine (zlN w b c gb I'.length iv ov m x m.backs.dropLast hm hcell (by omega) (by omega) hcap h0 (by omega)).mono ?_
  rintro e w' ⟨h1,hM,hg⟩
  have hb:=zdW M.mem.lt hg
  refine ⟨h1,_,_,_,⟨hM.frames (m.frames - 1),?_,M.out.kept hg (.inr (zbY M.out)),M.inp.below hb⟩,hb⟩
  have hk:=hrow.kept hg (.inr (zbY hrow))
  rw [hbv] at hk
  show World.ownsRow _ (b + 1) 3 1 _ m.backs.dropLast.length (i64s m.backs.dropLast)
  rw [hI] at hk ⊢
  simp only [List.dropLast_concat]
  exact zpn hk
theorem zrO {w : World} {b : Nat} {m : Mc} {bv iv ov : Value} (i : Ins) (hi : zlO i) (M : MchAt w b m bv iv ov) (I : InvC m) (hfin : m.fin = 0) (hst : m.steps ≤ 99999) (hin : m.inp.length ≤ 9223372036854775807) :
  Calls Tryz.prog (insF i) #[.agg (insA i),.pointer (some ⟨b,0,none⟩)] w (zgR w b (zbo i m)):=by
 have h0:=I.steps
 have ha:=I.at0
 have hb:=I.at1
 cases i with
 | set r k => rw [zae (.inl rfl) hfin]; exact M.done rfl rfl rfl (zrI w b bv iv ov m r hi k M.mem h0 (by omega) ha (by omega))
 | mov r s => rw [zae (.inl rfl) hfin]; exact M.done rfl rfl rfl (zrJ w b bv iv ov m r s hi.1 hi.2 M.mem h0 (by omega) ha (by omega))
 | alu o r s t =>
  rw [zae (.inl rfl) hfin]
  obtain ⟨ho,hr,hs,ht⟩:=hi
  match o,ho with
  | 0,_ => exact M.done rfl rfl rfl (zrK w b bv iv ov m r s t hr hs ht M.mem h0 (by omega) ha (by omega))
  | 1,_ => exact M.done rfl rfl rfl (zrL w b bv iv ov m r s t hr hs ht M.mem h0 (by omega) ha (by omega))
  | 2,_ => exact M.done rfl rfl rfl (zrM w b bv iv ov m r s t hr hs ht M.mem h0 (by omega) ha (by omega))
 | inc r k => rw [zae (.inl rfl) hfin]; exact M.done rfl rfl rfl (zrN w b bv iv ov m r hi k M.mem h0 (by omega) ha (by omega))
 | load r s =>
  by_cases hn : m.regs s < 0 ∨ 15 < m.regs s
  ·have e1 : exec (.load r s) (m.at' + 1) m = { m with fin:=3 }:=if_pos hn
   have hd:=zjD w b bv iv ov m r s hi.1 hi.2 M.mem hn
   rw [zae (.inr (by rw [e1]; show (2 : Int) < 3; decide)) hfin]
   rw [e1] at hd ⊢
   exact M.done rfl rfl rfl hd
  ·obtain ⟨n,hn'⟩:=Int.eq_ofNat_of_zero_le (by omega : 0 ≤ m.regs s)
   have e1 : exec (.load r s) (m.at' + 1) m = { m with regs:=upd m.regs r (m.cells (m.regs s).toNat) }.goes (m.at' + 1):=if_neg hn
   have hd:=zlI w b bv iv ov m r s n hi.1 hi.2 (by omega) hn' M.mem h0 (by omega) ha (by omega)
   rw [zae (.inl (by rw [e1]; rfl)) hfin]
   rw [e1] at hd ⊢
   exact M.done rfl rfl rfl hd
 | store r s =>
  by_cases hn : m.regs r < 0 ∨ 15 < m.regs r
  ·have e1 : exec (.store r s) (m.at' + 1) m = { m with fin:=3 }:=if_pos hn
   have hd:=zim w b bv iv ov m r s hi.1 hi.2 M.mem hn
   rw [zae (.inr (by rw [e1]; show (2 : Int) < 3; decide)) hfin]
   rw [e1] at hd ⊢
   exact M.done rfl rfl rfl hd
  ·obtain ⟨n,hn'⟩:=Int.eq_ofNat_of_zero_le (by omega : 0 ≤ m.regs r)
   have e1 : exec (.store r s) (m.at' + 1) m = { m with cells:=upd m.cells (m.regs r).toNat (m.regs s) }.goes (m.at' + 1):=if_neg hn
   have hd:=zjE w b bv iv ov m r s n hi.1 hi.2 (by omega) hn' M.mem h0 (by omega) ha (by omega)
   rw [zae (.inl (by rw [e1]; rfl)) hfin]
   rw [e1] at hd ⊢
   exact M.done rfl rfl rfl hd
 | read r => rw [zae (.inl rfl) hfin]; exact zjG hi M I hst hin
 | write r => rw [zae (.inl rfl) hfin]; exact ziq hi M I hst
 | jump to => rw [zae (.inl rfl) hfin]; exact M.done rfl rfl rfl (zqW w b bv iv ov m to M.mem h0 (by omega))
 | less r s to => rw [zae (.inl rfl) hfin]; exact M.done rfl rfl rfl (zqX w b bv iv ov m r s hi.1 hi.2 to M.mem h0 (by omega) ha (by omega))
 | same r s to => rw [zae (.inl rfl) hfin]; exact M.done rfl rfl rfl (zqY w b bv iv ov m r s hi.1 hi.2 to M.mem h0 (by omega) ha (by omega))
 | call to =>
  have hc:=zjH to M I hfin hst
  rw [zae ?_ hfin]
  ·exact hc
  ·simp only [exec]
   split
   ·exact .inr (by show (2 : Int) < 4; decide)
   ·exact .inl rfl
 | back => exact zjI M I hfin hst
 | stop =>
  have e1 : zbo .stop m = { m with steps:=m.steps + 1,fin:=1 }:=by
   unfold zbo; rw [show exec .stop (m.at' + 1) m = { m with fin:=1 }.goes (-1) from rfl,if_pos (.inl rfl)]; rfl
  rw [e1]
  exact M.done rfl rfl rfl (zqZ w b bv iv ov m M.mem h0 (by omega))
def InC (N : Nat) (z : Int) : Prop:=∃ k : Nat,z = (k : Int) ∧ k < N
def zp1 (N p : Nat) : Ins → Prop
 | .jump to => InC N to
 | .less _ _ to => InC N to ∧ p + 1 < N
 | .same _ _ to => InC N to ∧ p + 1 < N
 | .call to => InC N to ∧ p + 1 < N
 | .back => True
 | .stop => True
 | _ => p + 1 < N
structure InvD (N : Nat) (m : Mc) : Prop where
 at_ : InC N m.at'
 backs : ∀ z ∈ m.backs,InC N z
 frames : m.frames = if m.fin = 2 then 0 else (m.backs.length : Int) + 1
 few : m.backs.length ≤ 15
 peak : ∃ p : Nat,m.peak = (p : Int) ∧ p ≤ 16
 steps : 0 ≤ m.steps
 out : (m.out.length : Int) ≤ m.steps
theorem InvD.inv {N : Nat} {m : Mc} (I : InvD N m) (hN : N ≤ 300) (h : m.fin = 0) : InvC m:=by
 obtain ⟨k,hk,hlt⟩:=I.at_
 have hf:=I.frames
 rw [if_neg (by omega)] at hf
 exact ⟨by omega,by omega,hf,I.few,I.peak,I.steps,I.out⟩
theorem InvD.goes {N : Nat} {m m1 : Mc} {z : Int} (I : InvD N m) (h : InC N z) (e1 : m1.backs = m.backs) (e2 : m1.frames = m.frames) (e3 : m1.peak = m.peak) (e4 : m1.steps = m.steps) (e5 : m1.out.length ≤ m.out.length + 1) (e6 : m1.fin = m.fin) : InvD N (m1.goes z):=by
 have hs:=I.steps
 have ho:=I.out
 refine ⟨h,?_,?_,?_,?_,?_,?_⟩
 ·show ∀ z ∈ m1.backs,_; rw [e1]; exact I.backs
 ·show m1.frames = if m1.fin = 2 then 0 else (m1.backs.length : Int) + 1; rw [e1,e2,e6]; exact I.frames
 ·show m1.backs.length ≤ 15; rw [e1]; exact I.few
 ·show ∃ p : Nat,m1.peak = (p : Int) ∧ p ≤ 16; rw [e3]; exact I.peak
 ·show 0 ≤ m1.steps + 1; omega
 ·show (m1.out.length : Int) ≤ m1.steps + 1; omega
theorem InvD.fault {N : Nat} {m : Mc} {x : Int} (I : InvD N m) (h : m.fin = 0) (hx : ¬ x = 2) : InvD N { m with fin:=x }:=by
 have hf:=I.frames
 rw [if_neg (by omega)] at hf
 exact ⟨I.at_,I.backs,by show m.frames = if x = 2 then 0 else (m.backs.length : Int) + 1; rw [if_neg hx]; exact hf,I.few,I.peak,I.steps,I.out⟩
theorem InvD.step {N p : Nat} {m : Mc} {i : Ins} (I : InvD N m) (hfin : m.fin = 0) (hp : m.at' = (p : Int)) (hl : zp1 N p i) : InvD N (zbo i m):=by
 have hnx : p + 1 < N → InC N (m.at' + 1):=fun h => ⟨p + 1,by omega,h⟩
 have hf:=I.frames
 rw [if_neg (by omega)] at hf
 cases i with
 | set r k => rw [zae (.inl rfl) hfin]; exact I.goes (hnx hl) rfl rfl rfl rfl (Nat.le_succ _) rfl
 | mov r s => rw [zae (.inl rfl) hfin]; exact I.goes (hnx hl) rfl rfl rfl rfl (Nat.le_succ _) rfl
 | alu o r s t => rw [zae (.inl rfl) hfin]; exact I.goes (hnx hl) rfl rfl rfl rfl (Nat.le_succ _) rfl
 | inc r k => rw [zae (.inl rfl) hfin]; exact I.goes (hnx hl) rfl rfl rfl rfl (Nat.le_succ _) rfl
 | load r s =>
  by_cases hn : m.regs s < 0 ∨ 15 < m.regs s
  ·have e1 : exec (.load r s) (m.at' + 1) m = { m with fin:=3 }:=if_pos hn
   rw [zae (.inr (by rw [e1]; show (2 : Int) < 3; decide)) hfin,e1]
   exact I.fault hfin (by decide)
  ·have e1 : exec (.load r s) (m.at' + 1) m = { m with regs:=upd m.regs r (m.cells (m.regs s).toNat) }.goes (m.at' + 1):=if_neg hn
   rw [zae (.inl (by rw [e1]; rfl)) hfin,e1]
   exact I.goes (hnx hl) rfl rfl rfl rfl (Nat.le_succ _) rfl
 | store r s =>
  by_cases hn : m.regs r < 0 ∨ 15 < m.regs r
  ·have e1 : exec (.store r s) (m.at' + 1) m = { m with fin:=3 }:=if_pos hn
   rw [zae (.inr (by rw [e1]; show (2 : Int) < 3; decide)) hfin,e1]
   exact I.fault hfin (by decide)
  ·have e1 : exec (.store r s) (m.at' + 1) m = { m with cells:=upd m.cells (m.regs r).toNat (m.regs s) }.goes (m.at' + 1):=if_neg hn
   rw [zae (.inl (by rw [e1]; rfl)) hfin,e1]
   exact I.goes (hnx hl) rfl rfl rfl rfl (Nat.le_succ _) rfl
 | read r => rw [zae (.inl rfl) hfin]; exact I.goes (hnx hl) rfl rfl rfl rfl (Nat.le_succ _) rfl
 | write r => rw [zae (.inl rfl) hfin]; exact I.goes (hnx hl) rfl rfl rfl rfl (by show (m.out ++ [_]).length ≤ _; simp) rfl
 | jump to => rw [zae (.inl rfl) hfin]; exact I.goes hl rfl rfl rfl rfl (Nat.le_succ _) rfl
 | less r s to =>
  rw [zae (.inl rfl) hfin]
  refine I.goes (m1:=m) ?_ rfl rfl rfl rfl (Nat.le_succ _) rfl
  split
  ·exact hl.1
  ·exact hnx hl.2
 | same r s to =>
  rw [zae (.inl rfl) hfin]
  refine I.goes (m1:=m) ?_ rfl rfl rfl rfl (Nat.le_succ _) rfl
  split
  ·exact hl.1
  ·exact hnx hl.2
 | call to =>
  by_cases h16 : m.frames = 16
  ·have e1 : exec (.call to) (m.at' + 1) m = { m with fin:=4 }:=if_pos h16
   rw [zae (.inr (by rw [e1]; show (2 : Int) < 4; decide)) hfin,e1]
   exact I.fault hfin (by decide)
  ·have e1 : exec (.call to) (m.at' + 1) m = { m with backs:=m.backs ++ [m.at' + 1],frames:=m.frames + 1,peak:=max m.peak (m.frames + 1) }.goes to:=if_neg h16
   rw [zae (.inl (by rw [e1]; rfl)) hfin,e1]
   have hs:=I.steps
   have ho:=I.out
   have hw:=I.few
   obtain ⟨pk,hpk,hpk1⟩:=I.peak
   refine ⟨hl.1,?_,?_,?_,?_,?_,?_⟩
   ·show ∀ z ∈ m.backs ++ [m.at' + 1],_
    intro z hz
    rw [List.mem_append,List.mem_singleton] at hz
    rcases hz with hz | rfl
    ·exact I.backs z hz
    ·exact hnx hl.2
   ·show m.frames + 1 = if m.fin = 2 then 0 else ((m.backs ++ [m.at' + 1]).length : Int) + 1
    rw [if_neg (by omega),hf]; simp
   ·show (m.backs ++ [m.at' + 1]).length ≤ 15
    simp; omega
   ·show ∃ q : Nat,max m.peak (m.frames + 1) = (q : Int) ∧ q ≤ 16
    exact ⟨max pk (m.backs.length + 2),by rw [hpk,hf]; omega,by omega⟩
   ·show 0 ≤ m.steps + 1; omega
   ·show (m.out.length : Int) ≤ m.steps + 1; omega
 | back =>
  have hs:=I.steps
  have ho:=I.out
  by_cases h1 : m.frames = 1
  ·have e0 : exec .back (m.at' + 1) m = { m with frames:=0,fin:=2 }.goes (-1):=if_pos h1
   have e1 : zbo .back m = { m with steps:=m.steps + 1,frames:=0,fin:=2 }:=by
    unfold zbo; rw [e0,if_pos (.inr rfl)]; rfl
   rw [e1]
   exact ⟨I.at_,I.backs,by show (0 : Int) = if (2 : Int) = 2 then 0 else _; rw [if_pos rfl],I.few,I.peak,by show 0 ≤ m.steps + 1; omega,by show (m.out.length : Int) ≤ m.steps + 1; omega⟩
  ·have e0 : exec .back (m.at' + 1) m = { m with frames:=m.frames - 1,backs:=m.backs.dropLast }.goes (m.backs.getLastD 0):=if_neg h1
   rw [zae (.inl (by rw [e0]; rfl)) hfin,e0]
   obtain ⟨J,x,hJ⟩ : ∃ I x,m.backs = I ++ [x]:=by
    rcases List.eq_nil_or_concat m.backs with h | ⟨I,x,h⟩
    ·rw [h] at hf; simp at hf; omega
    ·exact ⟨I,x,by rw [h,List.concat_eq_append]⟩
   have hb:=I.backs
   have hw:=I.few
   rw [hJ] at hb hw hf
   simp at hw hf
   refine ⟨?_,?_,?_,?_,I.peak,?_,?_⟩
   ·show InC N (m.backs.getLastD 0)
    rw [hJ]; simp
    exact hb x (by simp)
   ·show ∀ z ∈ m.backs.dropLast,_
    rw [hJ]; simp
    intro z hz
    exact hb z (by simp [hz])
   ·show m.frames - 1 = if m.fin = 2 then 0 else (m.backs.dropLast.length : Int) + 1
    rw [if_neg (by omega),hJ]; simp; omega
   ·show m.backs.dropLast.length ≤ 15
    rw [hJ]; simp; omega
   ·show 0 ≤ m.steps + 1; omega
   ·show (m.out.length : Int) ≤ m.steps + 1; omega
 | stop =>
  have hs:=I.steps
  have ho:=I.out
  have e1 : zbo .stop m = { m with steps:=m.steps + 1,fin:=1 }:=by
   unfold zbo; rw [show exec .stop (m.at' + 1) m = { m with fin:=1 }.goes (-1) from rfl,if_pos (.inl rfl)]; rfl
  rw [e1]
  exact ⟨I.at_,I.backs,by show m.frames = if (1 : Int) = 2 then 0 else _; rw [if_neg (by decide)]; exact hf,I.few,I.peak,by show 0 ≤ m.steps + 1; omega,by show (m.out.length : Int) ≤ m.steps + 1; omega⟩
theorem zgi (i : Ins) (m : Mc) (h : m.fin = 0) :
  (((zbo i m).fin = 0 ∨ (zbo i m).fin = 1 ∨ (zbo i m).fin = 2) ∧ (zbo i m).steps = m.steps + 1 ∨ ((zbo i m).fin = 3 ∨ (zbo i m).fin = 4) ∧ (zbo i m).steps = m.steps) ∧ (zbo i m).inp.length ≤ m.inp.length:=by
 obtain ⟨F,hi⟩:=zlQ i (m.at' + 1) m h
 unfold zbo
 rcases F with ⟨h1,h2⟩ | ⟨h1,_,h2⟩ | ⟨h1,_,h2⟩
 ·rw [if_neg (by omega)]; exact ⟨.inl ⟨.inl h1,h2⟩,hi⟩
 ·rw [if_pos h1]; exact ⟨.inl ⟨.inr h1,h2⟩,hi⟩
 ·rw [if_neg (by omega)]; exact ⟨.inr ⟨h1,h2⟩,hi⟩
def CodeIn (w : World) (g : Nat) (C : List (Ins × Int)) : Prop:=∀ j (h : j < C.length),w.cell? ⟨g,j * 2,none⟩ = some (.iface (insT C[j].1) (.agg (insA C[j].1))) ∧ w.cell? ⟨g,j * 2 + 1,none⟩ = some (.int .i64 C[j].2)
structure CodeOk (C : List (Ins × Int)) : Prop where
 some_ : 0 < C.length
 few : C.length ≤ 300
 ok : ∀ j (h : j < C.length),zlO C[j].1
 leads : ∀ j (h : j < C.length),zp1 C.length j C[j].1
def zcI (C : List (Ins × Int)) (m : Mc) : Mc:=match C[m.at'.toNat]? with | none => m | some q => zbo q.1 m
theorem zfw {C : List (Ins × Int)} {m : Mc} {k : Nat} (hk : m.at' = (k : Int)) (h : k < C.length) : zcI C m = zbo C[k].1 m:=by
 unfold zcI; rw [hk,Int.toNat_natCast,List.getElem?_eq_getElem h]
def zbH (inp : List Int) : Mc:=⟨0,[],inp,0,fun _ => 0,fun _ => 0,[],1,1,0⟩
def zeL (C : List (Ins × Int)) (m : Mc) : Int:=if m.fin = 1 ∨ m.fin = 2 then 0 else (C[m.at'.toNat]?.map (·.2)).getD 0
theorem CodeIn.below {w w' : World} {g B : Nat} {C : List (Ins × Int)} (h : CodeIn w g C) (hb : Below B w w') (hg : g < B) : CodeIn w' g C:=fun j hj => ⟨(hb.cell (p:=⟨g,j * 2,none⟩) hg).trans (h j hj).1,(hb.cell (p:=⟨g,j * 2 + 1,none⟩) hg).trans (h j hj).2⟩
theorem zeM {C : List (Ins × Int)} (K : CodeOk C) (inp : List Int) : InvD C.length (zbH inp) :=
 ⟨⟨0,rfl,K.some_⟩,by simp [zbH],rfl,by simp [zbH],⟨1,rfl,by omega⟩,Int.le_refl _,Int.le_refl _⟩
def ziv (f : Int → Int) : Ins → Ins
 | .jump to => .jump (f to)
 | .less r s to => .less r s (f to)
 | .same r s to => .same r s (f to)
 | .call to => .call (f to)
 | i => i
def lift (f : Int → Int) (m : Mc) : Mc:={ m with at':=if m.fin = 1 ∨ m.fin = 2 then -1 else f m.at',backs:=m.backs.map f }
structure SimOk (L : List Said) (C : List (Ins × Int)) (f : Int → Int) : Prop where
 line : ∀ p (h : p < C.length),∃ k : Nat,f (p : Int) = (k : Int) ∧ ∃ hk : k < L.length,insQ L k L[k] = ziv f C[p].1 ∧ C[p].2 = (k : Int) + 1 ∧ (p + 1 < C.length → zp1 C.length p C[p].1 → (∀ to,C[p].1 ≠ .jump to) → C[p].1 ≠ .back → C[p].1 ≠ .stop → zan L (k + 1) = f ((p : Int) + 1))
theorem zdX {f : Int → Int} {m : Mc} (h : ¬ (m.fin = 1 ∨ m.fin = 2)) : lift f m = { m with at':=f m.at',backs:=m.backs.map f }:=by unfold lift; rw [if_neg h]
theorem zk9 {f : Int → Int} {m : Mc} (h : m.fin = 1 ∨ m.fin = 2) : lift f m = { m with at':=-1,backs:=m.backs.map f }:=by unfold lift; rw [if_pos h]
theorem zaU {f : Int → Int} {m1 : Mc} {z : Int} (h : m1.fin = 0) : lift f (m1.goes z) = { m1 with backs:=m1.backs.map f }.goes (f z):=by
 rw [zdX (by show ¬ (m1.fin = 1 ∨ m1.fin = 2); omega)]; rfl
theorem znH {N : Nat} {f : Int → Int} {m : Mc} {i : Ins} {next : Int} (I : InvD N m) (hfin : m.fin = 0) (hnext : (∀ to,i ≠ .jump to) → i ≠ .back → i ≠ .stop → next = f (m.at' + 1)) :
  exec (ziv f i) next (lift f m) = lift f (zbo i m):=by
 have hl : lift f m = { m with at':=f m.at',backs:=m.backs.map f }:=zdX (by omega)
 have hf:=I.frames
 rw [if_neg (by omega)] at hf
 rw [hl]
 cases i with
 | set r k =>
  rw [zae (.inl rfl) hfin,hnext (by simp) (by simp) (by simp),show exec (.set r k) (m.at' + 1) m = Mc.goes { m with regs:=upd m.regs r k } (m.at' + 1) from rfl,zaU]
  ·rfl
  ·exact hfin
 | mov r s =>
  rw [zae (.inl rfl) hfin,hnext (by simp) (by simp) (by simp),show exec (.mov r s) (m.at' + 1) m = Mc.goes { m with regs:=upd m.regs r (m.regs s) } (m.at' + 1) from rfl,zaU]
  ·rfl
  ·exact hfin
 | alu o r s t =>
  rw [zae (.inl rfl) hfin,hnext (by simp) (by simp) (by simp),show exec (.alu o r s t) (m.at' + 1) m = Mc.goes { m with regs:=upd m.regs r (zcl o (m.regs s) (m.regs t)) } (m.at' + 1) from rfl,zaU]
  ·rfl
  ·exact hfin
 | inc r k =>
  rw [zae (.inl rfl) hfin,hnext (by simp) (by simp) (by simp),show exec (.inc r k) (m.at' + 1) m = Mc.goes { m with regs:=upd m.regs r (w64 (m.regs r + k)) } (m.at' + 1) from rfl,zaU]
  ·rfl
  ·exact hfin
 | read r =>
  rw [zae (.inl rfl) hfin,hnext (by simp) (by simp) (by simp),show exec (.read r) (m.at' + 1) m = Mc.goes { m with regs:=upd m.regs r (m.inp.headD 0),inp:=m.inp.tail } (m.at' + 1) from rfl,zaU]
  ·rfl
  ·exact hfin
 | write r =>
  rw [zae (.inl rfl) hfin,hnext (by simp) (by simp) (by simp),show exec (.write r) (m.at' + 1) m = Mc.goes { m with out:=m.out ++ [m.regs r] } (m.at' + 1) from rfl,zaU]
  ·rfl
  ·exact hfin
 | load r s =>
  by_cases hn : m.regs s < 0 ∨ 15 < m.regs s
  ·have e1 : exec (.load r s) (m.at' + 1) m = { m with fin:=3 }:=if_pos hn
   rw [zae (.inr (by rw [e1]; show (2 : Int) < 3; decide)) hfin,e1,zdX (by show ¬ ((3 : Int) = 1 ∨ (3 : Int) = 2); decide)]
   exact if_pos hn
  ·have e1 : exec (.load r s) (m.at' + 1) m = { m with regs:=upd m.regs r (m.cells (m.regs s).toNat) }.goes (m.at' + 1):=if_neg hn
   rw [zae (.inl (by rw [e1]; rfl)) hfin,e1,zaU,hnext (by simp) (by simp) (by simp)]
   exact if_neg hn
   exact hfin
 | store r s =>
  by_cases hn : m.regs r < 0 ∨ 15 < m.regs r
  ·have e1 : exec (.store r s) (m.at' + 1) m = { m with fin:=3 }:=if_pos hn
   rw [zae (.inr (by rw [e1]; show (2 : Int) < 3; decide)) hfin,e1,zdX (by show ¬ ((3 : Int) = 1 ∨ (3 : Int) = 2); decide)]
   exact if_pos hn
  ·have e1 : exec (.store r s) (m.at' + 1) m = { m with cells:=upd m.cells (m.regs r).toNat (m.regs s) }.goes (m.at' + 1):=if_neg hn
   rw [zae (.inl (by rw [e1]; rfl)) hfin,e1,zaU,hnext (by simp) (by simp) (by simp)]
   exact if_neg hn
   exact hfin
 | jump to =>
  rw [zae (.inl rfl) hfin,show exec (.jump to) (m.at' + 1) m = Mc.goes m to from rfl,zaU]
  ·rfl
  ·exact hfin
 | less r s to =>
  rw [zae (.inl rfl) hfin,hnext (by simp) (by simp) (by simp),show exec (.less r s to) (m.at' + 1) m = m.goes (if m.regs r < m.regs s then to else m.at' + 1) from rfl,zaU,apply_ite f]
  rfl
  exact hfin
 | same r s to =>
  rw [zae (.inl rfl) hfin,hnext (by simp) (by simp) (by simp),show exec (.same r s to) (m.at' + 1) m = m.goes (if m.regs r = m.regs s then to else m.at' + 1) from rfl,zaU,apply_ite f]
  rfl
  exact hfin
 | call to =>
  by_cases h16 : m.frames = 16
  ·have e1 : exec (.call to) (m.at' + 1) m = { m with fin:=4 }:=if_pos h16
   rw [zae (.inr (by rw [e1]; show (2 : Int) < 4; decide)) hfin,e1,zdX (by show ¬ ((4 : Int) = 1 ∨ (4 : Int) = 2); decide)]
   exact if_pos h16
  ·have e1 : exec (.call to) (m.at' + 1) m = { m with backs:=m.backs ++ [m.at' + 1],frames:=m.frames + 1,peak:=max m.peak (m.frames + 1) }.goes to:=if_neg h16
   rw [zae (.inl (by rw [e1]; rfl)) hfin,e1,zaU,hnext (by simp) (by simp) (by simp)]
   refine (if_neg h16).trans ?_
   simp [Mc.goes]
   exact hfin
 | back =>
  by_cases h1 : m.frames = 1
  ·have e0 : exec .back (m.at' + 1) m = { m with frames:=0,fin:=2 }.goes (-1):=if_pos h1
   have e1 : zbo .back m = { m with steps:=m.steps + 1,frames:=0,fin:=2 }:=by
    unfold zbo; rw [e0,if_pos (.inr rfl)]; rfl
   rw [e1,zk9 (.inr rfl)]
   exact if_pos h1
  ·have e0 : exec .back (m.at' + 1) m = { m with frames:=m.frames - 1,backs:=m.backs.dropLast }.goes (m.backs.getLastD 0):=if_neg h1
   obtain ⟨J,x,hJ⟩ : ∃ I x,m.backs = I ++ [x]:=by
    rcases List.eq_nil_or_concat m.backs with h | ⟨I,x,h⟩
    ·rw [h] at hf; simp at hf; omega
    ·exact ⟨I,x,by rw [h,List.concat_eq_append]⟩
   rw [zae (.inl (by rw [e0]; rfl)) hfin,e0,zaU]
   refine (if_neg h1).trans ?_
   simp [Mc.goes,hJ]
   exact hfin
 | stop =>
  have e1 : zbo .stop m = { m with steps:=m.steps + 1,fin:=1 }:=by
   unfold zbo; rw [show exec .stop (m.at' + 1) m = { m with fin:=1 }.goes (-1) from rfl,if_pos (.inl rfl)]; rfl
  rw [e1,zk9 (.inl rfl)]
  rfl
theorem zpG {L : List Said} {C : List (Ins × Int)} {f : Int → Int} {m : Mc} (S : SimOk L C f) (K : CodeOk C) (I : InvD C.length m) (hfin : m.fin = 0) : zbW L (lift f m) = lift f (zcI C m):=by
 obtain ⟨p,hp,hlt⟩:=I.at_
 obtain ⟨k,hk,hkl,hq,_,hn⟩:=S.line p hlt
 have hl : (lift f m).at' = (k : Int):=by rw [zdX (by omega)]; show f m.at' = _; rw [hp,hk]
 rw [zfw hp hlt]
 unfold zbW
 rw [hl,Int.toNat_natCast,List.getElem?_eq_getElem hkl]
 show exec (insQ L k L[k]) (zan L (k + 1)) (lift f m) = _
 rw [hq]
 refine znH I hfin (fun h1 h2 h3 => ?_)
 have hle:=K.leads p hlt
 have hp1 : p + 1 < C.length:=by
  revert hle h1 h2 h3
  generalize C[p].1 = i
  intro h1 h2 h3 hle
  cases i with
  | jump to => exact absurd rfl (h1 to)
  | back => exact absurd rfl h2
  | stop => exact absurd rfl h3
  | less r s to => exact hle.2
  | same r s to => exact hle.2
  | call to => exact hle.2
  | _ => exact hle
 rw [hn hp1 hle h1 h2 h3,hp]
theorem zjP {L : List Said} {C : List (Ins × Int)} {f : Int → Int} (S : SimOk L C f) (K : CodeOk C) (n : Nat) : ∀ {m : Mc},InvD C.length m → runS (zbW L) n (lift f m) = lift f (runS (zcI C) n m) ∧ InvD C.length (runS (zcI C) n m):=by
 induction n with
 | zero => intro m I; exact ⟨rfl,I⟩
 | succ n ih =>
  intro m I
  have hlf : (lift f m).fin = m.fin:=rfl
  by_cases h : m.fin = 0
  ·rw [zcm _ _ _ h,zcm _ _ _ (by rw [hlf]; exact h),zpG S K I h]
   obtain ⟨p,hp,hlt⟩:=I.at_
   refine ih ?_
   rw [zfw hp hlt]
   exact I.step h hp (K.leads p hlt)
  ·rw [zbb _ _ _ h,zbb _ _ _ (by rw [hlf]; exact h)]
   exact ⟨rfl,I⟩
theorem zkA {L : List Said} {C : List (Ins × Int)} {f : Int → Int} {m : Mc} (S : SimOk L C f) (I : InvD C.length m) : (lift f m).line = zeL C m:=by
 obtain ⟨p,hp,hlt⟩:=I.at_
 obtain ⟨k,hk,hkl,_,h2,_⟩:=S.line p hlt
 have hlf : (lift f m).fin = m.fin:=rfl
 unfold Mc.line zeL
 rw [hlf]
 by_cases h : m.fin = 1 ∨ m.fin = 2
 ·rw [if_pos h,if_pos h]
 ·rw [if_neg h,if_neg h,zdX h,hp,Int.toNat_natCast,List.getElem?_eq_getElem hlt]
  show f (p : Int) + 1 = C[p].2
  rw [hk,h2]
end Go.Proofs.YtfpgjkbjbbgciaaGreatDoor
