import Derived.Test.YtfpgjkbjbbgciaaGreatDoorMc23
import Derived.Test.YtfpgjkbjbbgciaaGreatDoorMc28
set_option maxRecDepth 100000
set_option maxHeartbeats 8000000
namespace Go.Proofs.YtfpgjkbjbbgciaaGreatDoor
open Go.RowKit Sp
theorem zwx {w : World} {b wb wc g cap2 k : Nat} {L : List Said} {m : Mc} {bv iv ov : Value} {next : Int} {x1 x2 : ByteArray} (S : RStep w b wb wc g cap2 k L m bv iv ov [⟨#[115,101,116]⟩,x1,x2] next) (r : Nat) (hr : r < 8) (hreg : reg x1 = (r : Int)) :
  Calls Tryz.prog 55 #[.pointer (some ⟨b,0,none⟩)] w (zaU w b g cap2 L (exec (.set r (za6 x2).1) next m)):=by
 exact S.does (fun n => zbe (w.drewN n) b wb wc 2 [⟨#[115,101,116]⟩,x1,x2] next rfl (by decide) (S.words.drewN n) (by kernel_rfl) (by kernel_rfl) (by kernel_rfl) (by kernel_rfl) (by kernel_rfl) (by kernel_rfl))
  (fun n => zt7 (w.drewN n) b wb wc r _ bv iv ov m x1 x2 (S.ref.mem.drewN n) (S.words.drewN n) S.apart hr hreg (S.sizes x1 (by simp)) (S.sizes x2 (by simp))) S.fin rfl rfl rfl rfl
theorem zwy {w : World} {b wb wc g cap2 k : Nat} {L : List Said} {m : Mc} {bv iv ov : Value} {next : Int} {x1 x2 : ByteArray} (S : RStep w b wb wc g cap2 k L m bv iv ov [⟨#[109,111,118]⟩,x1,x2] next) (r s : Nat) (hr : r < 8) (hreg : reg x1 = (r : Int)) (hs : s < 8) (hreg2 : reg x2 = (s : Int)) :
  Calls Tryz.prog 55 #[.pointer (some ⟨b,0,none⟩)] w (zaU w b g cap2 L (exec (.mov r s) next m)):=by
 exact S.does (fun n => zbe (w.drewN n) b wb wc 2 [⟨#[109,111,118]⟩,x1,x2] next rfl (by decide) (S.words.drewN n) (by kernel_rfl) (by kernel_rfl) (by kernel_rfl) (by kernel_rfl) (by kernel_rfl) (by kernel_rfl))
  (fun n => zt8 (w.drewN n) b wb wc r s _ bv iv ov m x1 x2 (S.ref.mem.drewN n) (S.words.drewN n) S.apart hr hreg hs hreg2 (S.sizes x1 (by simp)) (S.sizes x2 (by simp))) S.fin rfl rfl rfl rfl
theorem zwz {w : World} {b wb wc g cap2 k : Nat} {L : List Said} {m : Mc} {bv iv ov : Value} {next : Int} {x1 x2 x3 : ByteArray} (S : RStep w b wb wc g cap2 k L m bv iv ov [⟨#[97,100,100]⟩,x1,x2,x3] next) (r s t : Nat) (hr : r < 8) (hreg : reg x1 = (r : Int)) (hs : s < 8) (hreg2 : reg x2 = (s : Int)) (ht : t < 8) (hreg3 : reg x3 = (t : Int)) :
  Calls Tryz.prog 55 #[.pointer (some ⟨b,0,none⟩)] w (zaU w b g cap2 L (exec (.alu 0 r s t) next m)):=by
 exact S.does (fun n => zbe (w.drewN n) b wb wc 3 [⟨#[97,100,100]⟩,x1,x2,x3] next rfl (by decide) (S.words.drewN n) (by kernel_rfl) (by kernel_rfl) (by kernel_rfl) (by kernel_rfl) (by kernel_rfl) (by kernel_rfl))
  (fun n => ztA (w.drewN n) b wb wc r s t _ bv iv ov m x1 x2 x3 (S.ref.mem.drewN n) (S.words.drewN n) S.apart hr hreg hs hreg2 ht hreg3 (S.sizes x1 (by simp)) (S.sizes x2 (by simp)) (S.sizes x3 (by simp))) S.fin rfl rfl rfl rfl
theorem zw0 {w : World} {b wb wc g cap2 k : Nat} {L : List Said} {m : Mc} {bv iv ov : Value} {next : Int} {x1 x2 x3 : ByteArray} (S : RStep w b wb wc g cap2 k L m bv iv ov [⟨#[115,117,98]⟩,x1,x2,x3] next) (r s t : Nat) (hr : r < 8) (hreg : reg x1 = (r : Int)) (hs : s < 8) (hreg2 : reg x2 = (s : Int)) (ht : t < 8) (hreg3 : reg x3 = (t : Int)) :
  Calls Tryz.prog 55 #[.pointer (some ⟨b,0,none⟩)] w (zaU w b g cap2 L (exec (.alu 1 r s t) next m)):=by
 exact S.does (fun n => zbe (w.drewN n) b wb wc 3 [⟨#[115,117,98]⟩,x1,x2,x3] next rfl (by decide) (S.words.drewN n) (by kernel_rfl) (by kernel_rfl) (by kernel_rfl) (by kernel_rfl) (by kernel_rfl) (by kernel_rfl))
  (fun n => ztB (w.drewN n) b wb wc r s t _ bv iv ov m x1 x2 x3 (S.ref.mem.drewN n) (S.words.drewN n) S.apart hr hreg hs hreg2 ht hreg3 (S.sizes x1 (by simp)) (S.sizes x2 (by simp)) (S.sizes x3 (by simp))) S.fin rfl rfl rfl rfl
theorem zw1 {w : World} {b wb wc g cap2 k : Nat} {L : List Said} {m : Mc} {bv iv ov : Value} {next : Int} {x1 x2 x3 : ByteArray} (S : RStep w b wb wc g cap2 k L m bv iv ov [⟨#[109,117,108]⟩,x1,x2,x3] next) (r s t : Nat) (hr : r < 8) (hreg : reg x1 = (r : Int)) (hs : s < 8) (hreg2 : reg x2 = (s : Int)) (ht : t < 8) (hreg3 : reg x3 = (t : Int)) :
  Calls Tryz.prog 55 #[.pointer (some ⟨b,0,none⟩)] w (zaU w b g cap2 L (exec (.alu 2 r s t) next m)):=by
 exact S.does (fun n => zbe (w.drewN n) b wb wc 3 [⟨#[109,117,108]⟩,x1,x2,x3] next rfl (by decide) (S.words.drewN n) (by kernel_rfl) (by kernel_rfl) (by kernel_rfl) (by kernel_rfl) (by kernel_rfl) (by kernel_rfl))
  (fun n => ztC (w.drewN n) b wb wc r s t _ bv iv ov m x1 x2 x3 (S.ref.mem.drewN n) (S.words.drewN n) S.apart hr hreg hs hreg2 ht hreg3 (S.sizes x1 (by simp)) (S.sizes x2 (by simp)) (S.sizes x3 (by simp))) S.fin rfl rfl rfl rfl
theorem zw2 {w : World} {b wb wc g cap2 k : Nat} {L : List Said} {m : Mc} {bv iv ov : Value} {next : Int} {x1 x2 : ByteArray} (S : RStep w b wb wc g cap2 k L m bv iv ov [⟨#[105,110,99]⟩,x1,x2] next) (r : Nat) (hr : r < 8) (hreg : reg x1 = (r : Int)) :
  Calls Tryz.prog 55 #[.pointer (some ⟨b,0,none⟩)] w (zaU w b g cap2 L (exec (.inc r (za6 x2).1) next m)):=by
 exact S.does (fun n => zbe (w.drewN n) b wb wc 2 [⟨#[105,110,99]⟩,x1,x2] next rfl (by decide) (S.words.drewN n) (by kernel_rfl) (by kernel_rfl) (by kernel_rfl) (by kernel_rfl) (by kernel_rfl) (by kernel_rfl))
  (fun n => zt9 (w.drewN n) b wb wc r _ bv iv ov m x1 x2 (S.ref.mem.drewN n) (S.words.drewN n) S.apart hr hreg (S.sizes x1 (by simp)) (S.sizes x2 (by simp))) S.fin rfl rfl rfl rfl
theorem zvy {w : World} {b wb wc g cap2 k : Nat} {L : List Said} {m : Mc} {bv iv ov : Value} {next : Int} {x1 x2 : ByteArray} (S : RStep w b wb wc g cap2 k L m bv iv ov [⟨#[108,111,97,100]⟩,x1,x2] next) (r s : Nat) (hr : r < 8) (hreg : reg x1 = (r : Int)) (hs : s < 8) (hreg2 : reg x2 = (s : Int)) :
  Calls Tryz.prog 55 #[.pointer (some ⟨b,0,none⟩)] w (zaU w b g cap2 L (exec (.load r s) next m)):=by
 by_cases hc : m.regs s < 0 ∨ 15 < m.regs s
 ·rw [show exec (.load r s) next m = { m with fin:=3 } by simp only [exec]; rw [if_pos hc]]
  exact S.stuck (fun n => zbe (w.drewN n) b wb wc 2 [⟨#[108,111,97,100]⟩,x1,x2] next rfl (by decide) (S.words.drewN n) (by kernel_rfl) (by kernel_rfl) (by kernel_rfl) (by kernel_rfl) (by kernel_rfl) (by kernel_rfl))
   (fun n => zjs (w.drewN n) b wb wc r s _ bv iv ov m x1 x2 (S.ref.mem.drewN n) (S.words.drewN n) S.apart hr hreg hs hreg2 hc (S.sizes x1 (by simp)) (S.sizes x2 (by simp))) rfl rfl rfl rfl
 ·rw [show exec (.load r s) next m = { m with regs:=upd m.regs r (m.cells (m.regs s).toNat) }.goes next by simp only [exec]; rw [if_neg hc]]
  have hn : m.regs s = ((m.regs s).toNat : Int):=by omega
  exact S.does (fun n => zbe (w.drewN n) b wb wc 2 [⟨#[108,111,97,100]⟩,x1,x2] next rfl (by decide) (S.words.drewN n) (by kernel_rfl) (by kernel_rfl) (by kernel_rfl) (by kernel_rfl) (by kernel_rfl) (by kernel_rfl))
   (fun n => zk8 (w.drewN n) b wb wc r s (m.regs s).toNat _ bv iv ov m x1 x2 (S.ref.mem.drewN n) (S.words.drewN n) S.apart hr hreg hs hreg2 hn (by omega) (S.sizes x1 (by simp)) (S.sizes x2 (by simp))) S.fin rfl rfl rfl rfl
theorem ztD {w : World} {b wb wc g cap2 k : Nat} {L : List Said} {m : Mc} {bv iv ov : Value} {next : Int} {x1 x2 : ByteArray} (S : RStep w b wb wc g cap2 k L m bv iv ov [⟨#[115,116,111,114,101]⟩,x1,x2] next) (r s : Nat) (hr : r < 8) (hreg : reg x1 = (r : Int)) (hs : s < 8) (hreg2 : reg x2 = (s : Int)) :
  Calls Tryz.prog 55 #[.pointer (some ⟨b,0,none⟩)] w (zaU w b g cap2 L (exec (.store r s) next m)):=by
 by_cases hc : m.regs r < 0 ∨ 15 < m.regs r
 ·rw [show exec (.store r s) next m = { m with fin:=3 } by simp only [exec]; rw [if_pos hc]]
  exact S.stuck (fun n => zbe (w.drewN n) b wb wc 2 [⟨#[115,116,111,114,101]⟩,x1,x2] next rfl (by decide) (S.words.drewN n) (by kernel_rfl) (by kernel_rfl) (by kernel_rfl) (by kernel_rfl) (by kernel_rfl) (by kernel_rfl))
   (fun n => zia (w.drewN n) b wb wc r _ bv iv ov m x1 x2 (S.ref.mem.drewN n) (S.words.drewN n) S.apart hr hreg hc (S.sizes x1 (by simp)) (S.sizes x2 (by simp))) rfl rfl rfl rfl
 ·rw [show exec (.store r s) next m = { m with cells:=upd m.cells (m.regs r).toNat (m.regs s) }.goes next by simp only [exec]; rw [if_neg hc]]
  have hn : m.regs r = ((m.regs r).toNat : Int):=by omega
  exact S.does (fun n => zbe (w.drewN n) b wb wc 2 [⟨#[115,116,111,114,101]⟩,x1,x2] next rfl (by decide) (S.words.drewN n) (by kernel_rfl) (by kernel_rfl) (by kernel_rfl) (by kernel_rfl) (by kernel_rfl) (by kernel_rfl))
   (fun n => zjt (w.drewN n) b wb wc r s (m.regs r).toNat _ bv iv ov m x1 x2 (S.ref.mem.drewN n) (S.words.drewN n) S.apart hr hreg hs hreg2 hn (by omega) (S.sizes x1 (by simp)) (S.sizes x2 (by simp))) S.fin rfl rfl rfl rfl
theorem zvz {w : World} {b wb wc g cap2 k : Nat} {L : List Said} {m : Mc} {bv iv ov : Value} {next : Int} {x : ByteArray} (S : RStep w b wb wc g cap2 k L m bv iv ov [⟨#[106,117,109,112]⟩,x] next) (j : Nat) (hlab : zbM L k x = (j : Int)) (hj : j ≤ L.length) :
  Calls Tryz.prog 55 #[.pointer (some ⟨b,0,none⟩)] w (zaU w b g cap2 L (exec (.jump (zac L j)) next m)):=by
 exact S.moves (m1:=m) (zac L j) 0 (fun n => (zoL (w.drewN n) b wb wc g cap2 k bv iv ov L m x next j (S.ref.mem.drewN n) (S.lines.drewN n) S.few S.lt S.at_ (S.words.drewN n) hlab hj).mono (by
  rintro e w' ⟨h1,q,rfl⟩
  exact ⟨h1,(S.ref.mem.drewN n).drewN q,⟨rfl,rfl,rfl,Nat.le_refl _,fun _ _ _ => rfl⟩⟩)) S.fin (.inl rfl) rfl rfl rfl rfl
theorem zv0 {w : World} {b wb wc g cap2 k : Nat} {L : List Said} {m : Mc} {bv iv ov : Value} {next : Int} {x1 x2 x3 : ByteArray} (S : RStep w b wb wc g cap2 k L m bv iv ov [⟨#[108,101,115,115]⟩,x1,x2,x3] next) (r s j : Nat) (hr : r < 8) (hreg : reg x1 = (r : Int)) (hs : s < 8) (hreg2 : reg x2 = (s : Int)) (hlab : zbM L k x3 = (j : Int)) (hj : j ≤ L.length) :
  Calls Tryz.prog 55 #[.pointer (some ⟨b,0,none⟩)] w (zaU w b g cap2 L (exec (.less r s (zac L j)) next m)):=by
 by_cases hc : m.regs r < m.regs s
 ·rw [show exec (.less r s (zac L j)) next m = m.goes (zac L j) by simp only [exec]; rw [if_pos hc]]
  exact S.moves (m1:=m) (zac L j) 0 (fun n => (zie (w.drewN n) b wb wc g cap2 k bv iv ov L m x1 x2 x3 next j r s (S.ref.mem.drewN n) (S.lines.drewN n) S.few S.lt S.at_ (S.words.drewN n) hlab hj hr hreg hs hreg2 (S.sizes x1 (by simp)) (S.sizes x2 (by simp)) hc).mono (by
   rintro e w' ⟨h1,q,rfl⟩
   exact ⟨h1,(S.ref.mem.drewN n).drewN q,⟨rfl,rfl,rfl,Nat.le_refl _,fun _ _ _ => rfl⟩⟩)) S.fin (.inl rfl) rfl rfl rfl rfl
 ·rw [show exec (.less r s (zac L j)) next m = m.goes next by simp only [exec]; rw [if_neg hc]]
  exact S.moves (m1:=m) next 0 (fun n => (zjx (w.drewN n) b wb wc g cap2 k bv iv ov L m x1 x2 x3 next j r s (S.ref.mem.drewN n) (S.lines.drewN n) S.few S.lt S.at_ (S.words.drewN n) hlab hj hr hreg hs hreg2 (S.sizes x1 (by simp)) (S.sizes x2 (by simp)) hc).mono (by
   rintro e w' ⟨h1,q,rfl⟩
   exact ⟨h1,(S.ref.mem.drewN n).drewN q,⟨rfl,rfl,rfl,Nat.le_refl _,fun _ _ _ => rfl⟩⟩)) S.fin (.inl rfl) rfl rfl rfl rfl
theorem zv1 {w : World} {b wb wc g cap2 k : Nat} {L : List Said} {m : Mc} {bv iv ov : Value} {next : Int} {x1 x2 x3 : ByteArray} (S : RStep w b wb wc g cap2 k L m bv iv ov [⟨#[115,97,109,101]⟩,x1,x2,x3] next) (r s j : Nat) (hr : r < 8) (hreg : reg x1 = (r : Int)) (hs : s < 8) (hreg2 : reg x2 = (s : Int)) (hlab : zbM L k x3 = (j : Int)) (hj : j ≤ L.length) :
  Calls Tryz.prog 55 #[.pointer (some ⟨b,0,none⟩)] w (zaU w b g cap2 L (exec (.same r s (zac L j)) next m)):=by
 by_cases hc : m.regs r = m.regs s
 ·rw [show exec (.same r s (zac L j)) next m = m.goes (zac L j) by simp only [exec]; rw [if_pos hc]]
  exact S.moves (m1:=m) (zac L j) 0 (fun n => (zif (w.drewN n) b wb wc g cap2 k bv iv ov L m x1 x2 x3 next j r s (S.ref.mem.drewN n) (S.lines.drewN n) S.few S.lt S.at_ (S.words.drewN n) hlab hj hr hreg hs hreg2 (S.sizes x1 (by simp)) (S.sizes x2 (by simp)) hc).mono (by
   rintro e w' ⟨h1,q,rfl⟩
   exact ⟨h1,(S.ref.mem.drewN n).drewN q,⟨rfl,rfl,rfl,Nat.le_refl _,fun _ _ _ => rfl⟩⟩)) S.fin (.inl rfl) rfl rfl rfl rfl
 ·rw [show exec (.same r s (zac L j)) next m = m.goes next by simp only [exec]; rw [if_neg hc]]
  exact S.moves (m1:=m) next 0 (fun n => (zjy (w.drewN n) b wb wc g cap2 k bv iv ov L m x1 x2 x3 next j r s (S.ref.mem.drewN n) (S.lines.drewN n) S.few S.lt S.at_ (S.words.drewN n) hlab hj hr hreg hs hreg2 (S.sizes x1 (by simp)) (S.sizes x2 (by simp)) hc).mono (by
   rintro e w' ⟨h1,q,rfl⟩
   exact ⟨h1,(S.ref.mem.drewN n).drewN q,⟨rfl,rfl,rfl,Nat.le_refl _,fun _ _ _ => rfl⟩⟩)) S.fin (.inl rfl) rfl rfl rfl rfl
theorem zv2 {w : World} {b wb wc g cap2 k : Nat} {L : List Said} {m : Mc} {bv iv ov : Value} {next : Int} (S : RStep w b wb wc g cap2 k L m bv iv ov [⟨#[115,116,111,112]⟩] next)  :
  Calls Tryz.prog 55 #[.pointer (some ⟨b,0,none⟩)] w (zaU w b g cap2 L (exec .stop next m)):=by
 exact S.moves (m1:={ m with fin:=1 }) (-1) 1 (fun n => zoM (w.drewN n) b wb wc _ bv iv ov m next (S.ref.mem.drewN n) (S.words.drewN n)) rfl (.inr (.inl rfl)) rfl rfl rfl rfl
structure InvR (L : List Said) (m : Mc) : Prop where
 at_ : zdd L m.at'
 backs : ∀ z ∈ m.backs,zdd L z
 frames : m.frames = (m.backs.length : Int) + 1
 few : m.backs.length ≤ 15
 peak : ∃ p : Nat,m.peak = (p : Int) ∧ p ≤ 16
 steps : 0 ≤ m.steps
 out : (m.out.length : Int) ≤ m.steps
theorem InvR.plain {L : List Said} {m m1 : Mc} {z : Int} (I : InvR L m) (h : zdd L z) (e1 : m1.backs = m.backs) (e2 : m1.frames = m.frames) (e3 : m1.peak = m.peak) (e4 : m1.steps = m.steps) (e5 : m1.out.length ≤ m.out.length + 1) : InvR L (m1.goes z):=by
 have hs:=I.steps
 have ho:=I.out
 refine ⟨h,?_,?_,?_,?_,?_,?_⟩
 ·show ∀ z ∈ m1.backs,_; rw [e1]; exact I.backs
 ·show m1.frames = (m1.backs.length : Int) + 1; rw [e1,e2]; exact I.frames
 ·show m1.backs.length ≤ 15; rw [e1]; exact I.few
 ·show ∃ p : Nat,m1.peak = (p : Int) ∧ p ≤ 16; rw [e3]; exact I.peak
 ·show 0 ≤ m1.steps + 1; omega
 ·show (m1.out.length : Int) ≤ m1.steps + 1; omega
theorem zri {w w0 : World} {b g cap2 : Nat} {L : List Said} {m : Mc} {bv iv ov : Value} (G : Good L) (R : RefAt w b g cap2 L m bv iv ov) (I : InvR L m) (hfin : m.fin = 0) (hL0 : LinesIn w0 g L) (h0 : Below w0.heap.size w0 w) (h0b : w0.heap.size ≤ b) (hst : m.steps ≤ 99999) (hin : m.inp.length ≤ 1048576) :
  Calls Tryz.prog 55 #[.pointer (some ⟨b,0,none⟩)] w (zaU w b g cap2 L (zb9 L m)) ∧ ((zb9 L m).fin = 0 → InvR L (zb9 L m)):=by
 obtain ⟨k,hk,hlt,h5⟩:=I.at_
 have hstep : zb9 L m = exec (insQ L k L[k]) (zac L (k + 1)) m:=by
  unfold zb9
  rw [hk,Int.toNat_natCast,List.getElem?_eq_getElem hlt]
 rw [hstep]
 have hL : LinesIn w g L:=hL0.below h0
 have hlen : 0 < L[k].kept.length:=by
  have:=G.wf k hlt
  unfold Wf at this
  omega
 obtain ⟨wb,wc,hwd,hws⟩:=hL0.words k hlt hlen
 have hwbl : wb < w0.heap.size:=by
  have:=World.block_lt_of_cell? w0 _ (hws 0 hlen)
  simpa using this
 have S : RStep w b wb wc g cap2 k L m bv iv ov L[k].kept (zac L (k + 1)) :=
  ⟨R,hfin,hk,hlt,G.few,hL,fun W hW => hL0.below (h0.trans (hW.mono h0b)),(h0.cell (World.block_lt_of_cell? w0 _ hwd)).trans hwd,fun j hj => (h0.cell (p:=⟨wb,j,none⟩) hwbl).trans (hws j hj),by omega,fun x hx => by have:=G.size k hlt x hx; omega,rfl,I.steps,by omega⟩
 have hmiss:=G.miss k hlt
 have F:=G.form k hlt h5
 have hnext : ends (L[k].word 0) = false → zdd L (zac L (k + 1)):=G.next k hlt h5
 have hml : ∀ n,L[k].kept.length = n + 1 → zaF (L[k].word 0) = true → 0 ≤ zbM L k (L[k].word n):=fun n hn ha => by
  rw [zc3 _ 0 hlen] at ha
  rw [zc3 _ n (by omega)]
  rw [zfv L k n hlt (by simp [h5]) hn ha] at hmiss
  simpa using hmiss
 have hmf : ∀ n,L[k].kept.length = n + 1 → zaF (L[k].word 0) = false → zcs (L[k].word 0) = true → 0 ≤ zaE L (L[k].word n) 0:=fun n hn ha hb => by
  rw [zc3 _ 0 hlen] at ha hb
  rw [zc3 _ n (by omega)]
  rw [zjZ L k n hlt (by simp [h5]) hn ha hb] at hmiss
  simpa using hmiss
 generalize hq : L[k] = q at S F hnext hml hmf
 obtain ⟨kd,kp,ok⟩:=q
 simp only at S F
 unfold Said.word at hnext hml hmf
 simp only at hnext hml hmf
 have hnl:=I.frames
 have hnb:=I.few
 cases F with
 | set_ x1 x2 hx1 hx2 =>
  rw [zns L k _ x1 x2 rfl]
  obtain ⟨rx1,ex1⟩:=zam x1 hx1
  exact ⟨zwx S (regN x1) rx1 ex1,fun _ => I.plain (hnext (by kernel_rfl)) rfl rfl rfl rfl (Nat.le_succ _)⟩
 | inc_ x1 x2 hx1 hx2 =>
  rw [znx L k _ x1 x2 rfl]
  obtain ⟨rx1,ex1⟩:=zam x1 hx1
  exact ⟨zw2 S (regN x1) rx1 ex1,fun _ => I.plain (hnext (by kernel_rfl)) rfl rfl rfl rfl (Nat.le_succ _)⟩
 | mov_ x1 x2 hx1 hx2 =>
  rw [znt L k _ x1 x2 rfl]
  obtain ⟨rx1,ex1⟩:=zam x1 hx1
  obtain ⟨rx2,ex2⟩:=zam x2 hx2
  exact ⟨zwy S (regN x1) (regN x2) rx1 ex1 rx2 ex2,fun _ => I.plain (hnext (by kernel_rfl)) rfl rfl rfl rfl (Nat.le_succ _)⟩
 | load_ x1 x2 hx1 hx2 =>
  rw [zkG L k _ x1 x2 rfl]
  obtain ⟨rx1,ex1⟩:=zam x1 hx1
  obtain ⟨rx2,ex2⟩:=zam x2 hx2
  refine ⟨zvy S (regN x1) (regN x2) rx1 ex1 rx2 ex2,fun hz => ?_⟩
  simp only [exec] at hz ⊢
  split at hz
  ·cases hz
  ·rename_i hc
   rw [if_neg hc]
   exact I.plain (hnext (by kernel_rfl)) rfl rfl rfl rfl (Nat.le_succ _)
 | store_ x1 x2 hx1 hx2 =>
  rw [zi9 L k _ x1 x2 rfl]
  obtain ⟨rx1,ex1⟩:=zam x1 hx1
  obtain ⟨rx2,ex2⟩:=zam x2 hx2
  refine ⟨ztD S (regN x1) (regN x2) rx1 ex1 rx2 ex2,fun hz => ?_⟩
  simp only [exec] at hz ⊢
  split at hz
  ·cases hz
  ·rename_i hc
   rw [if_neg hc]
   exact I.plain (hnext (by kernel_rfl)) rfl rfl rfl rfl (Nat.le_succ _)
 | add_ x1 x2 x3 hx1 hx2 hx3 =>
  rw [znu L k _ x1 x2 x3 rfl]
  obtain ⟨rx1,ex1⟩:=zam x1 hx1
  obtain ⟨rx2,ex2⟩:=zam x2 hx2
  obtain ⟨rx3,ex3⟩:=zam x3 hx3
  exact ⟨zwz S (regN x1) (regN x2) (regN x3) rx1 ex1 rx2 ex2 rx3 ex3,fun _ => I.plain (hnext (by kernel_rfl)) rfl rfl rfl rfl (Nat.le_succ _)⟩
 | sub_ x1 x2 x3 hx1 hx2 hx3 =>
  rw [znv L k _ x1 x2 x3 rfl]
  obtain ⟨rx1,ex1⟩:=zam x1 hx1
  obtain ⟨rx2,ex2⟩:=zam x2 hx2
  obtain ⟨rx3,ex3⟩:=zam x3 hx3
  exact ⟨zw0 S (regN x1) (regN x2) (regN x3) rx1 ex1 rx2 ex2 rx3 ex3,fun _ => I.plain (hnext (by kernel_rfl)) rfl rfl rfl rfl (Nat.le_succ _)⟩
 | mul_ x1 x2 x3 hx1 hx2 hx3 =>
  rw [znw L k _ x1 x2 x3 rfl]
  obtain ⟨rx1,ex1⟩:=zam x1 hx1
  obtain ⟨rx2,ex2⟩:=zam x2 hx2
  obtain ⟨rx3,ex3⟩:=zam x3 hx3
  exact ⟨zw1 S (regN x1) (regN x2) (regN x3) rx1 ex1 rx2 ex2 rx3 ex3,fun _ => I.plain (hnext (by kernel_rfl)) rfl rfl rfl rfl (Nat.le_succ _)⟩
 | read_ x1 hx1 =>
  rw [zkH L k _ x1 rfl]
  obtain ⟨rx1,ex1⟩:=zam x1 hx1
  exact ⟨zv3 S (regN x1) rx1 ex1 hin,fun _ => I.plain (hnext (by kernel_rfl)) rfl rfl rfl rfl (Nat.le_succ _)⟩
 | write_ x1 hx1 =>
  rw [ziA L k _ x1 rfl]
  obtain ⟨rx1,ex1⟩:=zam x1 hx1
  exact ⟨ztE S (regN x1) rx1 ex1 (by have:=I.out; omega),fun _ => I.plain (hnext (by kernel_rfl)) rfl rfl rfl rfl (by simp)⟩
 | jump_ x1 hx1 =>
  rw [zkA L k _ x1 rfl]
  have h8:=hml 1 rfl (by kernel_rfl)
  obtain ⟨j,hj,hjl,hj8⟩:=zeB L x1 _ h8
  have hj' : zbM L k x1 = (j : Int):=hj
  have e : zeI L k x1 = zac L j:=by unfold zeI; rw [hj',Int.toNat_natCast]
  rw [e]
  exact ⟨zvz S j hj' (by omega),fun _ => I.plain (m1:=m) (G.lab j hjl hj8) rfl rfl rfl rfl (Nat.le_succ _)⟩
 | call_ x1 hx1 =>
  rw [zkD L k _ x1 rfl]
  have h8:=hmf 1 rfl (by kernel_rfl) (by kernel_rfl)
  obtain ⟨j,hj,hjl,hj2⟩:=zk9 L x1 _ h8
  have e : fnTo L x1 = zac L (j + 1):=by unfold fnTo; rw [hj]; rfl
  rw [e]
  obtain ⟨p,hp,hp1⟩:=I.peak
  refine ⟨zv4 S j (m.backs.length + 1) p hj hjl (by omega) (by omega) hp hp1 (by omega),fun hz => ?_⟩
  simp only [exec] at hz ⊢
  split at hz
  ·cases hz
  ·rename_i hc
   rw [if_neg hc]
   have hs:=I.steps
   have ho:=I.out
   refine ⟨G.fn j hjl hj2,?_,?_,?_,?_,?_,?_⟩
   ·show ∀ z ∈ m.backs ++ [zac L (k + 1)],_
    intro z hz
    rw [List.mem_append] at hz
    rcases hz with hz | hz
    ·exact I.backs z hz
    ·simp at hz; subst hz; exact hnext (by kernel_rfl)
   ·show m.frames + 1 = ((m.backs ++ [zac L (k + 1)]).length : Int) + 1
    simp; omega
   ·show (m.backs ++ [zac L (k + 1)]).length ≤ 15
    simp; omega
   ·show ∃ p : Nat,max m.peak (m.frames + 1) = (p : Int) ∧ p ≤ 16
    exact ⟨max p (m.backs.length + 2),by omega,by omega⟩
   ·show 0 ≤ m.steps + 1; omega
   ·show (m.out.length : Int) ≤ m.steps + 1; omega
 | less_ x1 x2 x3 hx1 hx2 hx3 =>
  rw [zkB L k _ x1 x2 x3 rfl]
  obtain ⟨rx1,ex1⟩:=zam x1 hx1
  obtain ⟨rx2,ex2⟩:=zam x2 hx2
  have h8:=hml 3 rfl (by kernel_rfl)
  obtain ⟨j,hj,hjl,hj8⟩:=zeB L x3 _ h8
  have hj' : zbM L k x3 = (j : Int):=hj
  have e : zeI L k x3 = zac L j:=by unfold zeI; rw [hj',Int.toNat_natCast]
  rw [e]
  refine ⟨zv0 S (regN x1) (regN x2) j rx1 ex1 rx2 ex2 hj' (by omega),fun _ => ?_⟩
  simp only [exec]
  split
  ·exact I.plain (m1:=m) (G.lab j hjl hj8) rfl rfl rfl rfl (Nat.le_succ _)
  ·exact I.plain (m1:=m) (hnext (by kernel_rfl)) rfl rfl rfl rfl (Nat.le_succ _)
 | same_ x1 x2 x3 hx1 hx2 hx3 =>
  rw [zkC L k _ x1 x2 x3 rfl]
  obtain ⟨rx1,ex1⟩:=zam x1 hx1
  obtain ⟨rx2,ex2⟩:=zam x2 hx2
  have h8:=hml 3 rfl (by kernel_rfl)
  obtain ⟨j,hj,hjl,hj8⟩:=zeB L x3 _ h8
  have hj' : zbM L k x3 = (j : Int):=hj
  have e : zeI L k x3 = zac L j:=by unfold zeI; rw [hj',Int.toNat_natCast]
  rw [e]
  refine ⟨zv1 S (regN x1) (regN x2) j rx1 ex1 rx2 ex2 hj' (by omega),fun _ => ?_⟩
  simp only [exec]
  split
  ·exact I.plain (m1:=m) (G.lab j hjl hj8) rfl rfl rfl rfl (Nat.le_succ _)
  ·exact I.plain (m1:=m) (hnext (by kernel_rfl)) rfl rfl rfl rfl (Nat.le_succ _)
 | back_ =>
  rw [zkE L k _ rfl]
  refine ⟨zv5 S m.backs.length hnl hnb rfl,fun hz => ?_⟩
  simp only [exec] at hz ⊢
  split at hz
  ·cases hz
  ·rename_i hc
   rw [if_neg hc]
   have hs:=I.steps
   have ho:=I.out
   have hdl : m.backs.dropLast.length = m.backs.length - 1:=List.length_dropLast
   have hne : ¬ m.backs = []:=fun e => by rw [e] at hnl; simp at hnl; omega
   have hpos : 0 < m.backs.length:=List.length_pos_iff.2 hne
   refine ⟨?_,?_,?_,?_,I.peak,?_,?_⟩
   ·show zdd L (m.backs.getLastD 0)
    rw [List.getLastD_eq_getLast?,List.getLast?_eq_some_getLast hne]
    exact I.backs _ (List.getLast_mem hne)
   ·intro z hz'
    exact I.backs z ((List.dropLast_sublist m.backs).subset hz')
   ·show m.frames - 1 = (m.backs.dropLast.length : Int) + 1
    omega
   ·show m.backs.dropLast.length ≤ 15
    omega
   ·show 0 ≤ m.steps + 1; omega
   ·show (m.out.length : Int) ≤ m.steps + 1; omega
 | stop_ =>
  rw [zkF L k _ rfl]
  exact ⟨zv2 S,fun hz => by cases hz⟩
def zbA (m : Mc) (ov : Value) (line : Int) : List Value:=[.int .i64 m.steps] ++ ((List.range 8).map (fun i => Value.int .i64 (m.regs i)) ++ ((List.range 16).map (fun i => Value.int .i64 (m.cells i)) ++ [ov,.int .i64 m.frames,.int .i64 m.peak,.int .i64 line,.int .i64 m.fin]))
theorem zcM (m : Mc) (ov : Value) (line : Int) : (zbA m ov line).length = 30:=by simp [zbA]
theorem zcN (m : Mc) (ao : Option Addr) (n c : Nat) (line : Int) : (zbA m (.slice ao n c) line).toArray.all (·.oneCell') = true:=by
 refine all_oneCell_toArray fun v hv => ?_
 simp only [zbA,List.mem_append,List.mem_map,List.mem_cons,List.mem_nil_iff,or_false] at hv
 rcases hv with rfl | ⟨i,_,rfl⟩ | ⟨i,_,rfl⟩ | rfl | rfl | rfl | rfl | rfl <;> rfl
theorem zrk (m : Mc) (ov : Value) (line : Int) : (zbA m ov line)[28]? = some (.int .i64 line):=by simp [zbA]
theorem zrl (m : Mc) (ov : Value) (line : Int) : (zbA m ov line)[29]? = some (.int .i64 m.fin):=by simp [zbA]
theorem zfZ (m : Mc) (ov : Value) (line l2 : Int) : (zbA m ov line).set 28 (.int .i64 l2) = zbA m ov l2:=by simp [zbA,List.range_succ]
theorem zrm (m : Mc) (ov : Value) (line : Int) (j : Nat) (v : Value) (h : (zbA m ov line)[j]? = some v) :
  (j = 0 ∧ v = .int .i64 m.steps) ∨ (∃ i,i < 8 ∧ j = 1 + i ∧ v = .int .i64 (m.regs i)) ∨ (∃ i,i < 16 ∧ j = 9 + i ∧ v = .int .i64 (m.cells i)) ∨ (j = 25 ∧ v = ov) ∨ (j = 26 ∧ v = .int .i64 m.frames) ∨ (j = 27 ∧ v = .int .i64 m.peak) ∨ (j = 28 ∧ v = .int .i64 line) ∨ (j = 29 ∧ v = .int .i64 m.fin):=by
 unfold zbA at h
 rw [List.getElem?_append] at h
 split at h
 ·rename_i hj
  simp at hj; subst hj
  simp at h
  exact .inl ⟨rfl,h.symm⟩
 ·rename_i hj
  simp at hj
  rw [List.getElem?_append] at h
  split at h
  ·rename_i h8
   simp at h8
   simp [h8] at h
   exact .inr (.inl ⟨j - 1,h8,by omega,by simpa using h.symm⟩)
  ·rename_i h8
   simp at h8
   rw [List.getElem?_append] at h
   split at h
   ·rename_i h16
    simp at h16
    simp [h16] at h
    exact .inr (.inr (.inl ⟨j - 1 - 8,h16,by omega,by simpa using h.symm⟩))
   ·rename_i h16
    simp at h16 h
    obtain ⟨q,hq⟩ : ∃ q,j = 25 + q:=⟨j - 25,by omega⟩
    subst hq
    have e : 25 + q - 1 - 8 - 16 = q:=by omega
    rw [e] at h
    match q,h with
    | 0,h => simp at h; exact .inr (.inr (.inr (.inl ⟨rfl,h.symm⟩)))
    | 1,h => simp at h; exact .inr (.inr (.inr (.inr (.inl ⟨rfl,h.symm⟩))))
    | 2,h => simp at h; exact .inr (.inr (.inr (.inr (.inr (.inl ⟨rfl,h.symm⟩)))))
    | 3,h => simp at h; exact .inr (.inr (.inr (.inr (.inr (.inr (.inl ⟨rfl,h.symm⟩))))))
    | 4,h => simp at h; exact .inr (.inr (.inr (.inr (.inr (.inr (.inr ⟨rfl,h.symm⟩))))))
    | q + 5,h => simp at h
theorem RefM.range {w : World} {b : Nat} {lv bv iv ov : Value} {m : Mc} (h : RefM w b lv bv iv ov m) : w.rangeAt b 4 (zbA m ov 0):=by
 intro j v hv
 rcases zrm m ov 0 j v hv with ⟨rfl,rfl⟩ | ⟨i,hi,rfl,rfl⟩ | ⟨i,hi,rfl,rfl⟩ | ⟨rfl,rfl⟩ | ⟨rfl,rfl⟩ | ⟨rfl,rfl⟩ | ⟨rfl,rfl⟩ | ⟨rfl,rfl⟩
 ·exact h.cS
 ·rw [show 4 + (1 + i) = 5 + i by omega]; exact h.cR i hi
 ·rw [show 4 + (9 + i) = 13 + i by omega]; exact h.cC i hi
 ·exact h.cO
 ·exact h.cF
 ·exact h.cP
 ·exact h.cA
 ·exact h.cE
theorem zep {w : World} {b o n : Nat} {cs : List Value} {v u : Value} (h : w.rangeAt b o cs) (hn : w.cell? ⟨b,o + n,none⟩ = some u) : (w.setCell ⟨b,o + n,none⟩ v).rangeAt b o (cs.set n v):=by
 intro j x hx
 by_cases e : j = n
 ·subst e
  rw [List.getElem?_set] at hx
  split at hx
  ·split at hx
   ·rw [← Option.some.inj hx]; exact World.cell?_setCell_same w _ _ hn
   ·cases hx
  ·rename_i hne; exact absurd rfl hne
 ·rw [List.getElem?_set_ne (by omega)] at hx
  rw [World.cell?_setCell_other]
  ·exact h j x hx
  ·simp
theorem zdC {w : World} {b o n : Nat} (h : w.there b o n) (p : Addr) (v : Value) : (w.setCell p v).there b o n:=fun j hj => by
 obtain ⟨h1,h2⟩:=h j hj
 refine ⟨?_,by simpa using h2⟩
 obtain ⟨u,hu⟩:=Option.isSome_iff_exists.1 h1
 obtain ⟨x,hx⟩:=cell?_setCell_some (w:=w) (p:=p) (x:=v) (q:=⟨b,o + j,none⟩) (v:=u) hu
 rw [hx]; rfl
abbrev Z34 : Obj:=.cells #[.int .i64 0,.int .i64 0,.int .i64 0,.int .i64 0,.int .i64 0,.int .i64 0,.int .i64 0,.int .i64 0,.int .i64 0,.int .i64 0,.int .i64 0,.int .i64 0,.int .i64 0,.int .i64 0,.int .i64 0,.int .i64 0,.int .i64 0,.int .i64 0,.int .i64 0,.int .i64 0,.int .i64 0,.int .i64 0,.int .i64 0,.int .i64 0,.int .i64 0,.slice none 0 0,.int .i64 0,.int .i64 0,.int .i64 0,.int .i64 0] 34
theorem zeq (w : World) : (w.alloc Z34).there w.heap.size 0 30:=fun j hj => by
 refine ⟨?_,by simp⟩
 have h:=World.cell?_alloc_new (w:=w) #[.int .i64 0,.int .i64 0,.int .i64 0,.int .i64 0,.int .i64 0,.int .i64 0,.int .i64 0,.int .i64 0,.int .i64 0,.int .i64 0,.int .i64 0,.int .i64 0,.int .i64 0,.int .i64 0,.int .i64 0,.int .i64 0,.int .i64 0,.int .i64 0,.int .i64 0,.int .i64 0,.int .i64 0,.int .i64 0,.int .i64 0,.int .i64 0,.int .i64 0,.slice none 0 0,.int .i64 0,.int .i64 0,.int .i64 0,.int .i64 0] 34 (0 + j)
 rw [h,Array.getElem?_eq_getElem (by simpa using hj)]
 rfl
theorem zca {fn : Func} {a : Tmp} {t : TypeId} (h : fn.results = #[.cell a t]) (tmps : Array Value) (p : Addr) (hp : tmps.getD a undef = .pointer (some p)) {P : Program} {w : World} {v : Value} (hl : (loadVar t p).run P w = .ok v w) : (results fn tmps).run P w = .ok v w:=by
 have hp2 : tmps[a]?.getD undef = .pointer (some p):=by simpa using hp
 simp [results,h,hp2,asAddr,hl]
theorem Tryz.info34 : (Tryz.prog.info? 34).map (·.size) = some 30:=by kernel_rfl
theorem zbd (l : List Value) {B b : Nat} {a w : World} (o : Nat) (h : Below B a w) (hb : B ≤ b) : Below B a (w.setCells b o l):=by
 induction l generalizing w o with
 | nil => exact h
 | cons x r ih => exact ih (o + 1) (h.setCell (p:=⟨b,o,none⟩) hb x)
theorem zeK (l : List Value) (w : World) (b o k : Nat) (h : ¬ k = b) : (w.setCells b o l).heap[k]? = w.heap[k]?:=by
 induction l generalizing w o with
 | nil => rfl
 | cons x r ih =>
  show ((w.setCell ⟨b,o,none⟩ x).setCells b (o + 1) r).heap[k]? = _
  rw [ih,Below.heap_setCell _ _ _ _ h]
theorem zj0 (l : List Value) (w : World) (b o : Nat) : (w.setCells b o l).heap.size = w.heap.size:=by
 induction l generalizing w o with
 | nil => rfl
 | cons x r ih =>
  show ((w.setCell ⟨b,o,none⟩ x).setCells b (o + 1) r).heap.size = _
  rw [ih]; simp [World.setCell]
end Go.Proofs.YtfpgjkbjbbgciaaGreatDoor
