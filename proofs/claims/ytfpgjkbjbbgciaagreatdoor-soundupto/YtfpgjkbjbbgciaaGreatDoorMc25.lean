import Derived.Test.YtfpgjkbjbbgciaaGreatDoorMc18
import Derived.Test.YtfpgjkbjbbgciaaGreatDoorMc21
set_option maxRecDepth 100000
set_option maxHeartbeats 8000000
namespace Go.Proofs.YtfpgjkbjbbgciaaGreatDoor
open Go.RowKit Sp
attribute [local go_sem ↓] Go.wp_at_zero Go.wp_at_succ
theorem Tryz.info2 : (Tryz.prog.info? 2).map (fun i => (i.zero,i.size,i.bytes)) = some (some (.int .i64 0),1,8):=by kernel_rfl
theorem Tryz.info3 : (Tryz.prog.info? 3).map (fun i => (i.zero,i.size,i.bytes)) = some (some (.int .i64 0),1,8):=by kernel_rfl
theorem Tryz.under29 : Tryz.prog.underlying 29 = some (.slice 2):=by kernel_rfl
theorem Tryz.under59 : Tryz.prog.underlying 59 = some (.slice 3):=by kernel_rfl
theorem zoN (w : World) (b wb cap r B : Nat) (lv bv iv ov : Value) (m : Mc) (x1 : ByteArray) (h : RefM w b lv bv iv ov m) (hw : WdIn w wb [⟨#[119,114,105,116,101]⟩,x1]) (_hne : ¬ wb = b) (hr : r < 8) (hreg : reg x1 = (r : Int)) (hx1 : x1.size ≤ 1048576)
  (hown : w.ownsRow B 2 1 ov m.out.length (i64s m.out)) (hno : ov.ownBlock ≠ some b) (hB : B ≤ w.heap.size) (hlen : m.out.length ≤ 100000) :
  Calls Tryz.prog 90 #[.pointer (some ⟨b,0,none⟩),.slice (some ⟨wb,0,none⟩) 2 cap] w fun e w' => e = .returned (.tuple #[]) ∧
   ∃ g c w1,w' = w1.setCell ⟨b,29,none⟩ (.slice (some ⟨g,0,none⟩) (m.out.length + 1) c) ∧ w.grownBy w1 ov.ownBlock ∧ w1.ownsRow B 2 1 (.slice (some ⟨g,0,none⟩) (m.out.length + 1) c) (m.out.length + 1) (i64s (m.out ++ [m.regs r])) ∧ (ov.ownBlock = some g ∨ w.heap.size ≤ g):=by
 have c0:=hw 0 (by simp)
 have c1:=hw 1 (by simp)
 simp only [List.getElem_cons_zero,List.getElem_cons_succ] at c0 c1
 have hcr:=h.cR r hr
 have hr0 : (0 : Int) ≤ (r : Int):=by omega
 have hr8 : (r : Int) < 8:=by omega
 have g1:=zal x1 r hreg hx1
 have hc:=h.cO
 have hf:=h.fz 29
 have lg:=h.lt
 obtain ⟨i0,hi0,hz0,hz1,hz2⟩:=info_parts Tryz.info2
 have hlt : ∀ b,ov.ownBlock = some b → b < w.heap.size:=fun b hb => (hown.lt b hb).2
 have hne2 : some b ≠ ov.ownBlock:=fun e => hno e.symm
 have hne4 : ¬ w.heap.size = b:=by omega
 have hne5 : ¬ b = w.heap.size:=by omega
 go_enter Tryz.func90,Tryz.ntmps90
 go_wp2_with (first | (go_at_call 75; refine (g1 _).mono ?_; rintro e wx ⟨rfl,hww⟩; have hw2:=hww.symm; subst hw2))
 go_region_law
  ((refine step_append_lies _ (by rfl) _ _ _ (by rfl) B 2 i0 _ 1 8 Tryz.under29 hi0 hz0 hz1 hz2 rfl (by omega) ov m.out.length (i64s m.out) (by rfl) ((hown.alloc _).drew)
     ⟨w.heap.size,0,none⟩ 1 1 [.int .i64 (m.regs r)] (by rfl) (by rfl) (World.news_of_block (cs:=#[.int .i64 (m.regs r)]) (t:=2) (fr:=(0,0)) (znk w _ _)) (by simp [Value.oneCell'])
     (by omega) (by unfold maxLen; omega) (by omega) (by simp; omega) (w.heap.size + 1) (by simp) ?_; intro g c w1 hown1 hgrow hat hltg; have hfz : w1.frozen? ⟨b,29,none⟩ = false:=(hgrow.frozen_far _ (by simp; omega) hne2).trans ((ziy w _ _ lg).trans hf); have hcz : w1.cell? ⟨b,29,none⟩ = some ov:=(hgrow.cell_far _ (by simp; omega) hne2).trans ((zgC w _ _ lg).trans hc)))
 all_goals go_wp2
 all_goals go_end0
 all_goals exact ⟨rfl,g,c,w1,rfl,zhk hgrow,by simpa [i64s] using hown1,by rcases hat with h | h; exact .inl h; exact .inr (by omega)⟩
end Go.Proofs.YtfpgjkbjbbgciaaGreatDoor
namespace Go.Proofs.YtfpgjkbjbbgciaaGreatDoor
open Go.RowKit Sp
theorem LinesIn.drewN {w : World} {g : Nat} {L : List Said} (h : LinesIn w g L) (n : Nat) : LinesIn (w.drewN n) g L:=⟨h.kind,h.words,h.wf⟩
theorem zoL (w : World) (b wb cap g cap2 k : Nat) (bv iv ov : Value) (L : List Said) (m : Mc) (x : ByteArray) (next : Int) (j : Nat) (h : RefM w b (.slice (some ⟨g,0,none⟩) L.length cap2) bv iv ov m) (hL : LinesIn w g L) (hn : L.length ≤ 300) (hk : k < L.length) (hat : m.at' = (k : Int)) (hw : WdIn w wb [⟨#[106,117,109,112]⟩,x]) (hlab : zbM L k x = (j : Int)) (hj : j ≤ L.length) :
  Calls Tryz.prog 89 #[.pointer (some ⟨b,0,none⟩),.slice (some ⟨wb,0,none⟩) 2 cap,.int .i64 next] w fun e w' => e = .returned (.tuple #[.int .i64 (zac L j),.bool true]) ∧ ∃ n,w' = w.drewN n:=by
 have c0:=hw 0 (by simp)
 have c1:=hw 1 (by simp)
 simp only [List.getElem_cons_zero,List.getElem_cons_succ] at c0 c1
 have hcl:=h.cL
 have hca:=h.cAt
 rw [hat] at hca
 have g1 : ∀ n,Calls Tryz.prog 78 #[.slice (some ⟨g,0,none⟩) L.length cap2,.int .i64 (k : Int),.string x] (w.drewN n) fun e w' => e = .returned (.int .i64 (j : Int)) ∧ w' = w.drewN n:=fun n => by
  rw [← hlab]; exact zeT L g cap2 k x _ (hL.drewN n) (by omega) hk
 have g2 : ∀ n,Calls Tryz.prog 88 #[.slice (some ⟨g,0,none⟩) L.length cap2,.int .i64 (j : Int)] (w.drewN n) fun e w' => e = .returned (.int .i64 (zac L j)) ∧ w' = w.drewN n:=fun n => zcS L g cap2 j _ (hL.drewN n) (by omega) (by omega)
 generalize zac L j = to at g2 ⊢
 clear hlab
 go_enter Tryz.func89,Tryz.ntmps89
 go_wp2_with fail
 go_quiet (first | (go_at_call 78; exact Calls.quiet_of_same (g1 _)) | (go_at_call 88; exact Calls.quiet_of_same (g2 _)))
 go_wp2
 go_ret2
 exact ⟨rfl,_,rfl⟩
theorem zbe (w : World) (b wb cap n : Nat) (l : List ByteArray) (next : Int) (hl : l.length = n + 1) (hn : n ≤ 8) (hw : WdIn w wb l) (h0 : ((l[0]'(by omega)).toList == [106,117,109,112]) = false) (h1 : ((l[0]'(by omega)).toList == [108,101,115,115]) = false) (h2 : ((l[0]'(by omega)).toList == [115,97,109,101]) = false) (h3 : ((l[0]'(by omega)).toList == [99,97,108,108]) = false) (h4 : ((l[0]'(by omega)).toList == [98,97,99,107]) = false) (h5 : ((l[0]'(by omega)).toList == [115,116,111,112]) = false) :
  Calls Tryz.prog 89 #[.pointer (some ⟨b,0,none⟩),.slice (some ⟨wb,0,none⟩) (n + 1) cap,.int .i64 next] w fun e w' => e = .returned (.tuple #[.int .i64 next,.bool false]) ∧ w' = w:=by
 have c0:=hw 0 (by omega)
 have cn:=hw n (by omega)
 generalize l[0] = x0 at c0 h0 h1 h2 h3 h4 h5
 generalize l[n] = xn at cn
 have hwrap : IntKind.i64.wrap (n : Int) = (n : Int):=zcL _ (by omega) (by omega)
 have hf0 : (0 : Int) ≤ (n : Int):=by omega
 have hf1 : (n : Int) < (n : Int) + 1:=by omega
 have hf2 : (0 : Int) < (n : Int) + 1:=by omega
 clear hw hl
 go_enter Tryz.func89,Tryz.ntmps89
 go_wp2
 go_ret2
 exact ⟨rfl,rfl⟩
theorem zoM (w : World) (b wb cap : Nat) (lv bv iv ov : Value) (m : Mc) (next : Int) (h : RefM w b lv bv iv ov m) (hw : WdIn w wb [⟨#[115,116,111,112]⟩]) :
  Calls Tryz.prog 89 #[.pointer (some ⟨b,0,none⟩),.slice (some ⟨wb,0,none⟩) 1 cap,.int .i64 next] w fun e w' => e = .returned (.tuple #[.int .i64 (-1),.bool true]) ∧ RefM w' b lv bv iv ov { m with fin:=1 } ∧ w.grownBy w' (some b):=by
 have c0:=hw 0 (by simp)
 simp only [List.getElem_cons_zero] at c0
 have hce:=h.cE
 have hfe:=h.fz 33
 go_enter Tryz.func89,Tryz.ntmps89
 go_wp2
 go_ret2
 exact ⟨rfl,h.setE 1,zae (Below.refl _ _)⟩
theorem zfX (w : World) (b wb wc nw g cap2 k : Nat) (bv iv ov : Value) (L : List Said) (m m' : Mc) (h : RefM w b (.slice (some ⟨g,0,none⟩) L.length cap2) bv iv ov m) (hfin : m.fin = 0) (hat : m.at' = (k : Int)) (hk : k < L.length) (hn : L.length ≤ 300) (hL : LinesIn w g L) (hwd : w.cell? ⟨g,k * 2 + 1,none⟩ = some (.slice (some ⟨wb,0,none⟩) nw wc)) (next : Int) (hnx : zac L (k + 1) = next) (P : World → Value → Value → Value → Prop) (to z : Int) (hmv : ∀ n,Calls Tryz.prog 89 #[.pointer (some ⟨b,0,none⟩),.slice (some ⟨wb,0,none⟩) nw wc,.int .i64 next] (w.drewN n) fun e w' => e = .returned (.tuple #[.int .i64 to,.bool true]) ∧ ∃ bv' iv' ov',RefM w' b (.slice (some ⟨g,0,none⟩) L.length cap2) bv' iv' ov' m' ∧ P w' bv' iv' ov') (hz : m'.fin = z) (hz3 : (z == 3) = false) (hz4 : (z == 4) = false) (hst : 0 ≤ m'.steps ∧ m'.steps ≤ 1000000) :
  Calls Tryz.prog 55 #[.pointer (some ⟨b,0,none⟩)] w fun e w' => e = .returned (.bool true) ∧ ∃ w1 bv' iv' ov',RefM w' b (.slice (some ⟨g,0,none⟩) L.length cap2) bv' iv' ov' (m'.goes to) ∧ P w1 bv' iv' ov' ∧ w1.grownBy w' (some b):=by
 have hce:=h.cE
 rw [hfin] at hce
 have hcl:=h.cL
 have hca:=h.cAt
 rw [hat] at hca
 have hk0 : (0 : Int) ≤ (k : Int):=by omega
 have hk1 : (k : Int) < (L.length : Int):=by omega
 have hk2 : k * 2 ≤ 600:=by omega
 have g1 : ∀ W,LinesIn W g L → Calls Tryz.prog 88 #[.slice (some ⟨g,0,none⟩) L.length cap2,.int .i64 ((k : Int) + 1)] W fun e w' => e = .returned (.int .i64 next) ∧ w' = W:=fun W hW => by
  have:=zcS L g cap2 (k + 1) W hW (by omega) (by omega)
  rw [hnx] at this
  simpa using this
 clear hnx
 go_enter Tryz.func55,Tryz.ntmps55
 go_wp2_with fail
 go_quiet (fail)
 replace h:=h.drewN nq
 replace hL:=hL.drewN nq
 have HV : Hid (∀ n,w.drewN (nq + n) = (w.drewN nq).drewN n):=fun n => by rw [World.drewN_drewN]
 replace hmv:=fun n => hmv (nq + n)
 simp only [HV.out] at hmv
 clear hce hcl hca hwd HV
 generalize w.drewN nq = w1 at h hL hmv ⊢
 have hcl:=h.cL
 have hca:=h.cAt
 rw [hat] at hca
 go_wp2_with fail
 go_quiet (first | (go_at_call 88; exact Calls.quiet_of_same (g1 _ (hL.drewN _))))
 replace hmv:=hmv nq
 clear hcl hca hL g1
 generalize w1.drewN nq = w2 at hmv ⊢
 go_wp2_with (first | (go_at_call 89; refine hmv.mono ?_; rintro e w3 ⟨rfl,bv',iv',ov',h3,hP⟩; have e3:=h3.cE; have s3:=h3.cS; have a3:=h3.cAt; have fs3:=h3.fz 4; have fa3:=h3.fz 1; rw [hz] at e3; obtain ⟨st0,st1⟩:=hst))
 go_ret
 exact ⟨rfl,w3,bv',iv',ov',(h3.setS _).setAt to,hP,zau (zae (Below.refl _ _)) (zae (Below.refl _ _))⟩
theorem zrh (w : World) (b wb wc nw g cap2 k : Nat) (bv iv ov : Value) (L : List Said) (m m' : Mc) (h : RefM w b (.slice (some ⟨g,0,none⟩) L.length cap2) bv iv ov m) (hfin : m.fin = 0) (hat : m.at' = (k : Int)) (hk : k < L.length) (hn : L.length ≤ 300) (hL : LinesIn w g L) (hwd : w.cell? ⟨g,k * 2 + 1,none⟩ = some (.slice (some ⟨wb,0,none⟩) nw wc)) (next : Int) (hnx : zac L (k + 1) = next) (P : World → Value → Value → Value → Prop) (to : Int) (hmv : ∀ n,Calls Tryz.prog 89 #[.pointer (some ⟨b,0,none⟩),.slice (some ⟨wb,0,none⟩) nw wc,.int .i64 next] (w.drewN n) fun e w' => e = .returned (.tuple #[.int .i64 to,.bool true]) ∧ ∃ bv' iv' ov',RefM w' b (.slice (some ⟨g,0,none⟩) L.length cap2) bv' iv' ov' m' ∧ P w' bv' iv' ov') (hz : m'.fin = 4) :
  Calls Tryz.prog 55 #[.pointer (some ⟨b,0,none⟩)] w fun e w' => e = .returned (.bool false) ∧ ∃ bv' iv' ov',RefM w' b (.slice (some ⟨g,0,none⟩) L.length cap2) bv' iv' ov' m' ∧ P w' bv' iv' ov':=by
 have hce:=h.cE
 rw [hfin] at hce
 have hcl:=h.cL
 have hca:=h.cAt
 rw [hat] at hca
 have hk0 : (0 : Int) ≤ (k : Int):=by omega
 have hk1 : (k : Int) < (L.length : Int):=by omega
 have hk2 : k * 2 ≤ 600:=by omega
 have g1 : ∀ W,LinesIn W g L → Calls Tryz.prog 88 #[.slice (some ⟨g,0,none⟩) L.length cap2,.int .i64 ((k : Int) + 1)] W fun e w' => e = .returned (.int .i64 next) ∧ w' = W:=fun W hW => by
  have:=zcS L g cap2 (k + 1) W hW (by omega) (by omega)
  rw [hnx] at this
  simpa using this
 clear hnx
 go_enter Tryz.func55,Tryz.ntmps55
 go_wp2_with fail
 go_quiet (fail)
 replace h:=h.drewN nq
 replace hL:=hL.drewN nq
 have HV : Hid (∀ n,w.drewN (nq + n) = (w.drewN nq).drewN n):=fun n => by rw [World.drewN_drewN]
 replace hmv:=fun n => hmv (nq + n)
 simp only [HV.out] at hmv
 clear hce hcl hca hwd HV
 generalize w.drewN nq = w1 at h hL hmv ⊢
 have hcl:=h.cL
 have hca:=h.cAt
 rw [hat] at hca
 go_wp2_with fail
 go_quiet (first | (go_at_call 88; exact Calls.quiet_of_same (g1 _ (hL.drewN _))))
 replace hmv:=hmv nq
 clear hcl hca hL g1
 generalize w1.drewN nq = w2 at hmv ⊢
 go_wp2_with (first | (go_at_call 89; refine hmv.mono ?_; rintro e w3 ⟨rfl,bv',iv',ov',h3,hP⟩; have e3:=h3.cE; rw [hz] at e3))
 go_ret
 exact ⟨rfl,bv',iv',ov',h3,hP⟩
theorem zht (w : World) (b wb wc nw g cap2 k : Nat) (bv iv ov : Value) (L : List Said) (m m' : Mc) (h : RefM w b (.slice (some ⟨g,0,none⟩) L.length cap2) bv iv ov m) (hfin : m.fin = 0) (hat : m.at' = (k : Int)) (hk : k < L.length) (hn : L.length ≤ 300) (hL : LinesIn w g L) (hwd : w.cell? ⟨g,k * 2 + 1,none⟩ = some (.slice (some ⟨wb,0,none⟩) nw wc)) (next : Int) (hnx : zac L (k + 1) = next) (P : World → Value → Value → Value → Prop) (z : Int) (hmv : ∀ n,Calls Tryz.prog 89 #[.pointer (some ⟨b,0,none⟩),.slice (some ⟨wb,0,none⟩) nw wc,.int .i64 next] (w.drewN n) fun e w' => e = .returned (.tuple #[.int .i64 next,.bool false]) ∧ w' = w.drewN n) (hdo : ∀ n,Calls Tryz.prog 90 #[.pointer (some ⟨b,0,none⟩),.slice (some ⟨wb,0,none⟩) nw wc] (w.drewN n) fun e w' => e = .returned (.tuple #[]) ∧ ∃ bv' iv' ov',RefM w' b (.slice (some ⟨g,0,none⟩) L.length cap2) bv' iv' ov' m' ∧ P w' bv' iv' ov') (hz : m'.fin = z) (hz3 : (z == 3) = false) (hz4 : (z == 4) = false) (hst : 0 ≤ m'.steps ∧ m'.steps ≤ 1000000) :
  Calls Tryz.prog 55 #[.pointer (some ⟨b,0,none⟩)] w fun e w' => e = .returned (.bool true) ∧ ∃ w1 bv' iv' ov',RefM w' b (.slice (some ⟨g,0,none⟩) L.length cap2) bv' iv' ov' (m'.goes next) ∧ P w1 bv' iv' ov' ∧ w1.grownBy w' (some b):=by
 have hce:=h.cE
 rw [hfin] at hce
 have hcl:=h.cL
 have hca:=h.cAt
 rw [hat] at hca
 have hk0 : (0 : Int) ≤ (k : Int):=by omega
 have hk1 : (k : Int) < (L.length : Int):=by omega
 have hk2 : k * 2 ≤ 600:=by omega
 have g1 : ∀ W,LinesIn W g L → Calls Tryz.prog 88 #[.slice (some ⟨g,0,none⟩) L.length cap2,.int .i64 ((k : Int) + 1)] W fun e w' => e = .returned (.int .i64 next) ∧ w' = W:=fun W hW => by
  have:=zcS L g cap2 (k + 1) W hW (by omega) (by omega)
  rw [hnx] at this
  simpa using this
 clear hnx
 go_enter Tryz.func55,Tryz.ntmps55
 go_wp2_with fail
 go_quiet (fail)
 replace h:=h.drewN nq
 replace hL:=hL.drewN nq
 have HV : Hid (∀ n,w.drewN (nq + n) = (w.drewN nq).drewN n):=fun n => by rw [World.drewN_drewN]
 replace hmv:=fun n => hmv (nq + n)
 replace hdo:=fun n => hdo (nq + n)
 simp only [HV.out] at hmv hdo
 clear hce hcl hca hwd HV
 generalize w.drewN nq = w1 at h hL hmv hdo ⊢
 have hcl:=h.cL
 have hca:=h.cAt
 rw [hat] at hca
 go_wp2_with fail
 go_quiet (first | (go_at_call 88; exact Calls.quiet_of_same (g1 _ (hL.drewN _))))
 replace hmv:=hmv nq
 replace hdo:=hdo nq
 clear hcl hca hL g1
 generalize w1.drewN nq = w2 at hmv hdo ⊢
 go_wp2_with (first | (go_at_call 89; refine hmv.mono ?_; rintro e wx ⟨rfl,hww⟩; have hw2:=hww.symm; subst hw2) | (go_at_call 90; refine hdo.mono ?_; rintro e w3 ⟨rfl,bv',iv',ov',h3,hP⟩; have e3:=h3.cE; have s3:=h3.cS; have a3:=h3.cAt; have fs3:=h3.fz 4; have fa3:=h3.fz 1; rw [hz] at e3; obtain ⟨st0,st1⟩:=hst))
 go_ret
 exact ⟨rfl,w3,bv',iv',ov',(h3.setS _).setAt next,hP,zau (zae (Below.refl _ _)) (zae (Below.refl _ _))⟩
theorem zoP (w : World) (b wb wc nw g cap2 k : Nat) (bv iv ov : Value) (L : List Said) (m m' : Mc) (h : RefM w b (.slice (some ⟨g,0,none⟩) L.length cap2) bv iv ov m) (hfin : m.fin = 0) (hat : m.at' = (k : Int)) (hk : k < L.length) (hn : L.length ≤ 300) (hL : LinesIn w g L) (hwd : w.cell? ⟨g,k * 2 + 1,none⟩ = some (.slice (some ⟨wb,0,none⟩) nw wc)) (next : Int) (hnx : zac L (k + 1) = next) (P : World → Value → Value → Value → Prop) (hmv : ∀ n,Calls Tryz.prog 89 #[.pointer (some ⟨b,0,none⟩),.slice (some ⟨wb,0,none⟩) nw wc,.int .i64 next] (w.drewN n) fun e w' => e = .returned (.tuple #[.int .i64 next,.bool false]) ∧ w' = w.drewN n) (hdo : ∀ n,Calls Tryz.prog 90 #[.pointer (some ⟨b,0,none⟩),.slice (some ⟨wb,0,none⟩) nw wc] (w.drewN n) fun e w' => e = .returned (.tuple #[]) ∧ ∃ bv' iv' ov',RefM w' b (.slice (some ⟨g,0,none⟩) L.length cap2) bv' iv' ov' m' ∧ P w' bv' iv' ov') (hz : m'.fin = 3) :
  Calls Tryz.prog 55 #[.pointer (some ⟨b,0,none⟩)] w fun e w' => e = .returned (.bool false) ∧ ∃ bv' iv' ov',RefM w' b (.slice (some ⟨g,0,none⟩) L.length cap2) bv' iv' ov' m' ∧ P w' bv' iv' ov':=by
 have hce:=h.cE
 rw [hfin] at hce
 have hcl:=h.cL
 have hca:=h.cAt
 rw [hat] at hca
 have hk0 : (0 : Int) ≤ (k : Int):=by omega
 have hk1 : (k : Int) < (L.length : Int):=by omega
 have hk2 : k * 2 ≤ 600:=by omega
 have g1 : ∀ W,LinesIn W g L → Calls Tryz.prog 88 #[.slice (some ⟨g,0,none⟩) L.length cap2,.int .i64 ((k : Int) + 1)] W fun e w' => e = .returned (.int .i64 next) ∧ w' = W:=fun W hW => by
  have:=zcS L g cap2 (k + 1) W hW (by omega) (by omega)
  rw [hnx] at this
  simpa using this
 clear hnx
 go_enter Tryz.func55,Tryz.ntmps55
 go_wp2_with fail
 go_quiet (fail)
 replace h:=h.drewN nq
 replace hL:=hL.drewN nq
 have HV : Hid (∀ n,w.drewN (nq + n) = (w.drewN nq).drewN n):=fun n => by rw [World.drewN_drewN]
 replace hmv:=fun n => hmv (nq + n)
 replace hdo:=fun n => hdo (nq + n)
 simp only [HV.out] at hmv hdo
 clear hce hcl hca hwd HV
 generalize w.drewN nq = w1 at h hL hmv hdo ⊢
 have hcl:=h.cL
 have hca:=h.cAt
 rw [hat] at hca
 go_wp2_with fail
 go_quiet (first | (go_at_call 88; exact Calls.quiet_of_same (g1 _ (hL.drewN _))))
 replace hmv:=hmv nq
 replace hdo:=hdo nq
 clear hcl hca hL g1
 generalize w1.drewN nq = w2 at hmv hdo ⊢
 go_wp2_with (first | (go_at_call 89; refine hmv.mono ?_; rintro e wx ⟨rfl,hww⟩; have hw2:=hww.symm; subst hw2) | (go_at_call 90; refine hdo.mono ?_; rintro e w3 ⟨rfl,bv',iv',ov',h3,hP⟩; have e3:=h3.cE; rw [hz] at e3))
 go_ret
 exact ⟨rfl,bv',iv',ov',h3,hP⟩
end Go.Proofs.YtfpgjkbjbbgciaaGreatDoor
