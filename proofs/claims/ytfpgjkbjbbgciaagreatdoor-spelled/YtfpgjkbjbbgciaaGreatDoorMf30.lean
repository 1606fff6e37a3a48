import Derived.Test.YtfpgjkbjbbgciaaGreatDoorMf27
import Derived.Test.YtfpgjkbjbbgciaaGreatDoorMf29
set_option maxRecDepth 100000
set_option maxHeartbeats 8000000
namespace Go.Proofs.YtfpgjkbjbbgciaaGreatDoor
open Go.RowKit Sp
attribute [local go_sem ↓] Go.wp_at_zero Go.wp_at_succ
theorem zlK (w : World) (b B : Nat) (bv iv ov : Value) (m : Mc) (x : Int) (h : MchM w b bv iv ov m) (hown : w.ownsRow B 2 1 ov m.out.length (i64s m.out)) (hno : ov.ownBlock ≠ some b) (hB : B ≤ w.heap.size) (hlen : m.out.length ≤ 100000) :
  Calls Tryz.prog 264 #[.pointer (some ⟨b,0,none⟩),.int .i64 x] w fun e w' => e = .returned (.tuple #[]) ∧
   ∃ v' w4,MchM w' b bv iv v' { m with out:=m.out ++ [x] } ∧ w4.ownsRow B 2 1 v' (m.out.length + 1) (i64s (m.out ++ [x])) ∧ w.grownBy w4 ov.ownBlock ∧ w4.grownBy w' (some b):=by
 have lg:=h.lt
 have hco:=h.cO
 obtain ⟨i0,hi0,hz0,hz1,hz2⟩:=info_parts Tryz.info2
 have hne2 : some b ≠ ov.ownBlock:=fun e => hno e.symm
 have hne4 : ¬ w.heap.size = b:=by omega
 have hne5 : ¬ b = w.heap.size:=by omega
 go_enter Tryz.func264,Tryz.ntmps264
 go_wp2_with (first
  | (at_builtin; refine wpList_append_own _ rfl _ _ 29 rfl B 2 i0 (.int .i64 0) 1 8 Tryz.under29 hi0 hz0 hz1 hz2 rfl (by decide) _ _ _ rfl (hown.alloc _) ⟨w.heap.size,0,none⟩ 1 1 [.int .i64 x] rfl rfl (zlJ _ _) (by simp [Value.oneCell']) (by unfold maxLen; omega) (by omega) (by simp; omega) ?_))
 intro v' w4 hown4 hgrow _
 obtain ⟨gb,c,rfl,hgb,hgl⟩:=hown4.form (by omega)
 have h4 : MchM w4 b bv iv ov m:=h.of_block ((hgrow.block b (by simp; omega) hne2).trans (Below.heap_alloc _ _ _ lg))
 have hg4 : w.grownBy w4 ov.ownBlock:=(World.grownBy_alloc w _ _).trans hgrow
 clear hco
 have hco:=h4.cO
 have hfo:=h4.fz 25
 go_wp2
 go_end0
 exact ⟨rfl,_,w4,h4.setO (.slice (some ⟨gb,0,none⟩) (m.out.length + 1) c) (m.out ++ [x]),by simpa [i64s] using hown4,hg4,zat (Below.refl _ _)⟩
theorem zlL (w : World) (b c : Nat) (ao : Option Addr) (iv ov : Value) (m : Mc) (to : Int) (h : MchM w b (.slice ao 15 c) iv ov m) (h2 : (m.fin == 2) = false) :
  Calls Tryz.prog 281 #[.pointer (some ⟨b,0,none⟩),.int .i64 to] w fun e w' => e = .returned (.tuple #[]) ∧ MchM w' b (.slice ao 15 c) iv ov { m with fin:=4 } ∧ w.grownBy w' (some b):=by
 have hce:=h.cE
 have hfe:=h.fz 30
 have hf:=zdu w b 15 c ao iv ov m h (by omega) h2
 go_enter Tryz.func281,Tryz.ntmps281
 go_wp2_with (first | (go_at_call 110; refine hf.mono ?_; rintro e wx ⟨rfl,hww⟩; have hw2:=hww.symm; subst hw2))
 (try simp only [Exit.inBlock,Exit.then]); refine bodyPost_ret (results_none rfl _ _ _) rfl ?_
 exact ⟨rfl,h.setE 4,zat (Below.refl _ _)⟩
theorem zn2 (w : World) (b c : Nat) (ao : Option Addr) (iv ov : Value) (m : Mc) (h : MchM w b (.slice ao 0 c) iv ov m) (h0 : 0 ≤ m.steps) (h1 : m.steps ≤ 100000) :
  Calls Tryz.prog 222 #[.pointer (some ⟨b,0,none⟩)] w fun e w' => e = .returned (.tuple #[]) ∧ MchM w' b (.slice ao 0 c) iv ov { m with steps:=m.steps + 1,fin:=2 } ∧ w.grownBy w' (some b):=by
 have hcb:=h.cB
 go_enter Tryz.func222,Tryz.ntmps222
 go_wp2_with (first | (go_at_call 286; refine (zge w b _ iv ov m 2 h h0 h1).mono ?_; rintro e w2 ⟨rfl,hM,hg⟩))
 (try simp only [Exit.inBlock,Exit.then]); refine bodyPost_ret (results_none rfl _ _ _) rfl ?_
 exact ⟨rfl,hM,hg⟩
theorem zpy (w : World) (b c g n : Nat) (iv ov : Value) (m : Mc) (to : Int) (l : List Int) (h : MchM w b (.slice (some ⟨g,0,none⟩) (n + 1) c) iv ov m) (hcg : w.cell? ⟨g,n,none⟩ = some (.int .i64 to)) (hgb : ¬ g = b) (hn : n ≤ 16) (hc : n + 1 ≤ c) (h0 : 0 ≤ m.steps) (h1 : m.steps ≤ 100000) :
  Calls Tryz.prog 222 #[.pointer (some ⟨b,0,none⟩)] w fun e w' => e = .returned (.tuple #[]) ∧ MchM w' b (.slice (some ⟨g,0,none⟩) n c) iv ov ({ m with backs:=l }.goes to) ∧ w.grownBy w' (some b):=by
 have hcb:=h.cB
 have hfb:=h.fz 27
 have hbg : ¬ b = g:=fun e => hgb e.symm
 have hn0 : (0 : Int) ≤ (n : Int):=by omega
 have hn1 : (n : Int) < (n : Int) + 1:=by omega
 have hx:=h.setB (.slice (some ⟨g,0,none⟩) n c) l
 go_enter Tryz.func222,Tryz.ntmps222
 go_wp2_with (first | (go_at_call 228; refine (zdb _ b _ iv ov _ to hx h0 h1).mono ?_; rintro e w2 ⟨rfl,hM,hg⟩))
 go_end0
 exact ⟨rfl,hM,zac (zat (Below.refl _ _)) hg⟩
end Go.Proofs.YtfpgjkbjbbgciaaGreatDoor
