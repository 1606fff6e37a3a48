import Derived.Test.YtfpgjkbjbbgciaaGreatDoorMe28
import Derived.Test.YtfpgjkbjbbgciaaGreatDoorMe29
set_option maxRecDepth 100000
set_option maxHeartbeats 8000000
namespace Go.Proofs.YtfpgjkbjbbgciaaGreatDoor
open Go.RowKit Sp
theorem zph (a b d : Int) (w : World) (hl : Rg.Ok ⟨a,b⟩) (hr : Rg.Ok ⟨a,d⟩) (hne : ¬ b = d) : Calls Tryz.prog 277 #[rv ⟨a,b⟩,rv ⟨a,d⟩] w (zdk w ⟨a,b⟩ ⟨a,d⟩ (zaA ⟨a,b⟩ ⟨a,d⟩)):=by
 have hq : zaA ⟨a,b⟩ ⟨a,d⟩ = some ((⟨a,b⟩ : Rg).without (⟨a,d⟩ : Rg),(⟨a,d⟩ : Rg).without (⟨a,b⟩ : Rg)):=by unfold zaA; rw [if_neg (by dsimp only; omega)]
 rw [hq]
 have g1:=fun W => zc4 (⟨a,b⟩ : Rg) (⟨a,d⟩ : Rg) W hl (by dsimp only; omega)
 have g2:=fun W => zc4 (⟨a,d⟩ : Rg) (⟨a,b⟩ : Rg) W hr (by dsimp only; omega)
 have H1:=zee w (⟨a,b⟩ : Rg) (⟨a,d⟩ : Rg) (.cells #[.int .i64 0,.int .i64 0] 213) (.cells #[.int .i64 0,.int .i64 0] 213)
 have hs0 : ((((w.alloc (.cells #[.int .i64 a,.int .i64 b] 213)).alloc (.cells #[.int .i64 a,.int .i64 d] 213)).alloc (.cells #[.int .i64 0,.int .i64 0] 213)).alloc (.cells #[.int .i64 0,.int .i64 0] 213)).heap.size = w.heap.size + 1 + 1 + 1 + 1:=by simp
 have hB : Below w.heap.size w ((((w.alloc (.cells #[.int .i64 a,.int .i64 b] 213)).alloc (.cells #[.int .i64 a,.int .i64 d] 213)).alloc (.cells #[.int .i64 0,.int .i64 0] 213)).alloc (.cells #[.int .i64 0,.int .i64 0] 213)):=zb3
 have k0 : ((((w.alloc (.cells #[.int .i64 a,.int .i64 b] 213)).alloc (.cells #[.int .i64 a,.int .i64 d] 213)).alloc (.cells #[.int .i64 0,.int .i64 0] 213)).alloc (.cells #[.int .i64 0,.int .i64 0] 213)).cell? ⟨w.heap.size + 1 + 1,0,none⟩ = some (.int .i64 0) ∧ ((((w.alloc (.cells #[.int .i64 a,.int .i64 b] 213)).alloc (.cells #[.int .i64 a,.int .i64 d] 213)).alloc (.cells #[.int .i64 0,.int .i64 0] 213)).alloc (.cells #[.int .i64 0,.int .i64 0] 213)).cell? ⟨w.heap.size + 1 + 1,1,none⟩ = some (.int .i64 0) ∧ ((((w.alloc (.cells #[.int .i64 a,.int .i64 b] 213)).alloc (.cells #[.int .i64 a,.int .i64 d] 213)).alloc (.cells #[.int .i64 0,.int .i64 0] 213)).alloc (.cells #[.int .i64 0,.int .i64 0] 213)).cell? ⟨w.heap.size + 1 + 1 + 1,0,none⟩ = some (.int .i64 0) ∧ ((((w.alloc (.cells #[.int .i64 a,.int .i64 b] 213)).alloc (.cells #[.int .i64 a,.int .i64 d] 213)).alloc (.cells #[.int .i64 0,.int .i64 0] 213)).alloc (.cells #[.int .i64 0,.int .i64 0] 213)).cell? ⟨w.heap.size + 1 + 1 + 1,1,none⟩ = some (.int .i64 0) :=
  ⟨za9 _ _ _ _ _ _ 0,za9 _ _ _ _ _ _ 1,za2 _ _ _ _ _ _ 0,za2 _ _ _ _ _ _ 1⟩
 have kz : ∀ j,((((w.alloc (.cells #[.int .i64 a,.int .i64 b] 213)).alloc (.cells #[.int .i64 a,.int .i64 d] 213)).alloc (.cells #[.int .i64 0,.int .i64 0] 213)).alloc (.cells #[.int .i64 0,.int .i64 0] 213)).frozen? ⟨w.heap.size + 1 + 1,j,none⟩ = false ∧ ((((w.alloc (.cells #[.int .i64 a,.int .i64 b] 213)).alloc (.cells #[.int .i64 a,.int .i64 d] 213)).alloc (.cells #[.int .i64 0,.int .i64 0] 213)).alloc (.cells #[.int .i64 0,.int .i64 0] 213)).frozen? ⟨w.heap.size + 1 + 1 + 1,j,none⟩ = false:=fun j =>
  ⟨(World.frozen?_alloc_past _ _ _ (by simp)).trans (zev _ _ _ _ _ j),World.frozen?_alloc_at _ _ _ _ (by simp)⟩
 clear hl hr hq
 generalize (⟨a,b⟩ : Rg).without (⟨a,d⟩ : Rg) = A at g1
 generalize (⟨a,d⟩ : Rg).without (⟨a,b⟩ : Rg) = B at g2
 have m1 : ¬ w.heap.size = w.heap.size + 1 + 1:=by omega
 have m2 : ¬ w.heap.size + 1 = w.heap.size + 1 + 1:=by omega
 have m3 : ¬ w.heap.size = w.heap.size + 1 + 1 + 1:=by omega
 have m4 : ¬ w.heap.size + 1 = w.heap.size + 1 + 1 + 1:=by omega
 have t1 : (b == d) = false:=by simpa using hne
 go_enter Tryz.func277,Tryz.ntmps277
 go_wp2_with fail
 generalize (((w.alloc (.cells #[.int .i64 a,.int .i64 b] 213)).alloc (.cells #[.int .i64 a,.int .i64 d] 213)).alloc (.cells #[.int .i64 0,.int .i64 0] 213)).alloc (.cells #[.int .i64 0,.int .i64 0] 213) = W0 at hs0 hB k0 kz H1
 go_region_held3 (fun W => W.cell? ⟨w.heap.size,0,none⟩ = some (.int .i64 a) ∧ W.cell? ⟨w.heap.size,1,none⟩ = some (.int .i64 b) ∧ W.cell? ⟨w.heap.size + 1,0,none⟩ = some (.int .i64 a) ∧ W.cell? ⟨w.heap.size + 1,1,none⟩ = some (.int .i64 d))
  (first | (with_reducible exact H3) | (with_reducible exact H2) | (with_reducible exact zaV m1 m2 H3) | (with_reducible exact zaV m3 m4 H3) | (with_reducible exact zaV m3 m4 (zaV m1 m2 H3)) | (with_reducible exact zaV m1 m2 (zaV m3 m4 H3)) | exact H1)
  (first | (go_at_call 278; (with_reducible refine (g1 _).mono ?_); rintro e w2 ⟨rfl,hb2⟩; have H2:=zbH hb2 H1) | (go_at_call 278; (with_reducible refine (g2 _).mono ?_); rintro e w3 ⟨rfl,hb3⟩; have H3:=zbH hb3 H2; have hb03 : Below W0.heap.size W0 w3:=((Below.refl _ _).drew).trans (hb2.trans (hb3.mono hb2.size)); obtain ⟨⟨q1,q2,q3,q4⟩,f1,f2,f3,f4⟩:=zfY hs0 k0 kz hb03))
 have hb03 : Below W0.heap.size W0 w3:=((Below.refl _ _).drew).trans (hb2.trans (hb3.mono hb2.size))
 have hbw:=hB.trans (hb03.mono hB.size)
 have R:=zfZ (x0:=.int .i64 A.lo) (x1:=.int .i64 A.hi) (y0:=.int .i64 B.lo) (y1:=.int .i64 B.hi) (show ¬ w.heap.size + 1 + 1 = w.heap.size + 1 + 1 + 1 by omega) ⟨q1,q2,q3,q4⟩
 have hX : Below w.heap.size w ((((w3.setCell ⟨w.heap.size + 1 + 1,0,none⟩ (.int .i64 A.lo)).setCell ⟨w.heap.size + 1 + 1,1,none⟩ (.int .i64 A.hi)).setCell ⟨w.heap.size + 1 + 1 + 1,0,none⟩ (.int .i64 B.lo)).setCell ⟨w.heap.size + 1 + 1 + 1,1,none⟩ (.int .i64 B.hi)):=zaw (zaw hbw (by omega)) (by omega)
 go_wp2
 exact zdl (l:=A) (r:=B) Tryz.results277 rfl rfl rfl rfl R.1 R.2.1 R.2.2.1 R.2.2.2 ⟨hX,rfl⟩
theorem zkL (a b : Int) (w : World) (hl : Rg.Ok ⟨a,b⟩) (hne : ¬ a = b) : Calls Tryz.prog 277 #[rv ⟨a,b⟩,rv ⟨a,b⟩] w (zdk w ⟨a,b⟩ ⟨a,b⟩ (zaA ⟨a,b⟩ ⟨a,b⟩)):=by
 have hq : zaA ⟨a,b⟩ ⟨a,b⟩ = some ((⟨a,b⟩ : Rg).without (⟨a,b⟩ : Rg),(⟨a,b⟩ : Rg).without (⟨a,b⟩ : Rg)):=by unfold zaA; rw [if_neg (by dsimp only; omega)]
 rw [hq]
 have g1:=fun W => zc4 (⟨a,b⟩ : Rg) (⟨a,b⟩ : Rg) W hl (by dsimp only; omega)
 have g2:=fun W => zc4 (⟨a,b⟩ : Rg) (⟨a,b⟩ : Rg) W hl (by dsimp only; omega)
 have H1:=zee w (⟨a,b⟩ : Rg) (⟨a,b⟩ : Rg) (.cells #[.int .i64 0,.int .i64 0] 213) (.cells #[.int .i64 0,.int .i64 0] 213)
 have hs0 : ((((w.alloc (.cells #[.int .i64 a,.int .i64 b] 213)).alloc (.cells #[.int .i64 a,.int .i64 b] 213)).alloc (.cells #[.int .i64 0,.int .i64 0] 213)).alloc (.cells #[.int .i64 0,.int .i64 0] 213)).heap.size = w.heap.size + 1 + 1 + 1 + 1:=by simp
 have hB : Below w.heap.size w ((((w.alloc (.cells #[.int .i64 a,.int .i64 b] 213)).alloc (.cells #[.int .i64 a,.int .i64 b] 213)).alloc (.cells #[.int .i64 0,.int .i64 0] 213)).alloc (.cells #[.int .i64 0,.int .i64 0] 213)):=zb3
 have k0 : ((((w.alloc (.cells #[.int .i64 a,.int .i64 b] 213)).alloc (.cells #[.int .i64 a,.int .i64 b] 213)).alloc (.cells #[.int .i64 0,.int .i64 0] 213)).alloc (.cells #[.int .i64 0,.int .i64 0] 213)).cell? ⟨w.heap.size + 1 + 1,0,none⟩ = some (.int .i64 0) ∧ ((((w.alloc (.cells #[.int .i64 a,.int .i64 b] 213)).alloc (.cells #[.int .i64 a,.int .i64 b] 213)).alloc (.cells #[.int .i64 0,.int .i64 0] 213)).alloc (.cells #[.int .i64 0,.int .i64 0] 213)).cell? ⟨w.heap.size + 1 + 1,1,none⟩ = some (.int .i64 0) ∧ ((((w.alloc (.cells #[.int .i64 a,.int .i64 b] 213)).alloc (.cells #[.int .i64 a,.int .i64 b] 213)).alloc (.cells #[.int .i64 0,.int .i64 0] 213)).alloc (.cells #[.int .i64 0,.int .i64 0] 213)).cell? ⟨w.heap.size + 1 + 1 + 1,0,none⟩ = some (.int .i64 0) ∧ ((((w.alloc (.cells #[.int .i64 a,.int .i64 b] 213)).alloc (.cells #[.int .i64 a,.int .i64 b] 213)).alloc (.cells #[.int .i64 0,.int .i64 0] 213)).alloc (.cells #[.int .i64 0,.int .i64 0] 213)).cell? ⟨w.heap.size + 1 + 1 + 1,1,none⟩ = some (.int .i64 0) :=
  ⟨za9 _ _ _ _ _ _ 0,za9 _ _ _ _ _ _ 1,za2 _ _ _ _ _ _ 0,za2 _ _ _ _ _ _ 1⟩
 have kz : ∀ j,((((w.alloc (.cells #[.int .i64 a,.int .i64 b] 213)).alloc (.cells #[.int .i64 a,.int .i64 b] 213)).alloc (.cells #[.int .i64 0,.int .i64 0] 213)).alloc (.cells #[.int .i64 0,.int .i64 0] 213)).frozen? ⟨w.heap.size + 1 + 1,j,none⟩ = false ∧ ((((w.alloc (.cells #[.int .i64 a,.int .i64 b] 213)).alloc (.cells #[.int .i64 a,.int .i64 b] 213)).alloc (.cells #[.int .i64 0,.int .i64 0] 213)).alloc (.cells #[.int .i64 0,.int .i64 0] 213)).frozen? ⟨w.heap.size + 1 + 1 + 1,j,none⟩ = false:=fun j =>
  ⟨(World.frozen?_alloc_past _ _ _ (by simp)).trans (zev _ _ _ _ _ j),World.frozen?_alloc_at _ _ _ _ (by simp)⟩
 clear hl hq
 generalize (⟨a,b⟩ : Rg).without (⟨a,b⟩ : Rg) = A at g1 g2
 have m1 : ¬ w.heap.size = w.heap.size + 1 + 1:=by omega
 have m2 : ¬ w.heap.size + 1 = w.heap.size + 1 + 1:=by omega
 have m3 : ¬ w.heap.size = w.heap.size + 1 + 1 + 1:=by omega
 have m4 : ¬ w.heap.size + 1 = w.heap.size + 1 + 1 + 1:=by omega
 have t1 : (a == b) = false:=by simpa using hne
 go_enter Tryz.func277,Tryz.ntmps277
 go_wp2_with fail
 generalize (((w.alloc (.cells #[.int .i64 a,.int .i64 b] 213)).alloc (.cells #[.int .i64 a,.int .i64 b] 213)).alloc (.cells #[.int .i64 0,.int .i64 0] 213)).alloc (.cells #[.int .i64 0,.int .i64 0] 213) = W0 at hs0 hB k0 kz H1
 go_region_held3 (fun W => W.cell? ⟨w.heap.size,0,none⟩ = some (.int .i64 a) ∧ W.cell? ⟨w.heap.size,1,none⟩ = some (.int .i64 b) ∧ W.cell? ⟨w.heap.size + 1,0,none⟩ = some (.int .i64 a) ∧ W.cell? ⟨w.heap.size + 1,1,none⟩ = some (.int .i64 b))
  (first | (with_reducible exact H3) | (with_reducible exact H2) | (with_reducible exact zaV m1 m2 H3) | (with_reducible exact zaV m3 m4 H3) | (with_reducible exact zaV m3 m4 (zaV m1 m2 H3)) | (with_reducible exact zaV m1 m2 (zaV m3 m4 H3)) | exact H1)
  (first | (go_at_call 278; (with_reducible refine (g1 _).mono ?_); rintro e w2 ⟨rfl,hb2⟩; have H2:=zbH hb2 H1) | (go_at_call 278; (with_reducible refine (g2 _).mono ?_); rintro e w3 ⟨rfl,hb3⟩; have H3:=zbH hb3 H2; have hb03 : Below W0.heap.size W0 w3:=((Below.refl _ _).drew).trans (hb2.trans (hb3.mono hb2.size)); obtain ⟨⟨q1,q2,q3,q4⟩,f1,f2,f3,f4⟩:=zfY hs0 k0 kz hb03))
 have hb03 : Below W0.heap.size W0 w3:=((Below.refl _ _).drew).trans (hb2.trans (hb3.mono hb2.size))
 have hbw:=hB.trans (hb03.mono hB.size)
 have R:=zfZ (x0:=.int .i64 A.lo) (x1:=.int .i64 A.hi) (y0:=.int .i64 A.lo) (y1:=.int .i64 A.hi) (show ¬ w.heap.size + 1 + 1 = w.heap.size + 1 + 1 + 1 by omega) ⟨q1,q2,q3,q4⟩
 have hX : Below w.heap.size w ((((w3.setCell ⟨w.heap.size + 1 + 1,0,none⟩ (.int .i64 A.lo)).setCell ⟨w.heap.size + 1 + 1,1,none⟩ (.int .i64 A.hi)).setCell ⟨w.heap.size + 1 + 1 + 1,0,none⟩ (.int .i64 A.lo)).setCell ⟨w.heap.size + 1 + 1 + 1,1,none⟩ (.int .i64 A.hi)):=zaw (zaw hbw (by omega)) (by omega)
 go_wp2
 exact zdl (l:=A) (r:=A) Tryz.results277 rfl rfl rfl rfl R.1 R.2.1 R.2.2.1 R.2.2.2 ⟨hX,rfl⟩
theorem zmq (x : Int) (w : World) : Calls Tryz.prog 277 #[rv ⟨x,x⟩,rv ⟨x,x⟩] w (zdk w ⟨x,x⟩ ⟨x,x⟩ none):=by
 go_enter Tryz.func277,Tryz.ntmps277
 go_wp2
 go_region
 all_goals go_wp2
 all_goals exact zdl (l:=⟨x,x⟩) (r:=⟨x,x⟩) Tryz.results277 rfl rfl rfl rfl (za9 _ _ _ _ _ _ 0) (za9 _ _ _ _ _ _ 1) (za2 _ _ _ _ _ _ 0) (za2 _ _ _ _ _ _ 1) ⟨zb3.drew,_,_,rfl⟩
theorem zmr (l r : Rg) (w : World) (hl : l.Ok) (hr : r.Ok) : Calls Tryz.prog 277 #[rv l,rv r] w (zdk w l r (zaA l r)):=by
 obtain ⟨a,b⟩:=l
 obtain ⟨c,d⟩:=r
 by_cases h1 : a = c
 ·subst h1
  by_cases h2 : b = d
  ·subst h2
   by_cases h3 : a = b
   ·subst h3
    rw [show zaA ⟨a,a⟩ ⟨a,a⟩ = none from by unfold zaA; rw [if_pos ⟨⟨rfl,rfl⟩,rfl⟩]]
    exact zmq a w
   ·exact zkL a b w hl h3
  ·exact zph a b d w hl hr h2
 ·exact zpg a b c d w hl hr h1
theorem zhD (w : World) (r o : Rg) : TimesAt w ((((w.alloc (.cells #[.int .i64 r.lo,.int .i64 r.hi] 213)).alloc (.cells #[.int .i64 o.lo,.int .i64 o.hi] 213)).alloc (.cells #[.int .i64 0,.int .i64 0] 213)).alloc (.cells #[.int .i64 0,.int .i64 0,.int .i64 0,.int .i64 0] 304)) r o 0:=by
 have hs : ((((w.alloc (.cells #[.int .i64 r.lo,.int .i64 r.hi] 213)).alloc (.cells #[.int .i64 o.lo,.int .i64 o.hi] 213)).alloc (.cells #[.int .i64 0,.int .i64 0] 213)).alloc (.cells #[.int .i64 0,.int .i64 0,.int .i64 0,.int .i64 0] 304)).heap.size = w.heap.size + 1 + 1 + 1 + 1:=by simp
 refine ⟨fun j hj => ?_,fun j => World.frozen?_alloc_at _ _ _ _ (by simp),fun j hj => ?_,fun j => (World.frozen?_alloc_past _ _ _ (by simp)).trans (zev _ _ _ _ _ j),zb3,by omega,fun j hj => by omega⟩
 ·rw [if_neg (by omega),za2]
  match j,hj with
  | 0,_ => rfl
  | 1,_ => rfl
  | 2,_ => rfl
  | 3,_ => rfl
 ·rw [za9]
  match j,hj with
  | 0,_ => rfl
  | 1,_ => rfl
theorem zbw {w w' : World} (hb : Below w.heap.size w w') {b j : Nat} (hlt : b < w.heap.size) (h : w.frozen? ⟨b,j,none⟩ = false) : w'.frozen? ⟨b,j,none⟩ = false:=(World.frozen?_of_block (w:=w) (a:=⟨b,j,none⟩) (hb.block b hlt)).trans h
theorem ziO (x0 x1 x2 x3 x4 x5 x6 x7 : Int) (W : World) : (Instr.index 306 (.agg #[.int .i64 x0,.int .i64 x1,.int .i64 x2,.int .i64 x3,.int .i64 x4,.int .i64 x5,.int .i64 x6,.int .i64 x7]) (.int .i64 0)).run Tryz.prog W = .ok (.agg #[.int .i64 x0,.int .i64 x1]) W:=by kernel_rfl
theorem ziP (x0 x1 x2 x3 x4 x5 x6 x7 : Int) (W : World) : (Instr.index 306 (.agg #[.int .i64 x0,.int .i64 x1,.int .i64 x2,.int .i64 x3,.int .i64 x4,.int .i64 x5,.int .i64 x6,.int .i64 x7]) (.int .i64 1)).run Tryz.prog W = .ok (.agg #[.int .i64 x2,.int .i64 x3]) W:=by kernel_rfl
theorem ziQ (x0 x1 x2 x3 x4 x5 x6 x7 : Int) (W : World) : (Instr.index 306 (.agg #[.int .i64 x0,.int .i64 x1,.int .i64 x2,.int .i64 x3,.int .i64 x4,.int .i64 x5,.int .i64 x6,.int .i64 x7]) (.int .i64 2)).run Tryz.prog W = .ok (.agg #[.int .i64 x4,.int .i64 x5]) W:=by kernel_rfl
theorem ziR (x0 x1 x2 x3 x4 x5 x6 x7 : Int) (W : World) : (Instr.index 306 (.agg #[.int .i64 x0,.int .i64 x1,.int .i64 x2,.int .i64 x3,.int .i64 x4,.int .i64 x5,.int .i64 x6,.int .i64 x7]) (.int .i64 3)).run Tryz.prog W = .ok (.agg #[.int .i64 x6,.int .i64 x7]) W:=by kernel_rfl
theorem zvD (a b c d : Int) (w : World) (hr : (⟨a,b⟩ : Rg).Ok) (ho : (⟨c,d⟩ : Rg).Ok) (hne : ¬ a = b) : Calls Tryz.prog 245 #[rv (⟨a,b⟩ : Rg),rv (⟨c,d⟩ : Rg)] w fun e w' => e = .returned (rv ((⟨a,b⟩ : Rg).times (⟨c,d⟩ : Rg))) ∧ Below w.heap.size w w':=by
 have hn1 : ¬ ((⟨a,b⟩ : Rg).lo = (⟨a,b⟩ : Rg).hi ∧ (⟨c,d⟩ : Rg).lo = (⟨c,d⟩ : Rg).hi):=fun h => hne h.1
 have Z0:=zhD w (⟨a,b⟩ : Rg) (⟨c,d⟩ : Rg)
 have hb5 : ∀ a b W,(Instr.build 305 #[(0,.int .i64 a),(1,.int .i64 b)]).run Tryz.prog W = .ok (.agg #[.int .i64 a,.int .i64 b]) W:=fun a b W => run_build W 305 _ _ (by kernel_rfl)
 have hb6 : ∀ a b c d W,(Instr.build 306 #[(0,.agg #[.int .i64 a,.int .i64 b]),(1,.agg #[.int .i64 a,.int .i64 d]),(2,.agg #[.int .i64 c,.int .i64 b]),(3,.agg #[.int .i64 c,.int .i64 d])]).run Tryz.prog W = .ok (.agg #[.int .i64 a,.int .i64 b,.int .i64 a,.int .i64 d,.int .i64 c,.int .i64 b,.int .i64 c,.int .i64 d]) W:=fun a b c d W => run_build W 306 _ _ (by kernel_rfl)
 have hx0:=ziO
 have hx1:=ziP
 have hx2:=ziQ
 have hx3:=ziR
 have t1 : (a == b) = false:=by simpa using hne
 go_enter Tryz.func245,Tryz.ntmps245
 go_wp2
 change TimesAt w ((((w.alloc (.cells #[.int .i64 a,.int .i64 b] 213)).alloc (.cells #[.int .i64 c,.int .i64 d] 213)).alloc (.cells #[.int .i64 0,.int .i64 0] 213)).alloc (.cells #[.int .i64 0,.int .i64 0,.int .i64 0,.int .i64 0] 304)) _ _ _ at Z0
 generalize (((w.alloc (.cells #[.int .i64 a,.int .i64 b] 213)).alloc (.cells #[.int .i64 c,.int .i64 d] 213)).alloc (.cells #[.int .i64 0,.int .i64 0] 213)).alloc (.cells #[.int .i64 0,.int .i64 0,.int .i64 0,.int .i64 0] 304) = Ws at Z0
 go_loopw [47] (fun ti wr => ∃ k : Nat,k ≤ 4 ∧ ti = .int .i64 (k : Int) ∧ TimesAt w wr (⟨a,b⟩ : Rg) (⟨c,d⟩ : Rg) k) (fun ti _ => 4 - (intOf ti).toNat)
 case atStart => exact ⟨0,by omega,rfl,Z0⟩
 case round =>
  obtain ⟨k,hk,rfl,Z⟩:=hrel
  by_cases hlt : k < 4
  ·have hcase : k = 0 ∨ k = 1 ∨ k = 2 ∨ k = 3:=by omega
   have hany:=zhB
   rcases hcase with rfl | rfl | rfl | rfl
   ·have hwr:=fun W => zcD a c W
    have Z1:=Z.alloc (.cells #[.int .i64 a,.int .i64 c] 305)
    have cc:=Z1.cells 0 (by omega)
    have cf:=Z1.fz 0
    cases hwq : zb1 a c with
    | true =>
     have e0:=zbR (r:=(⟨a,b⟩ : Rg)) (o:=(⟨c,d⟩ : Rg)) hn1 (k:=0) (by omega) hwq
     rw [hwq] at hwr
     have r0:=Z1.res 0 (by omega)
     have r1:=Z1.res 1 (by omega)
     have z0:=Z1.rz 0
     have z1:=Z1.rz 1
     have hlw:=Z1.low
     have hsz:=Z1.size
     clear Z Z1 cc cf
     go_wp2_with (first | (go_at_call 246; (with_reducible refine (hwr _).mono ?_); rintro e wx ⟨rfl,hww⟩; have h2:=hww.symm; subst h2) | (go_at_call 238; (with_reducible refine (hany _).mono ?_); rintro e w4 ⟨rfl,hb4⟩; have d0:=zap hb4 r0; have d1:=zap hb4 r1; have g0:=zbw hb4 (by omega) z0; have g1:=zbw hb4 (by omega) z1))
     exact zb2 (r:=anyR) Tryz.results245 rfl rfl (zar d0 d1).1 (zar d0 d1).2 ⟨by rw [e0],zaw (hlw.trans (hb4.mono hlw.size)) (by omega)⟩
    | false =>
     rw [hwq] at hwr
     have Z2:=Z1.put (by omega) hwq
     clear Z
     go_wp2_with (go_at_call 246; (with_reducible refine (hwr _).mono ?_); rintro e wx ⟨rfl,hww⟩; have h2:=hww.symm; subst h2)
     go_roundw
     case rel => exact ⟨1,by omega,rfl,Z2⟩
     case measure => simp [intOf]
   ·have hwr:=fun W => zcD a d W
    have Z1:=Z.alloc (.cells #[.int .i64 a,.int .i64 d] 305)
    have cc:=Z1.cells 1 (by omega)
    have cf:=Z1.fz 1
    cases hwq : zb1 a d with
    | true =>
     have e0:=zbR (r:=(⟨a,b⟩ : Rg)) (o:=(⟨c,d⟩ : Rg)) hn1 (k:=1) (by omega) hwq
     rw [hwq] at hwr
     have r0:=Z1.res 0 (by omega)
     have r1:=Z1.res 1 (by omega)
     have z0:=Z1.rz 0
     have z1:=Z1.rz 1
     have hlw:=Z1.low
     have hsz:=Z1.size
     clear Z Z1 cc cf
     go_wp2_with (first | (go_at_call 246; (with_reducible refine (hwr _).mono ?_); rintro e wx ⟨rfl,hww⟩; have h2:=hww.symm; subst h2) | (go_at_call 238; (with_reducible refine (hany _).mono ?_); rintro e w4 ⟨rfl,hb4⟩; have d0:=zap hb4 r0; have d1:=zap hb4 r1; have g0:=zbw hb4 (by omega) z0; have g1:=zbw hb4 (by omega) z1))
     exact zb2 (r:=anyR) Tryz.results245 rfl rfl (zar d0 d1).1 (zar d0 d1).2 ⟨by rw [e0],zaw (hlw.trans (hb4.mono hlw.size)) (by omega)⟩
    | false =>
     rw [hwq] at hwr
     have Z2:=Z1.put (by omega) hwq
     clear Z
     go_wp2_with (go_at_call 246; (with_reducible refine (hwr _).mono ?_); rintro e wx ⟨rfl,hww⟩; have h2:=hww.symm; subst h2)
     go_roundw
     case rel => exact ⟨2,by omega,rfl,Z2⟩
     case measure => simp [intOf]
   ·have hwr:=fun W => zcD b c W
    have Z1:=Z.alloc (.cells #[.int .i64 b,.int .i64 c] 305)
    have cc:=Z1.cells 2 (by omega)
    have cf:=Z1.fz 2
    cases hwq : zb1 b c with
    | true =>
     have e0:=zbR (r:=(⟨a,b⟩ : Rg)) (o:=(⟨c,d⟩ : Rg)) hn1 (k:=2) (by omega) hwq
     rw [hwq] at hwr
     have r0:=Z1.res 0 (by omega)
     have r1:=Z1.res 1 (by omega)
     have z0:=Z1.rz 0
     have z1:=Z1.rz 1
     have hlw:=Z1.low
     have hsz:=Z1.size
     clear Z Z1 cc cf
     go_wp2_with (first | (go_at_call 246; (with_reducible refine (hwr _).mono ?_); rintro e wx ⟨rfl,hww⟩; have h2:=hww.symm; subst h2) | (go_at_call 238; (with_reducible refine (hany _).mono ?_); rintro e w4 ⟨rfl,hb4⟩; have d0:=zap hb4 r0; have d1:=zap hb4 r1; have g0:=zbw hb4 (by omega) z0; have g1:=zbw hb4 (by omega) z1))
     exact zb2 (r:=anyR) Tryz.results245 rfl rfl (zar d0 d1).1 (zar d0 d1).2 ⟨by rw [e0],zaw (hlw.trans (hb4.mono hlw.size)) (by omega)⟩
    | false =>
     rw [hwq] at hwr
     have Z2:=Z1.put (by omega) hwq
     clear Z
     go_wp2_with (go_at_call 246; (with_reducible refine (hwr _).mono ?_); rintro e wx ⟨rfl,hww⟩; have h2:=hww.symm; subst h2)
     go_roundw
     case rel => exact ⟨3,by omega,rfl,Z2⟩
     case measure => simp [intOf]
   ·have hwr:=fun W => zcD b d W
    have Z1:=Z.alloc (.cells #[.int .i64 b,.int .i64 d] 305)
    have cc:=Z1.cells 3 (by omega)
    have cf:=Z1.fz 3
    cases hwq : zb1 b d with
    | true =>
     have e0:=zbR (r:=(⟨a,b⟩ : Rg)) (o:=(⟨c,d⟩ : Rg)) hn1 (k:=3) (by omega) hwq
     rw [hwq] at hwr
     have r0:=Z1.res 0 (by omega)
     have r1:=Z1.res 1 (by omega)
     have z0:=Z1.rz 0
     have z1:=Z1.rz 1
     have hlw:=Z1.low
     have hsz:=Z1.size
     clear Z Z1 cc cf
     go_wp2_with (first | (go_at_call 246; (with_reducible refine (hwr _).mono ?_); rintro e wx ⟨rfl,hww⟩; have h2:=hww.symm; subst h2) | (go_at_call 238; (with_reducible refine (hany _).mono ?_); rintro e w4 ⟨rfl,hb4⟩; have d0:=zap hb4 r0; have d1:=zap hb4 r1; have g0:=zbw hb4 (by omega) z0; have g1:=zbw hb4 (by omega) z1))
     exact zb2 (r:=anyR) Tryz.results245 rfl rfl (zar d0 d1).1 (zar d0 d1).2 ⟨by rw [e0],zaw (hlw.trans (hb4.mono hlw.size)) (by omega)⟩
    | false =>
     rw [hwq] at hwr
     have Z2:=Z1.put (by omega) hwq
     clear Z
     go_wp2_with (go_at_call 246; (with_reducible refine (hwr _).mono ?_); rintro e wx ⟨rfl,hww⟩; have h2:=hww.symm; subst h2)
     go_roundw
     case rel => exact ⟨4,by omega,rfl,Z2⟩
     case measure => simp [intOf]
  ·obtain rfl : k = 4:=by omega
   have e0:=zhC hr ho hn1 Z.no
   have q0 : wr.cell? ⟨w.heap.size + 1 + 1 + 1,0,none⟩ = some (.int .i64 (wrap64 (a * c))):=Z.cells 0 (by omega)
   have q1 : wr.cell? ⟨w.heap.size + 1 + 1 + 1,1,none⟩ = some (.int .i64 (wrap64 (a * d))):=Z.cells 1 (by omega)
   have q2 : wr.cell? ⟨w.heap.size + 1 + 1 + 1,2,none⟩ = some (.int .i64 (wrap64 (b * c))):=Z.cells 2 (by omega)
   have q3 : wr.cell? ⟨w.heap.size + 1 + 1 + 1,3,none⟩ = some (.int .i64 (wrap64 (b * d))):=Z.cells 3 (by omega)
   have hcs : ∀ j (h : j < [wrap64 (a * c),wrap64 (a * d),wrap64 (b * c),wrap64 (b * d)].length),wr.cell? ⟨w.heap.size + 1 + 1 + 1,j,none⟩ = some (.int .i64 [wrap64 (a * c),wrap64 (a * d),wrap64 (b * c),wrap64 (b * d)][j]):=fun j hj => by
    match j,hj with
    | 0,_ => exact q0
    | 1,_ => exact q1
    | 2,_ => exact q2
    | 3,_ => exact q3
   have hmin : Calls Tryz.prog 247 #[.slice (some ⟨w.heap.size + 1 + 1 + 1,0,none⟩) 4 4] wr.drew fun e w' => e = .returned (.int .i64 (zeY [wrap64 (a * c),wrap64 (a * d),wrap64 (b * c),wrap64 (b * d)] 3)) ∧ w' = wr.drew:=znG wr.drew (w.heap.size + 1 + 1 + 1) 4 [wrap64 (a * c),wrap64 (a * d),wrap64 (b * c),wrap64 (b * d)] (by simp) (by simp) hcs
   have hmax : Calls Tryz.prog 248 #[.slice (some ⟨w.heap.size + 1 + 1 + 1,0,none⟩) 4 4] wr.drew fun e w' => e = .returned (.int .i64 (zeZ [wrap64 (a * c),wrap64 (a * d),wrap64 (b * c),wrap64 (b * d)] 3)) ∧ w' = wr.drew:=znH wr.drew (w.heap.size + 1 + 1 + 1) 4 [wrap64 (a * c),wrap64 (a * d),wrap64 (b * c),wrap64 (b * d)] (by simp) (by simp) hcs
   have r0:=Z.res 0 (by omega)
   have r1:=Z.res 1 (by omega)
   have z0:=Z.rz 0
   have z1:=Z.rz 1
   have hlw:=Z.low
   have hbd:=zbU (zeY [wrap64 (a * c),wrap64 (a * d),wrap64 (b * c),wrap64 (b * d)] 3) (zeZ [wrap64 (a * c),wrap64 (a * d),wrap64 (b * c),wrap64 (b * d)] 3)
   clear Z hcs q0 q1 q2 q3
   generalize zeY [wrap64 (a * c),wrap64 (a * d),wrap64 (b * c),wrap64 (b * d)] 3 = x at hmin hbd e0
   generalize zeZ [wrap64 (a * c),wrap64 (a * d),wrap64 (b * c),wrap64 (b * d)] 3 = y at hmax hbd e0
   go_wp2
   go_region_held3 (fun _ => True)
    (trivial)
    (first | (go_at_call 247; (with_reducible refine hmin.mono ?_); rintro e wx ⟨rfl,hww⟩; have h2:=hww.symm; subst h2) | (go_at_call 248; (with_reducible refine hmax.mono ?_); rintro e wx ⟨rfl,hww⟩; have h2:=hww.symm; subst h2))
   go_wp2
   exact zb2 (r:=⟨x,y⟩) Tryz.results245 rfl rfl (zar (X:=wr.drew) r0 r1).1 (zar (X:=wr.drew) r0 r1).2 ⟨by rw [e0],zaw hlw.drew (by omega)⟩
theorem zvE (a c d : Int) (w : World) (hr : (⟨a,a⟩ : Rg).Ok) (ho : (⟨c,d⟩ : Rg).Ok) (hne : ¬ c = d) : Calls Tryz.prog 245 #[rv (⟨a,a⟩ : Rg),rv (⟨c,d⟩ : Rg)] w fun e w' => e = .returned (rv ((⟨a,a⟩ : Rg).times (⟨c,d⟩ : Rg))) ∧ Below w.heap.size w w':=by
 have Z0:=zhD w (⟨a,a⟩ : Rg) (⟨c,d⟩ : Rg)
 have hb5 : ∀ a b W,(Instr.build 305 #[(0,.int .i64 a),(1,.int .i64 b)]).run Tryz.prog W = .ok (.agg #[.int .i64 a,.int .i64 b]) W:=fun a b W => run_build W 305 _ _ (by kernel_rfl)
 have hb6 : ∀ a b c d W,(Instr.build 306 #[(0,.agg #[.int .i64 a,.int .i64 b]),(1,.agg #[.int .i64 a,.int .i64 d]),(2,.agg #[.int .i64 c,.int .i64 b]),(3,.agg #[.int .i64 c,.int .i64 d])]).run Tryz.prog W = .ok (.agg #[.int .i64 a,.int .i64 b,.int .i64 a,.int .i64 d,.int .i64 c,.int .i64 b,.int .i64 c,.int .i64 d]) W:=fun a b c d W => run_build W 306 _ _ (by kernel_rfl)
 have hx0:=ziO
 have hx1:=ziP
 have hx2:=ziQ
 have hx3:=ziR
 have t1 : (c == d) = false:=by simpa using hne
 go_enter Tryz.func245,Tryz.ntmps245
 go_wp2
 change TimesAt w ((((w.alloc (.cells #[.int .i64 a,.int .i64 a] 213)).alloc (.cells #[.int .i64 c,.int .i64 d] 213)).alloc (.cells #[.int .i64 0,.int .i64 0] 213)).alloc (.cells #[.int .i64 0,.int .i64 0,.int .i64 0,.int .i64 0] 304)) _ _ _ at Z0
 generalize (((w.alloc (.cells #[.int .i64 a,.int .i64 a] 213)).alloc (.cells #[.int .i64 c,.int .i64 d] 213)).alloc (.cells #[.int .i64 0,.int .i64 0] 213)).alloc (.cells #[.int .i64 0,.int .i64 0,.int .i64 0,.int .i64 0] 304) = Ws at Z0
 go_loopw [47] (fun ti wr => ∃ k : Nat,k ≤ 4 ∧ ti = .int .i64 (k : Int) ∧ TimesAt w wr (⟨a,a⟩ : Rg) (⟨c,d⟩ : Rg) k) (fun ti _ => 4 - (intOf ti).toNat)
 case atStart => exact ⟨0,by omega,rfl,Z0⟩
 case round =>
  obtain ⟨k,hk,rfl,Z⟩:=hrel
  by_cases hlt : k < 4
  ·have hcase : k = 0 ∨ k = 1 ∨ k = 2 ∨ k = 3:=by omega
   have hany:=zhB
   rcases hcase with rfl | rfl | rfl | rfl
   ·have hwr:=fun W => zcD a c W
    have Z1:=Z.alloc (.cells #[.int .i64 a,.int .i64 c] 305)
    have cc:=Z1.cells 0 (by omega)
    have cf:=Z1.fz 0
    cases hwq : zb1 a c with
    | true =>
     have e0:=zbR (r:=(⟨a,a⟩ : Rg)) (o:=(⟨c,d⟩ : Rg)) (fun h => hne h.2) (k:=0) (by omega) hwq
     rw [hwq] at hwr
     have r0:=Z1.res 0 (by omega)
     have r1:=Z1.res 1 (by omega)
     have z0:=Z1.rz 0
     have z1:=Z1.rz 1
     have hlw:=Z1.low
     have hsz:=Z1.size
     clear Z Z1 cc cf
     go_wp2_with (first | (go_at_call 246; (with_reducible refine (hwr _).mono ?_); rintro e wx ⟨rfl,hww⟩; have h2:=hww.symm; subst h2) | (go_at_call 238; (with_reducible refine (hany _).mono ?_); rintro e w4 ⟨rfl,hb4⟩; have d0:=zap hb4 r0; have d1:=zap hb4 r1; have g0:=zbw hb4 (by omega) z0; have g1:=zbw hb4 (by omega) z1))
     exact zb2 (r:=anyR) Tryz.results245 rfl rfl (zar d0 d1).1 (zar d0 d1).2 ⟨by rw [e0],zaw (hlw.trans (hb4.mono hlw.size)) (by omega)⟩
    | false =>
     rw [hwq] at hwr
     have Z2:=Z1.put (by omega) hwq
     clear Z
     go_wp2_with (go_at_call 246; (with_reducible refine (hwr _).mono ?_); rintro e wx ⟨rfl,hww⟩; have h2:=hww.symm; subst h2)
     go_roundw
     case rel => exact ⟨1,by omega,rfl,Z2⟩
     case measure => simp [intOf]
   ·have hwr:=fun W => zcD a d W
    have Z1:=Z.alloc (.cells #[.int .i64 a,.int .i64 d] 305)
    have cc:=Z1.cells 1 (by omega)
    have cf:=Z1.fz 1
    cases hwq : zb1 a d with
    | true =>
     have e0:=zbR (r:=(⟨a,a⟩ : Rg)) (o:=(⟨c,d⟩ : Rg)) (fun h => hne h.2) (k:=1) (by omega) hwq
     rw [hwq] at hwr
     have r0:=Z1.res 0 (by omega)
     have r1:=Z1.res 1 (by omega)
     have z0:=Z1.rz 0
     have z1:=Z1.rz 1
     have hlw:=Z1.low
     have hsz:=Z1.size
     clear Z Z1 cc cf
     go_wp2_with (first | (go_at_call 246; (with_reducible refine (hwr _).mono ?_); rintro e wx ⟨rfl,hww⟩; have h2:=hww.symm; subst h2) | (go_at_call 238; (with_reducible refine (hany _).mono ?_); rintro e w4 ⟨rfl,hb4⟩; have d0:=zap hb4 r0; have d1:=zap hb4 r1; have g0:=zbw hb4 (by omega) z0; have g1:=zbw hb4 (by omega) z1))
     exact zb2 (r:=anyR) Tryz.results245 rfl rfl (zar d0 d1).1 (zar d0 d1).2 ⟨by rw [e0],zaw (hlw.trans (hb4.mono hlw.size)) (by omega)⟩
    | false =>
     rw [hwq] at hwr
     have Z2:=Z1.put (by omega) hwq
     clear Z
     go_wp2_with (go_at_call 246; (with_reducible refine (hwr _).mono ?_); rintro e wx ⟨rfl,hww⟩; have h2:=hww.symm; subst h2)
     go_roundw
     case rel => exact ⟨2,by omega,rfl,Z2⟩
     case measure => simp [intOf]
   ·have hwr:=fun W => zcD a c W
    have Z1:=Z.alloc (.cells #[.int .i64 a,.int .i64 c] 305)
    have cc:=Z1.cells 2 (by omega)
    have cf:=Z1.fz 2
    cases hwq : zb1 a c with
    | true =>
     have e0:=zbR (r:=(⟨a,a⟩ : Rg)) (o:=(⟨c,d⟩ : Rg)) (fun h => hne h.2) (k:=2) (by omega) hwq
     rw [hwq] at hwr
     have r0:=Z1.res 0 (by omega)
     have r1:=Z1.res 1 (by omega)
     have z0:=Z1.rz 0
     have z1:=Z1.rz 1
     have hlw:=Z1.low
     have hsz:=Z1.size
     clear Z Z1 cc cf
     go_wp2_with (first | (go_at_call 246; (with_reducible refine (hwr _).mono ?_); rintro e wx ⟨rfl,hww⟩; have h2:=hww.symm; subst h2) | (go_at_call 238; (with_reducible refine (hany _).mono ?_); rintro e w4 ⟨rfl,hb4⟩; have d0:=zap hb4 r0; have d1:=zap hb4 r1; have g0:=zbw hb4 (by omega) z0; have g1:=zbw hb4 (by omega) z1))
     exact zb2 (r:=anyR) Tryz.results245 rfl rfl (zar d0 d1).1 (zar d0 d1).2 ⟨by rw [e0],zaw (hlw.trans (hb4.mono hlw.size)) (by omega)⟩
    | false =>
     rw [hwq] at hwr
     have Z2:=Z1.put (by omega) hwq
     clear Z
     go_wp2_with (go_at_call 246; (with_reducible refine (hwr _).mono ?_); rintro e wx ⟨rfl,hww⟩; have h2:=hww.symm; subst h2)
     go_roundw
     case rel => exact ⟨3,by omega,rfl,Z2⟩
     case measure => simp [intOf]
   ·have hwr:=fun W => zcD a d W
    have Z1:=Z.alloc (.cells #[.int .i64 a,.int .i64 d] 305)
    have cc:=Z1.cells 3 (by omega)
    have cf:=Z1.fz 3
    cases hwq : zb1 a d with
    | true =>
     have e0:=zbR (r:=(⟨a,a⟩ : Rg)) (o:=(⟨c,d⟩ : Rg)) (fun h => hne h.2) (k:=3) (by omega) hwq
     rw [hwq] at hwr
     have r0:=Z1.res 0 (by omega)
     have r1:=Z1.res 1 (by omega)
     have z0:=Z1.rz 0
     have z1:=Z1.rz 1
     have hlw:=Z1.low
     have hsz:=Z1.size
     clear Z Z1 cc cf
     go_wp2_with (first | (go_at_call 246; (with_reducible refine (hwr _).mono ?_); rintro e wx ⟨rfl,hww⟩; have h2:=hww.symm; subst h2) | (go_at_call 238; (with_reducible refine (hany _).mono ?_); rintro e w4 ⟨rfl,hb4⟩; have d0:=zap hb4 r0; have d1:=zap hb4 r1; have g0:=zbw hb4 (by omega) z0; have g1:=zbw hb4 (by omega) z1))
     exact zb2 (r:=anyR) Tryz.results245 rfl rfl (zar d0 d1).1 (zar d0 d1).2 ⟨by rw [e0],zaw (hlw.trans (hb4.mono hlw.size)) (by omega)⟩
    | false =>
     rw [hwq] at hwr
     have Z2:=Z1.put (by omega) hwq
     clear Z
     go_wp2_with (go_at_call 246; (with_reducible refine (hwr _).mono ?_); rintro e wx ⟨rfl,hww⟩; have h2:=hww.symm; subst h2)
     go_roundw
     case rel => exact ⟨4,by omega,rfl,Z2⟩
     case measure => simp [intOf]
  ·obtain rfl : k = 4:=by omega
   have e0:=zhC hr ho (fun h => hne h.2) Z.no
   have q0 : wr.cell? ⟨w.heap.size + 1 + 1 + 1,0,none⟩ = some (.int .i64 (wrap64 (a * c))):=Z.cells 0 (by omega)
   have q1 : wr.cell? ⟨w.heap.size + 1 + 1 + 1,1,none⟩ = some (.int .i64 (wrap64 (a * d))):=Z.cells 1 (by omega)
   have q2 : wr.cell? ⟨w.heap.size + 1 + 1 + 1,2,none⟩ = some (.int .i64 (wrap64 (a * c))):=Z.cells 2 (by omega)
   have q3 : wr.cell? ⟨w.heap.size + 1 + 1 + 1,3,none⟩ = some (.int .i64 (wrap64 (a * d))):=Z.cells 3 (by omega)
   have hcs : ∀ j (h : j < [wrap64 (a * c),wrap64 (a * d),wrap64 (a * c),wrap64 (a * d)].length),wr.cell? ⟨w.heap.size + 1 + 1 + 1,j,none⟩ = some (.int .i64 [wrap64 (a * c),wrap64 (a * d),wrap64 (a * c),wrap64 (a * d)][j]):=fun j hj => by
    match j,hj with
    | 0,_ => exact q0
    | 1,_ => exact q1
    | 2,_ => exact q2
    | 3,_ => exact q3
   have hmin : Calls Tryz.prog 247 #[.slice (some ⟨w.heap.size + 1 + 1 + 1,0,none⟩) 4 4] wr.drew fun e w' => e = .returned (.int .i64 (zeY [wrap64 (a * c),wrap64 (a * d),wrap64 (a * c),wrap64 (a * d)] 3)) ∧ w' = wr.drew:=znG wr.drew (w.heap.size + 1 + 1 + 1) 4 [wrap64 (a * c),wrap64 (a * d),wrap64 (a * c),wrap64 (a * d)] (by simp) (by simp) hcs
   have hmax : Calls Tryz.prog 248 #[.slice (some ⟨w.heap.size + 1 + 1 + 1,0,none⟩) 4 4] wr.drew fun e w' => e = .returned (.int .i64 (zeZ [wrap64 (a * c),wrap64 (a * d),wrap64 (a * c),wrap64 (a * d)] 3)) ∧ w' = wr.drew:=znH wr.drew (w.heap.size + 1 + 1 + 1) 4 [wrap64 (a * c),wrap64 (a * d),wrap64 (a * c),wrap64 (a * d)] (by simp) (by simp) hcs
   have r0:=Z.res 0 (by omega)
   have r1:=Z.res 1 (by omega)
   have z0:=Z.rz 0
   have z1:=Z.rz 1
   have hlw:=Z.low
   have hbd:=zbU (zeY [wrap64 (a * c),wrap64 (a * d),wrap64 (a * c),wrap64 (a * d)] 3) (zeZ [wrap64 (a * c),wrap64 (a * d),wrap64 (a * c),wrap64 (a * d)] 3)
   clear Z hcs q0 q1 q2 q3
   generalize zeY [wrap64 (a * c),wrap64 (a * d),wrap64 (a * c),wrap64 (a * d)] 3 = x at hmin hbd e0
   generalize zeZ [wrap64 (a * c),wrap64 (a * d),wrap64 (a * c),wrap64 (a * d)] 3 = y at hmax hbd e0
   go_wp2
   go_region_held3 (fun _ => True)
    (trivial)
    (first | (go_at_call 247; (with_reducible refine hmin.mono ?_); rintro e wx ⟨rfl,hww⟩; have h2:=hww.symm; subst h2) | (go_at_call 248; (with_reducible refine hmax.mono ?_); rintro e wx ⟨rfl,hww⟩; have h2:=hww.symm; subst h2))
   go_wp2
   exact zb2 (r:=⟨x,y⟩) Tryz.results245 rfl rfl (zar (X:=wr.drew) r0 r1).1 (zar (X:=wr.drew) r0 r1).2 ⟨by rw [e0],zaw hlw.drew (by omega)⟩
theorem zrA (r o : Rg) (w : World) (hr : r.Ok) (ho : o.Ok) : Calls Tryz.prog 245 #[rv r,rv o] w fun e w' => e = .returned (rv (r.times o)) ∧ Below w.heap.size w w':=by
 obtain ⟨a,b⟩:=r
 obtain ⟨c,d⟩:=o
 by_cases h1 : a = b
 ·subst h1
  by_cases h2 : c = d
  ·exact zr9 _ _ w rfl h2
  ·exact zvE a c d w hr ho h2
 ·exact zvD a b c d w hr ho h1
theorem zjD (w : World) (va vb : Value) (l : List Int) (ha : SlN w va l) (hb : SlN w vb l) (hn : l.length ≤ 1048577) :
  Calls Tryz.prog 39 #[va,vb] w fun e w' => e = .returned (.bool true) ∧ ∃ n,w' = w.drewN n:=by
 obtain ⟨ao,ca,rfl,hra⟩:=ha
 obtain ⟨bo,cb,rfl,hrb⟩:=hb
 go_enter Tryz.func39,Tryz.ntmps39
 go_wp2
 go_loopw [5] (fun ti wr => ∃ j n : Nat,j ≤ l.length ∧ ti = .int .i64 (j : Int) ∧ wr = w.drewN n) (fun ti _ => l.length - (intOf ti).toNat)
 case atStart => exact ⟨0,0,by omega,rfl,rfl⟩
 case round =>
  obtain ⟨j,n,hj,rfl,rfl⟩:=hrel
  by_cases hlt : j < l.length
  ·obtain ⟨ga,oa,rfl,hca⟩:=hra (by omega)
   obtain ⟨gb,ob,rfl,hcb⟩:=hrb (by omega)
   have c1 : (w.drewN n).cell? ⟨ga,oa + j,none⟩ = some (.int .i64 l[j]):=hca j hlt
   have c2 : (w.drewN n).cell? ⟨gb,ob + j,none⟩ = some (.int .i64 l[j]):=hcb j hlt
   have hn' : ∀ k,(w.drewN n).drewN k = w.drewN (n + k):=fun k => by rw [World.drewN_drewN]
   have HN : Hid (∀ k,(w.drewN n).drewN k = w.drewN (n + k)):=hn'
   clear hn' hca hcb hra hrb
   have hj0 : (0 : Int) ≤ (j : Int):=by omega
   have hj1 : (j : Int) < (l.length : Int):=by omega
   generalize l[j] = x at c1 c2
   generalize w.drewN n = W at c1 c2 HN ⊢
   go_wp2_with fail
   go_quiet (fail)
   go_wp2
   go_roundw
   case rel => exact ⟨j + 1,_,by omega,by go_num,HN.out nq⟩
   case measure => simp [intOf]; omega
  ·go_wp2
   go_ret
   exact ⟨rfl,n,rfl⟩
theorem zmF (w : World) (m : Mc) (oa ob : Option Addr) (na nb ca cb : Nat) (line : Int) (ha : SlN w (.slice oa na ca) m.out) (hb : SlN w (.slice ob nb cb) m.out) (hn : m.out.length ≤ 1048577) :
  Calls Tryz.prog 35 #[.agg (zak m (.slice oa na ca) line).toArray,.agg (zak m (.slice ob nb cb) line).toArray] w fun e w' => e = .returned (.bool true) ∧ Below w.heap.size w w':=by
 generalize hA : zak m (.slice oa na ca) line = A
 generalize hB : zak m (.slice ob nb cb) line = B
 have hu31 : Tryz.prog.underlying 31 = some (.array _ _):=Tryz.underlying31
 have hu32 : Tryz.prog.underlying 32 = some (.array _ _):=Tryz.underlying32
 go_enter Tryz.func35,Tryz.ntmps35
 go_wp2_with (first | (refine Go.Great.wpList_boxTo rfl 34 _ rfl _ rfl w.heap.size rfl A.toArray rfl ?_) | (refine Go.Great.wpList_boxTo rfl 34 _ rfl _ rfl (w.heap.size + 1) (by simp) B.toArray rfl ?_; refine Hid.out ?_))
 unfold Hid
 have r1 : ((w.alloc (.cells A.toArray 34)).alloc (.cells B.toArray 34)).rangeAt w.heap.size 0 A:=zlY (zdu w A 34) _ (by simp)
 have r2 : ((w.alloc (.cells A.toArray 34)).alloc (.cells B.toArray 34)).rangeAt (w.heap.size + 1) 0 B:=by
  have:=zdu (w.alloc (.cells A.toArray 34)) B 34
  rwa [show (w.alloc (.cells A.toArray 34)).heap.size = w.heap.size + 1 by simp] at this
 have hlow : Below w.heap.size w ((w.alloc (.cells A.toArray 34)).alloc (.cells B.toArray 34)):=((Below.refl _ _).alloc (Nat.le_refl _) _).alloc (by simp) _
 have ha2:=SlN.alloc (SlN.alloc ha (.cells A.toArray 34)) (.cells B.toArray 34)
 have hb2:=SlN.alloc (SlN.alloc hb (.cells A.toArray 34)) (.cells B.toArray 34)
 generalize ((w.alloc (.cells A.toArray 34)).alloc (.cells B.toArray 34)) = W at r1 r2 hlow ha2 hb2 ⊢
 rw [← hA] at r1
 rw [← hB] at r2
 obtain ⟨a1,a2,a3,a4,a5,a6,a7,a8⟩:=StAt.of_range r1
 obtain ⟨b1,b2,b3,b4,b5,b6,b7,b8⟩:=StAt.of_range r2
 clear r1 r2 hA hB
 have hcall:=zjD W _ _ _ ha2 hb2 hn
 have wa : ∀ i,i < 8 → W.cell? ⟨w.heap.size,1 + i,none⟩ = some (.int .i64 (m.regs i)):=fun i hi => a2 i _ (by simp [hi])
 have wb : ∀ i,i < 8 → W.cell? ⟨w.heap.size + 1,1 + i,none⟩ = some (.int .i64 (m.regs i)):=fun i hi => b2 i _ (by simp [hi])
 have xa : ∀ i,i < 16 → W.cell? ⟨w.heap.size,9 + i,none⟩ = some (.int .i64 (m.cells i)):=fun i hi => a3 i _ (by simp [hi])
 have xb : ∀ i,i < 16 → W.cell? ⟨w.heap.size + 1,9 + i,none⟩ = some (.int .i64 (m.cells i)):=fun i hi => b3 i _ (by simp [hi])
 have wa0 : W.cell? ⟨w.heap.size,1,none⟩ = some (.int .i64 (m.regs 0)):=wa 0 (by omega)
 have wb0 : W.cell? ⟨w.heap.size + 1,1,none⟩ = some (.int .i64 (m.regs 0)):=wb 0 (by omega)
 have wa1 : W.cell? ⟨w.heap.size,2,none⟩ = some (.int .i64 (m.regs 1)):=wa 1 (by omega)
 have wb1 : W.cell? ⟨w.heap.size + 1,2,none⟩ = some (.int .i64 (m.regs 1)):=wb 1 (by omega)
 have wa2 : W.cell? ⟨w.heap.size,3,none⟩ = some (.int .i64 (m.regs 2)):=wa 2 (by omega)
 have wb2 : W.cell? ⟨w.heap.size + 1,3,none⟩ = some (.int .i64 (m.regs 2)):=wb 2 (by omega)
 have wa3 : W.cell? ⟨w.heap.size,4,none⟩ = some (.int .i64 (m.regs 3)):=wa 3 (by omega)
 have wb3 : W.cell? ⟨w.heap.size + 1,4,none⟩ = some (.int .i64 (m.regs 3)):=wb 3 (by omega)
 have wa4 : W.cell? ⟨w.heap.size,5,none⟩ = some (.int .i64 (m.regs 4)):=wa 4 (by omega)
 have wb4 : W.cell? ⟨w.heap.size + 1,5,none⟩ = some (.int .i64 (m.regs 4)):=wb 4 (by omega)
 have wa5 : W.cell? ⟨w.heap.size,6,none⟩ = some (.int .i64 (m.regs 5)):=wa 5 (by omega)
 have wb5 : W.cell? ⟨w.heap.size + 1,6,none⟩ = some (.int .i64 (m.regs 5)):=wb 5 (by omega)
 have wa6 : W.cell? ⟨w.heap.size,7,none⟩ = some (.int .i64 (m.regs 6)):=wa 6 (by omega)
 have wb6 : W.cell? ⟨w.heap.size + 1,7,none⟩ = some (.int .i64 (m.regs 6)):=wb 6 (by omega)
 have wa7 : W.cell? ⟨w.heap.size,8,none⟩ = some (.int .i64 (m.regs 7)):=wa 7 (by omega)
 have wb7 : W.cell? ⟨w.heap.size + 1,8,none⟩ = some (.int .i64 (m.regs 7)):=wb 7 (by omega)
 have xa0 : W.cell? ⟨w.heap.size,9,none⟩ = some (.int .i64 (m.cells 0)):=xa 0 (by omega)
 have xb0 : W.cell? ⟨w.heap.size + 1,9,none⟩ = some (.int .i64 (m.cells 0)):=xb 0 (by omega)
 have xa1 : W.cell? ⟨w.heap.size,10,none⟩ = some (.int .i64 (m.cells 1)):=xa 1 (by omega)
 have xb1 : W.cell? ⟨w.heap.size + 1,10,none⟩ = some (.int .i64 (m.cells 1)):=xb 1 (by omega)
 have xa2 : W.cell? ⟨w.heap.size,11,none⟩ = some (.int .i64 (m.cells 2)):=xa 2 (by omega)
 have xb2 : W.cell? ⟨w.heap.size + 1,11,none⟩ = some (.int .i64 (m.cells 2)):=xb 2 (by omega)
 have xa3 : W.cell? ⟨w.heap.size,12,none⟩ = some (.int .i64 (m.cells 3)):=xa 3 (by omega)
 have xb3 : W.cell? ⟨w.heap.size + 1,12,none⟩ = some (.int .i64 (m.cells 3)):=xb 3 (by omega)
 have xa4 : W.cell? ⟨w.heap.size,13,none⟩ = some (.int .i64 (m.cells 4)):=xa 4 (by omega)
 have xb4 : W.cell? ⟨w.heap.size + 1,13,none⟩ = some (.int .i64 (m.cells 4)):=xb 4 (by omega)
 have xa5 : W.cell? ⟨w.heap.size,14,none⟩ = some (.int .i64 (m.cells 5)):=xa 5 (by omega)
 have xb5 : W.cell? ⟨w.heap.size + 1,14,none⟩ = some (.int .i64 (m.cells 5)):=xb 5 (by omega)
 have xa6 : W.cell? ⟨w.heap.size,15,none⟩ = some (.int .i64 (m.cells 6)):=xa 6 (by omega)
 have xb6 : W.cell? ⟨w.heap.size + 1,15,none⟩ = some (.int .i64 (m.cells 6)):=xb 6 (by omega)
 have xa7 : W.cell? ⟨w.heap.size,16,none⟩ = some (.int .i64 (m.cells 7)):=xa 7 (by omega)
 have xb7 : W.cell? ⟨w.heap.size + 1,16,none⟩ = some (.int .i64 (m.cells 7)):=xb 7 (by omega)
 have xa8 : W.cell? ⟨w.heap.size,17,none⟩ = some (.int .i64 (m.cells 8)):=xa 8 (by omega)
 have xb8 : W.cell? ⟨w.heap.size + 1,17,none⟩ = some (.int .i64 (m.cells 8)):=xb 8 (by omega)
 have xa9 : W.cell? ⟨w.heap.size,18,none⟩ = some (.int .i64 (m.cells 9)):=xa 9 (by omega)
 have xb9 : W.cell? ⟨w.heap.size + 1,18,none⟩ = some (.int .i64 (m.cells 9)):=xb 9 (by omega)
 have xa10 : W.cell? ⟨w.heap.size,19,none⟩ = some (.int .i64 (m.cells 10)):=xa 10 (by omega)
 have xb10 : W.cell? ⟨w.heap.size + 1,19,none⟩ = some (.int .i64 (m.cells 10)):=xb 10 (by omega)
 have xa11 : W.cell? ⟨w.heap.size,20,none⟩ = some (.int .i64 (m.cells 11)):=xa 11 (by omega)
 have xb11 : W.cell? ⟨w.heap.size + 1,20,none⟩ = some (.int .i64 (m.cells 11)):=xb 11 (by omega)
 have xa12 : W.cell? ⟨w.heap.size,21,none⟩ = some (.int .i64 (m.cells 12)):=xa 12 (by omega)
 have xb12 : W.cell? ⟨w.heap.size + 1,21,none⟩ = some (.int .i64 (m.cells 12)):=xb 12 (by omega)
 have xa13 : W.cell? ⟨w.heap.size,22,none⟩ = some (.int .i64 (m.cells 13)):=xa 13 (by omega)
 have xb13 : W.cell? ⟨w.heap.size + 1,22,none⟩ = some (.int .i64 (m.cells 13)):=xb 13 (by omega)
 have xa14 : W.cell? ⟨w.heap.size,23,none⟩ = some (.int .i64 (m.cells 14)):=xa 14 (by omega)
 have xb14 : W.cell? ⟨w.heap.size + 1,23,none⟩ = some (.int .i64 (m.cells 14)):=xb 14 (by omega)
 have xa15 : W.cell? ⟨w.heap.size,24,none⟩ = some (.int .i64 (m.cells 15)):=xa 15 (by omega)
 have xb15 : W.cell? ⟨w.heap.size + 1,24,none⟩ = some (.int .i64 (m.cells 15)):=xb 15 (by omega)
 have e31:=fun w => zw5 (m.regs 0) (m.regs 1) (m.regs 2) (m.regs 3) (m.regs 4) (m.regs 5) (m.regs 6) (m.regs 7) w
 have e32:=fun w => zw6 (m.cells 0) (m.cells 1) (m.cells 2) (m.cells 3) (m.cells 4) (m.cells 5) (m.cells 6) (m.cells 7) (m.cells 8) (m.cells 9) (m.cells 10) (m.cells 11) (m.cells 12) (m.cells 13) (m.cells 14) (m.cells 15) w
 clear wa wb xa xb a2 a3 b2 b3 ha hb ha2 hb2
 generalize m.regs 0 = r0 at *; generalize m.regs 1 = r1 at *; generalize m.regs 2 = r2 at *; generalize m.regs 3 = r3 at *; generalize m.regs 4 = r4 at *; generalize m.regs 5 = r5 at *; generalize m.regs 6 = r6 at *; generalize m.regs 7 = r7 at *
 generalize m.cells 0 = c0 at *; generalize m.cells 1 = c1 at *; generalize m.cells 2 = c2 at *; generalize m.cells 3 = c3 at *; generalize m.cells 4 = c4 at *; generalize m.cells 5 = c5 at *; generalize m.cells 6 = c6 at *; generalize m.cells 7 = c7 at *; generalize m.cells 8 = c8 at *; generalize m.cells 9 = c9 at *; generalize m.cells 10 = c10 at *; generalize m.cells 11 = c11 at *; generalize m.cells 12 = c12 at *; generalize m.cells 13 = c13 at *; generalize m.cells 14 = c14 at *; generalize m.cells 15 = c15 at *
 go_wp2_with (first | (go_at_call 39; refine hcall.mono ?_; rintro e w2 ⟨rfl,n,rfl⟩))
 go_ret
 exact ⟨rfl,hlow.trans ((zeP W n).mono hlow.size)⟩
end Go.Proofs.YtfpgjkbjbbgciaaGreatDoor
