import Derived.Test.YtfpgjkbjbbgciaaGreatDoorMc41
set_option maxRecDepth 100000
set_option maxHeartbeats 8000000
namespace Go.Proofs.YtfpgjkbjbbgciaaGreatDoor
open Go.RowKit Sp
theorem zpo (a b d : Int) (w : World) (hl : Rg.Ok ⟨a,b⟩) (hr : Rg.Ok ⟨a,d⟩) (hne : ¬ b = d) : Calls Tryz.prog 277 #[rv ⟨a,b⟩,rv ⟨a,d⟩] w (zd0 w ⟨a,b⟩ ⟨a,d⟩ (za8 ⟨a,b⟩ ⟨a,d⟩)):=by
 have hq : za8 ⟨a,b⟩ ⟨a,d⟩ = some ((⟨a,b⟩ : Rg).without (⟨a,d⟩ : Rg),(⟨a,d⟩ : Rg).without (⟨a,b⟩ : Rg)):=by unfold za8; rw [if_neg (by dsimp only; omega)]
 rw [hq]
 have g1:=fun W => zcO (⟨a,b⟩ : Rg) (⟨a,d⟩ : Rg) W hl (by dsimp only; omega)
 have g2:=fun W => zcO (⟨a,d⟩ : Rg) (⟨a,b⟩ : Rg) W hr (by dsimp only; omega)
 have H1:=zev w (⟨a,b⟩ : Rg) (⟨a,d⟩ : Rg) (.cells #[.int .i64 0,.int .i64 0] 213) (.cells #[.int .i64 0,.int .i64 0] 213)
 have hs0 : ((((w.alloc (.cells #[.int .i64 a,.int .i64 b] 213)).alloc (.cells #[.int .i64 a,.int .i64 d] 213)).alloc (.cells #[.int .i64 0,.int .i64 0] 213)).alloc (.cells #[.int .i64 0,.int .i64 0] 213)).heap.size = w.heap.size + 1 + 1 + 1 + 1:=by simp
 have hB : Below w.heap.size w ((((w.alloc (.cells #[.int .i64 a,.int .i64 b] 213)).alloc (.cells #[.int .i64 a,.int .i64 d] 213)).alloc (.cells #[.int .i64 0,.int .i64 0] 213)).alloc (.cells #[.int .i64 0,.int .i64 0] 213)):=zbz
 have k0 : ((((w.alloc (.cells #[.int .i64 a,.int .i64 b] 213)).alloc (.cells #[.int .i64 a,.int .i64 d] 213)).alloc (.cells #[.int .i64 0,.int .i64 0] 213)).alloc (.cells #[.int .i64 0,.int .i64 0] 213)).cell? ⟨w.heap.size + 1 + 1,0,none⟩ = some (.int .i64 0) ∧ ((((w.alloc (.cells #[.int .i64 a,.int .i64 b] 213)).alloc (.cells #[.int .i64 a,.int .i64 d] 213)).alloc (.cells #[.int .i64 0,.int .i64 0] 213)).alloc (.cells #[.int .i64 0,.int .i64 0] 213)).cell? ⟨w.heap.size + 1 + 1,1,none⟩ = some (.int .i64 0) ∧ ((((w.alloc (.cells #[.int .i64 a,.int .i64 b] 213)).alloc (.cells #[.int .i64 a,.int .i64 d] 213)).alloc (.cells #[.int .i64 0,.int .i64 0] 213)).alloc (.cells #[.int .i64 0,.int .i64 0] 213)).cell? ⟨w.heap.size + 1 + 1 + 1,0,none⟩ = some (.int .i64 0) ∧ ((((w.alloc (.cells #[.int .i64 a,.int .i64 b] 213)).alloc (.cells #[.int .i64 a,.int .i64 d] 213)).alloc (.cells #[.int .i64 0,.int .i64 0] 213)).alloc (.cells #[.int .i64 0,.int .i64 0] 213)).cell? ⟨w.heap.size + 1 + 1 + 1,1,none⟩ = some (.int .i64 0) :=
  ⟨za7 _ _ _ _ _ _ 0,za7 _ _ _ _ _ _ 1,zay _ _ _ _ _ _ 0,zay _ _ _ _ _ _ 1⟩
 have kz : ∀ j,((((w.alloc (.cells #[.int .i64 a,.int .i64 b] 213)).alloc (.cells #[.int .i64 a,.int .i64 d] 213)).alloc (.cells #[.int .i64 0,.int .i64 0] 213)).alloc (.cells #[.int .i64 0,.int .i64 0] 213)).frozen? ⟨w.heap.size + 1 + 1,j,none⟩ = false ∧ ((((w.alloc (.cells #[.int .i64 a,.int .i64 b] 213)).alloc (.cells #[.int .i64 a,.int .i64 d] 213)).alloc (.cells #[.int .i64 0,.int .i64 0] 213)).alloc (.cells #[.int .i64 0,.int .i64 0] 213)).frozen? ⟨w.heap.size + 1 + 1 + 1,j,none⟩ = false:=fun j =>
  ⟨(World.frozen?_alloc_past _ _ _ (by simp)).trans (zeD _ _ _ _ _ j),World.frozen?_alloc_at _ _ _ _ (by simp)⟩
 clear hl hr hq
 generalize (⟨a,b⟩ : Rg).without (⟨a,d⟩ : Rg) = A at g1
 generalize (⟨a,d⟩ : Rg).without (⟨a,b⟩ : Rg) = B at g2
 have m1 : ¬ w.heap.size = w.heap.size + 1 + 1:=by omega
 have m2 : ¬ w.heap.size + 1 = w.heap.size + 1 + 1:=by omega
 have m3 : ¬ w.heap.size = w.heap.size + 1 + 1 + 1:=by omega
 have m4 : ¬ w.heap.size + 1 = w.heap.size + 1 + 1 + 1:=by omega
 have t1 : (b == d) = false:=by simpa using hne
 go_enter Tryz.func277,Tryz.ntmps277
 go_wp2_with fail
 generalize (((w.alloc (.cells #[.int .i64 a,.int .i64 b] 213)).alloc (.cells #[.int .i64 a,.int .i64 d] 213)).alloc (.cells #[.int .i64 0,.int .i64 0] 213)).alloc (.cells #[.int .i64 0,.int .i64 0] 213) = W0 at hs0 hB k0 kz H1
 go_region_held3 (fun W => W.cell? ⟨w.heap.size,0,none⟩ = some (.int .i64 a) ∧ W.cell? ⟨w.heap.size,1,none⟩ = some (.int .i64 b) ∧ W.cell? ⟨w.heap.size + 1,0,none⟩ = some (.int .i64 a) ∧ W.cell? ⟨w.heap.size + 1,1,none⟩ = some (.int .i64 d))
  (first | (with_reducible exact H3) | (with_reducible exact H2) | (with_reducible exact zaV m1 m2 H3) | (with_reducible exact zaV m3 m4 H3) | (with_reducible exact zaV m3 m4 (zaV m1 m2 H3)) | (with_reducible exact zaV m1 m2 (zaV m3 m4 H3)) | exact H1)
  (first | (go_at_call 278; (with_reducible refine (g1 _).mono ?_); rintro e w2 ⟨rfl,hb2⟩; have H2:=zbF hb2 H1) | (go_at_call 278; (with_reducible refine (g2 _).mono ?_); rintro e w3 ⟨rfl,hb3⟩; have H3:=zbF hb3 H2; have hb03 : Below W0.heap.size W0 w3:=((Below.refl _ _).drew).trans (hb2.trans (hb3.mono hb2.size)); obtain ⟨⟨q1,q2,q3,q4⟩,f1,f2,f3,f4⟩:=zgh hs0 k0 kz hb03))
 have hb03 : Below W0.heap.size W0 w3:=((Below.refl _ _).drew).trans (hb2.trans (hb3.mono hb2.size))
 have hbw:=hB.trans (hb03.mono hB.size)
 have R:=zgi (x0:=.int .i64 A.lo) (x1:=.int .i64 A.hi) (y0:=.int .i64 B.lo) (y1:=.int .i64 B.hi) (show ¬ w.heap.size + 1 + 1 = w.heap.size + 1 + 1 + 1 by omega) ⟨q1,q2,q3,q4⟩
 have hX : Below w.heap.size w ((((w3.setCell ⟨w.heap.size + 1 + 1,0,none⟩ (.int .i64 A.lo)).setCell ⟨w.heap.size + 1 + 1,1,none⟩ (.int .i64 A.hi)).setCell ⟨w.heap.size + 1 + 1 + 1,0,none⟩ (.int .i64 B.lo)).setCell ⟨w.heap.size + 1 + 1 + 1,1,none⟩ (.int .i64 B.hi)):=zas (zas hbw (by omega)) (by omega)
 go_wp2
 exact zd1 (l:=A) (r:=B) Tryz.results277 rfl rfl rfl rfl R.1 R.2.1 R.2.2.1 R.2.2.2 ⟨hX,rfl⟩
theorem zlf (a b : Int) (w : World) (hl : Rg.Ok ⟨a,b⟩) (hne : ¬ a = b) : Calls Tryz.prog 277 #[rv ⟨a,b⟩,rv ⟨a,b⟩] w (zd0 w ⟨a,b⟩ ⟨a,b⟩ (za8 ⟨a,b⟩ ⟨a,b⟩)):=by
 have hq : za8 ⟨a,b⟩ ⟨a,b⟩ = some ((⟨a,b⟩ : Rg).without (⟨a,b⟩ : Rg),(⟨a,b⟩ : Rg).without (⟨a,b⟩ : Rg)):=by unfold za8; rw [if_neg (by dsimp only; omega)]
 rw [hq]
 have g1:=fun W => zcO (⟨a,b⟩ : Rg) (⟨a,b⟩ : Rg) W hl (by dsimp only; omega)
 have g2:=fun W => zcO (⟨a,b⟩ : Rg) (⟨a,b⟩ : Rg) W hl (by dsimp only; omega)
 have H1:=zev w (⟨a,b⟩ : Rg) (⟨a,b⟩ : Rg) (.cells #[.int .i64 0,.int .i64 0] 213) (.cells #[.int .i64 0,.int .i64 0] 213)
 have hs0 : ((((w.alloc (.cells #[.int .i64 a,.int .i64 b] 213)).alloc (.cells #[.int .i64 a,.int .i64 b] 213)).alloc (.cells #[.int .i64 0,.int .i64 0] 213)).alloc (.cells #[.int .i64 0,.int .i64 0] 213)).heap.size = w.heap.size + 1 + 1 + 1 + 1:=by simp
 have hB : Below w.heap.size w ((((w.alloc (.cells #[.int .i64 a,.int .i64 b] 213)).alloc (.cells #[.int .i64 a,.int .i64 b] 213)).alloc (.cells #[.int .i64 0,.int .i64 0] 213)).alloc (.cells #[.int .i64 0,.int .i64 0] 213)):=zbz
 have k0 : ((((w.alloc (.cells #[.int .i64 a,.int .i64 b] 213)).alloc (.cells #[.int .i64 a,.int .i64 b] 213)).alloc (.cells #[.int .i64 0,.int .i64 0] 213)).alloc (.cells #[.int .i64 0,.int .i64 0] 213)).cell? ⟨w.heap.size + 1 + 1,0,none⟩ = some (.int .i64 0) ∧ ((((w.alloc (.cells #[.int .i64 a,.int .i64 b] 213)).alloc (.cells #[.int .i64 a,.int .i64 b] 213)).alloc (.cells #[.int .i64 0,.int .i64 0] 213)).alloc (.cells #[.int .i64 0,.int .i64 0] 213)).cell? ⟨w.heap.size + 1 + 1,1,none⟩ = some (.int .i64 0) ∧ ((((w.alloc (.cells #[.int .i64 a,.int .i64 b] 213)).alloc (.cells #[.int .i64 a,.int .i64 b] 213)).alloc (.cells #[.int .i64 0,.int .i64 0] 213)).alloc (.cells #[.int .i64 0,.int .i64 0] 213)).cell? ⟨w.heap.size + 1 + 1 + 1,0,none⟩ = some (.int .i64 0) ∧ ((((w.alloc (.cells #[.int .i64 a,.int .i64 b] 213)).alloc (.cells #[.int .i64 a,.int .i64 b] 213)).alloc (.cells #[.int .i64 0,.int .i64 0] 213)).alloc (.cells #[.int .i64 0,.int .i64 0] 213)).cell? ⟨w.heap.size + 1 + 1 + 1,1,none⟩ = some (.int .i64 0) :=
  ⟨za7 _ _ _ _ _ _ 0,za7 _ _ _ _ _ _ 1,zay _ _ _ _ _ _ 0,zay _ _ _ _ _ _ 1⟩
 have kz : ∀ j,((((w.alloc (.cells #[.int .i64 a,.int .i64 b] 213)).alloc (.cells #[.int .i64 a,.int .i64 b] 213)).alloc (.cells #[.int .i64 0,.int .i64 0] 213)).alloc (.cells #[.int .i64 0,.int .i64 0] 213)).frozen? ⟨w.heap.size + 1 + 1,j,none⟩ = false ∧ ((((w.alloc (.cells #[.int .i64 a,.int .i64 b] 213)).alloc (.cells #[.int .i64 a,.int .i64 b] 213)).alloc (.cells #[.int .i64 0,.int .i64 0] 213)).alloc (.cells #[.int .i64 0,.int .i64 0] 213)).frozen? ⟨w.heap.size + 1 + 1 + 1,j,none⟩ = false:=fun j =>
  ⟨(World.frozen?_alloc_past _ _ _ (by simp)).trans (zeD _ _ _ _ _ j),World.frozen?_alloc_at _ _ _ _ (by simp)⟩
 clear hl hq
 generalize (⟨a,b⟩ : Rg).without (⟨a,b⟩ : Rg) = A at g1 g2
 have m1 : ¬ w.heap.size = w.heap.size + 1 + 1:=by omega
 have m2 : ¬ w.heap.size + 1 = w.heap.size + 1 + 1:=by omega
 have m3 : ¬ w.heap.size = w.heap.size + 1 + 1 + 1:=by omega
 have m4 : ¬ w.heap.size + 1 = w.heap.size + 1 + 1 + 1:=by omega
 have t1 : (a == b) = false:=by simpa using hne
 go_enter Tryz.func277,Tryz.ntmps277
 go_wp2_with fail
 generalize (((w.alloc (.cells #[.int .i64 a,.int .i64 b] 213)).alloc (.cells #[.int .i64 a,.int .i64 b] 213)).alloc (.cells #[.int .i64 0,.int .i64 0] 213)).alloc (.cells #[.int .i64 0,.int .i64 0] 213) = W0 at hs0 hB k0 kz H1
 go_region_held3 (fun W => W.cell? ⟨w.heap.size,0,none⟩ = some (.int .i64 a) ∧ W.cell? ⟨w.heap.size,1,none⟩ = some (.int .i64 b) ∧ W.cell? ⟨w.heap.size + 1,0,none⟩ = some (.int .i64 a) ∧ W.cell? ⟨w.heap.size + 1,1,none⟩ = some (.int .i64 b))
  (first | (with_reducible exact H3) | (with_reducible exact H2) | (with_reducible exact zaV m1 m2 H3) | (with_reducible exact zaV m3 m4 H3) | (with_reducible exact zaV m3 m4 (zaV m1 m2 H3)) | (with_reducible exact zaV m1 m2 (zaV m3 m4 H3)) | exact H1)
  (first | (go_at_call 278; (with_reducible refine (g1 _).mono ?_); rintro e w2 ⟨rfl,hb2⟩; have H2:=zbF hb2 H1) | (go_at_call 278; (with_reducible refine (g2 _).mono ?_); rintro e w3 ⟨rfl,hb3⟩; have H3:=zbF hb3 H2; have hb03 : Below W0.heap.size W0 w3:=((Below.refl _ _).drew).trans (hb2.trans (hb3.mono hb2.size)); obtain ⟨⟨q1,q2,q3,q4⟩,f1,f2,f3,f4⟩:=zgh hs0 k0 kz hb03))
 have hb03 : Below W0.heap.size W0 w3:=((Below.refl _ _).drew).trans (hb2.trans (hb3.mono hb2.size))
 have hbw:=hB.trans (hb03.mono hB.size)
 have R:=zgi (x0:=.int .i64 A.lo) (x1:=.int .i64 A.hi) (y0:=.int .i64 A.lo) (y1:=.int .i64 A.hi) (show ¬ w.heap.size + 1 + 1 = w.heap.size + 1 + 1 + 1 by omega) ⟨q1,q2,q3,q4⟩
 have hX : Below w.heap.size w ((((w3.setCell ⟨w.heap.size + 1 + 1,0,none⟩ (.int .i64 A.lo)).setCell ⟨w.heap.size + 1 + 1,1,none⟩ (.int .i64 A.hi)).setCell ⟨w.heap.size + 1 + 1 + 1,0,none⟩ (.int .i64 A.lo)).setCell ⟨w.heap.size + 1 + 1 + 1,1,none⟩ (.int .i64 A.hi)):=zas (zas hbw (by omega)) (by omega)
 go_wp2
 exact zd1 (l:=A) (r:=A) Tryz.results277 rfl rfl rfl rfl R.1 R.2.1 R.2.2.1 R.2.2.2 ⟨hX,rfl⟩
theorem zm1 (x : Int) (w : World) : Calls Tryz.prog 277 #[rv ⟨x,x⟩,rv ⟨x,x⟩] w (zd0 w ⟨x,x⟩ ⟨x,x⟩ none):=by
 go_enter Tryz.func277,Tryz.ntmps277
 go_wp2
 go_region
 all_goals go_wp2
 all_goals exact zd1 (l:=⟨x,x⟩) (r:=⟨x,x⟩) Tryz.results277 rfl rfl rfl rfl (za7 _ _ _ _ _ _ 0) (za7 _ _ _ _ _ _ 1) (zay _ _ _ _ _ _ 0) (zay _ _ _ _ _ _ 1) ⟨zbz.drew,_,_,rfl⟩
theorem zm2 (l r : Rg) (w : World) (hl : l.Ok) (hr : r.Ok) : Calls Tryz.prog 277 #[rv l,rv r] w (zd0 w l r (za8 l r)):=by
 obtain ⟨a,b⟩:=l
 obtain ⟨c,d⟩:=r
 by_cases h1 : a = c
 ·subst h1
  by_cases h2 : b = d
  ·subst h2
   by_cases h3 : a = b
   ·subst h3
    rw [show za8 ⟨a,a⟩ ⟨a,a⟩ = none from by unfold za8; rw [if_pos ⟨⟨rfl,rfl⟩,rfl⟩]]
    exact zm1 a w
   ·exact zlf a b w hl h3
  ·exact zpo a b d w hl hr h2
 ·exact zpn a b c d w hl hr h1
theorem zm4 {w : World} {b : Nat} {bv : Value} {k : Kn} (h : KnM w b bv k) (a n : Nat) (hn : 1 ≤ n) (ha : a + n ≤ 15) (v : Rg) : Calls Tryz.prog 258 #[.pointer (some ⟨b,0,none⟩),rv ⟨(a : Int),(a : Int) + (n : Int)⟩,rv v] w (zlk w b bv { k with cells:=zaA k.cells a (a + n) v }):=by
 have hlt:=h.lt
 have hT : ∀ (W : World),KnM W b bv k → Calls Tryz.prog 255 #[.pointer (some ⟨b,0,none⟩),rv ⟨(a : Int),(a : Int) + (n : Int)⟩] W fun e w' => e = .returned (.slice (some ⟨b,16 + a * 2,none⟩) (n + 1) (16 - a)) ∧ Below W.heap.size W w':=fun W hW => by
  have t:=zdX hW ⟨(a : Int),(a : Int) + (n : Int)⟩ ⟨⟨by show _ ≤ (a : Int); omega,by show (a : Int) ≤ _; omega⟩,⟨by show _ ≤ (a : Int) + (n : Int); omega,by show (a : Int) + (n : Int) ≤ _; omega⟩,by show (a : Int) ≤ (a : Int) + (n : Int); omega⟩ (by show (0 : Int) ≤ (a : Int); omega) (by show (a : Int) + (n : Int) ≤ 15; omega)
  have e1 : ((a : Int) + (n : Int) + 1).toNat = a + n + 1:=by omega
  have e2 : ((a : Nat) : Int).toNat = a:=by omega
  have e3 : a + n + 1 - a = n + 1:=by omega
  simp only [e1,e2,e3] at t
  exact t
 have t1 : ((n : Int) + 1 == 1) = false:=by simpa using (by omega : ¬ ((n : Int) + 1 = 1))
 have t2 : ¬ n = 0:=by omega
 go_enter Tryz.func258,Tryz.ntmps258
 go_wp2_with (go_at_call 255; (with_reducible refine (hT _ ((h.alloc _).alloc _)).mono ?_); rintro e wx ⟨rfl,hbx⟩)
 have L0 : StM w wx b bv { k with cells:=zbr k.cells a 0 v } v:=by
  rw [zll]
  have hl : Below w.heap.size w wx:=box2.trans (hbx.mono (by simp; omega))
  exact ⟨((h.alloc _).alloc _).below hbx (by simp; omega),zdv hbx 0,zdv hbx 1,⟨hl.os,hl.tape,hl.output,hl.size,fun q hq _ => hl.block q hq⟩⟩
 clear hbx hT
 go_loopw [19] (fun ti wr => ∃ j : Nat,j ≤ n + 1 ∧ ti = .int .i64 (j : Int) ∧ StM w wr b bv { k with cells:=zbr k.cells a j v } v) (fun ti _ => n + 1 - (intOf ti).toNat)
 case atStart => exact ⟨0,by omega,rfl,L0⟩
 case round =>
  obtain ⟨j,hj,rfl,L⟩:=hrel
  clear L0
  by_cases hjn : j < n + 1
  ·obtain ⟨d0,d1⟩:=L.kn.cC (a + j) (by omega)
   have z0:=L.kn.fz (16 + (a + j) * 2)
   have z1:=L.kn.fz (16 + (a + j) * 2 + 1)
   have HS : ∀ wy,StM w wy b bv { k with cells:=zbr k.cells a j v } v → StM w ((wy.setCell ⟨b,16 + a * 2 + j * 2,none⟩ (.int .i64 ((k.cells (a + j)).or v).lo)).setCell ⟨b,16 + a * 2 + j * 2 + 1,none⟩ (.int .i64 ((k.cells (a + j)).or v).hi)) b bv { k with cells:=zbr k.cells a (j + 1) v } v:=fun wy Ly => by
    have t:=Ly.put hlt (a + j) (by omega) ((k.cells (a + j)).or v)
    have e : updR (zbr k.cells a j v) (a + j) ((k.cells (a + j)).or v) = zbr k.cells a (j + 1) v:=zlm _ _ _ _
    rw [show 16 + (a + j) * 2 = 16 + a * 2 + j * 2 by omega] at t
    show StM w _ b bv { k with cells:=zbr k.cells a (j + 1) v } v
    rw [← e]
    exact t
   rw [show 16 + (a + j) * 2 = 16 + a * 2 + j * 2 by omega] at d0 d1 z0 z1
   have d0' : wr.cell? ⟨b,16 + a * 2 + j * 2,none⟩ = some (.int .i64 (k.cells (a + j)).lo):=by rw [d0]; show some (Value.int .i64 (zbr k.cells a j v (a + j)).lo) = _; rw [ziV]
   have d1' : wr.cell? ⟨b,16 + a * 2 + j * 2 + 1,none⟩ = some (.int .i64 (k.cells (a + j)).hi):=by rw [d1]; show some (Value.int .i64 (zbr k.cells a j v (a + j)).hi) = _; rw [ziV]
   clear d0 d1
   have hj0 : (0 : Int) ≤ (j : Int):=by omega
   have hj1 : (j : Int) < (n : Int) + 1:=by omega
   have hlL:=L.kn.lt
   have f0:=L.lo
   have f1:=L.hi
   have HH : Hid (∀ wy,StM w wy b bv { k with cells:=zbr k.cells a j v } v → StM w ((wy.setCell ⟨b,16 + a * 2 + j * 2,none⟩ (.int .i64 ((k.cells (a + j)).or v).lo)).setCell ⟨b,16 + a * 2 + j * 2 + 1,none⟩ (.int .i64 ((k.cells (a + j)).or v).hi)) b bv { k with cells:=zbr k.cells a (j + 1) v } v):=HS
   clear HS
   generalize k.cells (a + j) = c at d0' d1' HH
   have HB : ∀ W,Below wr.heap.size wr W → StM w W b bv { k with cells:=zbr k.cells a j v } v ∧ W.cell? ⟨b,16 + a * 2 + j * 2,none⟩ = some (.int .i64 c.lo) ∧ W.cell? ⟨b,16 + a * 2 + j * 2 + 1,none⟩ = some (.int .i64 c.hi) ∧ W.frozen? ⟨b,16 + a * 2 + j * 2,none⟩ = false ∧ W.frozen? ⟨b,16 + a * 2 + j * 2 + 1,none⟩ = false ∧ W.cell? ⟨w.heap.size + 1,0,none⟩ = some (.int .i64 v.lo) ∧ W.cell? ⟨w.heap.size + 1,1,none⟩ = some (.int .i64 v.hi):=fun W hW => by
    have LW:=L.below hW
    have e : ∀ i,W.cell? ⟨b,i,none⟩ = wr.cell? ⟨b,i,none⟩:=fun i => World.cell?_of_block (w:=wr) (a:=⟨b,i,none⟩) (hW.block b hlL)
    exact ⟨LW,(e _).trans d0',(e _).trans d1',LW.kn.fz _,LW.kn.fz _,LW.lo,LW.hi⟩
   clear L
   go_wp2
   go_region_with (first | (go_at_call 156; (with_reducible refine (znG c v _).mono ?_); rintro e wy ⟨rfl,hby⟩; have hX : Below wr.heap.size wr wy:=(Below.refl _ wr).drew.trans hby; have LY:=(HB _ hX).1; have y0:=(HB _ hX).2.1; have y1:=(HB _ hX).2.2.1; have y2:=(HB _ hX).2.2.2.1; have y3:=(HB _ hX).2.2.2.2.1))
   all_goals go_wp2
   all_goals exact ⟨⟨j + 1,by omega,by go_num,HH.out _ LY⟩,by simp [intOf]; omega⟩
  ·obtain rfl : j = n + 1:=by omega
   go_wp2
   refine bodyPost_end (results_none rfl _ _ _) rfl ⟨rfl,?_,L.low⟩
   rw [← zm3 k.cells a n v hn]
   exact L.kn
theorem zps {w : World} {b : Nat} {bv : Value} {k : Kn} (h : KnM w b bv k) (r v : Rg) (hr : r.lo ≤ r.hi) (h0 : 0 ≤ r.lo) (h1 : r.hi ≤ 15) : Calls Tryz.prog 258 #[.pointer (some ⟨b,0,none⟩),rv r,rv v] w (zlk w b bv { k with cells:=zaA k.cells r.lo.toNat r.hi.toNat v }):=by
 obtain ⟨lo,hi⟩:=r
 obtain ⟨a,rfl⟩ : ∃ a : Nat,lo = (a : Int):=⟨lo.toNat,by have : 0 ≤ lo:=h0; omega⟩
 obtain ⟨n,rfl⟩ : ∃ n : Nat,hi = (a : Int) + (n : Int):=⟨(hi - a).toNat,by have : (a : Int) ≤ hi:=hr; omega⟩
 have h1' : (a : Int) + (n : Int) ≤ 15:=h1
 have e1 : ((a : Int) + (n : Int)).toNat = a + n:=by omega
 have e2 : ((a : Nat) : Int).toNat = a:=by omega
 show Calls Tryz.prog 258 #[.pointer (some ⟨b,0,none⟩),rv ⟨(a : Int),(a : Int) + (n : Int)⟩,rv v] w (zlk w b bv { k with cells:=zaA k.cells ((a : Nat) : Int).toNat ((a : Int) + (n : Int)).toNat v })
 rw [e1,e2]
 by_cases hn : n = 0
 ·subst hn
  have e3 : zaA k.cells a (a + 0) v = updR k.cells a v:=by unfold zaA; rw [if_pos (by omega)]
  rw [e3]
  have e4 : (a : Int) + ((0 : Nat) : Int) = (a : Int):=by omega
  rw [e4]
  exact zpr h a (by omega) v
 ·exact zm4 h a n (by omega) (by omega) v
theorem zsc {l r : Rg} (hl : l.Ok) (hr : r.Ok) (h : zet l r = none) (h' : zbi l r = none) : False:=by
 unfold Rg.Ok at hl hr
 unfold zet at h
 unfold zbi at h'
 split at h
 ·split at h'
  ·omega
  ·cases h'
 ·cases h
theorem zsd {l r : Rg} (h : zeu l r = none) (h' : za8 l r = none) : False:=by
 unfold zeu at h
 unfold za8 at h'
 split at h
 ·cases h
 ·split at h'
  ·omega
  ·cases h'
theorem zlt {w : World} {b : Nat} {bv : Value} {k : Kn} (h : KnM w b bv k) (hbv : bv.oneCell' = true) (K : KnOk k) (l r : Nat) (hl : l < 8) (hr : r < 8) (hne : ¬ l = r) (z : Int) (h0 : 0 ≤ k.steps) (h1 : k.steps ≤ 100000) (n0 : 0 ≤ k.next) (n1 : k.next ≤ 100000) :
  Calls Tryz.prog 270 #[.pointer (some ⟨b,0,none⟩),.int .i64 (l : Int),.int .i64 (r : Int),.func (.func 271) #[] #[],.func (.func 272) #[] #[],.int .i64 z] w (zc7 w b bv (zbq k l r zet zbi z)):=by
 have hF:=fun (q : Option (Rg × Rg)) (hq : zet (k.regs l) (k.regs r) = q) W b2 (hk : KnM W b2 bv k) => znM (F:=271) (fun _ _ => by kernel_rfl) hk l r hl hr hne q (fun W => by rw [← hq]; exact zuf _ _ W (K.regs l hl) (K.regs r hr))
 have hG:=fun (q : Option (Rg × Rg)) (hq : zbi (k.regs l) (k.regs r) = q) W b2 (hk : KnM W b2 bv k) => znM (F:=272) (fun _ _ => by kernel_rfl) hk l r hl hr hne q (fun W => by rw [← hq]; exact zm0 _ _ W)
 unfold zbq
 cases hh : zet (k.regs l) (k.regs r) with
 | none => cases hf : zbi (k.regs l) (k.regs r) with
  | none => exact (zsc (K.regs l hl) (K.regs r hr) hh hf).elim
  | some p => obtain ⟨x,y⟩:=p; exact zhB h hbv l r z x y (hF _ hh) (hG _ hf) h0 h1 n0 n1
 | some p =>
  obtain ⟨x,y⟩:=p
  cases hf : zbi (k.regs l) (k.regs r) with
  | none => exact zhA h hbv l r z x y (hF _ hh) (hG _ hf) h0 h1
  | some p => obtain ⟨x',y'⟩:=p; exact zhC h hbv l r z x y x' y' (hF _ hh) (hG _ hf) h0 h1 n0 n1
theorem zlu {w : World} {b : Nat} {bv : Value} {k : Kn} (h : KnM w b bv k) (hbv : bv.oneCell' = true) (K : KnOk k) (l r : Nat) (hl : l < 8) (hr : r < 8) (hne : ¬ l = r) (z : Int) (h0 : 0 ≤ k.steps) (h1 : k.steps ≤ 100000) (n0 : 0 ≤ k.next) (n1 : k.next ≤ 100000) :
  Calls Tryz.prog 270 #[.pointer (some ⟨b,0,none⟩),.int .i64 (l : Int),.int .i64 (r : Int),.func (.func 276) #[] #[],.func (.func 277) #[] #[],.int .i64 z] w (zc7 w b bv (zbq k l r zeu za8 z)):=by
 have hF:=fun (q : Option (Rg × Rg)) (hq : zeu (k.regs l) (k.regs r) = q) W b2 (hk : KnM W b2 bv k) => znM (F:=276) (fun _ _ => by kernel_rfl) hk l r hl hr hne q (fun W => by rw [← hq]; exact zun _ _ W)
 have hG:=fun (q : Option (Rg × Rg)) (hq : za8 (k.regs l) (k.regs r) = q) W b2 (hk : KnM W b2 bv k) => znM (F:=277) (fun _ _ => by kernel_rfl) hk l r hl hr hne q (fun W => by rw [← hq]; exact zm2 _ _ W (K.regs l hl) (K.regs r hr))
 unfold zbq
 cases hh : zeu (k.regs l) (k.regs r) with
 | none => cases hf : za8 (k.regs l) (k.regs r) with
  | none => exact (zsd hh hf).elim
  | some p => obtain ⟨x,y⟩:=p; exact zhB h hbv l r z x y (hF _ hh) (hG _ hf) h0 h1 n0 n1
 | some p =>
  obtain ⟨x,y⟩:=p
  cases hf : za8 (k.regs l) (k.regs r) with
  | none => exact zhA h hbv l r z x y (hF _ hh) (hG _ hf) h0 h1
  | some p => obtain ⟨x',y'⟩:=p; exact zhC h hbv l r z x y x' y' (hF _ hh) (hG _ hf) h0 h1 n0 n1
theorem zhK {w : World} {b : Nat} {bv : Value} {k : Kn} (h : KnM w b bv k) (r : Nat) (z : Int) (h0 : 0 ≤ k.steps) (h1 : k.steps ≤ 100000) (n0 : 0 ≤ k.next) (n1 : k.next ≤ 100000) :
  Calls Tryz.prog 268 #[.agg #[.int .i64 (r : Int),.int .i64 (r : Int),.int .i64 z],.pointer (some ⟨b,0,none⟩)] w (zaN w b bv (k.goTo (k.next + 1))):=by
 have hK:=h.alloc (.cells #[.int .i64 (r : Int),.int .i64 (r : Int),.int .i64 z] 187)
 go_enter Tryz.func268,Tryz.ntmps268
 go_wp2_with (go_at_call 227; (with_reducible refine (zcc hK h0 h1 n0 n1).mono ?_); intro e w6 hw6; have hw7:=zdb (zaH (b:=some b) box1) hw6; clear hw6; obtain ⟨g,rfl,hg,hc,hk,hgr⟩:=hw7)
 go_ret
 exact ⟨g,rfl,hg,hc,hk,hgr⟩
theorem zhL {w : World} {b : Nat} {bv : Value} {k : Kn} (h : KnM w b bv k) (r : Nat) (z : Int) (h0 : 0 ≤ k.steps) (h1 : k.steps ≤ 100000) :
  Calls Tryz.prog 275 #[.agg #[.int .i64 (r : Int),.int .i64 (r : Int),.int .i64 z],.pointer (some ⟨b,0,none⟩)] w (zaN w b bv (k.goTo z)):=by
 have hK:=h.alloc (.cells #[.int .i64 (r : Int),.int .i64 (r : Int),.int .i64 z] 188)
 go_enter Tryz.func275,Tryz.ntmps275
 go_wp2_with (go_at_call 229; (with_reducible refine (zf9 hK z h0 h1).mono ?_); intro e w6 hw6; have hw7:=zdb (zaH (b:=some b) box1) hw6; clear hw6; obtain ⟨g,rfl,hg,hc,hk,hgr⟩:=hw7)
 go_ret
 exact ⟨g,rfl,hg,hc,hk,hgr⟩
theorem zg6 {w : World} {b : Nat} {bv : Value} {k : Kn} (h : KnM w b bv k) (hbv : bv.oneCell' = true) (K : KnOk k) (l r : Nat) (hl : l < 8) (hr : r < 8) (hne : ¬ l = r) (z : Int) (h0 : 0 ≤ k.steps) (h1 : k.steps ≤ 100000) (n0 : 0 ≤ k.next) (n1 : k.next ≤ 100000) :
  Calls Tryz.prog 268 #[.agg #[.int .i64 (l : Int),.int .i64 (r : Int),.int .i64 z],.pointer (some ⟨b,0,none⟩)] w (zc7 w b bv (zbq k l r zet zbi z)):=by
 have hK:=h.alloc (.cells #[.int .i64 (l : Int),.int .i64 (r : Int),.int .i64 z] 187)
 have t0 : ((l : Int) == (r : Int)) = false:=by simpa using (by omega : ¬ (l : Int) = (r : Int))
 go_enter Tryz.func268,Tryz.ntmps268
 go_wp2_with (go_at_call 270; (with_reducible refine (zlt hK hbv K l r hl hr hne z h0 h1 n0 n1).mono ?_); intro e w6 hw6; have hw7:=ziY (zaH (b:=some b) box1) hw6; clear hw6; obtain ⟨ao,cap,ps,rfl,A⟩:=hw7)
 go_ret
 exact ⟨ao,cap,ps,rfl,A⟩
theorem zg7 {w : World} {b : Nat} {bv : Value} {k : Kn} (h : KnM w b bv k) (hbv : bv.oneCell' = true) (K : KnOk k) (l r : Nat) (hl : l < 8) (hr : r < 8) (hne : ¬ l = r) (z : Int) (h0 : 0 ≤ k.steps) (h1 : k.steps ≤ 100000) (n0 : 0 ≤ k.next) (n1 : k.next ≤ 100000) :
  Calls Tryz.prog 275 #[.agg #[.int .i64 (l : Int),.int .i64 (r : Int),.int .i64 z],.pointer (some ⟨b,0,none⟩)] w (zc7 w b bv (zbq k l r zeu za8 z)):=by
 have hK:=h.alloc (.cells #[.int .i64 (l : Int),.int .i64 (r : Int),.int .i64 z] 188)
 have t0 : ((l : Int) == (r : Int)) = false:=by simpa using (by omega : ¬ (l : Int) = (r : Int))
 go_enter Tryz.func275,Tryz.ntmps275
 go_wp2_with (go_at_call 270; (with_reducible refine (zlu hK hbv K l r hl hr hne z h0 h1 n0 n1).mono ?_); intro e w6 hw6; have hw7:=ziY (zaH (b:=some b) box1) hw6; clear hw6; obtain ⟨ao,cap,ps,rfl,A⟩:=hw7)
 go_ret
 exact ⟨ao,cap,ps,rfl,A⟩
end Go.Proofs.YtfpgjkbjbbgciaaGreatDoor
