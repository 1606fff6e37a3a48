import Derived.Test.YtfpgjkbjbbgciaaGreatDoorMe49
import Derived.Test.YtfpgjkbjbbgciaaGreatDoorMe50
set_option maxRecDepth 100000
set_option maxHeartbeats 8000000
namespace Go.Proofs.YtfpgjkbjbbgciaaGreatDoor
open Go.RowKit Sp
theorem zpT (a l b : Int) (w : World) (b0 : 1 ≤ b) (_a0 : -2305843009213693952 ≤ a) (_a1 : a ≤ 2305843009213693952) (l0 : a ≤ l) (l1 : l ≤ a + 3000) : Calls Tryz.prog 40 #[.int .i64 a,.int .i64 l,.int .i64 b] w fun e w' => e = .returned (.int .i64 (zfA a l b)) ∧ w' = w:=by
 unfold zfA
 by_cases h : l ≤ a
 ·rw [if_pos h]
  go_enter Tryz.func40,Tryz.ntmps40
  go_wp2
  go_ret
  exact ⟨rfl,rfl⟩
 ·rw [if_neg h]
  have e3 : (l - a - 1).tdiv b = (l - a - 1) / b:=Int.tdiv_eq_ediv_of_nonneg (by omega)
  have q0 : 0 ≤ (l - a - 1) / b:=Int.ediv_nonneg (by omega) (by omega)
  have q1 : (l - a - 1) / b ≤ 3000:=Int.le_trans (Int.ediv_le_self _ (by omega)) (by omega)
  generalize (l - a - 1) / b = q at e3 q0 q1 ⊢
  go_enter Tryz.func40,Tryz.ntmps40
  go_wp2
  go_ret
  exact ⟨rfl,rfl⟩
structure CoSt (m : Mc) (i k : Nat) (a l b : Int) (c : Nat) : Prop where
 fin : m.fin = 2
 line : m.line = 0
 steps : m.steps = 4 * (c : Int) + 4
 out : m.out = (List.range c).map fun (j : Nat) => a + (j : Int) * b
 frames : m.frames = 0
 peak : m.peak = 1
 rk : m.regs k = l
 ri : l ≤ m.regs i
theorem zjb (m : Mc) (ov : Value) (line : Int) (i : Nat) (h : i < 8) : (zak m ov line)[1 + i]? = some (.int .i64 (m.regs i)):=by
 have hi2 : i = 0 ∨ i = 1 ∨ i = 2 ∨ i = 3 ∨ i = 4 ∨ i = 5 ∨ i = 6 ∨ i = 7:=by omega
 rcases hi2 with rfl | rfl | rfl | rfl | rfl | rfl | rfl | rfl <;> simp [zak]
theorem zsC (m : Mc) (ov : Value) (line : Int) : (zak m ov line)[25]? = some ov:=by simp [zak]
theorem zsD (m : Mc) (ov : Value) (line : Int) : (zak m ov line)[26]? = some (.int .i64 m.frames):=by simp [zak]
theorem zxi (a0 b c r n : Int) (w : World) (hw : LibW w) (a : Int) (ha : a0.tdiv 4 = a) (ha0 : -2305843009213693952 ≤ a) (ha1 : a ≤ 2305843009213693952) (i k : Nat) (hi : i < 8) (hk : k < 8) (p : Int) (p0 : 0 ≤ p) (p1 : p < 7) (hkp : (k : Int) = ((i : Int) + 1 + p) % 8) (pb pc : Int) (pb0 : 0 ≤ pb) (pb1 : pb < 3000) (pc0 : 0 ≤ pc) (pc1 : pc < 1000)
  (A B DA DL DB : ByteArray) (hA : A.size = 2) (hB : B.size = 2) (hDA : DA.size ≤ 21) (hDL : DL.size ≤ 21) (hDB : DB.size ≤ 21) (FIN : Mc) (cn : Nat) (hcn : cn ≤ 3000) (S : CoSt FIN i k a (a + pb) (1 + pc) cn)
  (htr : ∀ W,LibW W → Calls Tryz.prog 18 #[.string (cntT A B DA DL DB),.slice none 0 0,.int .i64 100000] W (zbz W ⟨FIN,FIN.line,0,0⟩))
  (htm : ∀ W,Calls Tryz.prog 40 #[.int .i64 a,.int .i64 (a + pb),.int .i64 (1 + pc)] W fun e w' => e = .returned (.int .i64 (cn : Int)) ∧ w' = W)
  (hp1 : ∀ W,Calls Tryz.prog 37 #[.int .i64 r,.int .i64 8] W fun e w' => e = .returned (.int .i64 (i : Int)) ∧ w' = W)
  (hp2 : ∀ W,Calls Tryz.prog 37 #[.int .i64 n,.int .i64 7] W fun e w' => e = .returned (.int .i64 p) ∧ w' = W)
  (hp3 : ∀ W,Calls Tryz.prog 37 #[.int .i64 c,.int .i64 1000] W fun e w' => e = .returned (.int .i64 pc) ∧ w' = W)
  (hp4 : ∀ W,Calls Tryz.prog 37 #[.int .i64 b,.int .i64 3000] W fun e w' => e = .returned (.int .i64 pb) ∧ w' = W)
  (hrA : ∀ W,Calls Tryz.prog 38 #[.int .i64 (i : Int)] W fun e w' => e = .returned (.string A) ∧ Below W.heap.size W w')
  (hrB : ∀ W,Calls Tryz.prog 38 #[.int .i64 (((i : Int) + 1 + p) % 8)] W fun e w' => e = .returned (.string B) ∧ Below W.heap.size W w')
  (hdA : ∀ W,Calls Tryz.prog 36 #[.int .i64 a] W fun e w' => e = .returned (.string DA) ∧ Below W.heap.size W w')
  (hdL : ∀ W,Calls Tryz.prog 36 #[.int .i64 (a + pb)] W fun e w' => e = .returned (.string DL) ∧ Below W.heap.size W w')
  (hdB : ∀ W,Calls Tryz.prog 36 #[.int .i64 (1 + pc)] W fun e w' => e = .returned (.string DB) ∧ Below W.heap.size W w') :
  Calls Tryz.prog 13 #[.int .i64 a0,.int .i64 b,.int .i64 c,.int .i64 r,.int .i64 n] w fun e w' => e = .returned (.bool true) ∧ Below w.heap.size w w':=by
 have hb1:=Below.refl w.heap.size w
 have wr0 : wrap64 a = a:=(by unfold wrap64; omega)
 go_enter Tryz.func13,Tryz.ntmps13
 go_wp2_with (first
  | (go_at_call 37; (first | (with_reducible refine (hp1 _).mono ?_) | (with_reducible refine (hp2 _).mono ?_) | (with_reducible refine (hp3 _).mono ?_) | (with_reducible refine (hp4 _).mono ?_)); rintro e wx ⟨rfl,hwx⟩; subst hwx)
  | (go_at_call 38; (first | (with_reducible refine (hrA _).mono ?_) | (with_reducible refine (hrB _).mono ?_)); rintro e wy ⟨rfl,hby⟩; have hb1:=hb1.trans (hby.mono hb1.size))
  | (go_at_call 36; (first | (with_reducible refine (hdA _).mono ?_) | (with_reducible refine (hdL _).mono ?_) | (with_reducible refine (hdB _).mono ?_)); rintro e wy ⟨rfl,hby⟩; have hb1:=hb1.trans (hby.mono hb1.size))
  | (go_at_call 18; refine Hid.out ?_))
 unfold Hid
 rw [show (⟨#[102,117,110,99,32,109,97,105,110,10,9,115,101,116,32]⟩ : ByteArray) ++ A ++ (⟨#[32]⟩ : ByteArray) ++ DA ++ (⟨#[10,9,115,101,116,32]⟩ : ByteArray) ++ B ++ (⟨#[32]⟩ : ByteArray) ++ DL ++ (⟨#[10,97,103,97,105,110,58,10,9,108,101,115,115,32]⟩ : ByteArray) ++ A ++ (⟨#[32]⟩ : ByteArray) ++ B ++ (⟨#[32,109,111,114,101,10,9,98,97,99,107,10,109,111,114,101,58,10,9,119,114,105,116,101,32]⟩ : ByteArray) ++ A ++ (⟨#[10,9,105,110,99,32]⟩ : ByteArray) ++ A ++ (⟨#[32]⟩ : ByteArray) ++ DB ++ (⟨#[10,9,106,117,109,112,32,97,103,97,105,110,10]⟩ : ByteArray) = cntT A B DA DL DB from rfl]
 generalize cntT A B DA DL DB = TXT at htr ⊢
 have ht:=htr wy (hw.below hb1)
 refine ht.mono ?_
 rintro e w2 ⟨oo,no,co,rfl,hrow,hb2⟩
 dsimp only
 have hB2:=hb1.trans (hb2.mono hb1.size)
 have hln:=zaE FIN (.slice oo no co) FIN.line
 have h1:=zaO FIN oo no co FIN.line
 have h0:=zde FIN (.slice oo no co) FIN.line
 have h25:=zsC FIN (.slice oo no co) FIN.line
 have h26:=zsD FIN (.slice oo no co) FIN.line
 have h27:=zlr FIN (.slice oo no co) FIN.line
 have h28:=zho FIN (.slice oo no co) FIN.line
 have h29:=zd0 FIN (.slice oo no co) FIN.line
 have hri:=zjb FIN (.slice oo no co) FIN.line i hi
 have hrk:=zjb FIN (.slice oo no co) FIN.line k hk
 have hN:=SlN.of_row (_n:=0) hrow
 obtain ⟨s1,s2,s3,s4,s5,s6,s7,s8⟩:=S
 generalize zak FIN (.slice oo no co) FIN.line = ds at hln h1 h0 h25 h26 h27 h28 h29 hri hrk
 rw [s3] at h0
 rw [s5] at h26
 rw [s6] at h27
 rw [s2] at h28
 rw [s1] at h29
 rw [s7] at hrk
 generalize FIN.regs i = Ri at hri s8
 rw [s4] at hN
 have hle : ((List.range cn).map fun (j : Nat) => a + (j : Int) * (1 + pc)).length = cn:=by simp
 obtain ⟨ao,ca,e,hra⟩:=hN.below (zam ds.toArray.toList 0 ((Below.refl w2.heap.size w2).alloc (Nat.le_refl _) Z34) (Nat.le_refl _))
 rw [hle] at e
 simp only [Value.slice.injEq] at e
 obtain ⟨rfl,rfl,rfl⟩:=e
 have hra2 : ∀ j : Nat,j < no → ∃ g o,oo = some ⟨g,o,none⟩ ∧ ((w2.alloc Z34).setCells w2.heap.size 0 ds.toArray.toList).cell? ⟨g,o + j,none⟩ = some (.int .i64 (a + (j : Int) * (1 + pc))):=fun j hj => by
  obtain ⟨g,o,e1,h⟩:=hra (by rw [hle]; omega)
  refine ⟨g,o,e1,?_⟩
  have:=h j (by rw [hle]; exact hj)
  simpa using this
 clear hra hrow hN
 have hi6:=zaU ds hln
 have ht6:=zcN (W1:=w2) rfl ds hln
 have hB7 : Below w2.heap.size w2 ((w2.alloc Z34).setCells w2.heap.size 0 ds.toArray.toList):=zam _ 0 ((Below.refl w2.heap.size w2).alloc (Nat.le_refl _) _) (Nat.le_refl _)
 have hr7 : ((w2.alloc Z34).setCells w2.heap.size 0 ds.toArray.toList).rangeAt w2.heap.size 0 ds:=by rw [show ds.toArray.toList = ds by simp]; exact World.rangeAt_setCells_same _ _ _ _ (by rw [show ds.length = ds.toArray.size by simp]; exact ht6)
 have c0:=hr7 0 _ h0
 have c25:=hr7 25 _ h25
 have c26:=hr7 26 _ h26
 have c27:=hr7 27 _ h27
 have c28:=hr7 28 _ h28
 have c29:=hr7 29 _ h29
 have ci:=hr7 (1 + i) _ hri
 have ck:=hr7 (1 + k) _ hrk
 rw [Nat.zero_add] at c0 c25 c26 c27 c28 c29 ci ck
 have hB8:=hB2.trans (hB7.mono hB2.size)
 generalize hw7 : (w2.alloc Z34).setCells w2.heap.size 0 ds.toArray.toList = w7 at hB7 hr7 c0 c25 c26 c27 c28 c29 ci ck hB8 hra2
 clear hr7 h0 h25 h26 h27 h28 h29 hri hrk htr ht
 have htw:=htm w7
 go_wp2_with (first
  | (refine wpList_store_mid rfl 34 _ _ rfl w2.heap.size 0 ds.toArray rfl rfl ht6 hi6 h1 ?_; rw [hw7])
  | (go_at_call 40; (with_reducible refine htw.mono ?_); rintro e wz ⟨rfl,hwz⟩; subst hwz))
 rw [← hkp]
 have hi0 : (0 : Int) ≤ (i : Int):=by omega
 have hi8 : (i : Int) < 8:=by omega
 have hk0 : (0 : Int) ≤ (k : Int):=by omega
 have hk8 : (k : Int) < 8:=by omega
 clear hkp hrA hrB hdA hdL hdB hp1 hp2 hp3 hp4 htm htw c0 c26 c27 c28 c29
 go_loopw [20] (fun t wr => ∃ j : Nat,j ≤ no ∧ t = .int .i64 (j : Int) ∧ wr = wz) (fun t _ => no - (intOf t).toNat)
 case atStart => exact ⟨0,by omega,rfl,rfl⟩
 case round =>
  obtain ⟨j,hj,rfl,hwr⟩:=hrel
  subst hwr
  by_cases hlt : j < no
  ·obtain ⟨g,o,rfl,cj⟩:=hra2 j hlt
   have x0 : 0 ≤ (j : Int) * (1 + pc):=Int.mul_nonneg (by omega) (by omega)
   have x1 : (j : Int) * (1 + pc) ≤ 3000 * 1000:=Int.mul_le_mul (by omega) (by omega) (by omega) (by omega)
   have hj0 : (0 : Int) ≤ (j : Int):=by omega
   have hj1 : (j : Int) < (no : Int):=by omega
   clear hra2 ck ci
   go_wp2
   go_roundw
   case rel => exact ⟨j + 1,by omega,by go_num,trivial⟩
   case measure => simp [intOf]; omega
  ·have hd8 : decide (a + pb ≤ Ri) = true:=by simpa using s8
   clear hra2
   go_wp2
   go_ret
   exact ⟨rfl,hB8⟩
theorem ze2 (n : Int) (h : i64 n) : (ba (digL n)).size ≤ 21:=by
 obtain ⟨h1,h2⟩:=h
 have z1:=zgf n.natAbs (by omega)
 unfold digL
 split
 ·show (decL n.natAbs).length + 1 ≤ 21
  have : (decL n.natAbs).length ≤ 20:=z1
  omega
 ·exact Nat.le_trans z1 (by decide)
theorem zsE (a0 b c r n : Int) (ha : i64 a0) (hb : i64 b) (hc : i64 c) (hr : i64 r) (hn : i64 n) (w : World) (hw : LibW w) :
  Calls Tryz.prog 13 #[.int .i64 a0,.int .i64 b,.int .i64 c,.int .i64 r,.int .i64 n] w fun e w' => e = .returned (.bool true) ∧ Below w.heap.size w w':=by
 have i0 : 0 ≤ zdn r 8:=Int.emod_nonneg _ (by omega)
 have i1 : zdn r 8 < 8:=Int.emod_lt_of_pos _ (by omega)
 have p0 : 0 ≤ zdn n 7:=Int.emod_nonneg _ (by omega)
 have p1 : zdn n 7 < 7:=Int.emod_lt_of_pos _ (by omega)
 have b0 : 0 ≤ zdn b 3000:=Int.emod_nonneg _ (by omega)
 have b1 : zdn b 3000 < 3000:=Int.emod_lt_of_pos _ (by omega)
 have c0 : 0 ≤ zdn c 1000:=Int.emod_nonneg _ (by omega)
 have c1 : zdn c 1000 < 1000:=Int.emod_lt_of_pos _ (by omega)
 have hp1:=fun W => ze0 r 8 W (by omega) hr
 have hp2:=fun W => ze0 n 7 W (by omega) hn
 have hp3:=fun W => ze0 c 1000 W (by omega) hc
 have hp4:=fun W => ze0 b 3000 W (by omega) hb
 generalize zdn n 7 = p at hp2 p0 p1
 generalize zdn b 3000 = pb at hp4 b0 b1
 generalize zdn c 1000 = pc at hp3 c0 c1
 obtain ⟨i,hi⟩:=Int.eq_ofNat_of_zero_le i0
 rw [hi] at hp1 i1
 obtain ⟨k,hk⟩:=Int.eq_ofNat_of_zero_le (show 0 ≤ ((i : Int) + 1 + p) % 8 from Int.emod_nonneg _ (by omega))
 have hi8 : i < 8:=by omega
 have hk8 : k < 8:=by omega
 have hne : ¬ i = k:=by omega
 obtain ⟨ha1,ha2⟩:=ha
 obtain ⟨a,hta⟩ : ∃ a,a0.tdiv 4 = a:=⟨_,rfl⟩
 have ba : -2305843009213693952 ≤ a ∧ a ≤ 2305843009213693952:=by
  have e1:=Int.mul_tdiv_add_tmod a0 4
  have e2:=Int.tmod_lt_of_pos a0 (show (0 : Int) < 4 by omega)
  have e3:=Int.lt_tmod_of_pos a0 (show (0 : Int) < 4 by omega)
  rw [hta] at e1
  omega
 obtain ⟨ba0,ba1⟩:=ba
 have ja : i64 a:=⟨by omega,by omega⟩
 have jl : i64 (a + pb):=⟨by omega,by omega⟩
 have jb : i64 (1 + pc):=⟨by omega,by omega⟩
 have t0 : 0 ≤ zfA a (a + pb) (1 + pc):=by
  unfold zfA
  split
  ·omega
  ·have : 0 ≤ (a + pb - a - 1) / (1 + pc):=Int.ediv_nonneg (by omega) (by omega)
   omega
 have t1 : zfA a (a + pb) (1 + pc) ≤ 3000:=by
  unfold zfA
  split
  ·omega
  ·have : (a + pb - a - 1) / (1 + pc) ≤ a + pb - a - 1:=Int.ediv_le_self _ (by omega)
   omega
 have htm:=fun W => zpT a (a + pb) (1 + pc) W (by omega) (by omega) (by omega) (by omega) (by omega)
 obtain ⟨cn,hcn⟩:=Int.eq_ofNat_of_zero_le t0
 rw [hcn] at htm t1
 have hsaid:=zuB i k hi8 hk8 a (a + pb) (1 + pc) ja.1 ja.2 jl.1 jl.2 jb.1 jb.2
 have hsz : (cntT (Sp.ba (regW i)) (Sp.ba (regW k)) (Sp.ba (digL a)) (Sp.ba (digL (a + pb))) (Sp.ba (digL (1 + pc)))).size ≤ 300:=by
  have q1:=ze2 a ja
  have q2:=ze2 (a + pb) jl
  have q3:=ze2 (1 + pc) jb
  have q4 : (Sp.ba (regW i)).size = 2:=rfl
  have q5 : (Sp.ba (regW k)).size = 2:=rfl
  unfold cntT
  simp only [ByteArray.size_append,zc6,List.length_cons,List.length_nil] at q1 q2 q3 q4 q5 ⊢
  omega
 have hlen : (lines (cntT (Sp.ba (regW i)) (Sp.ba (regW k)) (Sp.ba (digL a)) (Sp.ba (digL (a + pb))) (Sp.ba (digL (1 + pc))))).length = 11:=by
  have:=congrArg List.length hsaid
  rw [List.length_map] at this
  exact this
 have hread : zbk (cntT (Sp.ba (regW i)) (Sp.ba (regW k)) (Sp.ba (digL a)) (Sp.ba (digL (a + pb))) (Sp.ba (digL (1 + pc)))) = (0,0):=by
  rw [zs2 _ (by rw [hsaid]; exact zs9 _ _ _ _ _),if_neg (by rw [hlen]; omega)]
 have hcode:=zsA (Sp.ba (regW i)) (Sp.ba (regW k)) (Sp.ba (digL a)) (Sp.ba (digL (a + pb))) (Sp.ba (digL (1 + pc)))
 have r1 : regN (Sp.ba (regW i)) = i:=by unfold regN; rw [show reg (Sp.ba (regW i)) = (i : Int) from zsz i hi8]; simp
 have r2 : regN (Sp.ba (regW k)) = k:=by unfold regN; rw [show reg (Sp.ba (regW k)) = (k : Int) from zsz k hk8]; simp
 rw [r1,r2,zgL a ja.1 ja.2,zgL (a + pb) jl.1 jl.2,zgL (1 + pc) jb.1 jb.2] at hcode
 obtain ⟨m,hrun,m1,m2,m3,m4,m5,m6,m7,m8⟩:=zwd hcode hne (by omega) (by omega) (by omega) (by omega) cn 100000 hcn.symm (by omega)
 rw [← hsaid] at hrun
 refine zxi a0 b c r n w hw a hta ba0 ba1 i k hi8 hk8 p p0 p1 hk.symm pb pc b0 b1 c0 c1 (Sp.ba (regW i)) (Sp.ba (regW k)) (Sp.ba (digL a)) (Sp.ba (digL (a + pb))) (Sp.ba (digL (1 + pc))) rfl rfl (ze2 a ja) (ze2 _ jl) (ze2 _ jb) m cn (by omega)
  ⟨m1,by unfold Mc.line; rw [if_pos (.inr m1)],m3,m4,m5,m6,m7,m8⟩ (fun W hW => ?_) htm hp1 hp2 hp3 hp4 (fun W => zgM i hi8 W) (fun W => ?_) (fun W => ze1 a ja W) (fun W => ze1 _ jl W) (fun W => ze1 _ jb W)
 ·have:=zfT _ W hW none 0 100000 [] (Nat.le_trans hsz (by decide)) ⟨none,0,rfl,Nat.le_refl _,fun h => absurd h (Nat.lt_irrefl 0)⟩ (Nat.zero_le _)
  unfold zkx at this
  rw [if_neg (by simp [hread]),if_neg (by omega)] at this
  rw [show ((100000 : Int).toNat) = 100000 from rfl,hrun] at this
  exact this
 ·rw [hk]
  exact zgM k hk8 W
theorem ulaw (r n : Int) (w : World) (hw : LibW w) (i k : Nat) (hi : i < 8) (_hk : k < 8) (p : Int) (p0 : 0 ≤ p) (p1 : p < 7) (hkp : (k : Int) = ((i : Int) + 1 + p) % 8) (A B : ByteArray) (hA : A.size = 2) (hB : B.size = 2) (FIN : Mc) (hF1 : FIN.steps = 13) (hF2 : FIN.fin = 1) (hF3 : FIN.regs i = 3)
  (hck : ∀ W,LibW W → Calls Tryz.prog 15 #[.string (unsT A B)] W fun e w' => e = .returned (.tuple #[.int .i64 0,.int .i64 0]) ∧ Below W.heap.size W w')
  (hvf : ∀ W,LibW W → Calls Tryz.prog 26 #[.string (unsT A B)] W (zlq W 0 0 8 0))
  (htr : ∀ W ao icap,LibW W → SlB W W.heap.size (.slice ao 1 icap) [3] → Calls Tryz.prog 18 #[.string (unsT A B),.slice ao 1 icap,.int .i64 100] W (zbz W ⟨FIN,FIN.line,0,0⟩))
  (hp1 : ∀ W,Calls Tryz.prog 37 #[.int .i64 r,.int .i64 8] W fun e w' => e = .returned (.int .i64 (i : Int)) ∧ w' = W)
  (hp2 : ∀ W,Calls Tryz.prog 37 #[.int .i64 n,.int .i64 7] W fun e w' => e = .returned (.int .i64 p) ∧ w' = W)
  (hrA : ∀ W,Calls Tryz.prog 38 #[.int .i64 (i : Int)] W fun e w' => e = .returned (.string A) ∧ Below W.heap.size W w')
  (hrB : ∀ W,Calls Tryz.prog 38 #[.int .i64 (((i : Int) + 1 + p) % 8)] W fun e w' => e = .returned (.string B) ∧ Below W.heap.size W w') :
  Calls Tryz.prog 11 #[.int .i64 r,.int .i64 n] w fun e w' => e = .returned (.bool true) ∧ Below w.heap.size w w':=by
 have haw:=zib w hw
 go_enter Tryz.func11,Tryz.ntmps11
 go_wp2_with (first
  | (go_at_call 30; (with_reducible refine haw.mono ?_); rintro e w1 ⟨rfl,hb1⟩)
  | (go_at_call 37; (first | (with_reducible refine (hp1 _).mono ?_) | (with_reducible refine (hp2 _).mono ?_)); rintro e wx ⟨rfl,hwx⟩; subst hwx)
  | (go_at_call 38; (first | (with_reducible refine (hrA _).mono ?_) | (with_reducible refine (hrB _).mono ?_)); rintro e wy ⟨rfl,hby⟩; have hb1:=hb1.trans (hby.mono hb1.size))
  | (go_at_call 15; refine Hid.out ?_))
 unfold Hid
 rw [show (⟨#[102,117,110,99,32,109,97,105,110,10,9,115,101,116,32]⟩ : ByteArray) ++ A ++ (⟨#[32,48,10,9,114,101,97,100,32]⟩ : ByteArray) ++ B ++ (⟨#[10,97,103,97,105,110,58,10,9,108,101,115,115,32]⟩ : ByteArray) ++ A ++ (⟨#[32]⟩ : ByteArray) ++ B ++ (⟨#[32,109,111,114,101,10,9,115,116,111,112,10,109,111,114,101,58,10,9,105,110,99,32]⟩ : ByteArray) ++ A ++ (⟨#[32,49,10,9,106,117,109,112,32,97,103,97,105,110,10]⟩ : ByteArray) = unsT A B from rfl]
 generalize unsT A B = TXT at hck hvf htr ⊢
 have hc:=hck wy (hw.below hb1)
 refine hc.mono ?_
 rintro e w2 ⟨rfl,hb2⟩
 dsimp only
 have hB2:=hb1.trans (hb2.mono hb1.size)
 have hv2:=hvf w2 (hw.below hB2)
 clear hc haw
 go_wp2_with (first
  | (go_at_call 26; (with_reducible refine hv2.mono ?_); rintro e w3 ⟨rfl,hb3⟩)
  | (go_at_call 18; refine Hid.out ?_))
 unfold Hid
 have hB3:=hB2.trans (hb3.mono hB2.size)
 have hB4:=(hB3.alloc hB3.size (.cells #[.int .i64 0,.int .i64 0] 42))
 have hs4 : (w3.alloc (.cells #[.int .i64 0,.int .i64 0] 42)).heap.size = w3.heap.size + 1:=by simp
 have hB5:=hB4.alloc hB4.size (.cells #[.int .i64 3] 2)
 have c3:=World.cell?_alloc_new (w:=w3.alloc (.cells #[.int .i64 0,.int .i64 0] 42)) #[.int .i64 3] 2 0
 rw [hs4] at c3
 have hs5 : ((w3.alloc (.cells #[.int .i64 0,.int .i64 0] 42)).alloc (.cells #[.int .i64 3] 2)).heap.size = w3.heap.size + 1 + 1:=by simp
 have ht5:=htr _ (some ⟨w3.heap.size + 1,0,none⟩) 1 (hw.below hB5) ⟨_,1,rfl,Nat.le_refl _,fun _ => ⟨w3.heap.size + 1,0,rfl,by rw [hs5]; omega,by rw [hs5]; omega,fun j hj => by
  have : j = 0:=by simp at hj; omega
  subst this
  exact c3⟩⟩
 refine ht5.mono ?_
 rintro e w6 ⟨oo,no,co,rfl,_,hb6⟩
 dsimp only
 have hB6:=hB5.trans (hb6.mono hB5.size)
 have hln:=zaE FIN (.slice oo no co) FIN.line
 have h1:=zaO FIN oo no co FIN.line
 have h0:=zde FIN (.slice oo no co) FIN.line
 have h29:=zd0 FIN (.slice oo no co) FIN.line
 have hrg : (zak FIN (.slice oo no co) FIN.line)[1 + i]? = some (.int .i64 3):=by
  rw [← hF3]
  have hi2 : i = 0 ∨ i = 1 ∨ i = 2 ∨ i = 3 ∨ i = 4 ∨ i = 5 ∨ i = 6 ∨ i = 7:=by omega
  rcases hi2 with rfl | rfl | rfl | rfl | rfl | rfl | rfl | rfl <;> simp [zak]
 rw [hF1] at h0
 rw [hF2] at h29
 generalize zak FIN (.slice oo no co) FIN.line = ds at hln h1 h0 h29 hrg
 have hi6:=zaU ds hln
 have ht6:=zcN (W1:=w6) rfl ds hln
 have hB7 : Below w6.heap.size w6 ((w6.alloc Z34).setCells w6.heap.size 0 ds.toArray.toList):=zam _ 0 ((Below.refl w6.heap.size w6).alloc (Nat.le_refl _) _) (Nat.le_refl _)
 have hr7 : ((w6.alloc Z34).setCells w6.heap.size 0 ds.toArray.toList).rangeAt w6.heap.size 0 ds:=by rw [show ds.toArray.toList = ds by simp]; exact World.rangeAt_setCells_same _ _ _ _ (by rw [show ds.length = ds.toArray.size by simp]; exact ht6)
 have c0:=hr7 0 _ h0
 have c29:=hr7 29 _ h29
 have cr:=hr7 (1 + i) _ hrg
 rw [Nat.zero_add] at c0 c29 cr
 have hB8:=hB6.trans (hB7.mono hB6.size)
 generalize hw7 : (w6.alloc Z34).setCells w6.heap.size 0 ds.toArray.toList = w7 at hB7 hr7 c0 c29 cr hB8
 clear hr7 h0 h29 hrg htr hvf hck hv2 ht5 c3
 go_wp2_with (first | (refine wpList_store_mid rfl 34 _ _ rfl w6.heap.size 0 ds.toArray rfl rfl ht6 hi6 h1 ?_; rw [hw7]))
 go_ret
 exact ⟨rfl,hB8⟩
theorem zuA (r n : Int) (hr : i64 r) (hn : i64 n) (w : World) (hw : LibW w) : Calls Tryz.prog 11 #[.int .i64 r,.int .i64 n] w fun e w' => e = .returned (.bool true) ∧ Below w.heap.size w w':=by
 have a0 : 0 ≤ zdn r 8:=Int.emod_nonneg _ (by omega)
 have a1 : zdn r 8 < 8:=Int.emod_lt_of_pos _ (by omega)
 have b0 : 0 ≤ zdn n 7:=Int.emod_nonneg _ (by omega)
 have b1 : zdn n 7 < 7:=Int.emod_lt_of_pos _ (by omega)
 have hp1:=fun W => ze0 r 8 W (by omega) hr
 have hp2:=fun W => ze0 n 7 W (by omega) hn
 generalize zdn n 7 = p at hp2 b0 b1
 obtain ⟨i,hi⟩:=Int.eq_ofNat_of_zero_le a0
 rw [hi] at hp1 a1
 obtain ⟨k,hk⟩:=Int.eq_ofNat_of_zero_le (show 0 ≤ ((i : Int) + 1 + p) % 8 from Int.emod_nonneg _ (by omega))
 have hi8 : i < 8:=by omega
 have hk8 : k < 8:=by omega
 have hne : ¬ i = k:=by omega
 obtain ⟨hR,U⟩:=znW i k hi8 hk8 hne
 have hno:=zwP hi8 hk8 hne
 have hsz : (unsT (regB i) (regB k)).size ≤ 9223372036854775807:=by
  unfold unsT
  simp only [ByteArray.size_append,zif]
  decide
 obtain ⟨t1,t2,t3⟩:=U.tr
 refine ulaw r n w hw i k hi8 hk8 p b0 b1 hk.symm (regB i) (regB k) (zif i) (zif k) _ t1 t2 t3 (fun W hW => ?_) (fun W hW => ziY (.inr (.inl ⟨hR,hno,rfl,rfl,rfl,rfl⟩)) W hW hsz) (fun W ao icap hW h => ?_) hp1 hp2 (fun W => zgM i hi8 W) (fun W => ?_)
 ·have:=zqu _ (zbk (unsT (regB i) (regB k))) (zfu _ hsz) W hW
  rw [hR] at this
  exact this
 ·have:=zfT (unsT (regB i) (regB k)) W hW ao icap 100 [3] hsz h (by simp)
  unfold zkx at this
  rw [if_neg (by simp [hR]),if_neg (by omega)] at this
  exact this
 ·rw [hk]
  exact zgM k hk8 W
end Go.Proofs.YtfpgjkbjbbgciaaGreatDoor
namespace Go.Proofs.YtfpgjkbjbbgciaaGreatDoor
open Go.ChangeShapes Go.WideShapes Go.ChangeAt Go.RowKit Sp
theorem wf_i64 {n : Int} (h : (Lit.int .i64 n).wf = true) : i64 n:=by
 simp only [Lit.wf,Bool.and_eq_true,decide_eq_true_eq] at h
 exact h
theorem zs6 (H : Type) (enc : TypeId × Value → H) (W : World) (base : Nat) (args : Array Value) (ds gs : List (DataW H)) (before : List MemPlace)
  (hval : ∀ (j : Nat) t v,Tryz.f11.params[j]? = some t → args[j]? = some v → Value.okWide Tryz.prog W .any base t v)
  (hW : DataW.Whole enc Tryz.prog Tryz.f11.params.toList Rows.unsureSpec.vars false W args.toList ds gs before) (hL : laidMetH Tryz.prog Rows.unsureRow.laid W) (hsh : W.ShapedOpen Tryz.prog) :
  Calls Tryz.prog 11 args W fun e W' => ∃ v,e = .returned v ∧ Rows.unsureSpec.post enc Tryz.prog Tryz.f11 false true false false W args v W':=by
 have hW':=hW
 obtain ⟨p,q,hA0,hV,rfl,hfz,hnd⟩:=hW
 have hA : DataW.TrodAll enc Tryz.prog W 0 (fun _ => true) true Tryz.f11.params.toList args.toList ds p:=hA0
 rw [Tryz.params11] at hA hval
 obtain ⟨v0,v1,d0,d1,p0,p1,rfl,rfl,rfl,h0,h1⟩:=trodAll_two hA
 obtain ⟨rfl,rfl⟩:=trodVars_none hV
 obtain ⟨r,rfl,rfl,rfl,wr⟩:=open_int Tryz.underlying3 (hval 0 3 v0 rfl rfl) h0
 obtain ⟨n,rfl,rfl,rfl,wn⟩:=open_int Tryz.underlying3 (hval 1 3 v1 rfl rfl) h1
 clear hA0
 simp only [List.append_nil] at hW'
 refine (zuA r n (wf_i64 wr) (wf_i64 wn) W (zeI hL hsh)).mono fun e W' ⟨he,hb⟩ => ?_
 subst he
 refine ⟨_,rfl,_,_,_,[],[] ++ [],[],hW',?_,?_,?_,hb.frame _,fun h => by cases h⟩
 ·exact trodAll_mk1 (shut_bool Tryz.underlying4 _)
 ·exact trodAll_mk2 (shut_int Tryz.underlying3 wr) (shut_int Tryz.underlying3 wn)
 ·rfl
theorem zlx (os : Os) {H : Type} (enc : TypeId × Value → H) :
  (OpenSpec.ofChange Rows.unsureSpec).preRow enc Tryz.prog Tryz.f11 Rows.unsureRow.domain false Rows.unsureRow.laid ((laidWorld os).forCall (fun _ _ => 0) ⟨#[],#[.int .i64 0,.int .i64 0],[]⟩).memory #[.int .i64 0,.int .i64 0] :=
 OpenSpec.preRow_of_B rfl 8 (by kernel_rfl) (by kernel_rfl) (zjC os _)
theorem zwa (os : Os) (started : os.Started) (H : Type) (enc : TypeId × Value → H) (F : Stop.Interp) :
  ReturnsInHanded {} Tryz.checked os 11 .any ((OpenSpec.ofChange Rows.unsureSpec).preRow enc Tryz.prog Tryz.f11 Rows.unsureRow.domain false Rows.unsureRow.laid) (((OpenSpec.ofChange Rows.unsureSpec).at F).post enc Tryz.prog Tryz.f11 false true false false):=by
 refine returnsInHanded_of_row (C:=Tryz.checked) (s:=OpenSpec.ofChange Rows.unsureSpec) Tryz.own started (by kernel_rfl) Tryz.func11
  (witness_row_atRef (enc:=enc) (C:=Tryz.checked) false (laidWorld os) #[.int .i64 0,.int .i64 0] rfl (by kernel_rfl) (by kernel_rfl) (by kernel_rfl) (zlx os enc)) ?_
 intro W base args ds gs before hval hW x1 x2 x3 hL x4 x5
 exact zs6 H enc W base args ds gs before hval hW hL x4
theorem zwQ : (Rows.unsureRow.inPlace == Tryz.pinned.checked.prog.inPlace 11) = true:=by kernel_rfl
theorem zwR : (Rows.unsureRow.unfollowed == Tryz.pinned.checked.prog.unfollowed 11) = true:=by kernel_rfl
theorem zwS : (Rows.unsureRow.recurses == Tryz.pinned.checked.prog.recurses 11) = true:=by kernel_rfl
theorem zwT : (Rows.unsureRow.named == Tryz.pinned.checked.prog.varsNamed 11) = true:=by kernel_rfl
theorem zwU : joinedFacts Tryz.pinned.checked.prog 11 Tryz.f11 (OpenSpec.ofChange Rows.unsureSpec).bare Rows.unsureRow = true:=by
 unfold joinedFacts
 rw [zwQ,zwR,zwS,zwT]
 kernel_rfl
theorem zxg : Rows.UnsureSaid :=
 OpenClaim.holds_of_cond 11 Tryz.f11 rfl rfl rfl rfl rfl rfl rfl ⟨rfl,rfl,rfl,rfl,rfl⟩ rfl rfl rfl rfl rfl (by kernel_rfl) Tryz.func11 zwU
  (of_decide_eq_true (by kernel_rfl)) (by unfold Func.isWrapper; first | (rw [if_pos (by decide +kernel)]; kernel_rfl) | (rw [if_neg (by decide +kernel)]; exact ⟨rfl,rfl⟩))
  (fun os started H enc _ F => by rw [OpenClaim.pre_eq_preRow]; exact zwa os started H enc F)
theorem zwV (f : FuncId) (fn : Func) (hf : Tryz.pinned.checked.prog.funcNamed "bounded/boundedkeep.Unsure" = some f) (hfn : Tryz.pinned.checked.prog.funcs[f]? = some fn) :
  true = Tryz.pinned.checked.prog.looks [] ∧ ∀ (j : Nat) t,fn.params[j]? = some t → Tryz.pinned.checked.prog.wantsStandIn t = false:=by
 obtain rfl : f = 11:=Option.some.inj ((show Tryz.prog.funcNamed "bounded/boundedkeep.Unsure" = some 11 by kernel_rfl).symm.trans hf) |>.symm
 obtain rfl : fn = Tryz.f11:=(Option.some.inj (Tryz.func11.symm.trans hfn)).symm
 refine ⟨by kernel_rfl,fun j t ht => ?_⟩
 rw [Tryz.params11] at ht
 have hm : t = 3:=by simpa using Array.mem_of_getElem? ht
 subst hm
 exact (show Tryz.prog.wantsStandIn 3 = false by kernel_rfl)
theorem ucard : Rows.UnsureCardSaid :=
 Claim7.holds_tied_plain_at .later [] _ _ _ _ zxg (fun _ h => by cases h) (by kernel_rfl) (fun _ h => by cases h) unsure_row_tie rfl ⟨rfl,rfl⟩ (by kernel_rfl) rfl zwV (by kernel_rfl)
end Go.Proofs.YtfpgjkbjbbgciaaGreatDoor
