import Derived.Test.YtfpgjkbjbbgciaaGreatDoorMf45
set_option maxRecDepth 100000
set_option maxHeartbeats 8000000
namespace Go.Proofs.YtfpgjkbjbbgciaaGreatDoor
open Go.RowKit Sp
attribute [local go_sem ↓] Go.wp_at_zero Go.wp_at_succ
theorem WrM.two {B : Nat} {w : World} {b px : Nat} {cv : Value} {code : List Int} {S : Wst} {k : Nat} {V : Nat → Value} (h : WrM B w b px cv code S k V) {v : Value} (hv : V 23 = v) : w.cell? ⟨b,0,none⟩ = some (.pointer (some ⟨px,0,none⟩)) ∧ w.cell? ⟨b,23,none⟩ = some v:=⟨h.cx,by rw [← hv]; exact h.blk.cell 23 (by omega)⟩
structure SlotAt (w : World) (g o z f : Nat) (G : Nat → Bool) : Prop where
 cz : w.cell? ⟨g,o,none⟩ = some (.int .i64 (z : Int))
 cg : ∀ j,j < 8 → w.cell? ⟨g,o + (1 + j),none⟩ = some (.bool (G j))
 cf : w.cell? ⟨g,o + 9,none⟩ = some (.int .i64 (f : Int))
theorem KnRow.slot {B : Nat} {w : World} {g cap nk : Nat} (h : KnRow B w (.slice (some ⟨g,0,none⟩) nk cap) nk) (i : Nat) (hi : i < nk) : ∃ z f G,SlotAt w g (i * 10) z f G ∧ z ≤ (i + 1) * 2147483648 ∧ f ≤ i + 1:=by
 obtain ⟨xs,h1,h2⟩:=h
 obtain ⟨⟨z,hz,hz1⟩,hg,f,hf,hf1⟩:=h2 i hi
 have hc : ∀ j v,xs[j]? = some v → w.cell? ⟨g,j,none⟩ = some v:=fun j v hv => zhx h1 j v hv
 refine ⟨z,f,fun j => if hj : j < 8 then (hg j hj).choose else false,⟨hc _ _ hz,fun j hj => ?_,hc _ _ hf⟩,hz1,hf1⟩
 rw [dif_pos hj]
 exact hc _ _ (hg j hj).choose_spec
theorem zf3 {w : World} {q z f : Nat} {G : Nat → Bool} (h : w.heap[q]? = some (.cells #[.int .i64 (z : Int),.bool (G 0),.bool (G 1),.bool (G 2),.bool (G 3),.bool (G 4),.bool (G 5),.bool (G 6),.bool (G 7),.int .i64 (f : Int)] 113 (0,0))) : w.cell? ⟨q,0,none⟩ = some (.int .i64 (z : Int)) ∧ (∀ j,j < 8 → w.cell? ⟨q,1 + j,none⟩ = some (.bool (G j))) ∧ w.cell? ⟨q,9,none⟩ = some (.int .i64 (f : Int)):=by
 refine ⟨by rw [cell_of_row w q 0 _ _ _ h]; rfl,fun j hj => ?_,by rw [cell_of_row w q 9 _ _ _ h]; rfl⟩
 rw [cell_of_row w q (1 + j) _ _ _ h]
 have hj2 : j = 0 ∨ j = 1 ∨ j = 2 ∨ j = 3 ∨ j = 4 ∨ j = 5 ∨ j = 6 ∨ j = 7:=by omega
 rcases hj2 with rfl | rfl | rfl | rfl | rfl | rfl | rfl | rfl <;> rfl
theorem WrM.newNot2 {B : Nat} {w : World} {b px : Nat} {cv : Value} {code : List Int} {S : Wst} {k : Nat} {V : Nat → Value} (h : WrM B w b px cv code S k V) : ¬ Mine b px V w.heap.size:=fun hm => by
 rcases hm with e | e | e | e
 ·have:=h.blk.lt; omega
 ·have:=h.blk.di.lt; omega
 ·have:=(h.lines.lt _ e).2; omega
 ·have:=(h.counts.lt _ e).2; omega
theorem WrM.heldAt {B : Nat} {w : World} {b px : Nat} {cv : Value} {code : List Int} {S : Wst} {k : Nat} {V : Nat → Value} (h : WrM B w b px cv code S k V) : ∀ j,j < 8 → w.cell? ⟨b,3 + j,none⟩ = some (.bool (S.held j)):=fun j hj => by rw [← h.held j hj]; exact h.blk.cell (3 + j) (by omega)
theorem zo3 {B : Nat} {w w1 w' : World} {b px : Nat} {cv : Value} {code : List Int} {V V1 : Nat → Value} {S : Wst} (f : Fr b px w V w1 V1) (h : zcy B w1 b px cv code V1 S w') : zcy B w b px cv code V S w':=by
 obtain ⟨k',V',M,f'⟩:=h
 exact ⟨k',V',M,f.trans f'⟩
theorem ziR {i : Nat} {D : ByteArray} (h : Hid (D = ba (digL (i : Int)))) : ba (callL i).bytes = ba [9] ++ ((⟨#[99,97,108,108,32,102]⟩ : ByteArray) ++ D):=by
 rw [show D = _ from h,show digL (i : Int) = decL i by unfold digL; rw [if_neg (by omega)]; rfl]
 have e : (⟨#[99,97,108,108,32,102]⟩ : ByteArray) = ba [99,97,108,108,32,102]:=rfl
 rw [e]
 simp only [zcP]
 refine congrArg ba ?_
 simp [Ln.bytes,Ln.blank,zbG,callL,fnW]
theorem zh6 {b px q n : Nat} {V : Nat → Value} {v : Value} (h : ¬ Mine b px V q) (n1 : ¬ n = 1) (n11 : ¬ n = 11) : ¬ Mine b px (updV V n v) q:=fun hm => by
 unfold Mine at hm
 rw [zab _ _ (fun e => n1 e.symm),zab _ _ (fun e => n11 e.symm)] at hm
 exact h hm
theorem ze3 {c : Array UInt8} {D : ByteArray} (hc : c.size ≤ 10) (h2 : D.size ≤ 21) : ((⟨c⟩ : ByteArray) ++ D).size ≤ 1000:=by
 have e2 : (⟨c⟩ : ByteArray).size = c.size:=rfl
 simp only [ByteArray.size_append]
 omega
theorem ziS {B : Nat} {w : World} {b px : Nat} {cv : Value} {code : List Int} {S : Wst} {k : Nat} {V : Nat → Value} (M : WrM B w b px cv code S k V) (rf : Nat) (_hrf : rf < 8) (_hf : S.held rf = false) (hn : S.lines.length ≤ 10000) (hnk : S.nk ≤ 1000)
  (hpl : ∀ W k2 V2,WrM B W b px cv code S k2 V2 → Calls Tryz.prog 94 #[.pointer (some ⟨b,0,none⟩)] W fun e w' => e = .returned (.int .i64 1) ∧ ∃ l,Plain l ∧ zcy B W b px cv code V2 { S with lines:=S.lines ++ [l] } w') :
  Calls Tryz.prog 61 #[.pointer (some ⟨b,0,none⟩)] w fun e w' => (∃ n : Nat,e = .returned (.int .i64 (n : Int)) ∧ n ≤ S.nk * 2147483648 + 2) ∧ PcPost B w b px cv code V S 2 0 w':=by
 have c0:=M.cx
 have c23:=M.blk.cell 23 (by omega)
 obtain ⟨xs,hkn,hxs⟩:=M.known
 obtain ⟨ao,cap,hv⟩:=za9 hkn
 rw [hv] at c23
 have F:=Fr.refl b px w V
 by_cases h0 : S.nk = 0
 ·rw [h0] at c23
  have hp:=hpl w k V M
  go_enter Tryz.func61,Tryz.ntmps61
  go_wp2_with (first
   | (go_at_call 94; (with_reducible refine hp.mono ?_); rintro e w1 ⟨rfl,l,hl,h⟩))
  go_ret
  exact ⟨⟨1,rfl,by omega⟩,zot hl h⟩
 ·have hk1 : (0 : Int) < (S.nk : Int):=by omega
  have hk2 : (S.nk : Int) ≤ 1000:=by omega
  go_enter Tryz.func61,Tryz.ntmps61
  go_wp2_with (first
   | (go_at_call 41; (with_reducible refine (zao M 3 (by omega)).mono ?_); rintro e w1 ⟨t,rfl,ht,k1,V1,M1,f1⟩; have F1:=F.trans f1; refine Hid.out ?_))
  unfold Hid
  obtain ⟨xs1,hkn1,hxs1⟩:=M1.known
  obtain ⟨g,cap1,hv1,hgB,hgl⟩:=hkn1.form (by omega)
  have H1:=M1.two hv1
  obtain ⟨c1,d1⟩:=H1
  have H1:=M1.two hv1
  rcases Nat.eq_zero_or_pos t with rfl | htp
  focus
   go_wp2_with fail
   go_region_held3 (fun W => W.cell? ⟨b,0,none⟩ = some (.pointer (some ⟨px,0,none⟩)) ∧ W.cell? ⟨b,23,none⟩ = some (.slice (some ⟨g,0,none⟩) S.nk cap1))
    (first
      | exact H1
      | exact H2)
    (first
      | (go_at_call 41; (with_reducible refine (zdi M1.drew.blk.di (S.nk : Int) hk1).mono ?_); rintro e w2 ⟨i,rfl,hi,k2,D2,g2⟩; have M2:=M1.drew.threw D2 g2; have H2:=M2.two hv1; have hi0 : (0 : Int) ≤ (i : Int):=Int.natCast_nonneg _))
   have hiN : i < S.nk:=Int.ofNat_lt.1 hi
   have F2:=(F1.trans (Fr.low (Below.refl _ _).drew)).trans (Fr.grown g2)
   have d2:=H2.2
   refine Hid.out ?_
  rotate_left
  focus
   obtain ⟨w2,hw2⟩ : ∃ w2,w2 = w1:=⟨w1,rfl⟩
   subst hw2
   obtain ⟨i,hi⟩:=Int.eq_ofNat_of_zero_le (show (0 : Int) ≤ (S.nk : Int) - 1 by omega)
   rw [hi]
   have hiN : i < S.nk:=by omega
   have hi0 : (0 : Int) ≤ (i : Int):=by omega
   have M2:=M1
   have F2:=F1
   have d2:=H1.2
   have ht2 : ((t : Int) == 0) = false:=by simp; omega
   refine Hid.out ?_
  all_goals
   unfold Hid
   have hi1 : (i : Int) < (S.nk : Int):=by omega
   have hi64:=zkb i (n:=1000) (by omega) (by decide)
   have c2:=M2.cx
   obtain ⟨z,f,G,SL,hz,hf'⟩:=(hv1 ▸ M2.known : KnRow B w2 (.slice (some ⟨g,0,none⟩) S.nk cap1) S.nk).slot i hiN
   have s0:=SL.cz
   have s1:=SL.cg 0 (by omega)
   have s2:=SL.cg 1 (by omega)
   have s3:=SL.cg 2 (by omega)
   have s4:=SL.cg 3 (by omega)
   have s5:=SL.cg 4 (by omega)
   have s6:=SL.cg 5 (by omega)
   have s7:=SL.cg 6 (by omega)
   have s8:=SL.cg 7 (by omega)
   have s9:=SL.cf
   simp only [Nat.reduceAdd] at s1 s2 s3 s4 s5 s6 s7 s8
   have hz2 : z ≤ S.nk * 2147483648:=Nat.le_trans hz (Nat.mul_le_mul_right _ hiN)
   have hz3 : z ≤ 1000 * 2147483648:=Nat.le_trans hz2 (Nat.mul_le_mul_right _ hnk)
   go_wp2_with fail
   have MW:=M2.alloc (.cells #[.int .i64 (z : Int),.bool (G 0),.bool (G 1),.bool (G 2),.bool (G 3),.bool (G 4),.bool (G 5),.bool (G 6),.bool (G 7),.int .i64 (f : Int)] 113)
   have FW:=F2.trans (Fr.low ((Below.refl _ _).alloc (Nat.le_refl _) (.cells #[.int .i64 (z : Int),.bool (G 0),.bool (G 1),.bool (G 2),.bool (G 3),.bool (G 4),.bool (G 5),.bool (G 6),.bool (G 7),.int .i64 (f : Int)] 113)))
   have hbox : (w2.alloc (.cells #[.int .i64 (z : Int),.bool (G 0),.bool (G 1),.bool (G 2),.bool (G 3),.bool (G 4),.bool (G 5),.bool (G 6),.bool (G 7),.int .i64 (f : Int)] 113)).heap[w2.heap.size]? = some (.cells #[.int .i64 (z : Int),.bool (G 0),.bool (G 1),.bool (G 2),.bool (G 3),.bool (G 4),.bool (G 5),.bool (G 6),.bool (G 7),.int .i64 (f : Int)] 113 (0,0)):=heap_alloc_new _ _
   have hnot:=M2.newNot2
   have hfl : w2.heap.size < (w2.alloc (.cells #[.int .i64 (z : Int),.bool (G 0),.bool (G 1),.bool (G 2),.bool (G 3),.bool (G 4),.bool (G 5),.bool (G 6),.bool (G 7),.int .i64 (f : Int)] 113)).heap.size:=by simp
   clear s0 s1 s2 s3 s4 s5 s6 s7 s8 s9 SL c2 d2
   generalize w2.alloc (.cells #[.int .i64 (z : Int),.bool (G 0),.bool (G 1),.bool (G 2),.bool (G 3),.bool (G 4),.bool (G 5),.bool (G 6),.bool (G 7),.int .i64 (f : Int)] 113) = W at MW FW hbox hfl ⊢
   generalize w2.heap.size = q at hbox hnot hfl ⊢
   have hheld:=MW.heldAt
   obtain ⟨x0,xg,x9⟩:=zf3 hbox
   go_loopw [5] (fun t wr => ∃ r : Nat,r ≤ 8 ∧ t = .int .i64 (r : Int) ∧ wr = W) (fun t _ => 8 - (intOf t).toNat)
   case atStart => exact ⟨0,by omega,rfl,rfl⟩
   case round =>
    obtain ⟨r,hr,rfl,hwr⟩:=hrel
    subst hwr
    by_cases hlt : r < 8
    ·have cr:=hheld r hlt
     have gr:=xg r hlt
     have hr0 : (0 : Int) ≤ (r : Int):=by omega
     have hr8 : (r : Int) < 8:=by omega
     clear hheld xg
     cases hh : S.held r with
     | false =>
      rw [hh] at cr
      go_wp2
      go_roundw
      case rel => exact ⟨r + 1,by omega,by go_num,trivial⟩
      case measure => simp [intOf]; omega
     | true =>
      rw [hh] at cr
      cases hG : G r with
      | false =>
       rw [hG] at gr
       go_wp2
       go_roundw
       case rel => exact ⟨r + 1,by omega,by go_num,trivial⟩
       case measure => simp [intOf]; omega
      | true =>
       rw [hG] at gr
       go_wp2_with (first
        | (go_at_call 94; (with_reducible refine (hpl _ _ _ MW).mono ?_); rintro e w3 ⟨rfl,l,hl,hpo⟩))
       go_ret
       exact ⟨⟨1,rfl,by omega⟩,zot hl (zo3 FW hpo)⟩
    ·clear hheld
     go_wp2_with fail
     go_loopw [6] (fun t wr => ∃ r : Nat,r ≤ 8 ∧ t = .int .i64 (r : Int) ∧ ∃ k' V',WrM B wr b px cv code S k' V' ∧ Fr b px w V wr V' ∧ wr.heap[q]? = some (.cells #[.int .i64 (z : Int),.bool (G 0),.bool (G 1),.bool (G 2),.bool (G 3),.bool (G 4),.bool (G 5),.bool (G 6),.bool (G 7),.int .i64 (f : Int)] 113 (0,0)) ∧ ¬ Mine b px V' q ∧ q < wr.heap.size) (fun t _ => 8 - (intOf t).toNat)
     case atStart => exact ⟨0,by omega,rfl,_,_,MW,FW,hbox,hnot,hfl⟩
     case round =>
      clear x0 xg x9 hbox
      obtain ⟨r,hr,rfl,k3,V3,M3,F3,hq3,hn3,hl3⟩:=hrel
      obtain ⟨y0,yg,y9⟩:=zf3 hq3
      have hqb : ¬ q = b:=fun e => hn3 (.inl e)
      by_cases hlt : r < 8
      ·obtain ⟨gv,hgv⟩:=M3.gives r hlt
       have cr:=M3.blk.cell (12 + r) (by omega)
       rw [hgv] at cr
       have fr:=M3.blk.fz (12 + r)
       have gr:=yg r hlt
       have hr0 : (0 : Int) ≤ (r : Int):=by omega
       have hr8 : (r : Int) < 8:=by omega
       clear yg y0 y9
       generalize G r = Gr at gr
       cases gv with
       | true =>
        go_wp2_with fail
        refine zag 17 (by kernel_rfl) (by kernel_rfl) ?_
        simp only [List.take_succ_cons,List.take_zero,List.drop_succ_cons,List.drop_zero]
        repeat (go_big_quiet_step (fail))
        refine wpQuiet_nil ?_
        rintro _ ⟨nr,rfl⟩
        go_wp2
        go_roundw
        case rel => exact ⟨r + 1,by omega,by go_num,k3,_,zgs (M3.drewN nr) r hlt true,(F3.trans (Fr.low (zbf _ nr _))).trans ((M3.drewN nr).put_fr (12 + r) (.bool true) (by omega) (by omega)),(Below.heap_setCell _ _ _ _ hqb).trans hq3,(zh6 hn3 (by omega) (by omega)),by rw [World.size_setCell]; exact hl3⟩
        case measure => simp [intOf]; omega
       | false =>
        go_wp2_with fail
        refine zag 17 (by kernel_rfl) (by kernel_rfl) ?_
        simp only [List.take_succ_cons,List.take_zero,List.drop_succ_cons,List.drop_zero]
        repeat (go_big_quiet_step (fail))
        refine wpQuiet_nil ?_
        rintro _ ⟨nr,rfl⟩
        go_wp2
        go_roundw
        case rel => exact ⟨r + 1,by omega,by go_num,k3,_,zgs (M3.drewN nr) r hlt Gr,(F3.trans (Fr.low (zbf _ nr _))).trans ((M3.drewN nr).put_fr (12 + r) (.bool Gr) (by omega) (by omega)),(Below.heap_setCell _ _ _ _ hqb).trans hq3,(zh6 hn3 (by omega) (by omega)),by rw [World.size_setCell]; exact hl3⟩
        case measure => simp [intOf]; omega
      ·obtain ⟨fr,hfr,hfb⟩:=M3.v22
       have c22:=M3.blk.cell 22 (by omega)
       rw [hfr] at c22
       have z22:=M3.blk.fz 22
       clear yg y0
       have hd0 : decide ((fr : Int) < (f : Int) + 1) = decide (fr < f + 1):=by
        by_cases h : fr < f + 1
        ·rw [decide_eq_true h,decide_eq_true]; omega
        ·rw [decide_eq_false h,decide_eq_false]; omega
       have hf3 : f ≤ 1001:=by omega
       go_wp2_with fail
       go_quiet (fail)
       replace M3:=M3.drewN nq
       replace F3:=F3.trans (Fr.low (zbf _ nq _))
       have hq3 : (wr.drewN nq).heap[q]? = some (.cells #[.int .i64 (z : Int),.bool (G 0),.bool (G 1),.bool (G 2),.bool (G 3),.bool (G 4),.bool (G 5),.bool (G 6),.bool (G 7),.int .i64 (f : Int)] 113 (0,0)):=hq3
       have hl3 : q < (wr.drewN nq).heap.size:=hl3
       have c22 : (wr.drewN nq).cell? ⟨b,22,none⟩ = some (.int .i64 (fr : Int)):=c22
       have z22 : (wr.drewN nq).frozen? ⟨b,22,none⟩ = false:=z22
       have y9 : (wr.drewN nq).cell? ⟨q,9,none⟩ = some (.int .i64 (f : Int)):=y9
       generalize wr.drewN nq = wr at M3 F3 hq3 hl3 c22 z22 y9 ⊢
       by_cases hlt2 : fr < f + 1
       ·have M5:=zmj M3 (f + 1) (by omega)
        have F5:=F3.trans (M3.put_fr 22 (.int .i64 ((f + 1 : Nat) : Int)) (by omega) (by omega))
        have hq5 : (wr.setCell ⟨b,22,none⟩ (.int .i64 ((f + 1 : Nat) : Int))).heap[q]? = _:=(Below.heap_setCell _ _ _ _ hqb).trans hq3
        have hn5:=zh6 (v:=.int .i64 ((f + 1 : Nat) : Int)) (n:=22) hn3 (by omega) (by omega)
        have hl5 : q < (wr.setCell ⟨b,22,none⟩ (.int .i64 ((f + 1 : Nat) : Int))).heap.size:=by rw [World.size_setCell]; exact hl3
        rw [show ((f + 1 : Nat) : Int) = (f : Int) + 1 by omega] at M5 F5 hq5 hn5 hl5
        have hd : (fr : Int) < (f : Int) + 1:=by omega
        go_wp2_with fail
        have hq4:=hq5
        go_wp2_with (first
         | (go_at_call 36; (with_reducible refine (zdA (i : Int) hi64 _).mono ?_); rintro e w6 ⟨D,rfl,zD,hD,hbD⟩; have hz7:=zdB 6 zD (by decide); have M6:=M5.below hbD M5.base; have F6:=F5.trans (.low hbD); have hq6:=(hbD.block q hl5).trans hq4; have hl6:=Nat.lt_of_lt_of_le hl5 hbD.size)
         | (go_at_call 62; (with_reducible refine (zbg M6 (callL i) _ (ziR hD) (ze3 (by decide) zD) (by omega)).mono ?_); rintro e w7 ⟨rfl,k7,V7,M7,f7⟩; have hq7:=(f7.keep q hl6 hn5).trans hq6; have x7:=(zf3 hq7).1))
        go_ret
        exact ⟨⟨z + 2,by go_num,by omega⟩,[callL i],S.labels,.call _ hiN,by simp,Nat.le_refl _,k7,V7,M7,F6.trans f7⟩
       ·have M5:=M3
        have F5:=F3
        have hq5:=hq3
        have hn5:=hn3
        have hl5:=hl3
        have hd : ¬ (fr : Int) < (f : Int) + 1:=by omega
        have hq4:=hq5
        go_wp2_with (first
         | (go_at_call 36; (with_reducible refine (zdA (i : Int) hi64 _).mono ?_); rintro e w6 ⟨D,rfl,zD,hD,hbD⟩; have hz7:=zdB 6 zD (by decide); have M6:=M5.below hbD M5.base; have F6:=F5.trans (.low hbD); have hq6:=(hbD.block q hl5).trans hq4; have hl6:=Nat.lt_of_lt_of_le hl5 hbD.size)
         | (go_at_call 62; (with_reducible refine (zbg M6 (callL i) _ (ziR hD) (ze3 (by decide) zD) (by omega)).mono ?_); rintro e w7 ⟨rfl,k7,V7,M7,f7⟩; have hq7:=(f7.keep q hl6 hn5).trans hq6; have x7:=(zf3 hq7).1))
        go_ret
        exact ⟨⟨z + 2,by go_num,by omega⟩,[callL i],S.labels,.call _ hiN,by simp,Nat.le_refl _,k7,V7,M7,F6.trans f7⟩
end Go.Proofs.YtfpgjkbjbbgciaaGreatDoor
