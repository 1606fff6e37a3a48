import Derived.Test.YtfpgjkbjbbgciaaGreatDoorMf45
set_option maxRecDepth 100000
set_option maxHeartbeats 8000000
namespace Go.Proofs.YtfpgjkbjbbgciaaGreatDoor
open Go.RowKit Sp
attribute [local go_sem ↓] Go.wp_at_zero Go.wp_at_succ
def zoz (z : Int) (i : Nat) : Int:=if i = 0 then 0 else if i = 1 then 1 else if i = 2 then -1 else if i = 3 then 7 else if i = 4 then 4611686018427387904 else if i = 5 then 9223372036854775807 else if i = 6 then -9223372036854775808 else z
theorem zo0 {z : Int} (hz : i64 z) (i : Nat) : i64 (zoz z i):=by
 unfold zoz
 repeat' split
 all_goals first | exact hz | exact ⟨by omega,by omega⟩
theorem zmr {w2 w3 : World} {z : Int} {i px : Nat} (hi : (i : Int) < 8) (hpx : px < w2.heap.size) (g3 : (w2.alloc (.cells #[.int .i64 0,.int .i64 1,.int .i64 (-1),.int .i64 7,.int .i64 4611686018427387904,.int .i64 9223372036854775807,.int .i64 (-9223372036854775808),.int .i64 z] 2)).grownBy w3 (some px)) : w3.cell? ⟨w2.heap.size,i,none⟩ = some (.int .i64 (zoz z i)):=by
 have e:=g3.block w2.heap.size (by simp) (fun e => by have:=Option.some.inj e; omega)
 rw [World.cell?_of_block (a:=⟨w2.heap.size,i,none⟩) e,World.cell?_alloc_new]
 have hi2 : i = 0 ∨ i = 1 ∨ i = 2 ∨ i = 3 ∨ i = 4 ∨ i = 5 ∨ i = 6 ∨ i = 7:=by omega
 rcases hi2 with rfl | rfl | rfl | rfl | rfl | rfl | rfl | rfl <;> rfl
theorem zo1 (w3 : World) {z : Int} {i : Nat} (hi : (i : Int) < 8) : (w3.alloc (.cells #[.int .i64 0,.int .i64 1,.int .i64 (-1),.int .i64 7,.int .i64 4611686018427387904,.int .i64 9223372036854775807,.int .i64 (-9223372036854775808),.int .i64 z] 2)).cell? ⟨w3.heap.size,i,none⟩ = some (.int .i64 (zoz z i)):=by
 rw [World.cell?_alloc_new]
 have hi2 : i = 0 ∨ i = 1 ∨ i = 2 ∨ i = 3 ∨ i = 4 ∨ i = 5 ∨ i = 6 ∨ i = 7:=by omega
 rcases hi2 with rfl | rfl | rfl | rfl | rfl | rfl | rfl | rfl <;> rfl
def PCut (R : Act → World → Prop) : Exit → Act → World → Prop
 | .normal,a,w => R a w
 | _,_,_ => False
theorem zqz {P : Program} {c : Code} {Q : Exit → Act → World → Prop} {a : Act} {w : World} (R : Act → World → Prop) (h : ∀ a w,R a w → Q .normal a w) (hw : c.wp P (PCut R) a w) : c.wp P Q a w :=
 Code.wp_mono (fun e a w hq => by cases e <;> first | exact h _ _ hq | exact (show False from hq).elim) hw
def aluB (i : Nat) : ByteArray:=ba (aluW i ++ [32])
abbrev aluO : Obj:=.cells #[.string ⟨#[97,100,100,32]⟩,.string ⟨#[115,117,98,32]⟩,.string ⟨#[109,117,108,32]⟩] 9
theorem zbO {w : World} {q i : Nat} (h : w.heap[q]? = some aluO) (hi : (i : Int) < 3) : w.cell? ⟨q,i,none⟩ = some (.string (aluB i)):=by
 have hi2 : i = 0 ∨ i = 1 ∨ i = 2:=by omega
 rw [cell_of_row w q i _ _ _ h]
 rcases hi2 with rfl | rfl | rfl <;> rfl
theorem zgw (i : Nat) : (aluB i).size = 4:=by
 unfold aluB aluW
 split
 ·rfl
 ·split <;> rfl
theorem zlb (i : Nat) {r c d : Nat} {A1 A2 A3 : ByteArray} (h1 : Hid (A1 = ba (regW r))) (h2 : Hid (A2 = ba (regW c))) (h3 : Hid (A3 = ba (regW d))) : ba (aluL i r c d).bytes = ba [9] ++ (aluB i ++ A1 ++ ⟨#[32]⟩ ++ A2 ++ ⟨#[32]⟩ ++ A3):=by
 rw [show A1 = _ from h1,show A2 = _ from h2,show A3 = _ from h3]
 exact ln3 _ _ _ _
theorem ziP (i : Nat) {A1 A2 A3 : ByteArray} (h1 : A1.size = 2) (h2 : A2.size = 2) (h3 : A3.size = 2) : (aluB i ++ A1 ++ (⟨#[32]⟩ : ByteArray) ++ A2 ++ (⟨#[32]⟩ : ByteArray) ++ A3).size ≤ 1000:=by
 have:=zgw i
 have e : (⟨#[32]⟩ : ByteArray).size = 1:=rfl
 simp only [ByteArray.size_append]
 omega
theorem zcq (w : World) {i : Nat} (hi : (i : Int) < 3) : (w.alloc (.cells #[.string ⟨#[97,100,100,32]⟩,.string ⟨#[115,117,98,32]⟩,.string ⟨#[109,117,108,32]⟩] 9)).cell? ⟨w.heap.size,i,none⟩ = some (.string (aluB i)):=zbO (heap_alloc_new w _) hi
theorem ziQ {w w' : World} {r : Option Nat} (h : w.drew.grownBy w' r) : w.grownBy w' r:=⟨h.os,h.tape,h.output,h.size,h.block⟩
theorem zc2 (w : World) {x : Obj} : w.heap.size < (w.alloc x).heap.size:=by simp
theorem zqi {w w' : World} {x : Obj} {r : Option Nat} (g : (w.alloc x).grownBy w' r) : w.heap.size + 1 ≤ w'.heap.size:=by
 have:=g.size
 simpa using this
theorem zo2 {w w' : World} {x : Obj} {px : Nat} (g : (w.alloc x).grownBy w' (some px)) (h : px < w.heap.size) : w'.heap[w.heap.size]? = some x :=
 (g.block _ (zc2 w) (fun e => by have:=Option.some.inj e; omega)).trans (heap_alloc_new w x)
theorem WrM.newNot {B : Nat} {w : World} {b px : Nat} {cv : Value} {code : List Int} {S : Wst} {k : Nat} {V : Nat → Value} (h : WrM B w b px cv code S k V) : ¬ Mine b px V w.heap.size:=fun hm => by
 rcases hm with e | e | e | e
 ·have:=h.blk.lt; omega
 ·have:=h.blk.di.lt; omega
 ·have:=(h.lines.lt _ e).2; omega
 ·have:=(h.counts.lt _ e).2; omega
theorem zh5 {B : Nat} {w : World} {b px : Nat} {cv : Value} {code : List Int} {S : Wst} {k : Nat} {V : Nat → Value} (M : WrM B w b px cv code S k V) (rf : Nat) (hrf : rf < 8) (hf : S.held rf = false) (hn : S.lines.length ≤ 10000) :
  Calls Tryz.prog 94 #[.pointer (some ⟨b,0,none⟩)] w fun e w' => e = .returned (.int .i64 1) ∧ ∃ l,Plain l ∧ zcy B w b px cv code V { S with lines:=S.lines ++ [l] } w':=by
 have c0:=M.cx
 obtain ⟨V0,hV0⟩ : ∃ V0,V0 = V:=⟨V,rfl⟩
 have F : Fr b px w V0 w V:=by rw [hV0]; exact Fr.refl b px w V
 go_enter Tryz.func94,Tryz.ntmps94
 go_wp2_with (first
  | (go_at_call 41; (with_reducible refine (zao M 8 (by omega)).mono ?_); rintro e w1 ⟨c,rfl,hc,k,V,M,hb1⟩; have F:=F.trans hb1; have c0:=M.cx))
 have H1:=c0
 rename_i c1 hc1 _ _ _ _ _ _ _ _
 refine zqz (fun a' W => ∃ (K : Int) (u1 u2 u3 u4 u5 : Value) (k' : Nat) (V' : Nat → Value),a' = ⟨#[.pointer (some ⟨b,0,none⟩),undef,.int .i64 0,.int .i64 (c1 : Int),.int .i64 (c : Int),.int .i64 K,.pointer (some ⟨b,0,none⟩),.pointer (some ⟨b,0,none⟩),.pointer (some ⟨b,0,none⟩),.pointer (some ⟨px,0,none⟩),.int .i64 (c1 : Int),.pointer (some ⟨b,0,none⟩),.pointer (some ⟨b,0,none⟩),.pointer (some ⟨b,0,none⟩),.pointer (some ⟨px,0,none⟩),.int .i64 (c : Int),.pointer (some ⟨b,0,none⟩),.pointer (some ⟨b,0,none⟩),.pointer (some ⟨b,0,none⟩),.pointer (some ⟨px,0,none⟩),u1,u2,.pointer (some ⟨b,0,none⟩),.pointer (some ⟨b,0,none⟩),.pointer (some ⟨b,0,none⟩),.pointer (some ⟨px,0,none⟩),u3,u4,u5,undef,undef,undef,undef,undef,undef,undef,undef,undef,undef,undef,undef,undef,undef,undef,undef,undef,undef,undef,undef,undef,undef,undef,undef,undef,undef,undef,undef,undef,undef,undef,undef,undef,undef,undef,undef,undef,undef,undef,undef,undef,undef,undef,undef,undef,undef,undef,undef,undef,undef,undef,undef,undef,undef,undef,undef,undef,undef,undef,undef,undef,undef,undef,undef,undef,undef,undef,undef,undef,undef,undef,undef,undef,undef,undef,undef,undef,undef],[]⟩ ∧ i64 K ∧ WrM B W b px cv code S k' V' ∧ Fr b px w V0 W V') ?_ ?_
 ·subst hV0
  rintro a' W ⟨K,u1,u2,u3,u4,u5,k3,V3,rfl,hK,M3,F3⟩
  have c3:=M3.cx
  go_wp2_with (first
   | (go_at_call 41; (with_reducible refine (zao M3 7 (by omega)).mono ?_); rintro e w4 ⟨s,rfl,hs,k4,V4,M4,f4⟩; have F4:=F3.trans f4; refine Hid.out ?_))
  unfold Hid
  have hc1 : c1 < 8:=by omega
  have hc2 : c < 8:=by omega
  have hs7 : s = 0 ∨ s = 1 ∨ s = 2 ∨ s = 3 ∨ s = 4 ∨ s = 5 ∨ s = 6:=by omega
  clear H1 c0 F3 f4 c3
  rcases hs7 with rfl | rfl | rfl | rfl | rfl | rfl | rfl
  ·skip
   go_wp2_with (first
    | (go_at_call 118; (with_reducible refine (zbz M4 rf hrf hf).mono ?_); rintro e w5 ⟨r,rfl,hr,hh,k5,V5,M5,f5⟩; have F5:=F4.trans f5)
    | (go_at_call 38; (with_reducible refine (zaM r hr _).mono ?_); rintro e w6 ⟨A,rfl,zA,hA,hbA⟩; have M6:=M5.below hbA M5.base; have F6:=F5.trans (.low hbA))
    | (go_at_call 36; (with_reducible refine (zdA K hK _).mono ?_); rintro e w7 ⟨D,rfl,zD,hD,hbD⟩; have M7:=M6.below hbD M6.base; have F7:=F6.trans (.low hbD))
    | (go_at_call 62; refine Hid.out ?_))
   unfold Hid
   refine (zbg M7 (setL r K) _ (by rw [Hid.out2 hA,Hid.out2 hD]; exact ln2 _ _ _) (by simp only [ByteArray.size_append]; show 4 + A.size + 1 + D.size ≤ 1000; omega) (by omega)).mono ?_
   rintro e w8 ⟨rfl,k8,V8,M8,f8⟩
   dsimp only
   go_wp2
   go_ret
   exact ⟨rfl,_,zdj hr hK,k8,V8,M8,F7.trans f8⟩
  ·skip
   go_wp2_with (first
    | (go_at_call 118; (with_reducible refine (zbz M4 rf hrf hf).mono ?_); rintro e w5 ⟨r,rfl,hr,hh,k5,V5,M5,f5⟩; have F5:=F4.trans f5)
    | (go_at_call 38; first
        | ((with_reducible refine (zaM r hr _).mono ?_); rintro e w6 ⟨A,rfl,zA,hA,hbA⟩; have M6:=M5.below hbA M5.base; have F6:=F5.trans (.low hbA))
        | ((with_reducible refine (zaM c1 hc1 _).mono ?_); rintro e w7 ⟨D,rfl,zD,hD,hbD⟩; have M7:=M6.below hbD M6.base; have F7:=F6.trans (.low hbD)))
    | (go_at_call 62; refine Hid.out ?_))
   unfold Hid
   refine (zbg M7 (movL r c1) _ (by rw [Hid.out2 hA,Hid.out2 hD]; exact ln2 _ _ _) (by simp only [ByteArray.size_append]; show 4 + A.size + 1 + D.size ≤ 1000; omega) (by omega)).mono ?_
   rintro e w8 ⟨rfl,k8,V8,M8,f8⟩
   dsimp only
   go_wp2
   go_ret
   exact ⟨rfl,_,zor hr hc1,k8,V8,M8,F7.trans f8⟩
  ·have c4:=M4.cx
   have lb:=M4.blk.lt
   have H0 : w4.drew.cell? ⟨b,0,none⟩ = some (.pointer (some ⟨px,0,none⟩)):=c4
   have M:=M4.drew
   have F5:=F4.trans (Fr.low (Below.refl _ _).drew)
   go_wp2_with fail
   refine zqz (fun a' W => ∃ (l : Ln) (x65 x66 x67 x68 x69 x70 x71 x72 x73 x74 x75 x76 x77 x78 x79 x80 x81 x82 x83 x84 x85 x86 : Value) (k' : Nat) (V' : Nat → Value),a' = ⟨#[.pointer (some ⟨b,0,none⟩),undef,.int .i64 0,.int .i64 (c1 : Int),.int .i64 (c : Int),.int .i64 K,.pointer (some ⟨b,0,none⟩),.pointer (some ⟨b,0,none⟩),.pointer (some ⟨b,0,none⟩),.pointer (some ⟨px,0,none⟩),.int .i64 (c1 : Int),.pointer (some ⟨b,0,none⟩),.pointer (some ⟨b,0,none⟩),.pointer (some ⟨b,0,none⟩),.pointer (some ⟨px,0,none⟩),.int .i64 (c : Int),.pointer (some ⟨b,0,none⟩),.pointer (some ⟨b,0,none⟩),.pointer (some ⟨b,0,none⟩),.pointer (some ⟨px,0,none⟩),u1,u2,.pointer (some ⟨b,0,none⟩),.pointer (some ⟨b,0,none⟩),.pointer (some ⟨b,0,none⟩),.pointer (some ⟨px,0,none⟩),u3,u4,u5,.pointer (some ⟨b,0,none⟩),.pointer (some ⟨b,0,none⟩),.pointer (some ⟨b,0,none⟩),.pointer (some ⟨px,0,none⟩),.int .i64 ((2 : Nat) : Int),undef,undef,undef,undef,undef,.bool false,.bool false,undef,undef,undef,undef,undef,undef,undef,undef,undef,undef,.bool false,.bool false,undef,undef,undef,undef,undef,undef,undef,undef,undef,undef,.bool true,.bool true,x65,x66,x67,x68,x69,x70,x71,x72,x73,x74,x75,x76,x77,x78,x79,x80,x81,x82,x83,x84,x85,x86,undef,undef,undef,undef,undef,undef,undef,undef,undef,undef,undef,undef,undef,undef,undef,undef,undef,undef,undef,undef],[]⟩ ∧ Plain l ∧ WrM B W b px cv code { S with lines:=S.lines ++ [l] } k' V' ∧ Fr b px w V0 W V') ?_ ?_
   ·rintro a' W ⟨l,x65,x66,x67,x68,x69,x70,x71,x72,x73,x74,x75,x76,x77,x78,x79,x80,x81,x82,x83,x84,x85,x86,k8,V8,rfl,hP,M8,F8⟩
    go_wp2
    go_ret
    exact ⟨rfl,l,hP,k8,V8,M8,F8⟩
   ·go_region_with (first
     | (go_at_call 41; first
         | ((with_reducible refine (zdi M.blk.di 3 (by omega)).mono ?_); rintro e w5 ⟨i,rfl,hi,k5,D5,g5⟩; have F5:=F5.trans (Fr.grown g5); have M:=M.threw D5 g5; have lb:=M.blk.lt; have hi0 : (0 : Int) ≤ (i : Int):=Int.natCast_nonneg _; have hnew:=zcq w5 hi; have hab:=zgw i)
         | ((with_reducible refine (zdi (M4.alloc _).drew.blk.di 3 (by omega)).mono ?_); rintro e w5 ⟨i,rfl,hi,k5,D5,g5⟩; have g5:=ziQ g5; have hq:=zo2 g5 M4.blk.di.lt; have hql:=Nat.lt_of_lt_of_le (Nat.lt_succ_self _) (zqi g5); have F5:=(F4.trans (Fr.low ((Below.refl _ _).alloc (Nat.le_refl _) _))).trans (Fr.grown g5); have hm:=M4.newNot; have M:=(M4.alloc _).threw D5 g5; have lb:=M.blk.lt; have hi0 : (0 : Int) ≤ (i : Int):=Int.natCast_nonneg _; have hel:=zbO hq hi; have hab:=zgw i))
     | (go_at_call 118; first
         | ((with_reducible refine (zbz M rf hrf hf).mono ?_); rintro e w6 ⟨r,rfl,hr,hh,k6,V6,M6,f6⟩; (try have hq:=(f6.keep _ hql hm).trans hq); (try have hm:=fun e => hm (f6.mine _ hql e)); (try have hql:=Nat.lt_of_lt_of_le hql f6.size); have F5:=F5.trans f6; have M:=M6; have lb:=M6.blk.lt; (try have hel:=zbO hq hi); have hnew:=zcq w6 hi)
         | ((with_reducible refine (zbz (M.alloc _) rf hrf hf).mono ?_); rintro e w6 ⟨r,rfl,hr,hh,k6,V6,M6,f6⟩; have hq:=(f6.keep _ (zc2 _) M.newNot).trans (heap_alloc_new _ _); have hm:=fun e => M.newNot (f6.mine _ (zc2 _) e); have hql:=Nat.lt_of_lt_of_le (zc2 _) f6.size; have F5:=(F5.trans (Fr.low ((Below.refl _ _).alloc (Nat.le_refl _) _))).trans f6; have M:=M6; have lb:=M6.blk.lt; have hel:=zbO hq hi))
     | (go_at_call 38; first
         | ((with_reducible refine (zaM r hr _).mono ?_); rintro e w7 ⟨A1,rfl,zA1,hA1,hbA⟩; first
             | (have M7:=M.below hbA M.base; (try have hq:=(hbA.block _ hql).trans hq); (try have hql:=Nat.lt_of_lt_of_le hql hbA.size); have F5:=F5.trans (.low hbA); have M:=M7; have lb:=M7.blk.lt; (try have hel:=zbO hq hi); have hnew:=zcq w7 hi)
             | (have M7:=(M.alloc _).below hbA (M.alloc _).base; have hq:=(hbA.block _ (zc2 _)).trans (heap_alloc_new _ _); have hm:=M.newNot; have hql:=Nat.lt_of_lt_of_le (zc2 _) hbA.size; have F5:=(F5.trans (Fr.low ((Below.refl _ _).alloc (Nat.le_refl _) _))).trans (.low hbA); have M:=M7; have lb:=M7.blk.lt; have hel:=zbO hq hi))
         | ((with_reducible refine (zaM c1 hc1 _).mono ?_); rintro e w7 ⟨A2,rfl,zA2,hA2,hbA⟩; first
             | (have M7:=M.below hbA M.base; (try have hq:=(hbA.block _ hql).trans hq); (try have hql:=Nat.lt_of_lt_of_le hql hbA.size); have F5:=F5.trans (.low hbA); have M:=M7; have lb:=M7.blk.lt; (try have hel:=zbO hq hi); have hnew:=zcq w7 hi)
             | (have M7:=(M.alloc _).below hbA (M.alloc _).base; have hq:=(hbA.block _ (zc2 _)).trans (heap_alloc_new _ _); have hm:=M.newNot; have hql:=Nat.lt_of_lt_of_le (zc2 _) hbA.size; have F5:=(F5.trans (Fr.low ((Below.refl _ _).alloc (Nat.le_refl _) _))).trans (.low hbA); have M:=M7; have lb:=M7.blk.lt; have hel:=zbO hq hi))
         | ((with_reducible refine (zaM c hc2 _).mono ?_); rintro e w7 ⟨A3,rfl,zA3,hA3,hbA⟩; first
             | (have M7:=M.below hbA M.base; (try have hq:=(hbA.block _ hql).trans hq); (try have hql:=Nat.lt_of_lt_of_le hql hbA.size); have F5:=F5.trans (.low hbA); have M:=M7; have lb:=M7.blk.lt; (try have hel:=zbO hq hi); have hnew:=zcq w7 hi)
             | (have M7:=(M.alloc _).below hbA (M.alloc _).base; have hq:=(hbA.block _ (zc2 _)).trans (heap_alloc_new _ _); have hm:=M.newNot; have hql:=Nat.lt_of_lt_of_le (zc2 _) hbA.size; have F5:=(F5.trans (Fr.low ((Below.refl _ _).alloc (Nat.le_refl _) _))).trans (.low hbA); have M:=M7; have lb:=M7.blk.lt; have hel:=zbO hq hi)))
     | (go_at_call 62; first
         | ((with_reducible refine (zbg M (aluL i r c1 c) _ (zlb i hA1 hA2 hA3) (ziP i zA1 zA2 zA3) (by omega)).mono ?_); rintro e w8 ⟨rfl,k8,V8,M8,f8⟩; have F8:=F5.trans f8)
         | ((with_reducible refine (zbg (M.alloc _) (aluL i r c1 c) _ (zlb i hA1 hA2 hA3) (ziP i zA1 zA2 zA3) (by omega)).mono ?_); rintro e w8 ⟨rfl,k8,V8,M8,f8⟩; have F8:=(F5.trans (Fr.low ((Below.refl _ _).alloc (Nat.le_refl _) _))).trans f8)))
    all_goals exact ⟨aluL i r c1 c,_,_,_,_,_,_,_,_,_,_,_,_,_,_,_,_,_,_,_,_,_,_,k8,V8,rfl,zos i hr hc1 hc2,M8,F8⟩
  ·skip
   go_wp2_with (first
    | (go_at_call 118; (with_reducible refine (zbz M4 rf hrf hf).mono ?_); rintro e w5 ⟨r,rfl,hr,hh,k5,V5,M5,f5⟩; have F5:=F4.trans f5)
    | (go_at_call 38; (with_reducible refine (zaM r hr _).mono ?_); rintro e w6 ⟨A,rfl,zA,hA,hbA⟩; have M6:=M5.below hbA M5.base; have F6:=F5.trans (.low hbA))
    | (go_at_call 36; (with_reducible refine (zdA K hK _).mono ?_); rintro e w7 ⟨D,rfl,zD,hD,hbD⟩; have M7:=M6.below hbD M6.base; have F7:=F6.trans (.low hbD))
    | (go_at_call 62; refine Hid.out ?_))
   unfold Hid
   refine (zbg M7 (incL r K) _ (by rw [Hid.out2 hA,Hid.out2 hD]; exact ln2 _ _ _) (by simp only [ByteArray.size_append]; show 4 + A.size + 1 + D.size ≤ 1000; omega) (by omega)).mono ?_
   rintro e w8 ⟨rfl,k8,V8,M8,f8⟩
   dsimp only
   go_wp2
   go_ret
   exact ⟨rfl,_,ziK hr hK,k8,V8,M8,F7.trans f8⟩
  ·skip
   go_wp2_with (first
    | (go_at_call 118; (with_reducible refine (zbz M4 rf hrf hf).mono ?_); rintro e w5 ⟨r,rfl,hr,hh,k5,V5,M5,f5⟩; have F5:=F4.trans f5)
    | (go_at_call 38; (with_reducible refine (zaM r hr _).mono ?_); rintro e w6 ⟨A,rfl,zA,hA,hbA⟩; have M6:=M5.below hbA M5.base; have F6:=F5.trans (.low hbA))
    | (go_at_call 62; refine Hid.out ?_))
   unfold Hid
   refine (zbg M6 (zsa r) _ (by rw [Hid.out2 hA]; exact ln1 _ _) (by simp only [ByteArray.size_append]; show 5 + A.size ≤ 1000; omega) (by omega)).mono ?_
   rintro e w8 ⟨rfl,k8,V8,M8,f8⟩
   dsimp only
   go_wp2
   go_ret
   exact ⟨rfl,_,zmk hr,k8,V8,M8,F6.trans f8⟩
  ·skip
   go_wp2_with (first
    | (go_at_call 38; (with_reducible refine (zaM c1 hc1 _).mono ?_); rintro e w6 ⟨A,rfl,zA,hA,hbA⟩; have M6:=M4.below hbA M4.base; have F6:=F4.trans (.low hbA))
    | (go_at_call 62; refine Hid.out ?_))
   unfold Hid
   refine (zbg M6 (zoq c1) _ (by rw [Hid.out2 hA]; exact ln1 _ _) (by simp only [ByteArray.size_append]; show 6 + A.size ≤ 1000; omega) (by omega)).mono ?_
   rintro e w8 ⟨rfl,k8,V8,M8,f8⟩
   dsimp only
   go_wp2
   go_ret
   exact ⟨rfl,_,zgu hc1,k8,V8,M8,F6.trans f8⟩
  ·skip
   go_wp2_with (first
    | (go_at_call 38; (with_reducible refine (zaM c1 hc1 _).mono ?_); rintro e w6 ⟨A,rfl,zA,hA,hbA⟩; have M6:=M4.below hbA M4.base; have F6:=F4.trans (.low hbA))
    | (go_at_call 62; refine Hid.out ?_))
   unfold Hid
   refine (zbg M6 (zoq c1) _ (by rw [Hid.out2 hA]; exact ln1 _ _) (by simp only [ByteArray.size_append]; show 6 + A.size ≤ 1000; omega) (by omega)).mono ?_
   rintro e w8 ⟨rfl,k8,V8,M8,f8⟩
   dsimp only
   go_wp2
   go_ret
   exact ⟨rfl,_,zgu hc1,k8,V8,M8,F6.trans f8⟩
 ·have H0 : w1.drew.cell? ⟨b,0,none⟩ = some (.pointer (some ⟨px,0,none⟩)):=H1
  go_region_with (first
   | (go_at_call 121; (with_reducible refine (zqx M.drew.blk.di).mono ?_); rintro e w2 ⟨z,rfl,hz,k2,D2,g2⟩; have M2:=M.drew.threw D2 g2; have H2:=M2.cx; have lb2:=M2.blk.lt; have F2:=(F.trans (Fr.low (Below.refl _ _).drew)).trans (Fr.grown g2))
   | (go_at_call 41; first
       | ((with_reducible refine (zdi (M2.alloc _).blk.di 8 (by omega)).mono ?_); rintro e w3 ⟨i,rfl,hi,k3,D3,g3⟩; have M3:=(M2.alloc _).threw D3 g3; have hel:=zmr (z:=z) hi M2.blk.di.lt g3; have hi0 : (0 : Int) ≤ (i : Int):=Int.natCast_nonneg _; have F3:=(F2.trans (Fr.low ((Below.refl _ _).alloc (Nat.le_refl _) _))).trans (Fr.grown g3))
       | ((with_reducible refine (zdi M2.blk.di 8 (by omega)).mono ?_); rintro e w3 ⟨i,rfl,hi,k3,D3,g3⟩; have M3:=(M2.threw D3 g3); have hel:=zo1 (z:=z) w3 hi; have hi0 : (0 : Int) ≤ (i : Int):=Int.natCast_nonneg _; have F3:=F2.trans (Fr.grown g3))))
  all_goals refine ⟨zoz z i,_,_,_,_,_,k3,V,rfl,zo0 hz i,?_,?_⟩
  all_goals first
   | exact M3
   | exact M3.alloc _
   | exact F3
   | exact F3.trans (Fr.low ((Below.refl _ _).alloc (Nat.le_refl _) _))
end Go.Proofs.YtfpgjkbjbbgciaaGreatDoor
