import Derived.Test.YtfpgjkbjbbgciaaGreatDoorMf45
set_option maxRecDepth 100000
set_option maxHeartbeats 8000000
namespace Go.Proofs.YtfpgjkbjbbgciaaGreatDoor
open Go.RowKit Sp
def zfq (s : ByteArray) (i : Nat) : Nat:=(s.data.toList.take i).count 10
theorem zqb (s : ByteArray) (i : Nat) : zfq s i ≤ i:=by
 unfold zfq
 refine Nat.le_trans List.count_le_length ?_
 rw [List.length_take]
 omega
theorem zmg {s : ByteArray} {i : Nat} (h : i < s.size) : zfq s (i + 1) = zfq s i + if s[i].toNat = 10 then 1 else 0:=by
 unfold zfq
 have hl : i < s.data.toList.length:=h
 rw [List.take_add_one,List.count_append,List.getElem?_eq_getElem hl]
 have e : s.data.toList[i] = s[i]:=rfl
 rw [e]
 refine congrArg _ ?_
 show List.count 10 [s[i]] = _
 rw [List.count_singleton]
 by_cases hh : s[i] = 10
 ·rw [hh]; rfl
 ·have : ¬ s[i].toNat = 10:=fun x => hh (UInt8.toNat_inj.1 x)
  rw [if_neg this,if_neg (by simpa using hh)]
theorem zod (s : ByteArray) : (lines s).length = zfq s s.size + 1:=by
 rw [(zcB s).1]
 unfold Lib.countByte zfq
 rw [List.take_of_length_le (Nat.le_of_eq (show s.data.toList.length = s.size from rfl))]
def zrk (s : ByteArray) : Bool:=decide (¬ (4000 < s.size ∨ 300 < (lines s).length))
theorem zqc (s : ByteArray) (w : World) (hs : s.size ≤ 4611686018427387904) :
  Calls Tryz.prog 33 #[.string s] w fun e w' => e = .returned (.bool (zrk s)) ∧ w' = w:=by
 unfold zrk
 rw [zod]
 go_enter Tryz.func33,Tryz.ntmps33
 go_wp2
 go_loopw [3,4] (fun tl ti wr => ∃ i : Nat,i ≤ s.size ∧ tl = .int .i64 (1 + (zfq s i : Int)) ∧ ti = .int .i64 (i : Int) ∧ wr = w) (fun _ ti _ => s.size - (intOf ti).toNat)
 case atStart => exact ⟨0,by omega,rfl,rfl,rfl⟩
 case round =>
  obtain ⟨i,hi,rfl,rfl,rfl⟩:=hrel
  have hc:=zqb s i
  by_cases hlt : i < s.size
  ·have hx:=zmg hlt
   have HX : Hid (zfq s (i + 1) = zfq s i + if s[i].toNat = 10 then 1 else 0):=hx
   clear hx
   have hc0 : 0 ≤ (s[i].toNat : Int):=by omega
   have hc1 : (s[i].toNat : Int) ≤ 255:=by have:=s[i].toNat_lt; omega
   have hi1 : (i : Int) < (s.size : Int):=by omega
   generalize zfq s i = c at hc HX ⊢
   by_cases h10 : ((s[i].toNat : Int) == 10) = true
   ·go_wp2
    go_roundw
    case rel => exact ⟨i + 1,by omega,by rw [HX.out,if_pos (by simp at h10; omega)]; go_num,by go_num,trivial⟩
    case measure => simp [intOf]; omega
   ·have h10' : ((s[i].toNat : Int) == 10) = false:=by simpa using h10
    go_wp2
    go_roundw
    case rel => exact ⟨i + 1,by omega,by rw [HX.out,if_neg (by simp at h10'; omega)]; rfl,by go_num,trivial⟩
    case measure => simp [intOf]; omega
  ·obtain rfl : i = s.size:=by omega
   generalize hcc : zfq s s.size = c at hc ⊢
   have hi1 : ¬ (s.size : Int) < (s.size : Int):=by omega
   by_cases h1 : s.size ≤ 4000
   ·by_cases h2 : 1 + (c : Int) ≤ 300
    ·go_wp2
     go_ret
     exact ⟨by show Ending.returned (.bool true) = Ending.returned (.bool (decide _)); rw [decide_eq_true (by omega)],rfl⟩
    ·go_wp2
     go_ret
     first
      | exact ⟨rfl,rfl⟩
      | exact ⟨by show Ending.returned (.bool false) = Ending.returned (.bool (decide _)); rw [decide_eq_false (by omega)],rfl⟩
   ·go_wp2
    go_ret
    first
      | exact ⟨rfl,rfl⟩
      | exact ⟨by show Ending.returned (.bool false) = Ending.returned (.bool (decide _)); rw [decide_eq_false (by omega)],rfl⟩
end Go.Proofs.YtfpgjkbjbbgciaaGreatDoor
namespace Go.Proofs.YtfpgjkbjbbgciaaGreatDoor
open Go.RowKit Sp
attribute [local go_sem ↓] Go.wp_at_zero Go.wp_at_succ
def wrL (px : Nat) (most : Int) (kv : Value) : List Value:=[.pointer (some ⟨px,0,none⟩),.slice none 0 0,.int .i64 0,.bool false,.bool false,.bool false,.bool false,.bool false,.bool false,.bool false,.bool false,.slice none 0 0,.bool false,.bool false,.bool false,.bool false,.bool false,.bool false,.bool false,.bool false,.int .i64 0,.int .i64 most,.int .i64 1,kv]
def wrV (px : Nat) (most : Int) (kv : Value) : Nat → Value:=fun j => ((wrL px most kv)[j]?).getD kv
theorem zqy {w : World} {q : Nat} {c : Array Value} {t : TypeId} (h : w.heap[q]? = some (.cells c t (0,0))) (j : Nat) : w.frozen? ⟨q,j,none⟩ = false:=by
 exact frozen_of_row w q j c t h
theorem DiM.new {w : World} {cv : Value} {code : List Int} (hc : SlB w w.heap.size cv code) (hl : code.length ≤ 9223372036854775807) (hn : ∀ x ∈ code,i64 x) : DiM w.heap.size (w.alloc (.cells #[cv,.int .i64 0] 76)) w.heap.size cv code 0:=by
 have hb : Below w.heap.size w (w.alloc (.cells #[cv,.int .i64 0] 76)):=(Below.refl _ _).alloc (Nat.le_refl _) _
 have hh : (w.alloc (.cells #[cv,.int .i64 0] 76)).heap[w.heap.size]? = some (.cells #[cv,.int .i64 0] 76 (0,0)):=heap_alloc_new w _
 refine ⟨by rw [cell_of_row _ _ 0 _ _ _ hh]; rfl,hc.below hb,by rw [cell_of_row _ _ 1 _ _ _ hh]; rfl,Nat.zero_le _,fun j => ?_,hl,hn,Nat.le_refl _,⟨_,hh⟩⟩
 exact zqy hh j
theorem WrM.new {B : Nat} {w : World} {px : Nat} {cv : Value} {code : List Int} {k nk : Nat} {kv : Value} {most : Int} (hd : DiM B w px cv code k) (hk : KnRow B w kv nk) :
  WrM B (w.alloc (.cells (wrL px most kv).toArray 109)) w.heap.size px cv code ⟨[],0,fun _ => false,[],0,most,nk⟩ k (wrV px most kv):=by
 have hpx:=hd.lt
 have hB:=hd.hB
 have hb : Below w.heap.size w (w.alloc (.cells (wrL px most kv).toArray 109)):=(Below.refl _ _).alloc (Nat.le_refl _) _
 have hh : (w.alloc (.cells (wrL px most kv).toArray 109)).heap[w.heap.size]? = some (.cells (wrL px most kv).toArray 109 (0,0)):=heap_alloc_new w _
 refine ⟨⟨hd.block (hb.mono (by omega)) (hb.block px hpx),fun j hj => ?_,fun j => zqy hh j,⟨_,hh⟩,by omega⟩,rfl,World.ownsRow_nil _ _ _ _,rfl,fun i hi => ?_,World.ownsRow_nil _ _ _ _,(fun c hc => (by cases hc)),fun i hi => ?_,rfl,rfl,⟨1,rfl,by omega⟩,?_⟩
 ·rw [cell_of_row _ _ j _ _ _ hh]
  unfold wrV
  have hlen : (wrL px most kv).length = 24:=rfl
  rw [List.getElem?_toArray,List.getElem?_eq_getElem (by omega)]
  rfl
 ·have hi2 : i = 0 ∨ i = 1 ∨ i = 2 ∨ i = 3 ∨ i = 4 ∨ i = 5 ∨ i = 6 ∨ i = 7:=by omega
  rcases hi2 with rfl | rfl | rfl | rfl | rfl | rfl | rfl | rfl <;> rfl
 ·have hi2 : i = 0 ∨ i = 1 ∨ i = 2 ∨ i = 3 ∨ i = 4 ∨ i = 5 ∨ i = 6 ∨ i = 7:=by omega
  rcases hi2 with rfl | rfl | rfl | rfl | rfl | rfl | rfl | rfl <;> exact ⟨false,rfl⟩
 ·obtain ⟨xs,h1,h2⟩:=hk
  refine ⟨xs,zad h1 (fun g hg => hb.block g (h1.lt g hg).2),h2⟩
theorem KnRow.nil (B : Nat) (w : World) : KnRow B w (.slice none 0 0) 0:=⟨[],World.ownsRow_nil _ _ _ _,fun j hj => by omega⟩
end Go.Proofs.YtfpgjkbjbbgciaaGreatDoor
namespace Go.Proofs.YtfpgjkbjbbgciaaGreatDoor
open Go.RowKit Sp
attribute [local go_sem ↓] Go.wp_at_zero Go.wp_at_succ
structure EndsOk (a b c : Int) : Prop where
 a0 : -4611686018427387904 ≤ a
 a1 : a ≤ 4611686018427387904
 b0 : -4611686018427387904 ≤ b
 b1 : b ≤ 4611686018427387904
 c0 : 1 ≤ c
 c1 : c ≤ 1000
 few : b - a ≤ 2500 * c
def zsh (B : Nat) (w : World) (b px : Nat) (cv : Value) (code : List Int) (V : Nat → Value) (S : Wst) : Ending → World → Prop:=fun e w' => ∃ x y z : Int,e = .returned (.tuple #[.int .i64 x,.int .i64 y,.int .i64 z]) ∧ EndsOk x y z ∧ zcy B w b px cv code V S w'
theorem WrM.dp {B : Nat} {w : World} {b px : Nat} {cv : Value} {code : List Int} {S : Wst} {k : Nat} {V : Nat → Value} (h : WrM B w b px cv code S k V) : w.cell? ⟨b,20,none⟩ = some (.int .i64 (S.deep : Int)):=by rw [← h.v20]; exact h.blk.cell 20 (by omega)
theorem zrs {z : Int} (h : i64 z) : ∃ q,z.tdiv 4 = q ∧ -2305843009213693952 ≤ q ∧ q ≤ 2305843009213693952:=by
 obtain ⟨h1,h2⟩:=h
 have e1:=Int.mul_tdiv_add_tmod z 4
 have e2:=Int.tmod_lt_of_pos z (show (0 : Int) < 4 by omega)
 have e3:=Int.lt_tmod_of_pos z (show (0 : Int) < 4 by omega)
 exact ⟨_,rfl,by omega,by omega⟩
theorem zke {x : Int} (h0 : -9223372036854775808 ≤ x) (h1 : x ≤ 9223372036854775807) : IntKind.i64.wrap x = x:=by
 rw [zpU]
 unfold w64; omega
theorem zrt {B : Nat} {w : World} {b px : Nat} {cv : Value} {code : List Int} {S : Wst} {k : Nat} {V : Nat → Value} (M0 : WrM B w b px cv code S k V) :
  Calls Tryz.prog 119 #[.pointer (some ⟨b,0,none⟩)] w (zsh B w b px cv code V S):=by
 have H1:=M0.cx
 have F0:=Fr.refl b px w V
 go_enter Tryz.func119,Tryz.ntmps119
 go_wp2_with fail
 go_region_held3 (fun W => W.cell? ⟨b,0,none⟩ = some (.pointer (some ⟨px,0,none⟩)))
  (first
    | exact H1
    | exact H2
    | exact H3
    | exact H4)
  (first
    | (go_at_call 41; first
        | ((with_reducible refine (zao M0.drew 20 (by omega)).mono ?_); rintro e w1 ⟨i1,rfl,hi1,k1,V1,M1,f1⟩; have F1:=(F0.trans (Fr.low (Below.refl _ _).drew)).trans f1; have H2:=M1.cx)
        | ((with_reducible refine (zao M1 24 (by omega)).mono ?_); rintro e w2 ⟨i2,rfl,hi2,k2,V2,M2,f2⟩; have F2:=F1.trans f2; have H3:=M2.cx)
        | ((with_reducible refine (zao M2 5 (by omega)).mono ?_); rintro e w3 ⟨i3,rfl,hi3,k3,V3,M3,f3⟩; have F3:=F2.trans f3; have H4:=M3.cx)))
 rw [show IntKind.i64.wrap ((i1 : Int) - 4) = (i1 : Int) - 4 from zke (by omega) (by omega),show IntKind.i64.wrap ((i2 : Int) - 4) = (i2 : Int) - 4 from zke (by omega) (by omega),show IntKind.i64.wrap (1 + (i3 : Int)) = 1 + (i3 : Int) from zke (by omega) (by omega)]
 obtain ⟨a,ha⟩ : ∃ a : Int,(i1 : Int) - 4 = a:=⟨_,rfl⟩
 obtain ⟨b',hb⟩ : ∃ b' : Int,(i2 : Int) - 4 = b':=⟨_,rfl⟩
 obtain ⟨cc,hcc⟩ : ∃ cc : Int,1 + (i3 : Int) = cc:=⟨_,rfl⟩
 rw [ha,hb,hcc]
 have a0 : -4 ≤ a:=by omega
 have a1 : a ≤ 15:=by omega
 have b0 : -4 ≤ b':=by omega
 have b1 : b' ≤ 19:=by omega
 have cc0 : 1 ≤ cc:=by omega
 have cc1 : cc ≤ 5:=by omega
 clear ha hb hcc H1 H2 H3
 have d3:=M3.dp
 have c3:=M3.cx
 go_wp2_with (first
  | (go_at_call 41; (with_reducible refine (zao M3 4 (by omega)).mono ?_); rintro e w4 ⟨t,rfl,ht,k4,V4,M4,f4⟩; have F4:=F3.trans f4; have c4:=M4.cx; have d4:=M4.dp; refine Hid.out ?_))
 unfold Hid
 rcases Nat.eq_zero_or_pos t with rfl | htp
 ·go_wp2_with (first
   | (go_at_call 41; (with_reducible refine (zao M4 2 (by omega)).mono ?_); rintro e w5 ⟨s,rfl,hs,k5,V5,M5,f5⟩; have F5:=F4.trans f5; have c5:=M5.cx; have d5:=M5.dp; refine Hid.out ?_))
  unfold Hid
  have cc1 : cc ≤ 1000:=by omega
  have hs2 : s = 0 ∨ s = 1:=by omega
  rcases hs2 with rfl | rfl
  go_wp2_with (first
   | (go_at_call 41; (with_reducible refine (zao M5 1000 (by omega)).mono ?_); rintro e w6 ⟨y,rfl,hy,k6,V6,M6,f6⟩; have F6:=F5.trans f6; have c6:=M6.cx; have d6:=M6.dp)
   | (go_at_call 41; (with_reducible refine (zao M6 30 (by omega)).mono ?_); rintro e w7 ⟨t,rfl,ht,k7,V7,M7,f7⟩; have F7:=F6.trans f7; have c7:=M7.cx; have d7:=M7.dp; refine Hid.out ?_))
  unfold Hid
  obtain ⟨cc,hcc⟩ : ∃ cc : Int,1 + (y : Int) = cc:=⟨_,rfl⟩
  rw [hcc]
  have cc0 : 1 ≤ cc:=by omega
  have cc1 : cc ≤ 1000:=by omega
  clear hcc
  refine Hid.out ?_
  rotate_left
  go_wp2_with (first
   | (go_at_call 41; (with_reducible refine (zao M5 30 (by omega)).mono ?_); rintro e w7 ⟨t,rfl,ht,k7,V7,M7,f7⟩; have F7:=F5.trans f7; have c7:=M7.cx; have d7:=M7.dp; refine Hid.out ?_))
  all_goals
   unfold Hid
   have ht3 : (t : Int) < 2500:=by omega
   clear ht
   by_cases hd : S.deep = 0
   rw [hd] at d7
   go_wp2_with (first
    | (go_at_call 41; (with_reducible refine (zao M7 3 (by omega)).mono ?_); rintro e w8 ⟨u,rfl,hu,k8,V8,M8,f8⟩; have F8:=F7.trans f8; have c8:=M8.cx; have d8:=M8.dp; refine Hid.out ?_))
   unfold Hid
   rcases Nat.eq_zero_or_pos u with rfl | hup
   go_wp2_with (first
    | (go_at_call 41; (with_reducible refine (zao M8 2500 (by omega)).mono ?_); rintro e w9 ⟨t,rfl,ht,k9,V9,M9,f9⟩; have F9:=F8.trans f9; have c9:=M9.cx; have d9:=M9.dp; have ht3:=ht)
    | (go_at_call 41; (with_reducible refine (zao M9 5 (by omega)).mono ?_); rintro e w10 ⟨v,rfl,hv,k10,V10,M10,f10⟩; have F10:=F9.trans f10; have c10:=M10.cx; have d10:=M10.dp; refine Hid.out ?_))
   rotate_left
   go_wp2_with (first
    | (go_at_call 41; (with_reducible refine (zao M8 5 (by omega)).mono ?_); rintro e w10 ⟨v,rfl,hv,k10,V10,M10,f10⟩; have F10:=F8.trans f10; have c10:=M10.cx; have d10:=M10.dp; refine Hid.out ?_))
   rotate_left
   have hd2 : ¬ (S.deep : Int) = 0:=by omega
   go_wp2_with (first
    | (go_at_call 41; (with_reducible refine (zao M7 5 (by omega)).mono ?_); rintro e w10 ⟨v,rfl,hv,k10,V10,M10,f10⟩; have F10:=F7.trans f10; have c10:=M10.cx; have d10:=M10.dp; refine Hid.out ?_))
   all_goals
    unfold Hid
    have p0 : 0 ≤ cc * (t : Int):=Int.mul_nonneg (by omega) (by omega)
    have p1 : cc * (t : Int) ≤ 2500 * cc:=by rw [Int.mul_comm 2500 cc]; exact Int.mul_le_mul_of_nonneg_left (by omega) (by omega)
    have p2 : cc * (t : Int) ≤ 2500000:=by omega
    have hv5 : v = 0 ∨ v = 1 ∨ v = 2 ∨ v = 3 ∨ v = 4:=by omega
    rcases hv5 with rfl | rfl | rfl | rfl | rfl
    all_goals go_wp2_with (first
     | (go_at_call 121; (with_reducible refine (zrr M10).mono ?_); rintro e w11 ⟨z,rfl,hz,k11,V11,M11,f11⟩; have F11:=F10.trans f11; have c11:=M11.cx; obtain ⟨q,hq,q0,q1⟩:=zrs hz)
     | (go_at_call 41; (first | (with_reducible refine (zao M11 cc (by omega)).mono ?_) | (with_reducible refine (zao M10 cc (by omega)).mono ?_)); rintro e w12 ⟨x,rfl,hx,k12,V12,M12,f12⟩; (first | have F12:=F11.trans f12 | have F12:=F10.trans f12); have hx0 : (0 : Int) ≤ (x : Int):=Int.natCast_nonneg _; refine Hid.out ?_))
    all_goals unfold Hid
    all_goals go_wp2
    all_goals (try simp only [Exit.inBlock,Exit.then])
    all_goals refine bodyPost_ret (results_tmp3 rfl _ _ _) rfl ?_
    all_goals exact ⟨_,_,_,rfl,⟨by omega,by omega,by omega,by omega,by omega,by omega,by omega⟩,k12,V12,M12,F12⟩
 ·go_wp2
  (try simp only [Exit.inBlock,Exit.then])
  refine bodyPost_ret (results_tmp3 rfl _ _ _) rfl ?_
  exact ⟨a,b',cc,rfl,⟨by omega,by omega,by omega,by omega,cc0,by omega,by omega⟩,k4,V4,M4,F4⟩
end Go.Proofs.YtfpgjkbjbbgciaaGreatDoor
