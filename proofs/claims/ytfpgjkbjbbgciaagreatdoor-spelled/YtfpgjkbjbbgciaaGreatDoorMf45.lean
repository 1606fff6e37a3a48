import Derived.Test.YtfpgjkbjbbgciaaGreatDoorMf25
import Derived.Test.YtfpgjkbjbbgciaaGreatDoorMf40
import Derived.Test.YtfpgjkbjbbgciaaGreatDoorMf44
set_option maxRecDepth 100000
set_option maxHeartbeats 8000000
namespace Go.Proofs.YtfpgjkbjbbgciaaGreatDoor
open Go.RowKit Sp
attribute [local go_sem ↓] Go.wp_at_zero Go.wp_at_succ
theorem WrM.cx {B : Nat} {w : World} {b px : Nat} {cv : Value} {code : List Int} {S : Wst} {k : Nat} {V : Nat → Value} (h : WrM B w b px cv code S k V) : w.cell? ⟨b,0,none⟩ = some (.pointer (some ⟨px,0,none⟩)):=by rw [← h.v0]; exact h.blk.cell 0 (by omega)
theorem WrM.alloc {B : Nat} {w : World} {b px : Nat} {cv : Value} {code : List Int} {S : Wst} {k : Nat} {V : Nat → Value} (h : WrM B w b px cv code S k V) (x : Obj) : WrM B (w.alloc x) b px cv code S k V:=h.below ((Below.refl _ _).alloc (Nat.le_refl _) _) h.base
theorem WrM.drewN {B : Nat} {w : World} {b px : Nat} {cv : Value} {code : List Int} {S : Wst} {k : Nat} {V : Nat → Value} (h : WrM B w b px cv code S k V) (n : Nat) : WrM B (w.drewN n) b px cv code S k V:=h.below (zbf _ _ _) h.base
theorem WrM.drew {B : Nat} {w : World} {b px : Nat} {cv : Value} {code : List Int} {S : Wst} {k : Nat} {V : Nat → Value} (h : WrM B w b px cv code S k V) : WrM B w.drew b px cv code S k V:=h.below (Below.refl _ _).drew h.base
theorem Hid.out2 {p : Prop} (h : Hid p) : p:=h
def PcPost (B : Nat) (w : World) (b px : Nat) (cv : Value) (code : List Int) (V : Nat → Value) (S : Wst) (most lab : Nat) (w' : World) : Prop :=
 ∃ (A : List Ln) (c : Nat),Pc S.nk S.labels c A ∧ A.length ≤ most ∧ c ≤ S.labels + lab ∧ zcy B w b px cv code V { S with lines:=S.lines ++ A,labels:=c } w'
theorem zot {B : Nat} {w : World} {b px : Nat} {cv : Value} {code : List Int} {V : Nat → Value} {S : Wst} {w' : World} {l : Ln} (hl : Plain l) (h : zcy B w b px cv code V { S with lines:=S.lines ++ [l] } w') : PcPost B w b px cv code V S 2 0 w' :=
 ⟨[l],S.labels,.ins _ hl,by simp,Nat.le_refl _,h⟩
theorem zkb (x : Nat) {n : Int} (h : (x : Int) ≤ n) (hn : n ≤ 9223372036854775807) : i64 (x : Int):=⟨by omega,by omega⟩
theorem zdB (n : Nat) {D : ByteArray} (h : D.size ≤ 21) (hn : n ≤ 1000) : ¬ 9223372036854775807 < n + D.size:=by omega
theorem zf1 {r : Nat} {K : Int} {A D : ByteArray} (h1 : Hid (A = ba (regW r))) (h2 : Hid (D = ba (digL K))) : ba (setL r K).bytes = ba [9] ++ ((⟨#[115,101,116,32]⟩ : ByteArray) ++ A ++ (⟨#[32]⟩ : ByteArray) ++ D):=by
 rw [show A = _ from h1,show D = _ from h2]; exact ln2 _ _ _
theorem zqf {r : Nat} {K : Int} {A D : ByteArray} (h1 : Hid (A = ba (regW r))) (h2 : Hid (D = ba (digL K))) : ba (incL r K).bytes = ba [9] ++ ((⟨#[105,110,99,32]⟩ : ByteArray) ++ A ++ (⟨#[32]⟩ : ByteArray) ++ D):=by
 rw [show A = _ from h1,show D = _ from h2]; exact ln2 _ _ _
theorem zgv {r q : Nat} {A D : ByteArray} (h1 : Hid (A = ba (regW r))) (h2 : Hid (D = ba (regW q))) : ba (ziM r q).bytes = ba [9] ++ ((⟨#[108,111,97,100,32]⟩ : ByteArray) ++ A ++ (⟨#[32]⟩ : ByteArray) ++ D):=by
 rw [show A = _ from h1,show D = _ from h2]; exact ln2 _ _ _
theorem zeV {r q : Nat} {A D : ByteArray} (h1 : Hid (A = ba (regW r))) (h2 : Hid (D = ba (regW q))) : ba (zfm r q).bytes = ba [9] ++ ((⟨#[115,116,111,114,101,32]⟩ : ByteArray) ++ A ++ (⟨#[32]⟩ : ByteArray) ++ D):=by
 rw [show A = _ from h1,show D = _ from h2]; exact ln2 _ _ _
theorem zbq {c : Array UInt8} {A D : ByteArray} (hc : c.size ≤ 10) (h1 : A.size ≤ 21) (h2 : D.size ≤ 21) : ((⟨c⟩ : ByteArray) ++ A ++ (⟨#[32]⟩ : ByteArray) ++ D).size ≤ 1000:=by
 have e : (⟨#[32]⟩ : ByteArray).size = 1:=rfl
 have e2 : (⟨c⟩ : ByteArray).size = c.size:=rfl
 simp only [ByteArray.size_append]
 omega
theorem zeW {B : Nat} {w : World} {b px : Nat} {cv : Value} {code : List Int} {V : Nat → Value} {S1 S2 : Wst} {w' : World} (h : zcy B w b px cv code V S1 w') (e : S1 = S2) : zcy B w b px cv code V S2 w':=e ▸ h
theorem WrM.cnts {B : Nat} {w : World} {b px : Nat} {cv : Value} {code : List Int} {S : Wst} {k : Nat} {V : Nat → Value} (h : WrM B w b px cv code S k V) {g cap : Nat} (hv : V 11 = .slice (some ⟨g,0,none⟩) S.counts.length cap) : ∀ j,j < S.counts.length → w.cell? ⟨g,j,none⟩ = some (.int .i64 ((S.counts.getD j 0 : Nat) : Int)):=fun j hj => by
 have hc:=h.counts
 rw [hv] at hc
 refine zhx hc j _ ?_
 rw [List.getElem?_map,List.getElem?_eq_getElem hj,List.getD_eq_getElem?_getD,List.getElem?_eq_getElem hj]
 rfl
theorem WrM.cntsLe {B : Nat} {w : World} {b px : Nat} {cv : Value} {code : List Int} {S : Wst} {k : Nat} {V : Nat → Value} (h : WrM B w b px cv code S k V) {g cap : Nat} (_hv : V 11 = .slice (some ⟨g,0,none⟩) S.counts.length cap) : S.counts.length ≤ 9223372036854775807:=by
 obtain ⟨ao,c,e,h1,h2,_⟩:=zez h.counts
 exact Nat.le_trans h1 (Nat.le_trans h2 (by decide))
theorem WrM.three {B : Nat} {w : World} {b px : Nat} {cv : Value} {code : List Int} {S : Wst} {k : Nat} {V : Nat → Value} (h : WrM B w b px cv code S k V) {g cap : Nat} (hv : V 11 = .slice (some ⟨g,0,none⟩) S.counts.length cap) : w.cell? ⟨b,0,none⟩ = some (.pointer (some ⟨px,0,none⟩)) ∧ w.cell? ⟨b,11,none⟩ = some (.slice (some ⟨g,0,none⟩) S.counts.length cap) ∧ ∀ j,j < S.counts.length → w.cell? ⟨g,j,none⟩ = some (.int .i64 ((S.counts.getD j 0 : Nat) : Int)) :=
 ⟨h.cx,by rw [← hv]; exact h.blk.cell 11 (by omega),h.cnts hv⟩
theorem zqg {B : Nat} {w : World} {b px : Nat} {cv : Value} {code : List Int} {S : Wst} {k : Nat} {V : Nat → Value} (M : WrM B w b px cv code S k V) (rf : Nat) (hrf : rf < 8) (hf : S.held rf = false) (hn : S.lines.length ≤ 10000) :
  Calls Tryz.prog 95 #[.pointer (some ⟨b,0,none⟩)] w fun e w' => (∃ n : Nat,e = .returned (.int .i64 (n : Int)) ∧ n ≤ 2) ∧ PcPost B w b px cv code V S 2 0 w':=by
 have c0:=M.cx
 have c11:=M.blk.cell 11 (by omega)
 obtain ⟨ao,cap,hv⟩:=za9 M.counts
 rw [hv] at c11
 have F:=Fr.refl b px w V
 by_cases hc : S.counts.length = 0
 ·rw [hc] at c11 hv
  go_enter Tryz.func95,Tryz.ntmps95
  go_wp2_with (first
   | (go_at_call 118; (with_reducible refine (zbz M rf hrf hf).mono ?_); rintro e w5 ⟨r,rfl,hr,hh,k5,V5,M5,f5⟩; have F5:=F.trans f5; have c5:=M5.cx))
  clear c0 c11 F f5
  have H1:=c5
  go_region_held3 (fun W => W.cell? ⟨b,0,none⟩ = some (.pointer (some ⟨px,0,none⟩)))
   (first
     | exact H1
     | exact H2
     | exact H3
     | exact H4
     | exact H5)
   (first
     | (go_at_call 38; (with_reducible refine (zaM r hr _).mono ?_); rintro e w6 ⟨A1,rfl,zA1,hA1,hbA1⟩; have M6:=M5.drew.below hbA1 M5.drew.base; have H2:=M6.cx; have F6:=(F5.trans (Fr.low (Below.refl _ _).drew)).trans (.low hbA1))
     | (go_at_call 41; (with_reducible refine (zao M6 16 (by omega)).mono ?_); rintro e w7 ⟨x,rfl,hx,k7,V7,M7,f7⟩; have F7:=F6.trans f7; have H3:=M7.cx; have hx64:=zkb x (Int.le_of_lt hx) (by decide))
     | (go_at_call 36; (with_reducible refine (zdA (x : Int) hx64 _).mono ?_); rintro e w8 ⟨D,rfl,zD,hD,hbD⟩; have M8:=M7.below hbD M7.base; have H4:=M8.cx; have F8:=F7.trans (.low hbD); have hz7:=zdB 7 zD (by decide))
     | (go_at_call 62; (with_reducible refine (zbg M8 (setL r (x : Int)) _ (zf1 hA1 hD) (zbq (by decide) (by omega) zD) (by omega)).mono ?_); rintro e w9 ⟨rfl,k9,V9,M9,f9⟩; have H5:=M9.cx; have F9:=F8.trans f9))
  have hxp:=zdj hr hx64
  have M5:=M9
  have F5:=F9
  clear H1 c5
  have c5:=M5.cx
  go_wp2_with (first
   | (go_at_call 41; (with_reducible refine (zao M5 2 (by omega)).mono ?_); rintro e w6 ⟨t,rfl,ht,k6,V6,M6,f6⟩; have F6:=F5.trans f6; refine Hid.out ?_))
  unfold Hid
  have ht2 : t = 0 ∨ t = 1:=by omega
  have c6:=M6.cx
  clear c5 f6
  rcases ht2 with rfl | rfl
  ·go_wp2_with (first
    | (go_at_call 118; (with_reducible refine (zbz M6 rf hrf hf).mono ?_); rintro e w7 ⟨q,rfl,hq,hh2,k7,V7,M7,f7⟩; have F7:=F6.trans f7)
    | (go_at_call 38; first
        | ((with_reducible refine (zaM q hq _).mono ?_); rintro e w8 ⟨A1,rfl,zA1,hA1,hbA1⟩; have M8:=M7.below hbA1 M7.base; have F8:=F7.trans (.low hbA1))
        | ((with_reducible refine (zaM r hr _).mono ?_); rintro e w9 ⟨A2,rfl,zA2,hA2,hbA2⟩; have M9:=M8.below hbA2 M8.base; have F9:=F8.trans (.low hbA2)))
    | (go_at_call 62; refine Hid.out ?_))
   unfold Hid
   refine (zbg M9 (ziM q r) _ (zgv hA1 hA2) (zbq (by decide) (by omega) (by omega)) (by first | omega | (simp; omega))).mono ?_
   rintro e w10 ⟨rfl,k10,V10,M10,f10⟩
   dsimp only
   go_wp2
   go_ret
   exact ⟨⟨2,rfl,by omega⟩,[setL r (x : Int)] ++ [ziM q r],S.labels,.app (.ins _ hxp) (.ins _ (zeU hq hr)),by simp,Nat.le_refl _,zeW ⟨k10,V10,M10,F9.trans f10⟩ (by simp)⟩
  ·go_wp2_with (first
    | (go_at_call 38; refine Hid.out ?_))
   have H1:=c6
   go_region_held3 (fun W => W.cell? ⟨b,0,none⟩ = some (.pointer (some ⟨px,0,none⟩)))
    (first
      | exact H1
      | exact H2
      | exact H3
      | exact H4
      | exact H5)
    (first
      | (go_at_call 38; first
          | ((with_reducible refine (zaM r hr _).mono ?_); rintro e w7 ⟨A1,rfl,zA1,hA1,hbA1⟩; have M7:=M6.drew.below hbA1 M6.drew.base; have H2:=M7.cx; have F7:=(F6.trans (Fr.low (Below.refl _ _).drew)).trans (.low hbA1))
          | ((with_reducible refine (zaM q (by omega) _).mono ?_); rintro e w9 ⟨A2,rfl,zA2,hA2,hbA2⟩; have M9:=M8.below hbA2 M8.base; have H4:=M9.cx; have F9:=F8.trans (.low hbA2)))
      | (go_at_call 41; (with_reducible refine (zao M7 8 (by omega)).mono ?_); rintro e w8 ⟨q,rfl,hq,k8,V8,M8,f8⟩; have F8:=F7.trans f8; have H3:=M8.cx)
      | (go_at_call 62; (with_reducible refine (zbg M9 (zfm r q) _ (zeV hA1 hA2) (zbq (by decide) (by omega) (by omega)) (by first | omega | (simp; omega))).mono ?_); rintro e w10 ⟨rfl,k10,V10,M10,f10⟩; have H5:=M10.cx))
   go_wp2
   go_ret
   exact ⟨⟨2,rfl,by omega⟩,[setL r (x : Int)] ++ [zfm r q],S.labels,.app (.ins _ hxp) (.ins _ (zea hr (by omega))),by simp,Nat.le_refl _,zeW ⟨k10,V10,M10,F9.trans f10⟩ (by simp)⟩
 ·clear c11
  obtain ⟨g,cap,hv,hgB,hgl⟩:=(M.counts).form (by omega)
  have c11:=M.blk.cell 11 (by omega)
  rw [hv] at c11
  have hcs:=M.cnts hv
  have hl0 : ¬ (S.counts.length : Int) = 0:=by omega
  have hl1 : (0 : Int) < (S.counts.length : Int):=by omega
  have hlb : S.counts.length ≤ 9223372036854775807:=M.cntsLe hv
  go_enter Tryz.func95,Tryz.ntmps95
  go_wp2_with (first
   | (go_at_call 41; (with_reducible refine (zao M 2 (by omega)).mono ?_); rintro e w1 ⟨t,rfl,ht,k1,V1,M1,f1⟩; refine Hid.out ?_))
  unfold Hid
  have ht2 : t = 0 ∨ t = 1:=by omega
  rcases ht2 with rfl | rfl
  ·obtain ⟨g1,cap1,hv1,_,hgl1⟩:=(M1.counts).form (by omega)
   have c1:=M1.cx
   have d1:=M1.blk.cell 11 (by omega)
   rw [hv1] at d1
   have hcs1:=M1.cnts hv1
   have H1 : w1.cell? ⟨b,0,none⟩ = some (.pointer (some ⟨px,0,none⟩)) ∧ w1.cell? ⟨b,11,none⟩ = some (.slice (some ⟨g1,0,none⟩) S.counts.length cap1) ∧ ∀ j,j < S.counts.length → w1.cell? ⟨g1,j,none⟩ = some (.int .i64 ((S.counts.getD j 0 : Nat) : Int)):=⟨c1,d1,hcs1⟩
   clear hcs c11 c0
   go_wp2_with fail
   go_region_held3 (fun W => W.cell? ⟨b,0,none⟩ = some (.pointer (some ⟨px,0,none⟩)) ∧ W.cell? ⟨b,11,none⟩ = some (.slice (some ⟨g1,0,none⟩) S.counts.length cap1) ∧ ∀ j,j < S.counts.length → W.cell? ⟨g1,j,none⟩ = some (.int .i64 ((S.counts.getD j 0 : Nat) : Int)))
    (first
      | exact H1
      | exact H2)
    (first
      | (go_at_call 41; (with_reducible refine (zdi M1.drew.blk.di (S.counts.length : Int) hl1).mono ?_); rintro e w2 ⟨i,rfl,hi,k2,D2,g2⟩; have M2:=M1.drew.threw D2 g2; have H2:=M2.three hv1; have hiN : i < S.counts.length:=Int.ofNat_lt.1 hi; have hi0 : (0 : Int) ≤ (i : Int):=Int.natCast_nonneg _))
   have hr:=M2.cnt8 _ (List.getElem_mem hiN)
   generalize S.counts[i] = r at hr ⊢
   have M5:=M2
   have F5:=(f1.trans (Fr.low (Below.refl _ _).drew)).trans (Fr.grown g2)
   clear H1 c1 d1 hcs1
   have c5:=M5.cx
   go_wp2_with (first
    | (go_at_call 41; (with_reducible refine (zao M5 2 (by omega)).mono ?_); rintro e w6 ⟨t,rfl,ht,k6,V6,M6,f6⟩; have F6:=F5.trans f6; refine Hid.out ?_))
   unfold Hid
   have ht2 : t = 0 ∨ t = 1:=by omega
   have c6:=M6.cx
   clear c5 f6
   rcases ht2 with rfl | rfl
   ·go_wp2_with (first
     | (go_at_call 118; (with_reducible refine (zbz M6 rf hrf hf).mono ?_); rintro e w7 ⟨q,rfl,hq,hh2,k7,V7,M7,f7⟩; have F7:=F6.trans f7)
     | (go_at_call 38; first
         | ((with_reducible refine (zaM q hq _).mono ?_); rintro e w8 ⟨A1,rfl,zA1,hA1,hbA1⟩; have M8:=M7.below hbA1 M7.base; have F8:=F7.trans (.low hbA1))
         | ((with_reducible refine (zaM r hr _).mono ?_); rintro e w9 ⟨A2,rfl,zA2,hA2,hbA2⟩; have M9:=M8.below hbA2 M8.base; have F9:=F8.trans (.low hbA2)))
     | (go_at_call 62; refine Hid.out ?_))
    unfold Hid
    refine (zbg M9 (ziM q r) _ (zgv hA1 hA2) (zbq (by decide) (by omega) (by omega)) (by first | omega | (simp; omega))).mono ?_
    rintro e w10 ⟨rfl,k10,V10,M10,f10⟩
    dsimp only
    go_wp2
    go_ret
    exact ⟨⟨1,rfl,by omega⟩,[ziM q r],S.labels,(.ins _ (zeU hq hr)),by simp,Nat.le_refl _,zeW ⟨k10,V10,M10,F9.trans f10⟩ (by simp)⟩
   ·go_wp2_with (first
     | (go_at_call 38; refine Hid.out ?_))
    have H1:=c6
    go_region_held3 (fun W => W.cell? ⟨b,0,none⟩ = some (.pointer (some ⟨px,0,none⟩)))
     (first
       | exact H1
       | exact H2
       | exact H3
       | exact H4
       | exact H5)
     (first
       | (go_at_call 38; first
           | ((with_reducible refine (zaM r hr _).mono ?_); rintro e w7 ⟨A1,rfl,zA1,hA1,hbA1⟩; have M7:=M6.drew.below hbA1 M6.drew.base; have H2:=M7.cx; have F7:=(F6.trans (Fr.low (Below.refl _ _).drew)).trans (.low hbA1))
           | ((with_reducible refine (zaM q (by omega) _).mono ?_); rintro e w9 ⟨A2,rfl,zA2,hA2,hbA2⟩; have M9:=M8.below hbA2 M8.base; have H4:=M9.cx; have F9:=F8.trans (.low hbA2)))
       | (go_at_call 41; (with_reducible refine (zao M7 8 (by omega)).mono ?_); rintro e w8 ⟨q,rfl,hq,k8,V8,M8,f8⟩; have F8:=F7.trans f8; have H3:=M8.cx)
       | (go_at_call 62; (with_reducible refine (zbg M9 (zfm r q) _ (zeV hA1 hA2) (zbq (by decide) (by omega) (by omega)) (by first | omega | (simp; omega))).mono ?_); rintro e w10 ⟨rfl,k10,V10,M10,f10⟩; have H5:=M10.cx))
    go_wp2
    go_ret
    exact ⟨⟨1,rfl,by omega⟩,[zfm r q],S.labels,(.ins _ (zea hr (by omega))),by simp,Nat.le_refl _,zeW ⟨k10,V10,M10,F9.trans f10⟩ (by simp)⟩
  ·have c1:=M1.cx
   go_wp2_with (first
    | (go_at_call 118; (with_reducible refine (zbz M1 rf hrf hf).mono ?_); rintro e w5 ⟨r,rfl,hr,hh,k5,V5,M5,f5⟩; have F5:=f1.trans f5; have c5:=M5.cx))
   clear c0 c11 F f5 c1 hcs
   have H1:=c5
   go_region_held3 (fun W => W.cell? ⟨b,0,none⟩ = some (.pointer (some ⟨px,0,none⟩)))
    (first
      | exact H1
      | exact H2
      | exact H3
      | exact H4
      | exact H5)
    (first
      | (go_at_call 38; (with_reducible refine (zaM r hr _).mono ?_); rintro e w6 ⟨A1,rfl,zA1,hA1,hbA1⟩; have M6:=M5.drew.below hbA1 M5.drew.base; have H2:=M6.cx; have F6:=(F5.trans (Fr.low (Below.refl _ _).drew)).trans (.low hbA1))
      | (go_at_call 41; (with_reducible refine (zao M6 16 (by omega)).mono ?_); rintro e w7 ⟨x,rfl,hx,k7,V7,M7,f7⟩; have F7:=F6.trans f7; have H3:=M7.cx; have hx64:=zkb x (Int.le_of_lt hx) (by decide))
      | (go_at_call 36; (with_reducible refine (zdA (x : Int) hx64 _).mono ?_); rintro e w8 ⟨D,rfl,zD,hD,hbD⟩; have M8:=M7.below hbD M7.base; have H4:=M8.cx; have F8:=F7.trans (.low hbD); have hz7:=zdB 7 zD (by decide))
      | (go_at_call 62; (with_reducible refine (zbg M8 (setL r (x : Int)) _ (zf1 hA1 hD) (zbq (by decide) (by omega) zD) (by omega)).mono ?_); rintro e w9 ⟨rfl,k9,V9,M9,f9⟩; have H5:=M9.cx; have F9:=F8.trans f9))
   have hxp:=zdj hr hx64
   have M5:=M9
   have F5:=F9
   clear H1 c5
   have c5:=M5.cx
   go_wp2_with (first
    | (go_at_call 41; (with_reducible refine (zao M5 2 (by omega)).mono ?_); rintro e w6 ⟨t,rfl,ht,k6,V6,M6,f6⟩; have F6:=F5.trans f6; refine Hid.out ?_))
   unfold Hid
   have ht2 : t = 0 ∨ t = 1:=by omega
   have c6:=M6.cx
   clear c5 f6
   rcases ht2 with rfl | rfl
   ·go_wp2_with (first
     | (go_at_call 118; (with_reducible refine (zbz M6 rf hrf hf).mono ?_); rintro e w7 ⟨q,rfl,hq,hh2,k7,V7,M7,f7⟩; have F7:=F6.trans f7)
     | (go_at_call 38; first
         | ((with_reducible refine (zaM q hq _).mono ?_); rintro e w8 ⟨A1,rfl,zA1,hA1,hbA1⟩; have M8:=M7.below hbA1 M7.base; have F8:=F7.trans (.low hbA1))
         | ((with_reducible refine (zaM r hr _).mono ?_); rintro e w9 ⟨A2,rfl,zA2,hA2,hbA2⟩; have M9:=M8.below hbA2 M8.base; have F9:=F8.trans (.low hbA2)))
     | (go_at_call 62; refine Hid.out ?_))
    unfold Hid
    refine (zbg M9 (ziM q r) _ (zgv hA1 hA2) (zbq (by decide) (by omega) (by omega)) (by first | omega | (simp; omega))).mono ?_
    rintro e w10 ⟨rfl,k10,V10,M10,f10⟩
    dsimp only
    go_wp2
    go_ret
    exact ⟨⟨2,rfl,by omega⟩,[setL r (x : Int)] ++ [ziM q r],S.labels,.app (.ins _ hxp) (.ins _ (zeU hq hr)),by simp,Nat.le_refl _,zeW ⟨k10,V10,M10,F9.trans f10⟩ (by simp)⟩
   ·go_wp2_with (first
     | (go_at_call 38; refine Hid.out ?_))
    have H1:=c6
    go_region_held3 (fun W => W.cell? ⟨b,0,none⟩ = some (.pointer (some ⟨px,0,none⟩)))
     (first
       | exact H1
       | exact H2
       | exact H3
       | exact H4
       | exact H5)
     (first
       | (go_at_call 38; first
           | ((with_reducible refine (zaM r hr _).mono ?_); rintro e w7 ⟨A1,rfl,zA1,hA1,hbA1⟩; have M7:=M6.drew.below hbA1 M6.drew.base; have H2:=M7.cx; have F7:=(F6.trans (Fr.low (Below.refl _ _).drew)).trans (.low hbA1))
           | ((with_reducible refine (zaM q (by omega) _).mono ?_); rintro e w9 ⟨A2,rfl,zA2,hA2,hbA2⟩; have M9:=M8.below hbA2 M8.base; have H4:=M9.cx; have F9:=F8.trans (.low hbA2)))
       | (go_at_call 41; (with_reducible refine (zao M7 8 (by omega)).mono ?_); rintro e w8 ⟨q,rfl,hq,k8,V8,M8,f8⟩; have F8:=F7.trans f8; have H3:=M8.cx)
       | (go_at_call 62; (with_reducible refine (zbg M9 (zfm r q) _ (zeV hA1 hA2) (zbq (by decide) (by omega) (by omega)) (by first | omega | (simp; omega))).mono ?_); rintro e w10 ⟨rfl,k10,V10,M10,f10⟩; have H5:=M10.cx))
    go_wp2
    go_ret
    exact ⟨⟨2,rfl,by omega⟩,[setL r (x : Int)] ++ [zfm r q],S.labels,.app (.ins _ hxp) (.ins _ (zea hr (by omega))),by simp,Nat.le_refl _,zeW ⟨k10,V10,M10,F9.trans f10⟩ (by simp)⟩
end Go.Proofs.YtfpgjkbjbbgciaaGreatDoor
