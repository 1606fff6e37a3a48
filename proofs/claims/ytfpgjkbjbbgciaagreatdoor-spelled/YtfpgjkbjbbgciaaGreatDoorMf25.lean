import Derived.Test.YtfpgjkbjbbgciaaGreatDoorMf24
set_option maxRecDepth 100000
set_option maxHeartbeats 8000000
namespace Go.Proofs.YtfpgjkbjbbgciaaGreatDoor
open Go.RowKit Sp Go.WideMaps Go.Maps
theorem zn7 {E : List (ByteArray × Nat)} (hpw : E.Pairwise (fun a b => eqW a.1 b.1 = false)) {left : Lit → Bool} {x : ByteArray} {p n : Nat} (hf : zbc E x = some p) (hp : ¬ p = n) (h : ∀ q ∈ E,left (.string q.1.data.toList) = false → ¬ q.2 = n) :
  ∀ q ∈ E,(left (.string q.1.data.toList) && !(Lit.string q.1.data.toList).sameKey (.string x.data.toList)) = false → ¬ q.2 = n:=by
 intro q hq hl
 rw [Bool.and_eq_false_iff] at hl
 rcases hl with hl | hl
 ·exact h q hq hl
 ·have e : q.1.data.toList = x.data.toList:=by
   have:=WideAt.sameKey_eq (show (Lit.string q.1.data.toList).sameKey (.string x.data.toList) = true by simpa using hl)
   simpa using this
  rw [zl5 E hpw x p hf q hq ((zcD _ _).2 e)]
  exact hp
theorem zn8 (w : World) (B m : Nat) (name : ByteArray) (line : Int) (bv : Value) (E : List (ByteArray × Nat)) (its : List It) (hM : MapIs w m E) (hbo : w.ownsRow B 135 8 bv its.length (zam its)) (hn : its.length ≤ 300) :
  Calls Tryz.prog 105 #[.agg #[.string name,.int .i64 line,bv,.map (some m)]] w fun e w' => e = .returned (.bool (E.all (fun p => !decide (p.2 = its.length)) && zcF its)) ∧ Below w.heap.size w w':=by
 obtain ⟨D,hown,hD,hhas,hat0,hpw⟩:=hM
 have hlt:=hown.lt
 obtain ⟨ao,capb,rfl⟩:=za9 hbo
 have hne : ¬ w.heap.size = m:=by omega
 have hbox : (w.alloc (.cells #[.string name,.int .i64 line,.slice ao its.length capb,.map (some m)] 131)).cell? ⟨w.heap.size,2,none⟩ = some (.slice ao its.length capb):=World.cell?_alloc_new (w:=w) #[.string name,.int .i64 line,.slice ao its.length capb,.map (some m)] 131 2
 have hb0 : Below w.heap.size w (w.alloc (.cells #[.string name,.int .i64 line,.slice ao its.length capb,.map (some m)] 131)):=(Below.refl _ _).alloc (Nat.le_refl _) _
 have hsz0 : (w.alloc (.cells #[.string name,.int .i64 line,.slice ao its.length capb,.map (some m)] 131)).heap.size = w.heap.size + 1:=by simp
 go_enter Tryz.func105,Tryz.ntmps105
 go_wp2_with (first
  | (at_range; refine wpList_range_own _ rfl _ 81 rfl 9 3 lawS Tryz.under81 _ m E.length _ rfl (hown.alloc _) ?_; intro w0 hrg0 hg0 hs0))
 rw [hsz0] at hrg0 hs0 ⊢
 generalize w.alloc (.cells #[.string name,.int .i64 line,.slice ao its.length capb,.map (some m)] 131) = W1 at hbox hb0 hsz0 hg0
 have hbx : w0.cell? ⟨w.heap.size,2,none⟩ = some (.slice ao its.length capb):=(hg0.cell_far _ (by simp; omega) (by simp)).trans hbox
 have hb1 : Below w.heap.size w w0:=hb0.trans (((Below.refl w.heap.size W1).grown hg0 (by omega) (fun j hj => by cases hj)))
 go_frame
 go_loopw [4] (fun _ wr => ∃ (left : Lit → Bool) (cnt : Nat),wr.ranges Tryz.prog 9 (plainElem Tryz.prog 3) m (w.heap.size + 1) E.length D left cnt ∧ w0.grownBy wr (some (w.heap.size + 1)) ∧ (∀ p ∈ E,left (.string p.1.data.toList) = false → ¬ p.2 = its.length))
  (fun _ wr => wr.rangeLeft m (w.heap.size + 1))
 case atStart =>
  refine ⟨_,_,hrg0,⟨rfl,rfl,rfl,Nat.le_refl _,fun _ _ _ => rfl⟩,fun p hp hl => ?_⟩
  rw [hhas p.1,List.any_eq_false] at hl
  have:=hl p.1 (List.mem_map_of_mem hp)
  rw [(zcD _ _).2 rfl] at this
  simp at this
 case round =>
  obtain ⟨left,cnt,hrg,hgw,hno⟩:=hrel
  have hbr : wr.cell? ⟨w.heap.size,2,none⟩ = some (.slice ao its.length capb):=(hgw.cell_far _ (by simp; omega) (by simp)).trans hbx
  have hbw : Below w.heap.size w wr:=hb1.trans ((Below.refl w.heap.size w0).grown hgw (by omega) (fun j hj => by cases hj; omega))
  go_wp2_with (first
   | (at_next; refine wpList_next_ranges _ rfl _ rfl 9 lawS (plainElem Tryz.prog 3) Value.string (Value.int .i64) (fun key kl hk => by obtain ⟨x,hx,_⟩:=string_of_keyOf Tryz.underlying9 hk; exact ⟨x,hx⟩) (fun v y hv => by obtain ⟨c,rfl,_⟩:=plainElem_int_inv Tryz.underlying3 hv; exact ⟨c,rfl⟩) m (w.heap.size + 1) E.length _ _ _ rfl hrg ?_ ?_))
  ·intro _ hl0
   have HA : Hid (E.all (fun p => !decide (p.2 = its.length)) = true):=zj7 E _ (fun p hp => hno p hp (hl0 _))
   clear hl0 hno hrg hgw hhas hat0 hpw hown hD
   rcases List.eq_nil_or_concat its with rfl | ⟨I,i,hI⟩
   ·simp only [List.length_nil] at hbr
    go_wp2
    go_ret
    exact ⟨by simp [zcF],hbw⟩
   ·rw [List.concat_eq_append] at hI
    subst hI
    obtain ⟨bg,capb',hbv,_,hbg,hst⟩:=zeG hbo (by simp)
    simp only [Value.slice.injEq,true_and] at hbv
    obtain ⟨rfl,rfl⟩:=hbv
    have hs:=hst I.length (by simp)
    have hil : (I ++ [i]).length = I.length + 1:=by simp
    rw [hil] at hbr hn
    simp only [List.getElem_append_right (Nat.le_refl _),Nat.sub_self,List.getElem_cons_zero] at hs
    obtain ⟨d0,d1,d2,d3,d4,d5,d6,d7⟩:=hs
    have z : ∀ j,wr.cell? ⟨bg,j,none⟩ = w.cell? ⟨bg,j,none⟩:=fun j => hbw.cell (p:=⟨bg,j,none⟩) hbg
    rw [← z] at d0 d1 d2 d3 d4 d5 d6 d7
    have hwrap : IntKind.i64.wrap (I.length : Int) = (I.length : Int):=zeI _ (by omega) (by omega)
    have hf3 : (0 : Int) < (I.length : Int) + 1:=by omega
    have hf4 : (0 : Int) ≤ (I.length : Int):=by omega
    have hf5 : (I.length : Int) < (I.length : Int) + 1:=by omega
    have hcall:=fun W => zlz i.sort i.line i.word i.a i.b i.c i.n i.nm W
    have HL : Hid (zcF (I ++ [i]) = ends i.word):=zes I i
    clear z hst hbo hil
    go_wp2_with (first | (go_at_call 132; refine (hcall _).mono ?_; rintro e w2 ⟨rfl,hb2⟩))
    go_ret
    refine ⟨?_,hbw.trans (hb2.mono hbw.size)⟩
    rw [HA.out,HL.out]; simp
  ·intro x c kl yd yp w1 cnt1 hkey hlk hv hat hrg1 hlt1 hg1 hs1 hen
   obtain ⟨x',ex,rfl,_⟩:=string_of_keyOf Tryz.underlying9 hkey
   cases ex
   obtain ⟨c',ec,ey,_⟩:=plainElem_int_inv Tryz.underlying3 hv
   cases ec
   have hh:=has_true_of_atKey hat
   rw [hhas x] at hh
   obtain ⟨p,hp⟩:=zly E x hh
   have hc : c = (p : Int):=by
    have h1:=hat0 x p (.lit (.int .i64 0)) hp
    rw [hat] at h1
    cases ey
    simpa using h1
   subst hc
   clear hs1
   have hb11 : w1.cell? ⟨w.heap.size,2,none⟩ = some (.slice ao its.length capb):=(hg1.cell_far _ (by simp; have:=hbw.size; have:=hg0.size; have:=hgw.size; omega) (by simp)).trans hbr
   by_cases hpn : p = its.length
   ·have hpn' : ((p : Int) == (its.length : Int)) = true:=by simp; omega
    obtain ⟨q,hq,hq2,_⟩:=znp E x p hp
    have HA : Hid (E.all (fun p => !decide (p.2 = its.length)) = false):=zj8 E _ q hq (hq2.trans hpn)
    have hb12 : Below w.heap.size w w1:=hbw.trans ((Below.refl w.heap.size wr).grown hg1 hbw.size (fun j hj => by cases hj; omega))
    clear hno hrg hrg1 hgw hhas hat0 hpw hown hD hat
    go_wp2
    go_ret
    exact ⟨by rw [HA.out]; rfl,hb12⟩
   ·have hpn' : ((p : Int) == (its.length : Int)) = false:=by simp; omega
    go_wp2
    go_roundw
    case rel => exact ⟨_,cnt1,hrg1,hgw.andThen hg1 (fun j hj => by cases hj; exact Or.inr rfl),zn7 hpw hp hpn hno⟩
    case measure => rw [hrg1.left_eq,hrg.left_eq]; exact hlt1
theorem zit (w : World) (B pm : Nat) (v : Value) (F : List FnM) (h : PIn B w pm v F) (hF : 0 < F.length) (hn : F.length ≤ 300) (hb : ∀ f ∈ F,f.its.length ≤ 300 ∧ ∀ i ∈ f.its,ItOk i) :
  Calls Tryz.prog 70 #[.agg #[v,.map (some pm)]] w (zqQ w (F.map FnM.fn)):=by
 obtain ⟨fg,cap,rfl,hfg,hcap,hcells⟩:=h.fns hF
 go_enter Tryz.func70,Tryz.ntmps70
 go_wp2
 go_loopw [7] (fun ti wr => ∃ (k : Nat),k ≤ F.length ∧ ti = .int .i64 (k : Int) ∧ Below w.heap.size w wr ∧ endK (F.map FnM.fn) = endK ((F.map FnM.fn).drop k)) (fun ti _ => F.length - (intOf ti).toNat)
 case atStart => exact ⟨0,by omega,rfl,(Below.refl _ _).alloc (Nat.le_refl _) _,rfl⟩
 case round =>
  obtain ⟨k,hk,rfl,hbw,hE⟩:=hrel
  have HE : Hid (endK (F.map FnM.fn) = endK ((F.map FnM.fn).drop k)):=hE
  clear hE
  have hszr:=hbw.size
  by_cases hlt : k < F.length
  ·obtain ⟨c0,c1,c2,c3⟩:=hcells k hlt
   have hmem:=List.getElem_mem hlt
   have HD : Hid (endK (F.map FnM.fn) = if zno F[k].its = true then endK ((F.map FnM.fn).drop (k + 1)) else some F[k].line):=by
    unfold Hid; rw [HE.out,znn _ k (by simpa using hlt),zpo _ (hb F[k] hmem).2]; simp [FnM.fn]
   have hbo:=(h.bodies F[k] hmem)
   have hla:=(h.labels F[k] hmem)
   have hbl:=Nat.le_trans (zc7 F[k].its) (hb F[k] hmem).1
   generalize F[k] = f at c0 c1 c2 c3 hmem HD hbo hbl hla
   have z : ∀ j,wr.cell? ⟨fg,j,none⟩ = w.cell? ⟨fg,j,none⟩:=fun j => hbw.cell (p:=⟨fg,j,none⟩) hfg
   rw [← z] at c0 c1 c2 c3
   clear z
   have hk4 : k * 4 ≤ 1200:=by omega
   obtain ⟨name,line,its,bv,m⟩:=f
   simp only at c0 c1 c2 c3 hbo hbl HD hla
   have hbo2:=zad (w':=wr) hbo (fun g hg => hbw.block g (hbo.lt g hg).2)
   have hla2:=hla.below hbw hla.lt
   obtain ⟨ao,capb,rfl⟩:=za9 hbo
   have hcall:=zn8 (wr.alloc (.cells #[.string name,.int .i64 line,.slice ao (zaf its).length capb,.map (some m)] 131)) B m name line _ _ _ (hla2.alloc _) (hbo2.alloc _) hbl
   have hM : Hid (((zb1 its).all (fun p => !decide (p.2 = (zaf its).length)) && zcF (zaf its)) = zno its):=rfl
   rw [hM.out] at hcall
   clear hbo hbo2 hla hla2 hM
   cases hend : zno its with
   | false =>
    rw [hend] at HD hcall
    go_wp2_with (first | (go_at_call 105; refine hcall.mono ?_; rintro e w2 ⟨rfl,hb2⟩; have hq1:=(zk1 hb2).1) | (go_at_call 79; refine (zaj _ _ _).mono ?_; rintro e wx ⟨rfl,hww⟩; subst hww))
    exact ⟨rfl,hbw.trans ((zaA _ _ hb2).mono (by omega)),.inl ⟨_,HD.out,rfl⟩⟩
   | true =>
    rw [hend] at HD hcall
    go_wp2_with (first | (go_at_call 105; refine hcall.mono ?_; rintro e w2 ⟨rfl,hb2⟩; have hq1:=(zk1 hb2).1))
    have hb12:=hbw.trans ((zaA _ _ hb2).mono (by omega))
    clear hb2
    go_roundw
    case rel => exact ⟨k + 1,by omega,by go_num,hb12,HD.out⟩
    case measure => simp [intOf]; omega
  ·have HX : Hid (k = F.length):=by unfold Hid; omega
   go_wp2
   go_end0
   refine ⟨hbw,.inr ⟨?_,rfl⟩⟩
   rw [HE.out,HX.out,List.drop_of_length_le (by simp)]; rfl
end Go.Proofs.YtfpgjkbjbbgciaaGreatDoor
namespace Go.Proofs.YtfpgjkbjbbgciaaGreatDoor
open Go.RowKit Sp
theorem ze2 (w : World) (va vb : Value) (l : List Int) (ha : SlN w va l) (hb : SlN w vb l) (hn : l.length ≤ 1048577) :
  Calls Tryz.prog 39 #[va,vb] w fun e w' => e = .returned (.bool true) ∧ ∃ n,w' = w.drewN n:=by
 obtain ⟨ao,ca,rfl,hra⟩:=ha
 obtain ⟨bo,cb,rfl,hrb⟩:=hb
 go_enter Tryz.func39,Tryz.ntmps39
 go_wp2
 go_loopw [5] (fun ti wr => ∃ j n : Nat,j ≤ l.length ∧ ti = .int .i64 (j : Int) ∧ wr = w.drewN n) (fun ti _ => l.length - (intOf ti).toNat)
 case atStart => exact ⟨0,0,by omega,rfl,rfl⟩
 case round =>
  obtain ⟨j,n,hj,rfl,rfl⟩:=hrel
  by_cases hlt : j < l.length
  ·obtain ⟨ga,oa,rfl,hca⟩:=hra (by omega)
   obtain ⟨gb,ob,rfl,hcb⟩:=hrb (by omega)
   have c1 : (w.drewN n).cell? ⟨ga,oa + j,none⟩ = some (.int .i64 l[j]):=hca j hlt
   have c2 : (w.drewN n).cell? ⟨gb,ob + j,none⟩ = some (.int .i64 l[j]):=hcb j hlt
   have hn' : ∀ k,(w.drewN n).drewN k = w.drewN (n + k):=fun k => by rw [World.drewN_drewN]
   have HN : Hid (∀ k,(w.drewN n).drewN k = w.drewN (n + k)):=hn'
   clear hn' hca hcb hra hrb
   have hj0 : (0 : Int) ≤ (j : Int):=by omega
   have hj1 : (j : Int) < (l.length : Int):=by omega
   generalize l[j] = x at c1 c2
   generalize w.drewN n = W at c1 c2 HN ⊢
   go_wp2_with fail
   go_quiet (fail)
   go_wp2
   go_roundw
   case rel => exact ⟨j + 1,_,by omega,by go_num,HN.out nq⟩
   case measure => simp [intOf]; omega
  ·go_wp2
   go_ret
   exact ⟨rfl,n,rfl⟩
theorem zkd (w : World) (m : Mc) (oa ob : Option Addr) (na nb ca cb : Nat) (line : Int) (ha : SlN w (.slice oa na ca) m.out) (hb : SlN w (.slice ob nb cb) m.out) (hn : m.out.length ≤ 1048577) :
  Calls Tryz.prog 35 #[.agg (zai m (.slice oa na ca) line).toArray,.agg (zai m (.slice ob nb cb) line).toArray] w fun e w' => e = .returned (.bool true) ∧ Below w.heap.size w w':=by
 generalize hA : zai m (.slice oa na ca) line = A
 generalize hB : zai m (.slice ob nb cb) line = B
 have hu31 : Tryz.prog.underlying 31 = some (.array _ _):=Tryz.underlying31
 have hu32 : Tryz.prog.underlying 32 = some (.array _ _):=Tryz.underlying32
 go_enter Tryz.func35,Tryz.ntmps35
 go_wp2_with (first | (refine Go.Great.wpList_boxTo rfl 34 _ rfl _ rfl w.heap.size rfl A.toArray rfl ?_) | (refine Go.Great.wpList_boxTo rfl 34 _ rfl _ rfl (w.heap.size + 1) (by simp) B.toArray rfl ?_; refine Hid.out ?_))
 unfold Hid
 have r1 : ((w.alloc (.cells A.toArray 34)).alloc (.cells B.toArray 34)).rangeAt w.heap.size 0 A:=zjJ (zex w A 34) _ (by simp)
 have r2 : ((w.alloc (.cells A.toArray 34)).alloc (.cells B.toArray 34)).rangeAt (w.heap.size + 1) 0 B:=by
  have:=zex (w.alloc (.cells A.toArray 34)) B 34
  rwa [show (w.alloc (.cells A.toArray 34)).heap.size = w.heap.size + 1 by simp] at this
 have hlow : Below w.heap.size w ((w.alloc (.cells A.toArray 34)).alloc (.cells B.toArray 34)):=((Below.refl _ _).alloc (Nat.le_refl _) _).alloc (by simp) _
 have ha2:=SlN.alloc (SlN.alloc ha (.cells A.toArray 34)) (.cells B.toArray 34)
 have hb2:=SlN.alloc (SlN.alloc hb (.cells A.toArray 34)) (.cells B.toArray 34)
 generalize ((w.alloc (.cells A.toArray 34)).alloc (.cells B.toArray 34)) = W at r1 r2 hlow ha2 hb2 ⊢
 rw [← hA] at r1
 rw [← hB] at r2
 obtain ⟨a1,a2,a3,a4,a5,a6,a7,a8⟩:=StAt.of_range r1
 obtain ⟨b1,b2,b3,b4,b5,b6,b7,b8⟩:=StAt.of_range r2
 clear r1 r2 hA hB
 have hcall:=ze2 W _ _ _ ha2 hb2 hn
 have wa : ∀ i,i < 8 → W.cell? ⟨w.heap.size,1 + i,none⟩ = some (.int .i64 (m.regs i)):=fun i hi => a2 i _ (by simp [hi])
 have wb : ∀ i,i < 8 → W.cell? ⟨w.heap.size + 1,1 + i,none⟩ = some (.int .i64 (m.regs i)):=fun i hi => b2 i _ (by simp [hi])
 have xa : ∀ i,i < 16 → W.cell? ⟨w.heap.size,9 + i,none⟩ = some (.int .i64 (m.cells i)):=fun i hi => a3 i _ (by simp [hi])
 have xb : ∀ i,i < 16 → W.cell? ⟨w.heap.size + 1,9 + i,none⟩ = some (.int .i64 (m.cells i)):=fun i hi => b3 i _ (by simp [hi])
 have wa0 : W.cell? ⟨w.heap.size,1,none⟩ = some (.int .i64 (m.regs 0)):=wa 0 (by omega)
 have wb0 : W.cell? ⟨w.heap.size + 1,1,none⟩ = some (.int .i64 (m.regs 0)):=wb 0 (by omega)
 have wa1 : W.cell? ⟨w.heap.size,2,none⟩ = some (.int .i64 (m.regs 1)):=wa 1 (by omega)
 have wb1 : W.cell? ⟨w.heap.size + 1,2,none⟩ = some (.int .i64 (m.regs 1)):=wb 1 (by omega)
 have wa2 : W.cell? ⟨w.heap.size,3,none⟩ = some (.int .i64 (m.regs 2)):=wa 2 (by omega)
 have wb2 : W.cell? ⟨w.heap.size + 1,3,none⟩ = some (.int .i64 (m.regs 2)):=wb 2 (by omega)
 have wa3 : W.cell? ⟨w.heap.size,4,none⟩ = some (.int .i64 (m.regs 3)):=wa 3 (by omega)
 have wb3 : W.cell? ⟨w.heap.size + 1,4,none⟩ = some (.int .i64 (m.regs 3)):=wb 3 (by omega)
 have wa4 : W.cell? ⟨w.heap.size,5,none⟩ = some (.int .i64 (m.regs 4)):=wa 4 (by omega)
 have wb4 : W.cell? ⟨w.heap.size + 1,5,none⟩ = some (.int .i64 (m.regs 4)):=wb 4 (by omega)
 have wa5 : W.cell? ⟨w.heap.size,6,none⟩ = some (.int .i64 (m.regs 5)):=wa 5 (by omega)
 have wb5 : W.cell? ⟨w.heap.size + 1,6,none⟩ = some (.int .i64 (m.regs 5)):=wb 5 (by omega)
 have wa6 : W.cell? ⟨w.heap.size,7,none⟩ = some (.int .i64 (m.regs 6)):=wa 6 (by omega)
 have wb6 : W.cell? ⟨w.heap.size + 1,7,none⟩ = some (.int .i64 (m.regs 6)):=wb 6 (by omega)
 have wa7 : W.cell? ⟨w.heap.size,8,none⟩ = some (.int .i64 (m.regs 7)):=wa 7 (by omega)
 have wb7 : W.cell? ⟨w.heap.size + 1,8,none⟩ = some (.int .i64 (m.regs 7)):=wb 7 (by omega)
 have xa0 : W.cell? ⟨w.heap.size,9,none⟩ = some (.int .i64 (m.cells 0)):=xa 0 (by omega)
 have xb0 : W.cell? ⟨w.heap.size + 1,9,none⟩ = some (.int .i64 (m.cells 0)):=xb 0 (by omega)
 have xa1 : W.cell? ⟨w.heap.size,10,none⟩ = some (.int .i64 (m.cells 1)):=xa 1 (by omega)
 have xb1 : W.cell? ⟨w.heap.size + 1,10,none⟩ = some (.int .i64 (m.cells 1)):=xb 1 (by omega)
 have xa2 : W.cell? ⟨w.heap.size,11,none⟩ = some (.int .i64 (m.cells 2)):=xa 2 (by omega)
 have xb2 : W.cell? ⟨w.heap.size + 1,11,none⟩ = some (.int .i64 (m.cells 2)):=xb 2 (by omega)
 have xa3 : W.cell? ⟨w.heap.size,12,none⟩ = some (.int .i64 (m.cells 3)):=xa 3 (by omega)
 have xb3 : W.cell? ⟨w.heap.size + 1,12,none⟩ = some (.int .i64 (m.cells 3)):=xb 3 (by omega)
 have xa4 : W.cell? ⟨w.heap.size,13,none⟩ = some (.int .i64 (m.cells 4)):=xa 4 (by omega)
 have xb4 : W.cell? ⟨w.heap.size + 1,13,none⟩ = some (.int .i64 (m.cells 4)):=xb 4 (by omega)
 have xa5 : W.cell? ⟨w.heap.size,14,none⟩ = some (.int .i64 (m.cells 5)):=xa 5 (by omega)
 have xb5 : W.cell? ⟨w.heap.size + 1,14,none⟩ = some (.int .i64 (m.cells 5)):=xb 5 (by omega)
 have xa6 : W.cell? ⟨w.heap.size,15,none⟩ = some (.int .i64 (m.cells 6)):=xa 6 (by omega)
 have xb6 : W.cell? ⟨w.heap.size + 1,15,none⟩ = some (.int .i64 (m.cells 6)):=xb 6 (by omega)
 have xa7 : W.cell? ⟨w.heap.size,16,none⟩ = some (.int .i64 (m.cells 7)):=xa 7 (by omega)
 have xb7 : W.cell? ⟨w.heap.size + 1,16,none⟩ = some (.int .i64 (m.cells 7)):=xb 7 (by omega)
 have xa8 : W.cell? ⟨w.heap.size,17,none⟩ = some (.int .i64 (m.cells 8)):=xa 8 (by omega)
 have xb8 : W.cell? ⟨w.heap.size + 1,17,none⟩ = some (.int .i64 (m.cells 8)):=xb 8 (by omega)
 have xa9 : W.cell? ⟨w.heap.size,18,none⟩ = some (.int .i64 (m.cells 9)):=xa 9 (by omega)
 have xb9 : W.cell? ⟨w.heap.size + 1,18,none⟩ = some (.int .i64 (m.cells 9)):=xb 9 (by omega)
 have xa10 : W.cell? ⟨w.heap.size,19,none⟩ = some (.int .i64 (m.cells 10)):=xa 10 (by omega)
 have xb10 : W.cell? ⟨w.heap.size + 1,19,none⟩ = some (.int .i64 (m.cells 10)):=xb 10 (by omega)
 have xa11 : W.cell? ⟨w.heap.size,20,none⟩ = some (.int .i64 (m.cells 11)):=xa 11 (by omega)
 have xb11 : W.cell? ⟨w.heap.size + 1,20,none⟩ = some (.int .i64 (m.cells 11)):=xb 11 (by omega)
 have xa12 : W.cell? ⟨w.heap.size,21,none⟩ = some (.int .i64 (m.cells 12)):=xa 12 (by omega)
 have xb12 : W.cell? ⟨w.heap.size + 1,21,none⟩ = some (.int .i64 (m.cells 12)):=xb 12 (by omega)
 have xa13 : W.cell? ⟨w.heap.size,22,none⟩ = some (.int .i64 (m.cells 13)):=xa 13 (by omega)
 have xb13 : W.cell? ⟨w.heap.size + 1,22,none⟩ = some (.int .i64 (m.cells 13)):=xb 13 (by omega)
 have xa14 : W.cell? ⟨w.heap.size,23,none⟩ = some (.int .i64 (m.cells 14)):=xa 14 (by omega)
 have xb14 : W.cell? ⟨w.heap.size + 1,23,none⟩ = some (.int .i64 (m.cells 14)):=xb 14 (by omega)
 have xa15 : W.cell? ⟨w.heap.size,24,none⟩ = some (.int .i64 (m.cells 15)):=xa 15 (by omega)
 have xb15 : W.cell? ⟨w.heap.size + 1,24,none⟩ = some (.int .i64 (m.cells 15)):=xb 15 (by omega)
 have e31:=fun w => zrP (m.regs 0) (m.regs 1) (m.regs 2) (m.regs 3) (m.regs 4) (m.regs 5) (m.regs 6) (m.regs 7) w
 have e32:=fun w => zrQ (m.cells 0) (m.cells 1) (m.cells 2) (m.cells 3) (m.cells 4) (m.cells 5) (m.cells 6) (m.cells 7) (m.cells 8) (m.cells 9) (m.cells 10) (m.cells 11) (m.cells 12) (m.cells 13) (m.cells 14) (m.cells 15) w
 clear wa wb xa xb a2 a3 b2 b3 ha hb ha2 hb2
 generalize m.regs 0 = r0 at *; generalize m.regs 1 = r1 at *; generalize m.regs 2 = r2 at *; generalize m.regs 3 = r3 at *; generalize m.regs 4 = r4 at *; generalize m.regs 5 = r5 at *; generalize m.regs 6 = r6 at *; generalize m.regs 7 = r7 at *
 generalize m.cells 0 = c0 at *; generalize m.cells 1 = c1 at *; generalize m.cells 2 = c2 at *; generalize m.cells 3 = c3 at *; generalize m.cells 4 = c4 at *; generalize m.cells 5 = c5 at *; generalize m.cells 6 = c6 at *; generalize m.cells 7 = c7 at *; generalize m.cells 8 = c8 at *; generalize m.cells 9 = c9 at *; generalize m.cells 10 = c10 at *; generalize m.cells 11 = c11 at *; generalize m.cells 12 = c12 at *; generalize m.cells 13 = c13 at *; generalize m.cells 14 = c14 at *; generalize m.cells 15 = c15 at *
 go_wp2_with (first | (go_at_call 39; refine hcall.mono ?_; rintro e w2 ⟨rfl,n,rfl⟩))
 go_ret
 exact ⟨rfl,hlow.trans ((zdQ W n).mono hlow.size)⟩
theorem zk6 {F : List FnM} {G : List Fn} (hG : Hid (F.map FnM.fn = G)) : F.map FnM.name = G.map Fn.name:=by
 rw [← hG.out,zhp]
theorem PIn.alloc {B : Nat} {w : World} {pm : Nat} {v : Value} {F : List FnM} (h : PIn B w pm v F) (o : Obj) : PIn B (w.alloc o) pm v F:=h.of_blocks fun _b _ hb => Below.heap_alloc _ _ _ hb
theorem PIn.below {B : Nat} {w w' : World} {pm : Nat} {v : Value} {F : List FnM} (h : PIn B w pm v F) (hb : Below w.heap.size w w') : PIn B w' pm v F:=h.of_blocks fun b _ hl => hb.block b hl
theorem zsq {B : Nat} {w : World} {pm : Nat} {v : Value} {F : List FnM} {G : List Fn} (h : PIn B w pm v F) (hG : Hid (F.map FnM.fn = G)) (hF : 0 < F.length) (hn : F.length ≤ 300) (hb : ∀ f ∈ F,f.its.length ≤ 300 ∧ ∀ i ∈ f.its,ItOk i) (l : Int) (hm : Hid (zbI (G.map Fn.name) G = some l)) :
  Calls Tryz.prog 69 #[.agg #[v,.map (some pm)]] w fun e w' => e = zap 4 l ∧ Below w.heap.size w w':=by
 have:=zgP w B pm v F h hF hn hb
 rw [zk6 hG,hG.out] at this
 refine this.mono ?_
 rintro e w' ⟨hbb,⟨l',h1,h2⟩ | ⟨h1,_⟩⟩
 ·rw [hm.out] at h1; cases h1; exact ⟨h2,hbb⟩
 ·rw [hm.out] at h1; cases h1
theorem zqs {B : Nat} {w : World} {pm : Nat} {v : Value} {F : List FnM} {G : List Fn} (h : PIn B w pm v F) (hG : Hid (F.map FnM.fn = G)) (hF : 0 < F.length) (hn : F.length ≤ 300) (hb : ∀ f ∈ F,f.its.length ≤ 300 ∧ ∀ i ∈ f.its,ItOk i) (hm : Hid (zbI (G.map Fn.name) G = none)) :
  Calls Tryz.prog 69 #[.agg #[v,.map (some pm)]] w fun e w' => e = .returned (.tuple #[]) ∧ Below w.heap.size w w':=by
 have:=zgP w B pm v F h hF hn hb
 rw [zk6 hG,hG.out] at this
 refine this.mono ?_
 rintro e w' ⟨hbb,⟨l',h1,h2⟩ | ⟨_,h1⟩⟩
 ·rw [hm.out] at h1; cases h1
 ·exact ⟨h1,hbb⟩
theorem zrR {B : Nat} {w : World} {pm : Nat} {v : Value} {F : List FnM} {G : List Fn} (h : PIn B w pm v F) (hG : Hid (F.map FnM.fn = G)) (hF : 0 < F.length) (hn : F.length ≤ 300) (hb : ∀ f ∈ F,f.its.length ≤ 300 ∧ ∀ i ∈ f.its,ItOk i) (l : Int) (hm : Hid (endK G = some l)) :
  Calls Tryz.prog 70 #[.agg #[v,.map (some pm)]] w fun e w' => e = zap 5 l ∧ Below w.heap.size w w':=by
 have:=zit w B pm v F h hF hn hb
 rw [hG.out] at this
 refine this.mono ?_
 rintro e w' ⟨hbb,⟨l',h1,h2⟩ | ⟨h1,_⟩⟩
 ·rw [hm.out] at h1; cases h1; exact ⟨h2,hbb⟩
 ·rw [hm.out] at h1; cases h1
theorem zrb {B : Nat} {w : World} {pm : Nat} {v : Value} {F : List FnM} {G : List Fn} (h : PIn B w pm v F) (hG : Hid (F.map FnM.fn = G)) (hF : 0 < F.length) (hn : F.length ≤ 300) (hb : ∀ f ∈ F,f.its.length ≤ 300 ∧ ∀ i ∈ f.its,ItOk i) (hm : Hid (endK G = none)) :
  Calls Tryz.prog 70 #[.agg #[v,.map (some pm)]] w fun e w' => e = .returned (.tuple #[]) ∧ Below w.heap.size w w':=by
 have:=zit w B pm v F h hF hn hb
 rw [hG.out] at this
 refine this.mono ?_
 rintro e w' ⟨hbb,⟨l',h1,h2⟩ | ⟨_,h1⟩⟩
 ·rw [hm.out] at h1; cases h1
 ·exact ⟨h1,hbb⟩
theorem zp6 (F : List Fn) (k : Key) (h : 0 < F.length) : 0 < (addK F k).length:=by
 unfold addK
 split
 ·simp
 ·split
  ·exact h
  ·simp
theorem zp7 (K : List Key) (F : List Fn) (h : 0 < F.length) : 0 < (K.foldl addK F).length:=by
 induction K generalizing F with
 | nil => exact h
 | cons k r ih => exact ih _ (zp6 F k h)
theorem zeN (k : Key) (r : List Key) (hs : k.sort = 0) : 0 < ((k :: r).foldl addK []).length:=by
 rw [List.foldl_cons,zbB _ _ hs]
 exact zp7 r _ (by simp)
theorem zk7 {w w' : World} {a b : Value} (hb : Below (w.alloc (.cells #[a,b] 83)).heap.size (w.alloc (.cells #[a,b] 83)) w') :
  w'.cell? ⟨w.heap.size,0,none⟩ = some a ∧ w'.cell? ⟨w.heap.size,1,none⟩ = some b ∧ w'.frozen? ⟨w.heap.size,0,none⟩ = false ∧ w'.frozen? ⟨w.heap.size,1,none⟩ = false:=by
 have hh : w'.heap[w.heap.size]? = some (.cells #[a,b] 83 (0,0)):=(hb.block _ (by simp)).trans (heap_alloc_new w _)
 exact ⟨by rw [cell_of_row w' _ 0 _ _ _ hh]; rfl,by rw [cell_of_row w' _ 1 _ _ _ hh]; rfl,frozen_of_row w' _ 0 _ _ hh,frozen_of_row w' _ 1 _ _ hh⟩
theorem zlX (s : ByteArray) (k : Key) (r : List Key) (h : Sts s (k :: r)) (hs : k.sort = 0) (ht : za5 [] (k :: r) = none) (G : List Fn) (hG : (k :: r).foldl addK [] = G) (l : Int) (hm : zbI (G.map Fn.name) G = some l) : zcz s (4,l):=by
 intro w hw
 have hw1 : LibW (w.alloc Z33):=hw.below ((Below.refl _ _).alloc (Nat.le_refl _) _)
 have hcall:=zbJ s (w.alloc Z33) h.h4 h.h3
 have hcall2:=h.begins hs (w.alloc Z33) hw1
 have HT : Hid (za5 [] (k :: r) = none):=ht
 have HG : Hid ((k :: r).foldl addK [] = G):=hG
 have HM : Hid (zbI (G.map Fn.name) G = some l):=hm
 have hG0 : 0 < G.length:=by rw [← hG]; exact zeN k r hs
 clear h hs ht hG hm
 generalize k :: r = K at hcall2 HT HG
 go_enter Tryz.func44,Tryz.ntmps44
 go_wp2_with (first
  | (go_at_call 65; refine hcall.mono ?_; rintro e w1 ⟨rfl,hww⟩; subst hww)
  | (go_at_call 66; refine hcall2.mono ?_; rintro e w2 ⟨hb2,v,i,t,rfl,hown,hk,hl,hnm,hns⟩)
  | (go_at_call 67; refine (zfu w2 _ v i t hown hl hns).mono ?_; rintro e w3 ⟨rfl,hww⟩; have h2:=hww.symm; subst h2)
  | (go_at_call 68; refine (zjA _ _ v i t K hown hk hl hnm hns HT G HG hG0).mono ?_; rintro e w4 ⟨hb4,pm,ao,n,cap,F,rfl,hpin,hFG,hF0,hFn,hFi⟩)
  | (go_at_call 69; refine (zsq (hpin.alloc _) hFG hF0 hFn hFi l HM).mono ?_; rintro e w5 ⟨rfl,hb5⟩))
 exact ⟨rfl,((zaA _ _ hb2).trans (hb4.mono (zaA _ _ hb2).size)).trans ((zaA _ _ hb5).mono ((zaA _ _ hb2).trans (hb4.mono (zaA _ _ hb2).size)).size),.inr ⟨by simp,rfl⟩⟩
theorem zn9 (s : ByteArray) (k : Key) (r : List Key) (h : Sts s (k :: r)) (hs : k.sort = 0) (ht : za5 [] (k :: r) = none) (G : List Fn) (hG : (k :: r).foldl addK [] = G) (hm : zbI (G.map Fn.name) G = none) (l : Int) (he : endK G = some l) : zcz s (5,l):=by
 intro w hw
 have hw1 : LibW (w.alloc Z33):=hw.below ((Below.refl _ _).alloc (Nat.le_refl _) _)
 have hcall:=zbJ s (w.alloc Z33) h.h4 h.h3
 have hcall2:=h.begins hs (w.alloc Z33) hw1
 have HT : Hid (za5 [] (k :: r) = none):=ht
 have HG : Hid ((k :: r).foldl addK [] = G):=hG
 have HM : Hid (zbI (G.map Fn.name) G = none):=hm
 have HE : Hid (endK G = some l):=he
 have hG0 : 0 < G.length:=by rw [← hG]; exact zeN k r hs
 clear h hs ht hG hm he
 generalize k :: r = K at hcall2 HT HG
 go_enter Tryz.func44,Tryz.ntmps44
 go_wp2_with (first
  | (go_at_call 65; refine hcall.mono ?_; rintro e w1 ⟨rfl,hww⟩; subst hww)
  | (go_at_call 66; refine hcall2.mono ?_; rintro e w2 ⟨hb2,v,i,t,rfl,hown,hk,hl,hnm,hns⟩)
  | (go_at_call 67; refine (zfu w2 _ v i t hown hl hns).mono ?_; rintro e w3 ⟨rfl,hww⟩; have h2:=hww.symm; subst h2)
  | (go_at_call 68; refine (zjA _ _ v i t K hown hk hl hnm hns HT G HG hG0).mono ?_; rintro e w4 ⟨hb4,pm,ao,n,cap,F,rfl,hpin,hFG,hF0,hFn,hFi⟩)
  | (go_at_call 69; refine (zqs (hpin.alloc _) hFG hF0 hFn hFi HM).mono ?_; rintro e w5 ⟨rfl,hb5⟩; obtain ⟨t0,t1,_,_⟩:=zk7 hb5)
  | (go_at_call 70; refine (zrR ((hpin.alloc _).below hb5) hFG hF0 hFn hFi l HE).mono ?_; rintro e w6 ⟨rfl,hb6⟩))
 exact ⟨rfl,((zaA _ _ hb2).trans (hb4.mono (zaA _ _ hb2).size)).trans ((zaA _ _ (hb5.trans (hb6.mono hb5.size))).mono ((zaA _ _ hb2).trans (hb4.mono (zaA _ _ hb2).size)).size),.inr ⟨by simp,rfl⟩⟩
theorem zgS (s : ByteArray) (k : Key) (r : List Key) (h : Sts s (k :: r)) (hs : k.sort = 0) (ht : za5 [] (k :: r) = none) (G : List Fn) (hG : (k :: r).foldl addK [] = G) (hm : zbI (G.map Fn.name) G = none) (he : endK G = none) (w : World) (hw : LibW w) :
  Calls Tryz.prog 44 #[.string s] w fun e w' => Below w.heap.size w w' ∧ ∃ pm ao n cap F,e = .returned (.agg #[.slice ao n cap,.map (some pm)]) ∧ PIn w.heap.size w' pm (.slice ao n cap) F ∧ Hid (F.map FnM.fn = G) ∧ 0 < F.length ∧ F.length ≤ 300 ∧ (∀ f ∈ F,f.its.length ≤ 300 ∧ ∀ i ∈ f.its,ItOk i):=by
 have hw1 : LibW (w.alloc Z33):=hw.below ((Below.refl _ _).alloc (Nat.le_refl _) _)
 have hcall:=zbJ s (w.alloc Z33) h.h4 h.h3
 have hcall2:=h.begins hs (w.alloc Z33) hw1
 have HT : Hid (za5 [] (k :: r) = none):=ht
 have HG : Hid ((k :: r).foldl addK [] = G):=hG
 have HM : Hid (zbI (G.map Fn.name) G = none):=hm
 have HE : Hid (endK G = none):=he
 have hG0 : 0 < G.length:=by rw [← hG]; exact zeN k r hs
 clear h hs ht hG hm he
 generalize k :: r = K at hcall2 HT HG
 go_enter Tryz.func44,Tryz.ntmps44
 go_wp2_with (first
  | (go_at_call 65; refine hcall.mono ?_; rintro e w1 ⟨rfl,hww⟩; subst hww)
  | (go_at_call 66; refine hcall2.mono ?_; rintro e w2 ⟨hb2,v,i,t,rfl,hown,hk,hl,hnm,hns⟩)
  | (go_at_call 67; refine (zfu w2 _ v i t hown hl hns).mono ?_; rintro e w3 ⟨rfl,hww⟩; have h2:=hww.symm; subst h2)
  | (go_at_call 68; refine (zjA _ _ v i t K hown hk hl hnm hns HT G HG hG0).mono ?_; rintro e w4 ⟨hb4,pm,ao,n,cap,F,rfl,hpin,hFG,hF0,hFn,hFi⟩)
  | (go_at_call 69; refine (zqs (hpin.alloc _) hFG hF0 hFn hFi HM).mono ?_; rintro e w5 ⟨rfl,hb5⟩; obtain ⟨t0,t1,_,_⟩:=zk7 hb5)
  | (go_at_call 70; refine (zrb ((hpin.alloc _).below hb5) hFG hF0 hFn hFi HE).mono ?_; rintro e w6 ⟨rfl,hb6⟩; have hb56:=hb5.trans (hb6.mono hb5.size); have hbz:=zaA _ _ hb56; have hz:=(hb2.trans (hb4.mono hb2.size)).trans (hbz.mono (hb2.trans (hb4.mono hb2.size)).size); obtain ⟨s0,s1,_,_⟩:=zk7 hb56; obtain ⟨r0,r1,f0,f1⟩:=zk7 hz))
 have q0:=World.cell?_setCell_same (w6.setCell ⟨w.heap.size,0,none⟩ (.slice ao n cap)) ⟨w.heap.size,1,none⟩ (.map (some pm)) (u:=.map none) (by rw [World.cell?_setCell_other]; exact r1; simp)
 have q1 : ((w6.setCell ⟨w.heap.size,0,none⟩ (.slice ao n cap)).setCell ⟨w.heap.size,1,none⟩ (.map (some pm))).cell? ⟨w.heap.size,0,none⟩ = some (.slice ao n cap):=by
  rw [World.cell?_setCell_other]
  ·exact World.cell?_setCell_same w6 _ _ r0
  ·simp
 refine bodyPost_ret (v:=.agg #[.slice ao n cap,.map (some pm)]) (by simp [results,Tryz.results44,go_sem,q0,q1]) rfl ⟨?_,pm,ao,n,cap,F,rfl,?_,hFG,hF0,hFn,hFi⟩
 ·exact ((zaA _ _ hz).setCell (p:=⟨w.heap.size,0,none⟩) (Nat.le_refl _) _).setCell (p:=⟨w.heap.size,1,none⟩) (Nat.le_refl _) _
 ·have hw4 : (w.alloc Z33).heap.size ≤ w2.heap.size:=hb2.size
  have hz3 : (w.alloc Z33).heap.size = w.heap.size + 1:=by simp
  have p6:=((hpin.alloc (.cells #[.slice ao n cap,.map (some pm)] 83)).below hb56)
  exact (p6.of_blocks (w':=((w6.setCell ⟨w.heap.size,0,none⟩ (.slice ao n cap)).setCell ⟨w.heap.size,1,none⟩ (.map (some pm)))) (fun b hb _ => by rw [Below.heap_setCell _ _ _ _ (by show ¬ b = w.heap.size; omega),Below.heap_setCell _ _ _ _ (by show ¬ b = w.heap.size; omega)])).mono (by omega)
theorem zp8 (s : ByteArray) (k : Key) (r : List Key) (h : Sts s (k :: r)) (hs : k.sort = 0) (ht : za5 [] (k :: r) = none) (G : List Fn) (hG : (k :: r).foldl addK [] = G) (hm : zbI (G.map Fn.name) G = none) (he : endK G = none) : zcz s (0,0):=by
 intro w hw
 refine (zgS s k r h hs ht G hG hm he w hw).mono ?_
 rintro e w' ⟨hb,pm,ao,n,cap,F,rfl,_⟩
 exact ⟨hb,.inl ⟨rfl,_,rfl⟩⟩
theorem znA (s : ByteArray) (hs : s.size ≤ 9223372036854775807) : zcz s (zd1 s):=by
 unfold zd1
 by_cases h : 4000 < s.size ∨ 300 < (lines s).length
 ·rw [if_pos h]; exact znq s hs h
 ·rw [if_neg h]
  have h4 : s.size ≤ 4000:=by omega
  have h3 : (lines s).length ≤ 300:=by omega
  by_cases hok : ∀ x ∈ lines s,(say x).ok = true
  ·rw [zdt _ hok 0,zds _ hok]
   have S : Sts s (za8 (lines s) (lines s).length):=⟨h4,h3,hok,rfl⟩
   generalize za8 (lines s) (lines s).length = K at S
   cases K with
   | nil => exact zlC s S
   | cons k r =>
    unfold sayK
    dsimp only
    by_cases h0 : k.sort = 0
    ·rw [if_pos h0]
     cases ht : za5 [] (k :: r) with
     | some l => exact zjB s k r S h0 l ht
     | none =>
      generalize hG : (k :: r).foldl addK [] = G
      cases hm : zbI (G.map Fn.name) G with
      | some l => exact zlX s k r S h0 ht G hG l hm
      | none =>
       cases he : endK G with
       | some l => exact zn9 s k r S h0 ht G hG hm l he
       | none => exact zp8 s k r S h0 ht G hG hm he
    ·rw [if_neg h0]
     exact zj9 s k r S h0
  ·exact zpr s h4 h3 hok
end Go.Proofs.YtfpgjkbjbbgciaaGreatDoor
