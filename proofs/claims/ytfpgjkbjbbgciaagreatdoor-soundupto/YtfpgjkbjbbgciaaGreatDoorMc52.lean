import Derived.Test.YtfpgjkbjbbgciaaGreatDoorMc50
set_option maxRecDepth 100000
set_option maxHeartbeats 8000000
namespace Go.Proofs.YtfpgjkbjbbgciaaGreatDoor
open Go.RowKit Sp
def zdP (w : World) (L : List Said) (R : Int × Int) : Ending → World → Prop:=fun e w' =>
 ∃ v,e = .returned (.tuple #[v,.int .i64 R.1,.int .i64 R.2]) ∧ Below w.heap.size w w' ∧ (R.1 = 0 → ∃ g cap,v = .slice (some ⟨g,0,none⟩) L.length cap ∧ w.heap.size ≤ g ∧ LinesIn w' g L)
theorem zb2 {w w' : World} {L : List Said} {R : Int × Int} {a b : Int} (h : R = (a,b)) (ha : ¬ a = 0) (hb : Below w.heap.size w w') : zdP w L R (.returned (.tuple #[.slice none 0 0,.int .i64 a,.int .i64 b])) w':=by
 subst h; exact ⟨_,rfl,hb,fun h => absurd h ha⟩
theorem zfQ (s : ByteArray) (w : World) (hs : s.size ≤ 1048576) :
  Calls Tryz.prog 45 #[.string s] w fun e w' => ∃ g cap,e = .returned (.slice (some ⟨g,0,none⟩) (lines s).length cap) ∧ (lines s).length ≤ cap ∧ cap ≤ maxLen ∧ w.heap.size ≤ g ∧ g < w'.heap.size ∧ (∀ j (hj : j < (lines s).length),w'.cell? ⟨g,j,none⟩ = some (.string (lines s)[j])) ∧ Below w.heap.size w w':=by
 refine (zqf s w hs).mono ?_
 rintro e w' ⟨v,rfl,hown,hb⟩
 obtain ⟨g,cap,rfl,h1,h2,h3,h4,h5⟩:=zna hown (by have:=zfu s; omega)
 exact ⟨g,cap,rfl,h1,h2,h3,h4,h5,hb⟩
theorem zki (x : ByteArray) (w : World) (hs : x.size ≤ 1048576) (q : Said) (hq : Hid (say x = q)) :
  Calls Tryz.prog 46 #[.string x] w fun e w' => ∃ ao m c,e = .returned (.tuple #[.agg #[.int .u8 q.kind,.slice ao m c],.bool q.ok]) ∧ w'.ownsRow w.heap.size 9 1 (.slice ao m c) q.kept.length (q.kept.map Value.string) ∧ Below w.heap.size w w':=by
 refine (zuQ x w hs).mono ?_
 rw [hq.out]
 rintro e w' ⟨v,rfl,hown,hb⟩
 rcases hown.2 with ⟨h1,_⟩ | ⟨g,cap,cur,hv,_⟩
 ·subst h1; exact ⟨_,_,_,rfl,hown,hb⟩
 ·subst hv; exact ⟨_,_,_,rfl,hown,hb⟩
theorem ztp (x : ByteArray) : 0 ≤ (say x).kind ∧ (say x).kind ≤ 255:=by
 unfold say sayW
 repeat' split
 all_goals exact ⟨by simp,by simp⟩
theorem zqH (w : World) (o : Obj) (a b : Value) (t : TypeId) : ∀ j u,[a,b][j]? = some u → ((w.alloc o).alloc (.cells #[a,b] t)).cell? ((⟨w.heap.size + 1,0,none⟩ : Addr).add j) = some u:=by
 intro j u hj
 match j,hj with
 | 0,hj => simp at hj; subst hj; simp [Addr.add]
 | 1,hj => simp at hj; subst hj; simp [Addr.add]
theorem zvc (k : Int) (ao : Option Addr) (m c : Nat) : ∀ u ∈ [Value.int .u8 k,Value.slice ao m c],u.oneCell' = true:=by
 intro u hu
 simp at hu
 rcases hu with rfl | rfl <;> rfl
theorem ztq (s : ByteArray) (w : World) (hs : s.size ≤ 1048576) (h : 4000 < s.size ∨ 300 < (lines s).length) :
  Calls Tryz.prog 16 #[.string s] w (zdP w ((lines s).map say) (zbN s)):=by
 have HR : Hid (zbN s = (6,0)):=by unfold Hid zbN; rw [if_pos h]
 have hl:=zfu s
 by_cases h4 : 4000 < s.size
 ·go_enter Tryz.func16,Tryz.ntmps16
  go_wp2_with (go_at_call 45; refine (zfQ s _ hs).mono ?_; rintro e w1 ⟨g,cap,rfl,hcap,hmx,hg,hg2,hcl,hb⟩)
  go_ret3
  exact zb2 HR.out (by decide) hb
 ·have h3 : 300 < (lines s).length:=by omega
  go_enter Tryz.func16,Tryz.ntmps16
  go_wp2_with (go_at_call 45; refine (zfQ s _ hs).mono ?_; rintro e w1 ⟨g,cap,rfl,hcap,hmx,hg,hg2,hcl,hb⟩)
  go_ret3
  exact zb2 HR.out (by decide) hb
theorem zqI (s : ByteArray) (w : World) (h4 : s.size ≤ 4000) (h3 : (lines s).length ≤ 300) :
  Calls Tryz.prog 16 #[.string s] w (zdP w ((lines s).map say) (zbN s)):=by
 obtain ⟨i0,hi,hz0,hz1,hz2⟩:=info_parts Tryz.info87
 have hR : zbN s = zb1 (lines s) 0:=by unfold zbN; rw [if_neg (by omega)]
 generalize hRR : zbN s = R at hR
 have HR : Hid (R = zb1 (lines s) 0):=hR
 clear hR hRR
 have hl:=zfu s
 have hsz:=zdN s
 have hcall:=zfQ s w (by omega)
 generalize lines s = A at h3 HR hl hsz hcall ⊢
 obtain ⟨hl1,hl2⟩:=hl
 go_enter Tryz.func16,Tryz.ntmps16
 go_wp2_with (go_at_call 45; refine hcall.mono ?_; rintro e w1 ⟨g,cap,rfl,hcap,hmx,hg,hg2,hcl,hb⟩)
 clear hcall
 go_loopw [6,7] (fun v ti wr => ∃ (k : Nat) (P : List (Said × Value)),k ≤ A.length ∧ ti = .int .i64 (k : Int) ∧ P.length = k ∧ P.map Prod.fst = (A.take k).map say ∧ (∀ p ∈ P,Wf p.1) ∧ RowsIn w1.heap.size wr v P ∧ Below w1.heap.size w1 wr ∧ R = zb1 A k) (fun _ ti _ => A.length - (intOf ti).toNat)
 case atStart => exact ⟨0,[],by omega,rfl,rfl,by simp,by simp,⟨World.ownsRow_nil _ _ _ _,by simp⟩,Below.refl _ _,HR.out⟩
 case round =>
  obtain ⟨k,P,hk,rfl,hPl,hPm,hPw,hrows,hbr,hRk⟩:=hrel
  have HPl : Hid (P.length = k):=hPl
  have HPm : Hid (P.map Prod.fst = (A.take k).map say):=hPm
  clear HR hPl hPm
  have HR : Hid (R = zb1 A k):=hRk
  clear hRk
  have hsw:=hbr.size
  by_cases hlt : k < A.length
  ·have hck:=(hbr.cell (p:=⟨g,k,none⟩) hg2).trans (hcl k hlt)
   have hAk:=hsz A[k] (List.getElem_mem hlt)
   have HW : Hid ((say A[k]).ok = true → Wf (say A[k])):=zqc A[k]
   have hkd:=ztp A[k]
   have HS0 : Hid (say A[k] = say A[k]):=rfl
   have HB : Hid ((say A[k]).ok = false → R = (1,(k : Int) + 1)):=fun h => HR.out.trans (zd7 A k hlt h)
   have HO : Hid ((say A[k]).ok = true → R = zb1 A (k + 1)):=fun h => HR.out.trans (ze5 A k hlt h)
   have HM : Hid (P.map Prod.fst ++ [say A[k]] = (A.take (k + 1)).map say):=by
    unfold Hid; rw [HPm.out,List.take_succ_eq_append_getElem hlt,List.map_append]; rfl
   generalize hq : say A[k] = q at HW hkd HB HO HM
   have HS : Hid (say A[k] = q):=hq
   clear hq HS0
   obtain ⟨hkd0,hkd1⟩:=hkd
   cases hok : q.ok with
   | false =>
    go_wp2_with (go_at_call 46; refine (zki A[k] _ (by omega) q HS).mono ?_; rintro e w2 ⟨ao,m,c,rfl,hown2,hb2⟩)
    go_ret3
    refine zb2 (HB.out hok) (by decide) ?_
    exact (hb.trans (((hbr.mono (by have:=hb.size; omega)).trans (hb2.mono (by have:=hb.size; omega))))).alloc (by have:=hb.size; have:=hb2.size; omega) _
   | true =>
    have hPlen:=HPl.out
    have hPb : P.length ≤ 300:=by omega
    clear hPlen
    go_wp2_with (first
     | (go_at_call 46; refine (zki A[k] _ (by omega) q HS).mono ?_; rintro e w2 ⟨ao,m,c,rfl,hown2,hb2⟩; have hrows2:=hrows.below hb2 (Nat.le_refl _); have hsz2:=hb2.size)
     | (at_builtin; refine wpList_append_own _ rfl _ _ 25 rfl w1.heap.size 87 i0 (.agg #[.int .u8 0,.slice none 0 0]) 2 32 Tryz.under25 hi hz0 hz1 hz2 rfl (by decide) _ _ _ rfl ((hrows2.alloc _).alloc _).row ⟨w2.heap.size + 1,0,none⟩ 1 1 [.int .u8 q.kind,.slice ao m c] rfl rfl (zqH _ _ _ _ _) (zvc _ _ _ _) (by unfold maxLen; omega) (by omega) (by simp; omega) ?_))
    intro v' w3 hown' hgrow _
    have hrows3:=((hrows2.alloc _).alloc _).grown ((zcR hown2 hsw).alloc _ |>.alloc _) hgrow hown'
    have hb3 : Below w1.heap.size w1 w3:=(((hbr.trans (hb2.mono hsw)).alloc (by omega) _).alloc (by simp; omega) _).grown hgrow (by simp; omega) (fun j hj => (hrows.row.lt j hj).1)
    clear hgrow hown' hrows2 hown2 hrows hb2
    go_wp2
    go_roundw
    case rel => exact ⟨k + 1,P ++ [(q,.slice ao m c)],by omega,by go_num,by have:=HPl.out; simp; omega,by rw [List.map_append]; exact HM.out,by
     intro p hp
     rw [List.mem_append] at hp
     rcases hp with hp | hp
     ·exact hPw p hp
     ·simp at hp; subst hp; exact HW.out hok,hrows3,hb3,HO.out hok⟩
    case measure => simp [intOf]; omega
  ·have hPlen:=HPl.out
   have hkA : k = A.length:=by omega
   have hLm : P.map Prod.fst = A.map say:=by rw [HPm.out,hkA,List.take_length]
   obtain ⟨g2,cap2,hv2,hg22,hlines⟩:=hrows.lines (by omega) hPw
   rw [hLm] at hlines
   have hPA : P.length = (A.map say).length:=by rw [← hLm]; simp
   rw [hPA] at hv2
   have HR2 : Hid (R = zba (A.map say) 0):=HR.out.trans (zft A k hlt)
   have hbw : Below w.heap.size w wr:=hb.trans (hbr.mono hb.size)
   have hLl : (A.map say).length ≤ 300:=by simpa using h3
   have hg2w : w.heap.size ≤ g2:=by have:=hb.size; omega
   have hlt' : A.length ≤ k:=by omega
   clear hPA hLm HPl HPm HR hPlen hPw hkA hlt
   obtain ⟨L,hLd⟩ : ∃ L,L = A.map say:=⟨_,rfl⟩
   rw [← hLd] at hlines HR2 hLl hv2
   have HLd : Hid (L = A.map say):=hLd
   clear hLd
   rw [hv2]
   clear hcl hrows hsz
   go_wp2
   go_loop [10] (fun t => ∃ j : Nat,j ≤ L.length ∧ t = .int .i64 (j : Int) ∧ R = zba L j) (fun t => L.length - (intOf t).toNat)
   case atStart => exact ⟨0,by omega,rfl,HR2.out⟩
   case round =>
    obtain ⟨j,hj,rfl,hRj⟩:=hrel
    clear HR2
    have HR : Hid (R = zba L j):=hRj
    clear hRj
    by_cases hjlt : j < L.length
    ·have hc:=hlines.kind j hjlt
     have hkb:=zdw (hlines.wf j hjlt)
     cases h0 : (L[j].kind == 0) with
     | true =>
      have HQ : Hid (R = zba L (j + 1)):=HR.out.trans (ze4 L j hjlt (by simpa using h0))
      go_wp2
      go_round
      case rel => exact ⟨j + 1,by omega,by go_num,HQ.out⟩
      case measure => simp [intOf]; omega
     | false =>
      have hje : ((j : Int) == (L.length : Int)) = false:=by simp; omega
      cases h102 : (L[j].kind != 102) with
      | true =>
       have HQ : Hid (R = (2,(j : Int) + 1)):=HR.out.trans (zfs L j hjlt (by simpa using h0) (by simpa using h102))
       go_wp2
       go_ret3
       exact zb2 HQ.out (by decide) hbw
      | false =>
       have HT : Hid (R = tail L 0):=HR.out.trans (zfr L j hjlt (by simpa using h0) (by simpa using h102))
       clear HR
       go_wp2
       clear hc hkb h0 hje h102
       go_loop [11] (fun t => ∃ q : Nat,q ≤ 3 ∧ t = .int .i64 (q : Int) ∧ R = tail L q) (fun t => 3 - (intOf t).toNat)
       case atStart => exact ⟨0,by omega,rfl,HT.out⟩
       case round =>
        obtain ⟨q,hq,rfl,hRq⟩:=hrel
        clear HT
        have HT : Hid (R = tail L q):=hRq
        clear hRq
        have hcases : q = 0 ∨ q = 1 ∨ q = 2 ∨ q = 3:=by omega
        rcases hcases with rfl | rfl | rfl | rfl
        ·have HP0 : Hid (R = pass L 0 0 (tail L 1)):=HT.out.trans (zgS L 0 (by omega))
         clear HT
         go_wp2
         go_loop [12] (fun t => ∃ m : Nat,m ≤ L.length ∧ t = .int .i64 (m : Int) ∧ R = pass L 0 m (tail L 1)) (fun t => L.length - (intOf t).toNat)
         case atStart => exact ⟨0,by omega,rfl,HP0.out⟩
         case round =>
          obtain ⟨m,hm,rfl,hRm⟩:=hrel
          clear HP0
          have HP : Hid (R = pass L 0 m (tail L 1)):=hRm
          clear hRm
          by_cases hmlt : m < L.length
          ·cases hbad : zc2 L m with
           | true =>
            have HQ : Hid (R = (3 + ((0 : Nat) : Int),(m : Int) + 1)):=HP.out.trans (zdf L 0 m _ hmlt hbad)
            go_wp2_with (go_at_call 47; refine (zjY L g2 cap2 m _ hlines (by omega) hmlt).mono ?_; rintro e w' ⟨rfl,rfl⟩)
            go_ret3
            exact zb2 HQ.out (by decide) hbw
           | false =>
            have HQ : Hid (R = pass L 0 (m + 1) (tail L 1)):=HP.out.trans (zbP L 0 m _ hmlt hbad)
            go_wp2_with (go_at_call 47; refine (zjY L g2 cap2 m _ hlines (by omega) hmlt).mono ?_; rintro e w' ⟨rfl,rfl⟩)
            go_round
            case rel => exact ⟨m + 1,by omega,by go_num,HQ.out⟩
            case measure => simp [intOf]; omega
          ·have HQ : Hid (R = tail L 1):=HP.out.trans (zdt L 0 m _ hmlt)
           go_wp2
           go_round
           case rel => exact ⟨1,by omega,by go_num,HQ.out⟩
           case measure => simp [intOf]
        ·have HP0 : Hid (R = pass L 1 0 (tail L 2)):=HT.out.trans (zgS L 1 (by omega))
         clear HT
         go_wp2
         go_loop [12] (fun t => ∃ m : Nat,m ≤ L.length ∧ t = .int .i64 (m : Int) ∧ R = pass L 1 m (tail L 2)) (fun t => L.length - (intOf t).toNat)
         case atStart => exact ⟨0,by omega,rfl,HP0.out⟩
         case round =>
          obtain ⟨m,hm,rfl,hRm⟩:=hrel
          clear HP0
          have HP : Hid (R = pass L 1 m (tail L 2)):=hRm
          clear hRm
          by_cases hmlt : m < L.length
          ·cases hbad : zaD L m with
           | true =>
            have HQ : Hid (R = (3 + ((1 : Nat) : Int),(m : Int) + 1)):=HP.out.trans (zdf L 1 m _ hmlt hbad)
            go_wp2_with (go_at_call 48; refine (zgU L g2 cap2 m _ hlines (by omega) hmlt).mono ?_; rintro e w' ⟨rfl,rfl⟩)
            go_ret3
            exact zb2 HQ.out (by decide) hbw
           | false =>
            have HQ : Hid (R = pass L 1 (m + 1) (tail L 2)):=HP.out.trans (zbP L 1 m _ hmlt hbad)
            go_wp2_with (go_at_call 48; refine (zgU L g2 cap2 m _ hlines (by omega) hmlt).mono ?_; rintro e w' ⟨rfl,rfl⟩)
            go_round
            case rel => exact ⟨m + 1,by omega,by go_num,HQ.out⟩
            case measure => simp [intOf]; omega
          ·have HQ : Hid (R = tail L 2):=HP.out.trans (zdt L 1 m _ hmlt)
           go_wp2
           go_round
           case rel => exact ⟨2,by omega,by go_num,HQ.out⟩
           case measure => simp [intOf]
        ·have HP0 : Hid (R = pass L 2 0 (tail L 3)):=HT.out.trans (zgS L 2 (by omega))
         clear HT
         go_wp2
         go_loop [12] (fun t => ∃ m : Nat,m ≤ L.length ∧ t = .int .i64 (m : Int) ∧ R = pass L 2 m (tail L 3)) (fun t => L.length - (intOf t).toNat)
         case atStart => exact ⟨0,by omega,rfl,HP0.out⟩
         case round =>
          obtain ⟨m,hm,rfl,hRm⟩:=hrel
          clear HP0
          have HP : Hid (R = pass L 2 m (tail L 3)):=hRm
          clear hRm
          by_cases hmlt : m < L.length
          ·cases hbad : zaZ L m with
           | true =>
            have HQ : Hid (R = (3 + ((2 : Nat) : Int),(m : Int) + 1)):=HP.out.trans (zdf L 2 m _ hmlt hbad)
            go_wp2_with (go_at_call 49; refine (zgW L g2 cap2 m _ hlines (by omega) hmlt).mono ?_; rintro e w' ⟨rfl,rfl⟩)
            go_ret3
            exact zb2 HQ.out (by decide) hbw
           | false =>
            have HQ : Hid (R = pass L 2 (m + 1) (tail L 3)):=HP.out.trans (zbP L 2 m _ hmlt hbad)
            go_wp2_with (go_at_call 49; refine (zgW L g2 cap2 m _ hlines (by omega) hmlt).mono ?_; rintro e w' ⟨rfl,rfl⟩)
            go_round
            case rel => exact ⟨m + 1,by omega,by go_num,HQ.out⟩
            case measure => simp [intOf]; omega
          ·have HQ : Hid (R = tail L 3):=HP.out.trans (zdt L 2 m _ hmlt)
           go_wp2
           go_round
           case rel => exact ⟨3,by omega,by go_num,HQ.out⟩
           case measure => simp [intOf]
        ·have HQ : Hid (R = (0,0)):=HT.out
         clear HT
         go_wp2
         go_ret3
         have hq0:=HQ.out
         have hLd:=HLd.out
         subst hq0 hLd
         exact ⟨_,rfl,hbw,fun _ => ⟨g2,cap2,rfl,hg2w,hlines⟩⟩
    ·have hje : ((j : Int) == (L.length : Int)) = true:=by simp; omega
     have HQ : Hid (R = (2,0)):=HR.out.trans (zdL L j hjlt)
     go_wp2
     go_ret3
     exact zb2 HQ.out (by decide) hbw
theorem zjl (s : ByteArray) (w : World) (hs : s.size ≤ 1048576) :
  Calls Tryz.prog 16 #[.string s] w (zdP w ((lines s).map say) (zbN s)):=by
 by_cases h : 4000 < s.size ∨ 300 < (lines s).length
 ·exact ztq s w hs h
 ·exact zqI s w (by omega) (by omega)
end Go.Proofs.YtfpgjkbjbbgciaaGreatDoor
