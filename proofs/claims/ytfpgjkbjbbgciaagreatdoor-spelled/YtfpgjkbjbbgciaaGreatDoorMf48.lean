import Derived.Test.YtfpgjkbjbbgciaaGreatDoorMf46
import Derived.Test.YtfpgjkbjbbgciaaGreatDoorMf47
set_option maxRecDepth 100000
set_option maxHeartbeats 8000000
namespace Go.Proofs.YtfpgjkbjbbgciaaGreatDoor
open Go.RowKit Sp
attribute [local go_sem ↓] Go.wp_at_zero Go.wp_at_succ
theorem ziO {fn : Func} {t u v x : Tmp} (h : fn.results = #[.tmp t,.tmp u,.tmp v,.tmp x]) (tmps : Array Value) (P : Program) (w : World) :
  (results fn tmps).run P w = .ok (.tuple #[tmps.getD t undef,tmps.getD u undef,tmps.getD v undef,tmps.getD x undef]) w:=by
 simp [results,h]
def zkc (w : World) : Ending → World → Prop:=fun e w' => ∃ (G : List (List Ln)) (a b c : Int),e = .returned (.tuple #[.string (ba (zdh G)),.int .i64 a,.int .i64 b,.int .i64 c]) ∧ Wrote G ∧ G ≠ [] ∧ G.length ≤ 18 ∧ (ba (zdh G)).size ≤ 5400000 ∧ Below w.heap.size w w'
def zsc (w : World) (cv : Value) (code : List Int) (n : Nat) (t9 t10 t11 t12 t13 : Value) (wr : World) : Prop:=∃ (G : List (List Ln)) (wt fr kd : Nat),t9 = .string (ba (zdh G)) ∧ t10 = .int .i64 (wt : Int) ∧ t11 = .int .i64 (fr : Int) ∧ t13 = .int .i64 (G.length : Int) ∧ Wrote G ∧ G.length ≤ n ∧ (ba (zdh G)).size ≤ G.length * 300000 ∧ fr ≤ 100 ∧ KnRow w.heap.size wr t12 G.length ∧ DiM w.heap.size wr w.heap.size cv code kd ∧ Below w.heap.size w wr
theorem zoy : ba zbM.bytes = ba [9] ++ (⟨#[98,97,99,107]⟩ : ByteArray):=rfl
theorem Tryz.info113 : (Tryz.prog.info? 113).map (fun i => (i.zero,i.size,i.bytes)) = some (some (.agg #[.int .i64 0,.bool false,.bool false,.bool false,.bool false,.bool false,.bool false,.bool false,.bool false,.int .i64 0]),10,24):=by kernel_rfl
theorem Tryz.under105 : Tryz.prog.underlying 105 = some (.slice 113):=by kernel_rfl
theorem zsd (z f : Int) (g : Nat → Bool) : ∀ u ∈ [Value.int .i64 z,.bool (g 0),.bool (g 1),.bool (g 2),.bool (g 3),.bool (g 4),.bool (g 5),.bool (g 6),.bool (g 7),.int .i64 f],u.oneCell' = true:=by
 intro u hu
 simp only [List.mem_cons,List.not_mem_nil,or_false] at hu
 rcases hu with rfl | rfl | rfl | rfl | rfl | rfl | rfl | rfl | rfl | rfl <;> rfl
theorem hid {p : Prop} (h : p) : Hid p:=h
theorem zmp (hbody : zsb) (hcalled : zox) {w : World} {cv : Value} {code : List Int} (hc : SlB w w.heap.size cv code) (hl : code.length ≤ 9223372036854775807) (hnum : ∀ x ∈ code,i64 x) :
  Calls Tryz.prog 31 #[cv] w (zkc w):=by
 have D0:=DiM.new hc hl hnum
 obtain ⟨co,ccap,hcv,_,_⟩:=hc
 subst hcv
 have hz0 : w.heap.size ≤ (w.alloc (.cells #[.slice co code.length ccap,.int .i64 0] 76)).heap.size:=by simp
 have hb0 : Below w.heap.size w (w.alloc (.cells #[.slice co code.length ccap,.int .i64 0] 76)):=(Below.refl _ _).alloc (Nat.le_refl _) _
 go_enter Tryz.func31,Tryz.ntmps31
 go_wp2_with (first
  | (go_at_call 41; first
      | ((with_reducible refine (zh4 D0 hz0 4 (by omega)).mono ?_); rintro e w1 ⟨t,rfl,ht,⟨k1,D1⟩,hb1,hg1⟩; have hz1:=Nat.le_trans hz0 hb1.size)
      | ((with_reducible refine (zh4 D1 hz1 6 (by omega)).mono ?_); rintro e w2 ⟨u,rfl,hu,⟨k2,D2⟩,hb2,hg2⟩; have hz2:=Nat.le_trans hz1 hb2.size; refine Hid.out ?_)))
 unfold Hid
 rename_i K2 hK2 K1 hK1 K0 hK0
 have join : ∀ (n most : Nat) (x21 x22 x24 x25 x26 x27 x28 : Value) (W : World) (kd : Nat),1 ≤ n → n ≤ 18 → (most = 3 ∨ most = 30) → DiM w.heap.size W w.heap.size (.slice co code.length ccap) code kd → Below w.heap.size w W → w.heap.size ≤ W.heap.size → K2 ⟨(List.toArray (.slice co code.length ccap :: undef :: .string { data:=#[] } :: .int .i64 0 :: .int .i64 0 :: .int .i64 0 :: .pointer (some ⟨w.heap.size,0,none⟩) :: .int .i64 (n : Int) :: .int .i64 (most : Int) :: undef :: undef :: undef :: undef :: undef :: undef :: undef :: undef :: .slice co code.length ccap :: .agg #[.slice co code.length ccap,.int .i64 0] :: .pointer (some ⟨w.heap.size,0,none⟩) :: .pointer (some ⟨w.heap.size,0,none⟩) :: x21 :: x22 :: .pointer (some ⟨w.heap.size,0,none⟩) :: x24 :: x25 :: x26 :: x27 :: x28 :: undef :: undef :: undef :: undef :: undef :: undef :: undef :: undef :: undef :: undef :: undef :: undef :: undef :: undef :: undef :: undef :: undef :: undef :: undef :: undef :: undef :: undef :: undef :: undef :: undef :: undef :: undef :: undef :: undef :: undef :: undef :: undef :: undef :: undef :: undef :: undef :: undef :: undef :: undef :: undef :: undef :: undef :: undef :: undef :: undef :: undef :: undef :: undef :: undef :: undef :: undef :: undef :: undef :: undef :: undef :: undef :: undef :: undef :: undef :: undef :: undef :: undef :: undef :: undef :: undef :: undef :: undef :: undef :: undef :: undef :: undef :: undef :: undef :: undef :: undef :: undef :: undef :: undef :: [])),[]⟩ W:=by
  intro n most x21 x22 x24 x25 x26 x27 x28 W kd hn1 hn18 hmost D hb hz
  clear D0 D1 D2 hb0 hb1 hb2 hg1 hg2 hz0 hz1 hz2 hK1 hK0 K1 K0
  refine hK2 _ _ ?_
  clear hK2 K2
  go_wp2_with fail
  go_loopw [9,10,11,12,13] (fun t9 t10 t11 t12 t13 wr => zsc w (.slice co code.length ccap) code n t9 t10 t11 t12 t13 wr) (fun _ _ _ _ t13 _ => n - (intOf t13).toNat)
  case atStart => exact ⟨[],0,0,kd,rfl,rfl,rfl,rfl,.nil,Nat.zero_le _,Nat.zero_le _,Nat.zero_le _,KnRow.nil _ _,D,hb⟩
  case round =>
   clear D hb hz
   obtain ⟨G,wt,fr,kd,rfl,rfl,rfl,rfl,hG,hGn,hGs,hfr,hK,D,hb⟩:=hrel
   have hK':=hK
   obtain ⟨xs,hK1,hK2⟩:=hK'
   obtain ⟨ka,kcap,hks⟩:=za9 hK1
   subst hks
   clear hK1 hK2 xs
   by_cases hk : G.length < n
   ·have hkI : (G.length : Int) < (n : Int):=by omega
    have hz:=hb.size
    have M0:=WrM.new (most:=(most : Int)) D hK
    have hK0:=hK.below (w':=wr.alloc (.cells (wrL w.heap.size (most : Int) (.slice ka G.length kcap)).toArray 109)) ((Below.refl _ _).alloc (Nat.le_refl _) _)
    have hb0 : Below w.heap.size w (wr.alloc (.cells (wrL w.heap.size (most : Int) (.slice ka G.length kcap)).toArray 109)):=hb.alloc hz _
    go_wp2_with (first
     | (go_at_call 60; refine Hid.out ?_))
    unfold Hid
    refine (hbody _ _ _ _ _ _ _ _ _ M0 rfl (fun _ => rfl) rfl rfl (by show G.length ≤ 100; omega) rfl).mono ?_
    rintro e w3 ⟨⟨z,rfl,hz1⟩,A,c,hp,hAl,hcl,k3,V3,M3,f3⟩
    dsimp only
    have hK3:=hK0.fr M0 f3
    have hb3:=hb0.trans (M0.low f3)
    rename_i K1a h1a K0a h0a
    refine h0a _ _ ?_
    clear h0a
    have h1b:=hid h1a
    clear h1a
    go_wp2_with fail
    refine (Hid.out2 h1b) _ _ ?_
    clear h1b K0a K1a
    refine wp_seq_k fun Kz hKz => ?_
    have join2 : ∀ (x15 x16 x29 x30 x31 x32 x33 x34 x35 x36 x37 x38 x39 x40 x41 x42 x43 x44 x45 x46 x47 x48 x49 x50 x51 x52 x53 x54 x55 x56 x57 x58 x59 x60 x61 x62 x63 x64 x65 x66 x67 x68 x69 x70 x71 x72 x73 x74 x75 x76 x77 x78 x79 x80 x81 x82 x83 x84 x85 x86 x87 x88 x89 x90 x91 x92 x93 x94 x95 x96 x97 x98 x99 x100 x101 x102 : Value) (z : Nat) (W : World) (A : List Ln) (c k : Nat) (V : Nat → Value),z ≤ (G.length + 1) * 2147483648 → Pc G.length 0 c A → A.length ≤ 1270 → c ≤ 252 → WrM w.heap.size W wr.heap.size w.heap.size (.slice co code.length ccap) code ⟨A,c,fun _ => false,[],0,most,G.length⟩ k V → KnRow w.heap.size W (.slice ka G.length kcap) G.length → Below w.heap.size w W → Kz ⟨(List.toArray (.slice co code.length ccap :: undef :: .string { data:=#[] } :: .int .i64 0 :: .int .i64 0 :: .int .i64 0 :: .pointer (some ⟨w.heap.size,0,none⟩) :: .int .i64 (n : Int) :: .int .i64 (most : Int) :: .string (ba (zdh G)) :: .int .i64 (z : Int) :: .int .i64 (fr : Int) :: .slice ka G.length kcap :: .int .i64 (G.length : Int) :: .pointer (some ⟨wr.heap.size,0,none⟩) :: x15 :: x16 :: .slice co code.length ccap :: .agg #[.slice co code.length ccap,.int .i64 0] :: .pointer (some ⟨w.heap.size,0,none⟩) :: .pointer (some ⟨w.heap.size,0,none⟩) :: x21 :: x22 :: .pointer (some ⟨w.heap.size,0,none⟩) :: x24 :: x25 :: x26 :: x27 :: x28 :: x29 :: x30 :: x31 :: x32 :: x33 :: x34 :: x35 :: x36 :: x37 :: x38 :: x39 :: x40 :: x41 :: x42 :: x43 :: x44 :: x45 :: x46 :: x47 :: x48 :: x49 :: x50 :: x51 :: x52 :: x53 :: x54 :: x55 :: x56 :: x57 :: x58 :: x59 :: x60 :: x61 :: x62 :: x63 :: x64 :: x65 :: x66 :: x67 :: x68 :: x69 :: x70 :: x71 :: x72 :: x73 :: x74 :: x75 :: x76 :: x77 :: x78 :: x79 :: x80 :: x81 :: x82 :: x83 :: x84 :: x85 :: x86 :: x87 :: x88 :: x89 :: x90 :: x91 :: x92 :: x93 :: x94 :: x95 :: x96 :: x97 :: x98 :: x99 :: x100 :: x101 :: x102 :: undef :: undef :: undef :: undef :: [])),[]⟩ W:=by
     intro x15 x16 x29 x30 x31 x32 x33 x34 x35 x36 x37 x38 x39 x40 x41 x42 x43 x44 x45 x46 x47 x48 x49 x50 x51 x52 x53 x54 x55 x56 x57 x58 x59 x60 x61 x62 x63 x64 x65 x66 x67 x68 x69 x70 x71 x72 x73 x74 x75 x76 x77 x78 x79 x80 x81 x82 x83 x84 x85 x86 x87 x88 x89 x90 x91 x92 x93 x94 x95 x96 x97 x98 x99 x100 x101 x102 z W A c k V hzb hp hAl hcl M hK hb
     clear hK3 hb3 M3 f3 M0 hb0 hK0 D
     refine hKz _ _ ?_
     clear hKz Kz
     have hi64 : i64 (G.length : Int):=⟨by omega,by omega⟩
     go_wp2_with (first
      | (go_at_call 62; (with_reducible refine (zbg M zbM _ zoy (by decide) (by show A.length ≤ _; omega)).mono ?_); rintro e w3 ⟨rfl,k3,V3,M3,f3⟩; have hK3:=hK.fr M f3; have hb3:=hb.trans (M.low f3))
      | (go_at_call 36; refine Hid.out ?_))
     unfold Hid
     refine (zdA (G.length : Int) hi64 _).mono ?_
     rintro e w4 ⟨Dg,rfl,zD,hD,hbD⟩
     dsimp only
     have M4:=M3.below hbD M3.base
     have hK4:=hK3.below hbD
     have hb4:=hb3.trans (hbD.mono M3.base)
     have hz6:=zdB 6 zD (by decide)
     have hz7:=zdB 7 zD (by decide)
     have hz1 : ¬ 9223372036854775807 < 6 + Dg.size + 1:=by omega
     go_wp2_with fail
     have hLs : ∀ l ∈ A ++ [zbM],l.bytes.length ≤ 200:=fun l hl => by
      rcases List.mem_append.1 hl with e | e
      ·exact hp.short (by omega) (by omega) l e
      ·rw [List.mem_singleton.1 e]; exact zeS.short
     have hLn : (A ++ [zbM]).length ≤ 1300:=by rw [List.length_append,List.length_singleton]; omega
     have hLp : 0 < (A ++ [zbM]).length:=by rw [List.length_append,List.length_singleton]; omega
     rw [show (⟨#[102,117,110,99,32,102]⟩ : ByteArray) ++ Dg ++ (⟨#[10]⟩ : ByteArray) = accS G.length (A ++ [zbM]) 0 from zou hD]
     obtain ⟨w0,hw0⟩ : ∃ w0 : World,w0 = wr:=⟨wr,rfl⟩
     subst hw0
     generalize hL : A ++ [zbM] = L at hLs hLn hLp M3 M4 f3
     go_loopw [15,16] (fun t15 t16 wr2 => ∃ i : Nat,t15 = .string (accS G.length L i) ∧ t16 = .int .i64 (i : Int) ∧ i ≤ L.length ∧ Below w4.heap.size w4 wr2) (fun _ t16 _ => L.length - (intOf t16).toNat)
     case atStart => exact ⟨0,rfl,rfl,Nat.zero_le _,Below.refl _ _⟩
     case round =>
      obtain ⟨i,rfl,rfl,hiL,hbr⟩:=hrel
      have M5:=M4.below hbr M4.base
      obtain ⟨gl,capl,hvl,_,_⟩:=(M5.lines).form hLp
      have cl:=M5.blk.cell 1 (by omega)
      rw [hvl] at cl
      have hrow:=M5.lines
      rw [hvl] at hrow
      by_cases hi : i < L.length
      ·have hiI : (i : Int) < (L.length : Int):=by omega
       have hce : wr.cell? ⟨gl,i,none⟩ = some (.string (lnS L i)):=zhx hrow i _ (by rw [List.getElem?_map,List.getElem?_eq_getElem hi]; unfold lnS; rw [dif_pos hi]; rfl)
       have hs1:=ziN (i:=i) (show G.length ≤ 1000000 by omega) hLs hLn
       have hs2:=zqh (i:=i) hLs
       have hs3 : ¬ 9223372036854775807 < (accS G.length L i).size + (lnS L i).size:=by unfold accS; omega
       have hs4 : ¬ 9223372036854775807 < (accS G.length L i).size + (lnS L i).size + 1:=by unfold accS; omega
       go_wp2
       rw [zow hi]
       go_roundw
       case rel => exact ⟨i + 1,rfl,by rfl,by omega,hbr⟩
       case measure => simp [intOf]; omega
      ·have hiI : ¬ (i : Int) < (L.length : Int):=by omega
       have hie : i = L.length:=by omega
       subst hie
       have hs1:=ziN (i:=L.length) (show G.length ≤ 1000000 by omega) hLs hLn
       have hs3 : ¬ 9223372036854775807 < (accS G.length L L.length).size + (ba (zdh G)).size:=by unfold accS; omega
       obtain ⟨f,hf,hfk⟩:=M5.v22
       have c22:=M5.blk.cell 22 (by omega)
       rw [hf] at c22
       have hgv : ∃ g : Nat → Bool,∀ j,j < 8 → V3 (12 + j) = .bool (g j):=⟨fun j => match V3 (12 + j) with | .bool b => b | _ => false,fun j hj => by obtain ⟨g,hg⟩:=M5.gives j hj; simp [hg]⟩
       obtain ⟨g,hgv⟩:=hgv
       have hgc : ∀ j,j < 8 → wr.cell? ⟨w0.heap.size,12 + j,none⟩ = some (.bool (g j)):=fun j hj => by rw [← hgv j hj]; exact M5.blk.cell (12 + j) (by omega)
       have g0:=hgc 0 (by omega)
       have g1:=hgc 1 (by omega)
       have g2:=hgc 2 (by omega)
       have g3:=hgc 3 (by omega)
       have g4:=hgc 4 (by omega)
       have g5:=hgc 5 (by omega)
       have g6:=hgc 6 (by omega)
       have g7:=hgc 7 (by omega)
       clear hgc hgv
       obtain ⟨xs,hK1,hKx⟩:=hK4.below hbr
       obtain ⟨i0,hi0,hz0',hz1',hz2'⟩:=info_parts Tryz.info113
       go_wp2_with fail
       go_region_law
        ((refine step_append_lies _ (by rfl) _ _ _ (by rfl) w.heap.size 113 i0 _ 10 24 Tryz.under105 hi0 hz0' hz1' hz2' rfl (by omega) (.slice ka G.length kcap) G.length xs (by rfl) ((hK1.alloc _).drew)
           ⟨wr.heap.size,0,none⟩ 1 1 [.int .i64 (z : Int),.bool (g 0),.bool (g 1),.bool (g 2),.bool (g 3),.bool (g 4),.bool (g 5),.bool (g 6),.bool (g 7),.int .i64 (f : Int)] (by rfl) (by rfl) (World.news_of_block (t:=113) (fr:=(0,0)) (heap_alloc_new _ _)) (zsd _ _ _)
           (by omega) (by unfold maxLen; omega) (by omega) (by simp; omega) (wr.heap.size + 1) (by simp) ?_; intro gn capn w6 hown6 hgrow hat hltg))
       all_goals
        rw [← hL,zla]
        go_wp2_with fail
        go_roundw
        case rel =>
         obtain ⟨D6,hb6⟩:=M5.blk.di.grew hK1 hgrow M5.base
         refine ⟨A :: G,z,max fr f,k3,rfl,rfl,?_,?_,.cons hp (by omega) hG,by rw [List.length_cons]; omega,?_,by rw [Nat.max_def]; split <;> omega,KnRow.more hzb hfk hKx hK1.1 hown6,D6,(hb4.trans (hbr.mono M4.base)).trans hb6⟩
         ·rw [Nat.max_def,Int.max_def]
          split
          ·rw [if_pos (by omega)]
          ·rw [if_neg (by omega)]
         ·rw [List.length_cons]; rfl
         ·rw [← zla,ByteArray.size_append,List.length_cons,Nat.add_mul,hL]
          have : (accS G.length L L.length).size ≤ 300000:=hs1
          omega
        case measure => simp [intOf]; omega
    clear hKz
    rcases hmost with rfl | rfl
    ·by_cases hg0 : G.length = 0
     ·have hgI : ¬ (0 : Int) < (G.length : Int):=by omega
      clear hg0
      go_wp2_with fail
      exact join2 _ _ _ _ _ _ _ _ _ _ _ _ _ _ _ _ _ _ _ _ _ _ _ _ _ _ _ _ _ _ _ _ _ _ _ _ _ _ _ _ _ _ _ _ _ _ _ _ _ _ _ _ _ _ _ _ _ _ _ _ _ _ _ _ _ _ _ _ _ _ _ _ _ _ _ _ z w3 A c k3 V3 (by omega) hp (by omega) (by omega) M3 hK3 hb3
     ·have hgI : (0 : Int) < (G.length : Int):=by omega
      go_wp2_with (first
       | (go_at_call 41; (with_reducible refine (zao M3 5 (by omega)).mono ?_); rintro e w4 ⟨t5,rfl,ht5,k4,V4,M4,f4⟩; refine Hid.out ?_))
      unfold Hid
      have hK4:=hK3.fr M3 f4
      have hb4:=hb3.trans (M3.low f4)
      by_cases ht0 : t5 = 0
      ·subst ht0
       go_wp2_with fail
       exact join2 _ _ _ _ _ _ _ _ _ _ _ _ _ _ _ _ _ _ _ _ _ _ _ _ _ _ _ _ _ _ _ _ _ _ _ _ _ _ _ _ _ _ _ _ _ _ _ _ _ _ _ _ _ _ _ _ _ _ _ _ _ _ _ _ _ _ _ _ _ _ _ _ _ _ _ _ z w4 A c k4 V4 (by omega) hp (by omega) (by omega) M4 hK4 hb4
      ·have htI : (0 : Int) < (t5 : Int):=by omega
       go_wp2_with (first
        | (go_at_call 61; refine (hcalled _ _ _ _ _ _ _ _ _ M4 (fun _ => rfl) (by show ([] ++ A).length ≤ _; rw [List.nil_append]; omega) (by show G.length ≤ 100; omega)).mono ?_; rintro e w5 ⟨⟨z5,rfl,hz5⟩,A5,c5,hp5,hAl5,hcl5,k5,V5,M5,f5⟩; refine Hid.out ?_))
       unfold Hid
       have hK5:=hK4.fr M4 f5
       have hb5:=hb4.trans (M4.low f5)
       have hz6 : ((z + z5 : Nat) : Int) = (z : Int) + (z5 : Int):=by omega
       go_wp2_with fail
       rw [← hz6]
       exact join2 _ _ _ _ _ _ _ _ _ _ _ _ _ _ _ _ _ _ _ _ _ _ _ _ _ _ _ _ _ _ _ _ _ _ _ _ _ _ _ _ _ _ _ _ _ _ _ _ _ _ _ _ _ _ _ _ _ _ _ _ _ _ _ _ _ _ _ _ _ _ _ _ _ _ _ _ (z + z5) w5 (A ++ A5) c5 k5 V5 (by have : z5 ≤ G.length * 2147483648 + 2:=hz5; omega) (.app hp hp5) (by rw [List.length_append]; omega) (by have : c5 ≤ c + 0:=hcl5; omega) M5 hK5 hb5
    ·go_wp2_with fail
     exact join2 _ _ _ _ _ _ _ _ _ _ _ _ _ _ _ _ _ _ _ _ _ _ _ _ _ _ _ _ _ _ _ _ _ _ _ _ _ _ _ _ _ _ _ _ _ _ _ _ _ _ _ _ _ _ _ _ _ _ _ _ _ _ _ _ _ _ _ _ _ _ _ _ _ _ _ _ z w3 A c k3 V3 (by omega) hp (by omega) (by omega) M3 hK3 hb3
   ·have hkI : ¬ (G.length : Int) < (n : Int):=by omega
    go_wp2
    (try simp only [Exit.inBlock,Exit.then])
    refine bodyPost_ret (ziO rfl _ _ _) rfl ?_
    exact ⟨G,wt,n,fr,rfl,hG,(fun e => by rw [e] at hk; simp at hk; omega),by omega,Nat.le_trans hGs (by omega),hb⟩
 have hb12:=hb0.trans (hb1.trans hb2)
 by_cases hu5 : u = 5
 ·subst hu5
  refine hK0 _ _ ?_
  go_wp2_with (first
   | (go_at_call 41; (with_reducible refine (zh4 D2 hz2 18 (by omega)).mono ?_); rintro e w3 ⟨v,rfl,hv,⟨k3,D3⟩,hb3,hg3⟩; refine Hid.out ?_))
  unfold Hid
  clear hK2
  have e18 : ((1 + v : Nat) : Int) = 1 + (v : Int):=by omega
  go_wp2_with fail
  rw [← e18]
  exact join (1 + v) 3 _ _ _ _ _ _ _ w3 k3 (by omega) (by omega) (.inl rfl) D3 (hb12.trans hb3) (Nat.le_trans hz2 hb3.size)
 ·clear hK2
  refine hK0 _ _ ?_
  have e4 : ((1 + t : Nat) : Int) = 1 + (t : Int):=by omega
  go_wp2_with fail
  rw [← e4]
  exact join (1 + t) 30 _ _ _ _ _ _ _ w2 k2 (by omega) (by omega) (.inr rfl) D2 hb12 hz2
end Go.Proofs.YtfpgjkbjbbgciaaGreatDoor
