import Derived.Test.YtfpgjkbjbbgciaaGreatDoorMi30
import Derived.Test.YtfpgjkbjbbgciaaGreatDoorMi37
import Derived.Test.YtfpgjkbjbbgciaaGreatDoorMi38
import Derived.Test.YtfpgjkbjbbgciaaGreatDoorMi40
import Derived.Test.YtfpgjkbjbbgciaaGreatDoorMi42
set_option maxRecDepth 100000
set_option maxHeartbeats 8000000
namespace Go.Proofs.YtfpgjkbjbbgciaaGreatDoor
section
open Go.RowKit Sp
attribute [local go_sem ↓] Go.wp_at_zero Go.wp_at_succ
theorem zmB{fn:Func}{t u v x:Tmp}(h:fn.results=#[.tmp t,.tmp u,.tmp v,.tmp x])(tmps:Array Value)(P:Program)(w:World):
  (results fn tmps).run P w=.ok (.tuple #[tmps.getD t undef,tmps.getD u undef,tmps.getD v undef,tmps.getD x undef]) w:=by
 simp [results,h]
def zot(w:World):Ending→World→Prop:=fun e w'=>∃(G:List (List Ln)) (a b c:Int),e=.returned (.tuple #[.string (ba (zfg G)),.int .i64 a,.int .i64 b,.int .i64 c])∧Wrote G∧G≠[]∧G.length≤18∧(ba (zfg G)).size≤5400000∧Below w.heap.size w w'
def zzH(w:World)(cv:Value)(code:List Int)(n:Nat)(t9 t10 t11 t12 t13:Value)(wr:World):Prop:=∃(G:List (List Ln)) (wt fr kd:Nat),t9=.string (ba (zfg G))∧t10=.int .i64 (wt:Int)∧t11=.int .i64 (fr:Int)∧t13=.int .i64 (G.length:Int)∧Wrote G∧G.length≤n∧(ba (zfg G)).size≤G.length*300000∧fr≤100∧KnRow w.heap.size wr t12 G.length∧DiM w.heap.size wr w.heap.size cv code kd∧Below w.heap.size w wr
theorem zuI:ba zcO.bytes=ba [9]++(⟨#[98,97,99,107]⟩:ByteArray):=rfl
theorem Tryz.info113:(Tryz.prog.info? 113).map (fun i=>(i.zero,i.size,i.bytes))=some (some (.agg #[.int .i64 0,.bool false,.bool false,.bool false,.bool false,.bool false,.bool false,.bool false,.bool false,.int .i64 0]),10,24):=by kernel_rfl
theorem Tryz.under105:Tryz.prog.underlying 105=some (.slice 113):=by kernel_rfl
theorem zzI(z f:Int)(g:Nat→Bool):∀ u∈[Value.int .i64 z,.bool (g 0),.bool (g 1),.bool (g 2),.bool (g 3),.bool (g 4),.bool (g 5),.bool (g 6),.bool (g 7),.int .i64 f],u.oneCell'=true:=by
 intro u hu
 simp only [List.mem_cons,List.not_mem_nil,or_false] at hu
 rcases hu with rfl|rfl|rfl|rfl|rfl|rfl|rfl|rfl|rfl|rfl <;> rfl
theorem hid{p:Prop}(h:p):Hid p:=h
theorem zrE(hbody:zzG)(hcalled:zuH){w:World}{cv:Value}{code:List Int}(hc:SlB w w.heap.size cv code)(hl:code.length≤9223372036854775807)(hnum:∀ x∈code,i64 x):
  Calls Tryz.prog 31 #[cv] w (zot w):=by
 have D0:=DiM.new hc hl hnum
 obtain⟨co,ccap,hcv,_,_⟩:=hc
 subst hcv
 have hz0:w.heap.size≤(w.alloc (.cells #[.slice co code.length ccap,.int .i64 0] 76)).heap.size:=by simp
 have hb0:Below w.heap.size w (w.alloc (.cells #[.slice co code.length ccap,.int .i64 0] 76)):=(Below.refl _ _).alloc (Nat.le_refl _) _
 go_enter Tryz.func31,Tryz.ntmps31
 go_wp2_with(first
  | (go_at_call 41;first
      | ((with_reducible refine(zkI D0 hz0 4 (by omega)).mono ?_);rintro e w1 ⟨t,rfl,ht,⟨k1,D1⟩,hb1,hg1⟩;have hz1:=Nat.le_trans hz0 hb1.size)
      | ((with_reducible refine(zkI D1 hz1 6 (by omega)).mono ?_);rintro e w2 ⟨u,rfl,hu,⟨k2,D2⟩,hb2,hg2⟩;have hz2:=Nat.le_trans hz1 hb2.size;refine Hid.out ?_)))
 unfold Hid
 rename_i K2 hK2 K1 hK1 K0 hK0
 have join:∀(n most:Nat) (x21 x22 x24 x25 x26 x27 x28:Value) (W:World) (kd:Nat),1≤n→n≤18→(most=3∨most=30)→DiM w.heap.size W w.heap.size (.slice co code.length ccap) code kd→Below w.heap.size w W→w.heap.size≤W.heap.size→K2 ⟨(List.toArray (.slice co code.length ccap :: undef :: .string { data:=#[] } :: .int .i64 0 :: .int .i64 0 :: .int .i64 0 :: .pointer (some ⟨w.heap.size,0,none⟩) :: .int .i64 (n:Int) :: .int .i64 (most:Int) :: undef :: undef :: undef :: undef :: undef :: undef :: undef :: undef :: .slice co code.length ccap :: .agg #[.slice co code.length ccap,.int .i64 0] :: .pointer (some ⟨w.heap.size,0,none⟩) :: .pointer (some ⟨w.heap.size,0,none⟩) :: x21 :: x22 :: .pointer (some ⟨w.heap.size,0,none⟩) :: x24 :: x25 :: x26 :: x27 :: x28 :: undef :: undef :: undef :: undef :: undef :: undef :: undef :: undef :: undef :: undef :: undef :: undef :: undef :: undef :: undef :: undef :: undef :: undef :: undef :: undef :: undef :: undef :: undef :: undef :: undef :: undef :: undef :: undef :: undef :: undef :: undef :: undef :: undef :: undef :: undef :: undef :: undef :: undef :: undef :: undef :: undef :: undef :: undef :: undef :: undef :: undef :: undef :: undef :: undef :: undef :: undef :: undef :: undef :: undef :: undef :: undef :: undef :: undef :: undef :: undef :: undef :: undef :: undef :: undef :: undef :: undef :: undef :: undef :: undef :: undef :: undef :: undef :: undef :: undef :: undef :: undef :: undef :: undef :: [])),[]⟩ W:=by
  intro n most x21 x22 x24 x25 x26 x27 x28 W kd hn1 hn18 hmost D hb hz
  clear D0 D1 D2 hb0 hb1 hb2 hg1 hg2 hz0 hz1 hz2 hK1 hK0 K1 K0
  refine hK2 _ _ ?_
  clear hK2 K2
  go_wp2_with fail
  go_loopw [9,10,11,12,13] (fun t9 t10 t11 t12 t13 wr=>zzH w (.slice co code.length ccap) code n t9 t10 t11 t12 t13 wr) (fun _ _ _ _ t13 _=>n-(intOf t13).toNat)
  case atStart=>exact⟨[],0,0,kd,rfl,rfl,rfl,rfl,.nil,Nat.zero_le _,Nat.zero_le _,Nat.zero_le _,KnRow.nil _ _,D,hb⟩
  case round =>
   clear D hb hz
   obtain⟨G,wt,fr,kd,rfl,rfl,rfl,rfl,hG,hGn,hGs,hfr,hK,D,hb⟩:=hrel
   have hK':=hK
   obtain⟨xs,hK1,hK2⟩:=hK'
   obtain⟨ka,kcap,hks⟩:=zbb hK1
   subst hks
   clear hK1 hK2 xs
   by_cases hk:G.length<n
   ·have hkI:(G.length:Int)<(n:Int):=by omega
    have hz:=hb.size
    have M0:=WrM.new (most:=(most:Int)) D hK
    have hK0:=hK.below (w':=wr.alloc (.cells (wrL w.heap.size (most:Int) (.slice ka G.length kcap)).toArray 109)) ((Below.refl _ _).alloc (Nat.le_refl _) _)
    have hb0:Below w.heap.size w (wr.alloc (.cells (wrL w.heap.size (most:Int) (.slice ka G.length kcap)).toArray 109)):=hb.alloc hz _
    go_wp2_with(first
     | (go_at_call 60;refine Hid.out ?_))
    unfold Hid
    refine(hbody _ _ _ _ _ _ _ _ _ M0 rfl (fun _=>rfl) rfl rfl (by show G.length≤100;omega) rfl).mono ?_
    rintro e w3 ⟨⟨z,rfl,hz1⟩,A,c,hp,hAl,hcl,k3,V3,M3,f3⟩
    dsimp only
    have hK3:=hK0.fr M0 f3
    have hb3:=hb0.trans (M0.low f3)
    rename_i K1a h1a K0a h0a
    refine h0a _ _ ?_
    clear h0a
    have h1b:=hid h1a
    clear h1a
    go_wp2_with fail
    refine(Hid.out2 h1b) _ _ ?_
    clear h1b K0a K1a
    refine wp_seq_k fun Kz hKz=>?_
    have join2:∀(x15 x16 x29 x30 x31 x32 x33 x34 x35 x36 x37 x38 x39 x40 x41 x42 x43 x44 x45 x46 x47 x48 x49 x50 x51 x52 x53 x54 x55 x56 x57 x58 x59 x60 x61 x62 x63 x64 x65 x66 x67 x68 x69 x70 x71 x72 x73 x74 x75 x76 x77 x78 x79 x80 x81 x82 x83 x84 x85 x86 x87 x88 x89 x90 x91 x92 x93 x94 x95 x96 x97 x98 x99 x100 x101 x102:Value) (z:Nat) (W:World) (A:List Ln) (c k:Nat) (V:Nat→Value),z≤(G.length+1)*2147483648→Pc G.length 0 c A→A.length≤1270→c≤252→WrM w.heap.size W wr.heap.size w.heap.size (.slice co code.length ccap) code ⟨A,c,fun _=>false,[],0,most,G.length⟩ k V→KnRow w.heap.size W (.slice ka G.length kcap) G.length→Below w.heap.size w W→Kz ⟨(List.toArray (.slice co code.length ccap :: undef :: .string { data:=#[] } :: .int .i64 0 :: .int .i64 0 :: .int .i64 0 :: .pointer (some ⟨w.heap.size,0,none⟩) :: .int .i64 (n:Int) :: .int .i64 (most:Int) :: .string (ba (zfg G)) :: .int .i64 (z:Int) :: .int .i64 (fr:Int) :: .slice ka G.length kcap :: .int .i64 (G.length:Int) :: .pointer (some ⟨wr.heap.size,0,none⟩) :: x15 :: x16 :: .slice co code.length ccap :: .agg #[.slice co code.length ccap,.int .i64 0] :: .pointer (some ⟨w.heap.size,0,none⟩) :: .pointer (some ⟨w.heap.size,0,none⟩) :: x21 :: x22 :: .pointer (some ⟨w.heap.size,0,none⟩) :: x24 :: x25 :: x26 :: x27 :: x28 :: x29 :: x30 :: x31 :: x32 :: x33 :: x34 :: x35 :: x36 :: x37 :: x38 :: x39 :: x40 :: x41 :: x42 :: x43 :: x44 :: x45 :: x46 :: x47 :: x48 :: x49 :: x50 :: x51 :: x52 :: x53 :: x54 :: x55 :: x56 :: x57 :: x58 :: x59 :: x60 :: x61 :: x62 :: x63 :: x64 :: x65 :: x66 :: x67 :: x68 :: x69 :: x70 :: x71 :: x72 :: x73 :: x74 :: x75 :: x76 :: x77 :: x78 :: x79 :: x80 :: x81 :: x82 :: x83 :: x84 :: x85 :: x86 :: x87 :: x88 :: x89 :: x90 :: x91 :: x92 :: x93 :: x94 :: x95 :: x96 :: x97 :: x98 :: x99 :: x100 :: x101 :: x102 :: undef :: undef :: undef :: undef :: [])),[]⟩ W:=by
     intro x15 x16 x29 x30 x31 x32 x33 x34 x35 x36 x37 x38 x39 x40 x41 x42 x43 x44 x45 x46 x47 x48 x49 x50 x51 x52 x53 x54 x55 x56 x57 x58 x59 x60 x61 x62 x63 x64 x65 x66 x67 x68 x69 x70 x71 x72 x73 x74 x75 x76 x77 x78 x79 x80 x81 x82 x83 x84 x85 x86 x87 x88 x89 x90 x91 x92 x93 x94 x95 x96 x97 x98 x99 x100 x101 x102 z W A c k V hzb hp hAl hcl M hK hb
     clear hK3 hb3 M3 f3 M0 hb0 hK0 D
     refine hKz _ _ ?_
     clear hKz Kz
     have hi64:i64 (G.length:Int):=⟨by omega,by omega⟩
     go_wp2_with(first
      | (go_at_call 62;(with_reducible refine(zbE M zcO _ zuI (by decide) (by show A.length≤_;omega)).mono ?_);rintro e w3 ⟨rfl,k3,V3,M3,f3⟩;have hK3:=hK.fr M f3;have hb3:=hb.trans (M.low f3))
      | (go_at_call 36;refine Hid.out ?_))
     unfold Hid
     refine(zfl (G.length:Int) hi64 _).mono ?_
     rintro e w4 ⟨Dg,rfl,zD,hD,hbD⟩
     dsimp only
     have M4:=M3.below hbD M3.base
     have hK4:=hK3.below hbD
     have hb4:=hb3.trans (hbD.mono M3.base)
     have hz6:=zfm 6 zD (by decide)
     have hz7:=zfm 7 zD (by decide)
     have hz1:¬9223372036854775807<6+Dg.size+1:=by omega
     go_wp2_with fail
     have hLs:∀ l∈A++[zcO],l.bytes.length≤200:=fun l hl=>by
      rcases List.mem_append.1 hl with e|e
      ·exact hp.short (by omega) (by omega) l e
      ·rw [List.mem_singleton.1 e];exact zgK.short
     have hLn:(A++[zcO]).length≤1300:=by rw [List.length_append,List.length_singleton];omega
     have hLp:0<(A++[zcO]).length:=by rw [List.length_append,List.length_singleton];omega
     rw [show(⟨#[102,117,110,99,32,102]⟩:ByteArray)++Dg++(⟨#[10]⟩:ByteArray)=accS G.length (A++[zcO]) 0 from zuE hD]
     obtain⟨w0,hw0⟩:∃ w0:World,w0=wr:=⟨wr,rfl⟩
     subst hw0
     generalize hL:A++[zcO]=L at hLs hLn hLp M3 M4 f3
     go_loopw [15,16] (fun t15 t16 wr2=>∃ i:Nat,t15=.string (accS G.length L i)∧t16=.int .i64 (i:Int)∧i≤L.length∧Below w4.heap.size w4 wr2) (fun _ t16 _=>L.length-(intOf t16).toNat)
     case atStart=>exact⟨0,rfl,rfl,Nat.zero_le _,Below.refl _ _⟩
     case round =>
      obtain⟨i,rfl,rfl,hiL,hbr⟩:=hrel
      have M5:=M4.below hbr M4.base
      obtain⟨gl,capl,hvl,_,_⟩:=(M5.lines).form hLp
      have cl:=M5.blk.cell 1 (by omega)
      rw [hvl] at cl
      have hrow:=M5.lines
      rw [hvl] at hrow
      by_cases hi:i<L.length
      ·have hiI:(i:Int)<(L.length:Int):=by omega
       have hce:wr.cell? ⟨gl,i,none⟩=some (.string (lnS L i)):=zd2 hrow i _ (by rw [List.getElem?_map,List.getElem?_eq_getElem hi];unfold lnS;rw [dif_pos hi];rfl)
       have hs1:=zmA (i:=i) (show G.length≤1000000 by omega) hLs hLn
       have hs2:=zxa (i:=i) hLs
       have hs3:¬9223372036854775807<(accS G.length L i).size+(lnS L i).size:=by unfold accS;omega
       have hs4:¬9223372036854775807<(accS G.length L i).size+(lnS L i).size+1:=by unfold accS;omega
       go_wp2
       rw [zuG hi]
       go_roundw
       case rel=>exact⟨i+1,rfl,by rfl,by omega,hbr⟩
       case measure=>simp [intOf];omega
      ·have hiI:¬(i:Int)<(L.length:Int):=by omega
       have hie:i=L.length:=by omega
       subst hie
       have hs1:=zmA (i:=L.length) (show G.length≤1000000 by omega) hLs hLn
       have hs3:¬9223372036854775807<(accS G.length L L.length).size+(ba (zfg G)).size:=by unfold accS;omega
       obtain⟨f,hf,hfk⟩:=M5.v22
       have c22:=M5.blk.cell 22 (by omega)
       rw [hf] at c22
       have hgv:∃ g:Nat→Bool,∀ j,j<8→V3 (12+j)=.bool (g j):=⟨fun j=>match V3 (12+j) with|.bool b=>b|_=>false,fun j hj=>by obtain⟨g,hg⟩:=M5.gives j hj;simp [hg]⟩
       obtain⟨g,hgv⟩:=hgv
       have hgc:∀ j,j<8→wr.cell? ⟨w0.heap.size,12+j,none⟩=some (.bool (g j)):=fun j hj=>by rw [←hgv j hj];exact M5.blk.cell (12+j) (by omega)
       have g0:=hgc 0 (by omega)
       have g1:=hgc 1 (by omega)
       have g2:=hgc 2 (by omega)
       have g3:=hgc 3 (by omega)
       have g4:=hgc 4 (by omega)
       have g5:=hgc 5 (by omega)
       have g6:=hgc 6 (by omega)
       have g7:=hgc 7 (by omega)
       clear hgc hgv
       obtain⟨xs,hK1,hKx⟩:=hK4.below hbr
       obtain⟨i0,hi0,hz0',hz1',hz2'⟩:=info_parts Tryz.info113
       go_wp2_with fail
       go_region_law
        ((refine step_append_lies _ (by rfl) _ _ _ (by rfl) w.heap.size 113 i0 _ 10 24 Tryz.under105 hi0 hz0' hz1' hz2' rfl (by omega) (.slice ka G.length kcap) G.length xs (by rfl) ((hK1.alloc _).drew)
           ⟨wr.heap.size,0,none⟩ 1 1 [.int .i64 (z:Int),.bool (g 0),.bool (g 1),.bool (g 2),.bool (g 3),.bool (g 4),.bool (g 5),.bool (g 6),.bool (g 7),.int .i64 (f:Int)] (by rfl) (by rfl) (World.news_of_block (t:=113) (fr:=(0,0)) (heap_alloc_new _ _)) (zzI _ _ _)
           (by omega) (by unfold maxLen;omega) (by omega) (by simp;omega) (wr.heap.size+1) (by simp) ?_;intro gn capn w6 hown6 hgrow hat hltg))
       all_goals
        rw [←hL,zp9]
        go_wp2_with fail
        go_roundw
        case rel =>
         obtain⟨D6,hb6⟩:=M5.blk.di.grew hK1 hgrow M5.base
         refine⟨A :: G,z,max fr f,k3,rfl,rfl,?_,?_,.cons hp (by omega) hG,by rw [List.length_cons];omega,?_,by rw [Nat.max_def];split <;> omega,KnRow.more hzb hfk hKx hK1.1 hown6,D6,(hb4.trans (hbr.mono M4.base)).trans hb6⟩
         ·rw [Nat.max_def,Int.max_def]
          split
          ·rw [if_pos (by omega)]
          ·rw [if_neg (by omega)]
         ·rw [List.length_cons];rfl
         ·rw [←zp9,ByteArray.size_append,List.length_cons,Nat.add_mul,hL]
          have:(accS G.length L L.length).size≤300000:=hs1
          omega
        case measure=>simp [intOf];omega
    clear hKz
    rcases hmost with rfl|rfl
    ·by_cases hg0:G.length=0
     ·have hgI:¬(0:Int)<(G.length:Int):=by omega
      clear hg0
      go_wp2_with fail
      exact join2 _ _ _ _ _ _ _ _ _ _ _ _ _ _ _ _ _ _ _ _ _ _ _ _ _ _ _ _ _ _ _ _ _ _ _ _ _ _ _ _ _ _ _ _ _ _ _ _ _ _ _ _ _ _ _ _ _ _ _ _ _ _ _ _ _ _ _ _ _ _ _ _ _ _ _ _ z w3 A c k3 V3 (by omega) hp (by omega) (by omega) M3 hK3 hb3
     ·have hgI:(0:Int)<(G.length:Int):=by omega
      go_wp2_with(first
       | (go_at_call 41;(with_reducible refine(zax M3 5 (by omega)).mono ?_);rintro e w4 ⟨t5,rfl,ht5,k4,V4,M4,f4⟩;refine Hid.out ?_))
      unfold Hid
      have hK4:=hK3.fr M3 f4
      have hb4:=hb3.trans (M3.low f4)
      by_cases ht0:t5=0
      ·subst ht0
       go_wp2_with fail
       exact join2 _ _ _ _ _ _ _ _ _ _ _ _ _ _ _ _ _ _ _ _ _ _ _ _ _ _ _ _ _ _ _ _ _ _ _ _ _ _ _ _ _ _ _ _ _ _ _ _ _ _ _ _ _ _ _ _ _ _ _ _ _ _ _ _ _ _ _ _ _ _ _ _ _ _ _ _ z w4 A c k4 V4 (by omega) hp (by omega) (by omega) M4 hK4 hb4
      ·have htI:(0:Int)<(t5:Int):=by omega
       go_wp2_with(first
        | (go_at_call 61;refine(hcalled _ _ _ _ _ _ _ _ _ M4 (fun _=>rfl) (by show([]++A).length≤_;rw [List.nil_append];omega) (by show G.length≤100;omega)).mono ?_;rintro e w5 ⟨⟨z5,rfl,hz5⟩,A5,c5,hp5,hAl5,hcl5,k5,V5,M5,f5⟩;refine Hid.out ?_))
       unfold Hid
       have hK5:=hK4.fr M4 f5
       have hb5:=hb4.trans (M4.low f5)
       have hz6:((z+z5:Nat):Int)=(z:Int)+(z5:Int):=by omega
       go_wp2_with fail
       rw [←hz6]
       exact join2 _ _ _ _ _ _ _ _ _ _ _ _ _ _ _ _ _ _ _ _ _ _ _ _ _ _ _ _ _ _ _ _ _ _ _ _ _ _ _ _ _ _ _ _ _ _ _ _ _ _ _ _ _ _ _ _ _ _ _ _ _ _ _ _ _ _ _ _ _ _ _ _ _ _ _ _ (z+z5) w5 (A++A5) c5 k5 V5 (by have:z5≤G.length*2147483648+2:=hz5;omega) (.app hp hp5) (by rw [List.length_append];omega) (by have:c5≤c+0:=hcl5;omega) M5 hK5 hb5
    ·go_wp2_with fail
     exact join2 _ _ _ _ _ _ _ _ _ _ _ _ _ _ _ _ _ _ _ _ _ _ _ _ _ _ _ _ _ _ _ _ _ _ _ _ _ _ _ _ _ _ _ _ _ _ _ _ _ _ _ _ _ _ _ _ _ _ _ _ _ _ _ _ _ _ _ _ _ _ _ _ _ _ _ _ z w3 A c k3 V3 (by omega) hp (by omega) (by omega) M3 hK3 hb3
   ·have hkI:¬(G.length:Int)<(n:Int):=by omega
    go_wp2
    (try simp only [Exit.inBlock,Exit.then])
    refine bodyPost_ret (zmB rfl _ _ _) rfl ?_
    exact⟨G,wt,n,fr,rfl,hG,(fun e=>by rw [e] at hk;simp at hk;omega),by omega,Nat.le_trans hGs (by omega),hb⟩
 have hb12:=hb0.trans (hb1.trans hb2)
 by_cases hu5:u=5
 ·subst hu5
  refine hK0 _ _ ?_
  go_wp2_with(first
   | (go_at_call 41;(with_reducible refine(zkI D2 hz2 18 (by omega)).mono ?_);rintro e w3 ⟨v,rfl,hv,⟨k3,D3⟩,hb3,hg3⟩;refine Hid.out ?_))
  unfold Hid
  clear hK2
  have e18:((1+v:Nat):Int)=1+(v:Int):=by omega
  go_wp2_with fail
  rw [←e18]
  exact join (1+v) 3 _ _ _ _ _ _ _ w3 k3 (by omega) (by omega) (.inl rfl) D3 (hb12.trans hb3) (Nat.le_trans hz2 hb3.size)
 ·clear hK2
  refine hK0 _ _ ?_
  have e4:((1+t:Nat):Int)=1+(t:Int):=by omega
  go_wp2_with fail
  rw [←e4]
  exact join (1+t) 30 _ _ _ _ _ _ _ w2 k2 (by omega) (by omega) (.inr rfl) D2 hb12 hz2
end
section
open Sp
def zeR(F:List FnM)(k:Nat)(l:List It):List (Ins × Int):=l.map (fun i=>(insM F k i,i.line))
def zc4(F:List FnM):Nat→List FnM→List (Ins × Int)
 | _,[]=>[]
 | k,f :: r=>zeR F k (zal f.its)++zc4 F (k+1) r
def zao(F:List FnM):List (Ins × Int):=zc4 F 0 F
theorem zlI(F:List FnM)(k:Nat)(R:List FnM):(zc4 F k R).length=lenF R:=by
 induction R generalizing k with
 | nil=>rfl
 | cons f R ih=>rw [ze5,zc4,List.length_append,ih];simp [zeR]
theorem zdK(F:List FnM):(zao F).length=lenF F:=zlI F 0 F
theorem zfY(F:List FnM)(n:Nat)(R:List FnM)(k:Nat)(f:FnM)(hk:R[k]?=some f)(m:Nat)(it:It)(hm:(zal f.its)[m]?=some it):
  (zc4 F n R)[lenF (R.take k)+m]?=some (insM F (n+k) it,it.line):=by
 induction R generalizing n k with
 | nil=>simp at hk
 | cons g R ih =>
  have hl:(zeR F n (zal g.its)).length=(zal g.its).length:=by simp [zeR]
  cases k with
  | zero =>
   have e:g=f:=by simpa using hk
   subst e
   have hlt:m<(zal g.its).length:=(List.getElem?_eq_some_iff.1 hm).1
   rw [zc4,List.take_zero,show lenF []+m=m by simp [lenF],List.getElem?_append_left (by omega)]
   unfold zeR
   rw [List.getElem?_map,hm]
   rfl
  | succ k =>
   rw [List.getElem?_cons_succ] at hk
   rw [zc4,List.take_succ_cons,ze5,List.getElem?_append_right (by omega),hl]
   rw [show(zal g.its).length+lenF (R.take k)+m-(zal g.its).length=lenF (R.take k)+m by omega,ih (n+1) k hk]
   rw [show n+1+k=n+(k+1) by omega]
theorem zkw(R:List FnM)(p:Nat)(hp:p<lenF R):∃ k f m it,R[k]?=some f∧(zal f.its)[m]?=some it∧p=lenF (R.take k)+m:=by
 induction R generalizing p with
 | nil=>simp [lenF] at hp
 | cons g R ih =>
  rw [ze5] at hp
  by_cases h:p<(zal g.its).length
  ·exact⟨0,g,p,(zal g.its)[p],rfl,List.getElem?_eq_getElem h,by simp [lenF]⟩
  ·obtain⟨k,f,m,it,a,b,c⟩:=ih (p-(zal g.its).length) (by omega)
   exact⟨k+1,f,m,it,by rw [List.getElem?_cons_succ];exact a,b,by rw [List.take_succ_cons,ze5];omega⟩
structure Right(L:List Said)(F:List FnM):Prop where
 good:Good L
 first:zan L 0=[]
 fns:F.map FnM.fn=zaP L 0
 some_:0<F.length
def zg6(C:List (Ins × Int))(z:Int):Int:=(C[z.toNat]?.map (·.2)).getD 0-1
theorem zph{C:List (Ins × Int)}{p:Nat}{q:Ins × Int}(h:C[p]?=some q):zg6 C (p:Int)=q.2-1:=by
 unfold zg6;rw [Int.toNat_natCast,h];rfl
theorem zvX(L:List Said)(o d:Nat)(ho:o<L.length)(h1:L[o].kind=102)(hd:o+d<L.length)(hno:NoFn L (o+1) (o+d)):zdS L (o+d)=(o:Int):=by
 induction d with
 | zero=>exact zfL L o ho h1
 | succ d ih =>
  rw [show o+(d+1)=o+d+1 by omega,zdH L (o+d) hd (hno _ hd (by omega) (Nat.le_refl _))]
  exact ih (by omega) (fun m hm a b=>hno m hm a (by omega))
theorem zvY(L:List Said){o j:Nat}(ho:o<L.length)(h1:L[o].kind=102)(hoj:o≤j)(hj:j<L.length)(hno:NoFn L (o+1) j)(x:ByteArray):zes L j x=zaY L x (o+1):=by
 obtain⟨d,rfl⟩:=Nat.exists_eq_add_of_le hoj
 unfold zes
 rw [zvX L o d ho h1 hj hno]
 congr 1
theorem zvZ{i:Ins}(h:Ends i)(h1:∀ to,i≠.jump to)(h2:i≠.back)(h3:i≠.stop):False:=by
 cases i <;> first|exact absurd rfl (h1 _)|exact h2 rfl|exact h3 rfl|exact h
namespace Right
variable {L:List Said} {F:List FnM}
theorem wf(R:Right L F):WfAll L:=fun q hq=>by
 obtain⟨k,hk,rfl⟩:=List.mem_iff_getElem.1 hq
 exact R.good.wf k hk
theorem fn_at(R:Right L F){k:Nat}{f:FnM}(hk:F[k]?=some f):∃ o,∃ ho:o<L.length,L[o].kind=102∧f.line=(o:Int)+1∧f.its.map It.key=zan L (o+1)∧cnt L (o+1)=lenF (F.take k):=by
 obtain⟨o,ho,_,b,c,d,e⟩:=zoV L R.wf 0 [] (by rw [R.first];rfl) F R.fns k f hk
 refine⟨o,ho,b,c,d,?_⟩
 rw [ze3 L o ho (by omega),e];simp [cnt,zal]
theorem place(R:Right L F){k o:Nat}{f:FnM}(hk:F[k]?=some f)(hb:f.its.map It.key=zan L (o+1))(hc:cnt L (o+1)=lenF (F.take k)){j:Nat}(hj:j<L.length)(hoj:o+1≤j)(h5:L[j].kind=105)(hno:NoFn L (o+1) j):
  ∃ it,(zao F)[cnt L j]?=some (insM F k it,it.line)∧it.key=keyQ L[j] ((j:Int)+1):=by
 obtain⟨it,a,b⟩:=zit L R.wf (o+1) f.its hb j hj hoj h5 hno
 refine⟨it,?_,b⟩
 have:=zfY F 0 F k f hk _ it a
 rw [←hc,Nat.zero_add] at this
 have hle:=zoS L hoj
 rw [show cnt L (o+1)+(cnt L j-cnt L (o+1))=cnt L j by omega] at this
 exact this
theorem next(R:Right L F){k o:Nat}{f:FnM}(hk:F[k]?=some f)(hb:f.its.map It.key=zan L (o+1))(hc:cnt L (o+1)=lenF (F.take k)){i:Nat}(hoi:o+1≤i)(hno:NoFn L (o+1) (i-1))(hn:zin L (zau L i)):
  cnt L i<(zao F).length∧zg6 (zao F) (cnt L i:Int)=zau L i:=by
 obtain⟨j,hn,_,_⟩:=hn
 obtain⟨hj,hij,h5,hcj,hnf⟩:=zoT L i j hn
 obtain⟨it,ha,hkey⟩:=R.place hk hb hc hj (by omega) h5 (hno.trans hnf (by omega))
 rw [hcj] at ha
 refine⟨(List.getElem?_eq_some_iff.1 ha).1,?_⟩
 rw [zph ha,hn]
 have:it.line=(j:Int)+1:=congrArg Key.line hkey
 show it.line-1=_
 omega
theorem label(R:Right L F){k o:Nat}{f:FnM}(hk:F[k]?=some f)(hb:f.its.map It.key=zan L (o+1))(hc:cnt L (o+1)=lenF (F.take k)){x:ByteArray}(hx:0≤zaY L x (o+1)):
  ∃ p:Nat,zbB (zcm f.its) x=some p∧labM F k x=((lenF (F.take k)+p:Nat):Int)∧lenF (F.take k)+p<(zao F).length∧zg6 (zao F) (labM F k x)=zau L (zaY L x (o+1)).toNat:=by
 obtain⟨j,hj0⟩:=Int.eq_ofNat_of_zero_le hx
 obtain⟨a,hj,hoj,h8,hno⟩:=zh0 L R.wf x (o+1) f.its hb 0 j hj0
 rw [Nat.zero_add] at a
 have hle:=zoS L hoj
 have hl:labM F k x=((lenF (F.take k)+(cnt L j-cnt L (o+1)):Nat):Int):=by
  unfold labM
  rw [hk]
  show(lenF (F.take k):Int)+(((zbB (zcm f.its) x).getD 0:Nat):Int)=_
  rw [a];simp
 have hp:lenF (F.take k)+(cnt L j-cnt L (o+1))=cnt L j:=by omega
 obtain⟨q1,q2⟩:=R.next hk hb hc hoj (fun m hm a b=>hno m hm a (by omega)) (R.good.lab j hj h8)
 refine⟨_,a,hl,by rw [hp];exact q1,?_⟩
 rw [hl,hp,q2,hj0]
 rfl
theorem function(R:Right L F){x:ByteArray}(hx:0≤zb3 L x 0):
  ∃ k,∃ _:k<F.length,zbB (zbj F) x=some k∧fnM F x=(lenF (F.take k):Int)∧lenF (F.take k)<(zao F).length∧zg6 (zao F) (fnM F x)=fnTo L x:=by
 obtain⟨o,ho0⟩:=Int.eq_ofNat_of_zero_le hx
 obtain⟨k,f,hk,hfind,hline⟩:=zkv L x 0 F R.fns 0 o ho0
 rw [Nat.zero_add] at hfind
 obtain⟨o',ho,h1,hl',hb,hc⟩:=R.fn_at hk
 have e:o'=o:=by omega
 subst e
 have hm:fnM F x=(lenF (F.take k):Int):=by unfold fnM;rw [hfind];rfl
 obtain⟨q1,q2⟩:=R.next hk hb hc (Nat.le_refl _) (fun m hm a b=>by omega) (R.good.fn o' ho h1)
 refine⟨k,(List.getElem?_eq_some_iff.1 hk).1,hfind,hm,by rw [←hc];exact q1,?_⟩
 rw [hm,←hc,q2]
 unfold fnTo
 rw [ho0]
 congr 1
theorem asks_l(R:Right L F){j:Nat}(hj:j<L.length)(h5:L[j].kind=105)(ha:zaE (L[j].word 0)=true):0≤zes L j L[j].last:=by
 have:=R.good.miss j hj
 unfold zco at this
 rw [List.getElem?_eq_getElem hj] at this
 simp only [h5,if_true,ha] at this
 simpa using this
theorem asks_f(R:Right L F){j:Nat}(hj:j<L.length)(h5:L[j].kind=105)(ha:zbt (L[j].word 0)=true):0≤zb3 L L[j].last 0:=by
 have:=R.good.miss j hj
 have hl:zaE (L[j].word 0)=false:=by
  cases h:zaE (L[j].word 0) with
  | false=>rfl
  | true=>rw [zij _ h] at ha;cases ha
 unfold zco at this
 rw [List.getElem?_eq_getElem hj] at this
 simp only [h5,if_true,ha,hl] at this
 simpa using this
theorem it_at(R:Right L F){k m:Nat}{f:FnM}{it:It}(hk:F[k]?=some f)(hm:(zal f.its)[m]?=some it):
  ∃ j,∃ hj:j<L.length,L[j].kind=105∧it.key=keyQ L[j] ((j:Int)+1)∧lenF (F.take k)+m=cnt L j ∧
   (zaE (L[j].word 0)=true→∃ p:Nat,zbB (zcm f.its) L[j].last=some p∧labM F k L[j].last=((lenF (F.take k)+p:Nat):Int)∧lenF (F.take k)+p<(zao F).length∧zg6 (zao F) (labM F k L[j].last)=zdV L j L[j].last) ∧
   (zbt (L[j].word 0)=true→∃ k2,∃ _:k2<F.length,zbB (zbj F) L[j].last=some k2∧fnM F L[j].last=(lenF (F.take k2):Int)∧lenF (F.take k2)<(zao F).length∧zg6 (zao F) (fnM F L[j].last)=fnTo L L[j].last) ∧
   (ends (L[j].word 0)=false→cnt L j+1<(zao F).length∧zg6 (zao F) ((cnt L j+1:Nat):Int)=zau L (j+1)):=by
 obtain⟨o,ho,h1,_,hb,hc⟩:=R.fn_at hk
 obtain⟨j,hj,hoj,h5,hkey,hcj,hno⟩:=zhz L R.wf (o+1) f.its hb m it hm
 refine⟨j,hj,h5,hkey,by omega,fun ha=>?_,fun ha=>R.function (R.asks_f hj h5 ha),fun he=>?_⟩
 ·have h0:=R.asks_l hj h5 ha
  have e:=zvY L ho h1 (by omega) hj hno L[j].last
  rw [e] at h0
  obtain⟨p,a,b,c,d⟩:=R.label hk hb hc h0
  exact⟨p,a,b,c,by rw [d];unfold zdV;rw [e]⟩
 ·have hv:=R.good.next j hj h5 he
  obtain⟨q1,q2⟩:=R.next hk hb hc (show o+1≤j+1 by omega) (by simpa using hno) hv
  rw [zis L j hj h5] at q1 q2
  exact⟨q1,q2⟩
theorem at_(R:Right L F){p:Nat}(hp:p<(zao F).length):
  ∃ k it j,∃ hj:j<L.length,(zao F)[p]?=some (insM F k it,it.line)∧it.line=(j:Int)+1∧insQ L j L[j]=zl7 (zg6 (zao F)) (insM F k it)∧zhn (insM F k it)∧Goes (zao F).length (insM F k it) ∧
   (Ends (insM F k it)∨(p+1<(zao F).length∧zau L (j+1)=zg6 (zao F) ((p:Int)+1))):=by
 rw [zdK] at hp
 obtain⟨k,f,m,it,hk,hm,e⟩:=zkw F p hp
 have hput:=zfY F 0 F k f hk m it hm
 rw [Nat.zero_add,←e] at hput
 obtain⟨j,hj,h5,hkey,hpl,hlab,hfn,hnx⟩:=R.it_at hk hm
 obtain⟨q1,q2,q3,q4⟩:=zvW L[j] h5 (R.good.form j hj h5) it _ hkey F k L j (zao F).length (zg6 (zao F))
  (fun ha=>by obtain⟨p',_,b,c,d⟩:=hlab ha;exact⟨d,_,b,c⟩) (fun ha=>by obtain⟨k2,_,_,b,c,d⟩:=hfn ha;exact⟨d,_,b,c⟩)
 refine⟨k,it,j,hj,hput,congrArg Key.line hkey,q1,q2,q3,?_⟩
 rcases q4 with q4|q4
 ·obtain⟨a,b⟩:=hnx q4
  have hp':p=cnt L j:=by omega
  exact .inr ⟨by omega,by rw [←b,hp'];rfl⟩
 ·exact .inl q4
theorem sim(R:Right L F):SimOk L (zao F) (zg6 (zao F)):=⟨fun p hp=>by
 obtain⟨k,it,j,hj,hput,hl,hq,_,_,hn⟩:=R.at_ hp
 have e:(zao F)[p]=(insM F k it,it.line):=(List.getElem?_eq_some_iff.1 hput).2
 refine⟨j,by rw [zph hput];show it.line-1=_;omega,hj,by rw [e];exact hq,by rw [e];exact hl,?_⟩
 rw [e]
 intro _ _ h1 h2 h3
 rcases hn with hn|hn
 ·exact(zvZ hn h1 h2 h3).elim
 ·exact hn.2⟩
theorem codeOk(R:Right L F):CodeOk (zao F):=by
 refine⟨?_,?_,fun p hp=>?_,fun p hp=>?_⟩
 ·obtain⟨f,hf⟩:∃ f,F[0]?=some f:=⟨F[0]'R.some_,List.getElem?_eq_getElem R.some_⟩
  obtain⟨o,ho,h1,_,hb,hc⟩:=R.fn_at hf
  exact Nat.lt_of_le_of_lt (Nat.zero_le _) (R.next hf hb hc (Nat.le_refl _) (fun m hm a b=>by omega) (R.good.fn o ho h1)).1
 ·by_cases h:0<(zao F).length
  ·obtain⟨k,f,m,it,hk,hm,e⟩:=zkw F ((zao F).length-1) (by rw [←zdK];omega)
   obtain⟨j,hj,_,_,hpl,_⟩:=R.it_at hk hm
   have:=zyb L j
   have:=R.good.few
   omega
  ·omega
 ·obtain⟨k,it,j,hj,hput,hl,hq,h4,_⟩:=R.at_ hp
  have e:(zao F)[p]=(insM F k it,it.line):=(List.getElem?_eq_some_iff.1 hput).2
  rw [e];exact h4
 ·obtain⟨k,it,j,hj,hput,hl,hq,h4,h5,hn⟩:=R.at_ hp
  have e:(zao F)[p]=(insM F k it,it.line):=(List.getElem?_eq_some_iff.1 hput).2
  rw [e]
  show zsB _ _ (insM F k it)
  revert hn h5
  generalize insM F k it=i
  intro h5 hn
  cases i <;> first|trivial|exact h5|(rcases hn with hn|hn;exact False.elim hn;first|exact hn.1|exact⟨h5,hn.1⟩)
end Right
theorem first_fn(L:List Said)(i:Nat)(f:Fn)(r:List Fn)(h:zaP L i=f :: r):f.line=(zeu L i:Int)+1:=by
 by_cases hi:i<L.length
 ·by_cases h1:L[i].kind=102
  ·rw [zbR L i hi h1] at h
   rw [zeu,dif_pos hi,if_pos h1]
   injection h with h _
   rw [←h]
  ·rw [zbH L i hi h1] at h
   rw [zeu,dif_pos hi,if_neg h1]
   exact first_fn L (i+1) f r h
 ·rw [zcJ L i hi] at h;cases h
termination_by L.length-i
theorem Right.begin{L:List Said}{F:List FnM}(R:Right L F)(inp:List Int):zbL L inp=lift (zg6 (zao F)) (zbl inp):=by
 obtain⟨f,hf⟩:∃ f,F[0]?=some f:=⟨F[0]'R.some_,List.getElem?_eq_getElem R.some_⟩
 obtain⟨o,ho,h1,hl,hb,hc⟩:=R.fn_at hf
 obtain⟨q1,q2⟩:=R.next hf hb hc (Nat.le_refl _) (fun m hm a b=>by omega) (R.good.fn o ho h1)
 have hfn:=R.fns
 cases F with
 | nil=>simp at hf
 | cons g r =>
  have e:g=f:=by simpa using hf
  subst e
  have h2:=first_fn L 0 g.fn (r.map FnM.fn) (by rw [←hfn];rfl)
  have h3:zeu L 0=o:=by
   have:g.fn.line=g.line:=rfl
   omega
  rw [hc] at q2
  unfold zbL
  rw [h3,←q2]
  rfl
end
section
open Go.RowKit Sp
def zn4(s:ByteArray)(L:List Said):Prop:=∀ w,LibW w→Calls Tryz.prog 44 #[.string s] w fun e w'=>Below w.heap.size w w'∧∃ pm ao m cap F,e=.returned (.agg #[.slice ao m cap,.map (some pm)])∧PIn w.heap.size w' pm (.slice ao m cap) F∧Right L F∧F.length≤300∧(∀ f∈F,f.its.length≤300∧∀ i∈f.its,ItOk i)
def ztg(w:World)(pr:Nat)(m:Mc)(line:Int)(w':World):Prop:=∃ w1 ao no co,w'=w1.setCells pr 0 (zaV m (.slice ao no co) line)∧Below w.heap.size w w1∧w1.ownsRow w.heap.size 2 1 (.slice ao no co) m.out.length (i64s m.out)
theorem zAc:zzG:=fun B w b px cv code S k V M hd hh hl hb hk hc=>by
 refine zzN B w b px cv code S k V M hd ?_ ?_ ?_ hk ?_
 ·unfold zjr
  simp only [hh]
  decide
 ·rw [hl];exact Nat.zero_le _
 ·rw [hb];exact Nat.zero_le _
 ·rw [hc];exact Nat.le_refl _
theorem zyP:zuH:=fun _B _w _b _px _cv _code _S _k _V M hh hl hk=>zmF M 0 (by decide) (hh 0) hl (by omega) (fun _W _k2 _V2 M2=>zkJ M2 0 (by decide) (hh 0) hl)
theorem zoz{w:World}{cv:Value}{code:List Int}(hc:SlB w w.heap.size cv code)(hl:code.length≤9223372036854775807)(hnum:∀ x∈code,i64 x):Calls Tryz.prog 31 #[cv] w (zot w):=zrE zAc zyP hc hl hnum
end
section
open Go.ChangeShapes Go.WideShapes Go.ChangeAt Go.RowKit Sp
theorem wf_i64{n:Int}(h:(Lit.int .i64 n).wf=true):i64 n:=by
 simp only [Lit.wf,Bool.and_eq_true,decide_eq_true_eq] at h
 exact h
end
section
open Go.ChangeShapes Go.WideShapes Go.ChangeAt Go.RowKit Sp
open Go.ChangeMaps (open_string shut_string)
theorem zq7{H:Type}(l r:List (DataW H)):l.length+r.length≤Rows.uptoBulk (.slice l r):=by
 have key:∀ l:List (DataW H),l.length≤Rows.uptoBulkAll l:=by
  intro l
  induction l with
  | nil=>simp
  | cons d l ih =>
   have:1≤Rows.uptoBulk d:=by
    cases d with
    | lit l=>cases l <;> simp [Rows.uptoBulk]
    | _=>simp [Rows.uptoBulk]
   simp only [Rows.uptoBulkAll,List.length_cons]
   omega
 have h1:=key l
 have h2:=key r
 simp only [Rows.uptoBulk]
 omega
end
section
open Go.RowKit Sp Go.WideMaps Go.Maps
theorem MapIs.look{w:World}{b:Nat}{E:List (ByteArray × Nat)}(h:MapIs w b E)(x:ByteArray)(hx:x.size≤1048576)(p:Nat)(hp:zbB E x=some p):(Instr.lookup 81 (.map (some b)) (.string x) false).run Tryz.prog w=.ok (.int .i64 (p:Int)) w:=by
 obtain⟨D,hown,hD,hhas,hat0,hpw⟩:=h
 obtain⟨c,hrun,hat,_⟩:=hown.lookup_int lawS Tryz.under81 Tryz.underlying3 (zsq _) (keyS x (by unfold maxLen;omega))
 rw [hat0 x p _ hp] at hat
 simp at hat
 rw [hrun,hat]
theorem MapIs.drewN{w:World}{b:Nat}{E:List (ByteArray × Nat)}(h:MapIs w b E)(n:Nat):MapIs (w.drewN n) b E:=h
theorem zkt(w:World)(pm bg k:Nat)(v:Value)(F:List FnM)(cap:Nat)(x:ByteArray)(hM:MapIs w pm (zbj F))(hx:x.size≤1048576)(hk:zbB (zbj F) x=some k)(hkl:k<F.length)(_hn:F.length≤300)(hc:w.cell? ⟨bg,k,none⟩=some (.int .i64 (lenF (F.take k):Int)))(bo cv:Nat)(hv:v=.slice (some ⟨bo,0,none⟩) F.length cv):
  Calls Tryz.prog 109 #[.agg #[v,.map (some pm),.slice (some ⟨bg,0,none⟩) F.length cap],.string x] w fun e w'=>e=.returned (.int .i64 (lenF (F.take k):Int))∧Below w.heap.size w w':=by
 subst hv
 have hl:=(hM.alloc (.cells #[.slice (some ⟨bo,0,none⟩) F.length cv,.map (some pm),.slice (some ⟨bg,0,none⟩) F.length cap] 128)).look x hx k hk
 have hlt:bg<w.heap.size:=World.block_lt_of_cell? w _ hc
 have hk0:(0:Int)≤(k:Int):=by omega
 have hk1:(k:Int)<(F.length:Int):=by omega
 have hne4:¬w.heap.size=bg:=by omega
 have hne5:¬bg=w.heap.size:=by omega
 go_enter Tryz.func109,Tryz.ntmps109
 go_wp2
 go_ret
 exact⟨rfl,(Below.refl _ _).alloc (Nat.le_refl _) _⟩
theorem zq2(w:World)(pm bg k j p bo cv cap:Nat)(F:List FnM)(x:ByteArray)(m:Nat)(E:List (ByteArray × Nat))(hM:MapIs w m E)(hx:x.size≤1048576)(hp:zbB E x=some p)(hp1:p≤300)(hkl:k<F.length)(hn:F.length≤300)(hj:j≤300)(hc:w.cell? ⟨bg,k,none⟩=some (.int .i64 (j:Int)))(hm:w.cell? ⟨bo,k*4+3,none⟩=some (.map (some m))):
  Calls Tryz.prog 108 #[.agg #[.slice (some ⟨bo,0,none⟩) F.length cv,.map (some pm),.slice (some ⟨bg,0,none⟩) F.length cap],.string x,.int .i64 (k:Int)] w fun e w'=>e=.returned (.int .i64 ((j:Int)+(p:Int)))∧Below w.heap.size w w':=by
 have hl:=fun n=>((hM.alloc (.cells #[.slice (some ⟨bo,0,none⟩) F.length cv,.map (some pm),.slice (some ⟨bg,0,none⟩) F.length cap] 128)).drewN n).look x hx p hp
 have hlt:bg<w.heap.size:=World.block_lt_of_cell? w _ hc
 have hlt2:bo<w.heap.size:=World.block_lt_of_cell? w _ hm
 have hk0:(0:Int)≤(k:Int):=by omega
 have hk1:(k:Int)<(F.length:Int):=by omega
 have hne4:¬w.heap.size=bg:=by omega
 have hne5:¬bg=w.heap.size:=by omega
 have hne6:¬w.heap.size=bo:=by omega
 have hne7:¬bo=w.heap.size:=by omega
 have hk4:k*4≤1200:=by omega
 go_enter Tryz.func108,Tryz.ntmps108
 go_wp2_with fail
 go_quiet(fail)
 go_wp2
 go_ret
 exact⟨rfl,((Below.refl _ _).alloc (Nat.le_refl _) _).trans ((zhQ _ nq).mono (by simp))⟩
end
end Go.Proofs.YtfpgjkbjbbgciaaGreatDoor
