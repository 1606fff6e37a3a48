import Derived.Test.YtfpgjkbjbbgciaaGreatDoorMk48
import Derived.Test.YtfpgjkbjbbgciaaGreatDoorMk51
set_option maxRecDepth 100000
set_option maxHeartbeats 8000000
namespace Go.Proofs.YtfpgjkbjbbgciaaGreatDoor
open Go.RowKit Sp
attribute [local go_sem ↓] Go.wp_at_zero Go.wp_at_succ
theorem zni{fn:Func}{t u v x:Tmp}(h:fn.results=#[.tmp t,.tmp u,.tmp v,.tmp x])(tmps:Array Value)(P:Program)(w:World):
  (results fn tmps).run P w=.ok (.tuple #[tmps.getD t undef,tmps.getD u undef,tmps.getD v undef,tmps.getD x undef]) w:=by
 simp [results,h]
structure CntQ(fs:Nat→Fw)(G:List (List Ln))(a b c:Int):Prop where
 wrote:WroteS fs G
 wt:a=((fs (G.length-1)).wt:Int)
 len:b=(G.length:Int)
 fr:∀ j,j<G.length→((fs j).fr:Int)≤c
def zlp(w:World):Ending→World→Prop:=fun e w'=>∃(G:List (List Ln)) (fs:Nat→Fw) (a b c:Int),e=.returned (.tuple #[.string (ba (zdK G)),.int .i64 a,.int .i64 b,.int .i64 c])∧Wrote G∧G≠[]∧G.length≤18∧(ba (zdK G)).size≤5400000∧Below w.heap.size w w'∧CntQ fs G a b c∧0≤a∧a≤100000000000∧0≤c∧c≤100
def zAs(w:World)(cv:Value)(code:List Int)(n:Nat)(t9 t10 t11 t12 t13:Value)(wr:World):Prop:=∃(G:List (List Ln)) (fs:Nat→Fw) (wt fr kd:Nat),t9=.string (ba (zdK G))∧t10=.int .i64 (wt:Int)∧t11=.int .i64 (fr:Int)∧t13=.int .i64 (G.length:Int)∧Wrote G∧G.length≤n∧(ba (zdK G)).size≤G.length*300000∧fr≤100∧KnRow w.heap.size wr t12 G.length fs∧DiM w.heap.size wr w.heap.size cv code kd∧Below w.heap.size w wr∧Hid (WroteS fs G)∧Hid (G≠[]→wt=(fs (G.length-1)).wt)∧Hid (∀ j,j<G.length→(fs j).fr≤fr)∧wt≤100000000000
theorem zv4:ba zbZ.bytes=ba [9]++(⟨#[98,97,99,107]⟩:ByteArray):=rfl
theorem Tryz.info113:(Tryz.prog.info? 113).map (fun i=>(i.zero,i.size,i.bytes))=some (some (.agg #[.int .i64 0,.bool false,.bool false,.bool false,.bool false,.bool false,.bool false,.bool false,.bool false,.int .i64 0]),10,24):=by kernel_rfl
theorem Tryz.under105:Tryz.prog.underlying 105=some (.slice 113):=by kernel_rfl
theorem zAt(z f:Int)(g:Nat→Bool):∀ u∈[Value.int .i64 z,.bool (g 0),.bool (g 1),.bool (g 2),.bool (g 3),.bool (g 4),.bool (g 5),.bool (g 6),.bool (g 7),.int .i64 f],u.oneCell'=true:=by
 intro u b;simp only [List.mem_cons,List.not_mem_nil,or_false] at b;rcases b with rfl|rfl|rfl|rfl|rfl|rfl|rfl|rfl|rfl|rfl <;> rfl
theorem hid{p:Prop}(h:p):Hid p:=h
theorem zAu{G:List (List Ln)}{A:List Ln}{fs:Nat→Fw}{fr:Nat}{F:Fw}(h:∀ j,j<G.length→(fs j).fr≤fr):∀ j,j<(A :: G).length→(updF fs G.length F j).fr≤max fr F.fr:=fun j hj=>by
 by_cases e:j=G.length
 ·rw [e,zdM];exact Nat.le_max_right _ _
 ·rw [zeS _ _ e];rw [List.length_cons] at hj;exact Nat.le_trans (h j (by omega)) (Nat.le_max_left _ _)
theorem zz4{nk z z5:Nat}{fs:Nat→Fw}{A A5:List Ln}{V:Nat→Value}(h1:Hid (z<1073741824→Sq nk fs (fun _=>false) [] A z (gvOf V) (frOf V)))(h2:Hid (z5<1073741824→Sq nk fs (fun _=>false) [] A5 z5 (gvOf V) (frOf V))):Hid (z+z5<1073741824→Sq nk fs (fun _=>false) [] (A++A5) (z+z5) (gvOf V) (frOf V)):=hid fun h=>((Hid.out2 h1) (by omega)).app ((Hid.out2 h2) (by omega))
theorem zss(hbody:zAp)(hcalled:zvv){w:World}{cv:Value}{code:List Int}(hc:SlB w w.heap.size cv code)(hl:code.length≤9223372036854775807)(hnum:∀ x∈code,i64 x):
  Calls Tryz.prog 31 #[cv] w (zlp w):=by
 have D0:=DiM.new hc hl hnum;obtain⟨E,a,b7,_,_⟩:=hc;subst b7;have am:w.heap.size≤(w.alloc (.cells #[.slice E code.length a,.int .i64 0] 76)).heap.size:=by simp
 have H:Below w.heap.size w (w.alloc (.cells #[.slice E code.length a,.int .i64 0] 76)):=(Below.refl _ _).alloc (Nat.le_refl _) _;go_enter Tryz.func31,Tryz.ntmps31;go_wp2_with(first
  | (go_at_call 41;first
      | ((with_reducible refine(zlk D0 am 4 (by omega)).mono ?_);rintro e w1 ⟨t,rfl,ht,⟨k1,D1⟩,ag,ca⟩;have I:=Nat.le_trans am ag.size)
      | ((with_reducible refine(zlk D1 I 6 (by omega)).mono ?_);rintro e w2 ⟨u,rfl,hu,⟨k2,D2⟩,ah,cb⟩;have R:=Nat.le_trans I ah.size;refine Hid.out ?_)))
 unfold Hid;rename_i K2 s K1 o K0 q;have ab:∀(n most:Nat) (an ao ap aq ar au av:Value) (W:World) (kd:Nat),1≤n→n≤18→(most=3∨most=30)→DiM w.heap.size W w.heap.size (.slice E code.length a) code kd→Below w.heap.size w W→w.heap.size≤W.heap.size→K2 ⟨(List.toArray (.slice E code.length a :: undef :: .string { data:=#[] } :: .int .i64 0 :: .int .i64 0 :: .int .i64 0 :: .pointer (some ⟨w.heap.size,0,none⟩) :: .int .i64 (n:Int) :: .int .i64 (most:Int) :: undef :: undef :: undef :: undef :: undef :: undef :: undef :: undef :: .slice E code.length a :: .agg #[.slice E code.length a,.int .i64 0] :: .pointer (some ⟨w.heap.size,0,none⟩) :: .pointer (some ⟨w.heap.size,0,none⟩) :: an :: ao :: .pointer (some ⟨w.heap.size,0,none⟩) :: ap :: aq :: ar :: au :: av :: undef :: undef :: undef :: undef :: undef :: undef :: undef :: undef :: undef :: undef :: undef :: undef :: undef :: undef :: undef :: undef :: undef :: undef :: undef :: undef :: undef :: undef :: undef :: undef :: undef :: undef :: undef :: undef :: undef :: undef :: undef :: undef :: undef :: undef :: undef :: undef :: undef :: undef :: undef :: undef :: undef :: undef :: undef :: undef :: undef :: undef :: undef :: undef :: undef :: undef :: undef :: undef :: undef :: undef :: undef :: undef :: undef :: undef :: undef :: undef :: undef :: undef :: undef :: undef :: undef :: undef :: undef :: undef :: undef :: undef :: undef :: undef :: undef :: undef :: undef :: undef :: undef :: undef :: [])),[]⟩ W:=by
  intro n most an ao ap aq ar au av W kd hn1 hn18 ak D T hz;clear D0 D1 D2 H ag ah ca cb am I R o q K1 K0;refine s _ _ ?_;clear s K2;go_wp2_with fail
  go_loopw [9,10,11,12,13] (fun t9 t10 t11 t12 t13 wr=>zAs w (.slice E code.length a) code n t9 t10 t11 t12 t13 wr) (fun _ _ _ _ t13 _=>n-(intOf t13).toNat)
  case atStart=>exact⟨[],fun _=>⟨0,fun _=>false,0⟩,0,0,kd,rfl,rfl,rfl,rfl,.nil,Nat.zero_le _,Nat.zero_le _,Nat.zero_le _,KnRow.nil _ _ _,D,T,trivial,fun h=>absurd rfl h,fun j hj=>absurd hj (Nat.not_lt_zero _),Nat.zero_le _⟩
  case round =>
   clear D T hz;obtain⟨G,fs,wt,fr,kd,rfl,rfl,rfl,rfl,hG,hGn,b0,hfr,hK,D,T,az,cq,Z,hwtb⟩:=hrel;have b1:=hK;obtain⟨xs,o,s⟩:=b1;obtain⟨ka,p,ch⟩:=zba o;subst ch;clear o s xs;by_cases hk:G.length<n
   ·have cg:(G.length:Int)<(n:Int):=by omega
    have hz:=T.size;have M0:=WrM.new (most:=(most:Int)) D hK;have q:=hK.below (w':=wr.alloc (.cells (wrL w.heap.size (most:Int) (.slice ka G.length p)).toArray 109)) ((Below.refl _ _).alloc (Nat.le_refl _) _);have H:Below w.heap.size w (wr.alloc (.cells (wrL w.heap.size (most:Int) (.slice ka G.length p)).toArray 109)):=T.alloc hz _;go_wp2_with(first
     | (go_at_call 60;refine Hid.out ?_))
    unfold Hid;refine(hbody _ _ _ _ _ _ _ _ _ M0 rfl (fun _=>rfl) rfl rfl (by show G.length≤100;omega) rfl).mono ?_;rintro e w3 ⟨z,⟨rfl,I⟩,A,c,hp,bZ,b6,k3,V3,B,S,q3⟩;dsimp only;replace q3:=hid q3;have y:=q.fr M0 S;have b:=H.trans (M0.low S);rename_i K1a h1a K0a h0a;refine h0a _ _ ?_;clear h0a;have aw:=hid h1a;clear h1a;go_wp2_with fail
    refine(Hid.out2 aw) _ _ ?_;clear aw K0a K1a;refine wp_seq_k fun Kz hKz=>?_;have m:∀(aJ aK aL aM aN aO aP aQ aR aS aT aU aV aW aX aY aZ a0 a1 a2 a3 a4 a5 a6 a7 a8 a9 bb bc bd be bf bg bh bi bj bk bl bm bn bo bp bq br bs bu bv bw bx bz bA bB bC bD bE bF bG bH bI bJ bK bL bM bN bO bP bQ bR bS bT bU bV bW ac ad ae:Value) (z:Nat) (W:World) (A:List Ln) (c k:Nat) (V:Nat→Value),z≤(G.length+1)*2147483648→Pc G.length 0 c A→A.length≤1270→c≤252→WrM w.heap.size W wr.heap.size w.heap.size (.slice E code.length a) code ⟨A,c,fun _=>false,[],0,most,G.length,fs⟩ k V→KnRow w.heap.size W (.slice ka G.length p) G.length fs→Below w.heap.size w W→Hid (z<1073741824→Sq G.length fs (fun _=>false) [] A z (gvOf V) (frOf V))→Kz ⟨(List.toArray (.slice E code.length a :: undef :: .string { data:=#[] } :: .int .i64 0 :: .int .i64 0 :: .int .i64 0 :: .pointer (some ⟨w.heap.size,0,none⟩) :: .int .i64 (n:Int) :: .int .i64 (most:Int) :: .string (ba (zdK G)) :: .int .i64 (z:Int) :: .int .i64 (fr:Int) :: .slice ka G.length p :: .int .i64 (G.length:Int) :: .pointer (some ⟨wr.heap.size,0,none⟩) :: aJ :: aK :: .slice E code.length a :: .agg #[.slice E code.length a,.int .i64 0] :: .pointer (some ⟨w.heap.size,0,none⟩) :: .pointer (some ⟨w.heap.size,0,none⟩) :: an :: ao :: .pointer (some ⟨w.heap.size,0,none⟩) :: ap :: aq :: ar :: au :: av :: aL :: aM :: aN :: aO :: aP :: aQ :: aR :: aS :: aT :: aU :: aV :: aW :: aX :: aY :: aZ :: a0 :: a1 :: a2 :: a3 :: a4 :: a5 :: a6 :: a7 :: a8 :: a9 :: bb :: bc :: bd :: be :: bf :: bg :: bh :: bi :: bj :: bk :: bl :: bm :: bn :: bo :: bp :: bq :: br :: bs :: bu :: bv :: bw :: bx :: bz :: bA :: bB :: bC :: bD :: bE :: bF :: bG :: bH :: bI :: bJ :: bK :: bL :: bM :: bN :: bO :: bP :: bQ :: bR :: bS :: bT :: bU :: bV :: bW :: ac :: ad :: ae :: undef :: undef :: undef :: undef :: [])),[]⟩ W:=by
     intro aJ aK aL aM aN aO aP aQ aR aS aT aU aV aW aX aY aZ a0 a1 a2 a3 a4 a5 a6 a7 a8 a9 bb bc bd be bf bg bh bi bj bk bl bm bn bo bp bq br bs bu bv bw bx bz bA bB bC bD bE bF bG bH bI bJ bK bL bM bN bO bP bQ bR bS bT bU bV bW ac ad ae z W A c k V cs hp bZ b6 M hK T hq;clear y b B S M0 H q D;refine hKz _ _ ?_;clear hKz Kz;have aD:i64 (G.length:Int):=⟨by omega,by omega⟩
     go_wp2_with(first
      | (go_at_call 62;(with_reducible refine(zbE M zbZ _ zv4 (by decide) (by show A.length≤_;omega)).mono ?_);rintro e w3 ⟨rfl,k3,V3,B,S⟩;have y:=hK.fr M S;have b:=T.trans (M.low S);have cj:=zhz hq S)
      | (go_at_call 36;refine Hid.out ?_))
     unfold Hid;refine(zfb (G.length:Int) aD _).mono ?_;rintro e w4 ⟨Dg,rfl,zD,hD,ai⟩;dsimp only;have J:=B.below ai B.base;have K:=y.below ai;have O:=b.trans (ai.mono B.base);have aI:=zfe 6 zD (by decide);have hz7:=zfe 7 zD (by decide);have I:¬9223372036854775807<6+Dg.size+1:=by omega
     go_wp2_with fail
     have N:∀ l∈A++[zbZ],l.bytes.length≤200:=fun l hl=>by
      rcases List.mem_append.1 hl with e|e
      ·exact hp.short (by omega) (by omega) l e
      ·rw [List.mem_singleton.1 e];exact zgJ.short
     have af:(A++[zbZ]).length≤1300:=by rw [List.length_append,List.length_singleton];omega
     have ay:0<(A++[zbZ]).length:=by rw [List.length_append,List.length_singleton];omega
     rw [show(⟨#[102,117,110,99,32,102]⟩:ByteArray)++Dg++(⟨#[10]⟩:ByteArray)=accS G.length (A++[zbZ]) 0 from zvs hD];obtain⟨w0,cp⟩:∃ w0:World,w0=wr:=⟨wr,rfl⟩
     subst cp;generalize hL:A++[zbZ]=L at N af ay B J S
     go_loopw [15,16] (fun t15 t16 wr2=>∃ i:Nat,t15=.string (accS G.length L i)∧t16=.int .i64 (i:Int)∧i≤L.length∧Below w4.heap.size w4 wr2) (fun _ t16 _=>L.length-(intOf t16).toNat)
     case atStart=>exact⟨0,rfl,rfl,Nat.zero_le _,Below.refl _ _⟩
     case round =>
      obtain⟨i,rfl,rfl,hiL,P⟩:=hrel;have C:=J.below P J.base;obtain⟨gl,capl,hvl,_,_⟩:=(C.lines).form ay;have cl:=C.blk.cell 1 (by omega);rw [hvl] at cl;have aa:=C.lines;rw [hvl] at aa;by_cases hi:i<L.length
      ·have ce:(i:Int)<(L.length:Int):=by omega
       have hce:wr.cell? ⟨gl,i,none⟩=some (.string (lnS L i)):=zdy aa i _ (by rw [List.getElem?_map,List.getElem?_eq_getElem hi];unfold lnS;rw [dif_pos hi];rfl);have aE:=zmZ (i:=i) (show G.length≤1000000 by omega) N af;have hs2:=zxI (i:=i) N;have ck:¬9223372036854775807<(accS G.length L i).size+(lnS L i).size:=by unfold accS;omega
       have hs4:¬9223372036854775807<(accS G.length L i).size+(lnS L i).size+1:=by unfold accS;omega
       go_wp2;rw [zvu hi];go_roundw
       case rel=>exact⟨i+1,rfl,by rfl,by omega,P⟩
       case measure=>simp [intOf];omega
      ·have ce:¬(i:Int)<(L.length:Int):=by omega
       have cf:i=L.length:=by omega
       subst cf;have aE:=zmZ (i:=L.length) (show G.length≤1000000 by omega) N af;have ck:¬9223372036854775807<(accS G.length L L.length).size+(ba (zdK G)).size:=by unfold accS;omega
       obtain⟨f,hf,aB⟩:=C.v22;have bX:=C.blk.cell 22 (by omega);rw [hf] at bX;have Q:∃ g:Nat→Bool,Hid (g=gvOf V3)∧∀ j,j<8→V3 (12+j)=.bool (g j):=⟨gvOf V3,rfl,fun j hj=>by obtain⟨g,hg⟩:=C.gives j hj;rw [hg,zgL hj hg]⟩
       obtain⟨g,aC,Q⟩:=Q;have b8:Hid (f=frOf V3):=hid (zgM hf).symm;have d:∀ j,j<8→wr.cell? ⟨w0.heap.size,12+j,none⟩=some (.bool (g j)):=fun j hj=>by rw [←Q j hj];exact C.blk.cell (12+j) (by omega)
       have g0:=d 0 (by omega);have g1:=d 1 (by omega);have g2:=d 2 (by omega);have g3:=d 3 (by omega);have g4:=d 4 (by omega);have g5:=d 5 (by omega);have g6:=d 6 (by omega);have g7:=d 7 (by omega);clear d Q;obtain⟨xs,o,b3⟩:=K.below P;obtain⟨i0,cd,aF,aG,aH⟩:=info_parts Tryz.info113;go_wp2_with fail
       go_region_law
        ((refine step_append_lies _ (by rfl) _ _ _ (by rfl) w.heap.size 113 i0 _ 10 24 Tryz.under105 cd aF aG aH rfl (by omega) (.slice ka G.length p) G.length xs (by rfl) ((o.alloc _).drew)
           ⟨wr.heap.size,0,none⟩ 1 1 [.int .i64 (z:Int),.bool (g 0),.bool (g 1),.bool (g 2),.bool (g 3),.bool (g 4),.bool (g 5),.bool (g 6),.bool (g 7),.int .i64 (f:Int)] (by rfl) (by rfl) (World.news_of_block (t:=113) (fr:=(0,0)) (heap_alloc_new _ _)) (zAt _ _ _)
           (by omega) (by unfold maxLen;omega) (by omega) (by simp;omega) (wr.heap.size+1) (by simp) ?_;intro gn capn w6 al aj hat hltg))
       all_goals
        rw [←hL,zqa];go_wp2_with fail
        go_roundw
        case rel =>
         obtain⟨D6,b5⟩:=C.blk.di.grew o aj C.base;have X:=aB.1;have Y:=aB.2;refine⟨A :: G,updF fs G.length ⟨z,g,f⟩,z,max fr f,k3,rfl,rfl,?_,?_,.cons hp (by omega) hG,by rw [List.length_cons];omega,?_,by rw [Nat.max_def];split <;> omega,KnRow.more (F:=⟨z,g,f⟩) cs X Y (fun r hr=>by rw [Hid.out2 aC];exact zx8 hr) b3 o.1 al,D6,(O.trans (P.mono J.base)).trans b5,hid (WroteS.cons (Hid.out2 az) (fun h=>by rw [Hid.out2 aC,Hid.out2 b8];exact(Hid.out2 cj) h) Y X),hid (fun _=>by rw [List.length_cons,Nat.add_sub_cancel,zdM]),hid (zAu (Hid.out2 Z)),?_⟩
         ·rw [Nat.max_def,Int.max_def];split
          ·rw [if_pos (by omega)]
          ·rw [if_neg (by omega)]
         ·rw [List.length_cons];rfl
         ·rw [←zqa,ByteArray.size_append,List.length_cons,Nat.add_mul,hL];have:(accS G.length L L.length).size≤300000:=aE;omega
         ·have:(G.length+1)*2147483648≤20*2147483648:=Nat.mul_le_mul_right _ (by omega);omega
        case measure=>simp [intOf];omega
    clear hKz;rcases ak with rfl|rfl
    ·by_cases b9:G.length=0
     ·have cc:¬(0:Int)<(G.length:Int):=by omega
      clear b9;go_wp2_with fail
      exact m _ _ _ _ _ _ _ _ _ _ _ _ _ _ _ _ _ _ _ _ _ _ _ _ _ _ _ _ _ _ _ _ _ _ _ _ _ _ _ _ _ _ _ _ _ _ _ _ _ _ _ _ _ _ _ _ _ _ _ _ _ _ _ _ _ _ _ _ _ _ _ _ _ _ _ _ z w3 A c k3 V3 (by omega) hp (by omega) (by omega) B y b q3
     ·have cc:(0:Int)<(G.length:Int):=by omega
      go_wp2_with(first
       | (go_at_call 41;(with_reducible refine(zax B 5 (by omega)).mono ?_);rintro e w4 ⟨t5,rfl,ht5,k4,V4,J,f4⟩;refine Hid.out ?_))
      unfold Hid;have K:=y.fr B f4;have O:=b.trans (B.low f4);by_cases cm:t5=0
      ·subst cm;go_wp2_with fail
       exact m _ _ _ _ _ _ _ _ _ _ _ _ _ _ _ _ _ _ _ _ _ _ _ _ _ _ _ _ _ _ _ _ _ _ _ _ _ _ _ _ _ _ _ _ _ _ _ _ _ _ _ _ _ _ _ _ _ _ _ _ _ _ _ _ _ _ _ _ _ _ _ _ _ _ _ _ z w4 A c k4 V4 (by omega) hp (by omega) (by omega) J K O (zhz q3 f4)
      ·have htI:(0:Int)<(t5:Int):=by omega
       go_wp2_with(first
        | (go_at_call 61;refine(hcalled _ _ _ _ _ _ _ _ _ J (fun _=>rfl) (by show([]++A).length≤_;rw [List.nil_append];omega) (by show G.length≤100;omega)).mono ?_;rintro e w5 ⟨z5,⟨rfl,cr⟩,A5,c5,ci,hAl5,aA,k5,V5,C,f5,q5⟩;replace q5:=hid q5;refine Hid.out ?_))
       unfold Hid;have b2:=K.fr J f5;have b4:=O.trans (J.low f5);have aI:((z+z5:Nat):Int)=(z:Int)+(z5:Int):=by omega
       go_wp2_with fail
       rw [←aI];exact m _ _ _ _ _ _ _ _ _ _ _ _ _ _ _ _ _ _ _ _ _ _ _ _ _ _ _ _ _ _ _ _ _ _ _ _ _ _ _ _ _ _ _ _ _ _ _ _ _ _ _ _ _ _ _ _ _ _ _ _ _ _ _ _ _ _ _ _ _ _ _ _ _ _ _ _ (z+z5) w5 (A++A5) c5 k5 V5 (by have:z5≤G.length*2147483648+2:=cr;omega) (.app hp ci) (by rw [List.length_append];omega) (by have:c5≤c+0:=aA;omega) C b2 b4 (zz4 (zhz (zhz q3 f4) f5) q5)
    ·go_wp2_with fail
     exact m _ _ _ _ _ _ _ _ _ _ _ _ _ _ _ _ _ _ _ _ _ _ _ _ _ _ _ _ _ _ _ _ _ _ _ _ _ _ _ _ _ _ _ _ _ _ _ _ _ _ _ _ _ _ _ _ _ _ _ _ _ _ _ _ _ _ _ _ _ _ _ _ _ _ _ _ z w3 A c k3 V3 (by omega) hp (by omega) (by omega) B y b q3
   ·have cg:¬(G.length:Int)<(n:Int):=by omega
    go_wp2
    (try simp only [Exit.inBlock,Exit.then])
    refine bodyPost_ret (zni rfl _ _ _) rfl ?_;have ax:G≠[]:=fun e=>by rw [e] at hk;simp at hk;omega
    exact⟨G,fs,wt,n,fr,rfl,hG,ax,by omega,Nat.le_trans b0 (by omega),T,⟨Hid.out2 az,by rw [(Hid.out2 cq) ax],by omega,fun j hj=>Int.ofNat_le.2 ((Hid.out2 Z) j hj)⟩,by omega,by omega,by omega,by omega⟩
 have U:=H.trans (ag.trans ah);by_cases cn:u=5
 ·subst cn;refine q _ _ ?_;go_wp2_with(first
   | (go_at_call 41;(with_reducible refine(zlk D2 R 18 (by omega)).mono ?_);rintro e w3 ⟨v,rfl,hv,⟨k3,D3⟩,b,hg3⟩;refine Hid.out ?_))
  unfold Hid;clear s;have bY:((1+v:Nat):Int)=1+(v:Int):=by omega
  go_wp2_with fail
  rw [←bY];exact ab (1+v) 3 _ _ _ _ _ _ _ w3 k3 (by omega) (by omega) (.inl rfl) D3 (U.trans b) (Nat.le_trans R b.size)
 ·clear s;refine q _ _ ?_;have e4:((1+t:Nat):Int)=1+(t:Int):=by omega
  go_wp2_with fail
  rw [←e4];exact ab (1+t) 30 _ _ _ _ _ _ _ w2 k2 (by omega) (by omega) (.inr rfl) D2 U R
end Go.Proofs.YtfpgjkbjbbgciaaGreatDoor
