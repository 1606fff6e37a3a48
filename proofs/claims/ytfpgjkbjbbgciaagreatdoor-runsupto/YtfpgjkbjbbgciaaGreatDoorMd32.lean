import Derived.Test.YtfpgjkbjbbgciaaGreatDoorMd28
import Derived.Test.YtfpgjkbjbbgciaaGreatDoorMd29
import Derived.Test.YtfpgjkbjbbgciaaGreatDoorMd30
import Derived.Test.YtfpgjkbjbbgciaaGreatDoorChecked
import Derived.Test.YtfpgjkbjbbgciaaGreatDoorRows
import Derived.Lib.LaidIn
import Derived.Lib.LaidU8T
import Derived.PinnedBridge
import Derived.Stop.LaidErr
import Derived.Deep.DeepHandedRow
import Derived.Deep.DeepWitnessRowRef
import Derived.ProofKit
import Derived.Shelf.Vars
import Derived.SizedLaws
import Derived.OpenShut
set_option maxRecDepth 100000
set_option maxHeartbeats 8000000
namespace Go.Proofs.YtfpgjkbjbbgciaaGreatDoor
open Go.RowKit Sp
theorem zqy(x y:Int)(hx:0≤x)(hy:0≤y)(W:World):(callFunc 236 #[.int .u64 x,.int .u64 y,.int .u64 0]).run Tryz.prog W=.ok (.value (.tuple #[.int .u64 ((x+y)%18446744073709551616),.int .u64 ((x+y)/18446744073709551616)])) W:=by
 rw [run_callFunc_extern Tryz.func236 (by kernel_rfl) (by kernel_rfl) (by kernel_rfl) (e:=add64Entry) (by kernel_rfl),run_add64 _ _ 0 hx hy (by omega) (by omega)]
 simp only [Result.andThen,Int.add_zero]
end Go.Proofs.YtfpgjkbjbbgciaaGreatDoor
namespace Go.Proofs.YtfpgjkbjbbgciaaGreatDoor
open Go.ChangeShapes Go.WideShapes Go.ChangeAt Go.RowKit Sp
open Go.ChangeMaps (open_string shut_string)
theorem zqn{H:Type}(l r:List (DataW H)):l.length+r.length≤Rows.uptoBulk (.slice l r):=by
 have key:∀ l:List (DataW H),l.length≤Rows.uptoBulkAll l:=by
  intro l
  induction l with
  | nil=>simp
  | cons d l ih =>
   have:1≤Rows.uptoBulk d:=by
    cases d with
    | lit l=>cases l <;> simp [Rows.uptoBulk]
    | _=>simp [Rows.uptoBulk]
   simp only [Rows.uptoBulkAll,List.length_cons]
   omega
 have h1:=key l
 have h2:=key r
 simp only [Rows.uptoBulk]
 omega
end Go.Proofs.YtfpgjkbjbbgciaaGreatDoor
namespace Go.Proofs.YtfpgjkbjbbgciaaGreatDoor
open Go.RowKit Sp
theorem zv0(i:Ins)(nx:Int)(m:Mc):(exec i nx m).out.length≤m.out.length+1:=by
 cases i <;> simp only [exec]
 all_goals(try split)
 all_goals(simp [Mc.goes])
theorem zsW(L:List Said)(m:Mc):(zbP L m).out.length≤m.out.length+1:=by
 unfold zbP
 split
 ·omega
 ·exact zv0 _ _ _
theorem zv1(L:List Said)(n:Nat)(m:Mc):(runS (zbP L) n m).out.length≤m.out.length+n:=by
 induction n generalizing m with
 | zero=>exact Nat.le_refl _
 | succ n ih =>
  by_cases h:m.fin=0
  ·rw [zcH _ _ _ h]
   have:=ih (zbP L m)
   have:=zsW L m
   omega
  ·rw [zcG _ _ _ h];omega
theorem SlB.slN{w:World}{b:Nat}{v:Value}{l:List Int}(h:SlB w b v l):SlN w v l:=by
 obtain⟨ao,cap,h1,_,h3⟩:=h
 exact⟨ao,cap,h1,fun hp=>by obtain⟨g,o,a,_,_,d⟩:=h3 hp;exact⟨g,o,a,d⟩⟩
theorem SlN.below{w w':World}{v:Value}{l:List Int}(h:SlN w v l)(hb:Below w.heap.size w w'):SlN w' v l:=by
 obtain⟨ao,cap,h1,h3⟩:=h
 exact⟨ao,cap,h1,fun hp=>by obtain⟨g,o,a,d⟩:=h3 hp;exact⟨g,o,a,fun j hj=>zaC hb (d j hj)⟩⟩
theorem zqm{w:World}{B g cap:Nat}{l:List Int}{x:Int}(h:w.ownsRow B 2 1 (.slice (some ⟨g,0,none⟩) (l.length+1) cap) (l.length+1) (i64s (l++[x])))(hg:g<w.heap.size)(hcap:l.length+1≤cap):SlB w w.heap.size (.slice (some ⟨g,0,none⟩) l.length cap) l:=by
 refine⟨_,cap,rfl,by omega,fun _=>⟨g,0,rfl,hg,hg,fun j hj=>?_⟩⟩
 have hlen:(i64s (l++[x])).length=l.length+1:=by simp [i64s]
 rw [Nat.zero_add,World.ownsRow.cellAt h j (by omega)]
 unfold i64s
 rw [List.map_append,List.getElem?_append_left (by simpa using hj)]
 simp [hj]
theorem zxo{w:World}{B:Nat}{e:TypeId}{n:Nat}{v:Value}{xs:List Value}(h:w.ownsRow B e 1 v n xs)(hn:0<n):∃ g cap,v=.slice (some ⟨g,0,none⟩) n cap∧B≤g∧g<w.heap.size∧n≤cap:=by
 obtain⟨g,cap,rfl,hb,hlt⟩:=h.form hn
 refine⟨g,cap,rfl,hb,hlt,?_⟩
 rcases h.2 with ⟨hv,h0⟩|⟨g',cap',cur,hv,_,_,r⟩
 ·omega
 ·simp only [Value.slice.injEq,true_and] at hv
  have:=r.1
  have:=hv.2
  omega
theorem zau{X:World}{b:Nat}{u0 u1 v0 v1:Value}(h0:X.cell? ⟨b,0,none⟩=some u0)(h1:X.cell? ⟨b,1,none⟩=some u1):((X.setCell ⟨b,0,none⟩ v0).setCell ⟨b,1,none⟩ v1).cell? ⟨b,0,none⟩=some v0∧((X.setCell ⟨b,0,none⟩ v0).setCell ⟨b,1,none⟩ v1).cell? ⟨b,1,none⟩=some v1:=by
 refine⟨?_,?_⟩
 ·rw [World.cell?_setCell_other]
  ·exact World.cell?_setCell_same X _ _ h0
  ·simp
 ·refine World.cell?_setCell_same (u:=u1) _ _ _ ?_
  rw [World.cell?_setCell_other]
  ·exact h1
  ·simp
theorem zaz{B:Nat}{w X:World}{b:Nat}{v0 v1:Value}(h:Below B w X)(hb:B≤b):Below B w ((X.setCell ⟨b,0,none⟩ v0).setCell ⟨b,1,none⟩ v1):=(h.setCell (p:=⟨b,0,none⟩) hb _).setCell (p:=⟨b,1,none⟩) hb _
theorem zeZ(w:World)(a b:Obj)(cs:Array Value)(t:TypeId)(j:Nat):(((w.alloc a).alloc b).alloc (.cells cs t)).frozen? ⟨w.heap.size+1+1,j,none⟩=false:=World.frozen?_alloc_at _ _ _ _ (by simp)
theorem zkl(x:Int):IntKind.i64.wrap x=w64 x:=by
 unfold IntKind.wrap w64
 simp [IntKind.bits,IntKind.signed]
 split <;> omega
theorem zbV{W W':World}{p0 p1 p2 p3:Addr}{v0 v1 v2 v3:Value}(hb:Below W.heap.size W W')(h:W.cell? p0=some v0∧W.cell? p1=some v1∧W.cell? p2=some v2∧W.cell? p3=some v3):W'.cell? p0=some v0∧W'.cell? p1=some v1∧W'.cell? p2=some v2∧W'.cell? p3=some v3 :=
 ⟨zaC hb h.1,zaC hb h.2.1,zaC hb h.2.2.1,zaC hb h.2.2.2⟩
theorem zoE(low:Int)(r o:Rg)(w:World):Calls Tryz.prog 235 #[.int .i64 low,rv r,rv o] w fun e w'=>e=.returned (rv (zfz low r o))∧Below w.heap.size w w':=by
 have hwr:=fun W=>zlH r W
 have hwo:=fun W=>zlH o W
 have hr0:0≤r.width:=by unfold Rg.width;omega
 have ho0:0≤o.width:=by unfold Rg.width;omega
 have hadd:=zqy r.width o.width hr0 ho0
 have hB:Below w.heap.size w (((w.alloc (.cells #[.int .i64 r.lo,.int .i64 r.hi] 213)).alloc (.cells #[.int .i64 o.lo,.int .i64 o.hi] 213)).alloc (.cells #[.int .i64 0,.int .i64 0] 213)):=zaK
 have hs0:(((w.alloc (.cells #[.int .i64 r.lo,.int .i64 r.hi] 213)).alloc (.cells #[.int .i64 o.lo,.int .i64 o.hi] 213)).alloc (.cells #[.int .i64 0,.int .i64 0] 213)).heap.size=w.heap.size+1+1+1:=by simp
 have H1:(((w.alloc (.cells #[.int .i64 r.lo,.int .i64 r.hi] 213)).alloc (.cells #[.int .i64 o.lo,.int .i64 o.hi] 213)).alloc (.cells #[.int .i64 0,.int .i64 0] 213)).cell? ⟨w.heap.size,0,none⟩=some (.int .i64 r.lo)∧(((w.alloc (.cells #[.int .i64 r.lo,.int .i64 r.hi] 213)).alloc (.cells #[.int .i64 o.lo,.int .i64 o.hi] 213)).alloc (.cells #[.int .i64 0,.int .i64 0] 213)).cell? ⟨w.heap.size,1,none⟩=some (.int .i64 r.hi)∧(((w.alloc (.cells #[.int .i64 r.lo,.int .i64 r.hi] 213)).alloc (.cells #[.int .i64 o.lo,.int .i64 o.hi] 213)).alloc (.cells #[.int .i64 0,.int .i64 0] 213)).cell? ⟨w.heap.size+1,0,none⟩=some (.int .i64 o.lo)∧(((w.alloc (.cells #[.int .i64 r.lo,.int .i64 r.hi] 213)).alloc (.cells #[.int .i64 o.lo,.int .i64 o.hi] 213)).alloc (.cells #[.int .i64 0,.int .i64 0] 213)).cell? ⟨w.heap.size+1,1,none⟩=some (.int .i64 o.hi) :=
  ⟨zbl _ _ _ _ _ 0,zbl _ _ _ _ _ 1,zc9 _ _ _ _ _ 0,zc9 _ _ _ _ _ 1⟩
 have k0:(((w.alloc (.cells #[.int .i64 r.lo,.int .i64 r.hi] 213)).alloc (.cells #[.int .i64 o.lo,.int .i64 o.hi] 213)).alloc (.cells #[.int .i64 0,.int .i64 0] 213)).cell? ⟨w.heap.size+1+1,0,none⟩=some (.int .i64 0):=zaB _ _ _ _ _ 0
 have k1:(((w.alloc (.cells #[.int .i64 r.lo,.int .i64 r.hi] 213)).alloc (.cells #[.int .i64 o.lo,.int .i64 o.hi] 213)).alloc (.cells #[.int .i64 0,.int .i64 0] 213)).cell? ⟨w.heap.size+1+1,1,none⟩=some (.int .i64 0):=zaB _ _ _ _ _ 1
 have kz:∀ j,(((w.alloc (.cells #[.int .i64 r.lo,.int .i64 r.hi] 213)).alloc (.cells #[.int .i64 o.lo,.int .i64 o.hi] 213)).alloc (.cells #[.int .i64 0,.int .i64 0] 213)).frozen? ⟨w.heap.size+1+1,j,none⟩=false:=fun j=>zeZ _ _ _ _ _ j
 go_enter Tryz.func235,Tryz.ntmps235
 go_wp2_with fail
 generalize ((w.alloc (.cells #[.int .i64 r.lo,.int .i64 r.hi] 213)).alloc (.cells #[.int .i64 o.lo,.int .i64 o.hi] 213)).alloc (.cells #[.int .i64 0,.int .i64 0] 213)=W0 at hB hs0 H1 k0 k1 kz
 go_region_held3 (fun W=>W.cell? ⟨w.heap.size,0,none⟩=some (.int .i64 r.lo)∧W.cell? ⟨w.heap.size,1,none⟩=some (.int .i64 r.hi)∧W.cell? ⟨w.heap.size+1,0,none⟩=some (.int .i64 o.lo)∧W.cell? ⟨w.heap.size+1,1,none⟩=some (.int .i64 o.hi))
  (first|exact H3|exact H2|exact H1)
  (first|(go_at_call 237;(with_reducible refine(hwr _).mono ?_);rintro e w2 ⟨rfl,hb2⟩;have H2:=zbV hb2 H1)|(go_at_call 237;(with_reducible refine(hwo _).mono ?_);rintro e w3 ⟨rfl,hb3⟩;have H3:=zbV hb3 H2)|(simp only;simp only [Oper.upon]))
 have hb12:Below W0.heap.size W0 w3:=((Below.refl _ _).drew).trans (hb2.trans (hb3.mono hb2.size))
 have hb13:Below w.heap.size w w3:=hB.trans (hb12.mono hB.size)
 have c0:=zaC hb12 k0
 have c1:=zaC hb12 k1
 have fz:∀ j,w3.frozen? ⟨w.heap.size+1+1,j,none⟩=false:=fun j=>(World.frozen?_of_block (w:=W0) (a:=⟨w.heap.size+1+1,j,none⟩) (hb12.block _ (show w.heap.size+1+1<W0.heap.size by omega))).trans (kz j)
 have f0:=fz 0
 have f1:=fz 1
 have hsz:w.heap.size+1+1<w3.heap.size:=by have:=hb12.size;rw [hs0] at this;omega
 clear fz kz H1 H2 H3 hb2 hb3 hwr hwo hadd hb12
 by_cases hT:18446744073709551616≤r.width+o.width
 ·have e0:zfz low r o=anyR:=by unfold zfz;rw [if_pos (.inl hT)]
  have hr1:r.width<18446744073709551616:=by unfold Rg.width;omega
  have ho1:o.width<18446744073709551616:=by unfold Rg.width;omega
  have hq:(r.width+o.width)/18446744073709551616=1:=by omega
  rw [hq]
  generalize (r.width+o.width)%18446744073709551616=S
  have hany:=zif w3
  go_wp2_with(go_at_call 238;(with_reducible refine hany.mono ?_);rintro e w4 ⟨rfl,hb4⟩;have d0:=zaC hb4 c0;have d1:=zaC hb4 c1;have g0:w4.frozen? ⟨w.heap.size+1+1,0,none⟩=false:=(World.frozen?_of_block (w:=w3) (a:=⟨w.heap.size+1+1,0,none⟩) (hb4.block _ hsz)).trans f0;have g1:w4.frozen? ⟨w.heap.size+1+1,1,none⟩=false:=(World.frozen?_of_block (w:=w3) (a:=⟨w.heap.size+1+1,1,none⟩) (hb4.block _ hsz)).trans f1)
  exact zbD (r:=anyR) Tryz.results235 rfl rfl (zau d0 d1).1 (zau d0 d1).2 ⟨by rw [e0],zaz (hb13.trans (hb4.mono hb13.size)) (by omega)⟩
 ·have hq:(r.width+o.width)/18446744073709551616=0:=by omega
  have hm:(r.width+o.width)%18446744073709551616=r.width+o.width:=by omega
  rw [hq,hm]
  generalize hS:r.width+o.width=S at hT hq hm
  have hS0:0≤S:=by omega
  have hcv:IntKind.i64.wrap S=w64 S:=zkl S
  have hhi:wrap64 (low+w64 S)=w64 (low+S):=by
   rw [zcz]
   have:=zia S
   exact zlE (by omega)
  by_cases hlt:wrap64 (low+w64 S)<low
  ·have e0:zfz low r o=anyR:=by unfold zfz;rw [if_pos (.inr (by rw [hS,←hhi];exact hlt))]
   have hany:=zif w3
   go_wp2_with(go_at_call 238;(with_reducible refine hany.mono ?_);rintro e w4 ⟨rfl,hb4⟩;have d0:=zaC hb4 c0;have d1:=zaC hb4 c1;have g0:w4.frozen? ⟨w.heap.size+1+1,0,none⟩=false:=(World.frozen?_of_block (w:=w3) (a:=⟨w.heap.size+1+1,0,none⟩) (hb4.block _ hsz)).trans f0;have g1:w4.frozen? ⟨w.heap.size+1+1,1,none⟩=false:=(World.frozen?_of_block (w:=w3) (a:=⟨w.heap.size+1+1,1,none⟩) (hb4.block _ hsz)).trans f1)
   exact zbD (r:=anyR) Tryz.results235 rfl rfl (zau d0 d1).1 (zau d0 d1).2 ⟨by first|rfl|rw [e0],zaz (hb13.trans (hb4.mono hb13.size)) (by omega)⟩
  ·have e0:zfz low r o=⟨low,wrap64 (low+w64 S)⟩:=by
    unfold zfz
    rw [hS,if_neg (by rw [←hhi];omega),←hhi]
   have hbd:=zcp low (wrap64 (low+w64 S))
   have hlt2:low≤wrap64 (low+w64 S):=by omega
   have hlt3:decide (wrap64 (low+w64 S)<low)=false:=by simpa using hlt
   clear hhi
   go_wp2
   exact zbD (r:=⟨low,wrap64 (low+w64 S)⟩) Tryz.results235 rfl rfl (zau c0 c1).1 (zau c0 c1).2 ⟨by first|rfl|rw [e0],zaz hb13 (by omega)⟩
theorem zg4(w:World)(a b:Obj)(w4:World)(hb:Below (((w.alloc a).alloc b).alloc (.cells #[.int .i64 0,.int .i64 0] 213)).heap.size (((w.alloc a).alloc b).alloc (.cells #[.int .i64 0,.int .i64 0] 213)) w4):
  w4.cell? ⟨w.heap.size+1+1,0,none⟩=some (.int .i64 0)∧w4.cell? ⟨w.heap.size+1+1,1,none⟩=some (.int .i64 0)∧w4.frozen? ⟨w.heap.size+1+1,0,none⟩=false∧w4.frozen? ⟨w.heap.size+1+1,1,none⟩=false∧Below w.heap.size w w4:=by
 have hs:(((w.alloc a).alloc b).alloc (.cells #[.int .i64 0,.int .i64 0] 213)).heap.size=w.heap.size+1+1+1:=by simp
 have h3:Below w.heap.size w (((w.alloc a).alloc b).alloc (.cells #[.int .i64 0,.int .i64 0] 213)):=zaK
 have fz:∀ j,w4.frozen? ⟨w.heap.size+1+1,j,none⟩=false:=fun j=>(World.frozen?_of_block (w:=((w.alloc a).alloc b).alloc (.cells #[.int .i64 0,.int .i64 0] 213)) (a:=⟨w.heap.size+1+1,j,none⟩) (hb.block _ (show w.heap.size+1+1<_ by omega))).trans (zeZ _ _ _ _ _ j)
 exact⟨zaC hb (zaB _ _ _ _ _ 0),zaC hb (zaB _ _ _ _ _ 1),fz 0,fz 1,h3.trans (hb.mono h3.size)⟩
theorem zoF(r o:Rg)(w:World):Calls Tryz.prog 234 #[rv r,rv o] w fun e w'=>e=.returned (rv (r.plus o))∧Below w.heap.size w w':=by
 have hcall:=fun W=>zoE (wrap64 (r.lo+o.lo)) r o W
 have e0:zfz (wrap64 (r.lo+o.lo)) r o=r.plus o:=by rw [zcz];rfl
 rw [e0] at hcall
 have T:=zg4 w (.cells #[.int .i64 r.lo,.int .i64 r.hi] 213) (.cells #[.int .i64 o.lo,.int .i64 o.hi] 213)
 go_enter Tryz.func234,Tryz.ntmps234
 go_wp2_with(go_at_call 235;(with_reducible refine(hcall _).mono ?_);rintro e w4 ⟨rfl,hb4⟩;obtain⟨d0,d1,g0,g1,hbw⟩:=T w4 hb4)
 exact zbD (r:=r.plus o) Tryz.results234 rfl rfl (zau d0 d1).1 (zau d0 d1).2 ⟨rfl,zaz hbw (by omega)⟩
theorem zth(r o:Rg)(w:World):Calls Tryz.prog 242 #[rv r,rv o] w fun e w'=>e=.returned (rv (r.minus o))∧Below w.heap.size w w':=by
 have hcall:=fun W=>zoE (wrap64 (r.lo-o.hi)) r o W
 have e0:zfz (wrap64 (r.lo-o.hi)) r o=r.minus o:=by rw [zcz];rfl
 rw [e0] at hcall
 have T:=zg4 w (.cells #[.int .i64 r.lo,.int .i64 r.hi] 213) (.cells #[.int .i64 o.lo,.int .i64 o.hi] 213)
 go_enter Tryz.func242,Tryz.ntmps242
 go_wp2_with(go_at_call 235;(with_reducible refine(hcall _).mono ?_);rintro e w4 ⟨rfl,hb4⟩;obtain⟨d0,d1,g0,g1,hbw⟩:=T w4 hb4)
 exact zbD (r:=r.minus o) Tryz.results242 rfl rfl (zau d0 d1).1 (zau d0 d1).2 ⟨rfl,zaz hbw (by omega)⟩
theorem zcY(r o:Rg)(w:World)(hr:r.Ok)(hn:¬(r.lo=o.lo∧r.hi=o.hi∧r.lo=r.hi)):Calls Tryz.prog 278 #[rv r,rv o] w fun e w'=>e=.returned (rv (r.without o))∧Below w.heap.size w w':=by
 unfold Rg.Ok i64 at hr
 by_cases h1:o.lo=o.hi
 ·by_cases h2:o.lo=r.lo
  ·have e0:r.without o=⟨r.lo+1,r.hi⟩:=by unfold Rg.without;rw [if_pos h1,if_pos h2]
   have hb:=zcp (r.lo+1) r.hi
   have t1:(o.lo != o.hi)=false:=by simpa using h1
   have t2:(o.lo == r.lo)=true:=by simpa using h2
   have b1:r.lo+1≤9223372036854775807:=by omega
   have b0:-9223372036854775808≤r.lo+1:=by omega
   go_enter Tryz.func278,Tryz.ntmps278
   go_wp2
   exact zbD (r:=⟨r.lo+1,r.hi⟩) Tryz.results278 rfl rfl (zaB _ _ _ _ _ 0) (zaB _ _ _ _ _ 1) ⟨by rw [e0],zaK⟩
  ·have t1:(o.lo != o.hi)=false:=by simpa using h1
   have t2:(o.lo == r.lo)=false:=by simpa using h2
   by_cases h3:o.lo=r.hi
   ·have e0:r.without o=⟨r.lo,r.hi-1⟩:=by unfold Rg.without;rw [if_pos h1,if_neg h2,if_pos h3]
    have hb:=zcp r.lo (r.hi-1)
    have t3:(o.lo == r.hi)=true:=by simpa using h3
    have b1:r.hi-1≤9223372036854775807:=by omega
    have b0:-9223372036854775808≤r.hi-1:=by omega
    go_enter Tryz.func278,Tryz.ntmps278
    go_wp2
    exact zbD (r:=⟨r.lo,r.hi-1⟩) Tryz.results278 rfl rfl (zaB _ _ _ _ _ 0) (zaB _ _ _ _ _ 1) ⟨by rw [e0],zaK⟩
   ·have e0:r.without o=r:=by unfold Rg.without;rw [if_pos h1,if_neg h2,if_neg h3]
    have t3:(o.lo == r.hi)=false:=by simpa using h3
    go_enter Tryz.func278,Tryz.ntmps278
    go_wp2
    exact zbD (r:=r) Tryz.results278 rfl rfl (zaB _ _ _ _ _ 0) (zaB _ _ _ _ _ 1) ⟨by rw [e0],zaK⟩
 ·have e0:r.without o=r:=by unfold Rg.without;rw [if_neg h1]
  have t1:(o.lo != o.hi)=true:=by simpa using h1
  go_enter Tryz.func278,Tryz.ntmps278
  go_wp2
  exact zbD (r:=r) Tryz.results278 rfl rfl (zaB _ _ _ _ _ 0) (zaB _ _ _ _ _ 1) ⟨by rw [e0],zaK⟩
end Go.Proofs.YtfpgjkbjbbgciaaGreatDoor
