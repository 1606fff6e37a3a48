import Derived.Test.YtfpgjkbjbbgciaaGreatDoorMi09
import Derived.Test.YtfpgjkbjbbgciaaGreatDoorMi10
import Derived.Test.YtfpgjkbjbbgciaaGreatDoorMi14
import Derived.Laws.IdiomStrings
set_option maxRecDepth 100000
set_option maxHeartbeats 8000000
namespace Go.Proofs.YtfpgjkbjbbgciaaGreatDoor
section
open Go.RowKit Sp
theorem za2(w:World)(a b:Obj)(cs:Array Value)(t:TypeId)(j:Nat):(((w.alloc a).alloc b).alloc (.cells cs t)).cell? ⟨w.heap.size+1+1,j,none⟩=cs[j]?:=by
 have h:=World.cell?_alloc_new (w:=(w.alloc a).alloc b) cs t j
 rw [show((w.alloc a).alloc b).heap.size=w.heap.size+1+1 by simp] at h
 exact h
theorem zcy(w:World)(a c:Obj)(cs:Array Value)(t:TypeId)(j:Nat):(((w.alloc a).alloc (.cells cs t)).alloc c).cell? ⟨w.heap.size+1,j,none⟩=cs[j]?:=by
 have h:=World.cell?_alloc_new (w:=w.alloc a) cs t j
 rw [show(w.alloc a).heap.size=w.heap.size+1 by simp] at h
 rw [←h]
 exact World.cell?_of_block (w:=(w.alloc a).alloc (.cells cs t)) (((Below.refl ((w.alloc a).alloc (.cells cs t)).heap.size ((w.alloc a).alloc (.cells cs t))).alloc (Nat.le_refl _) c).block (w.heap.size+1) (by simp))
theorem zba(w:World)(b c:Obj)(cs:Array Value)(t:TypeId)(j:Nat):(((w.alloc (.cells cs t)).alloc b).alloc c).cell? ⟨w.heap.size,j,none⟩=cs[j]?:=by
 have h:=World.cell?_alloc_new (w:=w) cs t j
 rw [←h]
 exact World.cell?_of_block (w:=w.alloc (.cells cs t)) ((((Below.refl (w.alloc (.cells cs t)).heap.size (w.alloc (.cells cs t))).alloc (Nat.le_refl _) b).alloc (by simp) c).block w.heap.size (by simp))
theorem za3{w w':World}(hb:Below w.heap.size w w'){p:Addr}{v:Value}(h:w.cell? p=some v):w'.cell? p=some v:=(hb.cell (World.block_lt_of_cell? w p h)).trans h
theorem ztc(w:World)(ao bo:Option Addr)(n1 c1 n2 c2 pm:Nat)(sort line a b c n k to:Int)(nm:ByteArray)
  (hlab:∀ W,Below w.heap.size w W→Calls Tryz.prog 108 #[.agg #[.slice ao n1 c1,.map (some pm),.slice bo n2 c2],.string nm,.int .i64 k] W fun e w'=>e=.returned (.int .i64 to)∧Below W.heap.size W w') :
  Calls Tryz.prog 81 #[.agg #[.slice ao n1 c1,.map (some pm),.slice bo n2 c2],stm sort line ⟨#[108,101,115,115]⟩ a b c n nm,.int .i64 k] w fun e w'=>e=.returned (.iface 187 (.agg #[.int .i64 a,.int .i64 b,.int .i64 to]))∧Below w.heap.size w w':=by
 have hrb:∀ W,(Instr.build 187 #[(0,.int .i64 a),(1,.int .i64 b),(2,.int .i64 to)]).run Tryz.prog W=.ok (.agg #[.int .i64 a,.int .i64 b,.int .i64 to]) W:=fun W=>run_build W 187 _ _ (by kernel_rfl)
 have hB:Below w.heap.size w (((w.alloc (.cells #[.slice ao n1 c1,.map (some pm),.slice bo n2 c2] 128)).alloc (.cells #[.int .i64 sort,.int .i64 line,.string ⟨#[108,101,115,115]⟩,.int .i64 a,.int .i64 b,.int .i64 c,.int .i64 n,.string nm] 135)).alloc (.cells #[.int .i64 a,.int .i64 b,.int .i64 c] 133)):=zaA
 go_enter Tryz.func81,Tryz.ntmps81
 go_wp2_with fail
 go_region_held3 (fun W=>Below w.heap.size w W∧W.cell? ⟨w.heap.size,0,none⟩=some (.slice ao n1 c1)∧W.cell? ⟨w.heap.size,1,none⟩=some (.map (some pm))∧W.cell? ⟨w.heap.size,2,none⟩=some (.slice bo n2 c2) ∧
   W.cell? ⟨w.heap.size+1,7,none⟩=some (.string nm)∧W.cell? ⟨w.heap.size+1+1,0,none⟩=some (.int .i64 a)∧W.cell? ⟨w.heap.size+1+1,1,none⟩=some (.int .i64 b))
  (first
    | (refine⟨hB.drew,zba _ _ _ _ _ 0,zba _ _ _ _ _ 1,zba _ _ _ _ _ 2,zcy _ _ _ _ _ 7,za2 _ _ _ _ _ 0,za2 _ _ _ _ _ 1⟩)
    | go_keep
    | (refine⟨hB.drew.trans (hb2.mono hB.drew.size),za3 hb2 (zba _ _ _ _ _ 0),za3 hb2 (zba _ _ _ _ _ 1),za3 hb2 (zba _ _ _ _ _ 2),za3 hb2 (zcy _ _ _ _ _ 7),za3 hb2 (za2 _ _ _ _ _ 0),za3 hb2 (za2 _ _ _ _ _ 1)⟩))
  ((go_at_call 108;refine(hlab _ hB.drew).mono ?_;rintro e w2 ⟨rfl,hb2⟩))
 go_wp2
 go_ret
 exact⟨rfl,hB.drew.trans (hb2.mono hB.drew.size)⟩
theorem ztd(w:World)(ao bo:Option Addr)(n1 c1 n2 c2 pm:Nat)(sort line a b c n k to:Int)(nm:ByteArray)
  (hlab:∀ W,Below w.heap.size w W→Calls Tryz.prog 108 #[.agg #[.slice ao n1 c1,.map (some pm),.slice bo n2 c2],.string nm,.int .i64 k] W fun e w'=>e=.returned (.int .i64 to)∧Below W.heap.size W w') :
  Calls Tryz.prog 81 #[.agg #[.slice ao n1 c1,.map (some pm),.slice bo n2 c2],stm sort line ⟨#[115,97,109,101]⟩ a b c n nm,.int .i64 k] w fun e w'=>e=.returned (.iface 188 (.agg #[.int .i64 a,.int .i64 b,.int .i64 to]))∧Below w.heap.size w w':=by
 have hrb:∀ W,(Instr.build 188 #[(0,.int .i64 a),(1,.int .i64 b),(2,.int .i64 to)]).run Tryz.prog W=.ok (.agg #[.int .i64 a,.int .i64 b,.int .i64 to]) W:=fun W=>run_build W 188 _ _ (by kernel_rfl)
 have hB:Below w.heap.size w (((w.alloc (.cells #[.slice ao n1 c1,.map (some pm),.slice bo n2 c2] 128)).alloc (.cells #[.int .i64 sort,.int .i64 line,.string ⟨#[115,97,109,101]⟩,.int .i64 a,.int .i64 b,.int .i64 c,.int .i64 n,.string nm] 135)).alloc (.cells #[.int .i64 a,.int .i64 b,.int .i64 c] 133)):=zaA
 go_enter Tryz.func81,Tryz.ntmps81
 go_wp2_with fail
 go_region_held3 (fun W=>Below w.heap.size w W∧W.cell? ⟨w.heap.size,0,none⟩=some (.slice ao n1 c1)∧W.cell? ⟨w.heap.size,1,none⟩=some (.map (some pm))∧W.cell? ⟨w.heap.size,2,none⟩=some (.slice bo n2 c2) ∧
   W.cell? ⟨w.heap.size+1,7,none⟩=some (.string nm)∧W.cell? ⟨w.heap.size+1+1,0,none⟩=some (.int .i64 a)∧W.cell? ⟨w.heap.size+1+1,1,none⟩=some (.int .i64 b))
  (first
    | (refine⟨hB.drew,zba _ _ _ _ _ 0,zba _ _ _ _ _ 1,zba _ _ _ _ _ 2,zcy _ _ _ _ _ 7,za2 _ _ _ _ _ 0,za2 _ _ _ _ _ 1⟩)
    | go_keep
    | (refine⟨hB.drew.trans (hb2.mono hB.drew.size),za3 hb2 (zba _ _ _ _ _ 0),za3 hb2 (zba _ _ _ _ _ 1),za3 hb2 (zba _ _ _ _ _ 2),za3 hb2 (zcy _ _ _ _ _ 7),za3 hb2 (za2 _ _ _ _ _ 0),za3 hb2 (za2 _ _ _ _ _ 1)⟩))
  ((go_at_call 108;refine(hlab _ hB.drew).mono ?_;rintro e w2 ⟨rfl,hb2⟩))
 go_wp2
 go_ret
 exact⟨rfl,hB.drew.trans (hb2.mono hB.drew.size)⟩
def zgk(c n:Int):Int:=(if c<0 then -(c+1) else c)%n
theorem zh9(c n:Int)(w:World)(hn:0<n)(hc:i64 c):Calls Tryz.prog 37 #[.int .i64 c,.int .i64 n] w fun e w'=>e=.returned (.int .i64 (zgk c n))∧w'=w:=by
 obtain⟨hc1,hc2⟩:=hc
 by_cases h:c<0
 ·have e1:wrap64 (c+1)=c+1:=(by unfold wrap64;omega)
  have e2:wrap64 (-(c+1))=-(c+1):=(by unfold wrap64;omega)
  have e3:(-(c+1)).tmod n=-(c+1)%n:=Int.tmod_eq_emod_of_nonneg (by omega)
  have e4:zgk c n=-(c+1)%n:=by unfold zgk;rw [if_pos h]
  rw [e4]
  go_enter Tryz.func37,Tryz.ntmps37
  go_wp2
  go_ret
  exact⟨rfl,rfl⟩
 ·have e4:zgk c n=c%n:=by unfold zgk;rw [if_neg h]
  rw [e4]
  go_enter Tryz.func37,Tryz.ntmps37
  go_wp2
  go_ret
  exact⟨rfl,rfl⟩
theorem zum(n:Nat)(w:World):(convert 157 9 (.slice (some ⟨w.heap.size,0,none⟩) 1 1)).run Tryz.prog (w.alloc (.cells #[.int .u8 (48+(n:Int)%10)] 5))=.ok (.string (ba [UInt8.ofNat (48+n%10)])) (w.alloc (.cells #[.int .u8 (48+(n:Int)%10)] 5)):=by
 refine run_convert_bytes_back (P:=Tryz.prog) _ 157 9 5 ⟨w.heap.size,0,none⟩ 1 [UInt8.ofNat (48+n%10)] (by kernel_rfl) (by kernel_rfl) (by kernel_rfl) (fun j hj=>?_)
 have:j=0:=by simp at hj;omega
 subst this
 show(w.alloc _).cell? ⟨w.heap.size,0+0,none⟩=_
 rw [World.cell?_alloc_new (w:=w) #[.int .u8 (48+(n:Int)%10)] 5 0]
 have:((UInt8.ofNat (48+n%10)).toNat:Int)=48+(n:Int)%10:=by
  rw [UInt8.toNat_ofNat',Nat.mod_eq_of_lt (by omega)];omega
 simp only [List.getElem_cons_zero,this]
 rfl
theorem zc8(a b:List UInt8):ba a++ba b=ba (a++b):=by
 apply ByteArray.ext
 simp [ba,ByteArray.data_append]
theorem zwM(k n:Nat)(h:n<10 ^ (k+1)):(decL n).length≤k+1:=by
 induction k generalizing n with
 | zero=>rw [zcd n (by simpa using h)];simp
 | succ k ih =>
  by_cases hs:n<10
  ·rw [zcd n hs];simp
  ·have:=ih (n/10) (by rw [Nat.pow_succ] at h;omega)
   rw [zeX n hs,List.length_append,List.length_singleton]
   omega
theorem zdO(n:Nat)(h:n≤9223372036854775808):(ba (decL n)).size≤20:=zwM 19 n (by omega)
theorem zmx(n:Nat)(h:n≤9223372036854775808)(w:World):Calls Tryz.prog 63 #[.int .i64 (-(n:Int))] w fun e w'=>e=.returned (.string (ba (decL n)))∧Below w.heap.size w w':=by
 induction n using Nat.strongRecOn generalizing w with
 | ind n ih =>
  have hcv:=zum n w
  have hb1:Below w.heap.size w (w.alloc (.cells #[.int .u8 (48+(n:Int)%10)] 5)):=(Below.refl _ _).alloc (Nat.le_refl _) _
  by_cases hs:n<10
  ·rw [zcd n hs]
   rw [show 48+n%10=48+n by omega] at hcv
   generalize ba [UInt8.ofNat (48+n)]=X at hcv ⊢
   go_enter Tryz.func63,Tryz.ntmps63
   go_wp2_with(first|(rw [hcv];go_upon))
   go_ret
   exact⟨rfl,hb1⟩
  ·have ih2:=ih (n/10) (by omega) (by omega) (w.alloc (.cells #[.int .u8 (48+(n:Int)%10)] 5))
   rw [show((n/10:Nat):Int)=(n:Int)/10 by omega] at ih2
   rw [zeX n hs,←zc8]
   have z1:=zdO (n/10) (by omega)
   have z2:(ba [UInt8.ofNat (48+n%10)]).size≤1:=Nat.le_refl _
   generalize ba [UInt8.ofNat (48+n%10)]=X at hcv z2 ⊢
   generalize ba (decL (n/10))=Y at ih2 z1 ⊢
   have z3:¬9223372036854775807<Y.size+X.size:=by omega
   go_enter Tryz.func63,Tryz.ntmps63
   go_wp2_with(first|(rw [hcv];go_upon)|(go_at_call 63;refine ih2.mono ?_;rintro e w2 ⟨rfl,hb2⟩))
   go_ret
   exact⟨rfl,hb1.trans (hb2.mono hb1.size)⟩
theorem zdP(n:Int)(h:i64 n)(w:World):Calls Tryz.prog 36 #[.int .i64 n] w fun e w'=>e=.returned (.string (ba (digL n)))∧Below w.heap.size w w':=by
 obtain⟨h1,h2⟩:=h
 have z1:=zdO n.natAbs (by omega)
 by_cases hn:n<0
 ·have hc:=zmx n.natAbs (by omega) w
  rw [show -((n.natAbs:Nat):Int)=n by omega] at hc
  rw [show digL n=[45]++decL n.natAbs by unfold digL;rw [if_pos hn];rfl,←zc8]
  generalize ba (decL n.natAbs)=Y at hc z1 ⊢
  have z3:¬9223372036854775807<1+Y.size:=by omega
  go_enter Tryz.func36,Tryz.ntmps36
  go_wp2_with(go_at_call 63;refine hc.mono ?_;rintro e w2 ⟨rfl,hb2⟩)
  go_ret
  exact⟨rfl,hb2⟩
 ·have hc:=zmx n.natAbs (by omega) w
  rw [show -((n.natAbs:Nat):Int)=-n by omega] at hc
  rw [show digL n=decL n.natAbs by unfold digL;rw [if_neg hn]]
  generalize ba (decL n.natAbs)=Y at hc z1 ⊢
  go_enter Tryz.func36,Tryz.ntmps36
  go_wp2_with(go_at_call 63;refine hc.mono ?_;rintro e w2 ⟨rfl,hb2⟩)
  go_ret
  exact⟨rfl,hb2⟩
def regY(r:Nat):ByteArray:=ba [114,UInt8.ofNat (48+r)]
theorem zwN(r:Nat)(h:r<8)(w:World):Calls Tryz.prog 38 #[.int .i64 (r:Int)] w fun e w'=>e=.returned (.string (regY r))∧Below w.heap.size w w':=by
 have hc:=zdP (r:Int) ⟨by omega,by omega⟩ w
 rw [show digL (r:Int)=[UInt8.ofNat (48+r)] by unfold digL;rw [if_neg (by omega),Int.natAbs_natCast,zcd r (by omega)]] at hc
 rw [show regY r=ba [114]++ba [UInt8.ofNat (48+r)] from(zc8 [114] [UInt8.ofNat (48+r)]).symm]
 have z:(ba [UInt8.ofNat (48+r)]).size=1:=rfl
 generalize ba [UInt8.ofNat (48+r)]=Y at hc z ⊢
 have z3:¬9223372036854775807<1+Y.size:=by omega
 go_enter Tryz.func38,Tryz.ntmps38
 go_wp2_with(go_at_call 36;refine hc.mono ?_;rintro e w2 ⟨rfl,hb2⟩)
 go_ret
 exact⟨rfl,hb2⟩
abbrev rv(r:Rg):Value:=.agg #[.int .i64 r.lo,.int .i64 r.hi]
theorem Tryz.info213:(Tryz.prog.info? 213).map (·.size)=some 2:=by kernel_rfl
theorem zca(a b:Int):∀ W,(Instr.build 213 #[(0,.int .i64 a),(1,.int .i64 b)]).run Tryz.prog W=.ok (.agg #[.int .i64 a,.int .i64 b]) W:=fun W=>run_build W 213 _ _ (by kernel_rfl)
theorem zn9{X:World}{b o:Nat}{r:Rg}(h0:X.cell? ⟨b,o,none⟩=some (.int .i64 r.lo))(h1:X.cell? ⟨b,o+1,none⟩=some (.int .i64 r.hi)):(loadVar 213 ⟨b,o,none⟩).run Tryz.prog X=.ok (rv r) X:=by
 have hu:Tryz.prog.underlying 213=some (.struct _):=Tryz.underlying213
 refine run_loadVar_mid X b o 213 [.int .i64 r.lo,.int .i64 r.hi] _ ?_ hu rfl Tryz.info213
 intro j u hj
 match j,hj with
 | 0,hj=>simp at hj;subst hj;exact h0
 | 1,hj=>simp at hj;subst hj;exact h1
theorem zb0{fn:Func}{a:Tmp}{Q:Ending→World→Prop}{X:World}{act:Act}{b:Nat}{r:Rg}(hr:fn.results=#[.cell a 213])(hp:act.tmps.getD a undef=.pointer (some ⟨b,0,none⟩))(hd:act.defers=[])
  (h0:X.cell? ⟨b,0,none⟩=some (.int .i64 r.lo)) (h1:X.cell? ⟨b,1,none⟩=some (.int .i64 r.hi)) (hq:Q (.returned (rv r)) X):bodyPost Tryz.prog fn Q .ret act X :=
 bodyPost_ret (zdf hr act.tmps ⟨b,0,none⟩ hp (zn9 h0 h1)) hd hq
theorem box1{w:World}{a:Obj}:Below w.heap.size w (w.alloc a):=(Below.refl _ _).alloc (Nat.le_refl _) _
theorem box2{w:World}{a b:Obj}:Below w.heap.size w ((w.alloc a).alloc b):=box1.alloc (by simp) _
theorem zkz(x:Int):IntKind.u64.wrap x=x%18446744073709551616:=by
 simp [IntKind.wrap,IntKind.bits,IntKind.signed]
theorem zh2(n:Int)(w:World):Calls Tryz.prog 226 #[.int .i64 n] w fun e w'=>e=.returned (rv (only n))∧Below w.heap.size w w':=by
 have hb:=zca n n
 go_enter Tryz.func226,Tryz.ntmps226
 go_wp2
 exact zb0 (r:=only n) Tryz.results226 rfl rfl (by simp [only]) (by simp [only]) ⟨rfl,box1⟩
theorem ziz(w:World):Calls Tryz.prog 238 #[] w fun e w'=>e=.returned (rv anyR)∧Below w.heap.size w w':=by
 have hb:=zca (-9223372036854775808) 9223372036854775807
 go_enter Tryz.func238,Tryz.ntmps238
 go_wp2
 exact zb0 (r:=anyR) Tryz.results238 rfl rfl (by simp [anyR]) (by simp [anyR]) ⟨rfl,box1⟩
theorem zpl(r o:Rg)(w:World):Calls Tryz.prog 156 #[rv r,rv o] w fun e w'=>e=.returned (rv (r.or o))∧Below w.heap.size w w':=by
 have hb:=zca (min r.lo o.lo) (max r.hi o.hi)
 go_enter Tryz.func156,Tryz.ntmps156
 go_wp2
 exact zb0 (r:=r.or o) Tryz.results156 rfl rfl (za2 _ _ _ _ _ 0) (za2 _ _ _ _ _ 1) ⟨rfl,zaA⟩
theorem zjN(r o:Rg)(w:World):Calls Tryz.prog 182 #[rv r,rv o] w fun e w'=>e=.returned (.bool (r.within o))∧Below w.heap.size w w':=by
 by_cases h:o.lo≤r.lo
 ·go_enter Tryz.func182,Tryz.ntmps182
  go_wp2
  go_ret
  exact⟨by simp [Rg.within,h],box2⟩
 ·have hd:decide (o.lo≤r.lo)=false:=by simpa using h
  go_enter Tryz.func182,Tryz.ntmps182
  go_wp2
  go_ret
  exact⟨by unfold Rg.within;rw [hd];rfl,box2⟩
theorem zlO(r:Rg)(w:World):Calls Tryz.prog 237 #[rv r] w fun e w'=>e=.returned (.int .u64 r.width)∧Below w.heap.size w w':=by
 have e:IntKind.u64.wrap (IntKind.u64.wrap r.hi-IntKind.u64.wrap r.lo)=r.width:=by
  rw [zkz,zkz,zkz];unfold Rg.width;omega
 go_enter Tryz.func237,Tryz.ntmps237
 go_wp2
 go_ret
 exact⟨rfl,box1⟩
theorem zyj{x a:Int}(hx:i64 x)(h1:¬a=-1):i64 (x.tdiv a):=by
 have hn:(x.tdiv a).natAbs=x.natAbs/a.natAbs:=Int.natAbs_tdiv x a
 by_cases h0:a=0
 ·subst h0;simp [i64]
 ·by_cases h2:a=1
  ·subst h2;simpa using hx
  ·have:x.natAbs/a.natAbs≤x.natAbs/2:=Nat.div_le_div_left (by omega) (by omega)
   unfold i64 at *
   omega
theorem zcW(a b:Int)(w:World):Calls Tryz.prog 246 #[.int .i64 a,.int .i64 b] w fun e w'=>e=.returned (.bool (zbz a b))∧w'=w:=by
 by_cases h1:a=-1
 ·subst h1
  have e0:zbz (-1) b=(b == -9223372036854775808):=by unfold zbz;rw [if_pos rfl];rfl
  rw [e0]
  go_enter Tryz.func246,Tryz.ntmps246
  go_wp2
  go_ret
  exact⟨rfl,rfl⟩
 ·have e0:zbz a b=(a != 0&&wrap64 ((wrap64 (a*b)).tdiv a) != b):=by
   unfold zbz
   rw [if_neg h1,zc2,zc2,zga (zyj (zdL _) h1)]
   by_cases h0:a=0 <;> by_cases h2:(w64 (a*b)).tdiv a=b <;> simp [h0,h2,bne]
  have h1':(a == -1)=false:=by simpa using h1
  by_cases h0:a=0
  ·rw [e0]
   clear e0
   subst h0
   go_enter Tryz.func246,Tryz.ntmps246
   go_wp2
   go_ret
   exact⟨rfl,rfl⟩
  ·rw [e0]
   clear e0
   have h0':(a != 0)=true:=by simpa using h0
   go_enter Tryz.func246,Tryz.ntmps246
   go_wp2
   go_ret
   exact⟨by rw [h0',Bool.true_and];rfl,rfl⟩
end
section
def HpAll(f:Nat→Int)(n:Nat):Prop:=∀ i,0<i→i<n→f ((i-1)/2)≤f i
structure RiseI(f:Nat→Int)(n a:Nat):Prop where
 all:∀ i,0<i→i<n→¬i=a→f ((i-1)/2)≤f i
 over:∀ i,0<i→i<n→(i-1)/2=a→0<a→f ((a-1)/2)≤f i
structure SinkI(f:Nat→Int)(n a:Nat):Prop where
 all:∀ i,0<i→i<n→¬(i-1)/2=a→f ((i-1)/2)≤f i
 over:∀ i,0<i→i<n→(i-1)/2=a→0<a→f ((a-1)/2)≤f i
def znE(f:Nat→Int)(a b:Nat):Nat→Int:=fun i=>if i=a then f b else if i=b then f a else f i
theorem HpAll.least{f:Nat→Int}{n:Nat}(h:HpAll f n):∀ i,i<n→f 0≤f i:=by
 intro i
 induction i using Nat.strongRecOn with
 | ind i ih =>
  intro hi
  by_cases h0:i=0
  ·subst h0;exact Int.le_refl _
  ·have h1:=ih ((i-1)/2) (by omega) (by omega)
   have h2:=h i (by omega) hi
   omega
theorem RiseI.done{f:Nat→Int}{n a:Nat}(h:RiseI f n a)(h0:a=0∨f ((a-1)/2)≤f a):HpAll f n:=by
 intro i hi hn
 by_cases e:i=a
 ·subst e
  rcases h0 with h0|h0
  ·omega
  ·exact h0
 ·exact h.all i hi hn e
theorem RiseI.step{f:Nat→Int}{n a:Nat}(h:RiseI f n a)(ha:0<a)(han:a<n)(hle:f a≤f ((a-1)/2)):RiseI (znE f a ((a-1)/2)) n ((a-1)/2):=by
 have key:∀ x,znE f a ((a-1)/2) x=if x=a then f ((a-1)/2) else if x=(a-1)/2 then f a else f x:=fun x=>rfl
 constructor
 ·intro i hi hn hne
  rw [key,key]
  by_cases e1:i=a
  ·subst e1
   rw [if_neg (by omega),if_pos rfl,if_pos rfl]
   exact hle
  ·rw [if_neg e1,if_neg hne]
   by_cases e2:(i-1)/2=a
   ·rw [if_pos e2];exact h.over i hi hn e2 ha
   ·rw [if_neg e2]
    have h1:=h.all i hi hn e1
    by_cases e3:(i-1)/2=(a-1)/2
    ·rw [if_pos e3];rw [e3] at h1;omega
    ·rw [if_neg e3];exact h1
 ·intro i hi hn e ha2
  rw [key,key,if_neg (by omega),if_neg (by omega)]
  have h2:=h.all ((a-1)/2) ha2 (by omega) (by omega)
  by_cases e1:i=a
  ·rw [if_pos e1];exact h2
  ·rw [if_neg e1,if_neg (by omega)]
   have h1:=h.all i hi hn e1
   rw [e] at h1
   omega
theorem SinkI.done{f:Nat→Int}{n a:Nat}(h:SinkI f n a)(h1:2*a+1<n→f a≤f (2*a+1))(h2:2*a+2<n→f a≤f (2*a+2)):HpAll f n:=by
 intro i hi hn
 by_cases e:(i-1)/2=a
 ·rcases(by omega:i=2*a+1∨i=2*a+2) with rfl|rfl
  ·rw [e];exact h1 hn
  ·rw [e];exact h2 hn
 ·exact h.all i hi hn e
theorem SinkI.step{f:Nat→Int}{n a c:Nat}(h:SinkI f n a)(hc:c=2*a+1∨c=2*a+2)(hcn:c<n)(h0:f c≤f a)(h1:2*a+1<n→f c≤f (2*a+1))(h2:2*a+2<n→f c≤f (2*a+2)):SinkI (znE f a c) n c:=by
 have key:∀ x,znE f a c x=if x=a then f c else if x=c then f a else f x:=fun x=>rfl
 constructor
 ·intro i hi hn hne
  rw [key,key]
  by_cases e1:i=c
  ·subst e1
   rw [if_pos (by omega),if_neg (by omega),if_pos rfl]
   exact h0
  ·by_cases e2:i=a
   ·subst e2
    rw [if_neg (by omega),if_neg (by omega),if_pos rfl]
    exact h.over c (by omega) hcn (by omega) hi
   ·rw [if_neg e2,if_neg e1,if_neg hne]
    by_cases e3:(i-1)/2=a
    ·rw [if_pos e3]
     rcases(by omega:i=2*a+1∨i=2*a+2) with rfl|rfl
     ·exact h1 hn
     ·exact h2 hn
    ·rw [if_neg e3];exact h.all i hi hn e3
 ·intro i hi hn e hc2
  rw [key,key,if_pos (by omega),if_neg (by omega),if_neg (by omega)]
  have h3:=h.all i hi hn (by omega)
  rw [e] at h3
  exact h3
theorem SinkI.head{f g:Nat→Int}{n m:Nat}(h:HpAll f n)(hm:m≤n)(e:∀ i,0<i→i<m→g i=f i):SinkI g m 0 :=
 ⟨fun i hi hn hne=>by rw [e i hi hn,e _ (by omega) (by omega)];exact h i hi (by omega),fun i hi hn _ h0=>absurd h0 (by omega)⟩
theorem RiseI.last{f g:Nat→Int}{n:Nat}(h:HpAll f n)(e:∀ i,i<n→g i=f i):RiseI g (n+1) n :=
 ⟨fun i hi hn hne=>by rw [e i (by omega),e _ (by omega)];exact h i hi (by omega),fun i hi hn e2=>by omega⟩
def zef{α:Type}(d:α)(l:List α)(i j:Nat):List α:=(l.set i (l.getD j d)).set j (l.getD i d)
theorem zty{α:Type}(d:α)(l:List α)(i j:Nat):(zef d l i j).length=l.length:=by simp [zef]
theorem zg9{α:Type}{d:α}{l:List α}{i j:Nat}(hi:i<l.length)(hj:j<l.length):(zef d l i j).Perm l:=by
 have e1:l.getD j d=l[j]:=by simp [List.getD,hj]
 have e2:l.getD i d=l[i]:=by simp [List.getD,hi]
 unfold zef
 rw [e1,e2]
 exact List.set_set_perm hi hj
theorem zpp{α:Type}{d:α}{l:List α}{i j:Nat}(hi:i<l.length)(hj:j<l.length)(hne:¬i=j)(x:Nat):(zef d l i j).getD x d=if x=i then l.getD j d else if x=j then l.getD i d else l.getD x d:=by
 unfold zef
 simp only [List.getD,List.getElem?_set]
 by_cases e1:j=x
 ·subst e1
  have hne':¬j=i:=fun h=>hne h.symm
  simp [hne',hj]
 ·have e1':¬x=j:=fun h=>e1 h.symm
  by_cases e2:i=x
  ·subst e2;simp [e1,hi]
  ·have e2':¬x=i:=fun h=>e2 h.symm
   simp [e1,e2,e1',e2']
theorem ztz{α:Type}{d:α}{l:List α}{i j:Nat}(hi:i<l.length)(hj:j<l.length)(hne:¬i=j)(st:α→Int):(fun x=>st ((zef d l i j).getD x d))=znE (fun x=>st (l.getD x d)) i j:=by
 funext x
 show st ((zef d l i j).getD x d)=if x=i then st (l.getD j d) else if x=j then st (l.getD i d) else st (l.getD x d)
 rw [zpp hi hj hne]
 split
 ·rfl
 ·split <;> rfl
end
section
open Go.RowKit Sp
theorem zap{X:World}{b:Nat}{u0 u1 v0 v1:Value}(h0:X.cell? ⟨b,0,none⟩=some u0)(h1:X.cell? ⟨b,1,none⟩=some u1):((X.setCell ⟨b,0,none⟩ v0).setCell ⟨b,1,none⟩ v1).cell? ⟨b,0,none⟩=some v0∧((X.setCell ⟨b,0,none⟩ v0).setCell ⟨b,1,none⟩ v1).cell? ⟨b,1,none⟩=some v1:=by
 refine⟨?_,?_⟩
 ·rw [World.cell?_setCell_other]
  ·exact World.cell?_setCell_same X _ _ h0
  ·simp
 ·refine World.cell?_setCell_same (u:=u1) _ _ _ ?_
  rw [World.cell?_setCell_other]
  ·exact h1
  ·simp
theorem zat{B:Nat}{w X:World}{b:Nat}{v0 v1:Value}(h:Below B w X)(hb:B≤b):Below B w ((X.setCell ⟨b,0,none⟩ v0).setCell ⟨b,1,none⟩ v1):=(h.setCell (p:=⟨b,0,none⟩) hb _).setCell (p:=⟨b,1,none⟩) hb _
theorem zeT(w:World)(a b:Obj)(cs:Array Value)(t:TypeId)(j:Nat):(((w.alloc a).alloc b).alloc (.cells cs t)).frozen? ⟨w.heap.size+1+1,j,none⟩=false:=World.frozen?_alloc_at _ _ _ _ (by simp)
theorem zh4(x:Int):IntKind.i64.wrap x=w64 x:=by
 unfold IntKind.wrap w64
 simp [IntKind.bits,IntKind.signed]
 split <;> omega
theorem zbJ{W W':World}{p0 p1 p2 p3:Addr}{v0 v1 v2 v3:Value}(hb:Below W.heap.size W W')(h:W.cell? p0=some v0∧W.cell? p1=some v1∧W.cell? p2=some v2∧W.cell? p3=some v3):W'.cell? p0=some v0∧W'.cell? p1=some v1∧W'.cell? p2=some v2∧W'.cell? p3=some v3 :=
 ⟨za3 hb h.1,za3 hb h.2.1,za3 hb h.2.2.1,za3 hb h.2.2.2⟩
theorem zpm(low:Int)(r o:Rg)(w:World):Calls Tryz.prog 235 #[.int .i64 low,rv r,rv o] w fun e w'=>e=.returned (rv (zf4 low r o))∧Below w.heap.size w w':=by
 have hwr:=fun W=>zlO r W
 have hwo:=fun W=>zlO o W
 have hr0:0≤r.width:=by unfold Rg.width;omega
 have ho0:0≤o.width:=by unfold Rg.width;omega
 have hadd:=zqG r.width o.width hr0 ho0
 have hB:Below w.heap.size w (((w.alloc (.cells #[.int .i64 r.lo,.int .i64 r.hi] 213)).alloc (.cells #[.int .i64 o.lo,.int .i64 o.hi] 213)).alloc (.cells #[.int .i64 0,.int .i64 0] 213)):=zaA
 have hs0:(((w.alloc (.cells #[.int .i64 r.lo,.int .i64 r.hi] 213)).alloc (.cells #[.int .i64 o.lo,.int .i64 o.hi] 213)).alloc (.cells #[.int .i64 0,.int .i64 0] 213)).heap.size=w.heap.size+1+1+1:=by simp
 have H1:(((w.alloc (.cells #[.int .i64 r.lo,.int .i64 r.hi] 213)).alloc (.cells #[.int .i64 o.lo,.int .i64 o.hi] 213)).alloc (.cells #[.int .i64 0,.int .i64 0] 213)).cell? ⟨w.heap.size,0,none⟩=some (.int .i64 r.lo)∧(((w.alloc (.cells #[.int .i64 r.lo,.int .i64 r.hi] 213)).alloc (.cells #[.int .i64 o.lo,.int .i64 o.hi] 213)).alloc (.cells #[.int .i64 0,.int .i64 0] 213)).cell? ⟨w.heap.size,1,none⟩=some (.int .i64 r.hi)∧(((w.alloc (.cells #[.int .i64 r.lo,.int .i64 r.hi] 213)).alloc (.cells #[.int .i64 o.lo,.int .i64 o.hi] 213)).alloc (.cells #[.int .i64 0,.int .i64 0] 213)).cell? ⟨w.heap.size+1,0,none⟩=some (.int .i64 o.lo)∧(((w.alloc (.cells #[.int .i64 r.lo,.int .i64 r.hi] 213)).alloc (.cells #[.int .i64 o.lo,.int .i64 o.hi] 213)).alloc (.cells #[.int .i64 0,.int .i64 0] 213)).cell? ⟨w.heap.size+1,1,none⟩=some (.int .i64 o.hi) :=
  ⟨zba _ _ _ _ _ 0,zba _ _ _ _ _ 1,zcy _ _ _ _ _ 0,zcy _ _ _ _ _ 1⟩
 have k0:(((w.alloc (.cells #[.int .i64 r.lo,.int .i64 r.hi] 213)).alloc (.cells #[.int .i64 o.lo,.int .i64 o.hi] 213)).alloc (.cells #[.int .i64 0,.int .i64 0] 213)).cell? ⟨w.heap.size+1+1,0,none⟩=some (.int .i64 0):=za2 _ _ _ _ _ 0
 have k1:(((w.alloc (.cells #[.int .i64 r.lo,.int .i64 r.hi] 213)).alloc (.cells #[.int .i64 o.lo,.int .i64 o.hi] 213)).alloc (.cells #[.int .i64 0,.int .i64 0] 213)).cell? ⟨w.heap.size+1+1,1,none⟩=some (.int .i64 0):=za2 _ _ _ _ _ 1
 have kz:∀ j,(((w.alloc (.cells #[.int .i64 r.lo,.int .i64 r.hi] 213)).alloc (.cells #[.int .i64 o.lo,.int .i64 o.hi] 213)).alloc (.cells #[.int .i64 0,.int .i64 0] 213)).frozen? ⟨w.heap.size+1+1,j,none⟩=false:=fun j=>zeT _ _ _ _ _ j
 go_enter Tryz.func235,Tryz.ntmps235
 go_wp2_with fail
 generalize ((w.alloc (.cells #[.int .i64 r.lo,.int .i64 r.hi] 213)).alloc (.cells #[.int .i64 o.lo,.int .i64 o.hi] 213)).alloc (.cells #[.int .i64 0,.int .i64 0] 213)=W0 at hB hs0 H1 k0 k1 kz
 go_region_held3 (fun W=>W.cell? ⟨w.heap.size,0,none⟩=some (.int .i64 r.lo)∧W.cell? ⟨w.heap.size,1,none⟩=some (.int .i64 r.hi)∧W.cell? ⟨w.heap.size+1,0,none⟩=some (.int .i64 o.lo)∧W.cell? ⟨w.heap.size+1,1,none⟩=some (.int .i64 o.hi))
  (first|exact H3|exact H2|exact H1)
  (first|(go_at_call 237;(with_reducible refine(hwr _).mono ?_);rintro e w2 ⟨rfl,hb2⟩;have H2:=zbJ hb2 H1)|(go_at_call 237;(with_reducible refine(hwo _).mono ?_);rintro e w3 ⟨rfl,hb3⟩;have H3:=zbJ hb3 H2)|(simp only;simp only [Oper.upon]))
 have hb12:Below W0.heap.size W0 w3:=((Below.refl _ _).drew).trans (hb2.trans (hb3.mono hb2.size))
 have hb13:Below w.heap.size w w3:=hB.trans (hb12.mono hB.size)
 have c0:=za3 hb12 k0
 have c1:=za3 hb12 k1
 have fz:∀ j,w3.frozen? ⟨w.heap.size+1+1,j,none⟩=false:=fun j=>(World.frozen?_of_block (w:=W0) (a:=⟨w.heap.size+1+1,j,none⟩) (hb12.block _ (show w.heap.size+1+1<W0.heap.size by omega))).trans (kz j)
 have f0:=fz 0
 have f1:=fz 1
 have hsz:w.heap.size+1+1<w3.heap.size:=by have:=hb12.size;rw [hs0] at this;omega
 clear fz kz H1 H2 H3 hb2 hb3 hwr hwo hadd hb12
 by_cases hT:18446744073709551616≤r.width+o.width
 ·have e0:zf4 low r o=anyR:=by unfold zf4;rw [if_pos (.inl hT)]
  have hr1:r.width<18446744073709551616:=by unfold Rg.width;omega
  have ho1:o.width<18446744073709551616:=by unfold Rg.width;omega
  have hq:(r.width+o.width)/18446744073709551616=1:=by omega
  rw [hq]
  generalize (r.width+o.width)%18446744073709551616=S
  have hany:=ziz w3
  go_wp2_with(go_at_call 238;(with_reducible refine hany.mono ?_);rintro e w4 ⟨rfl,hb4⟩;have d0:=za3 hb4 c0;have d1:=za3 hb4 c1;have g0:w4.frozen? ⟨w.heap.size+1+1,0,none⟩=false:=(World.frozen?_of_block (w:=w3) (a:=⟨w.heap.size+1+1,0,none⟩) (hb4.block _ hsz)).trans f0;have g1:w4.frozen? ⟨w.heap.size+1+1,1,none⟩=false:=(World.frozen?_of_block (w:=w3) (a:=⟨w.heap.size+1+1,1,none⟩) (hb4.block _ hsz)).trans f1)
  exact zb0 (r:=anyR) Tryz.results235 rfl rfl (zap d0 d1).1 (zap d0 d1).2 ⟨by rw [e0],zat (hb13.trans (hb4.mono hb13.size)) (by omega)⟩
 ·have hq:(r.width+o.width)/18446744073709551616=0:=by omega
  have hm:(r.width+o.width)%18446744073709551616=r.width+o.width:=by omega
  rw [hq,hm]
  generalize hS:r.width+o.width=S at hT hq hm
  have hS0:0≤S:=by omega
  have hcv:IntKind.i64.wrap S=w64 S:=zh4 S
  have hhi:wrap64 (low+w64 S)=w64 (low+S):=by
   rw [zc2]
   have:=zix S
   exact zlN (by omega)
  by_cases hlt:wrap64 (low+w64 S)<low
  ·have e0:zf4 low r o=anyR:=by unfold zf4;rw [if_pos (.inr (by rw [hS,←hhi];exact hlt))]
   have hany:=ziz w3
   go_wp2_with(go_at_call 238;(with_reducible refine hany.mono ?_);rintro e w4 ⟨rfl,hb4⟩;have d0:=za3 hb4 c0;have d1:=za3 hb4 c1;have g0:w4.frozen? ⟨w.heap.size+1+1,0,none⟩=false:=(World.frozen?_of_block (w:=w3) (a:=⟨w.heap.size+1+1,0,none⟩) (hb4.block _ hsz)).trans f0;have g1:w4.frozen? ⟨w.heap.size+1+1,1,none⟩=false:=(World.frozen?_of_block (w:=w3) (a:=⟨w.heap.size+1+1,1,none⟩) (hb4.block _ hsz)).trans f1)
   exact zb0 (r:=anyR) Tryz.results235 rfl rfl (zap d0 d1).1 (zap d0 d1).2 ⟨by first|rfl|rw [e0],zat (hb13.trans (hb4.mono hb13.size)) (by omega)⟩
  ·have e0:zf4 low r o=⟨low,wrap64 (low+w64 S)⟩:=by
    unfold zf4
    rw [hS,if_neg (by rw [←hhi];omega),←hhi]
   have hbd:=zca low (wrap64 (low+w64 S))
   have hlt2:low≤wrap64 (low+w64 S):=by omega
   have hlt3:decide (wrap64 (low+w64 S)<low)=false:=by simpa using hlt
   clear hhi
   go_wp2
   exact zb0 (r:=⟨low,wrap64 (low+w64 S)⟩) Tryz.results235 rfl rfl (zap c0 c1).1 (zap c0 c1).2 ⟨by first|rfl|rw [e0],zat hb13 (by omega)⟩
theorem zgC(w:World)(a b:Obj)(w4:World)(hb:Below (((w.alloc a).alloc b).alloc (.cells #[.int .i64 0,.int .i64 0] 213)).heap.size (((w.alloc a).alloc b).alloc (.cells #[.int .i64 0,.int .i64 0] 213)) w4):
  w4.cell? ⟨w.heap.size+1+1,0,none⟩=some (.int .i64 0)∧w4.cell? ⟨w.heap.size+1+1,1,none⟩=some (.int .i64 0)∧w4.frozen? ⟨w.heap.size+1+1,0,none⟩=false∧w4.frozen? ⟨w.heap.size+1+1,1,none⟩=false∧Below w.heap.size w w4:=by
 have hs:(((w.alloc a).alloc b).alloc (.cells #[.int .i64 0,.int .i64 0] 213)).heap.size=w.heap.size+1+1+1:=by simp
 have h3:Below w.heap.size w (((w.alloc a).alloc b).alloc (.cells #[.int .i64 0,.int .i64 0] 213)):=zaA
 have fz:∀ j,w4.frozen? ⟨w.heap.size+1+1,j,none⟩=false:=fun j=>(World.frozen?_of_block (w:=((w.alloc a).alloc b).alloc (.cells #[.int .i64 0,.int .i64 0] 213)) (a:=⟨w.heap.size+1+1,j,none⟩) (hb.block _ (show w.heap.size+1+1<_ by omega))).trans (zeT _ _ _ _ _ j)
 exact⟨za3 hb (za2 _ _ _ _ _ 0),za3 hb (za2 _ _ _ _ _ 1),fz 0,fz 1,h3.trans (hb.mono h3.size)⟩
theorem zpu(r o:Rg)(w:World):Calls Tryz.prog 234 #[rv r,rv o] w fun e w'=>e=.returned (rv (r.plus o))∧Below w.heap.size w w':=by
 have hcall:=fun W=>zpm (wrap64 (r.lo+o.lo)) r o W
 have e0:zf4 (wrap64 (r.lo+o.lo)) r o=r.plus o:=by rw [zc2];rfl
 rw [e0] at hcall
 have T:=zgC w (.cells #[.int .i64 r.lo,.int .i64 r.hi] 213) (.cells #[.int .i64 o.lo,.int .i64 o.hi] 213)
 go_enter Tryz.func234,Tryz.ntmps234
 go_wp2_with(go_at_call 235;(with_reducible refine(hcall _).mono ?_);rintro e w4 ⟨rfl,hb4⟩;obtain⟨d0,d1,g0,g1,hbw⟩:=T w4 hb4)
 exact zb0 (r:=r.plus o) Tryz.results234 rfl rfl (zap d0 d1).1 (zap d0 d1).2 ⟨rfl,zat hbw (by omega)⟩
theorem ztF(r o:Rg)(w:World):Calls Tryz.prog 242 #[rv r,rv o] w fun e w'=>e=.returned (rv (r.minus o))∧Below w.heap.size w w':=by
 have hcall:=fun W=>zpm (wrap64 (r.lo-o.hi)) r o W
 have e0:zf4 (wrap64 (r.lo-o.hi)) r o=r.minus o:=by rw [zc2];rfl
 rw [e0] at hcall
 have T:=zgC w (.cells #[.int .i64 r.lo,.int .i64 r.hi] 213) (.cells #[.int .i64 o.lo,.int .i64 o.hi] 213)
 go_enter Tryz.func242,Tryz.ntmps242
 go_wp2_with(go_at_call 235;(with_reducible refine(hcall _).mono ?_);rintro e w4 ⟨rfl,hb4⟩;obtain⟨d0,d1,g0,g1,hbw⟩:=T w4 hb4)
 exact zb0 (r:=r.minus o) Tryz.results242 rfl rfl (zap d0 d1).1 (zap d0 d1).2 ⟨rfl,zat hbw (by omega)⟩
theorem zcM(r o:Rg)(w:World)(hr:r.Ok)(hn:¬(r.lo=o.lo∧r.hi=o.hi∧r.lo=r.hi)):Calls Tryz.prog 278 #[rv r,rv o] w fun e w'=>e=.returned (rv (r.without o))∧Below w.heap.size w w':=by
 unfold Rg.Ok i64 at hr
 by_cases h1:o.lo=o.hi
 ·by_cases h2:o.lo=r.lo
  ·have e0:r.without o=⟨r.lo+1,r.hi⟩:=by unfold Rg.without;rw [if_pos h1,if_pos h2]
   have hb:=zca (r.lo+1) r.hi
   have t1:(o.lo != o.hi)=false:=by simpa using h1
   have t2:(o.lo == r.lo)=true:=by simpa using h2
   have b1:r.lo+1≤9223372036854775807:=by omega
   have b0:-9223372036854775808≤r.lo+1:=by omega
   go_enter Tryz.func278,Tryz.ntmps278
   go_wp2
   exact zb0 (r:=⟨r.lo+1,r.hi⟩) Tryz.results278 rfl rfl (za2 _ _ _ _ _ 0) (za2 _ _ _ _ _ 1) ⟨by rw [e0],zaA⟩
  ·have t1:(o.lo != o.hi)=false:=by simpa using h1
   have t2:(o.lo == r.lo)=false:=by simpa using h2
   by_cases h3:o.lo=r.hi
   ·have e0:r.without o=⟨r.lo,r.hi-1⟩:=by unfold Rg.without;rw [if_pos h1,if_neg h2,if_pos h3]
    have hb:=zca r.lo (r.hi-1)
    have t3:(o.lo == r.hi)=true:=by simpa using h3
    have b1:r.hi-1≤9223372036854775807:=by omega
    have b0:-9223372036854775808≤r.hi-1:=by omega
    go_enter Tryz.func278,Tryz.ntmps278
    go_wp2
    exact zb0 (r:=⟨r.lo,r.hi-1⟩) Tryz.results278 rfl rfl (za2 _ _ _ _ _ 0) (za2 _ _ _ _ _ 1) ⟨by rw [e0],zaA⟩
   ·have e0:r.without o=r:=by unfold Rg.without;rw [if_pos h1,if_neg h2,if_neg h3]
    have t3:(o.lo == r.hi)=false:=by simpa using h3
    go_enter Tryz.func278,Tryz.ntmps278
    go_wp2
    exact zb0 (r:=r) Tryz.results278 rfl rfl (za2 _ _ _ _ _ 0) (za2 _ _ _ _ _ 1) ⟨by rw [e0],zaA⟩
 ·have e0:r.without o=r:=by unfold Rg.without;rw [if_neg h1]
  have t1:(o.lo != o.hi)=true:=by simpa using h1
  go_enter Tryz.func278,Tryz.ntmps278
  go_wp2
  exact zb0 (r:=r) Tryz.results278 rfl rfl (za2 _ _ _ _ _ 0) (za2 _ _ _ _ _ 1) ⟨by rw [e0],zaA⟩
end
namespace Sp
structure Suf(r:List UInt8):Prop where
 none:zbm r []=[]
 flush:∀ now,zbm r now=zd3 now
 valid:∀ l:List UInt8,(∀ c∈l,c.toNat<128)→za0 (ba (l++r)) 0=true
 line:∀ c∈r,¬c=10
theorem zzB{r:List UInt8}(h:∀ now,zbm r now=zd3 now++zbm r [])(h0:zbm r []=[])(hv:∀ l:List UInt8,(∀ c∈l,c.toNat<128)→za0 (ba (l++r)) 0=true)(hl:∀ c∈r,¬c=10):Suf r :=
 ⟨h0,fun now=>by rw [h now,h0,List.append_nil],hv,hl⟩
theorem zuo{r:List UInt8}(hr:∀ c∈r,c.toNat<128):∀ l:List UInt8,(∀ c∈l,c.toNat<128)→za0 (ba (l++r)) 0=true:=fun l hl =>
 zon _ fun c hc=>by
  rcases List.mem_append.1 hc with e|e
  ·exact hl c e
  ·exact hr c e
theorem zup:Suf []:=zzB zr1 rfl (zuo (fun c hc=>by cases hc)) (fun c hc=>by cases hc)
structure Wd(x:List UInt8):Prop where
 ne:¬x=[]
 ok:∀ c∈x,33≤c.toNat∧c.toNat<127∧¬c.toNat=59
theorem Wd.clean{x:List UInt8}(h:Wd x):zy9 x:=fun c hc=>by
 obtain⟨h1,h2,h3⟩:=h.ok c hc
 refine⟨fun e=>?_,fun e=>?_⟩
 ·rw [e] at h3;exact h3 rfl
 ·rcases e with e|e <;> rw [e] at h1 <;> revert h1 <;> decide
theorem zr4(b r:List UInt8)(h:∀ c∈b,c=32∨c=9):zbm (b++r) []=zbm r []:=by
 induction b with
 | nil=>rfl
 | cons c t ih=>rw [List.cons_append,zom c _ (h c List.mem_cons_self),ih (fun x hx=>h x (List.mem_cons_of_mem _ hx))]
theorem zwQ{b s:List UInt8}(hb:∀ c∈b,c=32∨c=9){ws:List (List UInt8)}(hw:∀ x∈ws,Wd x)(hs:Suf s):say (ba (b++zcj ws++s))=sayW (ws.map ba):=by
 have h1:zbv (ba (b++zcj ws++s))=ws.map ba:=by
  rw [zwK,List.append_assoc,zr4 b _ hb,zol ws s (fun x hx=>⟨(hw x hx).ne,(hw x hx).clean⟩) (fun now=>by rw [hs.flush,hs.none,List.append_nil]),hs.none,List.append_nil]
 have h2:za0 (ba (b++zcj ws++s)) 0=true:=hs.valid _ fun c hc=>by
  rcases List.mem_append.1 hc with e|e
  ·rcases hb c e with e|e <;> rw [e] <;> decide
  ·exact ziZ ws (fun c=>c.toNat<128) (fun x hx c hc=>by have:=(hw x hx).ok c hc;omega) (by decide) c e
 unfold say
 rw [if_pos h2,h1]
theorem zuq{b s:List UInt8}(hb:∀ c∈b,c=32∨c=9){ws:List (List UInt8)}(hw:∀ x∈ws,Wd x)(hs:Suf s):∀ c∈b++zcj ws++s,¬c=10:=by
 intro c hc
 rcases List.mem_append.1 hc with e|e
 ·rcases List.mem_append.1 e with e|e
  ·rcases hb c e with e|e <;> rw [e] <;> decide
  ·exact ziZ ws (fun c=>¬c=10) (fun x hx c hc e=>by have:=(hw x hx).ok c hc;rw [e] at this;revert this;decide) (by decide) c e
 ·exact hs.line c e
theorem zyB(x:List UInt8):sayW ([[102,117,110,99],x].map ba)=⟨102,[ba [102,117,110,99],ba x],za5 (ba x)⟩:=by
 have:zep (ba [102,117,110,99])=true:=by unfold zep isW;rw [ziW];rfl
 simp only [List.map_cons,List.map_nil,sayW,this,if_true]
 rfl
theorem zp4(x:List UInt8)(c:UInt8):zfq (ba (x++[c]))=(c.toNat:Int):=by
 unfold zfq
 rw [zog,zcN,List.length_append];simp
theorem zwR(x:List UInt8):sayW ([x++[58]].map ba)=⟨108,[ba x],za5 (ba x)⟩:=by
 have h1:zep (ba (x++[58]))=false:=by
  unfold zep isW;rw [ziW]
  rw [beq_eq_false_iff_ne]
  intro h
  have:=congrArg List.getLast? h
  simp at this
 have h2:(ba (x++[58])).extract 0 ((ba (x++[58])).size-1)=ba x:=by
  rw [←zof ((ba (x++[58])).extract 0 _)]
  congr 1
  rw [ByteArray.data_extract,Array.toList_extract,zcN,ziV]
  simp [List.extract_eq_take_drop]
 simp only [List.map_cons,List.map_nil,sayW,h1,h2,zp4]
 simp
theorem zyC(x:List UInt8)(r:List (List UInt8))(sh:List UInt8)(h1:¬x=[102,117,110,99])(hl:∀ y,¬x=y++[58])(hx:¬x=[])(hs:zaa (ba x)=sh)(h63:¬sh=[63])(hn:r.length=sh.length):sayW ((x :: r).map ba)=⟨105,(x :: r).map ba,za7 sh (r.map ba)⟩:=by
 have e1:zep (ba x)=false:=by unfold zep isW;rw [ziW,beq_eq_false_iff_ne];exact h1
 have e2:¬zfq (ba x)=58:=by
  intro h
  have:=List.dropLast_concat_getLast hx
  rw [←this,zp4] at h
  have h3:x.getLast hx=58:=(zwJ (n:=58) (by omega)).1 h
  rw [h3] at this
  exact hl _ this.symm
 have e3:¬(zaa (ba x)=[63]∨¬((x :: r).map ba).length=(zaa (ba x)).length+1):=by
  rw [hs];simp [h63,hn]
 show(if zep (ba x)=true then _ else if _ then _ else _)=_
 rw [if_neg (by rw [e1];decide),if_neg (fun h=>e2 h.2)]
 show(⟨105,_,if(zaa (ba x)=[63]∨¬((x :: r).map ba).length=(zaa (ba x)).length+1) then false else za7 (zaa (ba x)) (r.map ba)⟩:Said)=_
 rw [if_neg e3,hs]
end Sp
end Go.Proofs.YtfpgjkbjbbgciaaGreatDoor
