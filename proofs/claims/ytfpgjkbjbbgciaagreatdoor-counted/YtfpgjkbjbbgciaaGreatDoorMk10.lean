import Derived.Test.YtfpgjkbjbbgciaaGreatDoorMk06
import Derived.Test.YtfpgjkbjbbgciaaGreatDoorMk08
import Derived.Test.YtfpgjkbjbbgciaaGreatDoorChecked
import Derived.Test.YtfpgjkbjbbgciaaGreatDoorRows
import Derived.Lib.LaidIn
import Derived.Lib.LaidU8T
import Derived.PinnedBridge
import Derived.Stop.LaidErr
import Derived.Deep.DeepHandedRow
import Derived.Deep.DeepWitnessRowRef
import Derived.ProofKit
import Derived.Shelf.Vars
import Derived.SizedLaws
import Derived.Test.YtfpgjkbjbbgciaaGreatDoorCards
import Derived.Test.YtfpgjkbjbbgciaaGreatDoorTie
import Derived.Deep.DeepLaidRun
import Derived.OpenShut
set_option maxRecDepth 100000
set_option maxHeartbeats 8000000
namespace Go.Proofs.YtfpgjkbjbbgciaaGreatDoor
section
open Go.RowKit Sp
theorem zaA{w:World}{a b c:Obj}:Below w.heap.size w (((w.alloc a).alloc b).alloc c):=(((Below.refl _ _).alloc (Nat.le_refl _) _).alloc (by simp) _).alloc (by simp;omega) _
theorem zt4(w:World)(ao bo:Option Addr)(n1 c1 n2 c2 pm:Nat)(sort line a b c n k to:Int)(nm:ByteArray)
  (hlab:∀ W,Below w.heap.size w W→Calls Tryz.prog 108 #[.agg #[.slice ao n1 c1,.map (some pm),.slice bo n2 c2],.string nm,.int .i64 k] W fun e w'=>e=.returned (.int .i64 to)∧Below W.heap.size W w') :
  Calls Tryz.prog 81 #[.agg #[.slice ao n1 c1,.map (some pm),.slice bo n2 c2],stm sort line ⟨#[106,117,109,112]⟩ a b c n nm,.int .i64 k] w fun e w'=>e=.returned (.iface 185 (.agg #[.int .i64 to]))∧Below w.heap.size w w':=by
 have hrb:∀ W,(Instr.build 185 #[(0,.int .i64 to)]).run Tryz.prog W=.ok (.agg #[.int .i64 to]) W:=fun W=>run_build W 185 _ _ (by kernel_rfl);have d:Below w.heap.size w (((w.alloc (.cells #[.slice ao n1 c1,.map (some pm),.slice bo n2 c2] 128)).alloc (.cells #[.int .i64 sort,.int .i64 line,.string ⟨#[106,117,109,112]⟩,.int .i64 a,.int .i64 b,.int .i64 c,.int .i64 n,.string nm] 135)).alloc (.cells #[.int .i64 a,.int .i64 b,.int .i64 c] 133)):=zaA;go_enter Tryz.func81,Tryz.ntmps81;go_wp2_with(first|(go_at_call 108;refine(hlab _ d).mono ?_;rintro e w2 ⟨rfl,f⟩))
 go_ret;exact⟨rfl,d.trans (f.mono d.size)⟩
theorem zt5(w:World)(ao bo:Option Addr)(n1 c1 n2 c2 pm:Nat)(sort line a b c n k to:Int)(nm:ByteArray)
  (hlab:∀ W,Below w.heap.size w W→Calls Tryz.prog 109 #[.agg #[.slice ao n1 c1,.map (some pm),.slice bo n2 c2],.string nm] W fun e w'=>e=.returned (.int .i64 to)∧Below W.heap.size W w') :
  Calls Tryz.prog 81 #[.agg #[.slice ao n1 c1,.map (some pm),.slice bo n2 c2],stm sort line ⟨#[99,97,108,108]⟩ a b c n nm,.int .i64 k] w fun e w'=>e=.returned (.iface 190 (.agg #[.int .i64 to]))∧Below w.heap.size w w':=by
 have hrb:∀ W,(Instr.build 190 #[(0,.int .i64 to)]).run Tryz.prog W=.ok (.agg #[.int .i64 to]) W:=fun W=>run_build W 190 _ _ (by kernel_rfl);have d:Below w.heap.size w (((w.alloc (.cells #[.slice ao n1 c1,.map (some pm),.slice bo n2 c2] 128)).alloc (.cells #[.int .i64 sort,.int .i64 line,.string ⟨#[99,97,108,108]⟩,.int .i64 a,.int .i64 b,.int .i64 c,.int .i64 n,.string nm] 135)).alloc (.cells #[.int .i64 a,.int .i64 b,.int .i64 c] 133)):=zaA;go_enter Tryz.func81,Tryz.ntmps81;go_wp2_with(first|(go_at_call 109;refine(hlab _ d).mono ?_;rintro e w2 ⟨rfl,f⟩))
 go_ret;exact⟨rfl,d.trans (f.mono d.size)⟩
theorem zai{a b c:World}{q:Option Nat}(h:a.grownBy b q)(k:b.grownBy c q):a.grownBy c q :=
 ⟨k.os.trans h.os,k.tape.trans h.tape,k.output.trans h.output,Nat.le_trans h.size k.size,fun i hi hne=>(k.block i (Nat.lt_of_lt_of_le hi h.size) hne).trans (h.block i hi hne)⟩
theorem zlX(L:List Said)(k:Nat)(h:k<L.length)(h1:(L[k].kind != 102)=false):zdv L k=!zfF L (k+1) false:=by
 simp at h1;unfold zdv;rw [List.getElem?_eq_getElem h];simp only [h1,if_true]
theorem zrh(x y:Int)(hx:0≤x)(hy:0≤y)(W:World):(callFunc 236 #[.int .u64 x,.int .u64 y,.int .u64 0]).run Tryz.prog W=.ok (.value (.tuple #[.int .u64 ((x+y)%18446744073709551616),.int .u64 ((x+y)/18446744073709551616)])) W:=by
 rw [run_callFunc_extern Tryz.func236 (by kernel_rfl) (by kernel_rfl) (by kernel_rfl) (e:=add64Entry) (by kernel_rfl),run_add64 _ _ 0 hx hy (by omega) (by omega)];simp only [Result.andThen,Int.add_zero]
theorem za3(w:World)(a b:Obj)(cs:Array Value)(t:TypeId)(j:Nat):(((w.alloc a).alloc b).alloc (.cells cs t)).cell? ⟨w.heap.size+1+1,j,none⟩=cs[j]?:=by
 have h:=World.cell?_alloc_new (w:=(w.alloc a).alloc b) cs t j;rw [show((w.alloc a).alloc b).heap.size=w.heap.size+1+1 by simp] at h;exact h
theorem zcw(w:World)(a c:Obj)(cs:Array Value)(t:TypeId)(j:Nat):(((w.alloc a).alloc (.cells cs t)).alloc c).cell? ⟨w.heap.size+1,j,none⟩=cs[j]?:=by
 have h:=World.cell?_alloc_new (w:=w.alloc a) cs t j;rw [show(w.alloc a).heap.size=w.heap.size+1 by simp] at h;rw [←h];exact World.cell?_of_block (w:=(w.alloc a).alloc (.cells cs t)) (((Below.refl ((w.alloc a).alloc (.cells cs t)).heap.size ((w.alloc a).alloc (.cells cs t))).alloc (Nat.le_refl _) c).block (w.heap.size+1) (by simp))
theorem zaZ(w:World)(b c:Obj)(cs:Array Value)(t:TypeId)(j:Nat):(((w.alloc (.cells cs t)).alloc b).alloc c).cell? ⟨w.heap.size,j,none⟩=cs[j]?:=by
 have h:=World.cell?_alloc_new (w:=w) cs t j;rw [←h];exact World.cell?_of_block (w:=w.alloc (.cells cs t)) ((((Below.refl (w.alloc (.cells cs t)).heap.size (w.alloc (.cells cs t))).alloc (Nat.le_refl _) b).alloc (by simp) c).block w.heap.size (by simp))
theorem za5{w w':World}(hb:Below w.heap.size w w'){p:Addr}{v:Value}(h:w.cell? p=some v):w'.cell? p=some v:=(hb.cell (World.block_lt_of_cell? w p h)).trans h
theorem zt6(w:World)(ao bo:Option Addr)(n1 c1 n2 c2 pm:Nat)(sort line a b c n k to:Int)(nm:ByteArray)
  (hlab:∀ W,Below w.heap.size w W→Calls Tryz.prog 108 #[.agg #[.slice ao n1 c1,.map (some pm),.slice bo n2 c2],.string nm,.int .i64 k] W fun e w'=>e=.returned (.int .i64 to)∧Below W.heap.size W w') :
  Calls Tryz.prog 81 #[.agg #[.slice ao n1 c1,.map (some pm),.slice bo n2 c2],stm sort line ⟨#[108,101,115,115]⟩ a b c n nm,.int .i64 k] w fun e w'=>e=.returned (.iface 187 (.agg #[.int .i64 a,.int .i64 b,.int .i64 to]))∧Below w.heap.size w w':=by
 have hrb:∀ W,(Instr.build 187 #[(0,.int .i64 a),(1,.int .i64 b),(2,.int .i64 to)]).run Tryz.prog W=.ok (.agg #[.int .i64 a,.int .i64 b,.int .i64 to]) W:=fun W=>run_build W 187 _ _ (by kernel_rfl);have f:Below w.heap.size w (((w.alloc (.cells #[.slice ao n1 c1,.map (some pm),.slice bo n2 c2] 128)).alloc (.cells #[.int .i64 sort,.int .i64 line,.string ⟨#[108,101,115,115]⟩,.int .i64 a,.int .i64 b,.int .i64 c,.int .i64 n,.string nm] 135)).alloc (.cells #[.int .i64 a,.int .i64 b,.int .i64 c] 133)):=zaA;go_enter Tryz.func81,Tryz.ntmps81;go_wp2_with fail
 go_region_held3 (fun W=>Below w.heap.size w W∧W.cell? ⟨w.heap.size,0,none⟩=some (.slice ao n1 c1)∧W.cell? ⟨w.heap.size,1,none⟩=some (.map (some pm))∧W.cell? ⟨w.heap.size,2,none⟩=some (.slice bo n2 c2) ∧
   W.cell? ⟨w.heap.size+1,7,none⟩=some (.string nm)∧W.cell? ⟨w.heap.size+1+1,0,none⟩=some (.int .i64 a)∧W.cell? ⟨w.heap.size+1+1,1,none⟩=some (.int .i64 b))
  (first
    | (refine⟨f.drew,zaZ _ _ _ _ _ 0,zaZ _ _ _ _ _ 1,zaZ _ _ _ _ _ 2,zcw _ _ _ _ _ 7,za3 _ _ _ _ _ 0,za3 _ _ _ _ _ 1⟩)
    | go_keep
    | (refine⟨f.drew.trans (d.mono f.drew.size),za5 d (zaZ _ _ _ _ _ 0),za5 d (zaZ _ _ _ _ _ 1),za5 d (zaZ _ _ _ _ _ 2),za5 d (zcw _ _ _ _ _ 7),za5 d (za3 _ _ _ _ _ 0),za5 d (za3 _ _ _ _ _ 1)⟩))
  ((go_at_call 108;refine(hlab _ f.drew).mono ?_;rintro e w2 ⟨rfl,d⟩))
 go_wp2;go_ret;exact⟨rfl,f.drew.trans (d.mono f.drew.size)⟩
theorem zt7(w:World)(ao bo:Option Addr)(n1 c1 n2 c2 pm:Nat)(sort line a b c n k to:Int)(nm:ByteArray)
  (hlab:∀ W,Below w.heap.size w W→Calls Tryz.prog 108 #[.agg #[.slice ao n1 c1,.map (some pm),.slice bo n2 c2],.string nm,.int .i64 k] W fun e w'=>e=.returned (.int .i64 to)∧Below W.heap.size W w') :
  Calls Tryz.prog 81 #[.agg #[.slice ao n1 c1,.map (some pm),.slice bo n2 c2],stm sort line ⟨#[115,97,109,101]⟩ a b c n nm,.int .i64 k] w fun e w'=>e=.returned (.iface 188 (.agg #[.int .i64 a,.int .i64 b,.int .i64 to]))∧Below w.heap.size w w':=by
 have hrb:∀ W,(Instr.build 188 #[(0,.int .i64 a),(1,.int .i64 b),(2,.int .i64 to)]).run Tryz.prog W=.ok (.agg #[.int .i64 a,.int .i64 b,.int .i64 to]) W:=fun W=>run_build W 188 _ _ (by kernel_rfl);have f:Below w.heap.size w (((w.alloc (.cells #[.slice ao n1 c1,.map (some pm),.slice bo n2 c2] 128)).alloc (.cells #[.int .i64 sort,.int .i64 line,.string ⟨#[115,97,109,101]⟩,.int .i64 a,.int .i64 b,.int .i64 c,.int .i64 n,.string nm] 135)).alloc (.cells #[.int .i64 a,.int .i64 b,.int .i64 c] 133)):=zaA;go_enter Tryz.func81,Tryz.ntmps81;go_wp2_with fail
 go_region_held3 (fun W=>Below w.heap.size w W∧W.cell? ⟨w.heap.size,0,none⟩=some (.slice ao n1 c1)∧W.cell? ⟨w.heap.size,1,none⟩=some (.map (some pm))∧W.cell? ⟨w.heap.size,2,none⟩=some (.slice bo n2 c2) ∧
   W.cell? ⟨w.heap.size+1,7,none⟩=some (.string nm)∧W.cell? ⟨w.heap.size+1+1,0,none⟩=some (.int .i64 a)∧W.cell? ⟨w.heap.size+1+1,1,none⟩=some (.int .i64 b))
  (first
    | (refine⟨f.drew,zaZ _ _ _ _ _ 0,zaZ _ _ _ _ _ 1,zaZ _ _ _ _ _ 2,zcw _ _ _ _ _ 7,za3 _ _ _ _ _ 0,za3 _ _ _ _ _ 1⟩)
    | go_keep
    | (refine⟨f.drew.trans (d.mono f.drew.size),za5 d (zaZ _ _ _ _ _ 0),za5 d (zaZ _ _ _ _ _ 1),za5 d (zaZ _ _ _ _ _ 2),za5 d (zcw _ _ _ _ _ 7),za5 d (za3 _ _ _ _ _ 0),za5 d (za3 _ _ _ _ _ 1)⟩))
  ((go_at_call 108;refine(hlab _ f.drew).mono ?_;rintro e w2 ⟨rfl,d⟩))
 go_wp2;go_ret;exact⟨rfl,f.drew.trans (d.mono f.drew.size)⟩
abbrev rv(r:Rg):Value:=.agg #[.int .i64 r.lo,.int .i64 r.hi]
theorem Tryz.info213:(Tryz.prog.info? 213).map (·.size)=some 2:=by kernel_rfl
theorem zck(a b:Int):∀ W,(Instr.build 213 #[(0,.int .i64 a),(1,.int .i64 b)]).run Tryz.prog W=.ok (.agg #[.int .i64 a,.int .i64 b]) W:=fun W=>run_build W 213 _ _ (by kernel_rfl)
theorem zoe{X:World}{b o:Nat}{r:Rg}(h0:X.cell? ⟨b,o,none⟩=some (.int .i64 r.lo))(h1:X.cell? ⟨b,o+1,none⟩=some (.int .i64 r.hi)):(loadVar 213 ⟨b,o,none⟩).run Tryz.prog X=.ok (rv r) X:=by
 have c:Tryz.prog.underlying 213=some (.struct _):=Tryz.underlying213;refine run_loadVar_mid X b o 213 [.int .i64 r.lo,.int .i64 r.hi] _ ?_ c rfl Tryz.info213;intro j u a
 match j,a with
 | 0,a=>simp at a;subst a;exact h0
 | 1,a=>simp at a;subst a;exact h1
theorem zcd{fn:Func}{a:Tmp}{Q:Ending→World→Prop}{X:World}{act:Act}{b:Nat}{r:Rg}(hr:fn.results=#[.cell a 213])(hp:act.tmps.getD a undef=.pointer (some ⟨b,0,none⟩))(hd:act.defers=[])
  (h0:X.cell? ⟨b,0,none⟩=some (.int .i64 r.lo)) (h1:X.cell? ⟨b,1,none⟩=some (.int .i64 r.hi)) (hq:Q (.returned (rv r)) X):bodyPost Tryz.prog fn Q .ret act X :=
 bodyPost_ret (zcX hr act.tmps ⟨b,0,none⟩ hp (zoe h0 h1)) hd hq
theorem box1{w:World}{a:Obj}:Below w.heap.size w (w.alloc a):=(Below.refl _ _).alloc (Nat.le_refl _) _
theorem box2{w:World}{a b:Obj}:Below w.heap.size w ((w.alloc a).alloc b):=box1.alloc (by simp) _
theorem zkI(x:Int):IntKind.u64.wrap x=x%18446744073709551616:=by
 simp [IntKind.wrap,IntKind.bits,IntKind.signed]
theorem zh7(n:Int)(w:World):Calls Tryz.prog 226 #[.int .i64 n] w fun e w'=>e=.returned (rv (only n))∧Below w.heap.size w w':=by
 have hb:=zck n n;go_enter Tryz.func226,Tryz.ntmps226;go_wp2;exact zcd (r:=only n) Tryz.results226 rfl rfl (by simp [only]) (by simp [only]) ⟨rfl,box1⟩
theorem zkJ(w:World):Calls Tryz.prog 238 #[] w fun e w'=>e=.returned (rv anyR)∧Below w.heap.size w w':=by
 have hb:=zck (-9223372036854775808) 9223372036854775807;go_enter Tryz.func238,Tryz.ntmps238;go_wp2;exact zcd (r:=anyR) Tryz.results238 rfl rfl (by simp [anyR]) (by simp [anyR]) ⟨rfl,box1⟩
theorem zp5(r o:Rg)(w:World):Calls Tryz.prog 156 #[rv r,rv o] w fun e w'=>e=.returned (rv (r.or o))∧Below w.heap.size w w':=by
 have hb:=zck (min r.lo o.lo) (max r.hi o.hi);go_enter Tryz.func156,Tryz.ntmps156;go_wp2;exact zcd (r:=r.or o) Tryz.results156 rfl rfl (za3 _ _ _ _ _ 0) (za3 _ _ _ _ _ 1) ⟨rfl,zaA⟩
theorem zkb(r o:Rg)(w:World):Calls Tryz.prog 182 #[rv r,rv o] w fun e w'=>e=.returned (.bool (r.within o))∧Below w.heap.size w w':=by
 by_cases h:o.lo≤r.lo
 ·go_enter Tryz.func182,Tryz.ntmps182;go_wp2;go_ret;exact⟨by simp [Rg.within,h],box2⟩
 ·have hd:decide (o.lo≤r.lo)=false:=by simpa using h
  go_enter Tryz.func182,Tryz.ntmps182;go_wp2;go_ret;exact⟨by unfold Rg.within;rw [hd];rfl,box2⟩
theorem zmn(r:Rg)(w:World):Calls Tryz.prog 237 #[rv r] w fun e w'=>e=.returned (.int .u64 r.width)∧Below w.heap.size w w':=by
 have e:IntKind.u64.wrap (IntKind.u64.wrap r.hi-IntKind.u64.wrap r.lo)=r.width:=by
  rw [zkI,zkI,zkI];unfold Rg.width;omega
 go_enter Tryz.func237,Tryz.ntmps237;go_wp2;go_ret;exact⟨rfl,box1⟩
theorem zyO{x a:Int}(hx:i64 x)(h1:¬a=-1):i64 (x.tdiv a):=by
 have hn:(x.tdiv a).natAbs=x.natAbs/a.natAbs:=Int.natAbs_tdiv x a;by_cases b:a=0
 ·subst b;simp [i64]
 ·by_cases c:a=1
  ·subst c;simpa using hx
  ·have:x.natAbs/a.natAbs≤x.natAbs/2:=Nat.div_le_div_left (by omega) (by omega);unfold i64 at *;omega
theorem zfY(a b:Int)(w:World):Calls Tryz.prog 246 #[.int .i64 a,.int .i64 b] w fun e w'=>e=.returned (.bool (zbP a b))∧w'=w:=by
 by_cases c:a=-1
 ·subst c;have d:zbP (-1) b=(b == -9223372036854775808):=by unfold zbP;rw [if_pos rfl];rfl
  rw [d];go_enter Tryz.func246,Tryz.ntmps246;go_wp2;go_ret;exact⟨rfl,rfl⟩
 ·have d:zbP a b=(a != 0&&wrap64 ((wrap64 (a*b)).tdiv a) != b):=by
   unfold zbP;rw [if_neg c,zc2,zc2,zfX (zyO (zdG _) c)];by_cases f:a=0 <;> by_cases g:(w64 (a*b)).tdiv a=b <;> simp [f,g,bne]
  have h1':(a == -1)=false:=by simpa using c
  by_cases f:a=0
  ·rw [d];clear d;subst f;go_enter Tryz.func246,Tryz.ntmps246;go_wp2;go_ret;exact⟨rfl,rfl⟩
  ·rw [d];clear d;have h0':(a != 0)=true:=by simpa using f
   go_enter Tryz.func246,Tryz.ntmps246;go_wp2;go_ret;exact⟨by rw [h0',Bool.true_and];rfl,rfl⟩
theorem zsI(now:ByteArray)(l:List ByteArray):(flush now l).length≤l.length+1:=by
 unfold flush;split <;> simp
theorem zfp(s:ByteArray)(i:Nat)(now:ByteArray)(l:List ByteArray):(zaE s i now l).length≤l.length+(s.size-i)+1:=by
 have hf:=zsI now l;by_cases h:i<s.size
 ·by_cases a:bt s i=32∨bt s i=9∨bt s i=59
  ·by_cases b:bt s i=59
   ·rw [zcK s i now l h b];omega
   ·rw [zcl s i now l h (by omega)];have:=zfp s (i+1) ByteArray.empty (flush now l);omega
  ·rw [zeB s i now l h a];have:=zfp s (i+1) (now++s.extract i (i+1)) l;omega
 ·rw [zdf s i now l h];omega
termination_by s.size-i
theorem zsJ(s:ByteArray):(zbu s).length≤s.size+1:=by
 have:=zfp s 0 ByteArray.empty [];simpa [zbu] using this
theorem zsK(x:ByteArray):(zaa x).length≤3:=by
 unfold zaa
 repeat' split
 all_goals decide
theorem zyu(x:ByteArray)(h:zek x=true):x=⟨#[102,117,110,99]⟩:=zaB x _ h
theorem zmB{w:World}{p:Value}(r:Rg)(_hr:r.Ok)(h0:r.lo<0):Calls Tryz.prog 255 #[p,rv r] w fun e w'=>e=zak 8 0∧Below w.heap.size w w':=by
 unfold Rg.Ok i64 at _hr;have t:decide ((0:Int)≤r.lo)=false:=by simpa using h0
 go_enter Tryz.func255,Tryz.ntmps255;go_wp2;exact⟨rfl,rfl,rfl,rfl,zaA⟩
theorem zkS{w:World}{p:Value}(r:Rg)(_hr:r.Ok)(h0:0≤r.lo)(h1:15<r.hi):Calls Tryz.prog 255 #[p,rv r] w fun e w'=>e=zak 8 0∧Below w.heap.size w w':=by
 unfold Rg.Ok i64 at _hr;have t:decide (r.hi≤(15:Int))=false:=by simpa using h1
 go_enter Tryz.func255,Tryz.ntmps255;go_wp2;exact⟨rfl,rfl,rfl,rfl,zaA⟩
theorem zhl{w:World}{p:Value}(r:Rg)(hr:r.Ok)(h:¬(0≤r.lo∧r.hi≤15)):Calls Tryz.prog 255 #[p,rv r] w fun e w'=>e=zak 8 0∧Below w.heap.size w w':=by
 by_cases a:0≤r.lo
 ·exact zkS r hr a (by omega)
 ·exact zmB r hr (by omega)
end
section
open Go.ChangeShapes Go.WideShapes Go.ChangeAt Go.RowKit Sp
def zji:DataW Unit→List Value
 | .agg l=>l.map fun
  | .lit (.int k n)=>Value.int k n
  | _=>Value.int .u8 0
 | _=>[]
noncomputable def laidWorld(os:Os):World :=
 let N:=(World.settled Tryz.prog os).heap.size
 let w0:=World.holding Tryz.prog os ⟨#[
  .cells #[.string ⟨#[105,110,118,97,108,105,100,32,115,121,110,116,97,120]⟩] 269,
  .cells #[.string ⟨#[118,97,108,117,101,32,111,117,116,32,111,102,32,114,97,110,103,101]⟩] 269],#[],[]⟩
 let put (h:Array Obj) (g:Nat) (cs:Array Value):Array Obj:=h.modify g fun
  | .cells _ t frozen=>.cells cs t frozen
  | o=>o
 let h1:=put w0.heap 1 (Lib.firstTab.map fun z=>Value.int .u8 z).toArray
 let h2:=put h1 2 ((List.range 16).flatMap fun i=>[Value.int .u8 (Lib.accLo i),Value.int .u8 (Lib.accHi i)]).toArray
 let h3:=put h2 3 #[.iface 267 (.pointer (some ⟨N,0,none⟩))]
 let h4:=put h3 4 #[.iface 267 (.pointer (some ⟨N+1,0,none⟩))]
 let h5:=put h4 5 (zji Rows.laid_internal_strconv_uint64pow10).toArray
 let h6:=put h5 6 (zji Rows.laid_math_bits_deBruijn32tab).toArray
 let h7:=put h6 7 (zji Rows.laid_math_bits_deBruijn64tab).toArray
 { w0 with heap:=h7 }
theorem zxp(os:Os)(args:Array Value):laidMet Tryz.prog Rows.checksUptoRow.laid ((laidWorld os).forCall (fun _ _=>0) ⟨#[],args,[]⟩).memory :=
 laidMet_of_run3 8 (by kernel_rfl) (by kernel_rfl) (by kernel_rfl)
end
section
open Go.RowKit Sp
theorem za4{X:World}{b:Nat}{u0 u1 v0 v1:Value}(h0:X.cell? ⟨b,0,none⟩=some u0)(h1:X.cell? ⟨b,1,none⟩=some u1):((X.setCell ⟨b,0,none⟩ v0).setCell ⟨b,1,none⟩ v1).cell? ⟨b,0,none⟩=some v0∧((X.setCell ⟨b,0,none⟩ v0).setCell ⟨b,1,none⟩ v1).cell? ⟨b,1,none⟩=some v1:=by
 refine⟨?_,?_⟩
 ·rw [World.cell?_setCell_other]
  ·exact World.cell?_setCell_same X _ _ h0
  ·simp
 ·refine World.cell?_setCell_same (u:=u1) _ _ _ ?_;rw [World.cell?_setCell_other]
  ·exact h1
  ·simp
theorem zaM{B:Nat}{w X:World}{b:Nat}{v0 v1:Value}(h:Below B w X)(hb:B≤b):Below B w ((X.setCell ⟨b,0,none⟩ v0).setCell ⟨b,1,none⟩ v1):=(h.setCell (p:=⟨b,0,none⟩) hb _).setCell (p:=⟨b,1,none⟩) hb _
theorem zh9(w:World)(a b:Obj)(cs:Array Value)(t:TypeId)(j:Nat):(((w.alloc a).alloc b).alloc (.cells cs t)).frozen? ⟨w.heap.size+1+1,j,none⟩=false:=World.frozen?_alloc_at _ _ _ _ (by simp)
theorem zhA(x:Int):IntKind.i64.wrap x=w64 x:=by
 unfold IntKind.wrap w64;simp [IntKind.bits,IntKind.signed];split <;> omega
theorem zdb{W W':World}{p0 p1 p2 p3:Addr}{v0 v1 v2 v3:Value}(hb:Below W.heap.size W W')(h:W.cell? p0=some v0∧W.cell? p1=some v1∧W.cell? p2=some v2∧W.cell? p3=some v3):W'.cell? p0=some v0∧W'.cell? p1=some v1∧W'.cell? p2=some v2∧W'.cell? p3=some v3 :=
 ⟨za5 hb h.1,za5 hb h.2.1,za5 hb h.2.2.1,za5 hb h.2.2.2⟩
theorem zp6(low:Int)(r o:Rg)(w:World):Calls Tryz.prog 235 #[.int .i64 low,rv r,rv o] w fun e w'=>e=.returned (rv (zeW low r o))∧Below w.heap.size w w':=by
 have t:=fun W=>zmn r W;have s:=fun W=>zmn o W;have D:0≤r.width:=by unfold Rg.width;omega
 have C:0≤o.width:=by unfold Rg.width;omega
 have p:=zrh r.width o.width D C;have B:Below w.heap.size w (((w.alloc (.cells #[.int .i64 r.lo,.int .i64 r.hi] 213)).alloc (.cells #[.int .i64 o.lo,.int .i64 o.hi] 213)).alloc (.cells #[.int .i64 0,.int .i64 0] 213)):=zaA;have E:(((w.alloc (.cells #[.int .i64 r.lo,.int .i64 r.hi] 213)).alloc (.cells #[.int .i64 o.lo,.int .i64 o.hi] 213)).alloc (.cells #[.int .i64 0,.int .i64 0] 213)).heap.size=w.heap.size+1+1+1:=by simp
 have v:(((w.alloc (.cells #[.int .i64 r.lo,.int .i64 r.hi] 213)).alloc (.cells #[.int .i64 o.lo,.int .i64 o.hi] 213)).alloc (.cells #[.int .i64 0,.int .i64 0] 213)).cell? ⟨w.heap.size,0,none⟩=some (.int .i64 r.lo)∧(((w.alloc (.cells #[.int .i64 r.lo,.int .i64 r.hi] 213)).alloc (.cells #[.int .i64 o.lo,.int .i64 o.hi] 213)).alloc (.cells #[.int .i64 0,.int .i64 0] 213)).cell? ⟨w.heap.size,1,none⟩=some (.int .i64 r.hi)∧(((w.alloc (.cells #[.int .i64 r.lo,.int .i64 r.hi] 213)).alloc (.cells #[.int .i64 o.lo,.int .i64 o.hi] 213)).alloc (.cells #[.int .i64 0,.int .i64 0] 213)).cell? ⟨w.heap.size+1,0,none⟩=some (.int .i64 o.lo)∧(((w.alloc (.cells #[.int .i64 r.lo,.int .i64 r.hi] 213)).alloc (.cells #[.int .i64 o.lo,.int .i64 o.hi] 213)).alloc (.cells #[.int .i64 0,.int .i64 0] 213)).cell? ⟨w.heap.size+1,1,none⟩=some (.int .i64 o.hi) :=
  ⟨zaZ _ _ _ _ _ 0,zaZ _ _ _ _ _ 1,zcw _ _ _ _ _ 0,zcw _ _ _ _ _ 1⟩
 have N:(((w.alloc (.cells #[.int .i64 r.lo,.int .i64 r.hi] 213)).alloc (.cells #[.int .i64 o.lo,.int .i64 o.hi] 213)).alloc (.cells #[.int .i64 0,.int .i64 0] 213)).cell? ⟨w.heap.size+1+1,0,none⟩=some (.int .i64 0):=za3 _ _ _ _ _ 0;have O:(((w.alloc (.cells #[.int .i64 r.lo,.int .i64 r.hi] 213)).alloc (.cells #[.int .i64 o.lo,.int .i64 o.hi] 213)).alloc (.cells #[.int .i64 0,.int .i64 0] 213)).cell? ⟨w.heap.size+1+1,1,none⟩=some (.int .i64 0):=za3 _ _ _ _ _ 1;have F:∀ j,(((w.alloc (.cells #[.int .i64 r.lo,.int .i64 r.hi] 213)).alloc (.cells #[.int .i64 o.lo,.int .i64 o.hi] 213)).alloc (.cells #[.int .i64 0,.int .i64 0] 213)).frozen? ⟨w.heap.size+1+1,j,none⟩=false:=fun j=>zh9 _ _ _ _ _ j;go_enter Tryz.func235,Tryz.ntmps235;go_wp2_with fail
 generalize ((w.alloc (.cells #[.int .i64 r.lo,.int .i64 r.hi] 213)).alloc (.cells #[.int .i64 o.lo,.int .i64 o.hi] 213)).alloc (.cells #[.int .i64 0,.int .i64 0] 213)=W0 at B E v N O F;go_region_held3 (fun W=>W.cell? ⟨w.heap.size,0,none⟩=some (.int .i64 r.lo)∧W.cell? ⟨w.heap.size,1,none⟩=some (.int .i64 r.hi)∧W.cell? ⟨w.heap.size+1,0,none⟩=some (.int .i64 o.lo)∧W.cell? ⟨w.heap.size+1,1,none⟩=some (.int .i64 o.hi))
  (first|exact G|exact z|exact v)
  (first|(go_at_call 237;(with_reducible refine(t _).mono ?_);rintro e w2 ⟨rfl,h⟩;have z:=zdb h v)|(go_at_call 237;(with_reducible refine(s _).mono ?_);rintro e g ⟨rfl,l⟩;have G:=zdb l z)|(simp only;simp only [Oper.upon]))
 have c:Below W0.heap.size W0 g:=((Below.refl _ _).drew).trans (h.trans (l.mono h.size));have d:Below w.heap.size w g:=B.trans (c.mono B.size);have x:=za5 c N;have y:=za5 c O;have A:∀ j,g.frozen? ⟨w.heap.size+1+1,j,none⟩=false:=fun j=>(World.frozen?_of_block (w:=W0) (a:=⟨w.heap.size+1+1,j,none⟩) (c.block _ (show w.heap.size+1+1<W0.heap.size by omega))).trans (F j);have I:=A 0;have J:=A 1;have k:w.heap.size+1+1<g.heap.size:=by have:=c.size;rw [E] at this;omega
 clear A F v z G h l t s p c;by_cases K:18446744073709551616≤r.width+o.width
 ·have H:zeW low r o=anyR:=by unfold zeW;rw [if_pos (.inl K)]
  have hr1:r.width<18446744073709551616:=by unfold Rg.width;omega
  have ho1:o.width<18446744073709551616:=by unfold Rg.width;omega
  have M:(r.width+o.width)/18446744073709551616=1:=by omega
  rw [M];generalize (r.width+o.width)%18446744073709551616=S;have f:=zkJ g;go_wp2_with(go_at_call 238;(with_reducible refine f.mono ?_);rintro e u ⟨rfl,b⟩;have m:=za5 b x;have n:=za5 b y;have P:u.frozen? ⟨w.heap.size+1+1,0,none⟩=false:=(World.frozen?_of_block (w:=g) (a:=⟨w.heap.size+1+1,0,none⟩) (b.block _ k)).trans I;have Q:u.frozen? ⟨w.heap.size+1+1,1,none⟩=false:=(World.frozen?_of_block (w:=g) (a:=⟨w.heap.size+1+1,1,none⟩) (b.block _ k)).trans J)
  exact zcd (r:=anyR) Tryz.results235 rfl rfl (za4 m n).1 (za4 m n).2 ⟨by rw [H],zaM (d.trans (b.mono d.size)) (by omega)⟩
 ·have M:(r.width+o.width)/18446744073709551616=0:=by omega
  have L:(r.width+o.width)%18446744073709551616=r.width+o.width:=by omega
  rw [M,L];generalize hS:r.width+o.width=S at K M L;have hS0:0≤S:=by omega
  have hcv:IntKind.i64.wrap S=w64 S:=zhA S;have i:wrap64 (low+w64 S)=w64 (low+S):=by
   rw [zc2];have:=ziA S;exact zmm (by omega)
  by_cases q:wrap64 (low+w64 S)<low
  ·have H:zeW low r o=anyR:=by unfold zeW;rw [if_pos (.inr (by rw [hS,←i];exact q))]
   have f:=zkJ g;go_wp2_with(go_at_call 238;(with_reducible refine f.mono ?_);rintro e u ⟨rfl,b⟩;have m:=za5 b x;have n:=za5 b y;have P:u.frozen? ⟨w.heap.size+1+1,0,none⟩=false:=(World.frozen?_of_block (w:=g) (a:=⟨w.heap.size+1+1,0,none⟩) (b.block _ k)).trans I;have Q:u.frozen? ⟨w.heap.size+1+1,1,none⟩=false:=(World.frozen?_of_block (w:=g) (a:=⟨w.heap.size+1+1,1,none⟩) (b.block _ k)).trans J)
   exact zcd (r:=anyR) Tryz.results235 rfl rfl (za4 m n).1 (za4 m n).2 ⟨by first|rfl|rw [H],zaM (d.trans (b.mono d.size)) (by omega)⟩
  ·have H:zeW low r o=⟨low,wrap64 (low+w64 S)⟩:=by
    unfold zeW;rw [hS,if_neg (by rw [←i];omega),←i]
   have hbd:=zck low (wrap64 (low+w64 S));have hlt2:low≤wrap64 (low+w64 S):=by omega
   have hlt3:decide (wrap64 (low+w64 S)<low)=false:=by simpa using q
   clear i;go_wp2;exact zcd (r:=⟨low,wrap64 (low+w64 S)⟩) Tryz.results235 rfl rfl (za4 x y).1 (za4 x y).2 ⟨by first|rfl|rw [H],zaM d (by omega)⟩
structure MchM(w:World)(b:Nat)(bv iv ov:Value)(m:Mc):Prop where
 cR:∀ i,i<8→w.cell? ⟨b,i,none⟩=some (.int .i64 (m.regs i))
 cC:∀ i,i<16→w.cell? ⟨b,8+i,none⟩=some (.int .i64 (m.cells i))
 cI:w.cell? ⟨b,24,none⟩=some iv
 cO:w.cell? ⟨b,25,none⟩=some ov
 cN:w.cell? ⟨b,26,none⟩=some (.int .i64 m.at')
 cB:w.cell? ⟨b,27,none⟩=some bv
 cS:w.cell? ⟨b,28,none⟩=some (.int .i64 m.steps)
 cP:w.cell? ⟨b,29,none⟩=some (.int .i64 m.peak)
 cE:w.cell? ⟨b,30,none⟩=some (.int .i64 m.fin)
 fz:∀ o,w.frozen? ⟨b,o,none⟩=false
theorem MchM.setR{w:World}{b:Nat}{bv iv ov:Value}{m:Mc}(h:MchM w b bv iv ov m)(r:Nat)(hr:r<8)(x:Int):MchM (w.setCell ⟨b,r,none⟩ (.int .i64 x)) b bv iv ov { m with regs:=upd m.regs r x }:=by
 have e:=fun j=>zat w b (r) j (.int .i64 x) _ (h.cR r hr);exact⟨fun i hi=>by
  rw [e];by_cases a:i=r
  ·subst a;rw [if_pos rfl];show _=some (Value.int .i64 (upd _ _ _ _));rw [zfG]
  ·rw [if_neg (by omega)];show _=some (Value.int .i64 (upd _ _ _ _));rw [zen _ _ _ _ a];exact h.cR i hi,fun i hi=>by rw [e,if_neg (by omega)];exact h.cC i hi,by rw [e,if_neg (by omega)];exact h.cI,by rw [e,if_neg (by omega)];exact h.cO,by rw [e,if_neg (by omega)];exact h.cN,by rw [e,if_neg (by omega)];exact h.cB,by rw [e,if_neg (by omega)];exact h.cS,by rw [e,if_neg (by omega)];exact h.cP,by rw [e,if_neg (by omega)];exact h.cE,fun o=>zcB w b _ o _ (h.fz o)⟩
theorem MchM.setC{w:World}{b:Nat}{bv iv ov:Value}{m:Mc}(h:MchM w b bv iv ov m)(r:Nat)(hr:r<16)(x:Int):MchM (w.setCell ⟨b,8+r,none⟩ (.int .i64 x)) b bv iv ov { m with cells:=upd m.cells r x }:=by
 have e:=fun j=>zat w b (8+r) j (.int .i64 x) _ (h.cC r hr);exact⟨fun i hi=>by rw [e,if_neg (by omega)];exact h.cR i hi,fun i hi=>by
  rw [e];by_cases a:i=r
  ·subst a;rw [if_pos rfl];show _=some (Value.int .i64 (upd _ _ _ _));rw [zfG]
  ·rw [if_neg (by omega)];show _=some (Value.int .i64 (upd _ _ _ _));rw [zen _ _ _ _ a];exact h.cC i hi,by rw [e,if_neg (by omega)];exact h.cI,by rw [e,if_neg (by omega)];exact h.cO,by rw [e,if_neg (by omega)];exact h.cN,by rw [e,if_neg (by omega)];exact h.cB,by rw [e,if_neg (by omega)];exact h.cS,by rw [e,if_neg (by omega)];exact h.cP,by rw [e,if_neg (by omega)];exact h.cE,fun o=>zcB w b _ o _ (h.fz o)⟩
theorem MchM.setI{w:World}{b:Nat}{bv iv ov:Value}{m:Mc}(h:MchM w b bv iv ov m)(u:Value)(l:List Int):MchM (w.setCell ⟨b,24,none⟩ u) b bv u ov { m with inp:=l }:=by
 have e:=fun j=>zat w b (24) j u _ h.cI;exact⟨fun i hi=>by rw [e,if_neg (by omega)];exact h.cR i hi,fun i hi=>by rw [e,if_neg (by omega)];exact h.cC i hi,by rw [e,if_pos rfl],by rw [e,if_neg (by omega)];exact h.cO,by rw [e,if_neg (by omega)];exact h.cN,by rw [e,if_neg (by omega)];exact h.cB,by rw [e,if_neg (by omega)];exact h.cS,by rw [e,if_neg (by omega)];exact h.cP,by rw [e,if_neg (by omega)];exact h.cE,fun o=>zcB w b _ o _ (h.fz o)⟩
theorem MchM.setO{w:World}{b:Nat}{bv iv ov:Value}{m:Mc}(h:MchM w b bv iv ov m)(u:Value)(l:List Int):MchM (w.setCell ⟨b,25,none⟩ u) b bv iv u { m with out:=l }:=by
 have e:=fun j=>zat w b (25) j u _ h.cO;exact⟨fun i hi=>by rw [e,if_neg (by omega)];exact h.cR i hi,fun i hi=>by rw [e,if_neg (by omega)];exact h.cC i hi,by rw [e,if_neg (by omega)];exact h.cI,by rw [e,if_pos rfl],by rw [e,if_neg (by omega)];exact h.cN,by rw [e,if_neg (by omega)];exact h.cB,by rw [e,if_neg (by omega)];exact h.cS,by rw [e,if_neg (by omega)];exact h.cP,by rw [e,if_neg (by omega)];exact h.cE,fun o=>zcB w b _ o _ (h.fz o)⟩
theorem MchM.setN{w:World}{b:Nat}{bv iv ov:Value}{m:Mc}(h:MchM w b bv iv ov m)(x:Int):MchM (w.setCell ⟨b,26,none⟩ (.int .i64 x)) b bv iv ov { m with at':=x }:=by
 have e:=fun j=>zat w b (26) j (.int .i64 x) _ h.cN;exact⟨fun i hi=>by rw [e,if_neg (by omega)];exact h.cR i hi,fun i hi=>by rw [e,if_neg (by omega)];exact h.cC i hi,by rw [e,if_neg (by omega)];exact h.cI,by rw [e,if_neg (by omega)];exact h.cO,by rw [e,if_pos rfl],by rw [e,if_neg (by omega)];exact h.cB,by rw [e,if_neg (by omega)];exact h.cS,by rw [e,if_neg (by omega)];exact h.cP,by rw [e,if_neg (by omega)];exact h.cE,fun o=>zcB w b _ o _ (h.fz o)⟩
theorem MchM.setB{w:World}{b:Nat}{bv iv ov:Value}{m:Mc}(h:MchM w b bv iv ov m)(u:Value)(l:List Int):MchM (w.setCell ⟨b,27,none⟩ u) b u iv ov { m with backs:=l }:=by
 have e:=fun j=>zat w b (27) j u _ h.cB;exact⟨fun i hi=>by rw [e,if_neg (by omega)];exact h.cR i hi,fun i hi=>by rw [e,if_neg (by omega)];exact h.cC i hi,by rw [e,if_neg (by omega)];exact h.cI,by rw [e,if_neg (by omega)];exact h.cO,by rw [e,if_neg (by omega)];exact h.cN,by rw [e,if_pos rfl],by rw [e,if_neg (by omega)];exact h.cS,by rw [e,if_neg (by omega)];exact h.cP,by rw [e,if_neg (by omega)];exact h.cE,fun o=>zcB w b _ o _ (h.fz o)⟩
theorem MchM.setS{w:World}{b:Nat}{bv iv ov:Value}{m:Mc}(h:MchM w b bv iv ov m)(x:Int):MchM (w.setCell ⟨b,28,none⟩ (.int .i64 x)) b bv iv ov { m with steps:=x }:=by
 have e:=fun j=>zat w b (28) j (.int .i64 x) _ h.cS;exact⟨fun i hi=>by rw [e,if_neg (by omega)];exact h.cR i hi,fun i hi=>by rw [e,if_neg (by omega)];exact h.cC i hi,by rw [e,if_neg (by omega)];exact h.cI,by rw [e,if_neg (by omega)];exact h.cO,by rw [e,if_neg (by omega)];exact h.cN,by rw [e,if_neg (by omega)];exact h.cB,by rw [e,if_pos rfl],by rw [e,if_neg (by omega)];exact h.cP,by rw [e,if_neg (by omega)];exact h.cE,fun o=>zcB w b _ o _ (h.fz o)⟩
theorem MchM.setP{w:World}{b:Nat}{bv iv ov:Value}{m:Mc}(h:MchM w b bv iv ov m)(x:Int):MchM (w.setCell ⟨b,29,none⟩ (.int .i64 x)) b bv iv ov { m with peak:=x }:=by
 have e:=fun j=>zat w b (29) j (.int .i64 x) _ h.cP;exact⟨fun i hi=>by rw [e,if_neg (by omega)];exact h.cR i hi,fun i hi=>by rw [e,if_neg (by omega)];exact h.cC i hi,by rw [e,if_neg (by omega)];exact h.cI,by rw [e,if_neg (by omega)];exact h.cO,by rw [e,if_neg (by omega)];exact h.cN,by rw [e,if_neg (by omega)];exact h.cB,by rw [e,if_neg (by omega)];exact h.cS,by rw [e,if_pos rfl],by rw [e,if_neg (by omega)];exact h.cE,fun o=>zcB w b _ o _ (h.fz o)⟩
theorem MchM.setE{w:World}{b:Nat}{bv iv ov:Value}{m:Mc}(h:MchM w b bv iv ov m)(x:Int):MchM (w.setCell ⟨b,30,none⟩ (.int .i64 x)) b bv iv ov { m with fin:=x }:=by
 have e:=fun j=>zat w b (30) j (.int .i64 x) _ h.cE;exact⟨fun i hi=>by rw [e,if_neg (by omega)];exact h.cR i hi,fun i hi=>by rw [e,if_neg (by omega)];exact h.cC i hi,by rw [e,if_neg (by omega)];exact h.cI,by rw [e,if_neg (by omega)];exact h.cO,by rw [e,if_neg (by omega)];exact h.cN,by rw [e,if_neg (by omega)];exact h.cB,by rw [e,if_neg (by omega)];exact h.cS,by rw [e,if_neg (by omega)];exact h.cP,by rw [e,if_pos rfl],fun o=>zcB w b _ o _ (h.fz o)⟩
theorem MchM.of_block{w w':World}{b:Nat}{bv iv ov:Value}{m:Mc}(h:MchM w b bv iv ov m)(e:w'.heap[b]?=w.heap[b]?):MchM w' b bv iv ov m:=by
 have z:∀ j,w'.cell? ⟨b,j,none⟩=w.cell? ⟨b,j,none⟩:=fun j=>World.cell?_of_block (w:=w) e;have f:∀ j,w'.frozen? ⟨b,j,none⟩=w.frozen? ⟨b,j,none⟩:=fun j=>World.frozen?_of_block (w:=w) e;exact⟨fun i hi=>by rw [z];exact h.cR i hi,fun i hi=>by rw [z];exact h.cC i hi,by rw [z];exact h.cI,by rw [z];exact h.cO,by rw [z];exact h.cN,by rw [z];exact h.cB,by rw [z];exact h.cS,by rw [z];exact h.cP,by rw [z];exact h.cE,fun o=>by rw [f];exact h.fz o⟩
theorem MchM.lt{w:World}{b:Nat}{bv iv ov:Value}{m:Mc}(h:MchM w b bv iv ov m):b<w.heap.size:=by have:=World.block_lt_of_cell? w _ h.cI;simpa using this
theorem MchM.drew{w:World}{b:Nat}{bv iv ov:Value}{m:Mc}(h:MchM w b bv iv ov m):MchM w.drew b bv iv ov m:=h.of_block rfl
theorem MchM.drewN{w:World}{b:Nat}{bv iv ov:Value}{m:Mc}(h:MchM w b bv iv ov m)(n:Nat):MchM (w.drewN n) b bv iv ov m:=h.of_block rfl
theorem MchM.frames{w:World}{b:Nat}{bv iv ov:Value}{m:Mc}(h:MchM w b bv iv ov m)(x:Int):MchM w b bv iv ov { m with frames:=x }:=⟨h.cR,h.cC,h.cI,h.cO,h.cN,h.cB,h.cS,h.cP,h.cE,h.fz⟩
theorem zs9(w:World)(b:Nat)(bv iv ov:Value)(m:Mc)(h:MchM w b bv iv ov m):Calls Tryz.prog 83 #[.pointer (some ⟨b,0,none⟩)] w fun e w'=>e=.returned (.bool (m.fin == 0))∧w'=w:=by
 have hc:=h.cE;go_enter Tryz.func83,Tryz.ntmps83;go_wp2;go_ret;exact⟨rfl,rfl⟩
theorem zqm(w:World)(b:Nat)(bv iv ov:Value)(m:Mc)(h:MchM w b bv iv ov m):Calls Tryz.prog 84 #[.pointer (some ⟨b,0,none⟩)] w fun e w'=>e=.returned (.int .i64 m.steps)∧w'=w:=by
 have hc:=h.cS;go_enter Tryz.func84,Tryz.ntmps84;go_wp2;go_ret;exact⟨rfl,rfl⟩
theorem zia(w:World)(b:Nat)(bv iv ov:Value)(m:Mc)(h:MchM w b bv iv ov m):Calls Tryz.prog 85 #[.pointer (some ⟨b,0,none⟩)] w fun e w'=>e=.returned (.int .i64 m.at')∧w'=w:=by
 have hc:=h.cN;go_enter Tryz.func85,Tryz.ntmps85;go_wp2;go_ret;exact⟨rfl,rfl⟩
theorem zdP(w:World)(b:Nat)(bv iv ov:Value)(m:Mc)(h:MchM w b bv iv ov m):Calls Tryz.prog 87 #[.pointer (some ⟨b,0,none⟩)] w fun e w'=>e=.returned (.bool (decide (m.fin=1∨m.fin=2)))∧w'=w:=by
 have a:=h.cE;generalize m.fin=x at a;cases h1:(x == 1) with
 | true =>
  obtain rfl:x=1:=by simpa using h1
  go_enter Tryz.func87,Tryz.ntmps87;go_wp2;go_ret;exact⟨rfl,rfl⟩
 | false =>
  cases h2:(x == 2) with
  | true =>
   obtain rfl:x=2:=by simpa using h2
   go_enter Tryz.func87,Tryz.ntmps87;go_wp2;go_ret;exact⟨rfl,rfl⟩
  | false =>
   have h3:decide (x=1∨x=2)=false:=by simp at h1 h2 ⊢;exact⟨h1,h2⟩
   rw [h3];go_enter Tryz.func87,Tryz.ntmps87;go_wp2;go_ret;exact⟨rfl,rfl⟩
theorem zeD(w:World)(b n c:Nat)(ao:Option Addr)(iv ov:Value)(m:Mc)(h:MchM w b (.slice ao n c) iv ov m)(hn:n≤16)(h2:(m.fin == 2)=false):Calls Tryz.prog 110 #[.pointer (some ⟨b,0,none⟩)] w fun e w'=>e=.returned (.int .i64 ((n:Int)+1))∧w'=w:=by
 have hc:=h.cE;have hb:=h.cB;go_enter Tryz.func110,Tryz.ntmps110;go_wp2;go_ret;exact⟨rfl,rfl⟩
theorem znv(w:World)(b:Nat)(bv iv ov:Value)(m:Mc)(h:MchM w b bv iv ov m)(h2:m.fin=2):Calls Tryz.prog 110 #[.pointer (some ⟨b,0,none⟩)] w fun e w'=>e=.returned (.int .i64 0)∧w'=w:=by
 have a:=h.cE;rw [h2] at a;go_enter Tryz.func110,Tryz.ntmps110;go_wp2;go_ret;exact⟨rfl,rfl⟩
theorem zeo(w:World)(b:Nat)(bv iv ov:Value)(m:Mc)(to:Int)(h:MchM w b bv iv ov m)(h0:0≤m.steps)(h1:m.steps≤100000):
  Calls Tryz.prog 228 #[.pointer (some ⟨b,0,none⟩),.int .i64 to] w fun e w'=>e=.returned (.tuple #[])∧MchM w' b bv iv ov (m.goes to)∧w.grownBy w' (some b):=by
 have hcs:=h.cS;have hcn:=h.cN;have hfs:=h.fz 28;have hfn:=h.fz 26;go_enter Tryz.func228,Tryz.ntmps228;go_wp2
 go_end0
 exact⟨rfl,(h.setS (m.steps+1)).setN to,zai (zah (Below.refl _ _)) (zah (Below.refl _ _))⟩
theorem zbC(w:World)(b:Nat)(bv iv ov:Value)(m:Mc)(h:MchM w b bv iv ov m)(h0:0≤m.steps)(h1:m.steps≤100000)(ha:0≤m.at')(hb:m.at'≤100000):
  Calls Tryz.prog 225 #[.pointer (some ⟨b,0,none⟩)] w fun e w'=>e=.returned (.tuple #[])∧MchM w' b bv iv ov (m.goes (m.at'+1))∧w.grownBy w' (some b):=by
 have hcn:=h.cN;have d:=zeo w b bv iv ov m (m.at'+1) h h0 h1;go_enter Tryz.func225,Tryz.ntmps225;go_wp2_with(first|(go_at_call 228;refine d.mono ?_;rintro e w2 ⟨rfl,a,c⟩))
 go_end0
 exact⟨rfl,a,c⟩
theorem zib(w:World)(b:Nat)(bv iv ov:Value)(m:Mc)(x:Int)(h:MchM w b bv iv ov m)(h0:0≤m.steps)(h1:m.steps≤100000):
  Calls Tryz.prog 286 #[.pointer (some ⟨b,0,none⟩),.int .i64 x] w fun e w'=>e=.returned (.tuple #[])∧MchM w' b bv iv ov { m with steps:=m.steps+1,fin:=x }∧w.grownBy w' (some b):=by
 have hcs:=h.cS;have hce:=h.cE;have hfs:=h.fz 28;have hfe:=h.fz 30;go_enter Tryz.func286,Tryz.ntmps286;go_wp2
 go_end0
 exact⟨rfl,(h.setS (m.steps+1)).setE x,zai (zah (Below.refl _ _)) (zah (Below.refl _ _))⟩
theorem zsA(w:World)(b:Nat)(bv iv ov:Value)(m:Mc)(h:MchM w b bv iv ov m)(h0:0≤m.steps)(h1:m.steps≤100000):
  Calls Tryz.prog 290 #[.pointer (some ⟨b,0,none⟩)] w fun e w'=>e=.returned (.tuple #[])∧MchM w' b bv iv ov { m with steps:=m.steps+1,fin:=1 }∧w.grownBy w' (some b):=by
 have d:=zib w b bv iv ov m 1 h h0 h1;go_enter Tryz.func290,Tryz.ntmps290;go_wp2_with(first|(go_at_call 286;refine d.mono ?_;rintro e w2 ⟨rfl,a,c⟩))
 go_end0
 exact⟨rfl,a,c⟩
theorem zpf(w:World)(b n:Nat)(bv iv ov:Value)(m:Mc)(_h:MchM w b bv iv ov m)(hn:n<16):
  Calls Tryz.prog 253 #[.pointer (some ⟨b,0,none⟩),.int .i64 (n:Int)] w fun e w'=>e=.returned (.pointer (some ⟨b,8+n,none⟩))∧w'=w:=by
 have hn0:(0:Int)≤(n:Int):=by omega
 have hn1:(n:Int)<16:=by omega
 go_enter Tryz.func253,Tryz.ntmps253;go_wp2;go_ret;exact⟨rfl,rfl⟩
theorem zl2(w:World)(b:Nat)(bv iv ov:Value)(m:Mc)(x:Int)(h:MchM w b bv iv ov m)(hn:x<0∨15<x):
  Calls Tryz.prog 253 #[.pointer (some ⟨b,0,none⟩),.int .i64 x] w fun e w'=>e=.returned (.pointer none)∧MchM w' b bv iv ov { m with fin:=3 }∧w.grownBy w' (some b):=by
 have hce:=h.cE;have hfe:=h.fz 30;by_cases hx:x<0
 ·go_enter Tryz.func253,Tryz.ntmps253;go_wp2;go_ret;exact⟨rfl,h.setE 3,zah (Below.refl _ _)⟩
 ·have hx2:16≤x:=by omega
  go_enter Tryz.func253,Tryz.ntmps253;go_wp2;go_ret;exact⟨rfl,h.setE 3,zah (Below.refl _ _)⟩
theorem zqn(w:World)(b c:Nat)(bv ov:Value)(ao:Option Addr)(m:Mc)(h:MchM w b bv (.slice ao 0 c) ov m):
  Calls Tryz.prog 261 #[.pointer (some ⟨b,0,none⟩)] w fun e w'=>e=.returned (.int .i64 0)∧w'=w:=by
 have hci:=h.cI;go_enter Tryz.func261,Tryz.ntmps261;go_wp2;go_ret;exact⟨rfl,rfl⟩
theorem zqo(w:World)(b c g o n:Nat)(bv ov:Value)(m:Mc)(x:Int)(l:List Int)(h:MchM w b bv (.slice (some ⟨g,o,none⟩) (n+1) c) ov m)(hx:w.cell? ⟨g,o,none⟩=some (.int .i64 x))(hn:n≤9223372036854775806)(hc:n+1≤c):
  Calls Tryz.prog 261 #[.pointer (some ⟨b,0,none⟩)] w fun e w'=>e=.returned (.int .i64 x)∧(∃ o',MchM w' b bv (.slice (some ⟨g,o',none⟩) n (c-1)) ov { m with inp:=l }∧(n=0∨o'=o+1))∧w.grownBy w' (some b):=by
 have hci:=h.cI;have hfi:=h.fz 24;have a:=h;have hz:(((n:Int)+1) == 0)=false:=by simp;omega
 go_enter Tryz.func261,Tryz.ntmps261;go_wp2;all_goals go_ret
 ·exact⟨rfl,⟨o,a.setI (.slice (some ⟨g,o,none⟩) n 0) l,.inl (by omega)⟩,zah (Below.refl _ _)⟩
 ·exact⟨rfl,⟨o+1,a.setI (.slice (some ⟨g,o+1,none⟩) n (c-1)) l,.inr rfl⟩,zah (Below.refl _ _)⟩
end
end Go.Proofs.YtfpgjkbjbbgciaaGreatDoor
