import Derived.Test.YtfpgjkbjbbgciaaGreatDoorMi06
import Derived.Test.YtfpgjkbjbbgciaaGreatDoorMi08
import Derived.Test.YtfpgjkbjbbgciaaGreatDoorCards
import Derived.Test.YtfpgjkbjbbgciaaGreatDoorTie
import Derived.Deep.DeepLaidRun
import Derived.Laws.Strings
set_option maxRecDepth 100000
set_option maxHeartbeats 8000000
namespace Go.Proofs.YtfpgjkbjbbgciaaGreatDoor
section
open Go.RowKit Sp
theorem zaA{w:World}{a b c:Obj}:Below w.heap.size w (((w.alloc a).alloc b).alloc c):=(((Below.refl _ _).alloc (Nat.le_refl _) _).alloc (by simp) _).alloc (by simp;omega) _
theorem zta(w:World)(ao bo:Option Addr)(n1 c1 n2 c2 pm:Nat)(sort line a b c n k to:Int)(nm:ByteArray)
  (hlab:∀ W,Below w.heap.size w W→Calls Tryz.prog 108 #[.agg #[.slice ao n1 c1,.map (some pm),.slice bo n2 c2],.string nm,.int .i64 k] W fun e w'=>e=.returned (.int .i64 to)∧Below W.heap.size W w') :
  Calls Tryz.prog 81 #[.agg #[.slice ao n1 c1,.map (some pm),.slice bo n2 c2],stm sort line ⟨#[106,117,109,112]⟩ a b c n nm,.int .i64 k] w fun e w'=>e=.returned (.iface 185 (.agg #[.int .i64 to]))∧Below w.heap.size w w':=by
 have hrb:∀ W,(Instr.build 185 #[(0,.int .i64 to)]).run Tryz.prog W=.ok (.agg #[.int .i64 to]) W:=fun W=>run_build W 185 _ _ (by kernel_rfl)
 have hB:Below w.heap.size w (((w.alloc (.cells #[.slice ao n1 c1,.map (some pm),.slice bo n2 c2] 128)).alloc (.cells #[.int .i64 sort,.int .i64 line,.string ⟨#[106,117,109,112]⟩,.int .i64 a,.int .i64 b,.int .i64 c,.int .i64 n,.string nm] 135)).alloc (.cells #[.int .i64 a,.int .i64 b,.int .i64 c] 133)):=zaA
 go_enter Tryz.func81,Tryz.ntmps81
 go_wp2_with(first|(go_at_call 108;refine(hlab _ hB).mono ?_;rintro e w2 ⟨rfl,hb2⟩))
 go_ret
 exact⟨rfl,hB.trans (hb2.mono hB.size)⟩
theorem ztb(w:World)(ao bo:Option Addr)(n1 c1 n2 c2 pm:Nat)(sort line a b c n k to:Int)(nm:ByteArray)
  (hlab:∀ W,Below w.heap.size w W→Calls Tryz.prog 109 #[.agg #[.slice ao n1 c1,.map (some pm),.slice bo n2 c2],.string nm] W fun e w'=>e=.returned (.int .i64 to)∧Below W.heap.size W w') :
  Calls Tryz.prog 81 #[.agg #[.slice ao n1 c1,.map (some pm),.slice bo n2 c2],stm sort line ⟨#[99,97,108,108]⟩ a b c n nm,.int .i64 k] w fun e w'=>e=.returned (.iface 190 (.agg #[.int .i64 to]))∧Below w.heap.size w w':=by
 have hrb:∀ W,(Instr.build 190 #[(0,.int .i64 to)]).run Tryz.prog W=.ok (.agg #[.int .i64 to]) W:=fun W=>run_build W 190 _ _ (by kernel_rfl)
 have hB:Below w.heap.size w (((w.alloc (.cells #[.slice ao n1 c1,.map (some pm),.slice bo n2 c2] 128)).alloc (.cells #[.int .i64 sort,.int .i64 line,.string ⟨#[99,97,108,108]⟩,.int .i64 a,.int .i64 b,.int .i64 c,.int .i64 n,.string nm] 135)).alloc (.cells #[.int .i64 a,.int .i64 b,.int .i64 c] 133)):=zaA
 go_enter Tryz.func81,Tryz.ntmps81
 go_wp2_with(first|(go_at_call 109;refine(hlab _ hB).mono ?_;rintro e w2 ⟨rfl,hb2⟩))
 go_ret
 exact⟨rfl,hB.trans (hb2.mono hB.size)⟩
end
section
open Go.ChangeShapes Go.WideShapes Go.ChangeAt Go.RowKit Sp
def ziT:DataW Unit→List Value
 | .agg l=>l.map fun
  | .lit (.int k n)=>Value.int k n
  | _=>Value.int .u8 0
 | _=>[]
noncomputable def laidWorld(os:Os):World :=
 let N:=(World.settled Tryz.prog os).heap.size
 let w0:=World.holding Tryz.prog os ⟨#[
  .cells #[.string ⟨#[105,110,118,97,108,105,100,32,115,121,110,116,97,120]⟩] 269,
  .cells #[.string ⟨#[118,97,108,117,101,32,111,117,116,32,111,102,32,114,97,110,103,101]⟩] 269],#[],[]⟩
 let put (h:Array Obj) (g:Nat) (cs:Array Value):Array Obj:=h.modify g fun
  | .cells _ t frozen=>.cells cs t frozen
  | o=>o
 let h1:=put w0.heap 1 (Lib.firstTab.map fun z=>Value.int .u8 z).toArray
 let h2:=put h1 2 ((List.range 16).flatMap fun i=>[Value.int .u8 (Lib.accLo i),Value.int .u8 (Lib.accHi i)]).toArray
 let h3:=put h2 3 #[.iface 267 (.pointer (some ⟨N,0,none⟩))]
 let h4:=put h3 4 #[.iface 267 (.pointer (some ⟨N+1,0,none⟩))]
 let h5:=put h4 5 (ziT Rows.laid_internal_strconv_uint64pow10).toArray
 let h6:=put h5 6 (ziT Rows.laid_math_bits_deBruijn32tab).toArray
 let h7:=put h6 7 (ziT Rows.laid_math_bits_deBruijn64tab).toArray
 { w0 with heap:=h7 }
theorem zwE(os:Os)(args:Array Value):laidMet Tryz.prog Rows.checksUptoRow.laid ((laidWorld os).forCall (fun _ _=>0) ⟨#[],args,[]⟩).memory :=
 laidMet_of_run3 8 (by kernel_rfl) (by kernel_rfl) (by kernel_rfl)
end
section
open Go.RowKit Sp
theorem zvN(w:World)(ao bo:Option Addr)(n1 c1 n2 c2 pm:Nat)(sort line a b c n k:Int)(nm:ByteArray):
  Calls Tryz.prog 81 #[.agg #[.slice ao n1 c1,.map (some pm),.slice bo n2 c2],stm sort line ⟨#[115,101,116]⟩ a b c n nm,.int .i64 k] w fun e w'=>e=.returned (.iface 167 (.agg #[.int .i64 a,.int .i64 n]))∧Below w.heap.size w w':=by
 have hrb:∀ W,(Instr.build 167 #[(0,.int .i64 a),(1,.int .i64 n)]).run Tryz.prog W=.ok (.agg #[.int .i64 a,.int .i64 n]) W:=fun W=>run_build W 167 _ _ (by kernel_rfl)
 go_enter Tryz.func81,Tryz.ntmps81
 go_wp2
 go_ret
 exact⟨rfl,(((Below.refl _ _).alloc (Nat.le_refl _) _).alloc (by simp) _).alloc (by simp;omega) _⟩
theorem zvO(w:World)(ao bo:Option Addr)(n1 c1 n2 c2 pm:Nat)(sort line a b c n k:Int)(nm:ByteArray):
  Calls Tryz.prog 81 #[.agg #[.slice ao n1 c1,.map (some pm),.slice bo n2 c2],stm sort line ⟨#[109,111,118]⟩ a b c n nm,.int .i64 k] w fun e w'=>e=.returned (.iface 169 (.agg #[.int .i64 a,.int .i64 b]))∧Below w.heap.size w w':=by
 have hrb:∀ W,(Instr.build 169 #[(0,.int .i64 a),(1,.int .i64 b)]).run Tryz.prog W=.ok (.agg #[.int .i64 a,.int .i64 b]) W:=fun W=>run_build W 169 _ _ (by kernel_rfl)
 go_enter Tryz.func81,Tryz.ntmps81
 go_wp2
 go_ret
 exact⟨rfl,(((Below.refl _ _).alloc (Nat.le_refl _) _).alloc (by simp) _).alloc (by simp;omega) _⟩
theorem zvP(w:World)(ao bo:Option Addr)(n1 c1 n2 c2 pm:Nat)(sort line a b c n k:Int)(nm:ByteArray):
  Calls Tryz.prog 81 #[.agg #[.slice ao n1 c1,.map (some pm),.slice bo n2 c2],stm sort line ⟨#[97,100,100]⟩ a b c n nm,.int .i64 k] w fun e w'=>e=.returned (.iface 171 (.agg #[.int .i64 a,.int .i64 b,.int .i64 c]))∧Below w.heap.size w w':=by
 have hrb:∀ W,(Instr.build 171 #[(0,.int .i64 a),(1,.int .i64 b),(2,.int .i64 c)]).run Tryz.prog W=.ok (.agg #[.int .i64 a,.int .i64 b,.int .i64 c]) W:=fun W=>run_build W 171 _ _ (by kernel_rfl)
 go_enter Tryz.func81,Tryz.ntmps81
 go_wp2
 go_ret
 exact⟨rfl,(((Below.refl _ _).alloc (Nat.le_refl _) _).alloc (by simp) _).alloc (by simp;omega) _⟩
theorem zvQ(w:World)(ao bo:Option Addr)(n1 c1 n2 c2 pm:Nat)(sort line a b c n k:Int)(nm:ByteArray):
  Calls Tryz.prog 81 #[.agg #[.slice ao n1 c1,.map (some pm),.slice bo n2 c2],stm sort line ⟨#[115,117,98]⟩ a b c n nm,.int .i64 k] w fun e w'=>e=.returned (.iface 172 (.agg #[.int .i64 a,.int .i64 b,.int .i64 c]))∧Below w.heap.size w w':=by
 have hrb:∀ W,(Instr.build 172 #[(0,.int .i64 a),(1,.int .i64 b),(2,.int .i64 c)]).run Tryz.prog W=.ok (.agg #[.int .i64 a,.int .i64 b,.int .i64 c]) W:=fun W=>run_build W 172 _ _ (by kernel_rfl)
 go_enter Tryz.func81,Tryz.ntmps81
 go_wp2
 go_ret
 exact⟨rfl,(((Below.refl _ _).alloc (Nat.le_refl _) _).alloc (by simp) _).alloc (by simp;omega) _⟩
theorem zvR(w:World)(ao bo:Option Addr)(n1 c1 n2 c2 pm:Nat)(sort line a b c n k:Int)(nm:ByteArray):
  Calls Tryz.prog 81 #[.agg #[.slice ao n1 c1,.map (some pm),.slice bo n2 c2],stm sort line ⟨#[109,117,108]⟩ a b c n nm,.int .i64 k] w fun e w'=>e=.returned (.iface 173 (.agg #[.int .i64 a,.int .i64 b,.int .i64 c]))∧Below w.heap.size w w':=by
 have hrb:∀ W,(Instr.build 173 #[(0,.int .i64 a),(1,.int .i64 b),(2,.int .i64 c)]).run Tryz.prog W=.ok (.agg #[.int .i64 a,.int .i64 b,.int .i64 c]) W:=fun W=>run_build W 173 _ _ (by kernel_rfl)
 go_enter Tryz.func81,Tryz.ntmps81
 go_wp2
 go_ret
 exact⟨rfl,(((Below.refl _ _).alloc (Nat.le_refl _) _).alloc (by simp) _).alloc (by simp;omega) _⟩
theorem zvS(w:World)(ao bo:Option Addr)(n1 c1 n2 c2 pm:Nat)(sort line a b c n k:Int)(nm:ByteArray):
  Calls Tryz.prog 81 #[.agg #[.slice ao n1 c1,.map (some pm),.slice bo n2 c2],stm sort line ⟨#[105,110,99]⟩ a b c n nm,.int .i64 k] w fun e w'=>e=.returned (.iface 174 (.agg #[.int .i64 a,.int .i64 n]))∧Below w.heap.size w w':=by
 have hrb:∀ W,(Instr.build 174 #[(0,.int .i64 a),(1,.int .i64 n)]).run Tryz.prog W=.ok (.agg #[.int .i64 a,.int .i64 n]) W:=fun W=>run_build W 174 _ _ (by kernel_rfl)
 go_enter Tryz.func81,Tryz.ntmps81
 go_wp2
 go_ret
 exact⟨rfl,(((Below.refl _ _).alloc (Nat.le_refl _) _).alloc (by simp) _).alloc (by simp;omega) _⟩
theorem zsO(w:World)(ao bo:Option Addr)(n1 c1 n2 c2 pm:Nat)(sort line a b c n k:Int)(nm:ByteArray):
  Calls Tryz.prog 81 #[.agg #[.slice ao n1 c1,.map (some pm),.slice bo n2 c2],stm sort line ⟨#[108,111,97,100]⟩ a b c n nm,.int .i64 k] w fun e w'=>e=.returned (.iface 176 (.agg #[.int .i64 a,.int .i64 b]))∧Below w.heap.size w w':=by
 have hrb:∀ W,(Instr.build 176 #[(0,.int .i64 a),(1,.int .i64 b)]).run Tryz.prog W=.ok (.agg #[.int .i64 a,.int .i64 b]) W:=fun W=>run_build W 176 _ _ (by kernel_rfl)
 go_enter Tryz.func81,Tryz.ntmps81
 go_wp2
 go_ret
 exact⟨rfl,(((Below.refl _ _).alloc (Nat.le_refl _) _).alloc (by simp) _).alloc (by simp;omega) _⟩
theorem zq3(w:World)(ao bo:Option Addr)(n1 c1 n2 c2 pm:Nat)(sort line a b c n k:Int)(nm:ByteArray):
  Calls Tryz.prog 81 #[.agg #[.slice ao n1 c1,.map (some pm),.slice bo n2 c2],stm sort line ⟨#[115,116,111,114,101]⟩ a b c n nm,.int .i64 k] w fun e w'=>e=.returned (.iface 178 (.agg #[.int .i64 a,.int .i64 b]))∧Below w.heap.size w w':=by
 have hrb:∀ W,(Instr.build 178 #[(0,.int .i64 a),(1,.int .i64 b)]).run Tryz.prog W=.ok (.agg #[.int .i64 a,.int .i64 b]) W:=fun W=>run_build W 178 _ _ (by kernel_rfl)
 go_enter Tryz.func81,Tryz.ntmps81
 go_wp2
 go_ret
 exact⟨rfl,(((Below.refl _ _).alloc (Nat.le_refl _) _).alloc (by simp) _).alloc (by simp;omega) _⟩
theorem zsP(w:World)(ao bo:Option Addr)(n1 c1 n2 c2 pm:Nat)(sort line a b c n k:Int)(nm:ByteArray):
  Calls Tryz.prog 81 #[.agg #[.slice ao n1 c1,.map (some pm),.slice bo n2 c2],stm sort line ⟨#[114,101,97,100]⟩ a b c n nm,.int .i64 k] w fun e w'=>e=.returned (.iface 180 (.agg #[.int .i64 a]))∧Below w.heap.size w w':=by
 have hrb:∀ W,(Instr.build 180 #[(0,.int .i64 a)]).run Tryz.prog W=.ok (.agg #[.int .i64 a]) W:=fun W=>run_build W 180 _ _ (by kernel_rfl)
 go_enter Tryz.func81,Tryz.ntmps81
 go_wp2
 go_ret
 exact⟨rfl,(((Below.refl _ _).alloc (Nat.le_refl _) _).alloc (by simp) _).alloc (by simp;omega) _⟩
theorem zq4(w:World)(ao bo:Option Addr)(n1 c1 n2 c2 pm:Nat)(sort line a b c n k:Int)(nm:ByteArray):
  Calls Tryz.prog 81 #[.agg #[.slice ao n1 c1,.map (some pm),.slice bo n2 c2],stm sort line ⟨#[119,114,105,116,101]⟩ a b c n nm,.int .i64 k] w fun e w'=>e=.returned (.iface 182 (.agg #[.int .i64 a]))∧Below w.heap.size w w':=by
 have hrb:∀ W,(Instr.build 182 #[(0,.int .i64 a)]).run Tryz.prog W=.ok (.agg #[.int .i64 a]) W:=fun W=>run_build W 182 _ _ (by kernel_rfl)
 go_enter Tryz.func81,Tryz.ntmps81
 go_wp2
 go_ret
 exact⟨rfl,(((Below.refl _ _).alloc (Nat.le_refl _) _).alloc (by simp) _).alloc (by simp;omega) _⟩
theorem zsQ(w:World)(ao bo:Option Addr)(n1 c1 n2 c2 pm:Nat)(sort line a b c n k:Int)(nm:ByteArray):
  Calls Tryz.prog 81 #[.agg #[.slice ao n1 c1,.map (some pm),.slice bo n2 c2],stm sort line ⟨#[98,97,99,107]⟩ a b c n nm,.int .i64 k] w fun e w'=>e=.returned (.iface 192 (.agg #[]))∧Below w.heap.size w w':=by
 have hrb:∀ W,(Instr.build 192 #[]).run Tryz.prog W=.ok (.agg #[]) W:=fun W=>run_build W 192 _ _ (by kernel_rfl)
 go_enter Tryz.func81,Tryz.ntmps81
 go_wp2
 go_ret
 exact⟨rfl,(((Below.refl _ _).alloc (Nat.le_refl _) _).alloc (by simp) _).alloc (by simp;omega) _⟩
theorem zsR(w:World)(ao bo:Option Addr)(n1 c1 n2 c2 pm:Nat)(sort line a b c n k:Int)(nm:ByteArray):
  Calls Tryz.prog 81 #[.agg #[.slice ao n1 c1,.map (some pm),.slice bo n2 c2],stm sort line ⟨#[115,116,111,112]⟩ a b c n nm,.int .i64 k] w fun e w'=>e=.returned (.iface 193 (.agg #[]))∧Below w.heap.size w w':=by
 have hrb:∀ W,(Instr.build 193 #[]).run Tryz.prog W=.ok (.agg #[]) W:=fun W=>run_build W 193 _ _ (by kernel_rfl)
 go_enter Tryz.func81,Tryz.ntmps81
 go_wp2
 go_ret
 exact⟨rfl,(((Below.refl _ _).alloc (Nat.le_refl _) _).alloc (by simp) _).alloc (by simp;omega) _⟩
end
namespace Sp
def ba(l:List UInt8):ByteArray:=⟨l.toArray⟩
theorem ziV(l:List UInt8):(ba l).data.toList=l:=rfl
theorem ziW(l:List UInt8):(ba l).toList=l:=by rw [ByteArray.toList_eq];rfl
theorem zcN(l:List UInt8):(ba l).size=l.length:=rfl
theorem zof(s:ByteArray):ba s.data.toList=s:=rfl
theorem zog(l:List UInt8)(k:Nat):bt (ba l) k=((l[k]?.getD 0).toNat:Int):=by
 unfold bt ba;simp
theorem zwI(l:List UInt8):lines (ba l)=(zbP l).map ba:=by
 have h:=zkm (ba l) 0 0 (Nat.le_refl _) (Nat.zero_le _)
 rw [Nat.sub_zero,List.take_zero,znc _ (zib _),ziV,List.drop_zero] at h
 rw [←h,List.map_map]
 show lines (ba l)=(zbN (ba l) 0 0).map _
 have:(ba∘fun x:ByteArray=>x.data.toList)=id:=funext fun x=>rfl
 rw [this,List.map_id];rfl
theorem zoh(l r:List UInt8)(h:∀ c∈l,¬c=10):zbP (l++10 :: r)=l :: zbP r:=by
 induction l with
 | nil=>simp [zbP]
 | cons c t ih =>
  rw [List.cons_append,zbP,if_neg (h c List.mem_cons_self),ih (fun x hx=>h x (List.mem_cons_of_mem _ hx))]
  rfl
theorem zoi(l:List UInt8)(h:∀ c∈l,¬c=10):zbP l=[l]:=by
 induction l with
 | nil=>rfl
 | cons c t ih =>
  rw [zbP,if_neg (h c List.mem_cons_self),ih (fun x hx=>h x (List.mem_cons_of_mem _ hx))]
  rfl
def zcB(ls:List (List UInt8)):List UInt8:=ls.flatMap (·++[10])
theorem zgI(l:List UInt8)(ls:List (List UInt8)):zcB (l :: ls)=l++10 :: zcB ls:=by simp [zcB]
theorem ziX(a b:List (List UInt8)):zcB (a++b)=zcB a++zcB b:=by simp [zcB]
theorem zoj(ls:List (List UInt8))(r:List UInt8)(h:∀ l∈ls,∀ c∈l,¬c=10):zbP (zcB ls++r)=ls++zbP r:=by
 induction ls with
 | nil=>rfl
 | cons l t ih =>
  rw [zgI,List.append_assoc,List.cons_append,zoh l _ (h l List.mem_cons_self),ih (fun x hx=>h x (List.mem_cons_of_mem _ hx))]
  rfl
def zd3(now:List UInt8):List (List UInt8):=if now=[] then [] else [now]
def zbm:List UInt8→List UInt8→List (List UInt8)
 | [],now=>zd3 now
 | c :: r,now=>if c=59 then zd3 now else if c=32∨c=9 then zd3 now++zbm r [] else zbm r (now++[c])
theorem zok(now:List UInt8)(l:List ByteArray):flush (ba now) l=l++(zd3 now).map ba:=by
 unfold flush zd3
 rw [zcN]
 cases now with
 | nil=>simp
 | cons c r=>simp
theorem zwJ{c:UInt8}{n:Nat}(hn:n<256):((c.toNat:Int)=(n:Int))↔c=UInt8.ofNat n:=by
 constructor
 ·intro h
  have h2:c.toNat=n:=by omega
  apply UInt8.toNat_inj.1
  rw [h2];simp;omega
 ·intro h;subst h;simp;omega
theorem ziY(s:ByteArray)(i:Nat)(now:List UInt8)(l:List ByteArray):zaD s i (ba now) l=l++(zbm (s.data.toList.drop i) now).map ba:=by
 by_cases h:i<s.size
 ·obtain⟨c,r,h1,h2,h3⟩:=zhI s i h
  rw [h1]
  have e32:bt s i=32↔c=32:=by rw [←h2];exact zwJ (n:=32) (by omega)
  have e9:bt s i=9↔c=9:=by rw [←h2];exact zwJ (n:=9) (by omega)
  have e59:bt s i=59↔c=59:=by rw [←h2];exact zwJ (n:=59) (by omega)
  by_cases k59:c=59
  ·rw [zcT s i _ l h (e59.2 k59),zok]
   simp [zbm,k59]
  ·by_cases kb:c=32∨c=9
   ·rw [zcr s i _ l h (kb.imp e32.2 e9.2),zok]
    have:=ziY s (i+1) [] (l++(zd3 now).map ba)
    rw [show ba []=ByteArray.empty from rfl] at this
    rw [this,←h3]
    simp [zbm,k59,kb]
   ·rw [zeK s i _ l h (fun hh=>by
     rcases hh with hh|hh|hh
     ·exact kb (.inl (e32.1 hh))
     ·exact kb (.inr (e9.1 hh))
     ·exact k59 (e59.1 hh))]
    have ex:s.extract i (i+1)=ba [c]:=by
     rw [←zof (s.extract i (i+1))]
     congr 1
     have:(s.extract i (i+1)).data.toList=(s.data.toList.drop i).take 1:=by
      rw [ByteArray.data_extract,Array.toList_extract];first|done|simp
     rw [this,h1];rfl
    have ea:ba now++ba [c]=ba (now++[c]):=by
     rw [←zof (ba now++ba [c])];rw [ByteArray.data_append,Array.toList_append];rfl
    rw [ex,ea,ziY s (i+1),←h3]
    simp [zbm,k59,kb]
 ·rw [zdk s i _ l h,List.drop_of_length_le (by simpa using h),zok];rfl
termination_by s.size-i
theorem zwK(l:List UInt8):zbv (ba l)=(zbm l []).map ba:=by
 have:=ziY (ba l) 0 [] []
 rw [ziV,List.drop_zero,List.nil_append] at this
 exact this
def zy9(x:List UInt8):Prop:=∀ c∈x,¬c=59∧¬(c=32∨c=9)
theorem zkc(x r now:List UInt8)(h:zy9 x):zbm (x++r) now=zbm r (now++x):=by
 induction x generalizing now with
 | nil=>simp
 | cons c t ih =>
  obtain⟨h1,h2⟩:=h c List.mem_cons_self
  rw [List.cons_append,zbm,if_neg h1,if_neg h2,ih _ (fun y hy=>h y (List.mem_cons_of_mem _ hy))]
  simp
def zcj:List (List UInt8)→List UInt8
 | []=>[]
 | [x]=>x
 | x :: y :: r=>x++32 :: zcj (y :: r)
theorem zol(ws:List (List UInt8))(r:List UInt8)(h:∀ x∈ws,¬x=[]∧zy9 x)(he:∀ now,zbm r now=zd3 now++zbm r []):zbm (zcj ws++r) []=ws++zbm r []:=by
 induction ws with
 | nil=>rfl
 | cons x t ih =>
  obtain⟨h1,h2⟩:=h x List.mem_cons_self
  cases t with
  | nil =>
   show zbm (x++r) []=_
   rw [zkc x r [] h2,List.nil_append,he]
   simp [zd3,h1]
  | cons y t =>
   show zbm (x++32 :: zcj (y :: t)++r) []=_
   rw [List.append_assoc,zkc x _ [] h2,List.nil_append,List.cons_append,zbm,if_neg (by decide),if_pos (.inl rfl),ih (fun z hz=>h z (List.mem_cons_of_mem _ hz))]
   simp [zd3,h1]
theorem zr1(now:List UInt8):zbm [] now=zd3 now++zbm [] []:=by simp [zbm,zd3]
theorem zom(c:UInt8)(r:List UInt8)(h:c=32∨c=9):zbm (c :: r) []=zbm r []:=by
 have h59:¬c=59:=by rcases h with rfl|rfl <;> decide
 simp only [zbm,if_neg h59,if_pos h]
 simp [zd3]
theorem ziZ(ws:List (List UInt8))(P:UInt8→Prop)(h:∀ x∈ws,∀ c∈x,P c)(h32:P 32):∀ c∈zcj ws,P c:=by
 induction ws with
 | nil=>intro c hc;cases hc
 | cons x t ih =>
  cases t with
  | nil=>exact h x List.mem_cons_self
  | cons y t =>
   intro c hc
   rcases List.mem_append.1 (show c∈x++32 :: zcj (y :: t) from hc) with e|e
   ·exact h x List.mem_cons_self c e
   ·rcases List.mem_cons.1 e with e|e
    ·rw [e];exact h32
    ·exact ih (fun z hz=>h z (List.mem_cons_of_mem _ hz)) c e
theorem zuk(s:ByteArray)(i d:Nat)(hd:i+d≤s.size)(h:∀ j,i≤j→j<i+d→bt s j<128):za0 s i=za0 s (i+d):=by
 induction d generalizing i with
 | zero=>rfl
 | succ d ih =>
  have h0:=h i (Nat.le_refl _) (by omega)
  have hc:chr s i=(1,bt s i):=by unfold chr;rw [if_pos h0]
  have hn:chrN s i=1:=by unfold chrN;rw [hc];rfl
  rw [zgQ s i (by omega) (by rw [hc];show ¬(1:Int)=0;decide),hn,ih (i+1) (by omega) (fun j h1 h2=>h j (by omega) (by omega)),show i+1+d=i+(d+1) by omega]
theorem zon(l:List UInt8)(h:∀ c∈l,c.toNat<128):za0 (ba l) 0=true:=by
 rw [zuk (ba l) 0 l.length (by rw [zcN];omega) (fun j _ hj=>?_),zhE _ _ (by rw [zcN];omega)]
 rw [zog,List.getElem?_eq_getElem (by omega)]
 have:=h l[j] (List.getElem_mem _)
 simp only [Option.getD_some];omega
theorem zwL(s:ByteArray)(i d c:Nat)(hd:i+d≤s.size)(h:∀ j,i≤j→j<i+d→bt s j<128∧(zdb (bt s j)=true∨(zbe (bt s j)=true∧¬j=0))):zcS s i c=zcS s (i+d) (c+d):=by
 induction d generalizing i c with
 | zero=>rfl
 | succ d ih =>
  obtain⟨h0,h1⟩:=h i (Nat.le_refl _) (by omega)
  have hc:chr s i=(1,bt s i):=by unfold chr;rw [if_pos h0]
  have hn:chrN s i=1:=by unfold chrN;rw [hc];rfl
  rw [zfn s i c (by omega) (by rw [hc];show ¬(1:Int)=0;decide) (by rw [hc];exact h1),hn,ih (i+1) (c+1) (by omega) (fun j h1 h2=>h j (by omega) (by omega)),show i+1+d=i+(d+1) by omega,show c+1+d=c+(d+1) by omega]
def zh8(c:UInt8):Bool:=(decide (97≤c.toNat∧c.toNat≤122)||decide (c.toNat=95))||decide (48≤c.toNat∧c.toNat≤57)
theorem zkd(c:UInt8)(r:List UInt8)(h0:97≤c.toNat∧c.toNat≤122)(h:∀ x∈r,zh8 x=true)(hl:r.length≤11):za5 (ba (c :: r))=true:=by
 unfold za5
 rw [zwL (ba (c :: r)) 0 (r.length+1) 0 (by rw [zcN];simp) (fun j _ hj=>?_),zjs _ _ _ (by rw [zcN];simp)]
 ·simp only [zdj,decide_eq_true_eq];omega
 ·rw [zog,List.getElem?_eq_getElem (by simp;omega)]
  cases j with
  | zero =>
   refine⟨by simp;omega,.inl ?_⟩
   simp [zdb];omega
  | succ j =>
   have hx:=h (r[j]'(by omega)) (List.getElem_mem _)
   simp [zh8] at hx
   refine⟨by simp;omega,?_⟩
   simp [zdb,zbe]
   omega
theorem zzA(r:Nat)(h:r<8):reg (ba [114,UInt8.ofNat (48+r)])=(r:Int):=by
 have e1:bt (ba [114,UInt8.ofNat (48+r)]) 1=48+(r:Int):=by
  rw [zog];simp;omega
 have e0:bt (ba [114,UInt8.ofNat (48+r)]) 0=114:=by rw [zog];simp
 have e:regB (ba [114,UInt8.ofNat (48+r)])=true:=by
  unfold regB;rw [e0,e1,zcN];simp;omega
 unfold reg;rw [if_pos e,e1];omega
def decL(n:Nat):List UInt8:=if n<10 then [UInt8.ofNat (48+n)] else decL (n/10)++[UInt8.ofNat (48+n%10)]
termination_by n
decreasing_by omega
theorem zcd(n:Nat)(h:n<10):decL n=[UInt8.ofNat (48+n)]:=by rw [decL,if_pos h]
theorem zeX(n:Nat)(h:¬n<10):decL n=decL (n/10)++[UInt8.ofNat (48+n%10)]:=by rw [decL,if_neg h]
theorem zoo(n:Nat):¬decL n=[]:=by
 by_cases h:n<10
 ·rw [zcd n h];simp
 ·rw [zeX n h];simp
theorem zdi(n:Nat):∀ c∈decL n,48≤c.toNat∧c.toNat≤57:=by
 by_cases h:n<10
 ·rw [zcd n h];intro c hc;rw [List.mem_singleton.1 hc];simp;omega
 ·rw [zeX n h]
  intro c hc
  rcases List.mem_append.1 hc with e|e
  ·exact zdi (n/10) c e
  ·rw [List.mem_singleton.1 e];simp;omega
termination_by n
decreasing_by omega
theorem zul(l:List UInt8)(c:UInt8)(n:Int):numL (l++[c]) n=(numL l n).bind fun v=>if zdF v ((c.toNat:Int)-48)=true then none else some (10*v-((c.toNat:Int)-48)):=by
 induction l generalizing n with
 | nil=>simp [numL]
 | cons x t ih =>
  simp only [List.cons_append,numL]
  split
  ·rfl
  ·exact ih _
theorem zgj(n:Nat)(h:n≤9223372036854775808):numL (decL n) 0=some (-(n:Int)):=by
 by_cases h9:n<10
 ·rw [zcd n h9]
  have e:((UInt8.ofNat (48+n)).toNat:Int)-48=(n:Int):=by simp;omega
  have hb:=zgt 0 (n:Int) (by omega) (by omega)
  simp only [numL,e]
  rw [show(0:Int)=-((0:Nat):Int) by simp,hb,if_neg (by simp;omega)]
  simp
 ·rw [zeX n h9,zul,zgj (n/10) (by omega)]
  have e:((UInt8.ofNat (48+n%10)).toNat:Int)-48=((n%10:Nat):Int):=by simp;omega
  have hb:=zgt (n/10) ((n%10:Nat):Int) (by omega) (by omega)
  simp only [Option.bind_some,e,hb]
  rw [if_neg (by simp;omega)]
  congr 1;omega
termination_by n
decreasing_by omega
def digL(n:Int):List UInt8:=if n<0 then 45 :: decL n.natAbs else decL n.natAbs
theorem zp2(n:Int)(h:-9223372036854775808≤n)(h':n≤9223372036854775807):zbc (ba (digL n))=(n,true):=by
 unfold digL zbc
 by_cases hn:n<0
 ·rw [if_pos hn]
  have hm:zgR (ba (45 :: decL n.natAbs))=true:=by unfold zgR;rw [zog,zcN];simp
  rw [if_pos hm,zcN,if_neg (by have:=zoo n.natAbs;cases hd:decL n.natAbs with|nil=>exact absurd hd this|cons a b=>simp),zfs,ziV,List.drop_succ_cons,List.drop_zero,zgj _ (by omega)]
  simp only [zdc,if_true,Prod.mk.injEq,and_true];omega
 ·rw [if_neg hn]
  have hd:=zdi n.natAbs
  have hne:=zoo n.natAbs
  have hm:¬zgR (ba (decL n.natAbs))=true:=by
   cases hc:decL n.natAbs with
   | nil=>exact absurd hc hne
   | cons a b =>
    rw [hc] at hd
    have:=hd a List.mem_cons_self
    unfold zgR;rw [zog,zcN];simp;omega
  rw [if_neg hm,zcN,if_neg (by cases hc:decL n.natAbs with|nil=>exact absurd hc hne|cons a b=>simp),zfs,ziV,List.drop_zero,zgj _ (by omega)]
  have h1:¬-((n.natAbs:Nat):Int)=least:=by unfold least;omega
  have h2:least < -((n.natAbs:Nat):Int):=by unfold least;omega
  simp only [zdc,if_neg h1,h2]
  simp;omega
theorem zr2(n:Int):∀ c∈digL n,c=45∨48≤c.toNat∧c.toNat≤57:=by
 unfold digL
 split
 ·intro c hc
  rcases List.mem_cons.1 hc with e|e
  ·exact .inl e
  ·exact .inr (zdi _ c e)
 ·exact fun c hc=>.inr (zdi _ c hc)
theorem zyA(n:Int):¬digL n=[]:=by
 unfold digL
 split
 ·simp
 ·exact zoo _
end Sp
end Go.Proofs.YtfpgjkbjbbgciaaGreatDoor
