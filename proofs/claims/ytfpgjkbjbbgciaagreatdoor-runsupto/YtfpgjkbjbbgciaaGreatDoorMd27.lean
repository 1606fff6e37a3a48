import Derived.Test.YtfpgjkbjbbgciaaGreatDoorMd25
import Derived.Test.YtfpgjkbjbbgciaaGreatDoorMd26
set_option maxRecDepth 100000
set_option maxHeartbeats 8000000
namespace Go.Proofs.YtfpgjkbjbbgciaaGreatDoor
open Go.RowKit Sp
def newL(iv:Value):List Value:=List.replicate 24 (.int .i64 0)++[iv,.slice none 0 0,.int .i64 0,.slice none 0 0,.int .i64 0,.int .i64 1,.int .i64 0]
theorem zvd(ao:Option Addr)(n c:Nat):Tryz.prog.built 195 [(2,.slice ao n c),(7,.int .i64 1)]=some (newL (.slice ao n c)).toArray:=by kernel_rfl
theorem zqb(iv:Value):(newL iv)[24]?=some iv∧(newL iv)[25]?=some (.slice none 0 0)∧(newL iv)[26]?=some (.int .i64 0)∧(newL iv)[27]?=some (.slice none 0 0)∧(newL iv)[28]?=some (.int .i64 0)∧(newL iv)[29]?=some (.int .i64 1)∧(newL iv)[30]?=some (.int .i64 0):=⟨rfl,rfl,rfl,rfl,rfl,rfl,rfl⟩
theorem zlu(iv:Value)(i:Nat)(h:i<24):(newL iv)[i]?=some (.int .i64 0):=by
 unfold newL
 rw [List.getElem?_append_left (by simpa using h),List.getElem?_replicate,if_pos h]
theorem zxj(w:World)(iv:Value)(inp:List Int):MchM (w.alloc (.cells (newL iv).toArray 195)) w.heap.size (.slice none 0 0) iv (.slice none 0 0) (zdo inp):=by
 have hr:=ze7 w (newL iv) 195
 have hx:∀ j v,(newL iv)[j]?=some v→(w.alloc (.cells (newL iv).toArray 195)).cell? ⟨w.heap.size,j,none⟩=some v:=fun j v hv=>by have:=hr j v hv;rwa [Nat.zero_add] at this
 obtain⟨c1,c2,c3,c4,c5,c6,c7⟩:=zqb iv
 exact⟨fun i hi=>hx i _ (zlu iv i (by omega)),fun i hi=>hx (8+i) _ (zlu iv _ (by omega)),hx _ _ c1,hx _ _ c2,hx _ _ c3,hx _ _ c4,hx _ _ c5,hx _ _ c6,hx _ _ c7,fun o=>by simp⟩
theorem zve(w:World)(ao:Option Addr)(icap:Nat)(inp:List Int)(hiv:SlB w w.heap.size (.slice ao inp.length icap) inp):
  Calls Tryz.prog 82 #[.slice ao inp.length icap] w fun e w'=>e=.returned (.pointer (some ⟨w.heap.size,0,none⟩))∧(∃ bv iv ov,MchAt w' w.heap.size (zdo inp) bv iv ov)∧Below w.heap.size w w':=by
 have hb:=zvd ao inp.length icap
 have hm:=zxj w (.slice ao inp.length icap) inp
 generalize hds:newL (.slice ao inp.length icap)=ds at hb hm
 go_enter Tryz.func82,Tryz.ntmps82
 go_wp2_with(first
  | (refine wpList_build rfl 195 _ rfl ?_ ?_
     ·simp [Act.eval,hb]
     simp only [List.map_toArray,List.map_cons,List.map_nil,Act.eval]
     refine Hid.out ?_))
 unfold Hid
 erw [hb]
 simp only [Option.getD_some,Act.put,List.setIfInBounds_toArray,List.set_cons_succ,List.set_cons_zero]
 go_wp2_with(first|(refine Go.Great.wpList_boxTo rfl 195 _ rfl _ rfl w.heap.size rfl ds.toArray rfl ?_))
 go_ret
 have hB:Below w.heap.size w (w.alloc (.cells ds.toArray 195)):=(Below.refl _ _).alloc (Nat.le_refl _) _
 exact⟨rfl,⟨_,_,_,hm,World.ownsRow_nil _ _ _ _,World.ownsRow_nil _ _ _ _,hiv.below hB⟩,hB⟩
theorem zaK{w:World}{a b c:Obj}:Below w.heap.size w (((w.alloc a).alloc b).alloc c):=(((Below.refl _ _).alloc (Nat.le_refl _) _).alloc (by simp) _).alloc (by simp;omega) _
theorem zsP(w:World)(ao bo:Option Addr)(n1 c1 n2 c2 pm:Nat)(sort line a b c n k to:Int)(nm:ByteArray)
  (hlab:∀ W,Below w.heap.size w W→Calls Tryz.prog 108 #[.agg #[.slice ao n1 c1,.map (some pm),.slice bo n2 c2],.string nm,.int .i64 k] W fun e w'=>e=.returned (.int .i64 to)∧Below W.heap.size W w') :
  Calls Tryz.prog 81 #[.agg #[.slice ao n1 c1,.map (some pm),.slice bo n2 c2],stm sort line ⟨#[106,117,109,112]⟩ a b c n nm,.int .i64 k] w fun e w'=>e=.returned (.iface 185 (.agg #[.int .i64 to]))∧Below w.heap.size w w':=by
 have hrb:∀ W,(Instr.build 185 #[(0,.int .i64 to)]).run Tryz.prog W=.ok (.agg #[.int .i64 to]) W:=fun W=>run_build W 185 _ _ (by kernel_rfl)
 have hB:Below w.heap.size w (((w.alloc (.cells #[.slice ao n1 c1,.map (some pm),.slice bo n2 c2] 128)).alloc (.cells #[.int .i64 sort,.int .i64 line,.string ⟨#[106,117,109,112]⟩,.int .i64 a,.int .i64 b,.int .i64 c,.int .i64 n,.string nm] 135)).alloc (.cells #[.int .i64 a,.int .i64 b,.int .i64 c] 133)):=zaK
 go_enter Tryz.func81,Tryz.ntmps81
 go_wp2_with(first|(go_at_call 108;refine(hlab _ hB).mono ?_;rintro e w2 ⟨rfl,hb2⟩))
 go_ret
 exact⟨rfl,hB.trans (hb2.mono hB.size)⟩
theorem zsQ(w:World)(ao bo:Option Addr)(n1 c1 n2 c2 pm:Nat)(sort line a b c n k to:Int)(nm:ByteArray)
  (hlab:∀ W,Below w.heap.size w W→Calls Tryz.prog 109 #[.agg #[.slice ao n1 c1,.map (some pm),.slice bo n2 c2],.string nm] W fun e w'=>e=.returned (.int .i64 to)∧Below W.heap.size W w') :
  Calls Tryz.prog 81 #[.agg #[.slice ao n1 c1,.map (some pm),.slice bo n2 c2],stm sort line ⟨#[99,97,108,108]⟩ a b c n nm,.int .i64 k] w fun e w'=>e=.returned (.iface 190 (.agg #[.int .i64 to]))∧Below w.heap.size w w':=by
 have hrb:∀ W,(Instr.build 190 #[(0,.int .i64 to)]).run Tryz.prog W=.ok (.agg #[.int .i64 to]) W:=fun W=>run_build W 190 _ _ (by kernel_rfl)
 have hB:Below w.heap.size w (((w.alloc (.cells #[.slice ao n1 c1,.map (some pm),.slice bo n2 c2] 128)).alloc (.cells #[.int .i64 sort,.int .i64 line,.string ⟨#[99,97,108,108]⟩,.int .i64 a,.int .i64 b,.int .i64 c,.int .i64 n,.string nm] 135)).alloc (.cells #[.int .i64 a,.int .i64 b,.int .i64 c] 133)):=zaK
 go_enter Tryz.func81,Tryz.ntmps81
 go_wp2_with(first|(go_at_call 109;refine(hlab _ hB).mono ?_;rintro e w2 ⟨rfl,hb2⟩))
 go_ret
 exact⟨rfl,hB.trans (hb2.mono hB.size)⟩
theorem zaB(w:World)(a b:Obj)(cs:Array Value)(t:TypeId)(j:Nat):(((w.alloc a).alloc b).alloc (.cells cs t)).cell? ⟨w.heap.size+1+1,j,none⟩=cs[j]?:=by
 have h:=World.cell?_alloc_new (w:=(w.alloc a).alloc b) cs t j
 rw [show((w.alloc a).alloc b).heap.size=w.heap.size+1+1 by simp] at h
 exact h
theorem zc9(w:World)(a c:Obj)(cs:Array Value)(t:TypeId)(j:Nat):(((w.alloc a).alloc (.cells cs t)).alloc c).cell? ⟨w.heap.size+1,j,none⟩=cs[j]?:=by
 have h:=World.cell?_alloc_new (w:=w.alloc a) cs t j
 rw [show(w.alloc a).heap.size=w.heap.size+1 by simp] at h
 rw [←h]
 exact World.cell?_of_block (w:=(w.alloc a).alloc (.cells cs t)) (((Below.refl ((w.alloc a).alloc (.cells cs t)).heap.size ((w.alloc a).alloc (.cells cs t))).alloc (Nat.le_refl _) c).block (w.heap.size+1) (by simp))
theorem zbl(w:World)(b c:Obj)(cs:Array Value)(t:TypeId)(j:Nat):(((w.alloc (.cells cs t)).alloc b).alloc c).cell? ⟨w.heap.size,j,none⟩=cs[j]?:=by
 have h:=World.cell?_alloc_new (w:=w) cs t j
 rw [←h]
 exact World.cell?_of_block (w:=w.alloc (.cells cs t)) ((((Below.refl (w.alloc (.cells cs t)).heap.size (w.alloc (.cells cs t))).alloc (Nat.le_refl _) b).alloc (by simp) c).block w.heap.size (by simp))
theorem zaC{w w':World}(hb:Below w.heap.size w w'){p:Addr}{v:Value}(h:w.cell? p=some v):w'.cell? p=some v:=(hb.cell (World.block_lt_of_cell? w p h)).trans h
theorem zsR(w:World)(ao bo:Option Addr)(n1 c1 n2 c2 pm:Nat)(sort line a b c n k to:Int)(nm:ByteArray)
  (hlab:∀ W,Below w.heap.size w W→Calls Tryz.prog 108 #[.agg #[.slice ao n1 c1,.map (some pm),.slice bo n2 c2],.string nm,.int .i64 k] W fun e w'=>e=.returned (.int .i64 to)∧Below W.heap.size W w') :
  Calls Tryz.prog 81 #[.agg #[.slice ao n1 c1,.map (some pm),.slice bo n2 c2],stm sort line ⟨#[108,101,115,115]⟩ a b c n nm,.int .i64 k] w fun e w'=>e=.returned (.iface 187 (.agg #[.int .i64 a,.int .i64 b,.int .i64 to]))∧Below w.heap.size w w':=by
 have hrb:∀ W,(Instr.build 187 #[(0,.int .i64 a),(1,.int .i64 b),(2,.int .i64 to)]).run Tryz.prog W=.ok (.agg #[.int .i64 a,.int .i64 b,.int .i64 to]) W:=fun W=>run_build W 187 _ _ (by kernel_rfl)
 have hB:Below w.heap.size w (((w.alloc (.cells #[.slice ao n1 c1,.map (some pm),.slice bo n2 c2] 128)).alloc (.cells #[.int .i64 sort,.int .i64 line,.string ⟨#[108,101,115,115]⟩,.int .i64 a,.int .i64 b,.int .i64 c,.int .i64 n,.string nm] 135)).alloc (.cells #[.int .i64 a,.int .i64 b,.int .i64 c] 133)):=zaK
 go_enter Tryz.func81,Tryz.ntmps81
 go_wp2_with fail
 go_region_held3 (fun W=>Below w.heap.size w W∧W.cell? ⟨w.heap.size,0,none⟩=some (.slice ao n1 c1)∧W.cell? ⟨w.heap.size,1,none⟩=some (.map (some pm))∧W.cell? ⟨w.heap.size,2,none⟩=some (.slice bo n2 c2) ∧
   W.cell? ⟨w.heap.size+1,7,none⟩=some (.string nm)∧W.cell? ⟨w.heap.size+1+1,0,none⟩=some (.int .i64 a)∧W.cell? ⟨w.heap.size+1+1,1,none⟩=some (.int .i64 b))
  (first
    | (refine⟨hB.drew,zbl _ _ _ _ _ 0,zbl _ _ _ _ _ 1,zbl _ _ _ _ _ 2,zc9 _ _ _ _ _ 7,zaB _ _ _ _ _ 0,zaB _ _ _ _ _ 1⟩)
    | go_keep
    | (refine⟨hB.drew.trans (hb2.mono hB.drew.size),zaC hb2 (zbl _ _ _ _ _ 0),zaC hb2 (zbl _ _ _ _ _ 1),zaC hb2 (zbl _ _ _ _ _ 2),zaC hb2 (zc9 _ _ _ _ _ 7),zaC hb2 (zaB _ _ _ _ _ 0),zaC hb2 (zaB _ _ _ _ _ 1)⟩))
  ((go_at_call 108;refine(hlab _ hB.drew).mono ?_;rintro e w2 ⟨rfl,hb2⟩))
 go_wp2
 go_ret
 exact⟨rfl,hB.drew.trans (hb2.mono hB.drew.size)⟩
theorem zsS(w:World)(ao bo:Option Addr)(n1 c1 n2 c2 pm:Nat)(sort line a b c n k to:Int)(nm:ByteArray)
  (hlab:∀ W,Below w.heap.size w W→Calls Tryz.prog 108 #[.agg #[.slice ao n1 c1,.map (some pm),.slice bo n2 c2],.string nm,.int .i64 k] W fun e w'=>e=.returned (.int .i64 to)∧Below W.heap.size W w') :
  Calls Tryz.prog 81 #[.agg #[.slice ao n1 c1,.map (some pm),.slice bo n2 c2],stm sort line ⟨#[115,97,109,101]⟩ a b c n nm,.int .i64 k] w fun e w'=>e=.returned (.iface 188 (.agg #[.int .i64 a,.int .i64 b,.int .i64 to]))∧Below w.heap.size w w':=by
 have hrb:∀ W,(Instr.build 188 #[(0,.int .i64 a),(1,.int .i64 b),(2,.int .i64 to)]).run Tryz.prog W=.ok (.agg #[.int .i64 a,.int .i64 b,.int .i64 to]) W:=fun W=>run_build W 188 _ _ (by kernel_rfl)
 have hB:Below w.heap.size w (((w.alloc (.cells #[.slice ao n1 c1,.map (some pm),.slice bo n2 c2] 128)).alloc (.cells #[.int .i64 sort,.int .i64 line,.string ⟨#[115,97,109,101]⟩,.int .i64 a,.int .i64 b,.int .i64 c,.int .i64 n,.string nm] 135)).alloc (.cells #[.int .i64 a,.int .i64 b,.int .i64 c] 133)):=zaK
 go_enter Tryz.func81,Tryz.ntmps81
 go_wp2_with fail
 go_region_held3 (fun W=>Below w.heap.size w W∧W.cell? ⟨w.heap.size,0,none⟩=some (.slice ao n1 c1)∧W.cell? ⟨w.heap.size,1,none⟩=some (.map (some pm))∧W.cell? ⟨w.heap.size,2,none⟩=some (.slice bo n2 c2) ∧
   W.cell? ⟨w.heap.size+1,7,none⟩=some (.string nm)∧W.cell? ⟨w.heap.size+1+1,0,none⟩=some (.int .i64 a)∧W.cell? ⟨w.heap.size+1+1,1,none⟩=some (.int .i64 b))
  (first
    | (refine⟨hB.drew,zbl _ _ _ _ _ 0,zbl _ _ _ _ _ 1,zbl _ _ _ _ _ 2,zc9 _ _ _ _ _ 7,zaB _ _ _ _ _ 0,zaB _ _ _ _ _ 1⟩)
    | go_keep
    | (refine⟨hB.drew.trans (hb2.mono hB.drew.size),zaC hb2 (zbl _ _ _ _ _ 0),zaC hb2 (zbl _ _ _ _ _ 1),zaC hb2 (zbl _ _ _ _ _ 2),zaC hb2 (zc9 _ _ _ _ _ 7),zaC hb2 (zaB _ _ _ _ _ 0),zaC hb2 (zaB _ _ _ _ _ 1)⟩))
  ((go_at_call 108;refine(hlab _ hB.drew).mono ?_;rintro e w2 ⟨rfl,hb2⟩))
 go_wp2
 go_ret
 exact⟨rfl,hB.drew.trans (hb2.mono hB.drew.size)⟩
end Go.Proofs.YtfpgjkbjbbgciaaGreatDoor
