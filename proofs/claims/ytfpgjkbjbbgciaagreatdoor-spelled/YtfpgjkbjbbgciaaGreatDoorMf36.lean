import Derived.Test.YtfpgjkbjbbgciaaGreatDoorMf34
import Derived.Test.YtfpgjkbjbbgciaaGreatDoorMf35
set_option maxRecDepth 100000
set_option maxHeartbeats 8000000
namespace Go.Proofs.YtfpgjkbjbbgciaaGreatDoor
open Go.RowKit Sp
def newL (iv : Value) : List Value:=List.replicate 24 (.int .i64 0) ++ [iv,.slice none 0 0,.int .i64 0,.slice none 0 0,.int .i64 0,.int .i64 1,.int .i64 0]
theorem zp2 (ao : Option Addr) (n c : Nat) : Tryz.prog.built 195 [(2,.slice ao n c),(7,.int .i64 1)] = some (newL (.slice ao n c)).toArray:=by kernel_rfl
theorem zlS (iv : Value) : (newL iv)[24]? = some iv ∧ (newL iv)[25]? = some (.slice none 0 0) ∧ (newL iv)[26]? = some (.int .i64 0) ∧ (newL iv)[27]? = some (.slice none 0 0) ∧ (newL iv)[28]? = some (.int .i64 0) ∧ (newL iv)[29]? = some (.int .i64 1) ∧ (newL iv)[30]? = some (.int .i64 0):=⟨rfl,rfl,rfl,rfl,rfl,rfl,rfl⟩
theorem zis (iv : Value) (i : Nat) (h : i < 24) : (newL iv)[i]? = some (.int .i64 0):=by
 unfold newL
 rw [List.getElem?_append_left (by simpa using h),List.getElem?_replicate,if_pos h]
theorem zra (w : World) (iv : Value) (inp : List Int) : MchM (w.alloc (.cells (newL iv).toArray 195)) w.heap.size (.slice none 0 0) iv (.slice none 0 0) (zbH inp):=by
 have hr:=zex w (newL iv) 195
 have hx : ∀ j v,(newL iv)[j]? = some v → (w.alloc (.cells (newL iv).toArray 195)).cell? ⟨w.heap.size,j,none⟩ = some v:=fun j v hv => by have:=hr j v hv; rwa [Nat.zero_add] at this
 obtain ⟨c1,c2,c3,c4,c5,c6,c7⟩:=zlS iv
 exact ⟨fun i hi => hx i _ (zis iv i (by omega)),fun i hi => hx (8 + i) _ (zis iv _ (by omega)),hx _ _ c1,hx _ _ c2,hx _ _ c3,hx _ _ c4,hx _ _ c5,hx _ _ c6,hx _ _ c7,fun o => by simp⟩
theorem zp3 (w : World) (ao : Option Addr) (icap : Nat) (inp : List Int) (hiv : SlB w w.heap.size (.slice ao inp.length icap) inp) :
  Calls Tryz.prog 82 #[.slice ao inp.length icap] w fun e w' => e = .returned (.pointer (some ⟨w.heap.size,0,none⟩)) ∧ (∃ bv iv ov,MchAt w' w.heap.size (zbH inp) bv iv ov) ∧ Below w.heap.size w w':=by
 have hb:=zp2 ao inp.length icap
 have hm:=zra w (.slice ao inp.length icap) inp
 generalize hds : newL (.slice ao inp.length icap) = ds at hb hm
 go_enter Tryz.func82,Tryz.ntmps82
 go_wp2_with (first
  | (refine wpList_build rfl 195 _ rfl ?_ ?_
     ·simp [Act.eval,hb]
     simp only [List.map_toArray,List.map_cons,List.map_nil,Act.eval]
     refine Hid.out ?_))
 unfold Hid
 erw [hb]
 simp only [Option.getD_some,Act.put,List.setIfInBounds_toArray,List.set_cons_succ,List.set_cons_zero]
 go_wp2_with (first | (refine Go.Great.wpList_boxTo rfl 195 _ rfl _ rfl w.heap.size rfl ds.toArray rfl ?_))
 go_ret
 have hB : Below w.heap.size w (w.alloc (.cells ds.toArray 195)):=(Below.refl _ _).alloc (Nat.le_refl _) _
 exact ⟨rfl,⟨_,_,_,hm,World.ownsRow_nil _ _ _ _,World.ownsRow_nil _ _ _ _,hiv.below hB⟩,hB⟩
end Go.Proofs.YtfpgjkbjbbgciaaGreatDoor
namespace Go.Proofs.YtfpgjkbjbbgciaaGreatDoor
open Go.RowKit Sp Go.Lib
end Go.Proofs.YtfpgjkbjbbgciaaGreatDoor
namespace Go.Proofs.YtfpgjkbjbbgciaaGreatDoor
open Sp
end Go.Proofs.YtfpgjkbjbbgciaaGreatDoor
namespace Go.Proofs.YtfpgjkbjbbgciaaGreatDoor
open Go.RowKit Sp
theorem zez {w : World} {B e size n : Nat} {v : Value} {l : List Value} (h : w.ownsRow B e size v n l) : ∃ ao cap,v = .slice ao n cap ∧ n ≤ cap ∧ cap ≤ maxLen ∧ (ao = none → n = 0 ∧ cap = 0):=by
 rcases h.2 with ⟨rfl,rfl⟩ | ⟨g,cap,cur,rfl,_,_,h1,h2,_⟩
 ·exact ⟨none,0,rfl,Nat.le_refl _,Nat.zero_le _,fun _ => ⟨rfl,rfl⟩⟩
 ·exact ⟨_,cap,rfl,h1,h2,fun e => by cases e⟩
theorem zhx {w : World} {B g cap n : Nat} {e : TypeId} {size : Nat} {xs : List Value} (h : w.ownsRow B e size (.slice (some ⟨g,0,none⟩) n cap) n xs) (j : Nat) (v : Value) (hv : xs[j]? = some v) : w.cell? ⟨g,j,none⟩ = some v:=by
 obtain ⟨hl,h⟩:=h
 rcases h with ⟨h,_⟩ | ⟨g',cap',cur,h,_,hg,_,_,hs,ht⟩
 ·cases h
 ·cases h
  have hj:=(List.getElem?_eq_some_iff.1 hv).1
  rw [← ht,List.getElem?_take_of_lt (by omega)] at hv
  simp [World.cell?,hg]
  simpa using hv
theorem zbT (w : World) (a b : Obj) (cs : Array Value) (t : TypeId) (j : Nat) : (((w.alloc a).alloc b).alloc (.cells cs t)).cell? ⟨w.heap.size + 1 + 1,j,none⟩ = cs[j]?:=by
 have h:=World.cell?_alloc_new (w:=(w.alloc a).alloc b) cs t j
 rw [show ((w.alloc a).alloc b).heap.size = w.heap.size + 1 + 1 by simp] at h
 exact h
theorem zdv (w : World) (a c : Obj) (cs : Array Value) (t : TypeId) (j : Nat) : (((w.alloc a).alloc (.cells cs t)).alloc c).cell? ⟨w.heap.size + 1,j,none⟩ = cs[j]?:=by
 have h:=World.cell?_alloc_new (w:=w.alloc a) cs t j
 rw [show (w.alloc a).heap.size = w.heap.size + 1 by simp] at h
 rw [← h]
 exact World.cell?_of_block (w:=(w.alloc a).alloc (.cells cs t)) (((Below.refl ((w.alloc a).alloc (.cells cs t)).heap.size ((w.alloc a).alloc (.cells cs t))).alloc (Nat.le_refl _) c).block (w.heap.size + 1) (by simp))
theorem zbe (w : World) (b c : Obj) (cs : Array Value) (t : TypeId) (j : Nat) : (((w.alloc (.cells cs t)).alloc b).alloc c).cell? ⟨w.heap.size,j,none⟩ = cs[j]?:=by
 have h:=World.cell?_alloc_new (w:=w) cs t j
 rw [← h]
 exact World.cell?_of_block (w:=w.alloc (.cells cs t)) ((((Below.refl (w.alloc (.cells cs t)).heap.size (w.alloc (.cells cs t))).alloc (Nat.le_refl _) b).alloc (by simp) c).block w.heap.size (by simp))
theorem still {w w' : World} (hb : Below w.heap.size w w') {p : Addr} {v : Value} (h : w.cell? p = some v) : w'.cell? p = some v:=(hb.cell (World.block_lt_of_cell? w p h)).trans h
theorem znR (w : World) (ao bo : Option Addr) (n1 c1 n2 c2 pm : Nat) (sort line a b c n k to : Int) (nm : ByteArray)
  (hlab : ∀ W,Below w.heap.size w W → Calls Tryz.prog 108 #[.agg #[.slice ao n1 c1,.map (some pm),.slice bo n2 c2],.string nm,.int .i64 k] W fun e w' => e = .returned (.int .i64 to) ∧ Below W.heap.size W w') :
  Calls Tryz.prog 81 #[.agg #[.slice ao n1 c1,.map (some pm),.slice bo n2 c2],stm sort line ⟨#[108,101,115,115]⟩ a b c n nm,.int .i64 k] w fun e w' => e = .returned (.iface 187 (.agg #[.int .i64 a,.int .i64 b,.int .i64 to])) ∧ Below w.heap.size w w':=by
 have hrb : ∀ W,(Instr.build 187 #[(0,.int .i64 a),(1,.int .i64 b),(2,.int .i64 to)]).run Tryz.prog W = .ok (.agg #[.int .i64 a,.int .i64 b,.int .i64 to]) W:=fun W => run_build W 187 _ _ (by kernel_rfl)
 have hB : Below w.heap.size w (((w.alloc (.cells #[.slice ao n1 c1,.map (some pm),.slice bo n2 c2] 128)).alloc (.cells #[.int .i64 sort,.int .i64 line,.string ⟨#[108,101,115,115]⟩,.int .i64 a,.int .i64 b,.int .i64 c,.int .i64 n,.string nm] 135)).alloc (.cells #[.int .i64 a,.int .i64 b,.int .i64 c] 133)):=zcK
 go_enter Tryz.func81,Tryz.ntmps81
 go_wp2_with fail
 go_region_held3 (fun W => Below w.heap.size w W ∧ W.cell? ⟨w.heap.size,0,none⟩ = some (.slice ao n1 c1) ∧ W.cell? ⟨w.heap.size,1,none⟩ = some (.map (some pm)) ∧ W.cell? ⟨w.heap.size,2,none⟩ = some (.slice bo n2 c2) ∧
   W.cell? ⟨w.heap.size + 1,7,none⟩ = some (.string nm) ∧ W.cell? ⟨w.heap.size + 1 + 1,0,none⟩ = some (.int .i64 a) ∧ W.cell? ⟨w.heap.size + 1 + 1,1,none⟩ = some (.int .i64 b))
  (first
    | (refine ⟨hB.drew,zbe _ _ _ _ _ 0,zbe _ _ _ _ _ 1,zbe _ _ _ _ _ 2,zdv _ _ _ _ _ 7,zbT _ _ _ _ _ 0,zbT _ _ _ _ _ 1⟩)
    | go_keep
    | (refine ⟨hB.drew.trans (hb2.mono hB.drew.size),still hb2 (zbe _ _ _ _ _ 0),still hb2 (zbe _ _ _ _ _ 1),still hb2 (zbe _ _ _ _ _ 2),still hb2 (zdv _ _ _ _ _ 7),still hb2 (zbT _ _ _ _ _ 0),still hb2 (zbT _ _ _ _ _ 1)⟩))
  ((go_at_call 108; refine (hlab _ hB.drew).mono ?_; rintro e w2 ⟨rfl,hb2⟩))
 go_wp2
 go_ret
 exact ⟨rfl,hB.drew.trans (hb2.mono hB.drew.size)⟩
theorem znS (w : World) (ao bo : Option Addr) (n1 c1 n2 c2 pm : Nat) (sort line a b c n k to : Int) (nm : ByteArray)
  (hlab : ∀ W,Below w.heap.size w W → Calls Tryz.prog 108 #[.agg #[.slice ao n1 c1,.map (some pm),.slice bo n2 c2],.string nm,.int .i64 k] W fun e w' => e = .returned (.int .i64 to) ∧ Below W.heap.size W w') :
  Calls Tryz.prog 81 #[.agg #[.slice ao n1 c1,.map (some pm),.slice bo n2 c2],stm sort line ⟨#[115,97,109,101]⟩ a b c n nm,.int .i64 k] w fun e w' => e = .returned (.iface 188 (.agg #[.int .i64 a,.int .i64 b,.int .i64 to])) ∧ Below w.heap.size w w':=by
 have hrb : ∀ W,(Instr.build 188 #[(0,.int .i64 a),(1,.int .i64 b),(2,.int .i64 to)]).run Tryz.prog W = .ok (.agg #[.int .i64 a,.int .i64 b,.int .i64 to]) W:=fun W => run_build W 188 _ _ (by kernel_rfl)
 have hB : Below w.heap.size w (((w.alloc (.cells #[.slice ao n1 c1,.map (some pm),.slice bo n2 c2] 128)).alloc (.cells #[.int .i64 sort,.int .i64 line,.string ⟨#[115,97,109,101]⟩,.int .i64 a,.int .i64 b,.int .i64 c,.int .i64 n,.string nm] 135)).alloc (.cells #[.int .i64 a,.int .i64 b,.int .i64 c] 133)):=zcK
 go_enter Tryz.func81,Tryz.ntmps81
 go_wp2_with fail
 go_region_held3 (fun W => Below w.heap.size w W ∧ W.cell? ⟨w.heap.size,0,none⟩ = some (.slice ao n1 c1) ∧ W.cell? ⟨w.heap.size,1,none⟩ = some (.map (some pm)) ∧ W.cell? ⟨w.heap.size,2,none⟩ = some (.slice bo n2 c2) ∧
   W.cell? ⟨w.heap.size + 1,7,none⟩ = some (.string nm) ∧ W.cell? ⟨w.heap.size + 1 + 1,0,none⟩ = some (.int .i64 a) ∧ W.cell? ⟨w.heap.size + 1 + 1,1,none⟩ = some (.int .i64 b))
  (first
    | (refine ⟨hB.drew,zbe _ _ _ _ _ 0,zbe _ _ _ _ _ 1,zbe _ _ _ _ _ 2,zdv _ _ _ _ _ 7,zbT _ _ _ _ _ 0,zbT _ _ _ _ _ 1⟩)
    | go_keep
    | (refine ⟨hB.drew.trans (hb2.mono hB.drew.size),still hb2 (zbe _ _ _ _ _ 0),still hb2 (zbe _ _ _ _ _ 1),still hb2 (zbe _ _ _ _ _ 2),still hb2 (zdv _ _ _ _ _ 7),still hb2 (zbT _ _ _ _ _ 0),still hb2 (zbT _ _ _ _ _ 1)⟩))
  ((go_at_call 108; refine (hlab _ hB.drew).mono ?_; rintro e w2 ⟨rfl,hb2⟩))
 go_wp2
 go_ret
 exact ⟨rfl,hB.drew.trans (hb2.mono hB.drew.size)⟩
end Go.Proofs.YtfpgjkbjbbgciaaGreatDoor
