import Derived.Test.YtfpgjkbjbbgciaaGreatDoorMc24
import Derived.Test.YtfpgjkbjbbgciaaGreatDoorMc29
import Derived.Laws.Small
import Derived.Great.Ranges
import Derived.Laws.Tables
import Derived.Test.YtfpgjkbjbbgciaaGreatDoorRows
import Derived.Lib.LaidIn
import Derived.Lib.LaidU8T
import Derived.PinnedBridge
import Derived.Stop.LaidErr
import Derived.Deep.DeepHandedRow
import Derived.Deep.DeepWitnessRowRef
import Derived.ProofKit
import Derived.Shelf.Vars
import Derived.SizedLaws
set_option maxRecDepth 100000
set_option maxHeartbeats 8000000
namespace Go.Proofs.YtfpgjkbjbbgciaaGreatDoor
open Go.RowKit Sp
def lenF (F : List FnM) : Nat:=(F.map (fun f => (zaj f.its).length)).sum
def begF (F : List FnM) : List Int:=(List.range F.length).map (fun k => (lenF (F.take k) : Int))
theorem zkI (F : List FnM) (k : Nat) (h : k < F.length) : lenF (F.take (k + 1)) = lenF (F.take k) + (zaj F[k].its).length:=by
 unfold lenF
 rw [List.take_succ_eq_append_getElem h,List.map_append,List.sum_append]
 simp
theorem zrn (F : List FnM) (k : Nat) (h : k < F.length) : (begF F).take (k + 1) = (begF F).take k ++ [(lenF (F.take k) : Int)]:=by
 have hl : k < (begF F).length:=by simp [begF,h]
 rw [List.take_succ_eq_append_getElem hl]
 simp [begF]
theorem zny (F : List FnM) : (begF F).length = F.length:=by simp [begF]
theorem Tryz.info128 : (Tryz.prog.info? 128).map (·.size) = some 3:=by kernel_rfl
theorem Tryz.built96 (ao : Option Addr) (n c pm : Nat) : Tryz.prog.built 128 [(0,.agg #[.slice ao n c,.map (some pm)])] = some #[.slice ao n c,.map (some pm),.slice none 0 0]:=by kernel_rfl
structure PlAt (w wr : World) (v : Value) (pm : Nat) (F : List FnM) (k : Nat) (bs : Value) : Prop where
 c0 : wr.cell? ⟨w.heap.size + 1 + 1,0,none⟩ = some v
 c1 : wr.cell? ⟨w.heap.size + 1 + 1,1,none⟩ = some (.map (some pm))
 c2 : wr.cell? ⟨w.heap.size + 1 + 1,2,none⟩ = some bs
 fz : ∀ o,wr.frozen? ⟨w.heap.size + 1 + 1,o,none⟩ = false
 there_ : wr.there (w.heap.size + 1) 0 3
 row : wr.ownsRow (w.heap.size + 1 + 1 + 1) 3 1 bs k (i64s ((begF F).take k))
 low : Below w.heap.size w wr
 size : w.heap.size + 1 + 1 + 1 ≤ wr.heap.size
theorem ztG (w : World) (v : Value) (pm : Nat) (F : List FnM) : PlAt w (((w.alloc (.cells #[v,.map (some pm)] 83)).alloc (.cells #[.slice none 0 0,.map none,.slice none 0 0] 128)).alloc (.cells #[v,.map (some pm),.slice none 0 0] 128)) v pm F 0 (.slice none 0 0):=by
 have hs1 : (w.alloc (.cells #[v,.map (some pm)] 83)).heap.size = w.heap.size + 1:=by simp
 have hb1 : Below w.heap.size w (w.alloc (.cells #[v,.map (some pm)] 83)):=(Below.refl _ _).alloc (Nat.le_refl _) _
 generalize w.alloc (.cells #[v,.map (some pm)] 83) = W1 at hs1 hb1
 have hs2 : (W1.alloc (.cells #[.slice none 0 0,.map none,.slice none 0 0] 128)).heap.size = w.heap.size + 1 + 1:=by rw [← hs1]; simp
 have ht : (W1.alloc (.cells #[.slice none 0 0,.map none,.slice none 0 0] 128)).there (w.heap.size + 1) 0 3:=fun j hj => by
  rw [Nat.zero_add,← hs1,World.cell?_alloc_new,Array.getElem?_eq_getElem (by simpa using hj)]
  exact ⟨rfl,by simp⟩
 have hb2 : Below w.heap.size w (W1.alloc (.cells #[.slice none 0 0,.map none,.slice none 0 0] 128)):=hb1.alloc (by omega) _
 generalize W1.alloc (.cells #[.slice none 0 0,.map none,.slice none 0 0] 128) = W2 at hs2 ht hb2
 rw [← hs1] at ht
 refine ⟨?_,?_,?_,fun o => ?_,?_,World.ownsRow_nil _ _ _ _,hb2.alloc (by omega) _,?_⟩
 ·rw [← hs2,World.cell?_alloc_new]; rfl
 ·rw [← hs2,World.cell?_alloc_new]; rfl
 ·rw [← hs2,World.cell?_alloc_new]; rfl
 ·rw [← hs2]; simp
 ·rw [← hs1]; exact World.there_alloc ht _
 ·rw [← hs2]; simp
theorem zhu {w : World} {b n : Nat} (h : w.there b 0 n) (j : Nat) (hj : j < n) : (∃ u,w.cell? ⟨b,j,none⟩ = some u) ∧ w.frozen? ⟨b,j,none⟩ = false:=by
 have:=h j hj
 rw [Nat.zero_add] at this
 exact ⟨Option.isSome_iff_exists.1 this.1,this.2⟩
theorem zro {w : World} {B n : Nat} {v : Value} {xs : List Value} {e : TypeId} {size : Nat} (h : w.ownsRow B e size v n xs) : ∃ ao cap,v = .slice ao n cap:=zc4 h
def zw3 (w : World) (v : Value) (pm : Nat) (F : List FnM) : Ending → World → Prop:=fun e w' => ∃ bs,e = .returned (.agg #[v,.map (some pm),bs]) ∧ w'.ownsRow w.heap.size 3 1 bs F.length (i64s (begF F)) ∧ Below w.heap.size w w'
theorem zoR (w : World) (B pm : Nat) (v : Value) (F : List FnM) (h : PIn B w pm v F) (hF : 0 < F.length) (hn : F.length ≤ 300) (hb : ∀ f ∈ F,f.its.length ≤ 300) (ht : lenF F ≤ 300) :
  Calls Tryz.prog 80 #[.agg #[v,.map (some pm)]] w (zw3 w v pm F):=by
 obtain ⟨fg,cap,rfl,hfg,hcap,hcells⟩:=h.fns hF
 have hb96:=Tryz.built96 (some ⟨fg,0,none⟩) F.length cap pm
 have hrb : ∀ W,(Instr.build 128 #[(0,.agg #[.slice (some ⟨fg,0,none⟩) F.length cap,.map (some pm)])]).run Tryz.prog W = .ok (.agg #[.slice (some ⟨fg,0,none⟩) F.length cap,.map (some pm),.slice none 0 0]) W:=fun W => run_build W 128 _ _ hb96
 go_enter Tryz.func80,Tryz.ntmps80
 go_wp2
 generalize hv : Value.slice (some ⟨fg,0,none⟩) F.length cap = v at h hb96 hrb
 have P0 : PlAt w (((w.alloc (.cells #[v,.map (some pm)] 83)).alloc (.cells #[.slice none 0 0,.map none,.slice none 0 0] 128)).alloc (.cells #[v,.map (some pm),.slice none 0 0] 128)) v pm F 0 (.slice none 0 0):=ztG w v pm F
 subst hv
 generalize ((w.alloc (.cells #[.slice (some ⟨fg,0,none⟩) F.length cap,.map (some pm)] 83)).alloc (.cells #[.slice none 0 0,.map none,.slice none 0 0] 128)).alloc (.cells #[.slice (some ⟨fg,0,none⟩) F.length cap,.map (some pm),.slice none 0 0] 128) = W0 at P0
 obtain ⟨i0,hi0,hz0,hz1,hz2⟩:=info_parts Tryz.info3
 go_loopw [12,4] (fun ti tb wr => ∃ (k : Nat) (bs : Value),k ≤ F.length ∧ ti = .int .i64 (k : Int) ∧ tb = .int .i64 (lenF (F.take k) : Int) ∧ PlAt w wr (.slice (some ⟨fg,0,none⟩) F.length cap) pm F k bs) (fun ti _ _ => F.length - (intOf ti).toNat)
 case atStart => exact ⟨0,_,by omega,rfl,rfl,P0⟩
 case round =>
  obtain ⟨k,bs,hk,rfl,rfl,Z⟩:=hrel
  have hbw:=Z.low
  have hszr:=Z.size
  by_cases hlt : k < F.length
  ·obtain ⟨c0,c1,c2,c3⟩:=hcells k hlt
   have hmem:=List.getElem_mem hlt
   have hbo:=(h.bodies F[k] hmem)
   have HL : Hid (lenF (F.take (k + 1)) = lenF (F.take k) + (zaj F[k].its).length):=zkI F k hlt
   have HB : Hid ((begF F).take (k + 1) = (begF F).take k ++ [(lenF (F.take k) : Int)]):=zrn F k hlt
   have hq1 : lenF (F.take k) ≤ 300:=by
    refine Nat.le_trans ?_ ht
    unfold lenF
    conv => rhs; rw [← List.take_append_drop k F,List.map_append,List.sum_append]
    omega
   have hbl:=Nat.le_trans (zdA F[k].its) (hb F[k] hmem)
   have hlk : (i64s ((begF F).take k)).length = k:=by simp [zny]; omega
   have hrow:=Z.row
   generalize hT : lenF (F.take k) = T at HL HB hq1
   generalize F[k] = f at c0 c1 c2 c3 hmem hbo hbl HL
   have z : ∀ j,wr.cell? ⟨fg,j,none⟩ = w.cell? ⟨fg,j,none⟩:=fun j => hbw.cell (p:=⟨fg,j,none⟩) hfg
   rw [← z] at c0 c1 c2 c3
   clear z
   have hk4 : k * 4 ≤ 1200:=by omega
   obtain ⟨name,line,its,bv,m⟩:=f
   simp only at c0 c1 c2 c3 hbo hbl HL
   obtain ⟨ao,capb,rfl⟩:=zc4 hbo
   have p2:=Z.c2
   have hlt2 : w.heap.size + 1 + 1 < wr.heap.size:=by omega
   have hno:=fun q (hq : bs.ownBlock = some q) => (hrow.lt q hq)
   clear hbo
   go_wp2_with (first
    | (at_builtin; refine wpList_append_own _ rfl _ _ 59 rfl (w.heap.size + 1 + 1 + 1) 3 i0 (.int .i64 0) 1 8 Tryz.under59 hi0 hz0 hz1 hz2 rfl (by decide) _ _ _ rfl ((hrow.alloc _).alloc _) ⟨wr.heap.size + 1,0,none⟩ 1 1 [.int .i64 (T : Int)] rfl rfl ?_ (by simp [Value.oneCell']) (by unfold maxLen; omega) (by omega) (by simp; omega) ?_))
   ·have:=zhs (wr.alloc (.cells #[.string name,.int .i64 line,.slice ao (zaj its).length capb,.map (some m)] 131)) (.int .i64 (T : Int))
    rwa [show (wr.alloc (.cells #[.string name,.int .i64 line,.slice ao (zaj its).length capb,.map (some m)] 131)).heap.size = wr.heap.size + 1 by simp] at this
   intro v' w4 hown4 hgrow _
   have hbw1 : Below wr.heap.size wr (wr.alloc (.cells #[.string name,.int .i64 line,.slice ao (zaj its).length capb,.map (some m)] 131)):=(Below.refl _ _).alloc (Nat.le_refl _) _
   have hs1 : (wr.alloc (.cells #[.string name,.int .i64 line,.slice ao (zaj its).length capb,.map (some m)] 131)).heap.size = wr.heap.size + 1:=by simp
   have hf2 : (wr.alloc (.cells #[.string name,.int .i64 line,.slice ao (zaj its).length capb,.map (some m)] 131)).cell? ⟨wr.heap.size,2,none⟩ = some (.slice ao (zaj its).length capb):=by simp
   generalize wr.alloc (.cells #[.string name,.int .i64 line,.slice ao (zaj its).length capb,.map (some m)] 131) = w2 at hgrow hbw1 hs1 hf2
   have hbw2 : Below wr.heap.size wr (w2.alloc (.cells #[.int .i64 (T : Int)] 3)):=hbw1.alloc (by omega) _
   have hs2 : (w2.alloc (.cells #[.int .i64 (T : Int)] 3)).heap.size = wr.heap.size + 1 + 1:=by rw [← hs1]; simp
   have hf2' : (w2.alloc (.cells #[.int .i64 (T : Int)] 3)).cell? ⟨wr.heap.size,2,none⟩ = some (.slice ao (zaj its).length capb):=(World.cell?_alloc_lt w2 _ _ (by show wr.heap.size < _; omega)).trans hf2
   generalize w2.alloc (.cells #[.int .i64 (T : Int)] 3) = w3 at hgrow hbw2 hs2 hf2'
   have hne2 : some (w.heap.size + 1 + 1) ≠ bs.ownBlock:=fun e => by have:=(hno _ e.symm).1; omega
   have hne1 : some (w.heap.size + 1) ≠ bs.ownBlock:=fun e => by have:=(hno _ e.symm).1; omega
   have hne3 : some wr.heap.size ≠ bs.ownBlock:=fun e => by have:=(hno _ e.symm).2; omega
   have hblk2 : w4.heap[w.heap.size + 1 + 1]? = wr.heap[w.heap.size + 1 + 1]?:=(hgrow.block _ (by omega) hne2).trans (hbw2.block _ (by omega))
   have hblk1 : w4.heap[w.heap.size + 1]? = wr.heap[w.heap.size + 1]?:=(hgrow.block _ (by omega) hne1).trans (hbw2.block _ (by omega))
   have d0:=(World.cell?_of_block (w:=wr) (a:=⟨w.heap.size + 1 + 1,0,none⟩) hblk2).trans Z.c0
   have d1:=(World.cell?_of_block (w:=wr) (a:=⟨w.heap.size + 1 + 1,1,none⟩) hblk2).trans Z.c1
   have d2:=(World.cell?_of_block (w:=wr) (a:=⟨w.heap.size + 1 + 1,2,none⟩) hblk2).trans Z.c2
   have dz : ∀ o,w4.frozen? ⟨w.heap.size + 1 + 1,o,none⟩ = false:=fun o => (World.frozen?_of_block (w:=wr) (a:=⟨w.heap.size + 1 + 1,o,none⟩) hblk2).trans (Z.fz o)
   have hf4 : w4.cell? ⟨wr.heap.size,2,none⟩ = some (.slice ao (zaj its).length capb):=(hgrow.cell_far ⟨wr.heap.size,2,none⟩ (by show wr.heap.size < _; omega) hne3).trans hf2'
   have hlow4 : Below w.heap.size w w4:=(hbw.trans (hbw2.mono (by omega))).grown hgrow (by omega) (fun q hq => by have:=(hno q hq).1; omega)
   have hsz4 : wr.heap.size + 1 + 1 ≤ w4.heap.size:=by have:=hgrow.size; omega
   have dz2:=dz 2
   have hne6 : ¬ wr.heap.size = w.heap.size + 1 + 1:=by omega
   have hne7 : ¬ w.heap.size + 1 + 1 = wr.heap.size:=by omega
   have hthere4 : w4.there (w.heap.size + 1) 0 3:=fun j hj => by
    obtain ⟨q1,q2⟩:=Z.there_ j hj
    exact ⟨by rw [World.cell?_of_block (w:=wr) hblk1]; exact q1,by rw [World.frozen?_of_block (w:=wr) hblk1]; exact q2⟩
   obtain ⟨gb,cb,rfl,hgb,hgl⟩:=hown4.form (by omega)
   clear c0 c1 c2 c3 p2 hf2 hf2'
   go_wp2
   have hZ2 : PlAt w (w4.setCell ⟨w.heap.size + 1 + 1,2,none⟩ (.slice (some ⟨gb,0,none⟩) (k + 1) cb)) (.slice (some ⟨fg,0,none⟩) F.length cap) pm F (k + 1) (.slice (some ⟨gb,0,none⟩) (k + 1) cb):=by
    have e:=fun j => za1 w4 (w.heap.size + 1 + 1) 2 j (.slice (some ⟨gb,0,none⟩) (k + 1) cb) _ d2
    refine ⟨by rw [e,if_neg (by omega)]; exact d0,by rw [e,if_neg (by omega)]; exact d1,by rw [e,if_pos rfl],fun o => zcZ w4 _ _ o _ (dz o),zdC hthere4 _ _,?_,hlow4.setCell (p:=⟨w.heap.size + 1 + 1,2,none⟩) (by show w.heap.size ≤ w.heap.size + 1 + 1; omega) _,by simp [World.setCell]; omega⟩
    rw [HB.out]
    have hk2:=zaB (w':=w4.setCell ⟨w.heap.size + 1 + 1,2,none⟩ (.slice (some ⟨gb,0,none⟩) (k + 1) cb)) hown4 (fun q hq => Below.heap_setCell _ _ _ _ (fun e => by have:=(hown4.lt q hq).1; simp only at e; omega))
    simpa [i64s] using hk2
   go_roundw
   case rel => exact ⟨k + 1,_,by omega,by go_num,by rw [HL.out]; go_num,hZ2⟩
   case measure => simp [intOf]; omega
  ·obtain rfl : k = F.length:=by omega
   have p0:=Z.c0
   have p1:=Z.c1
   have p2:=Z.c2
   have hrow:=Z.row
   rw [List.take_of_length_le (by rw [zny]; omega)] at hrow
   obtain ⟨ab,cb,rfl⟩:=zro hrow
   obtain ⟨⟨u0,r0⟩,z0⟩:=zhu Z.there_ 0 (by omega)
   obtain ⟨⟨u1,r1⟩,z1⟩:=zhu Z.there_ 1 (by omega)
   obtain ⟨⟨u2,r2⟩,z2⟩:=zhu Z.there_ 2 (by omega)
   have hT : lenF (F.take F.length) = lenF F:=by rw [List.take_length]
   go_wp2
   have hu96 : Tryz.prog.underlying 128 = some (.struct _):=Tryz.underlying128
   have hr:=World.rangeAt_setCells_same wr (w.heap.size + 1) 0 [.slice (some ⟨fg,0,none⟩) F.length cap,.map (some pm),.slice ab F.length cb] Z.there_
   have hres:=run_loadVar_mid (wr.setCells (w.heap.size + 1) 0 [.slice (some ⟨fg,0,none⟩) F.length cap,.map (some pm),.slice ab F.length cb]) (w.heap.size + 1) 0 128 _ _ hr hu96 rfl Tryz.info128
   have hbl5 : Below w.heap.size w (wr.setCells (w.heap.size + 1) 0 [.slice (some ⟨fg,0,none⟩) F.length cap,.map (some pm),.slice ab F.length cb]):=zbd _ 0 hbw (by omega)
   refine bodyPost_ret (v:=.agg #[.slice (some ⟨fg,0,none⟩) F.length cap,.map (some pm),.slice ab F.length cb]) (zca Tryz.results80 _ ⟨w.heap.size + 1,0,none⟩ rfl hres) rfl ⟨_,rfl,?_,hbl5⟩
   have ho2:=zaB (w':=wr.setCells (w.heap.size + 1) 0 [.slice (some ⟨fg,0,none⟩) F.length cap,.map (some pm),.slice ab F.length cb]) hrow (fun q hq => zeK _ wr _ _ _ (by have:=(hrow.lt q hq).1; omega))
   exact zcR ho2 (by omega)
structure MchM (w : World) (b : Nat) (bv iv ov : Value) (m : Mc) : Prop where
 cR : ∀ i,i < 8 → w.cell? ⟨b,i,none⟩ = some (.int .i64 (m.regs i))
 cC : ∀ i,i < 16 → w.cell? ⟨b,8 + i,none⟩ = some (.int .i64 (m.cells i))
 cI : w.cell? ⟨b,24,none⟩ = some iv
 cO : w.cell? ⟨b,25,none⟩ = some ov
 cN : w.cell? ⟨b,26,none⟩ = some (.int .i64 m.at')
 cB : w.cell? ⟨b,27,none⟩ = some bv
 cS : w.cell? ⟨b,28,none⟩ = some (.int .i64 m.steps)
 cP : w.cell? ⟨b,29,none⟩ = some (.int .i64 m.peak)
 cE : w.cell? ⟨b,30,none⟩ = some (.int .i64 m.fin)
 fz : ∀ o,w.frozen? ⟨b,o,none⟩ = false
theorem ziL (w : World) : Below w.heap.size w (OutW w):=((Below.refl _ _).alloc (Nat.le_refl _) _).alloc (by simp) _
end Go.Proofs.YtfpgjkbjbbgciaaGreatDoor
namespace Go.Proofs.YtfpgjkbjbbgciaaGreatDoor
open Go.RowKit Sp
attribute [local go_sem ↓] Go.wp_at_zero Go.wp_at_succ
end Go.Proofs.YtfpgjkbjbbgciaaGreatDoor
namespace Go.Proofs.YtfpgjkbjbbgciaaGreatDoor
open Go.RowKit Sp
structure MchAt (w : World) (b : Nat) (m : Mc) (bv iv ov : Value) : Prop where
 mem : MchM w b bv iv ov m
 backs : w.ownsRow (b + 1) 3 1 bv m.backs.length (i64s m.backs)
 out : w.ownsRow (b + 1) 2 1 ov m.out.length (i64s m.out)
 inp : SlB w b iv m.inp
def insT : Ins → Nat
 | .set _ _ => 167 | .mov _ _ => 169 | .alu o _ _ _ => if o = 0 then 171 else if o = 1 then 172 else 173 | .inc _ _ => 174 | .load _ _ => 176 | .store _ _ => 178
 | .read _ => 180 | .write _ => 182 | .jump _ => 185 | .less _ _ _ => 187 | .same _ _ _ => 188 | .call _ => 190 | .back => 192 | .stop => 193
def insA : Ins → Array Value
 | .set r k => #[.int .i64 (r : Int),.int .i64 k]
 | .mov r s => #[.int .i64 (r : Int),.int .i64 (s : Int)]
 | .alu _ r s t => #[.int .i64 (r : Int),.int .i64 (s : Int),.int .i64 (t : Int)]
 | .inc r k => #[.int .i64 (r : Int),.int .i64 k]
 | .load r s => #[.int .i64 (r : Int),.int .i64 (s : Int)]
 | .store r s => #[.int .i64 (r : Int),.int .i64 (s : Int)]
 | .read r => #[.int .i64 (r : Int)]
 | .write r => #[.int .i64 (r : Int)]
 | .jump to => #[.int .i64 to]
 | .less r s to => #[.int .i64 (r : Int),.int .i64 (s : Int),.int .i64 to]
 | .same r s to => #[.int .i64 (r : Int),.int .i64 (s : Int),.int .i64 to]
 | .call to => #[.int .i64 to]
 | .back => #[]
 | .stop => #[]
def zkJ : Ins → Prop
 | .set r _ => r < 8
 | .mov r s => r < 8 ∧ s < 8
 | .alu o r s t => o ≤ 2 ∧ r < 8 ∧ s < 8 ∧ t < 8
 | .inc r _ => r < 8
 | .load r s => r < 8 ∧ s < 8
 | .store r s => r < 8 ∧ s < 8
 | .read r => r < 8
 | .write r => r < 8
 | .less r s _ => r < 8 ∧ s < 8
 | .same r s _ => r < 8 ∧ s < 8
 | _ => True
def zbl (i : Ins) (m : Mc) : Mc:=if (exec i (m.at' + 1) m).fin = 1 ∨ (exec i (m.at' + 1) m).fin = 2 then { exec i (m.at' + 1) m with at':=m.at' } else exec i (m.at' + 1) m
theorem zai {i : Ins} {m : Mc} (h : (exec i (m.at' + 1) m).fin = m.fin ∨ 2 < (exec i (m.at' + 1) m).fin) (h0 : m.fin = 0) : zbl i m = exec i (m.at' + 1) m:=by
 unfold zbl; rw [if_neg (by omega)]
structure InvC (m : Mc) : Prop where
 at0 : 0 ≤ m.at'
 at1 : m.at' ≤ 1000
 frames : m.frames = (m.backs.length : Int) + 1
 few : m.backs.length ≤ 15
 peak : ∃ p : Nat,m.peak = (p : Int) ∧ p ≤ 16
 steps : 0 ≤ m.steps
 out : (m.out.length : Int) ≤ m.steps
theorem za9 {w : World} {a b c : Obj} : Below w.heap.size w (((w.alloc a).alloc b).alloc c):=(((Below.refl _ _).alloc (Nat.le_refl _) _).alloc (by simp) _).alloc (by simp; omega) _
theorem zr5 (w : World) (ao bo : Option Addr) (n1 c1 n2 c2 pm : Nat) (sort line a b c n k to : Int) (nm : ByteArray)
  (hlab : ∀ W,Below w.heap.size w W → Calls Tryz.prog 108 #[.agg #[.slice ao n1 c1,.map (some pm),.slice bo n2 c2],.string nm,.int .i64 k] W fun e w' => e = .returned (.int .i64 to) ∧ Below W.heap.size W w') :
  Calls Tryz.prog 81 #[.agg #[.slice ao n1 c1,.map (some pm),.slice bo n2 c2],stm sort line ⟨#[106,117,109,112]⟩ a b c n nm,.int .i64 k] w fun e w' => e = .returned (.iface 185 (.agg #[.int .i64 to])) ∧ Below w.heap.size w w':=by
 have hrb : ∀ W,(Instr.build 185 #[(0,.int .i64 to)]).run Tryz.prog W = .ok (.agg #[.int .i64 to]) W:=fun W => run_build W 185 _ _ (by kernel_rfl)
 have hB : Below w.heap.size w (((w.alloc (.cells #[.slice ao n1 c1,.map (some pm),.slice bo n2 c2] 128)).alloc (.cells #[.int .i64 sort,.int .i64 line,.string ⟨#[106,117,109,112]⟩,.int .i64 a,.int .i64 b,.int .i64 c,.int .i64 n,.string nm] 135)).alloc (.cells #[.int .i64 a,.int .i64 b,.int .i64 c] 133)):=za9
 go_enter Tryz.func81,Tryz.ntmps81
 go_wp2_with (first | (go_at_call 108; refine (hlab _ hB).mono ?_; rintro e w2 ⟨rfl,hb2⟩))
 go_ret
 exact ⟨rfl,hB.trans (hb2.mono hB.size)⟩
theorem zr6 (w : World) (ao bo : Option Addr) (n1 c1 n2 c2 pm : Nat) (sort line a b c n k to : Int) (nm : ByteArray)
  (hlab : ∀ W,Below w.heap.size w W → Calls Tryz.prog 109 #[.agg #[.slice ao n1 c1,.map (some pm),.slice bo n2 c2],.string nm] W fun e w' => e = .returned (.int .i64 to) ∧ Below W.heap.size W w') :
  Calls Tryz.prog 81 #[.agg #[.slice ao n1 c1,.map (some pm),.slice bo n2 c2],stm sort line ⟨#[99,97,108,108]⟩ a b c n nm,.int .i64 k] w fun e w' => e = .returned (.iface 190 (.agg #[.int .i64 to])) ∧ Below w.heap.size w w':=by
 have hrb : ∀ W,(Instr.build 190 #[(0,.int .i64 to)]).run Tryz.prog W = .ok (.agg #[.int .i64 to]) W:=fun W => run_build W 190 _ _ (by kernel_rfl)
 have hB : Below w.heap.size w (((w.alloc (.cells #[.slice ao n1 c1,.map (some pm),.slice bo n2 c2] 128)).alloc (.cells #[.int .i64 sort,.int .i64 line,.string ⟨#[99,97,108,108]⟩,.int .i64 a,.int .i64 b,.int .i64 c,.int .i64 n,.string nm] 135)).alloc (.cells #[.int .i64 a,.int .i64 b,.int .i64 c] 133)):=za9
 go_enter Tryz.func81,Tryz.ntmps81
 go_wp2_with (first | (go_at_call 109; refine (hlab _ hB).mono ?_; rintro e w2 ⟨rfl,hb2⟩))
 go_ret
 exact ⟨rfl,hB.trans (hb2.mono hB.size)⟩
end Go.Proofs.YtfpgjkbjbbgciaaGreatDoor
namespace Go.Proofs.YtfpgjkbjbbgciaaGreatDoor
open Go.ChangeShapes Go.WideShapes Go.ChangeAt Go.RowKit Sp
open Go.ChangeMaps (open_string shut_string)
theorem Tryz.own : ownKnob Tryz.prog.godebug = none:=by kernel_rfl
theorem gES : Tryz.prog.globalNamed "strconv.ErrSyntax" = some 3:=by kernel_rfl
theorem gER : Tryz.prog.globalNamed "strconv.ErrRange" = some 4:=by kernel_rfl
theorem zvd : (Tryz.prog.globals[3]?).map (·.type) = some 246:=by kernel_rfl
theorem zve : (Tryz.prog.globals[4]?).map (·.type) = some 246:=by kernel_rfl
theorem star : "*errors.errorString" = "*" ++ "errors.errorString":=by decide
theorem zuF (u : TypeId) (h : Tryz.prog.typeName? 3 u = some "*errors.errorString") : u = 267 :=
 typeName_ptr_named (nm := "errors.errorString") (by rw [← star]; kernel_rfl) (by kernel_rfl) (by decide) u (by rw [← star]; exact h)
theorem znf : Tryz.prog.cellsOf 269 = 1:=by kernel_rfl
theorem zuG : Tryz.prog.cellsOf 9 = 1:=by kernel_rfl
theorem zlT {W : World} (hL0 : laidMetH Tryz.prog Rows.checksUptoRow.laid W) (hsh : W.ShapedOpen Tryz.prog) : LibW W:=by
 have hL : laidMet Tryz.prog Rows.checksUptoRow.laid W:=hL0
 have hacc:=Lib.laidMet.reads hL (.tail _ (.tail _ (.tail _ (.head _))))
 have hfst:=Lib.laidMet.reads hL (.tail _ (.tail _ (.tail _ (.tail _ (.tail _ (.tail _ (.head _)))))))
 obtain ⟨a0,s0,hv0,-,-,-⟩:=laid_sentinel hL.tail.tail.tail.tail gER zve Tryz.underlying246 zuF Tryz.underlying267 Tryz.underlying269 rfl rfl Tryz.underlying9 znf zuG
 obtain ⟨a1,s1,hv1,-,-,-⟩:=laid_sentinel hL.tail.tail.tail.tail.tail gES zvd Tryz.underlying246 zuF Tryz.underlying267 Tryz.underlying269 rfl rfl Tryz.underlying9 znf zuG
 have hpf : Rows.laid_unicode_utf8_first = Lib.firstData:=Pinned.utf8First_eq
 have hpa : Rows.laid_unicode_utf8_acceptRanges = (Lib.acceptData : DataW Unit):=by kernel_rfl
 rw [hpf] at hfst
 rw [hpa] at hacc
 have htabs : Lib.Utf8Tabs 1 2 W :=
  utf8Tabs_of_reads (ρ:=Tryz.lays197_ren) { Tryz.lays197 with } ⟨by kernel_rfl,by kernel_rfl,by kernel_rfl,by kernel_rfl,by kernel_rfl,by kernel_rfl,by kernel_rfl⟩ hfst hacc
 have hmost : ∃ m,W.cell? ⟨0,0,none⟩ = some (.int .i64 m):=cell_of_shapedOpen_int (g:=0) (t:=3) (zero:=#[.int .i64 0]) hsh (of_decide_eq_true (by kernel_rfl)) (by kernel_rfl) rfl (by kernel_rfl) (by kernel_rfl) Tryz.underlying3
 have hlast:=Lib.laidMet.reads hL (.tail _ (.head _))
 refine ⟨htabs,hmost,⟨_,_,hv1⟩,⟨_,_,hv0⟩,?_⟩
 obtain ⟨g,ty,cs,fuel,pp,hg,_,hvar,_⟩:=hlast
 obtain rfl : g = 7:=Option.some.inj (hg.symm.trans (show Tryz.prog.globalNamed "math/bits.deBruijn64tab" = some 7 by kernel_rfl))
 unfold World.var? at hvar
 rw [hg] at hvar
 cases hh : W.heap[7]? with
 | none => simp [hh] at hvar
 | some o => exact (Array.getElem?_eq_some_iff.1 hh).1
end Go.Proofs.YtfpgjkbjbbgciaaGreatDoor
