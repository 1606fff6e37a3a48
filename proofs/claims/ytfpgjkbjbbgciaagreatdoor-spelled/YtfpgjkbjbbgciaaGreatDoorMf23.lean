import Derived.Test.YtfpgjkbjbbgciaaGreatDoorMf22
set_option maxRecDepth 100000
set_option maxHeartbeats 8000000
namespace Go.Proofs.YtfpgjkbjbbgciaaGreatDoor
open Go.RowKit Sp
def lenF (F : List FnM) : Nat:=(F.map (fun f => (zaf f.its).length)).sum
def begF (F : List FnM) : List Int:=(List.range F.length).map (fun k => (lenF (F.take k) : Int))
theorem ziu (F : List FnM) (k : Nat) (h : k < F.length) : lenF (F.take (k + 1)) = lenF (F.take k) + (zaf F[k].its).length:=by
 unfold lenF
 rw [List.take_succ_eq_append_getElem h,List.map_append,List.sum_append]
 simp
theorem znB (F : List FnM) (k : Nat) (h : k < F.length) : (begF F).take (k + 1) = (begF F).take k ++ [(lenF (F.take k) : Int)]:=by
 have hl : k < (begF F).length:=by simp [begF,h]
 rw [List.take_succ_eq_append_getElem hl]
 simp [begF]
theorem zk8 (F : List FnM) : (begF F).length = F.length:=by simp [begF]
theorem Tryz.info128 : (Tryz.prog.info? 128).map (·.size) = some 3:=by kernel_rfl
theorem Tryz.built96 (ao : Option Addr) (n c pm : Nat) : Tryz.prog.built 128 [(0,.agg #[.slice ao n c,.map (some pm)])] = some #[.slice ao n c,.map (some pm),.slice none 0 0]:=by kernel_rfl
structure PlAt (w wr : World) (v : Value) (pm : Nat) (F : List FnM) (k : Nat) (bs : Value) : Prop where
 c0 : wr.cell? ⟨w.heap.size + 1 + 1,0,none⟩ = some v
 c1 : wr.cell? ⟨w.heap.size + 1 + 1,1,none⟩ = some (.map (some pm))
 c2 : wr.cell? ⟨w.heap.size + 1 + 1,2,none⟩ = some bs
 fz : ∀ o,wr.frozen? ⟨w.heap.size + 1 + 1,o,none⟩ = false
 there_ : wr.there (w.heap.size + 1) 0 3
 row : wr.ownsRow (w.heap.size + 1 + 1 + 1) 3 1 bs k (i64s ((begF F).take k))
 low : Below w.heap.size w wr
 size : w.heap.size + 1 + 1 + 1 ≤ wr.heap.size
theorem zp9 (w : World) (v : Value) (pm : Nat) (F : List FnM) : PlAt w (((w.alloc (.cells #[v,.map (some pm)] 83)).alloc (.cells #[.slice none 0 0,.map none,.slice none 0 0] 128)).alloc (.cells #[v,.map (some pm),.slice none 0 0] 128)) v pm F 0 (.slice none 0 0):=by
 have hs1 : (w.alloc (.cells #[v,.map (some pm)] 83)).heap.size = w.heap.size + 1:=by simp
 have hb1 : Below w.heap.size w (w.alloc (.cells #[v,.map (some pm)] 83)):=(Below.refl _ _).alloc (Nat.le_refl _) _
 generalize w.alloc (.cells #[v,.map (some pm)] 83) = W1 at hs1 hb1
 have hs2 : (W1.alloc (.cells #[.slice none 0 0,.map none,.slice none 0 0] 128)).heap.size = w.heap.size + 1 + 1:=by rw [← hs1]; simp
 have ht : (W1.alloc (.cells #[.slice none 0 0,.map none,.slice none 0 0] 128)).there (w.heap.size + 1) 0 3:=fun j hj => by
  rw [Nat.zero_add,← hs1,World.cell?_alloc_new,Array.getElem?_eq_getElem (by simpa using hj)]
  exact ⟨rfl,by simp⟩
 have hb2 : Below w.heap.size w (W1.alloc (.cells #[.slice none 0 0,.map none,.slice none 0 0] 128)):=hb1.alloc (by omega) _
 generalize W1.alloc (.cells #[.slice none 0 0,.map none,.slice none 0 0] 128) = W2 at hs2 ht hb2
 rw [← hs1] at ht
 refine ⟨?_,?_,?_,fun o => ?_,?_,World.ownsRow_nil _ _ _ _,hb2.alloc (by omega) _,?_⟩
 ·rw [← hs2,World.cell?_alloc_new]; rfl
 ·rw [← hs2,World.cell?_alloc_new]; rfl
 ·rw [← hs2,World.cell?_alloc_new]; rfl
 ·rw [← hs2]; simp
 ·rw [← hs1]; exact World.there_alloc ht _
 ·rw [← hs2]; simp
theorem zgj {w : World} {b n : Nat} (h : w.there b 0 n) (j : Nat) (hj : j < n) : (∃ u,w.cell? ⟨b,j,none⟩ = some u) ∧ w.frozen? ⟨b,j,none⟩ = false:=by
 have:=h j hj
 rw [Nat.zero_add] at this
 exact ⟨Option.isSome_iff_exists.1 this.1,this.2⟩
theorem znC {w : World} {B n : Nat} {v : Value} {xs : List Value} {e : TypeId} {size : Nat} (h : w.ownsRow B e size v n xs) : ∃ ao cap,v = .slice ao n cap:=za9 h
def zrS (w : World) (v : Value) (pm : Nat) (F : List FnM) : Ending → World → Prop:=fun e w' => ∃ bs,e = .returned (.agg #[v,.map (some pm),bs]) ∧ w'.ownsRow w.heap.size 3 1 bs F.length (i64s (begF F)) ∧ Below w.heap.size w w'
theorem zlY (w : World) (B pm : Nat) (v : Value) (F : List FnM) (h : PIn B w pm v F) (hF : 0 < F.length) (hn : F.length ≤ 300) (hb : ∀ f ∈ F,f.its.length ≤ 300) (ht : lenF F ≤ 300) :
  Calls Tryz.prog 80 #[.agg #[v,.map (some pm)]] w (zrS w v pm F):=by
 obtain ⟨fg,cap,rfl,hfg,hcap,hcells⟩:=h.fns hF
 have hb96:=Tryz.built96 (some ⟨fg,0,none⟩) F.length cap pm
 have hrb : ∀ W,(Instr.build 128 #[(0,.agg #[.slice (some ⟨fg,0,none⟩) F.length cap,.map (some pm)])]).run Tryz.prog W = .ok (.agg #[.slice (some ⟨fg,0,none⟩) F.length cap,.map (some pm),.slice none 0 0]) W:=fun W => run_build W 128 _ _ hb96
 go_enter Tryz.func80,Tryz.ntmps80
 go_wp2
 generalize hv : Value.slice (some ⟨fg,0,none⟩) F.length cap = v at h hb96 hrb
 have P0 : PlAt w (((w.alloc (.cells #[v,.map (some pm)] 83)).alloc (.cells #[.slice none 0 0,.map none,.slice none 0 0] 128)).alloc (.cells #[v,.map (some pm),.slice none 0 0] 128)) v pm F 0 (.slice none 0 0):=zp9 w v pm F
 subst hv
 generalize ((w.alloc (.cells #[.slice (some ⟨fg,0,none⟩) F.length cap,.map (some pm)] 83)).alloc (.cells #[.slice none 0 0,.map none,.slice none 0 0] 128)).alloc (.cells #[.slice (some ⟨fg,0,none⟩) F.length cap,.map (some pm),.slice none 0 0] 128) = W0 at P0
 obtain ⟨i0,hi0,hz0,hz1,hz2⟩:=info_parts Tryz.info3
 go_loopw [12,4] (fun ti tb wr => ∃ (k : Nat) (bs : Value),k ≤ F.length ∧ ti = .int .i64 (k : Int) ∧ tb = .int .i64 (lenF (F.take k) : Int) ∧ PlAt w wr (.slice (some ⟨fg,0,none⟩) F.length cap) pm F k bs) (fun ti _ _ => F.length - (intOf ti).toNat)
 case atStart => exact ⟨0,_,by omega,rfl,rfl,P0⟩
 case round =>
  obtain ⟨k,bs,hk,rfl,rfl,Z⟩:=hrel
  have hbw:=Z.low
  have hszr:=Z.size
  by_cases hlt : k < F.length
  ·obtain ⟨c0,c1,c2,c3⟩:=hcells k hlt
   have hmem:=List.getElem_mem hlt
   have hbo:=(h.bodies F[k] hmem)
   have HL : Hid (lenF (F.take (k + 1)) = lenF (F.take k) + (zaf F[k].its).length):=ziu F k hlt
   have HB : Hid ((begF F).take (k + 1) = (begF F).take k ++ [(lenF (F.take k) : Int)]):=znB F k hlt
   have hq1 : lenF (F.take k) ≤ 300:=by
    refine Nat.le_trans ?_ ht
    unfold lenF
    conv => rhs; rw [← List.take_append_drop k F,List.map_append,List.sum_append]
    omega
   have hbl:=Nat.le_trans (zc7 F[k].its) (hb F[k] hmem)
   have hlk : (i64s ((begF F).take k)).length = k:=by simp [zk8]; omega
   have hrow:=Z.row
   generalize hT : lenF (F.take k) = T at HL HB hq1
   generalize F[k] = f at c0 c1 c2 c3 hmem hbo hbl HL
   have z : ∀ j,wr.cell? ⟨fg,j,none⟩ = w.cell? ⟨fg,j,none⟩:=fun j => hbw.cell (p:=⟨fg,j,none⟩) hfg
   rw [← z] at c0 c1 c2 c3
   clear z
   have hk4 : k * 4 ≤ 1200:=by omega
   obtain ⟨name,line,its,bv,m⟩:=f
   simp only at c0 c1 c2 c3 hbo hbl HL
   obtain ⟨ao,capb,rfl⟩:=za9 hbo
   have p2:=Z.c2
   have hlt2 : w.heap.size + 1 + 1 < wr.heap.size:=by omega
   have hno:=fun q (hq : bs.ownBlock = some q) => (hrow.lt q hq)
   clear hbo
   go_wp2_with (first
    | (at_builtin; refine wpList_append_own _ rfl _ _ 59 rfl (w.heap.size + 1 + 1 + 1) 3 i0 (.int .i64 0) 1 8 Tryz.under59 hi0 hz0 hz1 hz2 rfl (by decide) _ _ _ rfl ((hrow.alloc _).alloc _) ⟨wr.heap.size + 1,0,none⟩ 1 1 [.int .i64 (T : Int)] rfl rfl ?_ (by simp [Value.oneCell']) (by unfold maxLen; omega) (by omega) (by simp; omega) ?_))
   ·have:=zij (wr.alloc (.cells #[.string name,.int .i64 line,.slice ao (zaf its).length capb,.map (some m)] 131)) (.int .i64 (T : Int))
    rwa [show (wr.alloc (.cells #[.string name,.int .i64 line,.slice ao (zaf its).length capb,.map (some m)] 131)).heap.size = wr.heap.size + 1 by simp] at this
   intro v' w4 hown4 hgrow _
   have hbw1 : Below wr.heap.size wr (wr.alloc (.cells #[.string name,.int .i64 line,.slice ao (zaf its).length capb,.map (some m)] 131)):=(Below.refl _ _).alloc (Nat.le_refl _) _
   have hs1 : (wr.alloc (.cells #[.string name,.int .i64 line,.slice ao (zaf its).length capb,.map (some m)] 131)).heap.size = wr.heap.size + 1:=by simp
   have hf2 : (wr.alloc (.cells #[.string name,.int .i64 line,.slice ao (zaf its).length capb,.map (some m)] 131)).cell? ⟨wr.heap.size,2,none⟩ = some (.slice ao (zaf its).length capb):=by simp
   generalize wr.alloc (.cells #[.string name,.int .i64 line,.slice ao (zaf its).length capb,.map (some m)] 131) = w2 at hgrow hbw1 hs1 hf2
   have hbw2 : Below wr.heap.size wr (w2.alloc (.cells #[.int .i64 (T : Int)] 3)):=hbw1.alloc (by omega) _
   have hs2 : (w2.alloc (.cells #[.int .i64 (T : Int)] 3)).heap.size = wr.heap.size + 1 + 1:=by rw [← hs1]; simp
   have hf2' : (w2.alloc (.cells #[.int .i64 (T : Int)] 3)).cell? ⟨wr.heap.size,2,none⟩ = some (.slice ao (zaf its).length capb):=(World.cell?_alloc_lt w2 _ _ (by show wr.heap.size < _; omega)).trans hf2
   generalize w2.alloc (.cells #[.int .i64 (T : Int)] 3) = w3 at hgrow hbw2 hs2 hf2'
   have hne2 : some (w.heap.size + 1 + 1) ≠ bs.ownBlock:=fun e => by have:=(hno _ e.symm).1; omega
   have hne1 : some (w.heap.size + 1) ≠ bs.ownBlock:=fun e => by have:=(hno _ e.symm).1; omega
   have hne3 : some wr.heap.size ≠ bs.ownBlock:=fun e => by have:=(hno _ e.symm).2; omega
   have hblk2 : w4.heap[w.heap.size + 1 + 1]? = wr.heap[w.heap.size + 1 + 1]?:=(hgrow.block _ (by omega) hne2).trans (hbw2.block _ (by omega))
   have hblk1 : w4.heap[w.heap.size + 1]? = wr.heap[w.heap.size + 1]?:=(hgrow.block _ (by omega) hne1).trans (hbw2.block _ (by omega))
   have d0:=(World.cell?_of_block (w:=wr) (a:=⟨w.heap.size + 1 + 1,0,none⟩) hblk2).trans Z.c0
   have d1:=(World.cell?_of_block (w:=wr) (a:=⟨w.heap.size + 1 + 1,1,none⟩) hblk2).trans Z.c1
   have d2:=(World.cell?_of_block (w:=wr) (a:=⟨w.heap.size + 1 + 1,2,none⟩) hblk2).trans Z.c2
   have dz : ∀ o,w4.frozen? ⟨w.heap.size + 1 + 1,o,none⟩ = false:=fun o => (World.frozen?_of_block (w:=wr) (a:=⟨w.heap.size + 1 + 1,o,none⟩) hblk2).trans (Z.fz o)
   have hf4 : w4.cell? ⟨wr.heap.size,2,none⟩ = some (.slice ao (zaf its).length capb):=(hgrow.cell_far ⟨wr.heap.size,2,none⟩ (by show wr.heap.size < _; omega) hne3).trans hf2'
   have hlow4 : Below w.heap.size w w4:=(hbw.trans (hbw2.mono (by omega))).grown hgrow (by omega) (fun q hq => by have:=(hno q hq).1; omega)
   have hsz4 : wr.heap.size + 1 + 1 ≤ w4.heap.size:=by have:=hgrow.size; omega
   have dz2:=dz 2
   have hne6 : ¬ wr.heap.size = w.heap.size + 1 + 1:=by omega
   have hne7 : ¬ w.heap.size + 1 + 1 = wr.heap.size:=by omega
   have hthere4 : w4.there (w.heap.size + 1) 0 3:=fun j hj => by
    obtain ⟨q1,q2⟩:=Z.there_ j hj
    exact ⟨by rw [World.cell?_of_block (w:=wr) hblk1]; exact q1,by rw [World.frozen?_of_block (w:=wr) hblk1]; exact q2⟩
   obtain ⟨gb,cb,rfl,hgb,hgl⟩:=hown4.form (by omega)
   clear c0 c1 c2 c3 p2 hf2 hf2'
   go_wp2
   have hZ2 : PlAt w (w4.setCell ⟨w.heap.size + 1 + 1,2,none⟩ (.slice (some ⟨gb,0,none⟩) (k + 1) cb)) (.slice (some ⟨fg,0,none⟩) F.length cap) pm F (k + 1) (.slice (some ⟨gb,0,none⟩) (k + 1) cb):=by
    have e:=fun j => zbv w4 (w.heap.size + 1 + 1) 2 j (.slice (some ⟨gb,0,none⟩) (k + 1) cb) _ d2
    refine ⟨by rw [e,if_neg (by omega)]; exact d0,by rw [e,if_neg (by omega)]; exact d1,by rw [e,if_pos rfl],fun o => zcN w4 _ _ o _ (dz o),zgh hthere4 _ _,?_,hlow4.setCell (p:=⟨w.heap.size + 1 + 1,2,none⟩) (by show w.heap.size ≤ w.heap.size + 1 + 1; omega) _,by simp [World.setCell]; omega⟩
    rw [HB.out]
    have hk2:=zad (w':=w4.setCell ⟨w.heap.size + 1 + 1,2,none⟩ (.slice (some ⟨gb,0,none⟩) (k + 1) cb)) hown4 (fun q hq => Below.heap_setCell _ _ _ _ (fun e => by have:=(hown4.lt q hq).1; simp only at e; omega))
    simpa [i64s] using hk2
   go_roundw
   case rel => exact ⟨k + 1,_,by omega,by go_num,by rw [HL.out]; go_num,hZ2⟩
   case measure => simp [intOf]; omega
  ·obtain rfl : k = F.length:=by omega
   have p0:=Z.c0
   have p1:=Z.c1
   have p2:=Z.c2
   have hrow:=Z.row
   rw [List.take_of_length_le (by rw [zk8]; omega)] at hrow
   obtain ⟨ab,cb,rfl⟩:=znC hrow
   obtain ⟨⟨u0,r0⟩,z0⟩:=zgj Z.there_ 0 (by omega)
   obtain ⟨⟨u1,r1⟩,z1⟩:=zgj Z.there_ 1 (by omega)
   obtain ⟨⟨u2,r2⟩,z2⟩:=zgj Z.there_ 2 (by omega)
   have hT : lenF (F.take F.length) = lenF F:=by rw [List.take_length]
   go_wp2
   have hu96 : Tryz.prog.underlying 128 = some (.struct _):=Tryz.underlying128
   have hr:=World.rangeAt_setCells_same wr (w.heap.size + 1) 0 [.slice (some ⟨fg,0,none⟩) F.length cap,.map (some pm),.slice ab F.length cb] Z.there_
   have hres:=run_loadVar_mid (wr.setCells (w.heap.size + 1) 0 [.slice (some ⟨fg,0,none⟩) F.length cap,.map (some pm),.slice ab F.length cb]) (w.heap.size + 1) 0 128 _ _ hr hu96 rfl Tryz.info128
   have hbl5 : Below w.heap.size w (wr.setCells (w.heap.size + 1) 0 [.slice (some ⟨fg,0,none⟩) F.length cap,.map (some pm),.slice ab F.length cb]):=za6 _ 0 hbw (by omega)
   refine bodyPost_ret (v:=.agg #[.slice (some ⟨fg,0,none⟩) F.length cap,.map (some pm),.slice ab F.length cb]) (zcH Tryz.results80 _ ⟨w.heap.size + 1,0,none⟩ rfl hres) rfl ⟨_,rfl,?_,hbl5⟩
   have ho2:=zad (w':=wr.setCells (w.heap.size + 1) 0 [.slice (some ⟨fg,0,none⟩) F.length cap,.map (some pm),.slice ab F.length cb]) hrow (fun q hq => za0 _ wr _ _ _ (by have:=(hrow.lt q hq).1; omega))
   exact zbu ho2 (by omega)
def SlB (w : World) (b : Nat) (v : Value) (l : List Int) : Prop:=∃ ao cap,v = .slice ao l.length cap ∧ l.length ≤ cap ∧ (0 < l.length → ∃ g o,ao = some ⟨g,o,none⟩ ∧ g < b ∧ g < w.heap.size ∧ ∀ j (h : j < l.length),w.cell? ⟨g,o + j,none⟩ = some (.int .i64 l[j]))
theorem SlB.below {w w' : World} {b : Nat} {v : Value} {l : List Int} (h : SlB w b v l) (hb : Below b w w') : SlB w' b v l:=by
 obtain ⟨ao,cap,h1,h2,h3⟩:=h
 refine ⟨ao,cap,h1,h2,fun hp => ?_⟩
 obtain ⟨g,o,e,hg,hg2,hc⟩:=h3 hp
 exact ⟨g,o,e,hg,Nat.lt_of_lt_of_le hg2 hb.size,fun j hj => (hb.cell (p:=⟨g,o + j,none⟩) hg).trans (hc j hj)⟩
def SlN (w : World) (v : Value) (l : List Int) : Prop:=∃ ao cap,v = .slice ao l.length cap ∧ (0 < l.length → ∃ g o,ao = some ⟨g,o,none⟩ ∧ ∀ j (h : j < l.length),w.cell? ⟨g,o + j,none⟩ = some (.int .i64 l[j]))
theorem SlN.of_row {w : World} {B _n : Nat} {v : Value} {l : List Int} (h : w.ownsRow B 2 1 v l.length (i64s l)) : SlN w v l:=by
 obtain ⟨ao,cap,rfl⟩:=za9 h
 refine ⟨ao,cap,rfl,fun hp => ?_⟩
 obtain ⟨g,c,e,_,_⟩:=h.form hp
 simp only [Value.slice.injEq,true_and] at e
 obtain ⟨rfl,rfl⟩:=e
 refine ⟨g,0,rfl,fun j hj => ?_⟩
 rw [Nat.zero_add,World.ownsRow.cellAt h j (by omega)]
 simp [hj]
section
end
section
end
end Go.Proofs.YtfpgjkbjbbgciaaGreatDoor
namespace Go.Proofs.YtfpgjkbjbbgciaaGreatDoor
open Go.RowKit Sp Go.WideMaps Go.Maps
theorem MapIs.look {w : World} {b : Nat} {E : List (ByteArray × Nat)} (h : MapIs w b E) (x : ByteArray) (hx : x.size ≤ 1048576) (p : Nat) (hp : zbc E x = some p) : (Instr.lookup 81 (.map (some b)) (.string x) false).run Tryz.prog w = .ok (.int .i64 (p : Int)) w:=by
 obtain ⟨D,hown,hD,hhas,hat0,hpw⟩:=h
 obtain ⟨c,hrun,hat,_⟩:=hown.lookup_int lawS Tryz.under81 Tryz.underlying3 (zng _) (keyS x (by unfold maxLen; omega))
 rw [hat0 x p _ hp] at hat
 simp at hat
 rw [hrun,hat]
theorem MapIs.drewN {w : World} {b : Nat} {E : List (ByteArray × Nat)} (h : MapIs w b E) (n : Nat) : MapIs (w.drewN n) b E:=h
theorem zht (w : World) (pm bg k : Nat) (v : Value) (F : List FnM) (cap : Nat) (x : ByteArray) (hM : MapIs w pm (zaR F)) (hx : x.size ≤ 1048576) (hk : zbc (zaR F) x = some k) (hkl : k < F.length) (_hn : F.length ≤ 300) (hc : w.cell? ⟨bg,k,none⟩ = some (.int .i64 (lenF (F.take k) : Int))) (bo cv : Nat) (hv : v = .slice (some ⟨bo,0,none⟩) F.length cv) :
  Calls Tryz.prog 109 #[.agg #[v,.map (some pm),.slice (some ⟨bg,0,none⟩) F.length cap],.string x] w fun e w' => e = .returned (.int .i64 (lenF (F.take k) : Int)) ∧ Below w.heap.size w w':=by
 subst hv
 have hl:=(hM.alloc (.cells #[.slice (some ⟨bo,0,none⟩) F.length cv,.map (some pm),.slice (some ⟨bg,0,none⟩) F.length cap] 128)).look x hx k hk
 have hlt : bg < w.heap.size:=World.block_lt_of_cell? w _ hc
 have hk0 : (0 : Int) ≤ (k : Int):=by omega
 have hk1 : (k : Int) < (F.length : Int):=by omega
 have hne4 : ¬ w.heap.size = bg:=by omega
 have hne5 : ¬ bg = w.heap.size:=by omega
 go_enter Tryz.func109,Tryz.ntmps109
 go_wp2
 go_ret
 exact ⟨rfl,(Below.refl _ _).alloc (Nat.le_refl _) _⟩
theorem zlZ (w : World) (pm bg k j p bo cv cap : Nat) (F : List FnM) (x : ByteArray) (m : Nat) (E : List (ByteArray × Nat)) (hM : MapIs w m E) (hx : x.size ≤ 1048576) (hp : zbc E x = some p) (hp1 : p ≤ 300) (hkl : k < F.length) (hn : F.length ≤ 300) (hj : j ≤ 300) (hc : w.cell? ⟨bg,k,none⟩ = some (.int .i64 (j : Int))) (hm : w.cell? ⟨bo,k * 4 + 3,none⟩ = some (.map (some m))) :
  Calls Tryz.prog 108 #[.agg #[.slice (some ⟨bo,0,none⟩) F.length cv,.map (some pm),.slice (some ⟨bg,0,none⟩) F.length cap],.string x,.int .i64 (k : Int)] w fun e w' => e = .returned (.int .i64 ((j : Int) + (p : Int))) ∧ Below w.heap.size w w':=by
 have hl:=fun n => ((hM.alloc (.cells #[.slice (some ⟨bo,0,none⟩) F.length cv,.map (some pm),.slice (some ⟨bg,0,none⟩) F.length cap] 128)).drewN n).look x hx p hp
 have hlt : bg < w.heap.size:=World.block_lt_of_cell? w _ hc
 have hlt2 : bo < w.heap.size:=World.block_lt_of_cell? w _ hm
 have hk0 : (0 : Int) ≤ (k : Int):=by omega
 have hk1 : (k : Int) < (F.length : Int):=by omega
 have hne4 : ¬ w.heap.size = bg:=by omega
 have hne5 : ¬ bg = w.heap.size:=by omega
 have hne6 : ¬ w.heap.size = bo:=by omega
 have hne7 : ¬ bo = w.heap.size:=by omega
 have hk4 : k * 4 ≤ 1200:=by omega
 go_enter Tryz.func108,Tryz.ntmps108
 go_wp2_with fail
 go_quiet (fail)
 go_wp2
 go_ret
 exact ⟨rfl,((Below.refl _ _).alloc (Nat.le_refl _) _).trans ((zdQ _ nq).mono (by simp))⟩
end Go.Proofs.YtfpgjkbjbbgciaaGreatDoor
namespace Go.Proofs.YtfpgjkbjbbgciaaGreatDoor
open Go.RowKit Sp
def zbD : Mc:=⟨0,[],[],0,fun _ => 0,fun _ => 0,[],0,0,0⟩
structure Told where
 m : Mc
 at_ : Int
 err : Int
 line : Int
def zew (s : ByteArray) (inp : List Int) (n : Int) : Told :=
 if ¬ zd1 s = (0,0) then ⟨zbD,0,(zd1 s).1,(zd1 s).2⟩
 else if n < 0 ∨ 100000 < n then ⟨zbD,0,7,0⟩
 else ⟨runS (zbW ((lines s).map say)) n.toNat (zb9 ((lines s).map say) inp),(runS (zbW ((lines s).map say)) n.toNat (zb9 ((lines s).map say) inp)).line,0,0⟩
def zdc (w : World) (T : Told) : Ending → World → Prop:=fun e w' => ∃ ao no co,e = .returned (.tuple #[.agg (zai T.m (.slice ao no co) T.at_).toArray,.int .i64 T.err,.int .i64 T.line]) ∧ w'.ownsRow w.heap.size 2 1 (.slice ao no co) T.m.out.length (i64s T.m.out) ∧ Below w.heap.size w w'
theorem zsp : zai zbD (.slice none 0 0) 0 = [.int .i64 0,.int .i64 0,.int .i64 0,.int .i64 0,.int .i64 0,.int .i64 0,.int .i64 0,.int .i64 0,.int .i64 0,.int .i64 0,.int .i64 0,.int .i64 0,.int .i64 0,.int .i64 0,.int .i64 0,.int .i64 0,.int .i64 0,.int .i64 0,.int .i64 0,.int .i64 0,.int .i64 0,.int .i64 0,.int .i64 0,.int .i64 0,.int .i64 0,.slice none 0 0,.int .i64 0,.int .i64 0,.int .i64 0,.int .i64 0]:=by simp [zai,List.range_succ,zbD]
theorem SlB.mono {w w' : World} {v : Value} {l : List Int} (h : SlB w w.heap.size v l) (hb : Below w.heap.size w w') : SlB w' w'.heap.size v l:=by
 obtain ⟨ao,cap,h1,h2,h3⟩:=h
 refine ⟨ao,cap,h1,h2,fun hp => ?_⟩
 obtain ⟨g,o,e,hg,hg2,hc⟩:=h3 hp
 have:=hb.size
 exact ⟨g,o,e,by omega,by omega,fun j hj => (hb.cell (p:=⟨g,o + j,none⟩) hg).trans (hc j hj)⟩
theorem zlQ (i : Ins) (next : Int) (m : Mc) (h : m.fin = 0) :
  (((exec i next m).fin = 0 ∧ (exec i next m).steps = m.steps + 1) ∨ (((exec i next m).fin = 1 ∨ (exec i next m).fin = 2) ∧ (exec i next m).at' = -1 ∧ (exec i next m).steps = m.steps + 1) ∨ (((exec i next m).fin = 3 ∨ (exec i next m).fin = 4) ∧ (exec i next m).at' = m.at' ∧ (exec i next m).steps = m.steps)) ∧ (exec i next m).inp.length ≤ m.inp.length:=by
 cases i with
 | load r s =>
  simp only [exec]
  split
  ·exact ⟨.inr (.inr ⟨.inl rfl,rfl,rfl⟩),Nat.le_refl _⟩
  ·exact ⟨.inl ⟨h,rfl⟩,Nat.le_refl _⟩
 | store r s =>
  simp only [exec]
  split
  ·exact ⟨.inr (.inr ⟨.inl rfl,rfl,rfl⟩),Nat.le_refl _⟩
  ·exact ⟨.inl ⟨h,rfl⟩,Nat.le_refl _⟩
 | call to =>
  simp only [exec]
  split
  ·exact ⟨.inr (.inr ⟨.inr rfl,rfl,rfl⟩),Nat.le_refl _⟩
  ·exact ⟨.inl ⟨h,rfl⟩,Nat.le_refl _⟩
 | back =>
  simp only [exec]
  split
  ·exact ⟨.inr (.inl ⟨.inr rfl,rfl,rfl⟩),Nat.le_refl _⟩
  ·exact ⟨.inl ⟨h,rfl⟩,Nat.le_refl _⟩
 | stop => exact ⟨.inr (.inl ⟨.inl rfl,rfl,rfl⟩),Nat.le_refl _⟩
 | read r =>
  refine ⟨.inl ⟨h,rfl⟩,?_⟩
  show m.inp.tail.length ≤ _
  simp
 | set r k => exact ⟨.inl ⟨h,rfl⟩,Nat.le_refl _⟩
 | mov r s => exact ⟨.inl ⟨h,rfl⟩,Nat.le_refl _⟩
 | alu o r s t => exact ⟨.inl ⟨h,rfl⟩,Nat.le_refl _⟩
 | inc r k => exact ⟨.inl ⟨h,rfl⟩,Nat.le_refl _⟩
 | write r => exact ⟨.inl ⟨h,rfl⟩,Nat.le_refl _⟩
 | jump to => exact ⟨.inl ⟨h,rfl⟩,Nat.le_refl _⟩
 | less r s to => exact ⟨.inl ⟨h,rfl⟩,Nat.le_refl _⟩
 | same r s to => exact ⟨.inl ⟨h,rfl⟩,Nat.le_refl _⟩
abbrev OutW (w : World) : World:=(w.alloc (.cells #[.int .i64 0] 22)).alloc (.cells #[.int .i64 0] 3)
theorem zjt (fn : Nat) (caps : Array Value) (w : World) (Q : World → Prop) (hfn : ∀ W,(callFunc fn caps).run Tryz.prog W = .ok (.enter fn caps) W)
  (hcall : Calls Tryz.prog fn caps (OutW w) fun e w1 => e = .returned (.tuple #[]) ∧ Q w1)
  (hQ : ∀ w1,Q w1 → w1.cell? ⟨w.heap.size,0,none⟩ = some (.int .i64 0) ∧ w1.cell? ⟨w.heap.size + 1,0,none⟩ = some (.int .i64 0) ∧ w1.frozen? ⟨w.heap.size,0,none⟩ = false ∧ w1.frozen? ⟨w.heap.size + 1,0,none⟩ = false) :
  Calls Tryz.prog 42 #[.func (.func fn) #[] caps] w fun e w' => e = .returned (.tuple #[.int .i64 0,.int .i64 0]) ∧ ∃ w1,Q w1 ∧ w' = (w1.setCell ⟨w.heap.size,0,none⟩ (.int .i64 0)).setCell ⟨w.heap.size + 1,0,none⟩ (.int .i64 0):=by
 have hmf : ∀ (fn : Go.Fn) (first cap : Array Value) (w : World),(Instr.makeFunc fn first cap).run Tryz.prog w = .ok (.func fn first cap) w:=fun _ _ _ _ => rfl
 go_enter_defers Tryz.func42,Tryz.ntmps42
 go_wp2_with (first | (refine hcall.mono ?_; rintro e w1 ⟨rfl,hq⟩; obtain ⟨z0,z1,f0,f1⟩:=hQ w1 hq))
 have y0 : ((w1.setCell ⟨w.heap.size,0,none⟩ (.int .i64 0)).setCell ⟨w.heap.size + 1,0,none⟩ (.int .i64 0)).cell? ⟨w.heap.size,0,none⟩ = some (.int .i64 0):=by
  rw [World.cell?_setCell_other]
  ·exact World.cell?_setCell_same w1 _ _ z0
  ·simp
 have y1 : ((w1.setCell ⟨w.heap.size,0,none⟩ (.int .i64 0)).setCell ⟨w.heap.size + 1,0,none⟩ (.int .i64 0)).cell? ⟨w.heap.size + 1,0,none⟩ = some (.int .i64 0):=by
  refine World.cell?_setCell_same (u:=.int .i64 0) _ _ _ ?_
  rw [World.cell?_setCell_other]
  ·exact z1
  ·simp
 generalize hX : (w1.setCell ⟨w.heap.size,0,none⟩ (.int .i64 0)).setCell ⟨w.heap.size + 1,0,none⟩ (.int .i64 0) = X at y0 y1 ⊢
 refine leaves_cons (f:=64) (args:=#[.pointer (some ⟨w.heap.size,0,none⟩),.pointer (some ⟨w.heap.size + 1,0,none⟩)]) (by simp) (by simp [go_sem]) ?_
 refine (zll w.heap.size _).mono ?_
 rintro e u' w'' ⟨rfl,rfl,rfl⟩
 exact ⟨.tuple #[.int .i64 0,.int .i64 0],by simp [results,Tryz.results42,go_sem,y0,y1],rfl,w1,hq,hX.symm⟩
theorem zfS (fn : Nat) (caps : Array Value) (w : World) (er ln : Int) (hfn : ∀ W,(callFunc fn caps).run Tryz.prog W = .ok (.enter fn caps) W)
  (hcall : Calls Tryz.prog fn caps (OutW w) fun e w1 => e = zap er ln ∧ Below (OutW w).heap.size (OutW w) w1) :
  Calls Tryz.prog 42 #[.func (.func fn) #[] caps] w fun e w' => e = .returned (.tuple #[.int .i64 er,.int .i64 ln]) ∧ Below w.heap.size w w':=by
 have hmf : ∀ (fn : Go.Fn) (first cap : Array Value) (w : World),(Instr.makeFunc fn first cap).run Tryz.prog w = .ok (.func fn first cap) w:=fun _ _ _ _ => rfl
 go_enter_defers Tryz.func42,Tryz.ntmps42
 go_wp2_with (first | (refine hcall.mono ?_; rintro e w1 ⟨rfl,hb⟩; obtain ⟨hc,hf⟩:=zhk hb))
 have z0 : w1.cell? ⟨w.heap.size,0,none⟩ = some (.int .i64 0):=by rw [hc _ _ (by simp; omega)]; simp
 have z1 : w1.cell? ⟨w.heap.size + 1,0,none⟩ = some (.int .i64 0):=by rw [hc _ _ (by simp)]; simp
 have f0 : w1.frozen? ⟨w.heap.size,0,none⟩ = false:=by rw [hf _ _ (by simp; omega)]; simp
 have f1 : w1.frozen? ⟨w.heap.size + 1,0,none⟩ = false:=by rw [hf _ _ (by simp)]; simp
 refine leaves_cons (f:=64) (args:=#[.pointer (some ⟨w.heap.size,0,none⟩),.pointer (some ⟨w.heap.size + 1,0,none⟩)]) (by simp) (by simp [go_sem]) ?_
 refine (zhj w.heap.size 0 0 er ln _ z0 z1 f0 f1).mono ?_
 rintro e u' w'' ⟨rfl,rfl,hb2,y0,y1⟩
 exact ⟨.tuple #[.int .i64 er,.int .i64 ln],by simp [results,Tryz.results42,go_sem,y0,y1],rfl,(zqA _ _ _ hb).trans hb2⟩
end Go.Proofs.YtfpgjkbjbbgciaaGreatDoor
