import Derived.Test.YtfpgjkbjbbgciaaGreatDoorMi25
import Derived.Test.YtfpgjkbjbbgciaaGreatDoorMi27
set_option maxRecDepth 100000
set_option maxHeartbeats 8000000
namespace Go.Proofs.YtfpgjkbjbbgciaaGreatDoor
open Go.RowKit Sp
def lenF(F:List FnM):Nat:=(F.map (fun f=>(zal f.its).length)).sum
def begF(F:List FnM):List Int:=(List.range F.length).map (fun k=>(lenF (F.take k):Int))
theorem zl5(F:List FnM)(k:Nat)(h:k<F.length):lenF (F.take (k+1))=lenF (F.take k)+(zal F[k].its).length:=by
 unfold lenF
 rw [List.take_succ_eq_append_getElem h,List.map_append,List.sum_append]
 simp
theorem zsM(F:List FnM)(k:Nat)(h:k<F.length):(begF F).take (k+1)=(begF F).take k++[(lenF (F.take k):Int)]:=by
 have hl:k<(begF F).length:=by simp [begF,h]
 rw [List.take_succ_eq_append_getElem hl]
 simp [begF]
theorem zoR(F:List FnM):(begF F).length=F.length:=by simp [begF]
theorem Tryz.info128:(Tryz.prog.info? 128).map (·.size)=some 3:=by kernel_rfl
theorem Tryz.built96(ao:Option Addr)(n c pm:Nat):Tryz.prog.built 128 [(0,.agg #[.slice ao n c,.map (some pm)])]=some #[.slice ao n c,.map (some pm),.slice none 0 0]:=by kernel_rfl
structure PlAt(w wr:World)(v:Value)(pm:Nat)(F:List FnM)(k:Nat)(bs:Value):Prop where
 c0:wr.cell? ⟨w.heap.size+1+1,0,none⟩=some v
 c1:wr.cell? ⟨w.heap.size+1+1,1,none⟩=some (.map (some pm))
 c2:wr.cell? ⟨w.heap.size+1+1,2,none⟩=some bs
 fz:∀ o,wr.frozen? ⟨w.heap.size+1+1,o,none⟩=false
 there_:wr.there (w.heap.size+1) 0 3
 row:wr.ownsRow (w.heap.size+1+1+1) 3 1 bs k (i64s ((begF F).take k))
 low:Below w.heap.size w wr
 size:w.heap.size+1+1+1≤wr.heap.size
theorem zvM(w:World)(v:Value)(pm:Nat)(F:List FnM):PlAt w (((w.alloc (.cells #[v,.map (some pm)] 83)).alloc (.cells #[.slice none 0 0,.map none,.slice none 0 0] 128)).alloc (.cells #[v,.map (some pm),.slice none 0 0] 128)) v pm F 0 (.slice none 0 0):=by
 have hs1:(w.alloc (.cells #[v,.map (some pm)] 83)).heap.size=w.heap.size+1:=by simp
 have hb1:Below w.heap.size w (w.alloc (.cells #[v,.map (some pm)] 83)):=(Below.refl _ _).alloc (Nat.le_refl _) _
 generalize w.alloc (.cells #[v,.map (some pm)] 83)=W1 at hs1 hb1
 have hs2:(W1.alloc (.cells #[.slice none 0 0,.map none,.slice none 0 0] 128)).heap.size=w.heap.size+1+1:=by rw [←hs1];simp
 have ht:(W1.alloc (.cells #[.slice none 0 0,.map none,.slice none 0 0] 128)).there (w.heap.size+1) 0 3:=fun j hj=>by
  rw [Nat.zero_add,←hs1,World.cell?_alloc_new,Array.getElem?_eq_getElem (by simpa using hj)]
  exact⟨rfl,by simp⟩
 have hb2:Below w.heap.size w (W1.alloc (.cells #[.slice none 0 0,.map none,.slice none 0 0] 128)):=hb1.alloc (by omega) _
 generalize W1.alloc (.cells #[.slice none 0 0,.map none,.slice none 0 0] 128)=W2 at hs2 ht hb2
 rw [←hs1] at ht
 refine⟨?_,?_,?_,fun o=>?_,?_,World.ownsRow_nil _ _ _ _,hb2.alloc (by omega) _,?_⟩
 ·rw [←hs2,World.cell?_alloc_new];rfl
 ·rw [←hs2,World.cell?_alloc_new];rfl
 ·rw [←hs2,World.cell?_alloc_new];rfl
 ·rw [←hs2];simp
 ·rw [←hs1];exact World.there_alloc ht _
 ·rw [←hs2];simp
theorem zir{w:World}{b n:Nat}(h:w.there b 0 n)(j:Nat)(hj:j<n):(∃ u,w.cell? ⟨b,j,none⟩=some u)∧w.frozen? ⟨b,j,none⟩=false:=by
 have:=h j hj
 rw [Nat.zero_add] at this
 exact⟨Option.isSome_iff_exists.1 this.1,this.2⟩
theorem zsN{w:World}{B n:Nat}{v:Value}{xs:List Value}{e:TypeId}{size:Nat}(h:w.ownsRow B e size v n xs):∃ ao cap,v=.slice ao n cap:=zbb h
def zzz(w:World)(v:Value)(pm:Nat)(F:List FnM):Ending→World→Prop:=fun e w'=>∃ bs,e=.returned (.agg #[v,.map (some pm),bs])∧w'.ownsRow w.heap.size 3 1 bs F.length (i64s (begF F))∧Below w.heap.size w w'
theorem zq1(w:World)(B pm:Nat)(v:Value)(F:List FnM)(h:PIn B w pm v F)(hF:0<F.length)(hn:F.length≤300)(hb:∀ f∈F,f.its.length≤300)(ht:lenF F≤300):
  Calls Tryz.prog 80 #[.agg #[v,.map (some pm)]] w (zzz w v pm F):=by
 obtain⟨fg,cap,rfl,hfg,hcap,hcells⟩:=h.fns hF
 have hb96:=Tryz.built96 (some ⟨fg,0,none⟩) F.length cap pm
 have hrb:∀ W,(Instr.build 128 #[(0,.agg #[.slice (some ⟨fg,0,none⟩) F.length cap,.map (some pm)])]).run Tryz.prog W=.ok (.agg #[.slice (some ⟨fg,0,none⟩) F.length cap,.map (some pm),.slice none 0 0]) W:=fun W=>run_build W 128 _ _ hb96
 go_enter Tryz.func80,Tryz.ntmps80
 go_wp2
 generalize hv:Value.slice (some ⟨fg,0,none⟩) F.length cap=v at h hb96 hrb
 have P0:PlAt w (((w.alloc (.cells #[v,.map (some pm)] 83)).alloc (.cells #[.slice none 0 0,.map none,.slice none 0 0] 128)).alloc (.cells #[v,.map (some pm),.slice none 0 0] 128)) v pm F 0 (.slice none 0 0):=zvM w v pm F
 subst hv
 generalize ((w.alloc (.cells #[.slice (some ⟨fg,0,none⟩) F.length cap,.map (some pm)] 83)).alloc (.cells #[.slice none 0 0,.map none,.slice none 0 0] 128)).alloc (.cells #[.slice (some ⟨fg,0,none⟩) F.length cap,.map (some pm),.slice none 0 0] 128)=W0 at P0
 obtain⟨i0,hi0,hz0,hz1,hz2⟩:=info_parts Tryz.info3
 go_loopw [12,4] (fun ti tb wr=>∃(k:Nat) (bs:Value),k≤F.length∧ti=.int .i64 (k:Int)∧tb=.int .i64 (lenF (F.take k):Int)∧PlAt w wr (.slice (some ⟨fg,0,none⟩) F.length cap) pm F k bs) (fun ti _ _=>F.length-(intOf ti).toNat)
 case atStart=>exact⟨0,_,by omega,rfl,rfl,P0⟩
 case round =>
  obtain⟨k,bs,hk,rfl,rfl,Z⟩:=hrel
  have hbw:=Z.low
  have hszr:=Z.size
  by_cases hlt:k<F.length
  ·obtain⟨c0,c1,c2,c3⟩:=hcells k hlt
   have hmem:=List.getElem_mem hlt
   have hbo:=(h.bodies F[k] hmem)
   have HL:Hid (lenF (F.take (k+1))=lenF (F.take k)+(zal F[k].its).length):=zl5 F k hlt
   have HB:Hid ((begF F).take (k+1)=(begF F).take k++[(lenF (F.take k):Int)]):=zsM F k hlt
   have hq1:lenF (F.take k)≤300:=by
    refine Nat.le_trans ?_ ht
    unfold lenF
    conv=>rhs;rw [←List.take_append_drop k F,List.map_append,List.sum_append]
    omega
   have hbl:=Nat.le_trans (zdJ F[k].its) (hb F[k] hmem)
   have hlk:(i64s ((begF F).take k)).length=k:=by simp [zoR];omega
   have hrow:=Z.row
   generalize hT:lenF (F.take k)=T at HL HB hq1
   generalize F[k]=f at c0 c1 c2 c3 hmem hbo hbl HL
   have z:∀ j,wr.cell? ⟨fg,j,none⟩=w.cell? ⟨fg,j,none⟩:=fun j=>hbw.cell (p:=⟨fg,j,none⟩) hfg
   rw [←z] at c0 c1 c2 c3
   clear z
   have hk4:k*4≤1200:=by omega
   obtain⟨name,line,its,bv,m⟩:=f
   simp only at c0 c1 c2 c3 hbo hbl HL
   obtain⟨ao,capb,rfl⟩:=zbb hbo
   have p2:=Z.c2
   have hlt2:w.heap.size+1+1<wr.heap.size:=by omega
   have hno:=fun q (hq:bs.ownBlock=some q)=>(hrow.lt q hq)
   clear hbo
   go_wp2_with(first
    | (at_builtin;refine wpList_append_own _ rfl _ _ 59 rfl (w.heap.size+1+1+1) 3 i0 (.int .i64 0) 1 8 Tryz.under59 hi0 hz0 hz1 hz2 rfl (by decide) _ _ _ rfl ((hrow.alloc _).alloc _) ⟨wr.heap.size+1,0,none⟩ 1 1 [.int .i64 (T:Int)] rfl rfl ?_ (by simp [Value.oneCell']) (by unfold maxLen;omega) (by omega) (by simp;omega) ?_))
   ·have:=zlm (wr.alloc (.cells #[.string name,.int .i64 line,.slice ao (zal its).length capb,.map (some m)] 131)) (.int .i64 (T:Int))
    rwa [show(wr.alloc (.cells #[.string name,.int .i64 line,.slice ao (zal its).length capb,.map (some m)] 131)).heap.size=wr.heap.size+1 by simp] at this
   intro v' w4 hown4 hgrow _
   have hbw1:Below wr.heap.size wr (wr.alloc (.cells #[.string name,.int .i64 line,.slice ao (zal its).length capb,.map (some m)] 131)):=(Below.refl _ _).alloc (Nat.le_refl _) _
   have hs1:(wr.alloc (.cells #[.string name,.int .i64 line,.slice ao (zal its).length capb,.map (some m)] 131)).heap.size=wr.heap.size+1:=by simp
   have hf2:(wr.alloc (.cells #[.string name,.int .i64 line,.slice ao (zal its).length capb,.map (some m)] 131)).cell? ⟨wr.heap.size,2,none⟩=some (.slice ao (zal its).length capb):=by simp
   generalize wr.alloc (.cells #[.string name,.int .i64 line,.slice ao (zal its).length capb,.map (some m)] 131)=w2 at hgrow hbw1 hs1 hf2
   have hbw2:Below wr.heap.size wr (w2.alloc (.cells #[.int .i64 (T:Int)] 3)):=hbw1.alloc (by omega) _
   have hs2:(w2.alloc (.cells #[.int .i64 (T:Int)] 3)).heap.size=wr.heap.size+1+1:=by rw [←hs1];simp
   have hf2':(w2.alloc (.cells #[.int .i64 (T:Int)] 3)).cell? ⟨wr.heap.size,2,none⟩=some (.slice ao (zal its).length capb):=(World.cell?_alloc_lt w2 _ _ (by show wr.heap.size<_;omega)).trans hf2
   generalize w2.alloc (.cells #[.int .i64 (T:Int)] 3)=w3 at hgrow hbw2 hs2 hf2'
   have hne2:some (w.heap.size+1+1)≠bs.ownBlock:=fun e=>by have:=(hno _ e.symm).1;omega
   have hne1:some (w.heap.size+1)≠bs.ownBlock:=fun e=>by have:=(hno _ e.symm).1;omega
   have hne3:some wr.heap.size≠bs.ownBlock:=fun e=>by have:=(hno _ e.symm).2;omega
   have hblk2:w4.heap[w.heap.size+1+1]?=wr.heap[w.heap.size+1+1]?:=(hgrow.block _ (by omega) hne2).trans (hbw2.block _ (by omega))
   have hblk1:w4.heap[w.heap.size+1]?=wr.heap[w.heap.size+1]?:=(hgrow.block _ (by omega) hne1).trans (hbw2.block _ (by omega))
   have d0:=(World.cell?_of_block (w:=wr) (a:=⟨w.heap.size+1+1,0,none⟩) hblk2).trans Z.c0
   have d1:=(World.cell?_of_block (w:=wr) (a:=⟨w.heap.size+1+1,1,none⟩) hblk2).trans Z.c1
   have d2:=(World.cell?_of_block (w:=wr) (a:=⟨w.heap.size+1+1,2,none⟩) hblk2).trans Z.c2
   have dz:∀ o,w4.frozen? ⟨w.heap.size+1+1,o,none⟩=false:=fun o=>(World.frozen?_of_block (w:=wr) (a:=⟨w.heap.size+1+1,o,none⟩) hblk2).trans (Z.fz o)
   have hf4:w4.cell? ⟨wr.heap.size,2,none⟩=some (.slice ao (zal its).length capb):=(hgrow.cell_far ⟨wr.heap.size,2,none⟩ (by show wr.heap.size<_;omega) hne3).trans hf2'
   have hlow4:Below w.heap.size w w4:=(hbw.trans (hbw2.mono (by omega))).grown hgrow (by omega) (fun q hq=>by have:=(hno q hq).1;omega)
   have hsz4:wr.heap.size+1+1≤w4.heap.size:=by have:=hgrow.size;omega
   have dz2:=dz 2
   have hne6:¬wr.heap.size=w.heap.size+1+1:=by omega
   have hne7:¬w.heap.size+1+1=wr.heap.size:=by omega
   have hthere4:w4.there (w.heap.size+1) 0 3:=fun j hj=>by
    obtain⟨q1,q2⟩:=Z.there_ j hj
    exact⟨by rw [World.cell?_of_block (w:=wr) hblk1];exact q1,by rw [World.frozen?_of_block (w:=wr) hblk1];exact q2⟩
   obtain⟨gb,cb,rfl,hgb,hgl⟩:=hown4.form (by omega)
   clear c0 c1 c2 c3 p2 hf2 hf2'
   go_wp2
   have hZ2:PlAt w (w4.setCell ⟨w.heap.size+1+1,2,none⟩ (.slice (some ⟨gb,0,none⟩) (k+1) cb)) (.slice (some ⟨fg,0,none⟩) F.length cap) pm F (k+1) (.slice (some ⟨gb,0,none⟩) (k+1) cb):=by
    have e:=fun j=>zaq w4 (w.heap.size+1+1) 2 j (.slice (some ⟨gb,0,none⟩) (k+1) cb) _ d2
    refine⟨by rw [e,if_neg (by omega)];exact d0,by rw [e,if_neg (by omega)];exact d1,by rw [e,if_pos rfl],fun o=>zcE w4 _ _ o _ (dz o),zih hthere4 _ _,?_,hlow4.setCell (p:=⟨w.heap.size+1+1,2,none⟩) (by show w.heap.size≤w.heap.size+1+1;omega) _,by simp [World.setCell];omega⟩
    rw [HB.out]
    have hk2:=zaj (w':=w4.setCell ⟨w.heap.size+1+1,2,none⟩ (.slice (some ⟨gb,0,none⟩) (k+1) cb)) hown4 (fun q hq=>Below.heap_setCell _ _ _ _ (fun e=>by have:=(hown4.lt q hq).1;simp only at e;omega))
    simpa [i64s] using hk2
   go_roundw
   case rel=>exact⟨k+1,_,by omega,by go_num,by rw [HL.out];go_num,hZ2⟩
   case measure=>simp [intOf];omega
  ·obtain rfl:k=F.length:=by omega
   have p0:=Z.c0
   have p1:=Z.c1
   have p2:=Z.c2
   have hrow:=Z.row
   rw [List.take_of_length_le (by rw [zoR];omega)] at hrow
   obtain⟨ab,cb,rfl⟩:=zsN hrow
   obtain⟨⟨u0,r0⟩,z0⟩:=zir Z.there_ 0 (by omega)
   obtain⟨⟨u1,r1⟩,z1⟩:=zir Z.there_ 1 (by omega)
   obtain⟨⟨u2,r2⟩,z2⟩:=zir Z.there_ 2 (by omega)
   have hT:lenF (F.take F.length)=lenF F:=by rw [List.take_length]
   go_wp2
   have hu96:Tryz.prog.underlying 128=some (.struct _):=Tryz.underlying128
   have hr:=World.rangeAt_setCells_same wr (w.heap.size+1) 0 [.slice (some ⟨fg,0,none⟩) F.length cap,.map (some pm),.slice ab F.length cb] Z.there_
   have hres:=run_loadVar_mid (wr.setCells (w.heap.size+1) 0 [.slice (some ⟨fg,0,none⟩) F.length cap,.map (some pm),.slice ab F.length cb]) (w.heap.size+1) 0 128 _ _ hr hu96 rfl Tryz.info128
   have hbl5:Below w.heap.size w (wr.setCells (w.heap.size+1) 0 [.slice (some ⟨fg,0,none⟩) F.length cap,.map (some pm),.slice ab F.length cb]):=zaF _ 0 hbw (by omega)
   refine bodyPost_ret (v:=.agg #[.slice (some ⟨fg,0,none⟩) F.length cap,.map (some pm),.slice ab F.length cb]) (zdf Tryz.results80 _ ⟨w.heap.size+1,0,none⟩ rfl hres) rfl ⟨_,rfl,?_,hbl5⟩
   have ho2:=zaj (w':=wr.setCells (w.heap.size+1) 0 [.slice (some ⟨fg,0,none⟩) F.length cap,.map (some pm),.slice ab F.length cb]) hrow (fun q hq=>zbG _ wr _ _ _ (by have:=(hrow.lt q hq).1;omega))
   exact zbV ho2 (by omega)
end Go.Proofs.YtfpgjkbjbbgciaaGreatDoor
