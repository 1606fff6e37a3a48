import Derived.Test.YtfpgjkbjbbgciaaGreatDoorMd22
set_option maxRecDepth 100000
set_option maxHeartbeats 8000000
namespace Go.Proofs.YtfpgjkbjbbgciaaGreatDoor
open Go.RowKit Sp
def zgy(w:World)(mm:Mc):Ending→World→Prop:=fun e w'=>∃ ao no co,e=.returned (.agg (zav mm (.slice ao no co) mm.line).toArray)∧w'.ownsRow w.heap.size 2 1 (.slice ao no co) mm.out.length (i64s mm.out)∧Below w.heap.size w w'
theorem zlt(L:List Said)(w:World)(b g cap2:Nat)(m:Mc)(bv iv ov:Value)(R:RefAt w b g cap2 L m bv iv ov)(hn:L.length≤300)(A:AtOk L m):
  ∃ ao no co,ov=.slice ao no co∧Calls Tryz.prog 56 #[.pointer (some ⟨b,0,none⟩)] w fun e w'=>e=.returned (.agg (zav m (.slice ao no co) m.line).toArray)∧Below w.heap.size w w':=by
 obtain⟨ao,co,rfl⟩:=zb8 R.out
 refine⟨ao,_,co,rfl,?_⟩
 have hr:=R.mem.range
 have hl:=zaS m (.slice ao m.out.length co) 0
 have h28:=zhS m (.slice ao m.out.length co) 0
 have h29:=zsz m (.slice ao m.out.length co) 0
 have ho:=zbg m ao m.out.length co 0
 have cA:=R.mem.cAt
 rcases A with ⟨h|h,ha⟩|⟨hf,k,hk,hlt,_⟩
 ·rw [show m.line=0 by unfold Mc.line;rw [if_pos (.inl h)]]
  rw [ha] at cA
  exact zpV w b _ _ m.fin hl ho hr h28 h29 cA h (zeW _ _ _ _) (zbg _ _ _ _ _)
 ·rw [show m.line=0 by unfold Mc.line;rw [if_pos (.inr h)]]
  rw [ha] at cA
  exact zpW w b _ _ m.fin hl ho hr h28 h29 cA h (zeW _ _ _ _) (zbg _ _ _ _ _)
 ·rw [show m.line=(k:Int)+1 by unfold Mc.line;rw [if_neg (by omega),hk]]
  rw [hk] at cA
  exact zs1 w b k _ _ m.fin hl ho hr h28 h29 cA (by omega) (by rcases hf with h|h|h <;> rw [h] <;> rfl) (by rcases hf with h|h|h <;> rw [h] <;> rfl) (zeW _ _ _ _) (zbg _ _ _ _ _)
def stepsAt(w:World)(b:Nat):Nat:=match w.cell? ⟨b,4,none⟩ with|some (.int _ s)=>s.toNat|_=>0
theorem RefM.stepsAt{w:World}{b:Nat}{lv bv iv ov:Value}{m:Mc}(h:RefM w b lv bv iv ov m):Go.Proofs.YtfpgjkbjbbgciaaGreatDoor.stepsAt w b=m.steps.toNat:=by unfold Go.Proofs.YtfpgjkbjbbgciaaGreatDoor.stepsAt;rw [h.cS]
structure RunAt(L:List Said)(n g cap2 b:Nat)(w0 wr:World)(FIN m:Mc)(bv iv ov:Value):Prop where
 ref:RefAt wr b g cap2 L m bv iv ov
 inv:m.fin=0→InvR L m
 fin:m.fin=0∨m.fin=1∨m.fin=2
 ok:AtOk L m
 st0:0≤m.steps
 st1:m.steps≤(n:Int)
 inp:m.inp.length≤1048576
 run:FIN=runS (zbP L) (n-m.steps.toNat) m
 low:Below w0.heap.size w0 wr
theorem RunAt.round{L:List Said}{n g cap2 b:Nat}{w0 wr:World}{FIN m:Mc}{bv iv ov:Value}(Z:RunAt L n g cap2 b w0 wr FIN m bv iv ov)(G:Good L)(hL:LinesIn w0 g L)(hb:w0.heap.size≤b)(hn:n≤100000)(hlt:m.steps<(n:Int)):
  (Calls Tryz.prog 55 #[.pointer (some ⟨b,0,none⟩)] wr fun e w'=>e=.returned (.bool true)∧∃ m2 bv' iv' ov',RunAt L n g cap2 b w0 w' FIN m2 bv' iv' ov'∧m2.steps=m.steps+1) ∨
  (Calls Tryz.prog 55 #[.pointer (some ⟨b,0,none⟩)] wr fun e w'=>e=.returned (.bool false)∧∃ bv' iv' ov',RefAt w' b g cap2 L FIN bv' iv' ov'∧AtOk L FIN∧Below w0.heap.size w0 w'):=by
 by_cases h0:m.fin=0
 ·have hI:=Z.inv h0
  obtain⟨hc,hinv⟩:=zst G Z.ref hI h0 hL Z.low hb (by omega) Z.inp
  obtain⟨hA,hS,hin⟩:=zxh hI h0 hinv
  have hrun:FIN=runS (zbP L) (n-m.steps.toNat-1) (zbP L m):=by
   rw [Z.run,show n-m.steps.toNat=(n-m.steps.toNat-1)+1 by have:=Z.st0;omega,zcH _ _ _ h0]
   rfl
  rcases hS with ⟨hf,hs⟩|⟨hf,hs⟩
  ·right
   refine hc.mono ?_
   rintro e w' ⟨h1,bv',iv',ov',hR,hB⟩
   have hF:FIN=zbP L m:=by rw [hrun,zcG _ _ _ (by omega)]
   refine⟨by rw [h1,show decide (¬((zbP L m).fin=3∨(zbP L m).fin=4))=false by simp;omega],bv',iv',ov',by rw [hF];exact hR,by rw [hF];exact hA,Z.low.trans (hB.mono hb)⟩
  ·left
   refine hc.mono ?_
   rintro e w' ⟨h1,bv',iv',ov',hR,hB⟩
   refine⟨by rw [h1,show decide (¬((zbP L m).fin=3∨(zbP L m).fin=4))=true by simp;omega],zbP L m,bv',iv',ov',⟨hR,hinv,hf,hA,by have:=Z.st0;omega,by omega,by have:=Z.inp;omega,?_,Z.low.trans (hB.mono hb)⟩,hs⟩
   rw [hrun,hs]
   congr 1
   have:=Z.st0
   omega
 ·right
  refine(zpY wr b _ bv iv ov m Z.ref.mem (by simpa using h0)).mono ?_
  rintro e w' ⟨h1,rfl⟩
  have hF:FIN=m:=by rw [Z.run,zcG _ _ _ h0]
  exact⟨h1,bv,iv,ov,by rw [hF];exact Z.ref,by rw [hF];exact Z.ok,Z.low⟩
theorem zaA{w w':World}{B b o n:Nat}(h:w.there b o n)(hb:Below B w w')(hB:b<B):w'.there b o n:=fun j hj=>by
 obtain⟨h1,h2⟩:=h j hj
 exact⟨by rw [hb.cell (p:=⟨b,o+j,none⟩) hB];exact h1,by rw [World.frozen?_of_block (w:=w) (hb.block b hB)];exact h2⟩
theorem zfv{W1 w3 w4:World}{r:Nat}(ht1:W1.there r 0 30)(hs1:W1.heap.size=r+1)(hb3:Below W1.heap.size W1 w3)(hb4:Below w3.heap.size w3 w4)(ds:List Value)(hl:ds.length=30):w4.there r 0 ds.toArray.size:=by
 rw [show ds.toArray.size=30 by simp [hl]]
 have h3:=zaA ht1 hb3 (by omega)
 exact zaA h3 hb4 (by have:=hb3.size;omega)
theorem zbU(ds:List Value)(hl:ds.length=30):(Tryz.prog.info? 34).map (·.size)=some ds.toArray.size:=by rw [show ds.toArray.size=30 by simp [hl]];exact Tryz.info34
theorem zjl{w W1 w3 w4:World}{g cap2:Nat}{L:List Said}{FIN:Mc}{bv iv:Value}{ao:Option Addr}{no co:Nat}{act:Act}(ht1:W1.there w.heap.size 0 30)(hs1:W1.heap.size=w.heap.size+1)(hb1:Below w.heap.size w W1)(hb3:Below W1.heap.size W1 w3)(R3:RefAt w3 (w.heap.size+1) g cap2 L FIN bv iv (.slice ao no co))(hb4:Below w3.heap.size w3 w4)
  (hp:act.tmps.getD 6 undef=.pointer (some ⟨w.heap.size,0,none⟩)) (hd:act.defers=[]) :
  bodyPost Tryz.prog Tryz.f24 (zgy w FIN) .ret act (w4.setCells w.heap.size 0 (zav FIN (.slice ao no co) FIN.line)):=by
 have hl:=zaS FIN (.slice ao no co) FIN.line
 have ht4:=zfv ht1 hs1 hb3 hb4 _ hl
 generalize hds:zav FIN (.slice ao no co) FIN.line=ds at hl ht4
 have hu34:Tryz.prog.underlying 34=some (.struct _):=Tryz.underlying34
 have hr:=World.rangeAt_setCells_same w4 w.heap.size 0 ds (by rw [show ds.length=ds.toArray.size by simp];exact ht4)
 have hres:=run_loadVar_mid (w4.setCells w.heap.size 0 ds) w.heap.size 0 34 ds _ hr hu34 rfl (by rw [hl];exact Tryz.info34)
 have hb14:Below w.heap.size w w4:=(hb1.trans (hb3.mono (by omega))).trans (hb4.mono (by have:=hb3.size;omega))
 refine bodyPost_ret (v:=.agg ds.toArray) (zbz Tryz.results24 _ ⟨w.heap.size,0,none⟩ hp hres) hd ⟨ao,no,co,by rw [hds],?_,zar ds 0 hb14 (Nat.le_refl _)⟩
 have ho:=zbk R3.out hb4 (Nat.le_refl _)
 have ho2:(w4.setCells w.heap.size 0 ds).ownsRow (w.heap.size+1+1) 2 1 (.slice ao no co) FIN.out.length (i64s FIN.out):=zas ho (fun q hq=>zb4 ds w4 _ _ _ (by have:=(ho.lt q hq).1;omega))
 exact zb7 ho2 (by omega)
theorem zpZ(w:World)(g cap2 n icap:Nat)(ao:Option Addr)(L:List Said)(inp:List Int)(G:Good L)(hL:LinesIn w g L)(hiv:SlB w w.heap.size (.slice ao inp.length icap) inp)(hin:inp.length≤1048576)(hn:n≤100000):
  Calls Tryz.prog 24 #[.slice (some ⟨g,0,none⟩) L.length cap2,.slice ao inp.length icap,.int .i64 (n:Int)] w (zgy w (runS (zbP L) n (ze4 L inp))):=by
 obtain⟨p,hp,h2,hz⟩:=G.head
 have e1:zc3 L 0=p:=zgx L 0 p hp h2 (by omega) (fun j h _ hb=>hz j h hb)
 have hb1:Below w.heap.size w (w.alloc Z34):=(Below.refl _ _).alloc (Nat.le_refl _) _
 have hs1:(w.alloc Z34).heap.size=w.heap.size+1:=by simp
 have ht1:=zdi w
 have hbeg:=zs2 (w.alloc Z34) g cap2 p icap ao L inp (hL.below hb1) G.few hp h2 hz (zad L (p+1)) rfl (by
  obtain⟨ao',cap',q1,q2,q3⟩:=hiv
  refine⟨ao',cap',q1,q2,fun hp=>?_⟩
  obtain⟨ig,io,r1,r2,r3,r4⟩:=q3 hp
  exact⟨ig,io,r1,by omega,by omega,fun j hj=>(hb1.cell (p:=⟨ig,io+j,none⟩) r3).trans (r4 j hj)⟩)
 have hI:=zs3 G inp
 have em:ze4 L inp=⟨zad L (p+1),[],inp,0,fun _=>0,fun _=>0,[],1,1,0⟩:=by unfold ze4;rw [e1]
 rw [em] at hI ⊢
 generalize hm0:(⟨zad L (p+1),[],inp,0,fun _=>0,fun _=>0,[],1,1,0⟩:Mc)=m0 at hbeg hI ⊢
 have f0:m0.fin=0∧m0.steps=0∧m0.inp=inp:=by rw [←hm0];exact⟨rfl,rfl,rfl⟩
 obtain⟨f1,f2,f3⟩:=f0
 generalize hF:runS (zbP L) n m0=FIN
 have HF:Hid (FIN=runS (zbP L) n m0):=hF.symm
 clear hF hm0 em e1
 have hu34:Tryz.prog.underlying 34=some (.struct _):=Tryz.underlying34
 rw [hs1] at hbeg
 clear hiv
 go_enter Tryz.func24,Tryz.ntmps24
 go_wp2_with(first|(go_at_call 54;refine hbeg.mono ?_;rintro e W2 ⟨rfl,hR,hb2⟩))
 have hL1:=hL.below hb1
 clear hbeg hL
 generalize w.alloc Z34=W1 at hb1 hs1 ht1 hb2 hL1
 go_loopw [8] (fun _ wr=>∃(m:Mc) (bv iv ov:Value),RunAt L n g cap2 (w.heap.size+1) W1 wr FIN m bv iv ov) (fun _ wr=>n-stepsAt wr (w.heap.size+1))
 case atStart=>exact⟨m0,_,_,_,⟨hR,fun _=>hI,.inl f1,.inr ⟨.inl f1,hI.at_⟩,by omega,by omega,by rw [f3];exact hin,by rw [f2];exact HF.out,by rw [hs1];exact hb2⟩⟩
 case round =>
  obtain⟨m,bv,iv,ov,Z⟩:=hrel
  have cS:=Z.ref.mem.cS
  clear hR hb2 HF hI f1 f2 f3
  by_cases hlt:m.steps<(n:Int)
  ·rcases Z.round G hL1 (by omega) hn hlt with hc|hc
   ·go_wp2_with(first|(go_at_call 55;refine hc.mono ?_;rintro e w3 ⟨rfl,m2,bv',iv',ov',Z2,hs⟩))
    have q1:=Z2.ref.mem.stepsAt
    have q2:=Z.ref.mem.stepsAt
    have q3:=Z.st0
    go_roundw
    case rel=>exact⟨m2,bv',iv',ov',Z2⟩
    case measure=>rw [q1,q2];omega
   ·go_wp2_with(first|(go_at_call 55;refine hc.mono ?_;rintro e w3 ⟨rfl,bv',iv',ov',R3,A3,hb3⟩;obtain⟨ao',no',co',rfl,hst⟩:=zlt L w3 (w.heap.size+1) g cap2 FIN bv' iv' ov' R3 G.few A3)|(go_at_call 56;refine hst.mono ?_;rintro e w4 ⟨rfl,hb4⟩;have ht4:=zfv ht1 hs1 hb3 hb4 _ (zaS FIN (.slice ao' no' co') FIN.line))|(refine wpList_store_mid rfl 34 _ _ rfl w.heap.size 0 (zav FIN (.slice ao' no' co') FIN.line).toArray rfl rfl ht4 (zbU _ (zaS _ _ _)) (zbg _ _ _ _ _) ?_))
    exact zjl ht1 hs1 hb1 hb3 R3 hb4 rfl rfl
  ·have hF:FIN=m:=by
    rw [Z.run,show n-m.steps.toNat=0 by have:=Z.st1;omega];rfl
   subst hF
   have R3:=Z.ref
   have A3:=Z.ok
   have hb3:=Z.low
   obtain⟨ao',no',co',rfl,hst⟩:=zlt L wr (w.heap.size+1) g cap2 FIN bv iv ov R3 G.few A3
   go_wp2_with(first|(go_at_call 56;refine hst.mono ?_;rintro e w4 ⟨rfl,hb4⟩;have ht4:=zfv ht1 hs1 hb3 hb4 _ (zaS FIN (.slice ao' no' co') FIN.line))|(refine wpList_store_mid rfl 34 _ _ rfl w.heap.size 0 (zav FIN (.slice ao' no' co') FIN.line).toArray rfl rfl ht4 (zbU _ (zaS _ _ _)) (zbg _ _ _ _ _) ?_))
   exact zjl ht1 hs1 hb1 hb3 R3 hb4 rfl rfl
def lenF(F:List FnM):Nat:=(F.map (fun f=>(zal f.its).length)).sum
def begF(F:List FnM):List Int:=(List.range F.length).map (fun k=>(lenF (F.take k):Int))
theorem zlx(F:List FnM)(k:Nat)(h:k<F.length):lenF (F.take (k+1))=lenF (F.take k)+(zal F[k].its).length:=by
 unfold lenF
 rw [List.take_succ_eq_append_getElem h,List.map_append,List.sum_append]
 simp
theorem zsC(F:List FnM)(k:Nat)(h:k<F.length):(begF F).take (k+1)=(begF F).take k++[(lenF (F.take k):Int)]:=by
 have hl:k<(begF F).length:=by simp [begF,h]
 rw [List.take_succ_eq_append_getElem hl]
 simp [begF]
theorem zos(F:List FnM):(begF F).length=F.length:=by simp [begF]
theorem Tryz.info128:(Tryz.prog.info? 128).map (·.size)=some 3:=by kernel_rfl
theorem Tryz.built96(ao:Option Addr)(n c pm:Nat):Tryz.prog.built 128 [(0,.agg #[.slice ao n c,.map (some pm)])]=some #[.slice ao n c,.map (some pm),.slice none 0 0]:=by kernel_rfl
structure PlAt(w wr:World)(v:Value)(pm:Nat)(F:List FnM)(k:Nat)(bs:Value):Prop where
 c0:wr.cell? ⟨w.heap.size+1+1,0,none⟩=some v
 c1:wr.cell? ⟨w.heap.size+1+1,1,none⟩=some (.map (some pm))
 c2:wr.cell? ⟨w.heap.size+1+1,2,none⟩=some bs
 fz:∀ o,wr.frozen? ⟨w.heap.size+1+1,o,none⟩=false
 there_:wr.there (w.heap.size+1) 0 3
 row:wr.ownsRow (w.heap.size+1+1+1) 3 1 bs k (i64s ((begF F).take k))
 low:Below w.heap.size w wr
 size:w.heap.size+1+1+1≤wr.heap.size
theorem zvk(w:World)(v:Value)(pm:Nat)(F:List FnM):PlAt w (((w.alloc (.cells #[v,.map (some pm)] 83)).alloc (.cells #[.slice none 0 0,.map none,.slice none 0 0] 128)).alloc (.cells #[v,.map (some pm),.slice none 0 0] 128)) v pm F 0 (.slice none 0 0):=by
 have hs1:(w.alloc (.cells #[v,.map (some pm)] 83)).heap.size=w.heap.size+1:=by simp
 have hb1:Below w.heap.size w (w.alloc (.cells #[v,.map (some pm)] 83)):=(Below.refl _ _).alloc (Nat.le_refl _) _
 generalize w.alloc (.cells #[v,.map (some pm)] 83)=W1 at hs1 hb1
 have hs2:(W1.alloc (.cells #[.slice none 0 0,.map none,.slice none 0 0] 128)).heap.size=w.heap.size+1+1:=by rw [←hs1];simp
 have ht:(W1.alloc (.cells #[.slice none 0 0,.map none,.slice none 0 0] 128)).there (w.heap.size+1) 0 3:=fun j hj=>by
  rw [Nat.zero_add,←hs1,World.cell?_alloc_new,Array.getElem?_eq_getElem (by simpa using hj)]
  exact⟨rfl,by simp⟩
 have hb2:Below w.heap.size w (W1.alloc (.cells #[.slice none 0 0,.map none,.slice none 0 0] 128)):=hb1.alloc (by omega) _
 generalize W1.alloc (.cells #[.slice none 0 0,.map none,.slice none 0 0] 128)=W2 at hs2 ht hb2
 rw [←hs1] at ht
 refine⟨?_,?_,?_,fun o=>?_,?_,World.ownsRow_nil _ _ _ _,hb2.alloc (by omega) _,?_⟩
 ·rw [←hs2,World.cell?_alloc_new];rfl
 ·rw [←hs2,World.cell?_alloc_new];rfl
 ·rw [←hs2,World.cell?_alloc_new];rfl
 ·rw [←hs2];simp
 ·rw [←hs1];exact World.there_alloc ht _
 ·rw [←hs2];simp
theorem zhU{w:World}{b n:Nat}(h:w.there b 0 n)(j:Nat)(hj:j<n):(∃ u,w.cell? ⟨b,j,none⟩=some u)∧w.frozen? ⟨b,j,none⟩=false:=by
 have:=h j hj
 rw [Nat.zero_add] at this
 exact⟨Option.isSome_iff_exists.1 this.1,this.2⟩
theorem zsD{w:World}{B n:Nat}{v:Value}{xs:List Value}{e:TypeId}{size:Nat}(h:w.ownsRow B e size v n xs):∃ ao cap,v=.slice ao n cap:=zb8 h
def zyp(w:World)(v:Value)(pm:Nat)(F:List FnM):Ending→World→Prop:=fun e w'=>∃ bs,e=.returned (.agg #[v,.map (some pm),bs])∧w'.ownsRow w.heap.size 3 1 bs F.length (i64s (begF F))∧Below w.heap.size w w'
theorem zqg(w:World)(B pm:Nat)(v:Value)(F:List FnM)(h:PIn B w pm v F)(hF:0<F.length)(hn:F.length≤300)(hb:∀ f∈F,f.its.length≤300)(ht:lenF F≤300):
  Calls Tryz.prog 80 #[.agg #[v,.map (some pm)]] w (zyp w v pm F):=by
 obtain⟨fg,cap,rfl,hfg,hcap,hcells⟩:=h.fns hF
 have hb96:=Tryz.built96 (some ⟨fg,0,none⟩) F.length cap pm
 have hrb:∀ W,(Instr.build 128 #[(0,.agg #[.slice (some ⟨fg,0,none⟩) F.length cap,.map (some pm)])]).run Tryz.prog W=.ok (.agg #[.slice (some ⟨fg,0,none⟩) F.length cap,.map (some pm),.slice none 0 0]) W:=fun W=>run_build W 128 _ _ hb96
 go_enter Tryz.func80,Tryz.ntmps80
 go_wp2
 generalize hv:Value.slice (some ⟨fg,0,none⟩) F.length cap=v at h hb96 hrb
 have P0:PlAt w (((w.alloc (.cells #[v,.map (some pm)] 83)).alloc (.cells #[.slice none 0 0,.map none,.slice none 0 0] 128)).alloc (.cells #[v,.map (some pm),.slice none 0 0] 128)) v pm F 0 (.slice none 0 0):=zvk w v pm F
 subst hv
 generalize ((w.alloc (.cells #[.slice (some ⟨fg,0,none⟩) F.length cap,.map (some pm)] 83)).alloc (.cells #[.slice none 0 0,.map none,.slice none 0 0] 128)).alloc (.cells #[.slice (some ⟨fg,0,none⟩) F.length cap,.map (some pm),.slice none 0 0] 128)=W0 at P0
 obtain⟨i0,hi0,hz0,hz1,hz2⟩:=info_parts Tryz.info3
 go_loopw [12,4] (fun ti tb wr=>∃(k:Nat) (bs:Value),k≤F.length∧ti=.int .i64 (k:Int)∧tb=.int .i64 (lenF (F.take k):Int)∧PlAt w wr (.slice (some ⟨fg,0,none⟩) F.length cap) pm F k bs) (fun ti _ _=>F.length-(intOf ti).toNat)
 case atStart=>exact⟨0,_,by omega,rfl,rfl,P0⟩
 case round =>
  obtain⟨k,bs,hk,rfl,rfl,Z⟩:=hrel
  have hbw:=Z.low
  have hszr:=Z.size
  by_cases hlt:k<F.length
  ·obtain⟨c0,c1,c2,c3⟩:=hcells k hlt
   have hmem:=List.getElem_mem hlt
   have hbo:=(h.bodies F[k] hmem)
   have HL:Hid (lenF (F.take (k+1))=lenF (F.take k)+(zal F[k].its).length):=zlx F k hlt
   have HB:Hid ((begF F).take (k+1)=(begF F).take k++[(lenF (F.take k):Int)]):=zsC F k hlt
   have hq1:lenF (F.take k)≤300:=by
    refine Nat.le_trans ?_ ht
    unfold lenF
    conv=>rhs;rw [←List.take_append_drop k F,List.map_append,List.sum_append]
    omega
   have hbl:=Nat.le_trans (zdM F[k].its) (hb F[k] hmem)
   have hlk:(i64s ((begF F).take k)).length=k:=by simp [zos];omega
   have hrow:=Z.row
   generalize hT:lenF (F.take k)=T at HL HB hq1
   generalize F[k]=f at c0 c1 c2 c3 hmem hbo hbl HL
   have z:∀ j,wr.cell? ⟨fg,j,none⟩=w.cell? ⟨fg,j,none⟩:=fun j=>hbw.cell (p:=⟨fg,j,none⟩) hfg
   rw [←z] at c0 c1 c2 c3
   clear z
   have hk4:k*4≤1200:=by omega
   obtain⟨name,line,its,bv,m⟩:=f
   simp only at c0 c1 c2 c3 hbo hbl HL
   obtain⟨ao,capb,rfl⟩:=zb8 hbo
   have p2:=Z.c2
   have hlt2:w.heap.size+1+1<wr.heap.size:=by omega
   have hno:=fun q (hq:bs.ownBlock=some q)=>(hrow.lt q hq)
   clear hbo
   go_wp2_with(first
    | (at_builtin;refine wpList_append_own _ rfl _ _ 59 rfl (w.heap.size+1+1+1) 3 i0 (.int .i64 0) 1 8 Tryz.under59 hi0 hz0 hz1 hz2 rfl (by decide) _ _ _ rfl ((hrow.alloc _).alloc _) ⟨wr.heap.size+1,0,none⟩ 1 1 [.int .i64 (T:Int)] rfl rfl ?_ (by simp [Value.oneCell']) (by unfold maxLen;omega) (by omega) (by simp;omega) ?_))
   ·have:=zhO (wr.alloc (.cells #[.string name,.int .i64 line,.slice ao (zal its).length capb,.map (some m)] 131)) (.int .i64 (T:Int))
    rwa [show(wr.alloc (.cells #[.string name,.int .i64 line,.slice ao (zal its).length capb,.map (some m)] 131)).heap.size=wr.heap.size+1 by simp] at this
   intro v' w4 hown4 hgrow _
   have hbw1:Below wr.heap.size wr (wr.alloc (.cells #[.string name,.int .i64 line,.slice ao (zal its).length capb,.map (some m)] 131)):=(Below.refl _ _).alloc (Nat.le_refl _) _
   have hs1:(wr.alloc (.cells #[.string name,.int .i64 line,.slice ao (zal its).length capb,.map (some m)] 131)).heap.size=wr.heap.size+1:=by simp
   have hf2:(wr.alloc (.cells #[.string name,.int .i64 line,.slice ao (zal its).length capb,.map (some m)] 131)).cell? ⟨wr.heap.size,2,none⟩=some (.slice ao (zal its).length capb):=by simp
   generalize wr.alloc (.cells #[.string name,.int .i64 line,.slice ao (zal its).length capb,.map (some m)] 131)=w2 at hgrow hbw1 hs1 hf2
   have hbw2:Below wr.heap.size wr (w2.alloc (.cells #[.int .i64 (T:Int)] 3)):=hbw1.alloc (by omega) _
   have hs2:(w2.alloc (.cells #[.int .i64 (T:Int)] 3)).heap.size=wr.heap.size+1+1:=by rw [←hs1];simp
   have hf2':(w2.alloc (.cells #[.int .i64 (T:Int)] 3)).cell? ⟨wr.heap.size,2,none⟩=some (.slice ao (zal its).length capb):=(World.cell?_alloc_lt w2 _ _ (by show wr.heap.size<_;omega)).trans hf2
   generalize w2.alloc (.cells #[.int .i64 (T:Int)] 3)=w3 at hgrow hbw2 hs2 hf2'
   have hne2:some (w.heap.size+1+1)≠bs.ownBlock:=fun e=>by have:=(hno _ e.symm).1;omega
   have hne1:some (w.heap.size+1)≠bs.ownBlock:=fun e=>by have:=(hno _ e.symm).1;omega
   have hne3:some wr.heap.size≠bs.ownBlock:=fun e=>by have:=(hno _ e.symm).2;omega
   have hblk2:w4.heap[w.heap.size+1+1]?=wr.heap[w.heap.size+1+1]?:=(hgrow.block _ (by omega) hne2).trans (hbw2.block _ (by omega))
   have hblk1:w4.heap[w.heap.size+1]?=wr.heap[w.heap.size+1]?:=(hgrow.block _ (by omega) hne1).trans (hbw2.block _ (by omega))
   have d0:=(World.cell?_of_block (w:=wr) (a:=⟨w.heap.size+1+1,0,none⟩) hblk2).trans Z.c0
   have d1:=(World.cell?_of_block (w:=wr) (a:=⟨w.heap.size+1+1,1,none⟩) hblk2).trans Z.c1
   have d2:=(World.cell?_of_block (w:=wr) (a:=⟨w.heap.size+1+1,2,none⟩) hblk2).trans Z.c2
   have dz:∀ o,w4.frozen? ⟨w.heap.size+1+1,o,none⟩=false:=fun o=>(World.frozen?_of_block (w:=wr) (a:=⟨w.heap.size+1+1,o,none⟩) hblk2).trans (Z.fz o)
   have hf4:w4.cell? ⟨wr.heap.size,2,none⟩=some (.slice ao (zal its).length capb):=(hgrow.cell_far ⟨wr.heap.size,2,none⟩ (by show wr.heap.size<_;omega) hne3).trans hf2'
   have hlow4:Below w.heap.size w w4:=(hbw.trans (hbw2.mono (by omega))).grown hgrow (by omega) (fun q hq=>by have:=(hno q hq).1;omega)
   have hsz4:wr.heap.size+1+1≤w4.heap.size:=by have:=hgrow.size;omega
   have dz2:=dz 2
   have hne6:¬wr.heap.size=w.heap.size+1+1:=by omega
   have hne7:¬w.heap.size+1+1=wr.heap.size:=by omega
   have hthere4:w4.there (w.heap.size+1) 0 3:=fun j hj=>by
    obtain⟨q1,q2⟩:=Z.there_ j hj
    exact⟨by rw [World.cell?_of_block (w:=wr) hblk1];exact q1,by rw [World.frozen?_of_block (w:=wr) hblk1];exact q2⟩
   obtain⟨gb,cb,rfl,hgb,hgl⟩:=hown4.form (by omega)
   clear c0 c1 c2 c3 p2 hf2 hf2'
   go_wp2
   have hZ2:PlAt w (w4.setCell ⟨w.heap.size+1+1,2,none⟩ (.slice (some ⟨gb,0,none⟩) (k+1) cb)) (.slice (some ⟨fg,0,none⟩) F.length cap) pm F (k+1) (.slice (some ⟨gb,0,none⟩) (k+1) cb):=by
    have e:=fun j=>zan w4 (w.heap.size+1+1) 2 j (.slice (some ⟨gb,0,none⟩) (k+1) cb) _ d2
    refine⟨by rw [e,if_neg (by omega)];exact d0,by rw [e,if_neg (by omega)];exact d1,by rw [e,if_pos rfl],fun o=>zbI w4 _ _ o _ (dz o),zdh hthere4 _ _,?_,hlow4.setCell (p:=⟨w.heap.size+1+1,2,none⟩) (by show w.heap.size≤w.heap.size+1+1;omega) _,by simp [World.setCell];omega⟩
    rw [HB.out]
    have hk2:=zas (w':=w4.setCell ⟨w.heap.size+1+1,2,none⟩ (.slice (some ⟨gb,0,none⟩) (k+1) cb)) hown4 (fun q hq=>Below.heap_setCell _ _ _ _ (fun e=>by have:=(hown4.lt q hq).1;simp only at e;omega))
    simpa [i64s] using hk2
   go_roundw
   case rel=>exact⟨k+1,_,by omega,by go_num,by rw [HL.out];go_num,hZ2⟩
   case measure=>simp [intOf];omega
  ·obtain rfl:k=F.length:=by omega
   have p0:=Z.c0
   have p1:=Z.c1
   have p2:=Z.c2
   have hrow:=Z.row
   rw [List.take_of_length_le (by rw [zos];omega)] at hrow
   obtain⟨ab,cb,rfl⟩:=zsD hrow
   obtain⟨⟨u0,r0⟩,z0⟩:=zhU Z.there_ 0 (by omega)
   obtain⟨⟨u1,r1⟩,z1⟩:=zhU Z.there_ 1 (by omega)
   obtain⟨⟨u2,r2⟩,z2⟩:=zhU Z.there_ 2 (by omega)
   have hT:lenF (F.take F.length)=lenF F:=by rw [List.take_length]
   go_wp2
   have hu96:Tryz.prog.underlying 128=some (.struct _):=Tryz.underlying128
   have hr:=World.rangeAt_setCells_same wr (w.heap.size+1) 0 [.slice (some ⟨fg,0,none⟩) F.length cap,.map (some pm),.slice ab F.length cb] Z.there_
   have hres:=run_loadVar_mid (wr.setCells (w.heap.size+1) 0 [.slice (some ⟨fg,0,none⟩) F.length cap,.map (some pm),.slice ab F.length cb]) (w.heap.size+1) 0 128 _ _ hr hu96 rfl Tryz.info128
   have hbl5:Below w.heap.size w (wr.setCells (w.heap.size+1) 0 [.slice (some ⟨fg,0,none⟩) F.length cap,.map (some pm),.slice ab F.length cb]):=zar _ 0 hbw (by omega)
   refine bodyPost_ret (v:=.agg #[.slice (some ⟨fg,0,none⟩) F.length cap,.map (some pm),.slice ab F.length cb]) (zbz Tryz.results80 _ ⟨w.heap.size+1,0,none⟩ rfl hres) rfl ⟨_,rfl,?_,hbl5⟩
   have ho2:=zas (w':=wr.setCells (w.heap.size+1) 0 [.slice (some ⟨fg,0,none⟩) F.length cap,.map (some pm),.slice ab F.length cb]) hrow (fun q hq=>zb4 _ wr _ _ _ (by have:=(hrow.lt q hq).1;omega))
   exact zb7 ho2 (by omega)
def zdj:Mc:=⟨0,[],[],0,fun _=>0,fun _=>0,[],0,0,0⟩
structure Told where
 m:Mc
 at_:Int
 err:Int
 line:Int
def ze6(w:World)(T:Told):Ending→World→Prop:=fun e w'=>∃ ao no co,e=.returned (.tuple #[.agg (zav T.m (.slice ao no co) T.at_).toArray,.int .i64 T.err,.int .i64 T.line])∧w'.ownsRow w.heap.size 2 1 (.slice ao no co) T.m.out.length (i64s T.m.out)∧Below w.heap.size w w'
theorem zyl:zav zdj (.slice none 0 0) 0=[.int .i64 0,.int .i64 0,.int .i64 0,.int .i64 0,.int .i64 0,.int .i64 0,.int .i64 0,.int .i64 0,.int .i64 0,.int .i64 0,.int .i64 0,.int .i64 0,.int .i64 0,.int .i64 0,.int .i64 0,.int .i64 0,.int .i64 0,.int .i64 0,.int .i64 0,.int .i64 0,.int .i64 0,.int .i64 0,.int .i64 0,.int .i64 0,.int .i64 0,.slice none 0 0,.int .i64 0,.int .i64 0,.int .i64 0,.int .i64 0]:=by simp [zav,List.range_succ,zdj]
theorem SlB.mono{w w':World}{v:Value}{l:List Int}(h:SlB w w.heap.size v l)(hb:Below w.heap.size w w'):SlB w' w'.heap.size v l:=by
 obtain⟨ao,cap,h1,h2,h3⟩:=h
 refine⟨ao,cap,h1,h2,fun hp=>?_⟩
 obtain⟨g,o,e,hg,hg2,hc⟩:=h3 hp
 have:=hb.size
 exact⟨g,o,e,by omega,by omega,fun j hj=>(hb.cell (p:=⟨g,o+j,none⟩) hg).trans (hc j hj)⟩
theorem zkb(L:List Said)(q j:Nat)(c:Int × Int)(hc:¬c=(0,0)→¬c.1=0):¬pass L q j c=(0,0)→¬(pass L q j c).1=0:=by
 by_cases h:j<L.length
 ·cases hb:badB L q j with
  | true=>rw [zdp L q j c h hb];intro _;show ¬(3+(q:Int))=0;omega
  | false=>rw [zcg L q j c h hb];exact zkb L q (j+1) c hc
 ·rw [zd5 L q j c h];exact hc
termination_by L.length-j
theorem zoo(L:List Said)(i:Nat):¬zbn L i=(0,0)→¬(zbn L i).1=0:=by
 by_cases h:i<L.length
 ·by_cases h1:L[i].kind=0
  ·rw [zeO L i h h1];exact zoo L (i+1)
  ·by_cases h2:L[i].kind=102
   ·rw [zfE L i h h1 h2]
    exact zkb L 0 0 _ (zkb L 1 0 _ (zkb L 2 0 _ (fun h=>absurd rfl h)))
   ·rw [zfF L i h h1 h2];intro _;show ¬(2:Int)=0;decide
 ·rw [zdX L i h];intro _;decide
termination_by L.length-i
theorem zwq(A:List ByteArray)(i:Nat):¬zbG A i=(0,0)→¬(zbG A i).1=0:=by
 by_cases h:i<A.length
 ·cases h1:(say A[i]).ok with
  | true=>rw [zeP A i h h1];exact zwq A (i+1)
  | false=>rw [zdI A i h h1];intro _;show ¬(1:Int)=0;decide
 ·rw [zfG A i h];exact zoo _ 0
termination_by A.length-i
theorem zxi{s:ByteArray}(h:¬zbw s=(0,0)):((zbw s).1 != 0)=true:=by
 rw [bne_iff_ne]
 revert h
 unfold zbw
 split
 ·intro _;decide
 ·exact zwq _ 0
end Go.Proofs.YtfpgjkbjbbgciaaGreatDoor
namespace Go.Proofs.YtfpgjkbjbbgciaaGreatDoor
open Go.RowKit Sp Go.WideMaps Go.Maps
theorem MapIs.look{w:World}{b:Nat}{E:List (ByteArray × Nat)}(h:MapIs w b E)(x:ByteArray)(hx:x.size≤1048576)(p:Nat)(hp:zbO E x=some p):(Instr.lookup 81 (.map (some b)) (.string x) false).run Tryz.prog w=.ok (.int .i64 (p:Int)) w:=by
 obtain⟨D,hown,hD,hhas,hat0,hpw⟩:=h
 obtain⟨c,hrun,hat,_⟩:=hown.lookup_int lawS Tryz.under81 Tryz.underlying3 (zse _) (keyS x (by unfold maxLen;omega))
 rw [hat0 x p _ hp] at hat
 simp at hat
 rw [hrun,hat]
theorem MapIs.drewN{w:World}{b:Nat}{E:List (ByteArray × Nat)}(h:MapIs w b E)(n:Nat):MapIs (w.drewN n) b E:=h
theorem zkd(w:World)(pm bg k:Nat)(v:Value)(F:List FnM)(cap:Nat)(x:ByteArray)(hM:MapIs w pm (zbu F))(hx:x.size≤1048576)(hk:zbO (zbu F) x=some k)(hkl:k<F.length)(_hn:F.length≤300)(hc:w.cell? ⟨bg,k,none⟩=some (.int .i64 (lenF (F.take k):Int)))(bo cv:Nat)(hv:v=.slice (some ⟨bo,0,none⟩) F.length cv):
  Calls Tryz.prog 109 #[.agg #[v,.map (some pm),.slice (some ⟨bg,0,none⟩) F.length cap],.string x] w fun e w'=>e=.returned (.int .i64 (lenF (F.take k):Int))∧Below w.heap.size w w':=by
 subst hv
 have hl:=(hM.alloc (.cells #[.slice (some ⟨bo,0,none⟩) F.length cv,.map (some pm),.slice (some ⟨bg,0,none⟩) F.length cap] 128)).look x hx k hk
 have hlt:bg<w.heap.size:=World.block_lt_of_cell? w _ hc
 have hk0:(0:Int)≤(k:Int):=by omega
 have hk1:(k:Int)<(F.length:Int):=by omega
 have hne4:¬w.heap.size=bg:=by omega
 have hne5:¬bg=w.heap.size:=by omega
 go_enter Tryz.func109,Tryz.ntmps109
 go_wp2
 go_ret
 exact⟨rfl,(Below.refl _ _).alloc (Nat.le_refl _) _⟩
theorem zqh(w:World)(pm bg k j p bo cv cap:Nat)(F:List FnM)(x:ByteArray)(m:Nat)(E:List (ByteArray × Nat))(hM:MapIs w m E)(hx:x.size≤1048576)(hp:zbO E x=some p)(hp1:p≤300)(hkl:k<F.length)(hn:F.length≤300)(hj:j≤300)(hc:w.cell? ⟨bg,k,none⟩=some (.int .i64 (j:Int)))(hm:w.cell? ⟨bo,k*4+3,none⟩=some (.map (some m))):
  Calls Tryz.prog 108 #[.agg #[.slice (some ⟨bo,0,none⟩) F.length cv,.map (some pm),.slice (some ⟨bg,0,none⟩) F.length cap],.string x,.int .i64 (k:Int)] w fun e w'=>e=.returned (.int .i64 ((j:Int)+(p:Int)))∧Below w.heap.size w w':=by
 have hl:=fun n=>((hM.alloc (.cells #[.slice (some ⟨bo,0,none⟩) F.length cv,.map (some pm),.slice (some ⟨bg,0,none⟩) F.length cap] 128)).drewN n).look x hx p hp
 have hlt:bg<w.heap.size:=World.block_lt_of_cell? w _ hc
 have hlt2:bo<w.heap.size:=World.block_lt_of_cell? w _ hm
 have hk0:(0:Int)≤(k:Int):=by omega
 have hk1:(k:Int)<(F.length:Int):=by omega
 have hne4:¬w.heap.size=bg:=by omega
 have hne5:¬bg=w.heap.size:=by omega
 have hne6:¬w.heap.size=bo:=by omega
 have hne7:¬bo=w.heap.size:=by omega
 have hk4:k*4≤1200:=by omega
 go_enter Tryz.func108,Tryz.ntmps108
 go_wp2_with fail
 go_quiet(fail)
 go_wp2
 go_ret
 exact⟨rfl,((Below.refl _ _).alloc (Nat.le_refl _) _).trans ((zaN _ nq).mono (by simp))⟩
end Go.Proofs.YtfpgjkbjbbgciaaGreatDoor
namespace Go.Proofs.YtfpgjkbjbbgciaaGreatDoor
open Go.RowKit Sp
theorem zvl(w:World)(ao bo:Option Addr)(n1 c1 n2 c2 pm:Nat)(sort line a b c n k:Int)(nm:ByteArray):
  Calls Tryz.prog 81 #[.agg #[.slice ao n1 c1,.map (some pm),.slice bo n2 c2],stm sort line ⟨#[115,101,116]⟩ a b c n nm,.int .i64 k] w fun e w'=>e=.returned (.iface 167 (.agg #[.int .i64 a,.int .i64 n]))∧Below w.heap.size w w':=by
 have hrb:∀ W,(Instr.build 167 #[(0,.int .i64 a),(1,.int .i64 n)]).run Tryz.prog W=.ok (.agg #[.int .i64 a,.int .i64 n]) W:=fun W=>run_build W 167 _ _ (by kernel_rfl)
 go_enter Tryz.func81,Tryz.ntmps81
 go_wp2
 go_ret
 exact⟨rfl,(((Below.refl _ _).alloc (Nat.le_refl _) _).alloc (by simp) _).alloc (by simp;omega) _⟩
theorem zvm(w:World)(ao bo:Option Addr)(n1 c1 n2 c2 pm:Nat)(sort line a b c n k:Int)(nm:ByteArray):
  Calls Tryz.prog 81 #[.agg #[.slice ao n1 c1,.map (some pm),.slice bo n2 c2],stm sort line ⟨#[109,111,118]⟩ a b c n nm,.int .i64 k] w fun e w'=>e=.returned (.iface 169 (.agg #[.int .i64 a,.int .i64 b]))∧Below w.heap.size w w':=by
 have hrb:∀ W,(Instr.build 169 #[(0,.int .i64 a),(1,.int .i64 b)]).run Tryz.prog W=.ok (.agg #[.int .i64 a,.int .i64 b]) W:=fun W=>run_build W 169 _ _ (by kernel_rfl)
 go_enter Tryz.func81,Tryz.ntmps81
 go_wp2
 go_ret
 exact⟨rfl,(((Below.refl _ _).alloc (Nat.le_refl _) _).alloc (by simp) _).alloc (by simp;omega) _⟩
theorem zvn(w:World)(ao bo:Option Addr)(n1 c1 n2 c2 pm:Nat)(sort line a b c n k:Int)(nm:ByteArray):
  Calls Tryz.prog 81 #[.agg #[.slice ao n1 c1,.map (some pm),.slice bo n2 c2],stm sort line ⟨#[97,100,100]⟩ a b c n nm,.int .i64 k] w fun e w'=>e=.returned (.iface 171 (.agg #[.int .i64 a,.int .i64 b,.int .i64 c]))∧Below w.heap.size w w':=by
 have hrb:∀ W,(Instr.build 171 #[(0,.int .i64 a),(1,.int .i64 b),(2,.int .i64 c)]).run Tryz.prog W=.ok (.agg #[.int .i64 a,.int .i64 b,.int .i64 c]) W:=fun W=>run_build W 171 _ _ (by kernel_rfl)
 go_enter Tryz.func81,Tryz.ntmps81
 go_wp2
 go_ret
 exact⟨rfl,(((Below.refl _ _).alloc (Nat.le_refl _) _).alloc (by simp) _).alloc (by simp;omega) _⟩
theorem zvo(w:World)(ao bo:Option Addr)(n1 c1 n2 c2 pm:Nat)(sort line a b c n k:Int)(nm:ByteArray):
  Calls Tryz.prog 81 #[.agg #[.slice ao n1 c1,.map (some pm),.slice bo n2 c2],stm sort line ⟨#[115,117,98]⟩ a b c n nm,.int .i64 k] w fun e w'=>e=.returned (.iface 172 (.agg #[.int .i64 a,.int .i64 b,.int .i64 c]))∧Below w.heap.size w w':=by
 have hrb:∀ W,(Instr.build 172 #[(0,.int .i64 a),(1,.int .i64 b),(2,.int .i64 c)]).run Tryz.prog W=.ok (.agg #[.int .i64 a,.int .i64 b,.int .i64 c]) W:=fun W=>run_build W 172 _ _ (by kernel_rfl)
 go_enter Tryz.func81,Tryz.ntmps81
 go_wp2
 go_ret
 exact⟨rfl,(((Below.refl _ _).alloc (Nat.le_refl _) _).alloc (by simp) _).alloc (by simp;omega) _⟩
theorem zvp(w:World)(ao bo:Option Addr)(n1 c1 n2 c2 pm:Nat)(sort line a b c n k:Int)(nm:ByteArray):
  Calls Tryz.prog 81 #[.agg #[.slice ao n1 c1,.map (some pm),.slice bo n2 c2],stm sort line ⟨#[109,117,108]⟩ a b c n nm,.int .i64 k] w fun e w'=>e=.returned (.iface 173 (.agg #[.int .i64 a,.int .i64 b,.int .i64 c]))∧Below w.heap.size w w':=by
 have hrb:∀ W,(Instr.build 173 #[(0,.int .i64 a),(1,.int .i64 b),(2,.int .i64 c)]).run Tryz.prog W=.ok (.agg #[.int .i64 a,.int .i64 b,.int .i64 c]) W:=fun W=>run_build W 173 _ _ (by kernel_rfl)
 go_enter Tryz.func81,Tryz.ntmps81
 go_wp2
 go_ret
 exact⟨rfl,(((Below.refl _ _).alloc (Nat.le_refl _) _).alloc (by simp) _).alloc (by simp;omega) _⟩
theorem zvq(w:World)(ao bo:Option Addr)(n1 c1 n2 c2 pm:Nat)(sort line a b c n k:Int)(nm:ByteArray):
  Calls Tryz.prog 81 #[.agg #[.slice ao n1 c1,.map (some pm),.slice bo n2 c2],stm sort line ⟨#[105,110,99]⟩ a b c n nm,.int .i64 k] w fun e w'=>e=.returned (.iface 174 (.agg #[.int .i64 a,.int .i64 n]))∧Below w.heap.size w w':=by
 have hrb:∀ W,(Instr.build 174 #[(0,.int .i64 a),(1,.int .i64 n)]).run Tryz.prog W=.ok (.agg #[.int .i64 a,.int .i64 n]) W:=fun W=>run_build W 174 _ _ (by kernel_rfl)
 go_enter Tryz.func81,Tryz.ntmps81
 go_wp2
 go_ret
 exact⟨rfl,(((Below.refl _ _).alloc (Nat.le_refl _) _).alloc (by simp) _).alloc (by simp;omega) _⟩
theorem zsE(w:World)(ao bo:Option Addr)(n1 c1 n2 c2 pm:Nat)(sort line a b c n k:Int)(nm:ByteArray):
  Calls Tryz.prog 81 #[.agg #[.slice ao n1 c1,.map (some pm),.slice bo n2 c2],stm sort line ⟨#[108,111,97,100]⟩ a b c n nm,.int .i64 k] w fun e w'=>e=.returned (.iface 176 (.agg #[.int .i64 a,.int .i64 b]))∧Below w.heap.size w w':=by
 have hrb:∀ W,(Instr.build 176 #[(0,.int .i64 a),(1,.int .i64 b)]).run Tryz.prog W=.ok (.agg #[.int .i64 a,.int .i64 b]) W:=fun W=>run_build W 176 _ _ (by kernel_rfl)
 go_enter Tryz.func81,Tryz.ntmps81
 go_wp2
 go_ret
 exact⟨rfl,(((Below.refl _ _).alloc (Nat.le_refl _) _).alloc (by simp) _).alloc (by simp;omega) _⟩
theorem zqi(w:World)(ao bo:Option Addr)(n1 c1 n2 c2 pm:Nat)(sort line a b c n k:Int)(nm:ByteArray):
  Calls Tryz.prog 81 #[.agg #[.slice ao n1 c1,.map (some pm),.slice bo n2 c2],stm sort line ⟨#[115,116,111,114,101]⟩ a b c n nm,.int .i64 k] w fun e w'=>e=.returned (.iface 178 (.agg #[.int .i64 a,.int .i64 b]))∧Below w.heap.size w w':=by
 have hrb:∀ W,(Instr.build 178 #[(0,.int .i64 a),(1,.int .i64 b)]).run Tryz.prog W=.ok (.agg #[.int .i64 a,.int .i64 b]) W:=fun W=>run_build W 178 _ _ (by kernel_rfl)
 go_enter Tryz.func81,Tryz.ntmps81
 go_wp2
 go_ret
 exact⟨rfl,(((Below.refl _ _).alloc (Nat.le_refl _) _).alloc (by simp) _).alloc (by simp;omega) _⟩
theorem zsF(w:World)(ao bo:Option Addr)(n1 c1 n2 c2 pm:Nat)(sort line a b c n k:Int)(nm:ByteArray):
  Calls Tryz.prog 81 #[.agg #[.slice ao n1 c1,.map (some pm),.slice bo n2 c2],stm sort line ⟨#[114,101,97,100]⟩ a b c n nm,.int .i64 k] w fun e w'=>e=.returned (.iface 180 (.agg #[.int .i64 a]))∧Below w.heap.size w w':=by
 have hrb:∀ W,(Instr.build 180 #[(0,.int .i64 a)]).run Tryz.prog W=.ok (.agg #[.int .i64 a]) W:=fun W=>run_build W 180 _ _ (by kernel_rfl)
 go_enter Tryz.func81,Tryz.ntmps81
 go_wp2
 go_ret
 exact⟨rfl,(((Below.refl _ _).alloc (Nat.le_refl _) _).alloc (by simp) _).alloc (by simp;omega) _⟩
theorem zqj(w:World)(ao bo:Option Addr)(n1 c1 n2 c2 pm:Nat)(sort line a b c n k:Int)(nm:ByteArray):
  Calls Tryz.prog 81 #[.agg #[.slice ao n1 c1,.map (some pm),.slice bo n2 c2],stm sort line ⟨#[119,114,105,116,101]⟩ a b c n nm,.int .i64 k] w fun e w'=>e=.returned (.iface 182 (.agg #[.int .i64 a]))∧Below w.heap.size w w':=by
 have hrb:∀ W,(Instr.build 182 #[(0,.int .i64 a)]).run Tryz.prog W=.ok (.agg #[.int .i64 a]) W:=fun W=>run_build W 182 _ _ (by kernel_rfl)
 go_enter Tryz.func81,Tryz.ntmps81
 go_wp2
 go_ret
 exact⟨rfl,(((Below.refl _ _).alloc (Nat.le_refl _) _).alloc (by simp) _).alloc (by simp;omega) _⟩
theorem zsG(w:World)(ao bo:Option Addr)(n1 c1 n2 c2 pm:Nat)(sort line a b c n k:Int)(nm:ByteArray):
  Calls Tryz.prog 81 #[.agg #[.slice ao n1 c1,.map (some pm),.slice bo n2 c2],stm sort line ⟨#[98,97,99,107]⟩ a b c n nm,.int .i64 k] w fun e w'=>e=.returned (.iface 192 (.agg #[]))∧Below w.heap.size w w':=by
 have hrb:∀ W,(Instr.build 192 #[]).run Tryz.prog W=.ok (.agg #[]) W:=fun W=>run_build W 192 _ _ (by kernel_rfl)
 go_enter Tryz.func81,Tryz.ntmps81
 go_wp2
 go_ret
 exact⟨rfl,(((Below.refl _ _).alloc (Nat.le_refl _) _).alloc (by simp) _).alloc (by simp;omega) _⟩
theorem zsH(w:World)(ao bo:Option Addr)(n1 c1 n2 c2 pm:Nat)(sort line a b c n k:Int)(nm:ByteArray):
  Calls Tryz.prog 81 #[.agg #[.slice ao n1 c1,.map (some pm),.slice bo n2 c2],stm sort line ⟨#[115,116,111,112]⟩ a b c n nm,.int .i64 k] w fun e w'=>e=.returned (.iface 193 (.agg #[]))∧Below w.heap.size w w':=by
 have hrb:∀ W,(Instr.build 193 #[]).run Tryz.prog W=.ok (.agg #[]) W:=fun W=>run_build W 193 _ _ (by kernel_rfl)
 go_enter Tryz.func81,Tryz.ntmps81
 go_wp2
 go_ret
 exact⟨rfl,(((Below.refl _ _).alloc (Nat.le_refl _) _).alloc (by simp) _).alloc (by simp;omega) _⟩
end Go.Proofs.YtfpgjkbjbbgciaaGreatDoor
