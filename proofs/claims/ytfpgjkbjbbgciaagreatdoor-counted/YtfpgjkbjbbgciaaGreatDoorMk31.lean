import Derived.Test.YtfpgjkbjbbgciaaGreatDoorMk28
import Derived.Test.YtfpgjkbjbbgciaaGreatDoorMk30
set_option maxRecDepth 100000
set_option maxHeartbeats 8000000
namespace Go.Proofs.YtfpgjkbjbbgciaaGreatDoor
open Go.RowKit Sp
theorem ztn (v:Value) (w:World):(method 422 171 v "Do").run Tryz.prog w=.ok (232,v) w:=by kernel_rfl
theorem zqK(args:Array Value)(w:World):(callFunc 232 args).run Tryz.prog w=.ok (.enter 232 args) w:=by kernel_rfl
theorem zto (v:Value) (w:World):(method 422 172 v "Do").run Tryz.prog w=.ok (239,v) w:=by kernel_rfl
theorem zqL(args:Array Value)(w:World):(callFunc 239 args).run Tryz.prog w=.ok (.enter 239 args) w:=by kernel_rfl
theorem ztp (v:Value) (w:World):(method 422 173 v "Do").run Tryz.prog w=.ok (243,v) w:=by kernel_rfl
theorem zqM(args:Array Value)(w:World):(callFunc 243 args).run Tryz.prog w=.ok (.enter 243 args) w:=by kernel_rfl
theorem zwo (i:Ins) (hi:zhs i) (w:World):(method 422 (insT i) (.agg (insA i)) "Do").run Tryz.prog w=.ok (insF i,.agg (insA i)) w:=by
 cases i with
 | alu o r s t =>
  have ho:=hi.1;clear hi;rcases(by omega:o=0∨o=1∨o=2) with rfl|rfl|rfl
  ·exact ztn _ w
  ·exact zto _ w
  ·exact ztp _ w
 | _=>kernel_rfl
theorem ztq(i:Ins)(hi:zhs i)(args:Array Value)(w:World):(callFunc (insF i) args).run Tryz.prog w=.ok (.enter (insF i) args) w:=by
 cases i with
 | alu o r s t =>
  have ho:=hi.1;clear hi;rcases(by omega:o=0∨o=1∨o=2) with rfl|rfl|rfl
  ·exact zqK args w
  ·exact zqL args w
  ·exact zqM args w
 | _=>kernel_rfl
def stepsC(w:World)(b:Nat):Nat:=match w.cell? ⟨b,28,none⟩ with|some (.int _ s)=>s.toNat|_=>0
theorem MchM.stepsC{w:World}{b:Nat}{bv iv ov:Value}{m:Mc}(h:MchM w b bv iv ov m):Go.Proofs.YtfpgjkbjbbgciaaGreatDoor.stepsC w b=m.steps.toNat:=by unfold Go.Proofs.YtfpgjkbjbbgciaaGreatDoor.stepsC;rw [h.cS]
def finC(w:World)(b:Nat):Nat:=match w.cell? ⟨b,30,none⟩ with|some (.int _ s)=>(if s=0 then 1 else 0)|_=>0
theorem MchM.finC{w:World}{b:Nat}{bv iv ov:Value}{m:Mc}(h:MchM w b bv iv ov m):Go.Proofs.YtfpgjkbjbbgciaaGreatDoor.finC w b=if m.fin=0 then 1 else 0:=by unfold Go.Proofs.YtfpgjkbjbbgciaaGreatDoor.finC;rw [h.cE]
structure CRun(C:List (Ins × Int))(n g b:Nat)(w0 wr:World)(FIN m:Mc)(bv iv ov:Value):Prop where
 mch:MchAt wr b m bv iv ov
 inv:InvD C.length m
 st1:m.steps≤(n:Int)
 inp:m.inp.length≤9223372036854775807
 run:FIN=runS (zce C) (n-m.steps.toNat) m
 low:Below w0.heap.size w0 wr
theorem CRun.step{C:List (Ins × Int)}{n g b k:Nat}{w0 wr w':World}{FIN m:Mc}{bv iv ov bv' iv' ov':Value}(Z:CRun C n g b w0 wr FIN m bv iv ov)(K:CodeOk C)(h0:m.fin=0)(hlt:m.steps<(n:Int))(hk:m.at'=(k:Int))(hkl:k<C.length)(hb:w0.heap.size≤b)(M2:MchAt w' b (za2 C[k].1 m) bv' iv' ov')(hB:Below b wr w'):
  CRun C n g b w0 w' FIN (za2 C[k].1 m) bv' iv' ov'∧(n-(za2 C[k].1 m).steps.toNat)*2+(if(za2 C[k].1 m).fin=0 then 1 else 0)<(n-m.steps.toNat)*2+(if m.fin=0 then 1 else 0):=by
 have q0:=Z.inv.steps;obtain⟨c,hi⟩:=zfx C[k].1 m h0;have hinp:=Z.inp;have hrun:FIN=runS (zce C) (n-m.steps.toNat-1) (za2 C[k].1 m):=by
  rw [Z.run,show n-m.steps.toNat=(n-m.steps.toNat-1)+1 by omega,zbv _ _ _ h0,zeH hk hkl];rfl
 rw [if_pos h0];rcases c with ⟨d,a⟩|⟨d,a⟩
 ·refine⟨⟨M2,Z.inv.step h0 hk (K.leads k hkl),by omega,by omega,?_,Z.low.trans (hB.mono hb)⟩,by rw [a];split <;> omega⟩;rw [hrun,a];congr 1;omega
 ·refine⟨⟨M2,Z.inv.step h0 hk (K.leads k hkl),by omega,by omega,?_,Z.low.trans (hB.mono hb)⟩,by rw [a,if_neg (by omega)];omega⟩;rw [hrun,zbB _ _ _ (by omega),zbB _ _ _ (by omega)]
theorem MchM.below{w w':World}{b B:Nat}{bv iv ov:Value}{m:Mc}(h:MchM w b bv iv ov m)(hb:Below B w w')(hB:b<B):MchM w' b bv iv ov m:=h.of_block (hb.block b hB)
def zpp(w:World)(C:List (Ins × Int))(FIN:Mc):Ending→World→Prop:=fun e w'=>∃ ao no co,e=.returned (.agg (zaH FIN (.slice ao no co) (zht C FIN)).toArray)∧w'.ownsRow w.heap.size 2 1 (.slice ao no co) FIN.out.length (i64s FIN.out)∧Below w.heap.size w w'
theorem zk2{w w7:World}{C:List (Ins × Int)}{FIN:Mc}{ao:Option Addr}{no co:Nat}{act:Act}(ds:List Value)(hds:zaH FIN (.slice ao no co) (zht C FIN)=ds)(ht:w7.there w.heap.size 0 ds.toArray.size)(hb:Below w.heap.size w w7)(how:w7.ownsRow (w.heap.size+1) 2 1 (.slice ao no co) FIN.out.length (i64s FIN.out))
  (hp:act.tmps.getD 6 undef=.pointer (some ⟨w.heap.size,0,none⟩)) (hd:act.defers=[]) :
  bodyPost Tryz.prog Tryz.f53 (zpp w C FIN) .ret act (w7.setCells w.heap.size 0 ds):=by
 have hl:ds.length=30:=by rw [←hds];exact zbF _ _ _
 have b:Tryz.prog.underlying 34=some (.struct _):=Tryz.underlying34;have d:=World.rangeAt_setCells_same w7 w.heap.size 0 ds (by rw [show ds.length=ds.toArray.size by simp];exact ht);have a:=run_loadVar_mid (w7.setCells w.heap.size 0 ds) w.heap.size 0 34 ds _ d b rfl (by rw [hl];exact Tryz.info34);refine bodyPost_ret (v:=.agg ds.toArray) (zcX Tryz.results53 _ ⟨w.heap.size,0,none⟩ hp a) hd ⟨ao,no,co,by rw [hds],?_,za8 ds 0 hb (Nat.le_refl _)⟩;have c:(w7.setCells w.heap.size 0 ds).ownsRow (w.heap.size+1) 2 1 (.slice ao no co) FIN.out.length (i64s FIN.out):=zaj how (fun q hq=>zbG ds w7 _ _ _ (by have:=(how.lt q hq).1;omega));exact zbR c (by omega)
theorem zwp(w:World)(g cap n icap:Nat)(ao:Option Addr)(C:List (Ins × Int))(inp:List Int)(K:CodeOk C)(hC:CodeIn w g C)(hg:g<w.heap.size)(hiv:SlB w w.heap.size (.slice ao inp.length icap) inp)(hin:inp.length≤9223372036854775807)(hn:n≤100000)(FIN:Mc)(hF:runS (zce C) n (zaY inp)=FIN):
  Calls Tryz.prog 53 #[.slice (some ⟨g,0,none⟩) C.length cap,.slice ao inp.length icap,.int .i64 (n:Int)] w (zpp w C FIN):=by
 have M:Below w.heap.size w (w.alloc Z34):=(Below.refl _ _).alloc (Nat.le_refl _) _;have aF:(w.alloc Z34).heap.size=w.heap.size+1:=by simp
 have ad:=zfM w;have J:=zwn (w.alloc Z34) ao icap inp (hiv.mono M);have hI:=zda K inp;have HF:Hid (FIN=runS (zce C) n (zaY inp)):=hF.symm;clear hF;have f1:(zaY inp).steps=0:=rfl;have f2:(zaY inp).inp=inp:=rfl;have hf:=K.few;generalize zaY inp=m0 at J hI HF f1 f2;rw [aF] at J;have P:=hC.below M hg;clear hiv hC;go_enter Tryz.func53,Tryz.ntmps53;go_wp2_with(first|(go_at_call 82;refine J.mono ?_;rintro e W2 ⟨rfl,⟨bv0,iv0,ov0,au⟩,an⟩))
 clear J;generalize w.alloc Z34=W1 at M aF ad an P
 go_loopw [11] (fun _ wr=>∃(m:Mc) (bv iv ov:Value),CRun C n g (w.heap.size+1) W1 wr FIN m bv iv ov) (fun _ wr=>(n-stepsC wr (w.heap.size+1))*2+finC wr (w.heap.size+1))
 case atStart=>exact⟨m0,_,_,_,⟨au,hI,by omega,by rw [f2];exact hin,by rw [f1];exact HF.out,by rw [aF];exact an⟩⟩
 case round =>
  obtain⟨m,bv,iv,ov,Z⟩:=hrel;have cS:=Z.mch.mem.cS;clear au an HF hI f1 f2;have q0:=Z.inv.steps;have g1:=zs9 wr (w.heap.size+1) bv iv ov m Z.mch.mem;have g2:=zqm wr (w.heap.size+1) bv iv ov m Z.mch.mem;by_cases aB:m.fin=0∧m.steps<(n:Int)
  ·obtain⟨h0,ay⟩:=aB;obtain⟨k,hk,u⟩:=Z.inv.at_;have g3:=zia wr (w.heap.size+1) bv iv ov m Z.mch.mem;rw [hk] at g3;rw [show(m.fin == 0)=true by simp [h0]] at g1;obtain⟨ap,_⟩:=(P.below Z.low (by omega)) k u;have aq:=zzX C[k].1 (K.ok k u) Z.mch (Z.inv.inv hf h0) h0 (by omega) Z.inp;have W:=zwo C[k].1 (K.ok k u);have av:=ztq C[k].1 (K.ok k u);generalize aw:C[k].1=i at ap aq W av;generalize insF i=F at aq W av;have aC:(0:Int)≤(k:Int):=by omega
   have aD:(k:Int)<(C.length:Int):=by omega
   go_wp2_with(first|(go_at_call 83;refine g1.mono ?_;rintro e N ⟨rfl,c⟩;have b:=c.symm;subst b)|(go_at_call 84;refine g2.mono ?_;rintro e N ⟨rfl,c⟩;have b:=c.symm;subst b)|(go_at_call 85;refine g3.mono ?_;rintro e N ⟨rfl,c⟩;have b:=c.symm;subst b))
   refine aq.mono ?_;rintro e w3 ⟨rfl,az,aG,aH,M2,hB⟩;dsimp only;rw [←aw] at M2;obtain⟨Z2,aE⟩:=Z.step K h0 ay hk u (by omega) M2 hB;have q1:=Z2.mch.mem.stepsC;have q2:=Z.mch.mem.stepsC;have q3:=Z2.mch.mem.finC;have q4:=Z.mch.mem.finC;go_wp2;go_roundw
   case rel=>exact⟨_,az,aG,aH,Z2⟩
   case measure=>rw [q1,q2,q3,q4];exact aE
  ·have hF:FIN=m:=by
    by_cases h0:m.fin=0
    ·rw [Z.run,show n-m.steps.toNat=0 by have:=Z.st1;omega];rfl
    ·rw [Z.run,zbB _ _ _ h0]
   subst hF;have O:=Z.mch;obtain⟨j,l,rfl⟩:=zba O.out;have X:=zqI wr (w.heap.size+1) bv iv j _ l FIN O Z.inv.frames Z.inv.few;generalize hno:FIN.out.length=no' at X;have hl:=zbF FIN (.slice j no' l) 0;have h1:=zcs FIN j no' l 0;obtain⟨A,ag⟩:∃ A,zht C FIN=A:=⟨_,rfl⟩
   have al:Hid (zht C FIN=A):=ag;clear ag;have ah:=zq2 FIN (.slice j no' l) 0 (A);generalize ab:zaH FIN (.slice j no' l) 0=ds at X hl h1 ah;have hi:=zcv ds hl;have y:=O.out;rw [hno] at y;have af:=zbF FIN (.slice j no' l) (A);have aa:=zcs FIN j no' l (A);generalize R:zaH FIN (.slice j no' l) (A)=ds2 at ah af aa;have ar:=zcv ds2 af;have T:(Tryz.prog.info? 34).map (·.size)=some ds2.length:=by rw [af];exact Tryz.info34
   have Y:Tryz.prog.underlying 34=some (.struct _):=Tryz.underlying34;obtain⟨k,hk,u⟩:=Z.inv.at_;have aC:(0:Int)≤(k:Int):=by omega
   have aD:(k:Int)<(C.length:Int):=by omega
   by_cases h0:FIN.fin=0
   ·rw [show(FIN.fin == 0)=true by simp [h0]] at g1;have ay:decide (FIN.steps<(n:Int))=false:=by simp;omega
    have ae:decide (FIN.fin=1∨FIN.fin=2)=false:=by simp [h0]
    have ak:Hid (A=C[k].2):=by rw [←al.out];show zht C FIN=C[k].2;unfold zht;rw [if_neg (by omega),hk,Int.toNat_natCast,List.getElem?_eq_getElem u];rfl
    go_wp2_with(first|(go_at_call 83;refine g1.mono ?_;rintro e N ⟨rfl,c⟩;have b:=c.symm;subst b)|(go_at_call 84;refine g2.mono ?_;rintro e N ⟨rfl,c⟩;have b:=c.symm;subst b))
    refine X.mono ?_;rintro e a ⟨rfl,d⟩;dsimp only;have x:=zfN (W1:=a) rfl ds hl;have Q:=O.mem.below d O.mem.lt;have ai:=d.size;have aj:=O.mem.lt;have f:Below a.heap.size a ((a.alloc Z34).setCells a.heap.size 0 ds.toArray.toList):=za8 _ 0 ((Below.refl a.heap.size a).alloc (Nat.le_refl _) _) (Nat.le_refl _);have H:=Q.below f (by omega);have g5:=zdP _ _ _ _ _ _ H;rw [ae] at g5;have G:((a.alloc Z34).setCells a.heap.size 0 ds.toArray.toList).rangeAt a.heap.size 0 ds:=by rw [show ds.toArray.toList=ds by simp];exact World.rangeAt_setCells_same _ _ _ _ (by rw [show ds.length=ds.toArray.size by simp];exact x)
    have o:Below w.heap.size w ((a.alloc Z34).setCells a.heap.size 0 ds.toArray.toList):=(M.trans (Z.low.mono (by omega))).trans ((d.mono (by omega)).trans (f.mono (by omega)));have h:((a.alloc Z34).setCells a.heap.size 0 ds.toArray.toList).there w.heap.size 0 30:=za9 (za9 (za9 ad Z.low (by omega)) d (by omega)) f (by omega);have D:=zbw y d (Nat.le_refl _);have s:=zbw D f (Nat.le_refl _);have z:((a.alloc Z34).setCells a.heap.size 0 ds.toArray.toList).ownsRow (w.heap.size+1) 2 1 (.slice j no' l) FIN.out.length (i64s FIN.out):=by rw [hno];exact zbR s (by omega)
    have L:=((P.below Z.low (by omega)).below d (by omega)).below f (by omega);go_wp2_with(first|(refine wpList_store_mid rfl 34 _ _ rfl a.heap.size 0 ds.toArray rfl rfl x hi h1 ?_)|(go_at_call 87;refine g5.mono ?_;rintro e N ⟨rfl,c⟩;have b:=c.symm;subst b;refine Hid.out ?_))
    unfold Hid;have am:ds[28]?=some (.int .i64 0):=by rw [←ab];exact zlJ _ _ _
    have B:=G 28 _ am;have V:=L k u;have U:=V.2;rw [←ak.out] at U;have g6:=zia _ _ _ _ _ _ H;rw [hk] at g6;have S:((a.alloc Z34).setCells a.heap.size 0 ds.toArray.toList).frozen? ⟨a.heap.size,28,none⟩=false:=(World.there_setCells x _ _ _ 28 (by simp [hl])).2;have I:=zlK (n:=28) (v:=.int .i64 (A)) G B;rw [ah] at I;have t:(((a.alloc Z34).setCells a.heap.size 0 ds.toArray.toList).setCell ⟨a.heap.size,0+28,none⟩ (.int .i64 (A))).there w.heap.size 0 ds2.toArray.size:=by rw [show ds2.toArray.size=30 by simp [af]];exact ziq h _ _
    have E:(((a.alloc Z34).setCells a.heap.size 0 ds.toArray.toList).setCell ⟨a.heap.size,0+28,none⟩ (.int .i64 (A))).ownsRow (w.heap.size+1) 2 1 (.slice j no' l) FIN.out.length (i64s FIN.out):=zaj z (fun q hq=>Below.heap_setCell _ _ _ _ (fun e=>by have h9:=(y.lt q hq).2;simp only at e;omega));have r:=o.setCell (p:=⟨a.heap.size,0+28,none⟩) (by show w.heap.size≤a.heap.size;omega) (.int .i64 (A));clear V L;simp only [Nat.zero_add] at I t E r S B U g6;repeat(first
     | (go_at_call 85;refine g6.mono ?_;rintro e N ⟨rfl,rfl⟩;dsimp only)
     | (refine wpList_load_mid rfl 34 _ rfl a.heap.size 0 rfl ds2 _ I Y rfl T ?_)
     | (refine wpList_store_mid rfl 34 _ _ rfl w.heap.size 0 ds2.toArray rfl rfl t ar aa ?_)
     | go_values|go_skip|go_guarded|go_step|go_upon|go_back)
    exact zk2 ds2 (by rw [al.out];exact R) t r E rfl rfl
   ·rw [show(FIN.fin == 0)=false by simp [h0]] at g1;by_cases ac:FIN.fin=1∨FIN.fin=2
    ·have ae:decide (FIN.fin=1∨FIN.fin=2)=true:=by simpa using ac
     have ax:A=0:=by rw [←al.out];unfold zht;rw [if_pos ac]
     subst ax;have aA:ds=ds2:=by rw [←R,←ab]
     subst aA;go_wp2_with(first|(go_at_call 83;refine g1.mono ?_;rintro e N ⟨rfl,c⟩;have b:=c.symm;subst b)|(go_at_call 84;refine g2.mono ?_;rintro e N ⟨rfl,c⟩;have b:=c.symm;subst b))
     refine X.mono ?_;rintro e a ⟨rfl,d⟩;dsimp only;have x:=zfN (W1:=a) rfl ds hl;have Q:=O.mem.below d O.mem.lt;have ai:=d.size;have aj:=O.mem.lt;have f:Below a.heap.size a ((a.alloc Z34).setCells a.heap.size 0 ds.toArray.toList):=za8 _ 0 ((Below.refl a.heap.size a).alloc (Nat.le_refl _) _) (Nat.le_refl _);have H:=Q.below f (by omega);have g5:=zdP _ _ _ _ _ _ H;rw [ae] at g5;have G:((a.alloc Z34).setCells a.heap.size 0 ds.toArray.toList).rangeAt a.heap.size 0 ds:=by rw [show ds.toArray.toList=ds by simp];exact World.rangeAt_setCells_same _ _ _ _ (by rw [show ds.length=ds.toArray.size by simp];exact x)
     have o:Below w.heap.size w ((a.alloc Z34).setCells a.heap.size 0 ds.toArray.toList):=(M.trans (Z.low.mono (by omega))).trans ((d.mono (by omega)).trans (f.mono (by omega)));have h:((a.alloc Z34).setCells a.heap.size 0 ds.toArray.toList).there w.heap.size 0 30:=za9 (za9 (za9 ad Z.low (by omega)) d (by omega)) f (by omega);have D:=zbw y d (Nat.le_refl _);have s:=zbw D f (Nat.le_refl _);have z:((a.alloc Z34).setCells a.heap.size 0 ds.toArray.toList).ownsRow (w.heap.size+1) 2 1 (.slice j no' l) FIN.out.length (i64s FIN.out):=by rw [hno];exact zbR s (by omega)
     have L:=((P.below Z.low (by omega)).below d (by omega)).below f (by omega);go_wp2_with(first|(refine wpList_store_mid rfl 34 _ _ rfl a.heap.size 0 ds.toArray rfl rfl x hi h1 ?_)|(go_at_call 87;refine g5.mono ?_;rintro e N ⟨rfl,c⟩;have b:=c.symm;subst b;refine Hid.out ?_))
     unfold Hid;have t:((a.alloc Z34).setCells a.heap.size 0 ds.toArray.toList).there w.heap.size 0 ds.toArray.size:=by rw [show ds.toArray.size=30 by simp [af]];exact h
     simp only at G t z o;repeat(first
      | (refine wpList_load_mid rfl 34 _ rfl a.heap.size 0 rfl ds _ G Y rfl T ?_)
      | (refine wpList_store_mid rfl 34 _ _ rfl w.heap.size 0 ds.toArray rfl rfl t ar aa ?_)
      | go_values|go_skip|go_guarded|go_step|go_upon|go_back)
     exact zk2 ds (by rw [al.out];exact ab) t o z rfl rfl
    ·have ae:decide (FIN.fin=1∨FIN.fin=2)=false:=by simpa using ac
     have ak:Hid (A=C[k].2):=by rw [←al.out];show zht C FIN=C[k].2;unfold zht;rw [if_neg ac,hk,Int.toNat_natCast,List.getElem?_eq_getElem u];rfl
     go_wp2_with(first|(go_at_call 83;refine g1.mono ?_;rintro e N ⟨rfl,c⟩;have b:=c.symm;subst b)|(go_at_call 84;refine g2.mono ?_;rintro e N ⟨rfl,c⟩;have b:=c.symm;subst b))
     refine X.mono ?_;rintro e a ⟨rfl,d⟩;dsimp only;have x:=zfN (W1:=a) rfl ds hl;have Q:=O.mem.below d O.mem.lt;have ai:=d.size;have aj:=O.mem.lt;have f:Below a.heap.size a ((a.alloc Z34).setCells a.heap.size 0 ds.toArray.toList):=za8 _ 0 ((Below.refl a.heap.size a).alloc (Nat.le_refl _) _) (Nat.le_refl _);have H:=Q.below f (by omega);have g5:=zdP _ _ _ _ _ _ H;rw [ae] at g5;have G:((a.alloc Z34).setCells a.heap.size 0 ds.toArray.toList).rangeAt a.heap.size 0 ds:=by rw [show ds.toArray.toList=ds by simp];exact World.rangeAt_setCells_same _ _ _ _ (by rw [show ds.length=ds.toArray.size by simp];exact x)
     have o:Below w.heap.size w ((a.alloc Z34).setCells a.heap.size 0 ds.toArray.toList):=(M.trans (Z.low.mono (by omega))).trans ((d.mono (by omega)).trans (f.mono (by omega)));have h:((a.alloc Z34).setCells a.heap.size 0 ds.toArray.toList).there w.heap.size 0 30:=za9 (za9 (za9 ad Z.low (by omega)) d (by omega)) f (by omega);have D:=zbw y d (Nat.le_refl _);have s:=zbw D f (Nat.le_refl _);have z:((a.alloc Z34).setCells a.heap.size 0 ds.toArray.toList).ownsRow (w.heap.size+1) 2 1 (.slice j no' l) FIN.out.length (i64s FIN.out):=by rw [hno];exact zbR s (by omega)
     have L:=((P.below Z.low (by omega)).below d (by omega)).below f (by omega);go_wp2_with(first|(refine wpList_store_mid rfl 34 _ _ rfl a.heap.size 0 ds.toArray rfl rfl x hi h1 ?_)|(go_at_call 87;refine g5.mono ?_;rintro e N ⟨rfl,c⟩;have b:=c.symm;subst b;refine Hid.out ?_))
     unfold Hid;have am:ds[28]?=some (.int .i64 0):=by rw [←ab];exact zlJ _ _ _
     have B:=G 28 _ am;have V:=L k u;have U:=V.2;rw [←ak.out] at U;have g6:=zia _ _ _ _ _ _ H;rw [hk] at g6;have S:((a.alloc Z34).setCells a.heap.size 0 ds.toArray.toList).frozen? ⟨a.heap.size,28,none⟩=false:=(World.there_setCells x _ _ _ 28 (by simp [hl])).2;have I:=zlK (n:=28) (v:=.int .i64 (A)) G B;rw [ah] at I;have t:(((a.alloc Z34).setCells a.heap.size 0 ds.toArray.toList).setCell ⟨a.heap.size,0+28,none⟩ (.int .i64 (A))).there w.heap.size 0 ds2.toArray.size:=by rw [show ds2.toArray.size=30 by simp [af]];exact ziq h _ _
     have E:(((a.alloc Z34).setCells a.heap.size 0 ds.toArray.toList).setCell ⟨a.heap.size,0+28,none⟩ (.int .i64 (A))).ownsRow (w.heap.size+1) 2 1 (.slice j no' l) FIN.out.length (i64s FIN.out):=zaj z (fun q hq=>Below.heap_setCell _ _ _ _ (fun e=>by have h9:=(y.lt q hq).2;simp only at e;omega));have r:=o.setCell (p:=⟨a.heap.size,0+28,none⟩) (by show w.heap.size≤a.heap.size;omega) (.int .i64 (A));clear V L;simp only [Nat.zero_add] at I t E r S B U g6;repeat(first
      | (go_at_call 85;refine g6.mono ?_;rintro e N ⟨rfl,rfl⟩;dsimp only)
      | (refine wpList_load_mid rfl 34 _ rfl a.heap.size 0 rfl ds2 _ I Y rfl T ?_)
      | (refine wpList_store_mid rfl 34 _ _ rfl w.heap.size 0 ds2.toArray rfl rfl t ar aa ?_)
      | go_values|go_skip|go_guarded|go_step|go_upon|go_back)
     exact zk2 ds2 (by rw [al.out];exact R) t r E rfl rfl
theorem zyY{w W5 W:World}{S o B g cap cap':Nat}{ao:Option Addr}{R:Rs}{m:Mk}(A5:RsC W5 S o (.slice (some ⟨g,0,none⟩) (R.marked.length+1) cap') ⟨R.marked++[m],R.steps,R.seen,R.covers⟩)
  (K5:Kept4 w W5 S o (Value.slice ao R.marked.length cap).ownBlock) (O5:W5.ownsRow B 217 51 (.slice (some ⟨g,0,none⟩) (R.marked.length+1) cap') (R.marked.length+1) (zbi (R.marked++[m]))) (F5:∀ q,(Value.slice (some ⟨g,0,none⟩) (R.marked.length+1) cap').ownBlock=some q→(Value.slice ao R.marked.length cap).ownBlock=some q∨w.heap.size≤q)
  (hm:zbn R.steps=true) (hS:S<w.heap.size) (hmS:(Value.slice ao R.marked.length cap).ownBlock≠some S) (hW:Below W5.heap.size W5 W) :
  zcR w S o B (.slice ao R.marked.length cap) (R.see m) (.returned (.tuple #[])) ((W.setCell ⟨S,o+3,none⟩ (.bool false)).setCell ⟨S,o+2,none⟩ (.int .i64 ((R.seen:Int)+1))):=by
 have b:S<W5.heap.size:=World.block_lt_of_cell? _ _ A5.cM;have q:=A5.below hW;have d:RsC (W.setCell ⟨S,o+3,none⟩ (.bool false)) S o (.slice (some ⟨g,0,none⟩) (R.marked.length+1) cap') ⟨R.marked++[m],R.steps,R.seen,false⟩:=q.set (o+3) _ _ q.cC (by rw [if_neg (by omega)]) (by rw [if_neg (by omega)]) (by rw [if_neg (by omega)]) (by rw [if_pos rfl]);have h:RsC ((W.setCell ⟨S,o+3,none⟩ (.bool false)).setCell ⟨S,o+2,none⟩ (.int .i64 ((R.seen:Int)+1))) S o (.slice (some ⟨g,0,none⟩) (R.marked.length+1) cap') ⟨R.marked++[m],R.steps,R.seen+1,false⟩:=d.set (o+2) _ _ d.cN (by rw [if_neg (by omega)]) (by rw [if_neg (by omega)]) (by rw [if_pos rfl];go_num) (by rw [if_neg (by omega)]);have eR:R.see m=⟨R.marked++[m],R.steps,R.seen+1,false⟩:=by unfold Rs.see;rw [hm];simp
 have c:=(O5.lt g rfl).2;have a:¬g=S:=fun e=>by
  rcases F5 g rfl with e2|e2
  ·exact hmS (by rw [e2,e])
  ·omega
 refine⟨rfl,.slice (some ⟨g,0,none⟩) (R.marked.length+1) cap',by rw [eR];exact h,?_,F5,K5.trans ((zc7 b hW).trans ((zcg q.cC (by omega)).trans (zcg d.cN (by omega))))⟩;rw [eR];show World.ownsRow _ B 217 51 _ (R.marked++[m]).length _;rw [List.length_append];refine zbX O5 (fun q hq=>?_);have f:g=q:=by have:some g=some q:=hq;simpa using this
 subst f;exact(Below.heap_setCell _ _ _ g a).trans ((Below.heap_setCell _ _ _ g a).trans (hW.block g c))
theorem zwV{w:World}{S o B cap:Nat}{ao:Option Addr}{R:Rs}{x:Wy}(h:RsC w S o (.slice ao R.marked.length cap) R)(fz:∀ j,w.frozen? ⟨S,j,none⟩=false)(hm:zbn R.steps=true)(s0:0≤R.steps)(s1:R.steps≤100000)(M:w.ownsRow B 217 51 (.slice ao R.marked.length cap) R.marked.length (zbi R.marked))(X:WyM w x)(hB:B≤w.heap.size)(hmS:(Value.slice ao R.marked.length cap).ownBlock≠some S)(hl:R.marked.length≤500000)(hn:R.seen≤500000):
  Calls Tryz.prog 152 #[.pointer (some ⟨S,o,none⟩),.pointer (some ⟨x.b,0,none⟩)] w (zcR w S o B (.slice ao R.marked.length cap) (R.see ⟨x.ao,x.cap,x.k⟩)):=by
 have V:S<w.heap.size:=World.block_lt_of_cell? w _ h.cM;have G:Calls Tryz.prog 167 #[.pointer (some ⟨S,o,none⟩)] w fun e w'=>e=.returned (.bool true)∧Below w.heap.size w w':=by
  have:=zc6 h.cS s0 s1;rw [hm] at this;exact this
 obtain⟨i0,z0,aa,ab,ac,ad,ae⟩:=zkP;have A:(zaS (.slice x.ao x.k.behind.length x.cap) x.k).length=51:=zdo _ _;have E:∀ W,Below w.heap.size w W→W.rangeAt x.b 0 (zaS (.slice x.ao x.k.behind.length x.cap) x.k):=fun W d=>(X.below d).kn.cells';have C:∀ u∈zaS (.slice x.ao x.k.behind.length x.cap) x.k,u.oneCell'=true:=zop;have N:Hid (zbi R.marked++zaS (.slice x.ao x.k.behind.length x.cap) x.k=zbi (R.marked++[⟨x.ao,x.cap,x.k⟩])):=(zm1 R.marked ⟨x.ao,x.cap,x.k⟩).symm;generalize af:zaS (.slice x.ao x.k.behind.length x.cap) x.k=cs at A E C N;clear af;have r:∀ W,Below w.heap.size w W→W.cell? ⟨S,o,none⟩=some (.slice ao R.marked.length cap):=fun W d=>(h.below d).cM;have z:(Tryz.prog.info? 217).map (·.size)=some cs.length:=by rw [A];exact Tryz.size217
 have hu:Tryz.prog.underlying 217=some (.struct _):=Tryz.underlying217;go_enter Tryz.func152,Tryz.ntmps152;go_wp2_with(go_at_call 167;(with_reducible refine G.mono ?_);rintro e m ⟨rfl,Y⟩)
 have t:Below w.heap.size w m.drew:=Y.drew;have f1:=r _ t;have O:=E _ t;refine wp_region_any (by kernel_rfl) ?_;change wpAny _ _ _ _ _ _ _ (World.drew _);refine wpAny_take (i:=0) (v:=?_) rfl (by kernel_rfl) (by kernel_rfl) (by kernel_rfl) (fun _ _ _ h=>h) (Or.inl ⟨by rfl,?_⟩) ?_;rotate_left 1
 ·intro w;go_simp;with_reducible rfl
 simp only [List.getElem_toArray,List.getElem_cons_zero,Act.put,List.setIfInBounds_toArray,List.set_cons_zero,List.set_cons_succ];refine wpAny_take (i:=1) (v:=?_) rfl (by kernel_rfl) (by kernel_rfl) (by kernel_rfl) (fun _ _ _ h=>h) (Or.inl ⟨by rfl,?_⟩) ?_;rotate_left 1
 ·intro w;go_simp;with_reducible rfl
 simp only [List.getElem_toArray,List.getElem_cons_zero,List.getElem_cons_succ,Act.put,List.setIfInBounds_toArray,List.set_cons_zero,List.set_cons_succ];refine wpAny_take (i:=2) (v:=?_) rfl (by kernel_rfl) (by kernel_rfl) (by kernel_rfl) (fun _ _ _ h=>h) (Or.inl ⟨by rfl,?_⟩) ?_;rotate_left 1
 ·intro w;go_simp;with_reducible rfl
 simp only [List.getElem_toArray,List.getElem_cons_zero,List.getElem_cons_succ,Act.put,List.setIfInBounds_toArray,List.set_cons_zero,List.set_cons_succ];refine wpAny_take (i:=3) (v:=?_) rfl (by kernel_rfl) (by kernel_rfl) (by kernel_rfl) (fun _ _ _ h=>h) (Or.inl ⟨by rfl,?_⟩) ?_;rotate_left 1
 ·intro w;go_simp;with_reducible rfl
 simp only [List.getElem_toArray,List.getElem_cons_zero,List.getElem_cons_succ,Act.put,List.setIfInBounds_toArray,List.set_cons_zero,List.set_cons_succ];refine wpAny_take (i:=5) (v:=?_) rfl (by kernel_rfl) (by kernel_rfl) (by kernel_rfl) (fun _ _ _ h=>h) (Or.inl ⟨by rfl,?_⟩) ?_;rotate_left 1
 ·intro w;go_simp;with_reducible rfl
 simp only [List.getElem_toArray,List.getElem_cons_zero,List.getElem_cons_succ,Act.put,List.setIfInBounds_toArray,List.set_cons_zero,List.set_cons_succ];refine wpAny_take (i:=6) (v:=?_) rfl (by kernel_rfl) (by kernel_rfl) (by kernel_rfl) (fun _ _ _ h=>h) (Or.inl ⟨by rfl,?_⟩) ?_;rotate_left 1
 ·intro w;go_simp;with_reducible rfl
 simp only [List.getElem_toArray,List.getElem_cons_zero,List.getElem_cons_succ,Act.put,List.setIfInBounds_toArray,List.set_cons_zero,List.set_cons_succ];have l:∀ o,Below w.heap.size w (m.drew.alloc o):=fun o=>t.alloc t.size o;have f2:=r _ (l (.cells cs.toArray 217));have f3:(m.alloc (.cells cs.toArray 217)).cell? ⟨S,o,none⟩=some (.slice ao R.marked.length cap):=f2;have U:∀ j,(m.drew.alloc (.cells cs.toArray 217)).frozen? ⟨S,j,none⟩=false:=fun j=>(World.frozen?_of_block (a:=⟨S,j,none⟩) ((l _).block S V)).trans (fz j);refine zub 4 7 (by kernel_rfl) rfl rfl (.slice ao R.marked.length cap) m.drew (by go_simp) ?_ rfl rfl (.agg cs.toArray) m.drew (zhj 217 _ rfl x.b 0 rfl cs _ O hu rfl z) ?_;simp only [List.getElem_toArray,List.getElem_cons_zero,List.getElem_cons_succ,Act.put,List.setIfInBounds_toArray,List.set_cons_zero,List.set_cons_succ];refine zdp 7 (by kernel_rfl) rfl rfl (.agg cs.toArray) m.drew (zhj 217 _ rfl x.b 0 rfl cs _ O hu rfl z) ?_;simp only [List.getElem_toArray,List.getElem_cons_zero,List.getElem_cons_succ,Act.put,List.setIfInBounds_toArray,List.set_cons_zero,List.set_cons_succ];refine zdp 8 (by kernel_rfl) rfl rfl (.slice (some ⟨m.drew.heap.size,0,none⟩) 1 1) (m.drew.alloc (.cells cs.toArray 217)) (zea _ rfl cs rfl A _) ?_;simp only [List.getElem_toArray,List.getElem_cons_zero,List.getElem_cons_succ,Act.put,List.setIfInBounds_toArray,List.set_cons_zero,List.set_cons_succ];rotate_left 1;simp only [List.getElem_toArray,List.getElem_cons_zero,List.getElem_cons_succ,Act.put,List.setIfInBounds_toArray,List.set_cons_zero,List.set_cons_succ];refine zub 4 8 (by kernel_rfl) rfl rfl (.slice ao R.marked.length cap) m.drew (by go_simp) ?_ rfl rfl (.slice (some ⟨m.drew.heap.size,0,none⟩) 1 1) (m.drew.alloc (.cells cs.toArray 217)) (zea _ rfl cs rfl A _) ?_;simp only [List.getElem_toArray,List.getElem_cons_zero,List.getElem_cons_succ,Act.put,List.setIfInBounds_toArray,List.set_cons_zero,List.set_cons_succ];refine zdp 8 (by kernel_rfl) rfl rfl (.slice (some ⟨m.drew.heap.size,0,none⟩) 1 1) (m.drew.alloc (.cells cs.toArray 217)) (zea _ rfl cs rfl A _) ?_;simp only [List.getElem_toArray,List.getElem_cons_zero,List.getElem_cons_succ,Act.put,List.setIfInBounds_toArray,List.set_cons_zero,List.set_cons_succ];rotate_left 1;simp only [List.getElem_toArray,List.getElem_cons_zero,List.getElem_cons_succ,Act.put,List.setIfInBounds_toArray,List.set_cons_zero,List.set_cons_succ];refine zdp 4 (by kernel_rfl) rfl rfl (.slice ao R.marked.length cap) (m.drew.alloc (.cells cs.toArray 217)) (by go_simp) ?_;simp only [List.getElem_toArray,List.getElem_cons_zero,List.getElem_cons_succ,Act.put,List.setIfInBounds_toArray,List.set_cons_zero,List.set_cons_succ];all_goals
  refine wpAny_ready (rs:=[9]) (by kernel_rfl) (by simp) (AllReady.cons rfl (fun K hK=>?_) AllReady.nil);refine step_append_lies _ rfl _ _ _ rfl B 217 i0 z0 51 424 Tryz.under152 aa ab ac ad ae (by omega) (.slice ao R.marked.length cap) R.marked.length (zbi R.marked) rfl (zbX M (fun q hq=>(l _).block q (M.lt q hq).2)) ⟨m.drew.heap.size,0,none⟩ 1 1 cs rfl (by rw [A]) (zyU m.drew cs) C (by omega) (by unfold maxLen;omega) (by omega) (Nat.le_trans hB (l _).size) _ rfl ?_;intro g c p D f L hg4;refine hK _ _ ?_;clear hK;simp only [List.getElem_toArray,List.getElem_cons_zero,List.getElem_cons_succ,Act.put,List.setIfInBounds_toArray,List.set_cons_zero,List.set_cons_succ];have F:some S≠(Value.slice ao R.marked.length cap).ownBlock:=fun e=>hmS e.symm;have s:S<(m.drew.alloc (.cells cs.toArray 217)).heap.size:=Nat.lt_of_lt_of_le V (l _).size;have c4:p.cell? ⟨S,o,none⟩=some (.slice ao R.marked.length cap):=(World.cell?_of_block (a:=⟨S,o,none⟩) (f.block S s F)).trans f2;have z4:p.frozen? ⟨S,o,none⟩=false:=(World.frozen?_of_block (a:=⟨S,o,none⟩) (f.block S s F)).trans (U o);refine zdp 10 (by kernel_rfl) rfl rfl (.pointer (some ⟨S,o,none⟩)) (p) ?_ ?_
  ·go_simp
  simp only [List.getElem_toArray,List.getElem_cons_zero,List.getElem_cons_succ,Act.put,List.setIfInBounds_toArray,List.set_cons_zero,List.set_cons_succ];refine zdp 11 (by kernel_rfl) rfl rfl (.pointer (some ⟨S,o,none⟩)) (p) ?_ ?_
  ·go_simp
  simp only [List.getElem_toArray,List.getElem_cons_zero,List.getElem_cons_succ,Act.put,List.setIfInBounds_toArray,List.set_cons_zero,List.set_cons_succ];refine zwQ 12 (by kernel_rfl) rfl rfl (p.setCell ⟨S,o,none⟩ (.slice (some ⟨g,0,none⟩) (R.marked.length+1) c)) ?_ ?_
  ·go_simp
  simp only [List.getElem_toArray,List.getElem_cons_zero,List.getElem_cons_succ,Act.put];refine wpAny_done (by kernel_rfl) ?_ _;have K4:Kept4 w p S o (Value.slice ao R.marked.length cap).ownBlock:=(zc7 V (l _)).trans (zor s hmS f);have A4:RsC p S o (.slice ao R.marked.length cap) R:=by
   have e:∀ j,p.cell? ⟨S,j,none⟩=w.cell? ⟨S,j,none⟩:=fun j=>(World.cell?_of_block (a:=⟨S,j,none⟩) (f.block S s F)).trans (World.cell?_of_block (a:=⟨S,j,none⟩) ((l _).block S V));exact⟨c4,(e _).trans h.cS,(e _).trans h.cN,(e _).trans h.cC⟩
  have Q:RsC (p.setCell ⟨S,o,none⟩ (.slice (some ⟨g,0,none⟩) (R.marked.length+1) c)) S o (.slice (some ⟨g,0,none⟩) (R.marked.length+1) c) ⟨R.marked++[⟨x.ao,x.cap,x.k⟩],R.steps,R.seen,R.covers⟩:=A4.set o _ _ c4 (by rw [if_pos rfl]) (by rw [if_neg (by omega)]) (by rw [if_neg (by omega)]) (by rw [if_neg (by omega)]);have K5:=K4.trans (zcg (o:=o) (hb:=(Value.slice ao R.marked.length cap).ownBlock) (v:=.slice (some ⟨g,0,none⟩) (R.marked.length+1) c) c4 (by omega));have Z:¬g=S:=by
   rcases L with e|e
   ·intro e2;exact hmS (by rw [e,e2])
   ·omega
  have O5:(p.setCell ⟨S,o,none⟩ (.slice (some ⟨g,0,none⟩) (R.marked.length+1) c)).ownsRow B 217 51 (.slice (some ⟨g,0,none⟩) (R.marked.length+1) c) (R.marked.length+1) (zbi (R.marked++[⟨x.ao,x.cap,x.k⟩])):=by
   rw [←N.out];exact zbX D (fun q hq=>Below.heap_setCell _ _ _ q (fun e=>Z (by cases hq;exact e)))
  have T:Hid (Kept4 w (p.setCell ⟨S,o,none⟩ (.slice (some ⟨g,0,none⟩) (R.marked.length+1) c)) S o (Value.slice ao R.marked.length cap).ownBlock∧(p.setCell ⟨S,o,none⟩ (.slice (some ⟨g,0,none⟩) (R.marked.length+1) c)).ownsRow B 217 51 (.slice (some ⟨g,0,none⟩) (R.marked.length+1) c) (R.marked.length+1) (zbi (R.marked++[⟨x.ao,x.cap,x.k⟩]))∧(∀ q,(Value.slice (some ⟨g,0,none⟩) (R.marked.length+1) c).ownBlock=some q→(Value.slice ao R.marked.length cap).ownBlock=some q∨w.heap.size≤q)):=⟨K5,O5,fun q hq=>by
   have eq:g=q:=by have:some g=some q:=hq;simpa using this
   rcases L with e|e
   ·exact .inl (by rw [e,eq])
   ·exact .inr (by have:=(l (.cells cs.toArray 217)).size;omega)⟩
  have J:∀ j,(p.setCell ⟨S,o,none⟩ (.slice (some ⟨g,0,none⟩) (R.marked.length+1) c)).frozen? ⟨S,j,none⟩=false:=fun j=>(K5.fz j).trans (fz j);clear K4 A4 K5 O5 c4 z4 f D L F s Z;generalize p.setCell ⟨S,o,none⟩ (.slice (some ⟨g,0,none⟩) (R.marked.length+1) c)=W5 at Q T J ⊢;go_wp2;have I:∀ W,Below W5.heap.size W5 W→RsC W S o (.slice (some ⟨g,0,none⟩) (R.marked.length+1) c) ⟨R.marked++[⟨x.ao,x.cap,x.k⟩],R.steps,R.seen,R.covers⟩∧∀ j,W.frozen? ⟨S,j,none⟩=false:=fun W d=>⟨Q.below d,fun j=>(World.frozen?_of_block (a:=⟨S,j,none⟩) (d.block S (World.block_lt_of_cell? _ _ Q.cM))).trans (J j)⟩
  have n:Hid (∀ W,Below W5.heap.size W5 W→zcR w S o B (.slice ao R.marked.length cap) (R.see ⟨x.ao,x.cap,x.k⟩) (.returned (.tuple #[])) ((W.setCell ⟨S,o+3,none⟩ (.bool false)).setCell ⟨S,o+2,none⟩ (.int .i64 ((R.seen:Int)+1)))):=fun W d=>zyY Q T.out.1 T.out.2.1 T.out.2.2 hm V hmS d;have H:∀ W,Below W5.heap.size W5 W→Calls Tryz.prog 167 #[.pointer (some ⟨S,o,none⟩)] W fun e w'=>e=.returned (.bool true)∧Below W5.heap.size W5 w':=fun W d=>by
   have:=zc6 (I W d).1.cS s0 s1;rw [show zbn (⟨R.marked++[⟨x.ao,x.cap,x.k⟩],R.steps,R.seen,R.covers⟩:Rs).steps=true from hm] at this;exact this.mono fun e w' hh=>⟨hh.1,d.trans (hh.2.mono d.size)⟩
  clear T Q J G Y t f1 O l f2 f3 U C A z N r E aa ab ac ad ae hu M X h hmS;cases hcv:R.covers with
  | true =>
   have r:∀ W,Below W5.heap.size W5 W→W.cell? ⟨S,o+3,none⟩=some (.bool true):=fun W d=>by rw [←hcv];exact(I W d).1.cC
   refine zad 35 (fun W=>Below W5.heap.size W5 W) (Below.refl _ _).drew (by kernel_rfl) (by kernel_rfl) ?_;simp only [List.take_succ_cons,List.take_zero,List.drop_succ_cons,List.drop_zero];iterate 6 (refine zab rfl ?_ (fun W d=>?_) ?_;rotate_left 1;· (have P:=r W d;go_simp;with_reducible rfl))
   simp only [Act.put,List.setIfInBounds_toArray,List.set_cons_zero,List.set_cons_succ];iterate 1 (go_big_quiet_want;rename_i K hK;refine⟨?_,fun W d=>?_,hK _ ?_⟩;rotate_left 1;(· (unfold Oper.quietAt;go_simp;with_reducible rfl));clear hK K;simp only [Act.put,List.setIfInBounds_toArray,List.set_cons_zero,List.set_cons_succ])
   go_big_quiet_want;rename_i K hK;refine⟨.bool true,fun W d=>?_,hK _ ?_⟩
   ·unfold Oper.quietAt;go_simp
   clear hK K;simp only [Act.put,List.setIfInBounds_toArray,List.set_cons_zero,List.set_cons_succ];iterate 1 (go_big_quiet_want;rename_i K hK;refine⟨?_,fun W d=>?_,hK _ ?_⟩;rotate_left 1;(· (unfold Oper.quietAt;go_simp;with_reducible rfl));clear hK K;simp only [Act.put,List.setIfInBounds_toArray,List.set_cons_zero,List.set_cons_succ])
   iterate 2 (refine zab rfl ?_ (fun W d=>?_) ?_;rotate_left 1;· (have P:=r W d;go_simp;with_reducible rfl))
   simp only [Act.put,List.setIfInBounds_toArray,List.set_cons_zero,List.set_cons_succ];iterate 10 go_big_quiet_skip
   iterate 2 (refine zab rfl ?_ (fun W d=>?_) ?_;rotate_left 1;· (have P:=r W d;go_simp;with_reducible rfl))
   simp only [Act.put,List.setIfInBounds_toArray,List.set_cons_zero,List.set_cons_succ];iterate 11 go_big_quiet_skip
   iterate 1 (refine zab rfl ?_ (fun W d=>?_) ?_;rotate_left 1;· (have P:=r W d;go_simp;with_reducible rfl))
   simp only [Act.put,List.setIfInBounds_toArray,List.set_cons_zero,List.set_cons_succ];refine wpQuiet_nil ?_;intro W d;obtain⟨⟨d0,d1,d2,d3⟩,zz⟩:=I W d;have z2:=zz (o+2);have z3:=zz (o+3);have y:=n.out W d;have ag:(0:Int)≤(R.seen:Int):=by omega
   have ah:(R.seen:Int)≤500000:=by omega
   simp only at d2 d3;clear I n H;go_wp2;exact bodyPost_end (results_none rfl _ _ _) rfl y
  | false =>
   have r:∀ W,Below W5.heap.size W5 W→W.cell? ⟨S,o+3,none⟩=some (.bool false):=fun W d=>by rw [←hcv];exact(I W d).1.cC
   clear H;refine zad 35 (fun W=>Below W5.heap.size W5 W) (Below.refl _ _).drew (by kernel_rfl) (by kernel_rfl) ?_;simp only [List.take_succ_cons,List.take_zero,List.drop_succ_cons,List.drop_zero];iterate 6 (refine zab rfl ?_ (fun W d=>?_) ?_;rotate_left 1;· (have P:=r W d;go_simp;with_reducible rfl))
   simp only [Act.put,List.setIfInBounds_toArray,List.set_cons_zero,List.set_cons_succ];iterate 3 go_big_quiet_skip
   iterate 2 (refine zab rfl ?_ (fun W d=>?_) ?_;rotate_left 1;· (have P:=r W d;go_simp;with_reducible rfl))
   simp only [Act.put,List.setIfInBounds_toArray,List.set_cons_zero,List.set_cons_succ];iterate 10 go_big_quiet_skip
   iterate 2 (refine zab rfl ?_ (fun W d=>?_) ?_;rotate_left 1;· (have P:=r W d;go_simp;with_reducible rfl))
   simp only [Act.put,List.setIfInBounds_toArray,List.set_cons_zero,List.set_cons_succ];iterate 11 go_big_quiet_skip
   iterate 1 (refine zab rfl ?_ (fun W d=>?_) ?_;rotate_left 1;· (have P:=r W d;go_simp;with_reducible rfl))
   simp only [Act.put,List.setIfInBounds_toArray,List.set_cons_zero,List.set_cons_succ];refine wpQuiet_nil ?_;intro W d;obtain⟨⟨d0,d1,d2,d3⟩,zz⟩:=I W d;have z2:=zz (o+2);have z3:=zz (o+3);have y:=n.out W d;have ag:(0:Int)≤(R.seen:Int):=by omega
   have ah:(R.seen:Int)≤500000:=by omega
   simp only at d2 d3;clear I n;go_wp2;exact bodyPost_end (results_none rfl _ _ _) rfl y
end Go.Proofs.YtfpgjkbjbbgciaaGreatDoor
