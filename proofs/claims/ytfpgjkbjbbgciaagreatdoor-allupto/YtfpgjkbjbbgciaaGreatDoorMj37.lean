import Derived.Test.YtfpgjkbjbbgciaaGreatDoorMj34
import Derived.Test.YtfpgjkbjbbgciaaGreatDoorMj36
set_option maxRecDepth 100000
set_option maxHeartbeats 8000000
namespace Go.Proofs.YtfpgjkbjbbgciaaGreatDoor
section
open Go.RowKit Sp
def newL(iv:Value):List Value:=List.replicate 24 (.int .i64 0)++[iv,.slice none 0 0,.int .i64 0,.slice none 0 0,.int .i64 0,.int .i64 1,.int .i64 0]
theorem zwa(ao:Option Addr)(n c:Nat):Tryz.prog.built 195 [(2,.slice ao n c),(7,.int .i64 1)]=some (newL (.slice ao n c)).toArray:=by kernel_rfl
theorem zqG(iv:Value):(newL iv)[24]?=some iv∧(newL iv)[25]?=some (.slice none 0 0)∧(newL iv)[26]?=some (.int .i64 0)∧(newL iv)[27]?=some (.slice none 0 0)∧(newL iv)[28]?=some (.int .i64 0)∧(newL iv)[29]?=some (.int .i64 1)∧(newL iv)[30]?=some (.int .i64 0):=⟨rfl,rfl,rfl,rfl,rfl,rfl,rfl⟩
theorem zlS(iv:Value)(i:Nat)(h:i<24):(newL iv)[i]?=some (.int .i64 0):=by
 unfold newL;rw [List.getElem?_append_left (by simpa using h),List.getElem?_replicate,if_pos h]
theorem zyo(w:World)(iv:Value)(inp:List Int):MchM (w.alloc (.cells (newL iv).toArray 195)) w.heap.size (.slice none 0 0) iv (.slice none 0 0) (zb0 inp):=by
 have f:=zee w (newL iv) 195;have a:∀ j v,(newL iv)[j]?=some v→(w.alloc (.cells (newL iv).toArray 195)).cell? ⟨w.heap.size,j,none⟩=some v:=fun j v hv=>by have:=f j v hv;rwa [Nat.zero_add] at this
 obtain⟨c,h,g,b,e,k,d⟩:=zqG iv;exact⟨fun i hi=>a i _ (zlS iv i (by omega)),fun i hi=>a (8+i) _ (zlS iv _ (by omega)),a _ _ c,a _ _ h,a _ _ g,a _ _ b,a _ _ e,a _ _ k,a _ _ d,fun o=>by simp⟩
theorem zwb(w:World)(ao:Option Addr)(icap:Nat)(inp:List Int)(hiv:SlB w w.heap.size (.slice ao inp.length icap) inp):
  qC 82 #[.slice ao inp.length icap] w fun e w'=>e=.returned (.pointer (some ⟨w.heap.size,0,none⟩))∧(∃ bv iv ov,MchAt w' w.heap.size (zb0 inp) bv iv ov)∧qB w w':=by
 have a:=zwa ao inp.length icap;have b:=zyo w (.slice ao inp.length icap) inp;generalize hds:newL (.slice ao inp.length icap)=ds at a b;go_enter Tryz.func82,Tryz.ntmps82;go_wp2_with(first
  | (refine wpList_build rfl 195 _ rfl ?_ ?_
     ·simp [Act.eval,a]
     simp only [List.map_toArray,List.map_cons,List.map_nil,Act.eval];refine Hid.out ?_))
 unfold Hid
 erw [a]
 simp only [Option.getD_some,Act.put,q1];go_wp2_with(first|(refine Go.Great.wpList_boxTo rfl 195 _ rfl _ rfl w.heap.size rfl ds.toArray rfl ?_))
 go_ret;have c:qB w (w.alloc (.cells ds.toArray 195)):=(Below.refl _ _).alloc (Nat.le_refl _) _;exact⟨rfl,⟨_,_,_,b,World.ownsRow_nil _ _ _ _,World.ownsRow_nil _ _ _ _,hiv.below c⟩,c⟩
theorem zyx(s:ByteArray)(h:zbT s (zaQ s))(w:World)(hw:LibW w)(hs:s.size≤1048576):
  qC 3 #[.string s] w (qR w (.bool true)):=by
 have a:=ztb s (zaQ s) h w hw;have c:=fun d=>zdM s d hs;generalize zaQ s=R at a c;go_enter Tryz.func3,Tryz.ntmps3;go_wp2_with(first
  | (go_at_call 15;refine a.mono ?_;rintro e d ⟨rfl,b⟩)
  | (go_at_call 16;refine(c d).mono ?_;rintro e w2 ⟨v,rfl,f,_⟩))
 go_ret;exact⟨rfl,b.trans (f.mono b.size)⟩
end
section
open Go.ChangeShapes Go.WideShapes Go.ChangeAt Go.RowKit Sp
open Go.ChangeMaps (open_string shut_string)
theorem zjT{H:Type}(l r:List (DataW H)):l.length+r.length≤Rows.uptoBulk (.slice l r):=by
 have a:∀ l:List (DataW H),l.length≤Rows.uptoBulkAll l:=by
  intro l
  induction l with
  | nil=>simp
  | cons d l ih =>
   have:1≤Rows.uptoBulk d:=by
    cases d with
    | lit l=>cases l <;> simp [Rows.uptoBulk]
    | _=>simp [Rows.uptoBulk]
   simp only [Rows.uptoBulkAll,List.length_cons];omega
 have h1:=a l;have h2:=a r;simp only [Rows.uptoBulk];omega
end
namespace Sp
end Sp
section
open Go.RowKit Sp
end
namespace Sp
end Sp
section
open Go.RowKit Sp
def zwI(w:World)(S o B H cap:Nat)(xs:List Wy):Ending→World→Prop:=fun e w'=>e=.returned (.pointer (some ⟨(xs.getD 0 wy0).b,0,none⟩))∧∃ ys:List Wy,(xs.getD 0 wy0 :: ys).Perm xs∧w'.cell? ⟨S,o,none⟩=some (.slice (some ⟨H,0,none⟩) ys.length cap)∧HeapM w' B (.slice (some ⟨H,0,none⟩) ys.length cap) ys∧HpAll (stp ys) ys.length∧WyM w' (xs.getD 0 wy0)∧Kept2 w w' S o (some H)
theorem zus{w:World}{S o B H cap:Nat}{xs:List Wy}(hc:w.cell? ⟨S,o,none⟩=some (.slice (some ⟨H,0,none⟩) xs.length cap))(hz:w.frozen? ⟨S,o,none⟩=false)(M:HeapM w B (.slice (some ⟨H,0,none⟩) xs.length cap) xs)(hA:HpAll (stp xs) xs.length)(hne:0<xs.length)(hlen:xs.length≤100000)(hSH:¬S=H)(hS:∀ y∈xs,¬y.b=S∧∀ a,y.ao=some a→¬a.block=S):
  qC 139 #[.pointer (some ⟨S,o,none⟩)] w (zwI w S o B H cap xs):=by
 obtain⟨P,X,Y,p3⟩:=M.hp;obtain⟨m,k⟩:∃ m,xs.length=m+1:=⟨xs.length-1,by omega⟩
 have K:S<w.heap.size:=World.block_lt_of_cell? w _ hc;have T:=(P.at' (i:=0) (by omega)).1;have U:=(P.at' (i:=m) (by omega)).1;obtain⟨v,d⟩:∃ v,v=(w.setCell ⟨H,0,none⟩ (.pointer (some ⟨(xs.getD m wy0).b,0,none⟩))).setCell ⟨H,m,none⟩ (.pointer none):=⟨_,rfl⟩
 obtain⟨f,t⟩:∃ f,f=v.setCell ⟨S,o,none⟩ (.slice (some ⟨H,0,none⟩) m cap):=⟨_,rfl⟩
 have u:¬H=S:=fun e=>hSH e.symm;have G:∀ q,¬q=H→v.heap[q]?=w.heap[q]?:=fun q hq=>by rw [d];exact(Below.heap_setCell _ _ _ q hq).trans (Below.heap_setCell _ _ _ q hq)
 have I:∀ q,¬q=S→f.heap[q]?=v.heap[q]?:=fun q hq=>by rw [t];exact Below.heap_setCell _ _ _ q hq
 have s1:v.heap.size=w.heap.size:=by rw [d,World.size_setCell,World.size_setCell]
 have s2:f.heap.size=w.heap.size:=by rw [t,World.size_setCell,s1]
 have l0:(w.setCell ⟨H,0,none⟩ (.pointer (some ⟨(xs.getD m wy0).b,0,none⟩))).cell? ⟨H,m,none⟩=some (.pointer (some ⟨(xs.getD m wy0).b,0,none⟩)):=by
  rw [zat w H 0 m _ _ T];split
  ·rfl
  ·exact U
 have A:v.cell? ⟨S,o,none⟩=some (.slice (some ⟨H,0,none⟩) xs.length cap):=(World.cell?_of_block (a:=⟨S,o,none⟩) (G S hSH)).trans hc;have R:f.cell? ⟨S,o,none⟩=some (.slice (some ⟨H,0,none⟩) m cap):=by rw [t];exact World.cell?_setCell_same _ _ _ A
 have E:∀ x∈xs,WyM f x:=fun x hx=>by
  obtain⟨Z,f2⟩:=P.far x hx;obtain⟨f3,f4⟩:=hS x hx;rw [t,d];exact(((P.wy x hx).other Z f2).other Z f2).other f3 f4
 have V:HpM f H cap (zgV xs m):=by
  refine⟨fun i x hx=>?_,fun x hx=>E x (zm2 k x hx),by rw [s2];exact P.lt,fun x hx=>P.far x (zm2 k x hx),fun j=>?_,?_⟩
  ·have Q:i<m:=by have:=(List.getElem?_eq_some_iff.1 hx).1;rw [zgv k] at this;exact this
   rw [zp1 k Q] at hx;rw [World.cell?_of_block (a:=⟨H,i,none⟩) (I H u),d,zat _ H m i _ _ l0,if_neg (by omega),zat w H 0 i _ _ T];cases hx;by_cases e:i=0
   ·rw [if_pos e,if_pos e]
   ·rw [if_neg e,if_neg e];exact(P.at' (i:=i) (by omega)).1
  ·rw [World.frozen?_of_block (a:=⟨H,j,none⟩) (I H u),d,zdj,zdj];exact P.fz j
  ·obtain⟨cur,L,F⟩:=P.shape;refine⟨_,(I H u).trans (by rw [d];exact heap_setCell_same _ H m _ 197 _ (heap_setCell_same _ H 0 _ 197 _ L)),by simpa using F⟩
 have O:∀ W',f.grownBy W' (some H)→Kept2 w W' S o (some H):=fun W' h=>by
  have z:W'.heap[S]?=f.heap[S]?:=h.block S (by omega) (fun e=>hSH (by cases e;rfl));refine⟨h.os.trans (by rw [t,d];rfl),h.tape.trans (by rw [t,d];rfl),h.output.trans (by rw [t,d];rfl),by rw [←s2];exact h.size,fun q hq L F=>?_,fun j hj=>?_,fun j=>?_⟩
  ·exact(h.block q (by omega) F).trans ((I q L).trans (G q (fun e=>F (by rw [e]))))
  ·rw [World.cell?_of_block (w:=f) (a:=⟨S,j,none⟩) z,t,zat _ S o j _ _ A,if_neg hj];exact World.cell?_of_block (a:=⟨S,j,none⟩) (G S hSH)
  ·rw [World.frozen?_of_block (w:=f) (a:=⟨S,j,none⟩) z,t,zdj];exact World.frozen?_of_block (a:=⟨S,j,none⟩) (G S hSH)
 have r:xs.getD 0 wy0∈xs:=(zgW k).mem_iff.1 List.mem_cons_self;have p:∀ W' c,f.grownBy W' (some H)→c.Perm (zgV xs m)→HpM W' H cap c→HpAll (stp c) c.length→∃ c:List Wy,(xs.getD 0 wy0 :: c).Perm xs∧W'.cell? ⟨S,o,none⟩=some (.slice (some ⟨H,0,none⟩) c.length cap)∧HeapM W' B (.slice (some ⟨H,0,none⟩) c.length cap) c∧HpAll (stp c) c.length∧WyM W' (xs.getD 0 wy0)∧Kept2 w W' S o (some H):=fun W' c h hp J s=>by
  have N:c.length=m:=by rw [hp.length_eq,zgv k]
  refine⟨c,(List.Perm.cons _ hp).trans (zgW k),?_,J.heap (by omega) Y p3,s,(E _ r).grown h (fun g e=>by cases e;exact P.far _ r),O W' h⟩;rw [World.cell?_of_block (w:=f) (a:=⟨S,o,none⟩) (h.block S (by omega) (fun e=>hSH (by cases e;rfl))),R,N]
 rw [k] at hc X;refine(zur hc hz hSH (by omega) X Y T U P.fz K (fun W'=>∃ c:List Wy,(xs.getD 0 wy0 :: c).Perm xs∧W'.cell? ⟨S,o,none⟩=some (.slice (some ⟨H,0,none⟩) c.length cap)∧HeapM W' B (.slice (some ⟨H,0,none⟩) c.length cap) c∧HpAll (stp c) c.length∧WyM W' (xs.getD 0 wy0)∧Kept2 w W' S o (some H)) (fun W hW=>?_)).mono fun e C hh=>hh;rw [←d,←t] at hW;have l:qB f W:=by unfold qB;rw [s2];exact hW
 by_cases h0:m=0
 ·subst h0;refine zrp.mono ?_;rintro e C ⟨rfl,hb⟩;have D:qB f C:=l.trans (hb.mono l.size);exact⟨rfl,p C (zgV xs 0) (zaV D) (List.Perm.refl _) (V.below D) (fun i Q hn=>by rw [zgv k] at hn;omega)⟩
 ·have hR:SinkI (stp (zgV xs m)) m 0:=SinkI.head (m:=m) (n:=xs.length) hA (by omega) (fun i Q hn=>by
   unfold stp;have e:=zp1 k (i:=i) hn;rw [if_neg (by omega)] at e;simp only [List.getD,e];rfl)
  refine(zwG (cap:=cap) (V.below l) (zgv k) 0 (by omega) (by omega) hR).mono ?_;rintro e C ⟨rfl,c,hp,J,s,h⟩;exact⟨rfl,p C c (zag (zaV l) h) hp J s⟩
theorem ztw (v:Value) (w:World):(method 422 171 v "Do").run Tryz.prog w=.ok (232,v) w:=by kernel_rfl
theorem zqL(args:Array Value)(w:World):(callFunc 232 args).run Tryz.prog w=.ok (.enter 232 args) w:=by kernel_rfl
theorem ztx (v:Value) (w:World):(method 422 172 v "Do").run Tryz.prog w=.ok (239,v) w:=by kernel_rfl
theorem zqM(args:Array Value)(w:World):(callFunc 239 args).run Tryz.prog w=.ok (.enter 239 args) w:=by kernel_rfl
theorem zty (v:Value) (w:World):(method 422 173 v "Do").run Tryz.prog w=.ok (243,v) w:=by kernel_rfl
theorem zqN(args:Array Value)(w:World):(callFunc 243 args).run Tryz.prog w=.ok (.enter 243 args) w:=by kernel_rfl
theorem zwf (i:Ins) (hi:zhw i) (w:World):(method 422 (insT i) (.agg (insA i)) "Do").run Tryz.prog w=.ok (insF i,.agg (insA i)) w:=by
 cases i with
 | alu o r s t =>
  have ho:=hi.1;clear hi;rcases(by omega:o=0∨o=1∨o=2) with rfl|rfl|rfl
  ·exact ztw _ w
  ·exact ztx _ w
  ·exact zty _ w
 | _=>kernel_rfl
theorem ztz(i:Ins)(hi:zhw i)(args:Array Value)(w:World):(callFunc (insF i) args).run Tryz.prog w=.ok (.enter (insF i) args) w:=by
 cases i with
 | alu o r s t =>
  have ho:=hi.1;clear hi;rcases(by omega:o=0∨o=1∨o=2) with rfl|rfl|rfl
  ·exact zqL args w
  ·exact zqM args w
  ·exact zqN args w
 | _=>kernel_rfl
def stepsC(w:World)(b:Nat):Nat:=match w.cell? ⟨b,28,none⟩ with|some (.int _ s)=>s.toNat|_=>0
theorem MchM.stepsC{w:World}{b:Nat}{bv iv ov:Value}{m:Mc}(h:MchM w b bv iv ov m):Go.Proofs.YtfpgjkbjbbgciaaGreatDoor.stepsC w b=m.steps.toNat:=by unfold Go.Proofs.YtfpgjkbjbbgciaaGreatDoor.stepsC;rw [h.cS]
def finC(w:World)(b:Nat):Nat:=match w.cell? ⟨b,30,none⟩ with|some (.int _ s)=>(if s=0 then 1 else 0)|_=>0
theorem MchM.finC{w:World}{b:Nat}{bv iv ov:Value}{m:Mc}(h:MchM w b bv iv ov m):Go.Proofs.YtfpgjkbjbbgciaaGreatDoor.finC w b=if m.fin=0 then 1 else 0:=by unfold Go.Proofs.YtfpgjkbjbbgciaaGreatDoor.finC;rw [h.cE]
structure CRun(C:List (Ins × Int))(n g b:Nat)(w0 wr:World)(FIN m:Mc)(bv iv ov:Value):Prop where
 mch:MchAt wr b m bv iv ov
 inv:InvD C.length m
 st1:m.steps≤(n:Int)
 inp:m.inp.length≤9223372036854775807
 run:FIN=runS (zcF C) (n-m.steps.toNat) m
 low:qB w0 wr
theorem CRun.step{C:List (Ins × Int)}{n g b k:Nat}{w0 wr w':World}{FIN m:Mc}{bv iv ov bv' iv' ov':Value}(Z:CRun C n g b w0 wr FIN m bv iv ov)(K:CodeOk C)(h0:m.fin=0)(hlt:m.steps<(n:Int))(hk:m.at'=(k:Int))(hkl:k<C.length)(hb:w0.heap.size≤b)(M2:MchAt w' b (zba C[k].1 m) bv' iv' ov')(hB:Below b wr w'):
  CRun C n g b w0 w' FIN (zba C[k].1 m) bv' iv' ov'∧(n-(zba C[k].1 m).steps.toNat)*2+(if(zba C[k].1 m).fin=0 then 1 else 0)<(n-m.steps.toNat)*2+(if m.fin=0 then 1 else 0):=by
 have q0:=Z.inv.steps;obtain⟨d,hi⟩:=ziv C[k].1 m h0;have hinp:=Z.inp;have hrun:FIN=runS (zcF C) (n-m.steps.toNat-1) (zba C[k].1 m):=by
  rw [Z.run,show n-m.steps.toNat=(n-m.steps.toNat-1)+1 by omega,zbZ _ _ _ h0,zh5 hk hkl];rfl
 rw [if_pos h0];rcases d with ⟨c,a⟩|⟨c,a⟩
 ·refine⟨⟨M2,Z.inv.step h0 hk (K.leads k hkl),by omega,by omega,?_,Z.low.trans (hB.mono hb)⟩,by rw [a];split <;> omega⟩;rw [hrun,a];congr 1;omega
 ·refine⟨⟨M2,Z.inv.step h0 hk (K.leads k hkl),by omega,by omega,?_,Z.low.trans (hB.mono hb)⟩,by rw [a,if_neg (by omega)];omega⟩;rw [hrun,zbY _ _ _ (by omega),zbY _ _ _ (by omega)]
theorem MchM.below{w w':World}{b B:Nat}{bv iv ov:Value}{m:Mc}(h:MchM w b bv iv ov m)(hb:Below B w w')(hB:b<B):MchM w' b bv iv ov m:=h.of_block (hb.block b hB)
def zoR(w:World)(C:List (Ins × Int))(FIN:Mc):Ending→World→Prop:=fun e w'=>∃ ao no co,e=.returned (.agg (zan FIN (.slice ao no co) (zgJ C FIN)).toArray)∧w'.ownsRow w.heap.size 2 1 (.slice ao no co) FIN.out.length (i64s FIN.out)∧qB w w'
theorem zkA{w w7:World}{C:List (Ins × Int)}{FIN:Mc}{ao:Option Addr}{no co:Nat}{act:Act}(ds:List Value)(hds:zan FIN (.slice ao no co) (zgJ C FIN)=ds)(ht:w7.there w.heap.size 0 ds.toArray.size)(hb:qB w w7)(how:w7.ownsRow (w.heap.size+1) 2 1 (.slice ao no co) FIN.out.length (i64s FIN.out))
  (hp:act.tmps.getD 6 undef=.pointer (some ⟨w.heap.size,0,none⟩)) (hd:act.defers=[]) :
  bodyPost Tryz.prog Tryz.f53 (zoR w C FIN) .ret act (w7.setCells w.heap.size 0 ds):=by
 have hl:ds.length=30:=by rw [←hds];exact zas _ _ _
 have b:Tryz.prog.underlying 34=some (.struct _):=Tryz.underlying34;have d:=World.rangeAt_setCells_same w7 w.heap.size 0 ds (by rw [show ds.length=ds.toArray.size by simp];exact ht);have a:=run_loadVar_mid (w7.setCells w.heap.size 0 ds) w.heap.size 0 34 ds _ d b rfl (by rw [hl];exact Tryz.info34);refine bodyPost_ret (v:=.agg ds.toArray) (zb9 Tryz.results53 _ ⟨w.heap.size,0,none⟩ hp a) hd ⟨ao,no,co,by rw [hds],?_,zal ds 0 hb (Nat.le_refl _)⟩;have c:(w7.setCells w.heap.size 0 ds).ownsRow (w.heap.size+1) 2 1 (.slice ao no co) FIN.out.length (i64s FIN.out):=zaj how (fun q hq=>za6 ds w7 _ _ _ (by have:=(how.lt q hq).1;omega));exact zbk c (by omega)
theorem zoS(w:World)(g cap n icap:Nat)(ao:Option Addr)(C:List (Ins × Int))(inp:List Int)(K:CodeOk C)(hC:CodeIn w g C)(hg:g<w.heap.size)(hiv:SlB w w.heap.size (.slice ao inp.length icap) inp)(hin:inp.length≤9223372036854775807)(hn:n≤100000)(FIN:Mc)(hF:runS (zcF C) n (zb0 inp)=FIN):
  qC 53 #[.slice (some ⟨g,0,none⟩) C.length cap,.slice ao inp.length icap,.int .i64 (n:Int)] w (zoR w C FIN):=by
 have L:qB w (w.alloc Z34):=(Below.refl _ _).alloc (Nat.le_refl _) _;have aG:(w.alloc Z34).heap.size=w.heap.size+1:=by simp
 have ab:=zb8 w;have J:=zwb (w.alloc Z34) ao icap inp (hiv.mono L);have hI:=zef K inp;have HF:Hid (FIN=runS (zcF C) n (zb0 inp)):=hF.symm;clear hF;have f1:(zb0 inp).steps=0:=rfl;have f2:(zb0 inp).inp=inp:=rfl;have hf:=K.few;generalize zb0 inp=m0 at J hI HF f1 f2;rw [aG] at J;have V:=hC.below L hg;clear hiv hC;go_enter Tryz.func53,Tryz.ntmps53;go_wp2_with(first|(go_at_call 82;refine J.mono ?_;rintro e W2 ⟨rfl,⟨bv0,iv0,ov0,ay⟩,aq⟩))
 clear J;generalize w.alloc Z34=W1 at L aG ab aq V
 go_loopw [11] (fun _ wr=>∃(m:Mc) (bv iv ov:Value),CRun C n g (w.heap.size+1) W1 wr FIN m bv iv ov) (fun _ wr=>(n-stepsC wr (w.heap.size+1))*2+finC wr (w.heap.size+1))
 case atStart=>exact⟨m0,_,_,_,⟨ay,hI,by omega,by rw [f2];exact hin,by rw [f1];exact HF.out,aq⟩⟩
 case round =>
  obtain⟨m,bv,iv,ov,Z⟩:=hrel;have cS:=Z.mch.mem.cS;clear ay aq HF hI f1 f2;have q0:=Z.inv.steps;have g1:=zs7 wr (w.heap.size+1) bv iv ov m Z.mch.mem;have g2:=zqg wr (w.heap.size+1) bv iv ov m Z.mch.mem;by_cases aE:m.fin=0∧m.steps<(n:Int)
  ·obtain⟨h0,av⟩:=aE;obtain⟨k,hk,x⟩:=Z.inv.at_;have g3:=zhW wr (w.heap.size+1) bv iv ov m Z.mch.mem;rw [hk] at g3;rw [show(m.fin == 0)=true by simp [h0]] at g1;obtain⟨am,_⟩:=(V.below Z.low (by omega)) k x;have ap:=zzm C[k].1 (K.ok k x) Z.mch (Z.inv.inv hf h0) h0 (by omega) Z.inp;have P:=zwf C[k].1 (K.ok k x);have ax:=ztz C[k].1 (K.ok k x);generalize au:C[k].1=i at am ap P ax;generalize insF i=F at ap P ax;have aD:(0:Int)≤(k:Int):=by omega
   have aF:(k:Int)<(C.length:Int):=by omega
   go_wp2_with(first|(go_at_call 83;refine g1.mono ?_;rintro e M ⟨rfl,c⟩;have b:=c.symm;subst b)|(go_at_call 84;refine g2.mono ?_;rintro e M ⟨rfl,c⟩;have b:=c.symm;subst b)|(go_at_call 85;refine g3.mono ?_;rintro e M ⟨rfl,c⟩;have b:=c.symm;subst b))
   refine ap.mono ?_;rintro e w3 ⟨rfl,aH,az,aA,M2,hB⟩;dsimp only;rw [←au] at M2;obtain⟨Z2,aB⟩:=Z.step K h0 av hk x (by omega) M2 hB;have q1:=Z2.mch.mem.stepsC;have q2:=Z.mch.mem.stepsC;have q3:=Z2.mch.mem.finC;have q4:=Z.mch.mem.finC;go_wp2;go_roundw
   case rel=>exact⟨_,aH,az,aA,Z2⟩
   case measure=>rw [q1,q2,q3,q4];exact aB
  ·have hF:FIN=m:=by
    by_cases h0:m.fin=0
    ·rw [Z.run,show n-m.steps.toNat=0 by have:=Z.st1;omega];rfl
    ·rw [Z.run,zbY _ _ _ h0]
   subst hF;have O:=Z.mch;obtain⟨o,j,rfl⟩:=zb7 O.out;have U:=zqF wr (w.heap.size+1) bv iv o _ j FIN O Z.inv.frames Z.inv.few;generalize hno:FIN.out.length=no' at U;have hl:=zas FIN (.slice o no' j) 0;have h1:=zaz FIN o no' j 0;obtain⟨A,ai⟩:∃ A,zgJ C FIN=A:=⟨_,rfl⟩
   have al:Hid (zgJ C FIN=A):=ai;clear ai;have aj:=zfj FIN (.slice o no' j) 0 (A);generalize ac:zan FIN (.slice o no' j) 0=ds at U hl h1 aj;have hi:=zbd ds hl;have z:=O.out;rw [hno] at z;have ae:=zas FIN (.slice o no' j) (A);have aa:=zaz FIN o no' j (A);generalize X:zan FIN (.slice o no' j) (A)=ds2 at aj ae aa;have ar:=zbd ds2 ae;have W:(Tryz.prog.info? 34).map (·.size)=some ds2.length:=by rw [ae];exact Tryz.info34
   have S:Tryz.prog.underlying 34=some (.struct _):=Tryz.underlying34;obtain⟨k,hk,x⟩:=Z.inv.at_;have aD:(0:Int)≤(k:Int):=by omega
   have aF:(k:Int)<(C.length:Int):=by omega
   by_cases h0:FIN.fin=0
   ·rw [show(FIN.fin == 0)=true by simp [h0]] at g1;have av:decide (FIN.steps<(n:Int))=false:=by simp;omega
    have af:decide (FIN.fin=1∨FIN.fin=2)=false:=by simp [h0]
    have an:Hid (A=C[k].2):=by rw [←al.out];show zgJ C FIN=C[k].2;unfold zgJ;rw [if_neg (by omega),hk,Int.toNat_natCast,List.getElem?_eq_getElem x];rfl
    go_wp2_with(first|(go_at_call 83;refine g1.mono ?_;rintro e M ⟨rfl,c⟩;have b:=c.symm;subst b)|(go_at_call 84;refine g2.mono ?_;rintro e M ⟨rfl,c⟩;have b:=c.symm;subst b))
    refine U.mono ?_;rintro e a ⟨rfl,d⟩;dsimp only;have u:=zbS (W1:=a) rfl ds hl;have T:=O.mem.below d O.mem.lt;have ah:=d.size;have ag:=O.mem.lt;have h:qB a ((a.alloc Z34).setCells a.heap.size 0 ds.toArray.toList):=zal _ 0 ((Below.refl a.heap.size a).alloc (Nat.le_refl _) _) (Nat.le_refl _);have I:=T.below h (by omega);have g5:=zes _ _ _ _ _ _ I;rw [af] at g5;have D:((a.alloc Z34).setCells a.heap.size 0 ds.toArray.toList).rangeAt a.heap.size 0 ds:=by rw [show ds.toArray.toList=ds by simp];exact World.rangeAt_setCells_same _ _ _ _ (by rw [show ds.length=ds.toArray.size by simp];exact u)
    have l:qB w ((a.alloc Z34).setCells a.heap.size 0 ds.toArray.toList):=(L.trans (Z.low.mono (by omega))).trans ((d.mono (by omega)).trans (h.mono (by omega)));have f:((a.alloc Z34).setCells a.heap.size 0 ds.toArray.toList).there w.heap.size 0 30:=zam (zam (zam ab Z.low (by omega)) d (by omega)) h (by omega);have B:=zbi z d (Nat.le_refl _);have t:=zbi B h (Nat.le_refl _);have y:((a.alloc Z34).setCells a.heap.size 0 ds.toArray.toList).ownsRow (w.heap.size+1) 2 1 (.slice o no' j) FIN.out.length (i64s FIN.out):=by rw [hno];exact zbk t (by omega)
    have N:=((V.below Z.low (by omega)).below d (by omega)).below h (by omega);go_wp2_with(first|(refine wpList_store_mid rfl 34 _ _ rfl a.heap.size 0 ds.toArray rfl rfl u hi h1 ?_)|(go_at_call 87;refine g5.mono ?_;rintro e M ⟨rfl,c⟩;have b:=c.symm;subst b;refine Hid.out ?_))
    unfold Hid;have ak:ds[28]?=some (.int .i64 0):=by rw [←ac];exact zil _ _ _
    have E:=D 28 _ ak;have Y:=N k x;have R:=Y.2;rw [←an.out] at R;have g6:=zhW _ _ _ _ _ _ I;rw [hk] at g6;have Q:((a.alloc Z34).setCells a.heap.size 0 ds.toArray.toList).frozen? ⟨a.heap.size,28,none⟩=false:=(World.there_setCells u _ _ _ 28 (by simp [hl])).2;have H:=zdA (n:=28) (v:=.int .i64 (A)) D E;rw [aj] at H;have s:(((a.alloc Z34).setCells a.heap.size 0 ds.toArray.toList).setCell ⟨a.heap.size,0+28,none⟩ (.int .i64 (A))).there w.heap.size 0 ds2.toArray.size:=by rw [show ds2.toArray.size=30 by simp [ae]];exact zds f _ _
    have G:(((a.alloc Z34).setCells a.heap.size 0 ds.toArray.toList).setCell ⟨a.heap.size,0+28,none⟩ (.int .i64 (A))).ownsRow (w.heap.size+1) 2 1 (.slice o no' j) FIN.out.length (i64s FIN.out):=zaj y (fun q hq=>Below.heap_setCell _ _ _ _ (fun e=>by have h9:=(z.lt q hq).2;simp only at e;omega));have r:=l.setCell (p:=⟨a.heap.size,0+28,none⟩) (by show w.heap.size≤a.heap.size;omega) (.int .i64 (A));clear Y N;simp only [Nat.zero_add] at H s G r Q E R g6;repeat(first
     | (go_at_call 85;refine g6.mono ?_;rintro e M ⟨rfl,rfl⟩;dsimp only)
     | (refine wpList_load_mid rfl 34 _ rfl a.heap.size 0 rfl ds2 _ H S rfl W ?_)
     | (refine wpList_store_mid rfl 34 _ _ rfl w.heap.size 0 ds2.toArray rfl rfl s ar aa ?_)
     | go_values|go_skip|go_guarded|go_step|go_upon|go_back)
    exact zkA ds2 (by rw [al.out];exact X) s r G rfl rfl
   ·rw [show(FIN.fin == 0)=false by simp [h0]] at g1;by_cases ad:FIN.fin=1∨FIN.fin=2
    ·have af:decide (FIN.fin=1∨FIN.fin=2)=true:=by simpa using ad
     have aw:A=0:=by rw [←al.out];unfold zgJ;rw [if_pos ad]
     subst aw;have aC:ds=ds2:=by rw [←X,←ac]
     subst aC;go_wp2_with(first|(go_at_call 83;refine g1.mono ?_;rintro e M ⟨rfl,c⟩;have b:=c.symm;subst b)|(go_at_call 84;refine g2.mono ?_;rintro e M ⟨rfl,c⟩;have b:=c.symm;subst b))
     refine U.mono ?_;rintro e a ⟨rfl,d⟩;dsimp only;have u:=zbS (W1:=a) rfl ds hl;have T:=O.mem.below d O.mem.lt;have ah:=d.size;have ag:=O.mem.lt;have h:qB a ((a.alloc Z34).setCells a.heap.size 0 ds.toArray.toList):=zal _ 0 ((Below.refl a.heap.size a).alloc (Nat.le_refl _) _) (Nat.le_refl _);have I:=T.below h (by omega);have g5:=zes _ _ _ _ _ _ I;rw [af] at g5;have D:((a.alloc Z34).setCells a.heap.size 0 ds.toArray.toList).rangeAt a.heap.size 0 ds:=by rw [show ds.toArray.toList=ds by simp];exact World.rangeAt_setCells_same _ _ _ _ (by rw [show ds.length=ds.toArray.size by simp];exact u)
     have l:qB w ((a.alloc Z34).setCells a.heap.size 0 ds.toArray.toList):=(L.trans (Z.low.mono (by omega))).trans ((d.mono (by omega)).trans (h.mono (by omega)));have f:((a.alloc Z34).setCells a.heap.size 0 ds.toArray.toList).there w.heap.size 0 30:=zam (zam (zam ab Z.low (by omega)) d (by omega)) h (by omega);have B:=zbi z d (Nat.le_refl _);have t:=zbi B h (Nat.le_refl _);have y:((a.alloc Z34).setCells a.heap.size 0 ds.toArray.toList).ownsRow (w.heap.size+1) 2 1 (.slice o no' j) FIN.out.length (i64s FIN.out):=by rw [hno];exact zbk t (by omega)
     have N:=((V.below Z.low (by omega)).below d (by omega)).below h (by omega);go_wp2_with(first|(refine wpList_store_mid rfl 34 _ _ rfl a.heap.size 0 ds.toArray rfl rfl u hi h1 ?_)|(go_at_call 87;refine g5.mono ?_;rintro e M ⟨rfl,c⟩;have b:=c.symm;subst b;refine Hid.out ?_))
     unfold Hid;have s:((a.alloc Z34).setCells a.heap.size 0 ds.toArray.toList).there w.heap.size 0 ds.toArray.size:=by rw [show ds.toArray.size=30 by simp [ae]];exact f
     simp only at D s y l;repeat(first
      | (refine wpList_load_mid rfl 34 _ rfl a.heap.size 0 rfl ds _ D S rfl W ?_)
      | (refine wpList_store_mid rfl 34 _ _ rfl w.heap.size 0 ds.toArray rfl rfl s ar aa ?_)
      | go_values|go_skip|go_guarded|go_step|go_upon|go_back)
     exact zkA ds (by rw [al.out];exact ac) s l y rfl rfl
    ·have af:decide (FIN.fin=1∨FIN.fin=2)=false:=by simpa using ad
     have an:Hid (A=C[k].2):=by rw [←al.out];show zgJ C FIN=C[k].2;unfold zgJ;rw [if_neg ad,hk,Int.toNat_natCast,List.getElem?_eq_getElem x];rfl
     go_wp2_with(first|(go_at_call 83;refine g1.mono ?_;rintro e M ⟨rfl,c⟩;have b:=c.symm;subst b)|(go_at_call 84;refine g2.mono ?_;rintro e M ⟨rfl,c⟩;have b:=c.symm;subst b))
     refine U.mono ?_;rintro e a ⟨rfl,d⟩;dsimp only;have u:=zbS (W1:=a) rfl ds hl;have T:=O.mem.below d O.mem.lt;have ah:=d.size;have ag:=O.mem.lt;have h:qB a ((a.alloc Z34).setCells a.heap.size 0 ds.toArray.toList):=zal _ 0 ((Below.refl a.heap.size a).alloc (Nat.le_refl _) _) (Nat.le_refl _);have I:=T.below h (by omega);have g5:=zes _ _ _ _ _ _ I;rw [af] at g5;have D:((a.alloc Z34).setCells a.heap.size 0 ds.toArray.toList).rangeAt a.heap.size 0 ds:=by rw [show ds.toArray.toList=ds by simp];exact World.rangeAt_setCells_same _ _ _ _ (by rw [show ds.length=ds.toArray.size by simp];exact u)
     have l:qB w ((a.alloc Z34).setCells a.heap.size 0 ds.toArray.toList):=(L.trans (Z.low.mono (by omega))).trans ((d.mono (by omega)).trans (h.mono (by omega)));have f:((a.alloc Z34).setCells a.heap.size 0 ds.toArray.toList).there w.heap.size 0 30:=zam (zam (zam ab Z.low (by omega)) d (by omega)) h (by omega);have B:=zbi z d (Nat.le_refl _);have t:=zbi B h (Nat.le_refl _);have y:((a.alloc Z34).setCells a.heap.size 0 ds.toArray.toList).ownsRow (w.heap.size+1) 2 1 (.slice o no' j) FIN.out.length (i64s FIN.out):=by rw [hno];exact zbk t (by omega)
     have N:=((V.below Z.low (by omega)).below d (by omega)).below h (by omega);go_wp2_with(first|(refine wpList_store_mid rfl 34 _ _ rfl a.heap.size 0 ds.toArray rfl rfl u hi h1 ?_)|(go_at_call 87;refine g5.mono ?_;rintro e M ⟨rfl,c⟩;have b:=c.symm;subst b;refine Hid.out ?_))
     unfold Hid;have ak:ds[28]?=some (.int .i64 0):=by rw [←ac];exact zil _ _ _
     have E:=D 28 _ ak;have Y:=N k x;have R:=Y.2;rw [←an.out] at R;have g6:=zhW _ _ _ _ _ _ I;rw [hk] at g6;have Q:((a.alloc Z34).setCells a.heap.size 0 ds.toArray.toList).frozen? ⟨a.heap.size,28,none⟩=false:=(World.there_setCells u _ _ _ 28 (by simp [hl])).2;have H:=zdA (n:=28) (v:=.int .i64 (A)) D E;rw [aj] at H;have s:(((a.alloc Z34).setCells a.heap.size 0 ds.toArray.toList).setCell ⟨a.heap.size,0+28,none⟩ (.int .i64 (A))).there w.heap.size 0 ds2.toArray.size:=by rw [show ds2.toArray.size=30 by simp [ae]];exact zds f _ _
     have G:(((a.alloc Z34).setCells a.heap.size 0 ds.toArray.toList).setCell ⟨a.heap.size,0+28,none⟩ (.int .i64 (A))).ownsRow (w.heap.size+1) 2 1 (.slice o no' j) FIN.out.length (i64s FIN.out):=zaj y (fun q hq=>Below.heap_setCell _ _ _ _ (fun e=>by have h9:=(z.lt q hq).2;simp only at e;omega));have r:=l.setCell (p:=⟨a.heap.size,0+28,none⟩) (by show w.heap.size≤a.heap.size;omega) (.int .i64 (A));clear Y N;simp only [Nat.zero_add] at H s G r Q E R g6;repeat(first
      | (go_at_call 85;refine g6.mono ?_;rintro e M ⟨rfl,rfl⟩;dsimp only)
      | (refine wpList_load_mid rfl 34 _ rfl a.heap.size 0 rfl ds2 _ H S rfl W ?_)
      | (refine wpList_store_mid rfl 34 _ _ rfl w.heap.size 0 ds2.toArray rfl rfl s ar aa ?_)
      | go_values|go_skip|go_guarded|go_step|go_upon|go_back)
     exact zkA ds2 (by rw [al.out];exact X) s r G rfl rfl
end
end Go.Proofs.YtfpgjkbjbbgciaaGreatDoor
