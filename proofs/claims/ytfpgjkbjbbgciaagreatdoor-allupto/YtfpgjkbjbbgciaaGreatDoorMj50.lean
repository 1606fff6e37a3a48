import Derived.Test.YtfpgjkbjbbgciaaGreatDoorMj49
set_option maxRecDepth 100000
set_option maxHeartbeats 8000000
namespace Go.Proofs.YtfpgjkbjbbgciaaGreatDoor
section
open Go.RowKit
theorem Tryz.info2h:(Tryz.prog.info? 2).map (fun i=>(i.zero,i.size,i.bytes))=some (some (.int .i64 0),1,8):=by kernel_rfl
theorem Tryz.info29h:(Tryz.prog.info? 29).map (fun i=>(i.zero,i.size,i.bytes))=some (some (.slice none 0 0),1,24):=by kernel_rfl
theorem Tryz.under29h:Tryz.prog.underlying 29=some (.slice 2):=by kernel_rfl
theorem Tryz.under102:Tryz.prog.underlying 102=some (.slice 29):=by kernel_rfl
theorem zfP(v:Value)(h:v.oneCell'=true):∀ u∈[v],u.oneCell'=true:=fun u hu=>by rw [List.mem_singleton.1 hu];exact h
structure FillGo(w0:World)(B:Nat)(m:Int)(v:Value)(n j:Nat)(ys:List Value)(w:World):Prop where
 row:w.ownsRow B 2 1 v n ys
 don:∀ i,i<j→ys[i]?=some (.int .i64 m)
 blk:w.heap[w0.heap.size]?=some (.cells #[.slice none 0 0,.int .i64 m] 104 (0,0))
 grw:w0.grownBy w v.ownBlock
theorem FillGo.next{w0 w:World}{B g n cap j:Nat}{m:Int}{ys:List Value}(h:FillGo w0 B m (.slice (some ⟨g,0,none⟩) n cap) n j ys w)(hj:j<n):FillGo w0 B m (.slice (some ⟨g,0,none⟩) n cap) n (j+1) (ys.set j (.int .i64 m)) (w.setCell ⟨g,j,none⟩ (.int .i64 m)):=by
 obtain⟨b,a⟩:=h.row.stored j (.int .i64 m);obtain⟨cur,c⟩:=zbN h.row (g:=g) rfl;have hl:ys.length=n:=by have:=h.row.1;omega
 refine⟨b,fun i hi=>?_,(a.block _ (zbx h.blk) (fun e=>zdl h.blk c (by decide) (Option.some.inj e))).trans h.blk,zek h.grw a (fun q e=>.inl e)⟩;rw [List.getElem?_set];by_cases e:j=i
 ·rw [if_pos e,if_pos (by omega)]
 ·rw [if_neg e];exact h.don i (by omega)
theorem FillGo.done{w0 w:World}{B n:Nat}{m:Int}{v:Value}{ys:List Value}(h:FillGo w0 B m v n n ys w)(hB:B≤w0.heap.size):HoldGo w0 v B m n 0 v (.slice none 0 0) [] w:=by
 have hl:ys.length=n:=by have:=h.row.1;omega
 have e:ys=List.replicate n (.int .i64 m):=by
  refine List.ext_getElem? fun i=>?_;by_cases a:i<n
  ·rw [h.don i a,List.getElem?_replicate,if_pos a]
  ·rw [List.getElem?_eq_none (by omega),List.getElem?_eq_none (by simp;omega)]
 refine⟨by rw [←e];exact h.row,h.blk,World.ownsRow_nil _ _ _ _,fun u hu=>(by cases hu),fun q hq=>.inl hq,h.grw,hB⟩
theorem zpA{w:World}{B n:Nat}{v:Value}{xs:List Value}(h:w.ownsRow B 2 1 v n xs)(hn:n≤1050000)(k:Int)(k0:0≤k)(k1:k≤100000000)(hB:B≤w.heap.size):
  qC 28 #[v,.int .i64 k] w fun e w'=>∃ b,e=.returned (.pointer (some ⟨b,0,none⟩))∧HoldIn w' (HX w v) b∧w.grownBy w' v.ownBlock:=by
 obtain⟨i2,S,R,H,O⟩:=info_parts Tryz.info2h;obtain⟨M,t,o,p,s⟩:=info_parts Tryz.info29h;obtain⟨W,A,rfl,hnc,hcm,hno⟩:=zdV h;have F0:FillGo w B (-1000-k) (.slice W n A) n 0 xs (w.alloc (.cells #[.slice none 0 0,.int .i64 (-1000-k)] 104)):=⟨h.alloc _,fun i hi=>by omega,heap_alloc_new w _,World.grownBy_alloc w _ _⟩
 go_enter Tryz.func28,Tryz.ntmps28;go_wp2
 go_loopw [6] (fun ti wr=>∃(j:Nat) (U:List Value),j≤n∧ti=.int .i64 (j:Int)∧FillGo w B (-1000-k) (.slice W n A) n j U wr) (fun ti _=>n-(intOf ti).toNat)
 case atStart=>exact⟨0,xs,by omega,rfl,F0⟩
 case round =>
  obtain⟨j,U,hj,rfl,F⟩:=hrel;by_cases aa:j<n
  ·obtain⟨g,c',e,_,_⟩:=F.row.form (by omega);simp only [Value.slice.injEq,true_and] at e;obtain⟨rfl,rfl⟩:=e;have F':=F.next aa;have hl:U.length=n:=by have:=F.row.1;omega
   have Y:wr.cell? ⟨g,j,none⟩=some (U[j]'(by omega)):=by rw [F.row.cellAt j (by omega),List.getElem?_eq_getElem (by omega)]
   have f1:=F.row.frozenAt j;have X:wr.cell? ⟨w.heap.size,1,none⟩=some (.int .i64 (-1000-k)):=cell_of_row wr w.heap.size 1 _ _ _ F.blk;have hj0:(0:Int)≤(j:Int):=by omega
   have hj1:(j:Int)<(n:Int):=by omega
   go_wp2;go_roundw
   case rel=>exact⟨j+1,_,by omega,by go_num,F'⟩
   case measure=>simp [intOf];omega
  ·have e:j=n:=by omega
   subst e;have G:=F.done hB;have c0:wr.cell? ⟨w.heap.size,0,none⟩=some (.slice none 0 0):=cell_of_row wr w.heap.size 0 _ _ _ F.blk;have f0:wr.frozen? ⟨w.heap.size,0,none⟩=false:=frozen_of_row wr w.heap.size 0 _ _ F.blk;have P:=G.size;go_wp2_with(first
    | (at_builtin;refine wpList_append_lies _ rfl _ _ 102 rfl (w.heap.size+1) 29 M (.slice none 0 0) 1 24 Tryz.under102 t o p s rfl (by decide) _ _ _ rfl (G.lst.alloc _) ⟨wr.heap.size,0,none⟩ 1 1 [.slice W j A] rfl rfl (cell_one_new _ _ _) (zfP _ rfl) (by decide) (by unfold maxLen;omega) (by omega) (by simp;omega) (wr.heap.size+1) (by simp) ?_))
   intro c D V L z hnew4 _;obtain⟨G0,b4⟩:=G.put L z;have c4:V.cell? ⟨w.heap.size,0,none⟩=some (.slice none 0 0):=cell_of_row V w.heap.size 0 _ _ _ b4;have f4:V.frozen? ⟨w.heap.size,0,none⟩=false:=frozen_of_row V w.heap.size 0 _ _ b4;clear c0 f0;generalize hm:-1000-k=m at *;go_wp2
   go_loopw [0,7] (fun tl ti wr=>∃(i c D:Nat) (lv:Value) (vs:List Value),i≤16∧tl=lv∧ti=.int .i64 (i:Int)∧HoldGo w (.slice W j A) B m (j+i) (i+1) lv (.slice (some ⟨c,0,none⟩) (i+1) D) vs wr) (fun _ ti _=>16-(intOf ti).toNat)
   case atStart=>exact⟨0,c,D,_,_,by omega,rfl,rfl,G0⟩
   case round =>
    obtain⟨i,c,D,lv,vs,hi,rfl,rfl,G⟩:=hrel;by_cases hli:i<16
    ·have Y:wr.cell? ⟨w.heap.size,1,none⟩=some (.int .i64 m):=cell_of_row wr w.heap.size 1 _ _ _ G.blk;have hi0:(i:Int)<16:=by omega
     have P:=G.size;have hlo:=G.low;obtain⟨T,Q,rfl,hlc,hlm,E⟩:=zdV G.row;by_cases I:j+i+1≤Q
     ·obtain⟨g,e⟩:∃ g,T=some ⟨g,0,none⟩:=by
       rcases G.row.2 with ⟨e,_⟩|⟨g,ab,ac,e,_⟩
       ·simp only [Value.slice.injEq] at e;omega
       ·simp only [Value.slice.injEq] at e;exact⟨g,e.1⟩
      subst e;go_wp2_with(first
       | (at_builtin;refine wpList_append_own_spare _ rfl _ _ 29 rfl B 2 i2 1 Tryz.under29h S H g (j+i) Q _ rfl (G.row.alloc _) ⟨wr.heap.size,0,none⟩ 1 1 [.int .i64 m] rfl rfl (cell_one_new _ _ _) (zfP _ rfl) I ?_;intro C r f;have x:=G.room r f;refine Hid.out ?_))
      unfold Hid;have S1:=x.size;have C1:C.cell? ⟨w.heap.size,0,none⟩=some (.slice (some ⟨c,0,none⟩) (i+1) D):=cell_of_row C w.heap.size 0 _ _ _ x.blk;clear Y;go_wp2_with(first
       | (at_builtin;refine wpList_append_lies _ rfl _ _ 102 rfl (w.heap.size+1) 29 M (.slice none 0 0) 1 24 Tryz.under102 t o p s rfl (by decide) _ _ _ rfl (x.lst.alloc _) ⟨C.heap.size,0,none⟩ 1 1 [.slice (some ⟨g,0,none⟩) (j+i+1) Q] rfl rfl (cell_one_new _ _ _) (zfP _ rfl) (by decide) (by unfold maxLen;omega) (by omega) (by simp;omega) (C.heap.size+1) (by simp) ?_))
      intro X J y l d _ _;obtain⟨Z,N⟩:=x.put l d;have C5:y.cell? ⟨w.heap.size,0,none⟩=some (.slice (some ⟨c,0,none⟩) (i+1) D):=cell_of_row y w.heap.size 0 _ _ _ N;have f5:y.frozen? ⟨w.heap.size,0,none⟩=false:=frozen_of_row y w.heap.size 0 _ _ N;clear C1;go_wp2;go_roundw
      case rel=>exact⟨i+1,X,J,_,_,by omega,rfl,by go_num,Z⟩
      case measure=>simp [intOf];omega
     ·have K:T=none∨∃ g,T=some ⟨g,0,none⟩:=by
       rcases G.row.2 with ⟨e,_⟩|⟨g,ab,ac,e,_⟩
       ·simp only [Value.slice.injEq] at e;exact .inl e.1
       ·simp only [Value.slice.injEq] at e;exact .inr ⟨g,e.1⟩
      have HL:Hid (T=none→j+i=0∧Q=0):=E;clear E;rcases K with e|⟨g,e⟩
      all_goals
       subst e;go_wp2_with(first
        | (at_builtin;refine wpList_append_grows _ rfl _ _ 29 rfl 2 i2 (.int .i64 0) 1 8 Tryz.under29h S R H O rfl (by decide) _ (j+i) Q (List.replicate (j+i) (.int .i64 m)) rfl HL.out (by simp) (fun a ha q u hu=>by cases ha <;> exact(G.row.alloc _).cells rfl q u hu) ⟨wr.heap.size,0,none⟩ 1 1 [.int .i64 m] rfl rfl (cell_one_new _ _ _) (zfP _ rfl) (by omega) (by unfold maxLen;omega) (by omega) ?_;intro v1 C r f;have x:=G.full r f;refine Hid.out ?_))
       unfold Hid;obtain⟨g1,ad,rfl,_,_⟩:=x.row.form (by omega);have S1:=x.size;have C1:C.cell? ⟨w.heap.size,0,none⟩=some (.slice (some ⟨c,0,none⟩) (i+1) D):=cell_of_row C w.heap.size 0 _ _ _ x.blk;clear Y;go_wp2_with(first
        | (at_builtin;refine wpList_append_lies _ rfl _ _ 102 rfl (w.heap.size+1) 29 M (.slice none 0 0) 1 24 Tryz.under102 t o p s rfl (by decide) _ _ _ rfl (x.lst.alloc _) ⟨C.heap.size,0,none⟩ 1 1 [.slice (some ⟨g1,0,none⟩) (j+i+1) ad] rfl rfl (cell_one_new _ _ _) (zfP _ rfl) (by decide) (by unfold maxLen;omega) (by omega) (by simp;omega) (C.heap.size+1) (by simp) ?_))
       intro X J y l d _ _;obtain⟨Z,N⟩:=x.put l d;have C5:y.cell? ⟨w.heap.size,0,none⟩=some (.slice (some ⟨c,0,none⟩) (i+1) D):=cell_of_row y w.heap.size 0 _ _ _ N;have f5:y.frozen? ⟨w.heap.size,0,none⟩=false:=frozen_of_row y w.heap.size 0 _ _ N;clear C1;go_wp2;go_roundw
       case rel=>exact⟨i+1,X,J,_,_,by omega,rfl,by go_num,Z⟩
       case measure=>simp [intOf];omega
    ·have e:i=16:=by omega
     subst e;go_wp2;go_ret;exact⟨_,rfl,G.hold (by omega) (by omega),G.grw⟩
end
section
open Go.RowKit Sp
def zeW(w:World):Ending→World→Prop:=fun e w'=>∃(out inn:Value) (n1 n2:Nat) (xs1 xs2:List Value),e=.returned (.tuple #[out,inn,.bool true])∧w'.ownsRow w.heap.size 2 1 out n1 xs1∧w'.ownsRow w.heap.size 2 1 inn n2 xs2∧n1≤1050000∧n2≤1050000∧(∀ q,out.ownBlock=some q→¬inn.ownBlock=some q)∧qB w w'
theorem zmT{W:World}{b:Nat}{ds:List Value}(ht:W.there b 0 ds.length)(h1:ds.toArray.all (·.oneCell')=true):(storeCells ⟨b,0,none⟩ ds).run Tryz.prog W=.ok () (W.setCells b 0 ds):=by
 have:=run_storeCells_cells (P:=Tryz.prog) b 0 ds 0 W (fun j hj=>by simpa using (ht j hj).1) (fun j hj=>by simpa using (ht j hj).2) (fun v hv=>(Array.all_eq_true_iff_forall_mem.1 h1) v (by simpa using hv));simpa using this
theorem zd2{w w':World}{B:Nat}{e:TypeId}{size n:Nat}{v:Value}{xs:List Value}(h:w.ownsRow B e size v n xs)(hb:qB w w'):w'.ownsRow B e size v n xs:=zaj h (fun q hq=>hb.block q (h.lt q hq).2)
theorem zuT{w1 w2:World}(hb:qB w1 w2){ds:List Value}(hl:ds.length=30)(h1:ds.toArray.all (·.oneCell')=true){v:Value}{n:Nat}{xs:List Value}(hr:w2.ownsRow w1.heap.size 2 1 v n xs):
  ∃ W3,(storeCells ⟨w2.heap.size,0,none⟩ ds).run Tryz.prog (w2.alloc Z34)=.ok () W3∧W3.rangeAt w2.heap.size 0 ds∧qB w1 W3∧W3.ownsRow w1.heap.size 2 1 v n xs∧w2.heap.size<W3.heap.size:=by
 have c:=zbS (W1:=w2) rfl ds hl;have b:qB w2 ((w2.alloc Z34).setCells w2.heap.size 0 ds):=zal _ 0 ((Below.refl w2.heap.size w2).alloc (Nat.le_refl _) _) (Nat.le_refl _);have a:(w2.alloc Z34).there w2.heap.size 0 ds.length:=by simpa using c
 exact⟨_,zmT a h1,World.rangeAt_setCells_same _ _ _ _ a,hb.trans (b.mono hb.size),zd2 hr b,by rw [zd0];simp⟩
theorem zuU{w1 w2:World}(hb0:Below (w1.alloc Z34).heap.size (w1.alloc Z34).drew w2){ds:List Value}(hl:ds.length=30)(h1:ds.toArray.all (·.oneCell')=true){v:Value}{n:Nat}{xs:List Value}(hr:w2.ownsRow (w1.alloc Z34).heap.size 2 1 v n xs):
  ∃ W3,(storeCells ⟨w1.heap.size,0,none⟩ ds).run Tryz.prog w2=.ok () W3∧W3.rangeAt w1.heap.size 0 ds∧qB w1 W3∧W3.ownsRow w1.heap.size 2 1 v n xs∧w1.heap.size<W3.heap.size:=by
 have b:Below (w1.alloc Z34).heap.size (w1.alloc Z34) w2:=⟨hb0.os,hb0.tape,hb0.output,hb0.size,hb0.block⟩
 have hz:(w1.alloc Z34).heap.size=w1.heap.size+1:=by simp
 have a:qB w1 w2:=((Below.refl _ w1).alloc (Nat.le_refl _) Z34).trans (b.mono (by omega));have c:=zbS (W1:=w1) rfl ds hl;obtain⟨bc,e⟩:=zdH b;have d:w2.there w1.heap.size 0 ds.length:=fun j hj=>by
  have:=c j (by simpa using hj);rw [bc _ _ (by omega),e _ _ (by omega)];exact this
 refine⟨_,zmT d h1,World.rangeAt_setCells_same _ _ _ _ d,zal _ 0 a (Nat.le_refl _),?_,by rw [zd0];have:=b.size;omega⟩;refine zd1 (zaj hr (fun q hq=>?_)) (by omega);have:=(hr.lt q hq).1;exact za6 ds w2 _ 0 q (by omega)
abbrev opO(kind N:Int)(S:ByteArray)(iv:Value):Obj:=.cells #[.int .i64 kind,.int .i64 N,.string S,iv] 55
theorem zg0(w:World)(kind N:Int)(S:ByteArray)(iv:Value):(w.alloc (opO kind N S iv)).cell? ⟨w.heap.size,0,none⟩=some (.int .i64 kind)∧(w.alloc (opO kind N S iv)).cell? ⟨w.heap.size,1,none⟩=some (.int .i64 N)∧(w.alloc (opO kind N S iv)).cell? ⟨w.heap.size,2,none⟩=some (.string S)∧(w.alloc (opO kind N S iv)).cell? ⟨w.heap.size,3,none⟩=some iv :=
 ⟨World.cell?_alloc_new (w:=w) _ 55 0,World.cell?_alloc_new (w:=w) _ 55 1,World.cell?_alloc_new (w:=w) _ 55 2,World.cell?_alloc_new (w:=w) _ 55 3⟩
theorem zkm{w:World}:qB w w.drew:=(Below.refl _ _).drew
theorem zyT(N:Int)(S:ByteArray)(ao:Option Addr)(icap:Nat)(inp:List Int)(w:World)(hw:LibW w)(hiv:SlB w w.heap.size (.slice ao inp.length icap) inp)(hin:inp.length≤1048576)(T:Told)(hout:T.m.out.length≤1048577)
  (htr:∀ W ao icap,LibW W→SlB W W.heap.size (.slice ao inp.length icap) inp→qC 18 #[.string S,.slice ao inp.length icap,.int .i64 N] W (zaT W T))
  (hrt:∀ W,SlB W W.heap.size (.slice ao inp.length icap) inp→qC 20 #[.string S,.slice ao inp.length icap,.int .i64 N] W (zaT W T)) :
  qC 27 #[.agg #[.int .i64 2,.int .i64 N,.string S,.slice ao inp.length icap]] w (zeW w):=by
 have F:qB w (w.alloc (opO 2 N S (.slice ao inp.length icap))):=(Below.refl _ _).alloc (Nat.le_refl _) _;have Z:=zdz _ _ inp (hiv.slN.below F) hin;obtain⟨c0,c1,B,c3⟩:=zg0 w 2 N S (.slice ao inp.length icap);go_enter Tryz.func27,Tryz.ntmps27;go_wp2_with(first
  | (go_at_call 17;refine Hid.out ?_))
 unfold Hid;have az:(w.alloc (opO 2 N S (.slice ao inp.length icap))).heap.size=w.heap.size+1:=by simp
 generalize w.alloc (opO 2 N S (.slice ao inp.length icap))=W0 at F Z c0 c1 B c3 az ⊢;refine Z.mono ?_;rintro e z ⟨u,rfl,b,n⟩;dsimp only;obtain⟨g,v,rfl,hg,aD,ae⟩:=zgR b (by omega);have hcap2:inp.length≤v:=by omega
 have hcap3:(inp.length:Int)≤(v:Int):=by omega
 have o:=F.trans (n.mono F.size);replace c0:=zap n c0;replace c1:=zap n c1;replace B:=zap n B;replace c3:=zap n c3;have ax:=zgQ b aD ae;go_wp2_with fail
 have U:∀ W,qB z W→LibW W∧SlB W W.heap.size (.slice (some ⟨g,0,none⟩) inp.length v) inp:=fun W hW=>⟨hw.below (o.trans (hW.mono o.size)),ax.mono hW⟩
 have Q:∀ W,qB z W→qC 18 #[.string S,.slice (some ⟨g,0,none⟩) inp.length v,.int .i64 N] W (zaT W T):=fun W hW=>htr W _ _ (U W hW).1 (U W hW).2;have K:∀ W,qB z W→W.cell? ⟨w.heap.size,1,none⟩=some (.int .i64 N)∧W.cell? ⟨w.heap.size,2,none⟩=some (.string S)∧W.cell? ⟨w.heap.size,3,none⟩=some (.slice ao inp.length icap):=fun W hW=>⟨zap hW c1,zap hW B,zap hW c3⟩
 have H1:=K z (Below.refl _ _);have q1:qB z z.drew:=zkm;have q2:qB z (z.alloc Z34).drew:=((Below.refl _ _).alloc (Nat.le_refl _) _).drew;have q3:∀ W x,qB z W→qB z (W.alloc x):=fun W x h=>h.alloc h.size x;go_region_held3 (fun W=>W.cell? ⟨w.heap.size,1,none⟩=some (.int .i64 N)∧W.cell? ⟨w.heap.size,2,none⟩=some (.string S)∧W.cell? ⟨w.heap.size,3,none⟩=some (.slice ao inp.length icap))
  (first|exact H1|exact H3|exact H2|exact K _ (q3 _ _ d)|exact K _ q2)
  (first
    | (go_at_call 18;(with_reducible refine(Q _ q1).mono ?_);rintro e w2 ⟨D,H,C,rfl,k,d⟩;have d:=q1.trans (d.mono q1.size);have H2:=K _ d;have A:=zas T.m (.slice D H C) T.at_;have y:=zaz T.m D H C T.at_;obtain⟨W3,G,l,j,i,Y⟩:=zuT d A y k;have H3:=K _ j;generalize aE:zan T.m (.slice D H C) T.at_=ds at A y G l)
    | (go_at_call 18;(with_reducible refine(Q _ q2).mono ?_);rintro e w2 ⟨D,H,C,rfl,k,d⟩;have A:=zas T.m (.slice D H C) T.at_;have y:=zaz T.m D H C T.at_;obtain⟨W3,G,l,j,i,Y⟩:=zuU d A y k;have d:=q2.trans (d.mono q2.size);have H2:=K _ d;have H3:=K _ j;generalize aE:zan T.m (.slice D H C) T.at_=ds at A y G l))
 all_goals
  obtain⟨d1,d2,d3⟩:=H3;have c:=o.trans (j.mono o.size);have L:=hrt W3 (hiv.mono c);have av:=SlN.of_row (_n:=0) i;have ay:=(SlN.of_row (_n:=0) (by simpa using b):SlN z (.slice (some ⟨g,0,none⟩) (inp.length+1) v) (inp++[-77])).below j;clear htr hrt Q K H1 H2 U q1 q2 q3 c1 B c3 c0 Z G;go_wp2_with(first|(go_at_call 20;refine Hid.out ?_))
  unfold Hid;refine L.mono ?_;rintro e w6 ⟨o2,n2,B,rfl,O,ab⟩;dsimp only;have I:=zas T.m (.slice o2 n2 B) T.at_;have ah:=zaz T.m o2 n2 B T.at_;have ar:=SlN.of_row (_n:=0) O;generalize ag:zan T.m (.slice o2 n2 B) T.at_=ds2 at I ah;have aB:=zbd ds2 I;have al:(Tryz.prog.info? 34).map (·.size)=some ds.length:=by rw [A];exact Tryz.info34
  have am:(Tryz.prog.info? 34).map (·.size)=some ds2.length:=by rw [I];exact Tryz.info34
  have aw:=zbS (W1:=w6) rfl ds2 I;have s:=zxj (w:=w6) I;have M:=zow w6 ds2;have a:=ab.trans (M.mono ab.size);have V:=zcG l a Y;have E:=zgI _ T.m D o2 H n2 C B T.at_ (av.below a) (ar.below M) hout;rw [aE,ag] at E;have af:=c.trans (a.mono c.size);have P:=zap a d3;generalize aF:zuS w6 ds2=w7 at M V s a E af P;unfold zuS at aF;have J:Tryz.prog.underlying 34=some (.struct _):=Tryz.underlying34;clear L;go_wp2_with(first
   | (refine wpList_store_mid rfl 34 _ _ rfl w6.heap.size 0 ds2.toArray rfl rfl aw aB ah ?_;rw [aF])
   | (refine wpList_load_mid rfl 34 _ rfl _ 0 rfl ds _ V J rfl al ?_)
   | (refine wpList_load_mid rfl 34 _ rfl w6.heap.size 0 rfl ds2 _ s J rfl am ?_)
   | (go_at_call 21;refine Hid.out ?_))
  unfold Hid;refine E.mono ?_;rintro e w8 ⟨rfl,ai⟩;dsimp only;have t:=a.trans (ai.mono a.size);have aj:=c.trans (t.mono c.size);have p:=zdz _ _ inp (hiv.slN.below aj) hin;have d8:=zap ai P;clear E P d1 d2 d3 V s;go_wp2_with(first|(go_at_call 17;refine Hid.out ?_))
  unfold Hid;refine p.mono ?_;rintro e w9 ⟨u2,rfl,aa,aq⟩;dsimp only;have r:=t.trans (aq.mono t.size);have ad:=zdK w9 _ _ (inp++[-77]) (ay.below r) (SlN.of_row (_n:=0) (by simpa using aa)) (by simp;omega);go_wp2_with(first|(go_at_call 19;refine Hid.out ?_))
  unfold Hid;refine ad.mono ?_;rintro e ap ⟨rfl,au,ac⟩;dsimp only;have X:qB w9 ap:=by unfold qB;rw [ac];exact zaF _ au
  have f:=r.trans (X.mono r.size);have ak:=zcG l f Y;have an:=zx5 T.m (.slice D H C) T.at_;rw [aE] at an;have aC:=ak 25 _ an;rw [Nat.zero_add] at aC;have R:=c.trans (f.mono c.size);have aA:=j.trans (f.mono j.size);clear ac ad p;go_wp2;go_ret3;refine⟨_,_,_,_,_,_,rfl,zd1 (zd2 i f) ?_,zd1 (zd2 b aA) ?_,?_,?_,fun q hq he=>?_,R⟩
  ·exact o.size
  ·omega
  ·omega
  ·omega
  ·have h1:=(i.lt q hq).1;have h2:=(b.lt q he).2;omega
theorem zyU(N:Int)(S:ByteArray)(ao:Option Addr)(icap:Nat)(inp:List Int)(w:World)(hw:LibW w)(hiv:SlB w w.heap.size (.slice ao inp.length icap) inp)(hin:inp.length≤1048576)
  (hck:∀ W,LibW W→qC 3 #[.string S] W (qR W (.bool true))) :
  qC 27 #[.agg #[.int .i64 1,.int .i64 N,.string S,.slice ao inp.length icap]] w (zeW w):=by
 have c:qB w (w.alloc (opO 1 N S (.slice ao inp.length icap))):=(Below.refl _ _).alloc (Nat.le_refl _) _;have h:=zdz _ _ inp (hiv.slN.below c) hin;obtain⟨j,i,l,m⟩:=zg0 w 1 N S (.slice ao inp.length icap);go_enter Tryz.func27,Tryz.ntmps27;go_wp2_with(first
  | (go_at_call 17;refine Hid.out ?_))
 unfold Hid;have k:(w.alloc (opO 1 N S (.slice ao inp.length icap))).heap.size=w.heap.size+1:=by simp
 generalize w.alloc (opO 1 N S (.slice ao inp.length icap))=W0 at c h j i l m k ⊢;refine h.mono ?_;rintro e n ⟨u,rfl,a,b⟩;dsimp only;obtain⟨g,cap,rfl,hg,hgl,hcap⟩:=zgR a (by omega);have d:=c.trans (b.mono c.size);replace j:=zap b j;replace i:=zap b i;replace l:=zap b l;replace m:=zap b m;have o:=hck n (hw.below d);go_wp2_with(first|(go_at_call 3;(with_reducible refine o.mono ?_);rintro e w2 ⟨rfl,f⟩))
 go_ret3;refine⟨_,_,0,_,[],_,rfl,World.ownsRow_nil _ _ _ _,zd1 (zd2 a f) (by omega),by omega,by omega,(fun q hq=>by cases hq),d.trans (f.mono d.size)⟩
theorem zuV(N:Int)(S:ByteArray)(ao:Option Addr)(icap:Nat)(inp:List Int)(w:World)(hw:LibW w)(hiv:SlB w w.heap.size (.slice ao inp.length icap) inp)(hin:inp.length≤1048576)
  (hsd:∀ W,LibW W→SlB W W.heap.size (.slice ao inp.length icap) inp→qC 5 #[.string S,.slice ao inp.length icap] W (qR W (.bool true))) :
  qC 27 #[.agg #[.int .i64 3,.int .i64 N,.string S,.slice ao inp.length icap]] w (zeW w):=by
 have d:qB w (w.alloc (opO 3 N S (.slice ao inp.length icap))):=(Below.refl _ _).alloc (Nat.le_refl _) _;have h:=zdz _ _ inp (hiv.slN.below d) hin;obtain⟨j,i,l,m⟩:=zg0 w 3 N S (.slice ao inp.length icap);go_enter Tryz.func27,Tryz.ntmps27;go_wp2_with(first
  | (go_at_call 17;refine Hid.out ?_))
 unfold Hid;have k:(w.alloc (opO 3 N S (.slice ao inp.length icap))).heap.size=w.heap.size+1:=by simp
 generalize w.alloc (opO 3 N S (.slice ao inp.length icap))=W0 at d h j i l m k ⊢;refine h.mono ?_;rintro e n ⟨u,rfl,a,b⟩;dsimp only;obtain⟨g,cap,rfl,hg,hgl,hcap⟩:=zgR a (by omega);have c:=d.trans (b.mono d.size);replace j:=zap b j;replace i:=zap b i;replace l:=zap b l;replace m:=zap b m;have o:=hsd n (hw.below c) (hiv.mono c);go_wp2_with(first|(go_at_call 5;(with_reducible refine o.mono ?_);rintro e w2 ⟨rfl,f⟩))
 go_ret3;refine⟨_,_,0,_,[],_,rfl,World.ownsRow_nil _ _ _ _,zd1 (zd2 a f) (by omega),by omega,by omega,(fun q hq=>by cases hq),c.trans (f.mono c.size)⟩
theorem zxk(N:Int)(S:ByteArray)(ao:Option Addr)(icap:Nat)(inp:List Int)(w:World)(_hw:LibW w)(hiv:SlB w w.heap.size (.slice ao inp.length icap) inp)(hin:inp.length≤1048576)(kind:Int)(n1:¬kind=1)(n2:¬kind=2)(n3:¬kind=3)(n4:¬kind=4):
  qC 27 #[.agg #[.int .i64 kind,.int .i64 N,.string S,.slice ao inp.length icap]] w (zeW w):=by
 have m1:(kind == 1)=false:=by simpa using n1
 have m2:(kind == 2)=false:=by simpa using n2
 have m3:(kind == 3)=false:=by simpa using n3
 have m4:(kind == 4)=false:=by simpa using n4
 have c:qB w (w.alloc (opO kind N S (.slice ao inp.length icap))):=(Below.refl _ _).alloc (Nat.le_refl _) _;have d:=zdz _ _ inp (hiv.slN.below c) hin;obtain⟨i,f,k,l⟩:=zg0 w kind N S (.slice ao inp.length icap);go_enter Tryz.func27,Tryz.ntmps27;go_wp2_with(first
  | (go_at_call 17;refine Hid.out ?_))
 unfold Hid;have j:(w.alloc (opO kind N S (.slice ao inp.length icap))).heap.size=w.heap.size+1:=by simp
 generalize w.alloc (opO kind N S (.slice ao inp.length icap))=W0 at c d i f k l j ⊢;refine d.mono ?_;rintro e w1 ⟨u,rfl,a,b⟩;dsimp only;obtain⟨g,cap,rfl,hg,hgl,hcap⟩:=zgR a (by omega);have h:=c.trans (b.mono c.size);replace i:=zap b i;replace f:=zap b f;replace k:=zap b k;replace l:=zap b l;go_wp2;go_ret3;refine⟨_,_,0,_,[],_,rfl,World.ownsRow_nil _ _ _ _,zd1 (zd2 a (Below.refl _ _)) (by omega),by omega,by omega,(fun q hq=>by cases hq),h⟩
theorem zxl(N:Int)(S:ByteArray)(ao:Option Addr)(icap:Nat)(inp:List Int)(w:World)(hw:LibW w)(hiv:SlB w w.heap.size (.slice ao inp.length icap) inp)(hin:inp.length≤1048576)
  (hrl:∀ W,LibW W→SlB W W.heap.size (.slice ao inp.length icap) inp→qC 6 #[.string S,.slice ao inp.length icap] W (qR W (.bool true)))
  (hrn:∀ W ao icap,LibW W→SlB W W.heap.size (.slice ao inp.length icap) inp→qC 25 #[.string S,.slice ao inp.length icap] W fun e w'=>∃ T:Told,T.m.out.length≤1048577∧zaT W T e w') :
  qC 27 #[.agg #[.int .i64 4,.int .i64 N,.string S,.slice ao inp.length icap]] w (zeW w):=by
 have C:qB w (w.alloc (opO 4 N S (.slice ao inp.length icap))):=(Below.refl _ _).alloc (Nat.le_refl _) _;have L:=zdz _ _ inp (hiv.slN.below C) hin;obtain⟨c0,Q,O,K⟩:=zg0 w 4 N S (.slice ao inp.length icap);go_enter Tryz.func27,Tryz.ntmps27;go_wp2_with(first
  | (go_at_call 17;refine Hid.out ?_))
 unfold Hid;have ah:(w.alloc (opO 4 N S (.slice ao inp.length icap))).heap.size=w.heap.size+1:=by simp
 generalize w.alloc (opO 4 N S (.slice ao inp.length icap))=W0 at C L c0 Q O K ah ⊢;refine L.mono ?_;rintro e w1 ⟨u,rfl,c,t⟩;dsimp only;obtain⟨g,B,rfl,hg,V,X⟩:=zgR c (by omega);have A:=C.trans (t.mono C.size);replace c0:=zap t c0;replace Q:=zap t Q;replace O:=zap t O;replace K:=zap t K;have hcap2:inp.length≤B:=by omega
 have hcap3:(inp.length:Int)≤(B:Int):=by omega
 have F:=zgQ c V X;have hc:=hrl w1 (hw.below A) (hiv.mono A);go_wp2_with(first|(go_at_call 6;(with_reducible refine hc.mono ?_);rintro e v ⟨rfl,i⟩;refine Hid.out ?_))
 unfold Hid;have f:=zd2 c i;have aj:=F.mono i;have r:=A.trans (i.mono A.size);have hgv:g<v.heap.size:=Nat.lt_of_lt_of_le V i.size;replace Q:=zap i Q;replace O:=zap i O;replace K:=zap i K;clear hc hrl L F c0;go_wp2_with fail
 have P:∀ W,qB v W→qC 25 #[.string S,.slice (some ⟨g,0,none⟩) inp.length B] W fun e w'=>∃ T:Told,T.m.out.length≤1048577∧zaT W T e w':=fun W hW=>hrn W _ _ (hw.below (r.trans (hW.mono r.size))) (aj.mono hW);have D:∀ W,qB v W→W.cell? ⟨w.heap.size,2,none⟩=some (.string S)∧W.cell? ⟨w.heap.size,3,none⟩=some (.slice ao inp.length icap):=fun W hW=>⟨zap hW O,zap hW K⟩
 have H1:=D v (Below.refl _ _);have q1:qB v v.drew:=zkm;have Z:qB v (v.alloc Z34).drew:=((Below.refl _ _).alloc (Nat.le_refl _) _).drew;have q3:∀ W x,qB v W→qB v (W.alloc x):=fun W x h=>h.alloc h.size x;go_region_held3 (fun W=>W.cell? ⟨w.heap.size,2,none⟩=some (.string S)∧W.cell? ⟨w.heap.size,3,none⟩=some (.slice ao inp.length icap))
  (first|exact H1|exact H3|exact H2|exact D _ (q3 _ _ a)|exact D _ Z)
  (first
    | (go_at_call 25;(with_reducible refine(P _ q1).mono ?_);rintro e w2 ⟨T,ab,G,H,E,rfl,k,a⟩;have a:=q1.trans (a.mono q1.size);have H2:=D _ a;have s:=zas T.m (.slice G H E) T.at_;have o:=zaz T.m G H E T.at_;obtain⟨W3,y,z,d,j,Y⟩:=zuT a s o k;have H3:=D _ d;generalize ag:zan T.m (.slice G H E) T.at_=ds at s o y z)
    | (go_at_call 25;(with_reducible refine(P _ Z).mono ?_);rintro e w2 ⟨T,ab,G,H,E,rfl,k,a⟩;have s:=zas T.m (.slice G H E) T.at_;have o:=zaz T.m G H E T.at_;obtain⟨W3,y,z,d,j,Y⟩:=zuU a s o k;have a:=Z.trans (a.mono Z.size);have H2:=D _ a;have H3:=D _ d;generalize ag:zan T.m (.slice G H E) T.at_=ds at s o y z))
 all_goals
  obtain⟨d2,d3⟩:=H3;have l:=r.trans (d.mono r.size);have af:=(SlN.of_row (_n:=0) (by simpa using f):SlN v (.slice (some ⟨g,0,none⟩) (inp.length+1) B) (inp++[-77])).below d;have n:=zdz _ _ inp (hiv.slN.below l) hin;clear hrn P D H1 H2 q1 Z q3 Q O K y d2;go_wp2_with(first|(go_at_call 17;refine Hid.out ?_))
  unfold Hid;refine n.mono ?_;rintro e w9 ⟨u2,rfl,M,p⟩;dsimp only;have U:=zdK w9 _ _ (inp++[-77]) (af.below p) (SlN.of_row (_n:=0) (by simpa using M)) (by simp;omega);go_wp2_with(first|(go_at_call 19;refine Hid.out ?_))
  unfold Hid;refine U.mono ?_;rintro e ae ⟨rfl,ak,R⟩;dsimp only;have J:qB w9 ae:=by unfold qB;rw [R];exact zaF _ ak
  have b:=p.trans (J.mono p.size);have aa:=zcG z b Y;have ac:=zx5 T.m (.slice G H E) T.at_;rw [ag] at ac;have ad:=aa 25 _ ac;rw [Nat.zero_add] at ad;have I:=l.trans (b.mono l.size);have ai:=d.trans (b.mono d.size);clear R U n;go_wp2;go_ret3;refine⟨_,_,_,_,_,_,rfl,zd1 (zd2 j b) ?_,zd1 (zd2 f ai) ?_,?_,?_,fun q hq he=>?_,I⟩
  ·exact r.size
  ·omega
  ·omega
  ·omega
  ·have h1:=(j.lt q hq).1;have h2:=(f.lt q he).2;omega
def ptrV(b:Nat):Value:=.pointer (some ⟨b,0,none⟩)
structure HsGo(w:World)(X:Nat→Prop)(hv:Value)(bs:List Nat)(wr:World):Prop where
 row:wr.ownsRow w.heap.size 56 1 hv bs.length (bs.map ptrV)
 hold:∀ b∈bs,HoldIn wr X b
 low:qB w wr
theorem HoldIn.there{w:World}{X:Nat→Prop}{b:Nat}(h:HoldIn w X b):HoldIn w (fun q=>q<w.heap.size) b:=h.keep fun _ _ _ _ _ hq=>⟨zbx hq,hq⟩
theorem HsGo.start(w:World):HsGo w (fun q=>q<w.heap.size) (.slice none 0 0) [] w:=⟨World.ownsRow_nil _ _ _ _,fun b hb=>(by cases hb),Below.refl _ _⟩
theorem zpB{w wr wr':World}{r:Option Nat}(h:qB w wr)(hg:wr.grownBy wr' r)(hr:∀ q,r=some q→w.heap.size≤q):qB w wr' :=
 ⟨hg.os.trans h.os,hg.tape.trans h.tape,hg.output.trans h.output,Nat.le_trans h.size hg.size,fun q hq=>(hg.block q (Nat.lt_of_lt_of_le hq h.size) (fun e=>by have:=hr q e.symm;omega)).trans (h.block q hq)⟩
theorem HsGo.grow{w wr wr':World}{X:Nat→Prop}{hv:Value}{bs:List Nat}{r:Option Nat}(h:HsGo w X hv bs wr)(hg:wr.grownBy wr' r)(hr:∀ q,r=some q→¬X q∧w.heap.size≤q∧∃ cur,wr.heap[q]?=some (.cells cur 2 (0,0))):HsGo w X hv bs wr':=by
 refine⟨zaj h.row (fun q hq=>?_),fun b hb=>(h.hold b hb).keep fun q cur t hx _ hq=>⟨hx,?_⟩,zpB h.low hg (fun q e=>(hr q e).2.1)⟩
 ·obtain⟨cur,c⟩:=zbN h.row hq;refine hg.block q (zbx c) (fun e=>?_);obtain⟨_,_,c2,a⟩:=hr q e.symm;exact zdl c a (by decide) rfl
 ·exact(hg.block q (zbx hq) (fun e=>(hr q e.symm).1 hx)).trans hq
theorem zrV{w w':World}(h:qB w w'):w.grownBy w' none:=⟨h.os,h.tape,h.output,h.size,fun q hq _=>h.block q hq⟩
theorem HsGo.below{w wr wr':World}{X:Nat→Prop}{hv:Value}{bs:List Nat}(h:HsGo w X hv bs wr)(hb:qB wr wr'):HsGo w X hv bs wr':=h.grow (zrV hb) (fun q e=>by cases e)
theorem zox{wr wr':World}{B k:Nat}{hv:Value}{xs:List Value}(h:wr.ownsRow B 56 1 hv k xs)(hg:wr.grownBy wr' hv.ownBlock){q:Nat}{cur:Array Value}{t:TypeId}(ht:¬t=56)(hq:wr.heap[q]?=some (.cells cur t (0,0))):wr'.heap[q]?=some (.cells cur t (0,0)) :=
 (hg.block q (zbx hq) (fun e=>by
   obtain⟨c2,hc2⟩:=zbN h e.symm;exact zdl hq hc2 ht rfl)).trans hq
theorem HsGo.push{w wr wr':World}{X Y:Nat→Prop}{hv hv':Value}{bs:List Nat}{b:Nat}{o:Obj}(h:HsGo w X hv bs wr)(hx:HoldIn wr Y b)(hg0:(wr.alloc o).grownBy wr' hv.ownBlock)(hr:wr'.ownsRow w.heap.size 56 1 hv' (bs.length+1) (bs.map ptrV++[ptrV b])):HsGo w (fun q=>X q∨Y q) hv' (bs++[b]) wr':=by
 have a:wr.grownBy wr' hv.ownBlock:=(World.grownBy_alloc wr o _).trans hg0;refine⟨by simpa using hr,fun c hc=>?_,zpB h.low a (fun q e=>(h.row.lt q e).1)⟩;rcases List.mem_append.1 hc with e|e
 ·exact(h.hold c e).keep fun q cur t hq ht hh=>⟨.inl hq,zox h.row a ht hh⟩
 ·rw [List.mem_singleton.1 e];exact hx.keep fun q cur t hq ht hh=>⟨.inr hq,zox h.row a ht hh⟩
theorem HsGo.up{w wr:World}{X:Nat→Prop}{hv:Value}{bs:List Nat}(h:HsGo w X hv bs wr):HsGo w (fun q=>q<wr.heap.size) hv bs wr:=⟨h.row,fun b hb=>(h.hold b hb).there,h.low⟩
theorem Tryz.info56:(Tryz.prog.info? 56).map (fun i=>(i.zero,i.size,i.bytes))=some (some (.pointer none),1,8):=by kernel_rfl
theorem Tryz.under51:Tryz.prog.underlying 51=some (.slice 56):=by kernel_rfl
structure OpD where
 kind:Int
 n:Int
 s:ByteArray
 ao:Option Addr
 cap:Nat
 inp:List Int
def OpD.cells(o:OpD):List Value:=[.int .i64 o.kind,.int .i64 o.n,.string o.s,.slice o.ao o.inp.length o.cap]
theorem alaw(so:Option Addr)(scap:Nat)(ops:List OpD)(w:World)(hn:ops.length≤1048576)
  (hso:0<ops.length→∃ g o,so=some ⟨g,o,none⟩∧g<w.heap.size∧∀ k (h:k<ops.length),w.cell? ⟨g,o+k*4,none⟩=some (.int .i64 ops[k].kind)∧w.cell? ⟨g,o+k*4+1,none⟩=some (.int .i64 ops[k].n)∧w.cell? ⟨g,o+k*4+2,none⟩=some (.string ops[k].s)∧w.cell? ⟨g,o+k*4+3,none⟩=some (.slice ops[k].ao ops[k].inp.length ops[k].cap))
  (hone:∀ o∈ops,∀ W,qB w W→qC 27 #[.agg #[.int .i64 o.kind,.int .i64 o.n,.string o.s,.slice o.ao o.inp.length o.cap]] W (zeW W)) :
  qC 7 #[.slice so ops.length scap] w (qR w (.bool true)):=by
 obtain⟨R,v,m,t,r⟩:=info_parts Tryz.info56;go_enter Tryz.func7,Tryz.ntmps7;go_wp2
 go_loopw [3,4] (fun th ti wr=>∃(i:Nat) (hv:Value) (b:List Nat),i≤ops.length∧b.length=2*i∧th=hv∧ti=.int .i64 (i:Int)∧HsGo w (fun q=>q<wr.heap.size) hv b wr) (fun _ ti _=>ops.length-(intOf ti).toNat)
 case atStart=>exact⟨0,_,[],by omega,rfl,rfl,rfl,HsGo.start w⟩
 case round =>
  obtain⟨i,hv,b,hi,N,rfl,rfl,H⟩:=hrel;by_cases M:i<ops.length
  ·obtain⟨g,o,rfl,hg,hc⟩:=hso (by omega);obtain⟨c0,c1,Y,K⟩:=hc i M;replace c0:=zap H.low c0;replace c1:=zap H.low c1;replace Y:=zap H.low Y;replace K:=zap H.low K;have h1:=hone ops[i] (List.getElem_mem M) wr H.low;have hi0:(0:Int)≤(i:Int):=by omega
   have hi1:(i:Int)<(ops.length:Int):=by omega
   generalize ops[i]=op at c0 c1 Y K h1;go_wp2_with(first|(go_at_call 27;refine Hid.out ?_))
   unfold Hid;refine h1.mono ?_;rintro e w1 ⟨out,ab,n1,n2,xs1,S,rfl,Q,r2,z1,z2,P,T⟩;dsimp only;have H1:=H.below T;have ac:=T.size;clear h1 c0 c1 Y K;obtain⟨hvo,hvc,ad⟩:=zb7 H1.row;subst ad;have HB:Hid (b.length=2*i):=N;have hbl:b.length≤2097152:=by omega
   clear N;have E:=zpA Q z1 ((b.length:Nat):Int) (by omega) (by omega) ac;go_wp2_with(first|(go_at_call 28;refine Hid.out ?_))
   unfold Hid;with_reducible refine E.mono ?_
   rintro e Z ⟨b1,rfl,aa,u⟩;dsimp only;have D:=H.low.size;have G:=H1.grow u (fun q e=>⟨Nat.not_lt.2 (Q.lt q e).1,Nat.le_trans D (Q.lt q e).1,zbN Q e⟩);have y:Z.ownsRow wr.heap.size 2 1 ab n2 S:=zaj r2 (fun q hq=>u.block q (r2.lt q hq).2 (fun e=>P q e.symm hq));have ae:=u.size;clear E;go_wp2_with(first
    | (at_builtin;refine wpList_append_lies _ rfl _ _ 51 rfl w.heap.size 56 R (.pointer none) 1 8 Tryz.under51 v m t r rfl (by decide) _ _ _ rfl (G.row.alloc _) ⟨Z.heap.size,0,none⟩ 1 1 [.pointer (some ⟨b1,0,none⟩)] rfl rfl (cell_one_new _ _ _) (zfP _ rfl) (by decide) (by unfold maxLen;omega) (by omega) (by have:=G.low.size;simp;omega) (Z.heap.size+1) (by simp) ?_))
   intro g3 K w3 p a _ _;have H3:=G.push aa a p;have l:w3.ownsRow wr.heap.size 2 1 ab n2 S:=zaj y (fun q hq=>by
    obtain⟨Y,O⟩:=zbN y hq;exact(zox G.row ((World.grownBy_alloc Z _ _).trans a) (by decide) O).trans O.symm)
   have B:(b++[b1]).length=b.length+1:=by simp
   have hs3:w1.heap.size≤w3.heap.size:=Nat.le_trans ae ((World.grownBy_alloc Z _ _).trans a).size;have L:=zpA l z2 ((b.length:Int)+1) (by omega) (by omega) (by omega);go_wp2_with(first|(go_at_call 28;refine Hid.out ?_))
   unfold Hid;with_reducible refine L.mono ?_
   rintro e w4 ⟨b2,rfl,J,F⟩;dsimp only;have H4:=H3.grow F (fun q e=>⟨fun X=>?_,Nat.le_trans D (l.lt q e).1,zbN l e⟩)
   ·clear L;have z:=H4.row;rw [B] at z;go_wp2_with(first
     | (at_builtin;refine wpList_append_lies _ rfl _ _ 51 rfl w.heap.size 56 R (.pointer none) 1 8 Tryz.under51 v m t r rfl (by decide) _ _ _ rfl (z.alloc _) ⟨w4.heap.size,0,none⟩ 1 1 [.pointer (some ⟨b2,0,none⟩)] rfl rfl (cell_one_new _ _ _) (zfP _ rfl) (by decide) (by unfold maxLen;omega) (by omega) (by have:=H4.low.size;simp;omega) (w4.heap.size+1) (by simp) ?_))
    intro g5 c5 d f c _ _;have H5:=(H4.push J c (by rw [B];simp only [List.map_append,List.map_cons,List.map_nil,List.append_assoc,List.cons_append,List.nil_append];exact f)).up;have x:(b++[b1]++[b2]).length=b.length+1+1:=by simp
    generalize hL5:b++[b1]++[b2]=L5 at H5 x;clear H1 G H3 H4 z p f a c Q r2 y l u F aa J H B;have V:∀ j (A:j<L5.length),HoldIn d (fun q=>q<d.heap.size) L5[j]:=fun j A=>H5.hold _ (List.getElem_mem A);have I:∀ j (A:j<L5.length),d.cell? ⟨g5,j,none⟩=some (.pointer (some ⟨L5[j],0,none⟩)):=fun j A=>by
     have e:=H5.row;rw [x] at e;have e2:=e.cellAt j (by omega);rw [e2,List.getElem?_map,List.getElem?_eq_getElem A];rfl
    have hl5:L5.length≤2200000:=by omega
    go_wp2_with fail
    go_loopw [7,8] (fun tk ti wr=>∃ j n:Nat,j≤L5.length∧tk=.bool true∧ti=.int .i64 (j:Int)∧wr=d.drewN n) (fun _ ti _=>L5.length-(intOf ti).toNat)
    case atStart=>exact⟨0,0,by omega,rfl,rfl,rfl⟩
    case round =>
     obtain⟨j,n,A,rfl,rfl,rfl⟩:=hrel;by_cases C:j<L5.length
     ·have d1:(d.drewN n).cell? ⟨g5,j,none⟩=some (.pointer (some ⟨L5[j],0,none⟩)):=I j C;have hk:HoldIn (d.drewN n) (fun q=>q<d.heap.size) L5[j]:=V j C;have hm:=zrU hk;have U:∀ k,(d.drewN n).drewN k=d.drewN (n+k):=fun k=>by rw [World.drewN_drewN]
      have HN:Hid (∀ k,(d.drewN n).drewN k=d.drewN (n+k)):=U;have hj0:(0:Int)≤(j:Int):=by omega
      have ag:(j:Int)<(b.length:Int)+1+1:=by omega
      clear U V I hk;generalize L5[j]=bj at d1 hm;generalize d.drewN n=W at d1 HN hm ⊢;go_wp2_with(first|(go_at_call 29;(with_reducible refine hm.mono ?_);rintro e wz ⟨rfl,nz,af⟩;subst af))
      go_roundw
      case rel=>exact⟨j+1,_,by omega,rfl,by go_num,HN.out nz⟩
      case measure=>simp [intOf];omega
     ·have ag:¬(j:Int)<(b.length:Int)+1+1:=by omega
      have H6:HsGo w (fun q=>q<(d.drewN n).heap.size) (.slice (some ⟨g5,0,none⟩) (b.length+1+1) c5) L5 (d.drewN n):=H5.below (zaF _ n);go_wp2;go_roundw
      case rel=>exact⟨i+1,_,L5,by omega,by have:=HB.out;omega,rfl,by go_num,H6⟩
      case measure=>simp [intOf];omega
   ·rcases X with X|X|X
    ·exact Nat.not_lt.2 (l.lt q e).1 X
    ·exact P q X e
    ·exact Nat.not_lt.2 X (r2.lt q e).2
  ·go_wp2;go_ret;exact⟨rfl,H.low⟩
end
end Go.Proofs.YtfpgjkbjbbgciaaGreatDoor
