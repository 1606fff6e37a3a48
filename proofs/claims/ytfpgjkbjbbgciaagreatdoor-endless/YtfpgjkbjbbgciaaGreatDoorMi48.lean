import Derived.Test.YtfpgjkbjbbgciaaGreatDoorMi43
import Derived.Test.YtfpgjkbjbbgciaaGreatDoorMi45
import Derived.Test.YtfpgjkbjbbgciaaGreatDoorMi46
set_option maxRecDepth 100000
set_option maxHeartbeats 8000000
namespace Go.Proofs.YtfpgjkbjbbgciaaGreatDoor
open Go.RowKit Sp
abbrev OutW(w:World):World:=(w.alloc (.cells #[.int .i64 0] 22)).alloc (.cells #[.int .i64 0] 3)
theorem zhH(fn:Nat)(caps:Array Value)(w:World)(Q:World→Prop)(hfn:∀ W,(callFunc fn caps).run Tryz.prog W=.ok (.enter fn caps) W)
  (hcall:Calls Tryz.prog fn caps (OutW w) fun e w1=>e=.returned (.tuple #[])∧Q w1)
  (hQ:∀ w1,Q w1→w1.cell? ⟨w.heap.size,0,none⟩=some (.int .i64 0)∧w1.cell? ⟨w.heap.size+1,0,none⟩=some (.int .i64 0)∧w1.frozen? ⟨w.heap.size,0,none⟩=false∧w1.frozen? ⟨w.heap.size+1,0,none⟩=false) :
  Calls Tryz.prog 42 #[.func (.func fn) #[] caps] w fun e w'=>e=.returned (.tuple #[.int .i64 0,.int .i64 0])∧∃ w1,Q w1∧w'=(w1.setCell ⟨w.heap.size,0,none⟩ (.int .i64 0)).setCell ⟨w.heap.size+1,0,none⟩ (.int .i64 0):=by
 have hmf:∀(fn:Go.Fn) (first cap:Array Value) (w:World),(Instr.makeFunc fn first cap).run Tryz.prog w=.ok (.func fn first cap) w:=fun _ _ _ _=>rfl
 go_enter_defers Tryz.func42,Tryz.ntmps42
 go_wp2_with(first|(refine hcall.mono ?_;rintro e w1 ⟨rfl,hq⟩;obtain⟨z0,z1,f0,f1⟩:=hQ w1 hq))
 have y0:((w1.setCell ⟨w.heap.size,0,none⟩ (.int .i64 0)).setCell ⟨w.heap.size+1,0,none⟩ (.int .i64 0)).cell? ⟨w.heap.size,0,none⟩=some (.int .i64 0):=by
  rw [World.cell?_setCell_other]
  ·exact World.cell?_setCell_same w1 _ _ z0
  ·simp
 have y1:((w1.setCell ⟨w.heap.size,0,none⟩ (.int .i64 0)).setCell ⟨w.heap.size+1,0,none⟩ (.int .i64 0)).cell? ⟨w.heap.size+1,0,none⟩=some (.int .i64 0):=by
  refine World.cell?_setCell_same (u:=.int .i64 0) _ _ _ ?_
  rw [World.cell?_setCell_other]
  ·exact z1
  ·simp
 generalize hX:(w1.setCell ⟨w.heap.size,0,none⟩ (.int .i64 0)).setCell ⟨w.heap.size+1,0,none⟩ (.int .i64 0)=X at y0 y1 ⊢
 refine leaves_cons (f:=64) (args:=#[.pointer (some ⟨w.heap.size,0,none⟩),.pointer (some ⟨w.heap.size+1,0,none⟩)]) (by simp) (by simp [go_sem]) ?_
 refine(zju w.heap.size _).mono ?_
 rintro e u' w'' ⟨rfl,rfl,rfl⟩
 exact⟨.tuple #[.int .i64 0,.int .i64 0],by simp [results,Tryz.results42,go_sem,y0,y1],rfl,w1,hq,hX.symm⟩
theorem zeq(fn:Nat)(caps:Array Value)(w:World)(er ln:Int)(hfn:∀ W,(callFunc fn caps).run Tryz.prog W=.ok (.enter fn caps) W)
  (hcall:Calls Tryz.prog fn caps (OutW w) fun e w1=>e=zak er ln∧Below (OutW w).heap.size (OutW w) w1) :
  Calls Tryz.prog 42 #[.func (.func fn) #[] caps] w fun e w'=>e=.returned (.tuple #[.int .i64 er,.int .i64 ln])∧Below w.heap.size w w':=by
 have hmf:∀(fn:Go.Fn) (first cap:Array Value) (w:World),(Instr.makeFunc fn first cap).run Tryz.prog w=.ok (.func fn first cap) w:=fun _ _ _ _=>rfl
 go_enter_defers Tryz.func42,Tryz.ntmps42
 go_wp2_with(first|(refine hcall.mono ?_;rintro e w1 ⟨rfl,hb⟩;obtain⟨hc,hf⟩:=zhF hb))
 have z0:w1.cell? ⟨w.heap.size,0,none⟩=some (.int .i64 0):=by rw [hc _ _ (by simp;omega)];simp
 have z1:w1.cell? ⟨w.heap.size+1,0,none⟩=some (.int .i64 0):=by rw [hc _ _ (by simp)];simp
 have f0:w1.frozen? ⟨w.heap.size,0,none⟩=false:=by rw [hf _ _ (by simp;omega)];simp
 have f1:w1.frozen? ⟨w.heap.size+1,0,none⟩=false:=by rw [hf _ _ (by simp)];simp
 refine leaves_cons (f:=64) (args:=#[.pointer (some ⟨w.heap.size,0,none⟩),.pointer (some ⟨w.heap.size+1,0,none⟩)]) (by simp) (by simp [go_sem]) ?_
 refine(zfF w.heap.size 0 0 er ln _ z0 z1 f0 f1).mono ?_
 rintro e u' w'' ⟨rfl,rfl,hb2,y0,y1⟩
 exact⟨.tuple #[.int .i64 er,.int .i64 ln],by simp [results,Tryz.results42,go_sem,y0,y1],rfl,(zmR _ _ _ hb).trans hb2⟩
theorem zlL{fn:Func}{a b c:Tmp}{w X:World}{T:Told}{ao:Option Addr}{no co:Nat}{act:Act}(pr:Nat)(hpr:w.heap.size≤pr)(hr3:fn.results=#[.cell a 34,.tmp b,.tmp c])(ds:List Value)(hds:zaV T.m (.slice ao no co) T.at_=ds)(ht:X.there pr 0 ds.toArray.size)(hb:Below w.heap.size w X)(how:X.ownsRow w.heap.size 2 1 (.slice ao no co) T.m.out.length (i64s T.m.out))
  (hne:∀ q,(Value.slice ao no co).ownBlock=some q→¬q=pr)
  (hp:act.tmps.getD a undef=.pointer (some ⟨pr,0,none⟩)) (h1:act.tmps.getD b undef=.int .i64 T.err) (h2:act.tmps.getD c undef=.int .i64 T.line) (hd:act.defers=[]) :
  bodyPost Tryz.prog fn (ze2 w T) .ret act (X.setCells pr 0 ds):=by
 have hl:ds.length=30:=by rw [←hds];exact zbX _ _ _
 have hu34:Tryz.prog.underlying 34=some (.struct _):=Tryz.underlying34
 have hr:=World.rangeAt_setCells_same X pr 0 ds (by rw [show ds.length=ds.toArray.size by simp];exact ht)
 have hres:=run_loadVar_mid (X.setCells pr 0 ds) pr 0 34 ds _ hr hu34 rfl (by rw [hl];exact Tryz.info34)
 have hr2:=zkn hr3 act.tmps ⟨pr,0,none⟩ hp hres
 rw [h1,h2] at hr2
 refine bodyPost_ret hr2 hd ⟨ao,no,co,by rw [hds],?_,zaF ds 0 hb hpr⟩
 exact zaj how (fun q hq=>zbG ds X _ _ _ (hne q hq))
theorem zeS(w:World):Below w.heap.size w (OutW w):=((Below.refl _ _).alloc (Nat.le_refl _) _).alloc (by simp) _
theorem zn5{w w':World}{B b o:Nat}{cs:List Value}(h:w.rangeAt b o cs)(hb:Below B w w')(hB:b<B):w'.rangeAt b o cs:=fun j u hj=>(hb.cell (p:=⟨b,o+j,none⟩) hB).trans (h j u hj)
theorem zn6{w w':World}{b o:Nat}{cs:List Value}(h:w.rangeAt b o cs)(e:w'.heap[b]?=w.heap[b]?):w'.rangeAt b o cs:=fun j u hj=>(World.cell?_of_block (w:=w) (a:=⟨b,o+j,none⟩) e).trans (h j u hj)
theorem zn7{w w':World}{b o n:Nat}(h:w.there b o n)(e:w'.heap[b]?=w.heap[b]?):w'.there b o n:=fun j hj=>by
 obtain⟨h1,h2⟩:=h j hj
 exact⟨by rw [World.cell?_of_block (w:=w) (a:=⟨b,o+j,none⟩) e];exact h1,by rw [World.frozen?_of_block (w:=w) (a:=⟨b,o+j,none⟩) e];exact h2⟩
theorem zq6{W w1:World}{pr:Nat}{m:Mc}{line:Int}(hpr:pr<W.heap.size)(h:ztg (OutW W) pr m line w1):
  w1.cell? ⟨W.heap.size,0,none⟩=some (.int .i64 0)∧w1.cell? ⟨W.heap.size+1,0,none⟩=some (.int .i64 0)∧w1.frozen? ⟨W.heap.size,0,none⟩=false∧w1.frozen? ⟨W.heap.size+1,0,none⟩=false:=by
 obtain⟨wz,ao,no,co,rfl,hb,_⟩:=h
 have hs:(OutW W).heap.size=W.heap.size+1+1:=by simp
 have e0:(wz.setCells pr 0 (zaV m (.slice ao no co) line)).heap[W.heap.size]?=(OutW W).heap[W.heap.size]?:=(zbG _ wz pr 0 _ (by omega)).trans (hb.block _ (by omega))
 have e1:(wz.setCells pr 0 (zaV m (.slice ao no co) line)).heap[W.heap.size+1]?=(OutW W).heap[W.heap.size+1]?:=(zbG _ wz pr 0 _ (by omega)).trans (hb.block _ (by omega))
 refine⟨?_,?_,?_,?_⟩
 ·rw [World.cell?_of_block (w:=OutW W) (a:=⟨W.heap.size,0,none⟩) e0];simp [OutW]
 ·rw [World.cell?_of_block (w:=OutW W) (a:=⟨W.heap.size+1,0,none⟩) e1];simp [OutW]
 ·rw [World.frozen?_of_block (w:=OutW W) (a:=⟨W.heap.size,0,none⟩) e0];simp [OutW]
 ·rw [World.frozen?_of_block (w:=OutW W) (a:=⟨W.heap.size+1,0,none⟩) e1];simp [OutW]
theorem SO.hperm{w:World}{B S g:Nat}{C:List (Ins × Int)}{v mv:Value}{xs hs hs':List Wy}{ms:List Mk}(h:SO w B S g C v mv xs hs ms)(hp:hs.Perm hs'):SO w B S g C v mv xs hs' ms:=by
 have hpp:(hs++xs).Perm (hs'++xs):=List.Perm.append_right xs hp
 have mem:∀ z,z∈hs'++xs→z∈hs++xs:=fun z hz=>hpp.mem_iff.2 hz
 exact⟨h.code,h.gB,h.SB,h.SL,h.hp,h.ord,fun x hx=>h.hand x (hp.mem_iff.2 hx),h.mkr,h.mbh,h.vS,h.mS,h.vm,(hpp.map Wy.b).nodup_iff.1 h.nod,fun x hx=>by
  obtain⟨a1,a2,a3⟩:=h.far x (mem x hx)
  exact⟨a1,a2,fun a ha=>⟨(a3 a ha).1,fun z hz=>(a3 a ha).2 z (mem z hz)⟩⟩,fun m hm a ha=>⟨(h.mfar m hm a ha).1,fun z hz=>(h.mfar m hm a ha).2 z (mem z hz)⟩⟩
def zk7(w:World)(S:Nat):Nat:=match w.cell? ⟨S,1,none⟩ with|some (.slice _ n _)=>n|_=>0
theorem zjS{w:World}{S n cap:Nat}{ao:Option Addr}(h:w.cell? ⟨S,1,none⟩=some (.slice ao n cap)):zk7 w S=n:=by unfold zk7;rw [h]
theorem zmf{w:World}{B:Nat}{v:Value}{xs:List Wy}(h:HeapM w B v xs)(hp:0<xs.length):∃ H cap,v=.slice (some ⟨H,0,none⟩) xs.length cap:=by
 obtain⟨g,cap,e,_⟩:=h.row.form hp
 exact⟨g,cap,e⟩
theorem znO{W ys:List Kn}{k:Kn}(h:TakeR W k ys):∀ y∈ys,keyK k≤keyK y:=by
 obtain⟨zs,c⟩:=h.cls
 exact c.least
theorem zwu{W:List Kn}{k:Kn}{ys:List Wy}(h:TakeR W k (ys.map Wy.k))(hA:HpAll (stp ys) ys.length)(hk:KeyOk k)(hy:∀ y∈ys,KeyOk y.k)(h0:0<ys.length→¬Meet (ys.getD 0 wy0).k k):TakeD W k (ys.map Wy.k):=by
 refine⟨h,fun y hm hM=>?_⟩
 obtain⟨x,hx,rfl⟩:=List.mem_map.1 hm
 obtain⟨i,hi,hxi⟩:=List.mem_iff_getElem.1 hx
 have hl:0<ys.length:=by omega
 have h1:=hA.least i hi
 have e1:stp ys 0=keyK (ys.getD 0 wy0).k:=rfl
 have e2:stp ys i=keyK x.k:=by unfold stp;rw [←hxi];simp [List.getD,hi]
 have m0:ys.getD 0 wy0∈ys:=by simp [List.getD,hl]
 have h2:=znO h _ (List.mem_map_of_mem m0)
 have h3:=hM.key
 exact h0 hl (zk6 (hy _ m0) hk (by omega))
def ziD(w:World)(B S g:Nat)(C:List (Ins × Int))(cv mv:Value)(R:Rs)(looks:Nat)(bs bf:Int)(W:List Kn):Ending→World→Prop:=fun e w'=>∃(v:Value) (ys:List Wy) (x:Wy),e=.returned (.pointer (some ⟨x.b,0,none⟩))∧SO w' B S g C v mv ys [x] R.marked∧SC w' S cv v mv R looks bs bf∧TakeD W x.k (ys.map Wy.k)∧Below B w w'
theorem ziE{w w0:World}{B S g H cap:Nat}{C:List (Ins × Int)}{cv mv:Value}{R:Rs}{looks:Nat}{bs bf:Int}{xs hs:List Wy}(O:SO w B S g C (.slice (some ⟨H,0,none⟩) xs.length cap) mv xs hs R.marked)(c:SC w S cv (.slice (some ⟨H,0,none⟩) xs.length cap) mv R looks bs bf)(hb:Below B w0 w)(hne:0<xs.length)(hlen:xs.length≤100000):
  Calls Tryz.prog 139 #[.pointer (some ⟨S,1,none⟩)] w fun e w'=>∃ ys:List Wy,e=.returned (.pointer (some ⟨(xs.getD 0 wy0).b,0,none⟩))∧(xs.getD 0 wy0 :: ys).Perm xs∧SO w' B S g C (.slice (some ⟨H,0,none⟩) ys.length cap) mv ys (xs.getD 0 wy0 :: hs) R.marked∧SC w' S cv (.slice (some ⟨H,0,none⟩) ys.length cap) mv R looks bs bf∧Below B w0 w':=by
 have hHS:¬S=H:=fun e=>O.vS (by rw [e];rfl)
 have hBw:B≤w.heap.size:=by have:=O.SB;have:=O.SL;omega
 refine(zt6 (B:=B) c.c1 (c.fz 1) O.hp O.ord hne hlen hHS (fun y hy=>?_)).mono ?_
 ·obtain⟨_,f1,f2⟩:=O.far y (List.mem_append_right _ hy)
  exact⟨f1.1,fun a ha=>(f2 a ha).1.1⟩
 ·rintro e w' ⟨rfl,ys,hp,hc,hM,hA,hx,hk⟩
  refine⟨ys,rfl,hp,O.took hk hp hM hA hx,(c.one (o:=1) hk.cell hk.fz hc).1 rfl,hb.trans (ziC hk O.SB hBw (fun q hq=>?_))⟩
  cases hq
  exact(O.hp.row.lt H rfl).1
theorem zyt{w w0:World}{B S g:Nat}{C:List (Ins × Int)}{cv v mv:Value}{R:Rs}{looks:Nat}{bs bf:Int}{xs:List Wy}{x y:Wy}(O:SO w B S g C v mv xs [y,x] R.marked)(c:SC w S cv v mv R looks bs bf)(hb:Below B w0 w):
  Calls Tryz.prog 142 #[.pointer (some ⟨x.b,0,none⟩),.pointer (some ⟨y.b,0,none⟩)] w fun e w'=>e=.returned (.tuple #[])∧SO w' B S g C v mv xs [⟨x.b,x.ao,x.cap,zf8 x.k y.k⟩] R.marked∧SC w' S cv v mv R looks bs bf∧Below B w0 w':=by
 have O2:SO w B S g C v mv xs [x,y] R.marked:=O.hperm (List.Perm.swap x y [])
 have X:=O2.hand x (by simp)
 have Y:=O2.hand y (by simp)
 have hne:¬y.b=x.b:=by
  have h1:=O2.nod
  have h2:=(List.nodup_cons.1 (show(x.b :: ([y]++xs).map Wy.b).Nodup from h1)).1
  intro e
  exact h2 (by rw [←e];simp)
 have far:=O2.far x (by simp)
 have hBw:B≤w.heap.size:=by have:=O.SB;have:=O.SL;omega
 refine(ztx X.kn Y.kn hne).mono ?_
 rintro e w' ⟨rfl,hK,hg⟩
 have X':WyM w' ⟨x.b,x.ao,x.cap,zf8 x.k y.k⟩:=⟨⟨X.key.next,X.key.behind⟩,hK,X.bh.grown hg (fun a ha=>(far.2.2 a ha).2 x (by simp))⟩
 have O3:=O2.turn (rs:=[⟨x.b,x.ao,x.cap,zf8 x.k y.k⟩]) hg (fun z hz=>by rw [List.mem_singleton.1 hz];exact X') (fun z hz=>by rw [List.mem_singleton.1 hz];exact .inl rfl) (by simp) (fun z hz a ha=>by
  rw [List.mem_singleton.1 hz] at ha
  exact⟨.inl ha,fun u hu=>by rw [List.mem_singleton.1 hu];exact(far.2.2 a ha).2 x (by simp)⟩)
 have O4:SO w' B S g C v mv xs [y,⟨x.b,x.ao,x.cap,zf8 x.k y.k⟩] R.marked:=O3.hperm (List.Perm.swap y ⟨x.b,x.ao,x.cap,zf8 x.k y.k⟩ [])
 refine⟨rfl,O4.drop,c.block (hg.block S O.SL (fun e=>far.2.1.1 (by cases e;rfl))),hb.grown hg hBw (fun q hq=>by cases hq;exact far.1)⟩
theorem zjT{w wr:World}{B S g:Nat}{C:List (Ins × Int)}{cv v mv:Value}{R:Rs}{looks:Nat}{bs bf:Int}{W:List Kn}{ys:List Wy}{x:Wy}(O:SO wr B S g C v mv ys [x] R.marked)(c:SC wr S cv v mv R looks bs bf)(ht:TakeR W x.k (ys.map Wy.k))(hb:Below B w wr)(h0:0<ys.length→¬Meet (ys.getD 0 wy0).k x.k):
  ziD w B S g C cv mv R looks bs bf W (.returned (.pointer (some ⟨x.b,0,none⟩))) wr :=
 ⟨v,ys,x,rfl,O,c,zwu ht O.ord (O.hand x (by simp)).key (fun y hy=>(O.hp.wy y hy).key) h0,hb⟩
theorem zwv{w:World}{B S g:Nat}{C:List (Ins × Int)}{cv v mv:Value}{R:Rs}{looks:Nat}{bs bf:Int}{xs:List Wy}(O:SO w B S g C v mv xs [] R.marked)(c:SC w S cv v mv R looks bs bf)(hne:0<xs.length)(hlen:xs.length≤100000):
  Calls Tryz.prog 117 #[.pointer (some ⟨S,0,none⟩)] w (ziD w B S g C cv mv R looks bs bf (xs.map Wy.k)):=by
 obtain⟨H,cap,rfl⟩:=zmf O.hp hne
 have h1:=ziE (w0:=w) O c (Below.refl _ _) hne hlen
 have HW:Hid (∀ ys:List Wy,(xs.getD 0 wy0 :: ys).Perm xs→TakeR (xs.map Wy.k) (xs.getD 0 wy0).k (ys.map Wy.k)∧ys.length≤100000):=fun ys hp=>by
  refine⟨.one (hp.map Wy.k) (fun y hy=>?_),by have:=hp.length_eq;rw [List.length_cons] at this;omega⟩
  obtain⟨z,hz,rfl⟩:=List.mem_map.1 hy
  obtain⟨i,hi,hxi⟩:=List.mem_iff_getElem.1 (hp.mem_iff.1 (List.mem_cons_of_mem _ hz))
  have h1:=O.ord.least i hi
  have e2:stp xs i=keyK z.k:=by unfold stp;rw [←hxi];simp [List.getD,hi]
  have e1:stp xs 0=keyK (xs.getD 0 wy0).k:=rfl
  omega
 generalize hx0:xs.getD 0 wy0=x0 at h1 HW
 clear hx0
 generalize xs.map Wy.k=W0 at HW ⊢
 clear O c
 go_enter Tryz.func117,Tryz.ntmps117
 go_wp2_with(go_at_call 139;(with_reducible refine h1.mono ?_);rintro e w1 ⟨ys1,rfl,hp1,O1,c1,hb1⟩)
 obtain⟨t1,l1⟩:=HW.out ys1 hp1
 clear h1 HW hp1 hne hlen
 go_loopw [] (fun wr=>∃(v:Value) (ys:List Wy) (ao:Option Addr) (cap:Nat) (k:Kn),SO wr B S g C v mv ys [⟨x0.b,ao,cap,k⟩] R.marked∧SC wr S cv v mv R looks bs bf∧TakeR W0 k (ys.map Wy.k)∧Below B w wr∧ys.length≤100000) (fun wr=>zk7 wr S)
 case atStart=>exact⟨_,ys1,x0.ao,x0.cap,x0.k,O1,c1,t1,hb1,l1⟩
 case round =>
  obtain⟨v,ys,ao,cap2,k,Or,cr,tr,hbr,lr⟩:=hrel
  clear O1 c1 t1 hb1 l1
  by_cases h0:ys.length=0
  ·obtain⟨ao2,cap3,rfl,_,_,_⟩:=zdE Or.hp.row
   have hend:=zjT (x:=⟨x0.b,ao,cap2,k⟩) Or cr tr hbr (fun h=>absurd h (by omega))
   have cc:=cr.c1
   rw [h0] at cc
   have hl:=fun W=>zfZ W ao2 0 cap3 (by omega)
   clear Or cr tr hbr
   go_wp2_with(go_at_call 114;(with_reducible refine(hl _).mono ?_);rintro e wx ⟨rfl,hww⟩;have hw2:=hww.symm;subst hw2)
   go_ret
   exact hend
  ·obtain⟨H2,cap3,rfl⟩:=zmf Or.hp (by omega)
   have cc:=cr.c1
   have hl:=fun W=>zfZ W (some ⟨H2,0,none⟩) ys.length cap3 (by omega)
   have hpos:(0:Int)<(ys.length:Int):=by omega
   have at0:=(Or.hp.hp.1.at' (i:=0) (by omega))
   have hfi:=zqM (n:=ys.length) (cap:=cap3) (by omega) at0.1
   have X:=Or.hand ⟨x0.b,ao,cap2,k⟩ (by simp)
   have hme:=zqK at0.2.kn X.kn at0.2.bh X.bh at0.2.key X.key
   have hfin:Hid (∀ W,Below wr.heap.size wr W→¬Meet (ys.getD 0 wy0).k k→ziD w B S g C cv mv R looks bs bf W0 (.returned (.pointer (some ⟨x0.b,0,none⟩))) W):=fun W hW hn=>zjT (x:=⟨x0.b,ao,cap2,k⟩) (Or.below hW) (cr.block (hW.block S Or.SL)) tr (hbr.trans (hW.mono (by have:=Or.SB;have:=Or.SL;omega))) (fun _=>hn)
   have htk:Hid (∀ W,Below wr.heap.size wr W→Calls Tryz.prog 139 #[.pointer (some ⟨S,1,none⟩)] W fun e w'=>∃ zs:List Wy,e=.returned (.pointer (some ⟨(ys.getD 0 wy0).b,0,none⟩))∧(ys.getD 0 wy0 :: zs).Perm ys∧SO w' B S g C (.slice (some ⟨H2,0,none⟩) zs.length cap3) mv zs (ys.getD 0 wy0 :: [⟨x0.b,ao,cap2,k⟩]) R.marked∧SC w' S cv (.slice (some ⟨H2,0,none⟩) zs.length cap3) mv R looks bs bf∧Below B w w'):=fun W hW=>ziE (Or.below hW) (cr.block (hW.block S Or.SL)) (hbr.trans (hW.mono (by have:=Or.SB;have:=Or.SL;omega))) (by omega) lr
   have hmore:Hid (∀ zs:List Wy,(ys.getD 0 wy0 :: zs).Perm ys→Meet (ys.getD 0 wy0).k k→TakeR W0 (zf8 k (ys.getD 0 wy0).k) (zs.map Wy.k)∧zs.length<ys.length):=fun zs hp hm=>⟨.more tr (hp.map Wy.k) hm,by have:=hp.length_eq;rw [List.length_cons] at this;omega⟩
   have hlc:Hid (zk7 wr S=ys.length):=zjS cr.c1
   generalize ys.getD 0 wy0=y0 at at0 hfi hme hfin htk hmore
   obtain⟨at1,at2⟩:=at0
   clear Or cr tr hbr X at2
   go_wp2_with(first
    | (go_at_call 114;(with_reducible refine(hl _).mono ?_);rintro e wx ⟨rfl,hww⟩;have hw2:=hww.symm;subst hw2)
    | (go_at_call 140;(with_reducible refine hfi.mono ?_);rintro e wx ⟨rfl,hww⟩;have hw2:=hww.symm;subst hw2)
    | (go_at_call 141;(with_reducible refine hme.mono ?_);rintro e wm ⟨bb,rfl,hbm,mt,mf⟩;have htw:=htk.out wm hbm)
    | (go_at_call 139;(with_reducible refine htw.mono ?_);rintro e wt ⟨zs,rfl,hpz,Oz,cz,hbz⟩;have hjn:=zyt Oz cz hbz)
    | (go_at_call 142;(with_reducible refine hjn.mono ?_);rintro e wj ⟨rfl,Oj,cj,hbj⟩))
   ·rename_i hx
    obtain⟨t2,l2⟩:=hmore.out zs hpz (mt (by simpa using hx))
    exact⟨⟨_,zs,ao,cap2,_,Oj,cj,t2,hbj,by omega⟩,by rw [zjS cj.c1,hlc.out];exact l2⟩
   ·rename_i hx
    go_ret
    exact hfin.out wm hbm (mf (by simpa using hx))
end Go.Proofs.YtfpgjkbjbbgciaaGreatDoor
