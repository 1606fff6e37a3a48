import Derived.Test.YtfpgjkbjbbgciaaGreatDoorMk26
import Derived.Test.YtfpgjkbjbbgciaaGreatDoorMk33
import Derived.Test.YtfpgjkbjbbgciaaGreatDoorMk42
set_option maxRecDepth 100000
set_option maxHeartbeats 8000000
namespace Go.Proofs.YtfpgjkbjbbgciaaGreatDoor
section
open Go.RowKit Sp
def zwO(w:World)(S o B H cap:Nat)(xs:List Wy):Ending→World→Prop:=fun e w'=>e=.returned (.pointer (some ⟨(xs.getD 0 wy0).b,0,none⟩))∧∃ ys:List Wy,(xs.getD 0 wy0 :: ys).Perm xs∧w'.cell? ⟨S,o,none⟩=some (.slice (some ⟨H,0,none⟩) ys.length cap)∧HeapM w' B (.slice (some ⟨H,0,none⟩) ys.length cap) ys∧HpAll (stp ys) ys.length∧WyM w' (xs.getD 0 wy0)∧Kept2 w w' S o (some H)
theorem ztZ{w:World}{S o B H cap:Nat}{xs:List Wy}(hc:w.cell? ⟨S,o,none⟩=some (.slice (some ⟨H,0,none⟩) xs.length cap))(hz:w.frozen? ⟨S,o,none⟩=false)(M:HeapM w B (.slice (some ⟨H,0,none⟩) xs.length cap) xs)(hA:HpAll (stp xs) xs.length)(hne:0<xs.length)(hlen:xs.length≤100000)(hSH:¬S=H)(hS:∀ y∈xs,¬y.b=S∧∀ a,y.ao=some a→¬a.block=S):
  Calls Tryz.prog 139 #[.pointer (some ⟨S,o,none⟩)] w (zwO w S o B H cap xs):=by
 obtain⟨P,Z,p2,p3⟩:=M.hp;obtain⟨m,k⟩:∃ m,xs.length=m+1:=⟨xs.length-1,by omega⟩
 have Q:S<w.heap.size:=World.block_lt_of_cell? w _ hc;have J:=(P.at' (i:=0) (by omega)).1;have V:=(P.at' (i:=m) (by omega)).1;obtain⟨s,f⟩:∃ s,s=(w.setCell ⟨H,0,none⟩ (.pointer (some ⟨(xs.getD m wy0).b,0,none⟩))).setCell ⟨H,m,none⟩ (.pointer none):=⟨_,rfl⟩
 obtain⟨d,v⟩:∃ d,d=s.setCell ⟨S,o,none⟩ (.slice (some ⟨H,0,none⟩) m cap):=⟨_,rfl⟩
 have u:¬H=S:=fun e=>hSH e.symm;have F:∀ q,¬q=H→s.heap[q]?=w.heap[q]?:=fun q hq=>by rw [f];exact(Below.heap_setCell _ _ _ q hq).trans (Below.heap_setCell _ _ _ q hq)
 have G:∀ q,¬q=S→d.heap[q]?=s.heap[q]?:=fun q hq=>by rw [v];exact Below.heap_setCell _ _ _ q hq
 have s1:s.heap.size=w.heap.size:=by rw [f,World.size_setCell,World.size_setCell]
 have s2:d.heap.size=w.heap.size:=by rw [v,World.size_setCell,s1]
 have l0:(w.setCell ⟨H,0,none⟩ (.pointer (some ⟨(xs.getD m wy0).b,0,none⟩))).cell? ⟨H,m,none⟩=some (.pointer (some ⟨(xs.getD m wy0).b,0,none⟩)):=by
  rw [zat w H 0 m _ _ J];split
  ·rfl
  ·exact V
 have z:s.cell? ⟨S,o,none⟩=some (.slice (some ⟨H,0,none⟩) xs.length cap):=(World.cell?_of_block (a:=⟨S,o,none⟩) (F S hSH)).trans hc;have K:d.cell? ⟨S,o,none⟩=some (.slice (some ⟨H,0,none⟩) m cap):=by rw [v];exact World.cell?_setCell_same _ _ _ z
 have E:∀ x∈xs,WyM d x:=fun x hx=>by
  obtain⟨X,Y⟩:=P.far x hx;obtain⟨f3,f4⟩:=hS x hx;rw [v,f];exact(((P.wy x hx).other X Y).other X Y).other f3 f4
 have U:HpM d H cap (zgD xs m):=by
  refine⟨fun i x hx=>?_,fun x hx=>E x (zmz k x hx),by rw [s2];exact P.lt,fun x hx=>P.far x (zmz k x hx),fun j=>?_,?_⟩
  ·have R:i<m:=by have:=(List.getElem?_eq_some_iff.1 hx).1;rw [zgc k] at this;exact this
   rw [zpC k R] at hx;rw [World.cell?_of_block (a:=⟨H,i,none⟩) (G H u),f,zat _ H m i _ _ l0,if_neg (by omega),zat w H 0 i _ _ J];cases hx;by_cases e:i=0
   ·rw [if_pos e,if_pos e]
   ·rw [if_neg e,if_neg e];exact(P.at' (i:=i) (by omega)).1
  ·rw [World.frozen?_of_block (a:=⟨H,j,none⟩) (G H u),f,zcG,zcG];exact P.fz j
  ·obtain⟨cur,L,I⟩:=P.shape;refine⟨_,(G H u).trans (by rw [f];exact heap_setCell_same _ H m _ 197 _ (heap_setCell_same _ H 0 _ 197 _ L)),by simpa using I⟩
 have N:∀ W',d.grownBy W' (some H)→Kept2 w W' S o (some H):=fun W' h=>by
  have C:W'.heap[S]?=d.heap[S]?:=h.block S (by omega) (fun e=>hSH (by cases e;rfl));refine⟨h.os.trans (by rw [v,f];rfl),h.tape.trans (by rw [v,f];rfl),h.output.trans (by rw [v,f];rfl),by rw [←s2];exact h.size,fun q hq L I=>?_,fun j hj=>?_,fun j=>?_⟩
  ·exact(h.block q (by omega) I).trans ((G q L).trans (F q (fun e=>I (by rw [e]))))
  ·rw [World.cell?_of_block (w:=d) (a:=⟨S,j,none⟩) C,v,zat _ S o j _ _ z,if_neg hj];exact World.cell?_of_block (a:=⟨S,j,none⟩) (F S hSH)
  ·rw [World.frozen?_of_block (w:=d) (a:=⟨S,j,none⟩) C,v,zcG];exact World.frozen?_of_block (a:=⟨S,j,none⟩) (F S hSH)
 have r:xs.getD 0 wy0∈xs:=(zgE k).mem_iff.1 List.mem_cons_self;have p:∀ W' c,d.grownBy W' (some H)→c.Perm (zgD xs m)→HpM W' H cap c→HpAll (stp c) c.length→∃ c:List Wy,(xs.getD 0 wy0 :: c).Perm xs∧W'.cell? ⟨S,o,none⟩=some (.slice (some ⟨H,0,none⟩) c.length cap)∧HeapM W' B (.slice (some ⟨H,0,none⟩) c.length cap) c∧HpAll (stp c) c.length∧WyM W' (xs.getD 0 wy0)∧Kept2 w W' S o (some H):=fun W' c h hp O t=>by
  have T:c.length=m:=by rw [hp.length_eq,zgc k]
  refine⟨c,(List.Perm.cons _ hp).trans (zgE k),?_,O.heap (by omega) p2 p3,t,(E _ r).grown h (fun g e=>by cases e;exact P.far _ r),N W' h⟩;rw [World.cell?_of_block (w:=d) (a:=⟨S,o,none⟩) (h.block S (by omega) (fun e=>hSH (by cases e;rfl))),K,T]
 rw [k] at hc Z;refine(ztY hc hz hSH (by omega) Z p2 J V P.fz Q (fun W'=>∃ c:List Wy,(xs.getD 0 wy0 :: c).Perm xs∧W'.cell? ⟨S,o,none⟩=some (.slice (some ⟨H,0,none⟩) c.length cap)∧HeapM W' B (.slice (some ⟨H,0,none⟩) c.length cap) c∧HpAll (stp c) c.length∧WyM W' (xs.getD 0 wy0)∧Kept2 w W' S o (some H)) (fun W hW=>?_)).mono fun e D hh=>hh;rw [←f,←v] at hW;have l:Below d.heap.size d W:=by rw [s2];exact hW
 by_cases h0:m=0
 ·subst h0;refine zrm.mono ?_;rintro e D ⟨rfl,hb⟩;have A:Below d.heap.size d D:=l.trans (hb.mono l.size);exact⟨rfl,p D (zgD xs 0) (zaK A) (List.Perm.refl _) (U.below A) (fun i R hn=>by rw [zgc k] at hn;omega)⟩
 ·have hR:SinkI (stp (zgD xs m)) m 0:=SinkI.head (m:=m) (n:=xs.length) hA (by omega) (fun i R hn=>by
   unfold stp;have e:=zpC k (i:=i) hn;rw [if_neg (by omega)] at e;simp only [List.getD,e];rfl)
  refine(zwM (cap:=cap) (U.below l) (zgc k) 0 (by omega) (by omega) hR).mono ?_;rintro e D ⟨rfl,c,hp,O,t,h⟩;exact⟨rfl,p D c (zae (zaK l) h) hp O t⟩
theorem SO.hperm{w:World}{B S g:Nat}{C:List (Ins × Int)}{v mv:Value}{xs hs hs':List Wy}{ms:List Mk}(h:SO w B S g C v mv xs hs ms)(hp:hs.Perm hs'):SO w B S g C v mv xs hs' ms:=by
 have d:(hs++xs).Perm (hs'++xs):=List.Perm.append_right xs hp;have c:∀ z,z∈hs'++xs→z∈hs++xs:=fun z hz=>d.mem_iff.2 hz;exact⟨h.code,h.gB,h.SB,h.SL,h.hp,h.ord,fun x hx=>h.hand x (hp.mem_iff.2 hx),h.mkr,h.mbh,h.vS,h.mS,h.vm,(d.map Wy.b).nodup_iff.1 h.nod,fun x hx=>by
  obtain⟨f,i,e⟩:=h.far x (c x hx);exact⟨f,i,fun a ha=>⟨(e a ha).1,fun z hz=>(e a ha).2 z (c z hz)⟩⟩,fun m hm a ha=>⟨(h.mfar m hm a ha).1,fun z hz=>(h.mfar m hm a ha).2 z (c z hz)⟩⟩
def zkR(w:World)(S:Nat):Nat:=match w.cell? ⟨S,1,none⟩ with|some (.slice _ n _)=>n|_=>0
theorem zkf{w:World}{S n cap:Nat}{ao:Option Addr}(h:w.cell? ⟨S,1,none⟩=some (.slice ao n cap)):zkR w S=n:=by unfold zkR;rw [h]
theorem zm4{w:World}{B:Nat}{v:Value}{xs:List Wy}(h:HeapM w B v xs)(hp:0<xs.length):∃ H cap,v=.slice (some ⟨H,0,none⟩) xs.length cap:=by
 obtain⟨g,cap,e,_⟩:=h.row.form hp;exact⟨g,cap,e⟩
theorem zot{W ys:List Kn}{k:Kn}(h:TakeR W k ys):∀ y∈ys,keyK k≤keyK y:=by
 obtain⟨zs,c⟩:=h.cls;exact c.least
theorem zwT{W:List Kn}{k:Kn}{ys:List Wy}(h:TakeR W k (ys.map Wy.k))(hA:HpAll (stp ys) ys.length)(hk:KeyOk k)(hy:∀ y∈ys,KeyOk y.k)(h0:0<ys.length→¬Meet (ys.getD 0 wy0).k k):TakeD W k (ys.map Wy.k):=by
 refine⟨h,fun y hm hM=>?_⟩;obtain⟨x,e,rfl⟩:=List.mem_map.1 hm;obtain⟨i,b,a⟩:=List.mem_iff_getElem.1 e;have c:0<ys.length:=by omega
 have h1:=hA.least i b;have e1:stp ys 0=keyK (ys.getD 0 wy0).k:=rfl;have e2:stp ys i=keyK x.k:=by unfold stp;rw [←a];simp [List.getD,b]
 have d:ys.getD 0 wy0∈ys:=by simp [List.getD,c]
 have h2:=zot h _ (List.mem_map_of_mem d);have h3:=hM.key;exact h0 c (zkQ (hy _ d) hk (by omega))
def ziS(w:World)(B S g:Nat)(C:List (Ins × Int))(cv mv:Value)(R:Rs)(looks:Nat)(bs bf:Int)(W:List Kn):Ending→World→Prop:=fun e w'=>∃(v:Value) (ys:List Wy) (x:Wy),e=.returned (.pointer (some ⟨x.b,0,none⟩))∧SO w' B S g C v mv ys [x] R.marked∧SC w' S cv v mv R looks bs bf∧TakeD W x.k (ys.map Wy.k)∧Below B w w'
theorem ziT{w w0:World}{B S g H cap:Nat}{C:List (Ins × Int)}{cv mv:Value}{R:Rs}{looks:Nat}{bs bf:Int}{xs hs:List Wy}(O:SO w B S g C (.slice (some ⟨H,0,none⟩) xs.length cap) mv xs hs R.marked)(c:SC w S cv (.slice (some ⟨H,0,none⟩) xs.length cap) mv R looks bs bf)(hb:Below B w0 w)(hne:0<xs.length)(hlen:xs.length≤100000):
  Calls Tryz.prog 139 #[.pointer (some ⟨S,1,none⟩)] w fun e w'=>∃ ys:List Wy,e=.returned (.pointer (some ⟨(xs.getD 0 wy0).b,0,none⟩))∧(xs.getD 0 wy0 :: ys).Perm xs∧SO w' B S g C (.slice (some ⟨H,0,none⟩) ys.length cap) mv ys (xs.getD 0 wy0 :: hs) R.marked∧SC w' S cv (.slice (some ⟨H,0,none⟩) ys.length cap) mv R looks bs bf∧Below B w0 w':=by
 have h:¬S=H:=fun e=>O.vS (by rw [e];rfl);have f:B≤w.heap.size:=by have:=O.SB;have:=O.SL;omega
 refine(ztZ (B:=B) c.c1 (c.fz 1) O.hp O.ord hne hlen h (fun y hy=>?_)).mono ?_
 ·obtain⟨_,i,j⟩:=O.far y (List.mem_append_right _ hy);exact⟨i.1,fun a ha=>(j a ha).1.1⟩
 ·rintro e w' ⟨rfl,ys,hp,m,l,k,n,d⟩;refine⟨ys,rfl,hp,O.took d hp l k n,(c.one (o:=1) d.cell d.fz m).1 rfl,hb.trans (ziR d O.SB f (fun q hq=>?_))⟩;cases hq;exact(O.hp.row.lt H rfl).1
theorem zyX{w w0:World}{B S g:Nat}{C:List (Ins × Int)}{cv v mv:Value}{R:Rs}{looks:Nat}{bs bf:Int}{xs:List Wy}{x y:Wy}(O:SO w B S g C v mv xs [y,x] R.marked)(c:SC w S cv v mv R looks bs bf)(hb:Below B w0 w):
  Calls Tryz.prog 142 #[.pointer (some ⟨x.b,0,none⟩),.pointer (some ⟨y.b,0,none⟩)] w fun e w'=>e=.returned (.tuple #[])∧SO w' B S g C v mv xs [⟨x.b,x.ao,x.cap,zf3 x.k y.k⟩] R.marked∧SC w' S cv v mv R looks bs bf∧Below B w0 w':=by
 have d:SO w B S g C v mv xs [x,y] R.marked:=O.hperm (List.Perm.swap x y []);have X:=d.hand x (by simp);have Y:=d.hand y (by simp);have i:¬y.b=x.b:=by
  have n:=d.nod;have o:=(List.nodup_cons.1 (show(x.b :: ([y]++xs).map Wy.b).Nodup from n)).1;intro e;exact o (by rw [←e];simp)
 have far:=d.far x (by simp);have h:B≤w.heap.size:=by have:=O.SB;have:=O.SL;omega
 refine(ztQ X.kn Y.kn i).mono ?_;rintro e w' ⟨rfl,p,f⟩;have m:WyM w' ⟨x.b,x.ao,x.cap,zf3 x.k y.k⟩:=⟨⟨X.key.next,X.key.behind⟩,p,X.bh.grown f (fun a ha=>(far.2.2 a ha).2 x (by simp))⟩
 have j:=d.turn (rs:=[⟨x.b,x.ao,x.cap,zf3 x.k y.k⟩]) f (fun z hz=>by rw [List.mem_singleton.1 hz];exact m) (fun z hz=>by rw [List.mem_singleton.1 hz];exact .inl rfl) (by simp) (fun z hz a ha=>by
  rw [List.mem_singleton.1 hz] at ha;exact⟨.inl ha,fun u hu=>by rw [List.mem_singleton.1 hu];exact(far.2.2 a ha).2 x (by simp)⟩)
 have l:SO w' B S g C v mv xs [y,⟨x.b,x.ao,x.cap,zf3 x.k y.k⟩] R.marked:=j.hperm (List.Perm.swap y ⟨x.b,x.ao,x.cap,zf3 x.k y.k⟩ []);refine⟨rfl,l.drop,c.block (f.block S O.SL (fun e=>far.2.1.1 (by cases e;rfl))),hb.grown f h (fun q hq=>by cases hq;exact far.1)⟩
theorem zkg{w wr:World}{B S g:Nat}{C:List (Ins × Int)}{cv v mv:Value}{R:Rs}{looks:Nat}{bs bf:Int}{W:List Kn}{ys:List Wy}{x:Wy}(O:SO wr B S g C v mv ys [x] R.marked)(c:SC wr S cv v mv R looks bs bf)(ht:TakeR W x.k (ys.map Wy.k))(hb:Below B w wr)(h0:0<ys.length→¬Meet (ys.getD 0 wy0).k x.k):
  ziS w B S g C cv mv R looks bs bf W (.returned (.pointer (some ⟨x.b,0,none⟩))) wr :=
 ⟨v,ys,x,rfl,O,c,zwT ht O.ord (O.hand x (by simp)).key (fun y hy=>(O.hp.wy y hy).key) h0,hb⟩
theorem zwU{w:World}{B S g:Nat}{C:List (Ins × Int)}{cv v mv:Value}{R:Rs}{looks:Nat}{bs bf:Int}{xs:List Wy}(O:SO w B S g C v mv xs [] R.marked)(c:SC w S cv v mv R looks bs bf)(hne:0<xs.length)(hlen:xs.length≤100000):
  Calls Tryz.prog 117 #[.pointer (some ⟨S,0,none⟩)] w (ziS w B S g C cv mv R looks bs bf (xs.map Wy.k)):=by
 obtain⟨H,cap,rfl⟩:=zm4 O.hp hne;have M:=ziT (w0:=w) O c (Below.refl _ _) hne hlen;have L:Hid (∀ a:List Wy,(xs.getD 0 wy0 :: a).Perm xs→TakeR (xs.map Wy.k) (xs.getD 0 wy0).k (a.map Wy.k)∧a.length≤100000):=fun a hp=>by
  refine⟨.one (hp.map Wy.k) (fun y hy=>?_),by have:=hp.length_eq;rw [List.length_cons] at this;omega⟩;obtain⟨z,hz,rfl⟩:=List.mem_map.1 hy;obtain⟨i,hi,ad⟩:=List.mem_iff_getElem.1 (hp.mem_iff.1 (List.mem_cons_of_mem _ hz));have M:=O.ord.least i hi;have e2:stp xs i=keyK z.k:=by unfold stp;rw [←ad];simp [List.getD,hi]
  have e1:stp xs 0=keyK (xs.getD 0 wy0).k:=rfl;omega
 generalize ac:xs.getD 0 wy0=x0 at M L;clear ac;generalize xs.map Wy.k=W0 at L ⊢;clear O c;go_enter Tryz.func117,Tryz.ntmps117;go_wp2_with(go_at_call 139;(with_reducible refine M.mono ?_);rintro e w1 ⟨K,rfl,G,O1,c1,u⟩)
 obtain⟨t1,l1⟩:=L.out K G;clear M L G hne hlen
 go_loopw [] (fun wr=>∃(v:Value) (a:List Wy) (ao:Option Addr) (cap:Nat) (k:Kn),SO wr B S g C v mv a [⟨x0.b,ao,cap,k⟩] R.marked∧SC wr S cv v mv R looks bs bf∧TakeR W0 k (a.map Wy.k)∧Below B w wr∧a.length≤100000) (fun wr=>zkR wr S)
 case atStart=>exact⟨_,K,x0.ao,x0.cap,x0.k,O1,c1,t1,u,l1⟩
 case round =>
  obtain⟨v,a,ao,f,k,j,s,J,o,lr⟩:=hrel;clear O1 c1 t1 u l1;by_cases h0:a.length=0
  ·obtain⟨P,d,rfl,_,_,_⟩:=zd7 j.hp.row;have D:=zkg (x:=⟨x0.b,ao,f,k⟩) j s J o (fun h=>absurd h (by omega));have cc:=s.c1;rw [h0] at cc;have Y:=fun W=>zfW W P 0 d (by omega);clear j s J o;go_wp2_with(go_at_call 114;(with_reducible refine(Y _).mono ?_);rintro e wx ⟨rfl,r⟩;have q:=r.symm;subst q)
   go_ret;exact D
  ·obtain⟨N,d,rfl⟩:=zm4 j.hp (by omega);have cc:=s.c1;have Y:=fun W=>zfW W (some ⟨N,0,none⟩) a.length d (by omega);have hpos:(0:Int)<(a.length:Int):=by omega
   have l:=(j.hp.hp.1.at' (i:=0) (by omega))
   have E:=zrn (n:=a.length) (cap:=d) (by omega) l.1;have X:=j.hand ⟨x0.b,ao,f,k⟩ (by simp);have F:=zrl l.2.kn X.kn l.2.bh X.bh l.2.key X.key;have t:Hid (∀ W,Below wr.heap.size wr W→¬Meet (a.getD 0 wy0).k k→ziS w B S g C cv mv R looks bs bf W0 (.returned (.pointer (some ⟨x0.b,0,none⟩))) W):=fun W hW hn=>zkg (x:=⟨x0.b,ao,f,k⟩) (j.below hW) (s.block (hW.block S j.SL)) J (o.trans (hW.mono (by have:=j.SB;have:=j.SL;omega))) (fun _=>hn);have I:Hid (∀ W,Below wr.heap.size wr W→Calls Tryz.prog 139 #[.pointer (some ⟨S,1,none⟩)] W fun e w'=>∃ m:List Wy,e=.returned (.pointer (some ⟨(a.getD 0 wy0).b,0,none⟩))∧(a.getD 0 wy0 :: m).Perm a∧SO w' B S g C (.slice (some ⟨N,0,none⟩) m.length d) mv m (a.getD 0 wy0 :: [⟨x0.b,ao,f,k⟩]) R.marked∧SC w' S cv (.slice (some ⟨N,0,none⟩) m.length d) mv R looks bs bf∧Below B w w'):=fun W hW=>ziT (j.below hW) (s.block (hW.block S j.SL)) (o.trans (hW.mono (by have:=j.SB;have:=j.SL;omega))) (by omega) lr;have p:Hid (∀ m:List Wy,(a.getD 0 wy0 :: m).Perm a→Meet (a.getD 0 wy0).k k→TakeR W0 (zf3 k (a.getD 0 wy0).k) (m.map Wy.k)∧m.length<a.length):=fun m hp hm=>⟨.more J (hp.map Wy.k) hm,by have:=hp.length_eq;rw [List.length_cons] at this;omega⟩
   have Z:Hid (zkR wr S=a.length):=zkf s.c1;generalize a.getD 0 wy0=y0 at l E F t I p;obtain⟨at1,Q⟩:=l;clear j s J o X Q;go_wp2_with(first
    | (go_at_call 114;(with_reducible refine(Y _).mono ?_);rintro e wx ⟨rfl,r⟩;have q:=r.symm;subst q)
    | (go_at_call 140;(with_reducible refine E.mono ?_);rintro e wx ⟨rfl,r⟩;have q:=r.symm;subst q)
    | (go_at_call 141;(with_reducible refine F.mono ?_);rintro e wm ⟨bb,rfl,A,mt,mf⟩;have ab:=I.out wm A)
    | (go_at_call 139;(with_reducible refine ab.mono ?_);rintro e wt ⟨m,rfl,aa,Oz,cz,U⟩;have V:=zyX Oz cz U)
    | (go_at_call 142;(with_reducible refine V.mono ?_);rintro e wj ⟨rfl,Oj,cj,T⟩))
   ·rename_i hx;obtain⟨t2,l2⟩:=p.out m aa (mt (by simpa using hx));exact⟨⟨_,m,ao,f,_,Oj,cj,t2,T,by omega⟩,by rw [zkf cj.c1,Z.out];exact l2⟩
   ·rename_i hx;go_ret;exact t.out wm A (mf (by simpa using hx))
end
section
open Sp
theorem It.key_inj{a b:It}(h:a.key=b.key):a=b:=by
 cases a;cases b;simp only [It.key,Key.mk.injEq] at h;obtain⟨c,d,e,f,g,i,j,k⟩:=h;subst c;subst d;subst e;subst f;subst g;subst i;subst j;subst k;rfl
theorem zzf{a b:List It}(h:a.map It.key=b.map It.key):a=b:=by
 induction a generalizing b with
 | nil=>cases b with
  | nil=>rfl
  | cons y t=>simp at h
 | cons x r ih=>cases b with
  | nil=>simp at h
  | cons y t =>
   rw [List.map_cons,List.map_cons,List.cons.injEq] at h;rw [It.key_inj h.1,ih h.2]
def FnM.bare(f:FnM):FnM:=⟨f.name,f.line,f.its,undef,0⟩
theorem zxi{F G:List FnM}(h:F.map FnM.fn=G.map FnM.fn):F.map FnM.bare=G.map FnM.bare:=by
 induction F generalizing G with
 | nil=>cases G with
  | nil=>rfl
  | cons y t=>simp at h
 | cons f r ih=>cases G with
  | nil=>simp at h
  | cons g t =>
   rw [List.map_cons,List.map_cons,List.cons.injEq] at h;rw [List.map_cons,List.map_cons,ih h.2];have d:=h.1;simp only [FnM.fn,Fn.mk.injEq] at d;obtain⟨a,b,c⟩:=d;have:f.bare=g.bare:=by unfold FnM.bare;rw [a,b,zzf c]
   rw [this]
theorem zmI(F:List FnM):lenF (F.map FnM.bare)=lenF F:=by
 unfold lenF;rw [List.map_map];rfl
theorem zo8(n:Nat)(F:List FnM):zaL n (F.map FnM.bare)=zaL n F:=by
 induction F generalizing n with
 | nil=>rfl
 | cons f r ih=>rw [List.map_cons,zaL,zaL,ih];rfl
theorem zu5(F:List FnM)(k:Nat)(x:ByteArray):labM (F.map FnM.bare) k x=labM F k x:=by
 unfold labM;rw [←List.map_take,zmI,List.getElem?_map];cases F[k]? <;> rfl
theorem zxj(F:List FnM)(x:ByteArray):fnM (F.map FnM.bare) x=fnM F x:=by
 unfold fnM;rw [show zbj (F.map FnM.bare)=zbj F from zo8 0 F,←List.map_take,zmI]
theorem zkU(F:List FnM)(k:Nat)(R:List FnM):zc4 (F.map FnM.bare) k (R.map FnM.bare)=zc4 F k R:=by
 induction R generalizing k with
 | nil=>rfl
 | cons f r ih =>
  rw [List.map_cons,zc4,zc4,ih];congr 1;unfold zeI insM;simp only [zu5,zxj];rfl
theorem zjd(F:List FnM):zao (F.map FnM.bare)=zao F:=zkU F 0 F
theorem zje{L:List Said}{F G:List FnM}(h:Right L F)(h':Right L G):zao F=zao G:=by
 rw [←zjd F,←zjd G,zxi (h.fns.trans h'.fns.symm)]
theorem zmJ(s:ByteArray)(i:Nat)(n u:Int)(h0:least≤n)(h1:n≤0)(h:zeV s i n=some u):least≤u∧u≤0:=by
 by_cases d:i<s.size
 ·by_cases c:zd8 n (bt s i-48)=true
  ·rw [zlv s i n d c] at h;cases h
  ·rw [zjE s i n d c] at h;obtain⟨a,b,_,_⟩:=zv8 n _ c h0 h1;exact zmJ s (i+1) _ u a b h
 ·rw [zlu s i n d] at h;cases h;exact⟨h0,h1⟩
termination_by s.size-i
theorem zu6(s:ByteArray):i64 (zb3 s).1:=by
 have c:∀ m i,i64 (zcU m (zeV s i 0)).1:=fun m i=>by
  cases h:zeV s i 0 with
  | none=>show i64 0;unfold i64;omega
  | some u =>
   obtain⟨a,b⟩:=zmJ s i 0 u (by unfold least;omega) (Int.le_refl _) h;unfold least at a;show i64 (if m=true then(u,true) else(if u=least then least else -u,decide (least<u))).1;cases m with
   | true=>show i64 u;unfold i64;omega
   | false =>
    show i64 (if u=least then least else -u);unfold i64 least;split <;> omega
 unfold zb3;split
 ·split
  ·show i64 0;unfold i64;omega
  ·exact c _ _
 ·split
  ·show i64 0;unfold i64;omega
  ·exact c _ _
theorem zrM(s:ByteArray):i64 (zcc s):=by
 unfold zcc;split
 ·exact zu6 s
 ·unfold i64;omega
theorem zzg(sh:List UInt8)(r:List ByteArray)(k:Nat):i64 (opK sh r k).n:=by
 induction k with
 | zero=>show i64 0;unfold i64;omega
 | succ k ih =>
  show i64 ((opK sh r k).take k _ _).n;unfold Opd.take
  repeat' split
  all_goals first|exact ih|exact zrM _
theorem zzh(q:Said):i64 (opQ q).n:=by
 unfold opQ;split
 ·exact zzg _ _ _
 ·show i64 0;unfold i64;omega
theorem zzi(w:ByteArray)(a b c n l f:Int)(h:i64 n):zkK (insX w a b c n l f):=by
 have d:∀(b:Bool) (x y:Ins),zkK x→zkK y→zkK (if b=true then x else y):=fun b x y hx hy=>by
  cases b
  ·exact hy
  ·exact hx
 unfold insX
 repeat' (refine d _ _ _ ?_ ?_)
 all_goals first|exact h|trivial
theorem Right.sure{L:List Said}{F:List FnM}(R:Right L F):CodeSure (zao F):=by
 refine⟨R.codeOk,fun j hj=>?_⟩;rw [zdF] at hj;obtain⟨k,f,m,d,h,i,rfl⟩:=zkF F j hj;have g:=zfV F 0 F k f h m d i;rw [Nat.zero_add] at g;have l:(zao F)[lenF (F.take k)+m]?=some (insM F k d,d.line):=g;rw [(List.getElem?_eq_some_iff.1 l).2];obtain⟨j2,hj2,_,e,_⟩:=R.it_at h i;have hn:d.n=(opQ L[j2]).n:=congrArg Key.n e;show zkK (insX d.word d.a d.b d.c d.n _ _);exact zzi _ _ _ _ _ _ _ (by rw [hn];exact zzh _)
end
end Go.Proofs.YtfpgjkbjbbgciaaGreatDoor
