import Derived.Test.YtfpgjkbjbbgciaaGreatDoorMj23
set_option maxRecDepth 100000
set_option maxHeartbeats 8000000
namespace Go.Proofs.YtfpgjkbjbbgciaaGreatDoor
section
open Go.RowKit Sp
def zoU(w:World)(names:List ByteArray)(F:List Fn):Ending→World→Prop:=fun e w' =>
 qB w w'∧((∃ l,zcX names F=some l∧e=zak 4 l)∨(zcX names F=none∧e=.returned (.tuple #[])))
theorem zqS(names:List ByteArray)(F:List Fn)(k:Nat)(h:k<F.length):zcX names (F.drop k)=match zaS names (zcl F[k].body) F[k].body with|some l=>some l|none=>zcX names (F.drop (k+1)):=by
 rw [List.drop_eq_getElem_cons h];rfl
theorem zkB(names labs:List ByteArray)(b:List Key)(k:Nat)(h:k<b.length):zaS names labs (b.drop k)=if zdB names labs b[k]=true then some b[k].line else zaS names labs (b.drop (k+1)):=by
 rw [List.drop_eq_getElem_cons h,zeK]
theorem zqT(i:It)(l:List It):zaq (i :: l)=if i.sort=1 then zaq l else i :: zaq l:=by
 by_cases h:i.sort=1 <;> simp [zaq,h]
theorem zjI:zaJ ⟨#[]⟩=false∧zc2 ⟨#[]⟩=false:=⟨by kernel_rfl,by kernel_rfl⟩
theorem zwh(names labs:List ByteArray)(l:List It)(h:∀ i∈l,ItOk i):zaS names labs (l.map It.key)=zaS names labs ((zaq l).map It.key):=by
 induction l with
 | nil=>rfl
 | cons i l a =>
  have a:=a (fun j hj=>h j (by simp [hj]));rw [zqT];by_cases b:i.sort=1
  ·rw [if_pos b,←a,List.map_cons,zeK];have hw:i.key.word=⟨#[]⟩:=(h i (by simp)).2 b;rw [if_neg];unfold zdB;rw [hw,zjI.1,zjI.2];simp
  ·rw [if_neg b,List.map_cons,List.map_cons,zeK,zeK,a]
theorem zgN{X W:World}(hb:qB X W){p:Addr}{u:Value}(h:X.cell? p=some u):W.cell? p=some u:=(hb.cell (World.block_lt_of_cell? X p h)).trans h
structure Sees(W:World)(rb pb sb m pm:Nat)(i:It)(labs names:List (ByteArray × Nat)):Prop where
 cm:W.cell? ⟨rb,3,none⟩=some (.map (some m))
 cp:W.cell? ⟨pb,1,none⟩=some (.map (some pm))
 c0:W.cell? ⟨sb,0,none⟩=some (.int .i64 i.sort)
 c1:W.cell? ⟨sb,1,none⟩=some (.int .i64 i.line)
 c2:W.cell? ⟨sb,2,none⟩=some (.string i.word)
 c3:W.cell? ⟨sb,3,none⟩=some (.int .i64 i.a)
 c4:W.cell? ⟨sb,4,none⟩=some (.int .i64 i.b)
 c5:W.cell? ⟨sb,5,none⟩=some (.int .i64 i.c)
 c6:W.cell? ⟨sb,6,none⟩=some (.int .i64 i.n)
 c7:W.cell? ⟨sb,7,none⟩=some (.string i.nm)
 ml:MapIs W m labs
 mp:MapIs W pm names
theorem Sees.below{X W:World}{rb pb sb m pm:Nat}{i:It}{labs names:List (ByteArray × Nat)}(h:Sees X rb pb sb m pm i labs names)(hb:qB X W):Sees W rb pb sb m pm i labs names :=
 ⟨zgN hb h.cm,zgN hb h.cp,zgN hb h.c0,zgN hb h.c1,zgN hb h.c2,zgN hb h.c3,zgN hb h.c4,zgN hb h.c5,zgN hb h.c6,zgN hb h.c7,h.ml.below hb h.ml.lt,h.mp.below hb h.mp.lt⟩
theorem Sees.made(w:World)(rb pb m pm:Nat)(i:It)(labs names:List (ByteArray × Nat))(cm:w.cell? ⟨rb,3,none⟩=some (.map (some m)))(cp:w.cell? ⟨pb,1,none⟩=some (.map (some pm)))(ml:MapIs w m labs)(mp:MapIs w pm names):
  Sees (w.alloc (.cells #[.int .i64 i.sort,.int .i64 i.line,.string i.word,.int .i64 i.a,.int .i64 i.b,.int .i64 i.c,.int .i64 i.n,.string i.nm] 135)) rb pb w.heap.size m pm i labs names:=by
 have d:qB w (w.alloc (.cells #[.int .i64 i.sort,.int .i64 i.line,.string i.word,.int .i64 i.a,.int .i64 i.b,.int .i64 i.c,.int .i64 i.n,.string i.nm] 135)):=(Below.refl _ _).alloc (Nat.le_refl _) _;have h:=World.cell?_alloc_new (w:=w) #[.int .i64 i.sort,.int .i64 i.line,.string i.word,.int .i64 i.a,.int .i64 i.b,.int .i64 i.c,.int .i64 i.n,.string i.nm] 135;exact⟨zgN d cm,zgN d cp,h 0,h 1,h 2,h 3,h 4,h 5,h 6,h 7,ml.alloc _,mp.alloc _⟩
theorem zjJ(w:World)(B pm:Nat)(v:Value)(F:List FnM)(h:PIn B w pm v F)(hF:0<F.length)(hn:F.length≤300)(hb:∀ f∈F,f.its.length≤300∧∀ i∈f.its,ItOk i):
  qC 69 #[.agg #[v,.map (some pm)]] w (zoU w (F.map FnM.name) (F.map FnM.fn)):=by
 obtain⟨R,E,rfl,ax,hcap,N⟩:=h.fns hF;have ad:=h.places;have am:=zcA 0 F;rw [←am];clear am;change qC 69 #[.agg #[.slice (some ⟨R,0,none⟩) F.length E,.map (some pm)]] w (zoU w (zbH (zb3 F)) (F.map FnM.fn));generalize zb3 F=nameE at ad ⊢;generalize hN:zbH nameE=names;have HN:Hid (zbH nameE=names):=hN;clear hN;have ag:qB w (w.alloc (.cells #[.slice (some ⟨R,0,none⟩) F.length E,.map (some pm)] 83)):=(Below.refl _ _).alloc (Nat.le_refl _) _;have av:(w.alloc (.cells #[.slice (some ⟨R,0,none⟩) F.length E,.map (some pm)] 83)).heap.size=w.heap.size+1:=by simp
 have aj:(w.alloc (.cells #[.slice (some ⟨R,0,none⟩) F.length E,.map (some pm)] 83)).cell? ⟨w.heap.size,1,none⟩=some (.map (some pm)):=World.cell?_alloc_new (w:=w) #[.slice (some ⟨R,0,none⟩) F.length E,.map (some pm)] 83 1;go_enter Tryz.func69,Tryz.ntmps69;go_wp2;generalize w.alloc (.cells #[.slice (some ⟨R,0,none⟩) F.length E,.map (some pm)] 83)=W1 at ag av aj
 go_loopw [9] (fun ti wr=>∃(k:Nat),k≤F.length∧ti=.int .i64 (k:Int)∧Below (w.heap.size+1) W1 wr∧zcX names (F.map FnM.fn)=zcX names ((F.map FnM.fn).drop k)) (fun ti _=>F.length-(intOf ti).toNat)
 case atStart=>exact⟨0,by omega,rfl,Below.refl _ _,rfl⟩
 case round =>
  obtain⟨r,aw⟩:∃ r,r=wr:=⟨wr,rfl⟩
  subst aw;obtain⟨k,hk,rfl,U,hE⟩:=hrel;have HE:Hid (zcX names (F.map FnM.fn)=zcX names ((F.map FnM.fn).drop k)):=hE;clear hE;have hszr:=U.size;have Q:qB w r:=ag.trans (U.mono (by omega));by_cases ac:k<F.length
  ·obtain⟨c0,c1,c2,c3⟩:=N k ac;have s:=List.getElem_mem ac;have HD:Hid (zcX names (F.map FnM.fn)=match zaS names (zbH (zc7 F[k].its)) ((zaq F[k].its).map It.key) with|some l=>some l|none=>zcX names ((F.map FnM.fn).drop (k+1))):=by
    unfold Hid;rw [HE.out,zqS _ _ k (by simpa using ac),←zwh _ _ _ (hb F[k] s).2,zdQ];simp [FnM.fn]
   have M:=h.bodies F[k] s;have L:=h.labels F[k] s;have ab:=Nat.le_trans (zed F[k].its) (hb F[k] s).1;have P:∀ i∈zaq F[k].its,i.nm.size≤1048576:=fun i hi=>((hb F[k] s).2 i ((List.mem_filter.1 hi).1)).1;generalize F[k]=f at c0 c1 c2 c3 s HD M ab L P;have z:∀ j,r.cell? ⟨R,j,none⟩=w.cell? ⟨R,j,none⟩:=fun j=>Q.cell (p:=⟨R,j,none⟩) ax;rw [←z] at c0 c1 c2 c3;clear z HE;have hk4:k*4≤1200:=by omega
   obtain⟨name,line,Z,bv,m⟩:=f;simp only at c0 c1 c2 c3 M ab HD L P;generalize zc7 Z=labE at HD L;generalize zaq Z=its at HD M ab P;obtain⟨ao,t,rfl⟩:=zb7 M;generalize ar:zbH labE=labs at HD;have HLB:Hid (zbH labE=labs):=ar;clear ar;have an:r.cell? ⟨w.heap.size,1,none⟩=some (.map (some pm)):=(U.cell (by simp)).trans aj;have al:qB r (r.alloc (.cells #[.string name,.int .i64 line,.slice ao its.length t,.map (some m)] 131)):=(Below.refl _ _).alloc (Nat.le_refl _) _;have au:(r.alloc (.cells #[.string name,.int .i64 line,.slice ao its.length t,.map (some m)] 131)).heap.size=r.heap.size+1:=by simp
   have ap:(r.alloc (.cells #[.string name,.int .i64 line,.slice ao its.length t,.map (some m)] 131)).cell? ⟨r.heap.size,3,none⟩=some (.map (some m)):=World.cell?_alloc_new (w:=r) #[.string name,.int .i64 line,.slice ao its.length t,.map (some m)] 131 3;go_wp2;generalize r.alloc (.cells #[.string name,.int .i64 line,.slice ao its.length t,.map (some m)] 131)=W2 at al au ap
   go_loopw [16] (fun tj wi=>∃(j:Nat),j≤its.length∧tj=.int .i64 (j:Int)∧Below (r.heap.size+1) W2 wi∧zaS names labs (its.map It.key)=zaS names labs ((its.map It.key).drop j)) (fun tj _=>its.length-(intOf tj).toNat)
   case atStart=>exact⟨0,by omega,rfl,Below.refl _ _,rfl⟩
   case round =>
    obtain⟨j,hj,rfl,H,hI⟩:=hrel;have HI:Hid (zaS names labs (its.map It.key)=zaS names labs ((its.map It.key).drop j)):=hI;clear hI;have hszi:=H.size;have ae:qB r wr:=al.trans (H.mono (by omega));have q:qB w wr:=Q.trans (ae.mono Q.size);by_cases af:j<its.length
    ·obtain⟨bg,capb',ah,_,ay,ai⟩:=zgD M (by omega);have hs:=ai j af;have K:=P its[j] (List.getElem_mem af);have V:Hid (zaS names labs (its.map It.key)=if zdB names labs its[j].key=true then some its[j].line else zaS names labs ((its.map It.key).drop (j+1))):=by
      unfold Hid;rw [HI.out,zkB _ _ _ j (by simpa using af)];simp only [List.getElem_map];rfl
     generalize its[j]=i at hs K V;obtain⟨d0,d1,d2,d3,d4,d5,d6,d7⟩:=hs;have z:∀ j,wr.cell? ⟨bg,j,none⟩=w.cell? ⟨bg,j,none⟩:=fun j=>q.cell (p:=⟨bg,j,none⟩) ay;rw [←z] at d0 d1 d2 d3 d4 d5 d6 d7;simp only [Value.slice.injEq,true_and] at ah;obtain⟨rfl,rfl⟩:=ah;have hj8:j*8≤2400:=by omega
     have aq:=L.below q L.lt;have X:=ad.below q ad.lt;have ak:wr.cell? ⟨r.heap.size,3,none⟩=some (.map (some m)):=(H.cell (by simp)).trans ap;have Y:wr.cell? ⟨w.heap.size,1,none⟩=some (.map (some pm)):=zgN ae an;have S:=Sees.made wr r.heap.size w.heap.size m pm i labE nameE ak Y aq X;have hX0:qB wr (wr.alloc (.cells #[.int .i64 i.sort,.int .i64 i.line,.string i.word,.int .i64 i.a,.int .i64 i.b,.int .i64 i.c,.int .i64 i.n,.string i.nm] 135)):=(Below.refl _ _).alloc (Nat.le_refl _) _;clear z ai an HI aq X ak Y;have x:=fun W=>zl5 i.sort i.line i.word i.a i.b i.c i.n i.nm W;have A:=fun W=>zn1 i.sort i.line i.word i.a i.b i.c i.n i.nm W;cases hal:zaJ i.word with
     | true =>
      have I:=zin _ hal;rw [hal] at x;rw [I] at A;cases hany:labs.any (fun y=>eqW y i.nm) with
      | true =>
       have G:Hid (zaS names labs (its.map It.key)=zaS names labs ((its.map It.key).drop (j+1))):=by
        unfold Hid;rw [V.out];simp [zdB,It.key,hal,I,hany]
       clear V;go_wp2_with(first
        | (go_at_call 102;refine(x _).mono ?_;rintro e w3 ⟨rfl,g⟩;have T:=S.below g;obtain⟨m3,p3,a0,a1,a2,a3,a4,a5,a6,a7,D,O⟩:=T)
        | (go_at_call 103;refine(zj5 w3 m labE D i.sort i.line i.word i.a i.b i.c i.n i.nm K (by rw [HLB.out];exact hany)).mono ?_;rintro e w4 ⟨rfl,o⟩;have d:=g.trans (o.mono g.size);have S4:=S.below d;obtain⟨m4,p4,b0,b1,b2,b3,b4,b5,b6,b7,aa,J⟩:=S4)
        | (go_at_call 104;refine(A _).mono ?_;rintro e w5 ⟨rfl,C⟩))
       have u:Below (r.heap.size+1) wr w5:=(zbp _ _ (d.trans (C.mono d.size))).mono (by omega);clear g o d C;go_roundw
       case rel=>exact⟨j+1,by omega,by go_num,H.trans u,G.out⟩
       case measure=>simp [intOf];omega
      | false =>
       have G:Hid (zcX names (F.map FnM.fn)=some i.line):=by
        unfold Hid;rw [HD.out,V.out];simp [zdB,It.key,hal,I,hany]
       clear V;go_wp2_with(first
        | (go_at_call 102;refine(x _).mono ?_;rintro e w3 ⟨rfl,g⟩;have T:=S.below g;obtain⟨m3,p3,a0,a1,a2,a3,a4,a5,a6,a7,D,O⟩:=T)
        | (go_at_call 103;refine(zlx w3 m labE D i.sort i.line i.word i.a i.b i.c i.n i.nm K (by rw [HLB.out];exact hany)).mono ?_;rintro e w4 ⟨rfl,o⟩;have d:=g.trans (o.mono g.size)))
       exact⟨rfl,q.trans ((zbp _ _ d).mono q.size),.inl ⟨_,G.out,rfl⟩⟩
     | false =>
      rw [hal] at x;cases I:zc2 i.word with
      | true =>
       rw [I] at A;cases hany:names.any (fun y=>eqW y i.nm) with
       | true =>
        have G:Hid (zaS names labs (its.map It.key)=zaS names labs ((its.map It.key).drop (j+1))):=by
         unfold Hid;rw [V.out];simp [zdB,It.key,hal,I,hany]
        clear V;go_wp2_with(first
         | (go_at_call 102;refine(x _).mono ?_;rintro e w3 ⟨rfl,g⟩;have T:=S.below g;obtain⟨m3,p3,a0,a1,a2,a3,a4,a5,a6,a7,D,O⟩:=T)
         | (go_at_call 104;refine(A _).mono ?_;rintro e w4 ⟨rfl,o⟩;have d:=g.trans (o.mono g.size);have S4:=S.below d;obtain⟨m4,p4,b0,b1,b2,b3,b4,b5,b6,b7,aa,J⟩:=S4)
         | (go_at_call 103;refine(zj5 w4 pm nameE J i.sort i.line i.word i.a i.b i.c i.n i.nm K (by rw [HN.out];exact hany)).mono ?_;rintro e w5 ⟨rfl,C⟩))
        have u:Below (r.heap.size+1) wr w5:=(zbp _ _ (d.trans (C.mono d.size))).mono (by omega);clear g o d C;go_roundw
        case rel=>exact⟨j+1,by omega,by go_num,H.trans u,G.out⟩
        case measure=>simp [intOf];omega
       | false =>
        have G:Hid (zcX names (F.map FnM.fn)=some i.line):=by
         unfold Hid;rw [HD.out,V.out];simp [zdB,It.key,hal,I,hany]
        clear V;go_wp2_with(first
         | (go_at_call 102;refine(x _).mono ?_;rintro e w3 ⟨rfl,g⟩;have T:=S.below g;obtain⟨m3,p3,a0,a1,a2,a3,a4,a5,a6,a7,D,O⟩:=T)
         | (go_at_call 104;refine(A _).mono ?_;rintro e w4 ⟨rfl,o⟩;have d:=g.trans (o.mono g.size);have S4:=S.below d;obtain⟨m4,p4,b0,b1,b2,b3,b4,b5,b6,b7,aa,J⟩:=S4)
         | (go_at_call 103;refine(zlx w4 pm nameE J i.sort i.line i.word i.a i.b i.c i.n i.nm K (by rw [HN.out];exact hany)).mono ?_;rintro e w5 ⟨rfl,C⟩))
        exact⟨rfl,q.trans ((zbp _ _ (d.trans (C.mono d.size))).mono q.size),.inl ⟨_,G.out,rfl⟩⟩
      | false =>
       rw [I] at A;have G:Hid (zaS names labs (its.map It.key)=zaS names labs ((its.map It.key).drop (j+1))):=by
        unfold Hid;rw [V.out];simp [zdB,It.key,hal,I]
       clear V;go_wp2_with(first
        | (go_at_call 102;refine(x _).mono ?_;rintro e w3 ⟨rfl,g⟩;have T:=S.below g;obtain⟨m3,p3,a0,a1,a2,a3,a4,a5,a6,a7,D,O⟩:=T)
        | (go_at_call 104;refine(A _).mono ?_;rintro e w4 ⟨rfl,o⟩;have d:=g.trans (o.mono g.size);have S4:=S.below d;obtain⟨m4,p4,b0,b1,b2,b3,b4,b5,b6,b7,aa,J⟩:=S4))
       have u:Below (r.heap.size+1) wr w4:=(zbp _ _ d).mono (by omega);clear g o d;go_roundw
       case rel=>exact⟨j+1,by omega,by go_num,H.trans u,G.out⟩
       case measure=>simp [intOf];omega
    ·have G:Hid (zcX names (F.map FnM.fn)=zcX names ((F.map FnM.fn).drop (k+1))):=by
      unfold Hid;rw [HD.out,HI.out,List.drop_of_length_le (by simp;omega)];rfl
     have u:Below (w.heap.size+1) W1 wr:=U.trans (ae.mono (by omega));go_wp2;go_roundw
     case rel=>exact⟨k+1,by omega,by go_num,u,G.out⟩
     case measure=>simp [intOf];omega
  ·have G:Hid (k=F.length):=by unfold Hid;omega
   go_wp2
   go_end0
   refine⟨Q,.inr ⟨?_,rfl⟩⟩;rw [HE.out,G.out,List.drop_of_length_le (by simp)];rfl
def lenF(F:List FnM):Nat:=(F.map (fun f=>(zaq f.its).length)).sum
def begF(F:List FnM):List Int:=(List.range F.length).map (fun k=>(lenF (F.take k):Int))
theorem zlW(F:List FnM)(k:Nat)(h:k<F.length):lenF (F.take (k+1))=lenF (F.take k)+(zaq F[k].its).length:=by
 unfold lenF;rw [List.take_succ_eq_append_getElem h,List.map_append,List.sum_append];simp
theorem zt6(F:List FnM)(k:Nat)(h:k<F.length):(begF F).take (k+1)=(begF F).take k++[(lenF (F.take k):Int)]:=by
 have a:k<(begF F).length:=by simp [begF,h]
 rw [List.take_succ_eq_append_getElem a];simp [begF]
theorem zoX(F:List FnM):(begF F).length=F.length:=by simp [begF]
theorem Tryz.info128:(Tryz.prog.info? 128).map (·.size)=some 3:=by kernel_rfl
theorem Tryz.built96(ao:Option Addr)(n c pm:Nat):Tryz.prog.built 128 [(0,.agg #[.slice ao n c,.map (some pm)])]=some #[.slice ao n c,.map (some pm),.slice none 0 0]:=by kernel_rfl
structure PlAt(w wr:World)(v:Value)(pm:Nat)(F:List FnM)(k:Nat)(bs:Value):Prop where
 c0:wr.cell? ⟨w.heap.size+1+1,0,none⟩=some v
 c1:wr.cell? ⟨w.heap.size+1+1,1,none⟩=some (.map (some pm))
 c2:wr.cell? ⟨w.heap.size+1+1,2,none⟩=some bs
 fz:∀ o,wr.frozen? ⟨w.heap.size+1+1,o,none⟩=false
 there_:wr.there (w.heap.size+1) 0 3
 row:wr.ownsRow (w.heap.size+1+1+1) 3 1 bs k (i64s ((begF F).take k))
 low:qB w wr
 size:w.heap.size+1+1+1≤wr.heap.size
theorem zwl(w:World)(v:Value)(pm:Nat)(F:List FnM):PlAt w (((w.alloc (.cells #[v,.map (some pm)] 83)).alloc (.cells #[.slice none 0 0,.map none,.slice none 0 0] 128)).alloc (.cells #[v,.map (some pm),.slice none 0 0] 128)) v pm F 0 (.slice none 0 0):=by
 have b:(w.alloc (.cells #[v,.map (some pm)] 83)).heap.size=w.heap.size+1:=by simp
 have d:qB w (w.alloc (.cells #[v,.map (some pm)] 83)):=(Below.refl _ _).alloc (Nat.le_refl _) _;generalize w.alloc (.cells #[v,.map (some pm)] 83)=W1 at b d;have a:(W1.alloc (.cells #[.slice none 0 0,.map none,.slice none 0 0] 128)).heap.size=w.heap.size+1+1:=by rw [←b];simp
 have e:(W1.alloc (.cells #[.slice none 0 0,.map none,.slice none 0 0] 128)).there (w.heap.size+1) 0 3:=fun j hj=>by
  rw [Nat.zero_add,←b,World.cell?_alloc_new,Array.getElem?_eq_getElem (by simpa using hj)];exact⟨rfl,by simp⟩
 have c:qB w (W1.alloc (.cells #[.slice none 0 0,.map none,.slice none 0 0] 128)):=d.alloc (by omega) _;generalize W1.alloc (.cells #[.slice none 0 0,.map none,.slice none 0 0] 128)=W2 at a e c;rw [←b] at e;refine⟨?_,?_,?_,fun o=>?_,?_,World.ownsRow_nil _ _ _ _,c.alloc (by omega) _,?_⟩
 ·rw [←a,World.cell?_alloc_new];rfl
 ·rw [←a,World.cell?_alloc_new];rfl
 ·rw [←a,World.cell?_alloc_new];rfl
 ·rw [←a];simp
 ·rw [←b];exact World.there_alloc e _
 ·rw [←a];simp
theorem zix{w:World}{b n:Nat}(h:w.there b 0 n)(j:Nat)(hj:j<n):(∃ u,w.cell? ⟨b,j,none⟩=some u)∧w.frozen? ⟨b,j,none⟩=false:=by
 have:=h j hj;rw [Nat.zero_add] at this;exact⟨Option.isSome_iff_exists.1 this.1,this.2⟩
theorem zt7{w:World}{B n:Nat}{v:Value}{xs:List Value}{e:TypeId}{size:Nat}(h:w.ownsRow B e size v n xs):∃ ao cap,v=.slice ao n cap:=zb7 h
def zz0(w:World)(v:Value)(pm:Nat)(F:List FnM):Ending→World→Prop:=fun e w'=>∃ bs,e=.returned (.agg #[v,.map (some pm),bs])∧w'.ownsRow w.heap.size 3 1 bs F.length (i64s (begF F))∧qB w w'
theorem zqV(w:World)(B pm:Nat)(v:Value)(F:List FnM)(h:PIn B w pm v F)(hF:0<F.length)(hn:F.length≤300)(hb:∀ f∈F,f.its.length≤300)(ht:lenF F≤300):
  qC 80 #[.agg #[v,.map (some pm)]] w (zz0 w v pm F):=by
 obtain⟨r,d,rfl,al,hcap,E⟩:=h.fns hF;have L:=Tryz.built96 (some ⟨r,0,none⟩) F.length d pm;have aj:∀ W,(Instr.build 128 #[(0,.agg #[.slice (some ⟨r,0,none⟩) F.length d,.map (some pm)])]).run Tryz.prog W=.ok (.agg #[.slice (some ⟨r,0,none⟩) F.length d,.map (some pm),.slice none 0 0]) W:=fun W=>run_build W 128 _ _ L;go_enter Tryz.func80,Tryz.ntmps80;go_wp2;generalize hv:Value.slice (some ⟨r,0,none⟩) F.length d=v at h L aj;have P0:PlAt w (((w.alloc (.cells #[v,.map (some pm)] 83)).alloc (.cells #[.slice none 0 0,.map none,.slice none 0 0] 128)).alloc (.cells #[v,.map (some pm),.slice none 0 0] 128)) v pm F 0 (.slice none 0 0):=zwl w v pm F;subst hv;generalize ((w.alloc (.cells #[.slice (some ⟨r,0,none⟩) F.length d,.map (some pm)] 83)).alloc (.cells #[.slice none 0 0,.map none,.slice none 0 0] 128)).alloc (.cells #[.slice (some ⟨r,0,none⟩) F.length d,.map (some pm),.slice none 0 0] 128)=W0 at P0;obtain⟨i0,af,ai,ah,ae⟩:=info_parts Tryz.info3
 go_loopw [12,4] (fun ti tb wr=>∃(k:Nat) (P:Value),k≤F.length∧ti=.int .i64 (k:Int)∧tb=.int .i64 (lenF (F.take k):Int)∧PlAt w wr (.slice (some ⟨r,0,none⟩) F.length d) pm F k P) (fun ti _ _=>F.length-(intOf ti).toNat)
 case atStart=>exact⟨0,_,by omega,rfl,rfl,P0⟩
 case round =>
  obtain⟨k,P,hk,rfl,rfl,Z⟩:=hrel;have N:=Z.low;have hszr:=Z.size;by_cases H:k<F.length
  ·obtain⟨c0,c1,c2,c3⟩:=E k H;have A:=List.getElem_mem H;have I:=(h.bodies F[k] A)
   have HL:Hid (lenF (F.take (k+1))=lenF (F.take k)+(zaq F[k].its).length):=zlW F k H;have HB:Hid ((begF F).take (k+1)=(begF F).take k++[(lenF (F.take k):Int)]):=zt6 F k H;have an:lenF (F.take k)≤300:=by
    refine Nat.le_trans ?_ ht;unfold lenF
    conv=>rhs;rw [←List.take_append_drop k F,List.map_append,List.sum_append]
    omega
   have Y:=Nat.le_trans (zed F[k].its) (hb F[k] A);have hlk:(i64s ((begF F).take k)).length=k:=by simp [zoX];omega
   have g:=Z.row;generalize hT:lenF (F.take k)=T at HL HB an;generalize F[k]=f at c0 c1 c2 c3 A I Y HL;have z:∀ j,wr.cell? ⟨r,j,none⟩=w.cell? ⟨r,j,none⟩:=fun j=>N.cell (p:=⟨r,j,none⟩) al;rw [←z] at c0 c1 c2 c3;clear z;have hk4:k*4≤1200:=by omega
   obtain⟨l,i,its,bv,m⟩:=f;simp only at c0 c1 c2 c3 I Y HL;obtain⟨J,c,rfl⟩:=zb7 I;have p2:=Z.c2;have hlt2:w.heap.size+1+1<wr.heap.size:=by omega
   have G:=fun q (hq:P.ownBlock=some q)=>(g.lt q hq)
   clear I;go_wp2_with(first
    | (at_builtin;refine wpList_append_own _ rfl _ _ 59 rfl (w.heap.size+1+1+1) 3 i0 (.int .i64 0) 1 8 Tryz.under59 af ai ah ae rfl (by decide) _ _ _ rfl ((g.alloc _).alloc _) ⟨wr.heap.size+1,0,none⟩ 1 1 [.int .i64 (T:Int)] rfl rfl ?_ (by simp [Value.oneCell']) (by unfold maxLen;omega) (by omega) (by simp;omega) ?_))
   ·have:=zik (wr.alloc (.cells #[.string l,.int .i64 i,.slice J (zaq its).length c,.map (some m)] 131)) (.int .i64 (T:Int));rwa [show(wr.alloc (.cells #[.string l,.int .i64 i,.slice J (zaq its).length c,.map (some m)] 131)).heap.size=wr.heap.size+1 by simp] at this
   intro v' y s b _;have K:qB wr (wr.alloc (.cells #[.string l,.int .i64 i,.slice J (zaq its).length c,.map (some m)] 131)):=(Below.refl _ _).alloc (Nat.le_refl _) _;have Q:(wr.alloc (.cells #[.string l,.int .i64 i,.slice J (zaq its).length c,.map (some m)] 131)).heap.size=wr.heap.size+1:=by simp
   have O:(wr.alloc (.cells #[.string l,.int .i64 i,.slice J (zaq its).length c,.map (some m)] 131)).cell? ⟨wr.heap.size,2,none⟩=some (.slice J (zaq its).length c):=by simp
   generalize wr.alloc (.cells #[.string l,.int .i64 i,.slice J (zaq its).length c,.map (some m)] 131)=w2 at b K Q O;have t:qB wr (w2.alloc (.cells #[.int .i64 (T:Int)] 3)):=K.alloc (by omega) _;have ak:(w2.alloc (.cells #[.int .i64 (T:Int)] 3)).heap.size=wr.heap.size+1+1:=by rw [←Q];simp
   have x:(w2.alloc (.cells #[.int .i64 (T:Int)] 3)).cell? ⟨wr.heap.size,2,none⟩=some (.slice J (zaq its).length c):=(World.cell?_alloc_lt w2 _ _ (by show wr.heap.size<_;omega)).trans O;generalize w2.alloc (.cells #[.int .i64 (T:Int)] 3)=w3 at b t ak x;have ac:some (w.heap.size+1+1)≠P.ownBlock:=fun e=>by have:=(G _ e.symm).1;omega
   have R:some (w.heap.size+1)≠P.ownBlock:=fun e=>by have:=(G _ e.symm).1;omega
   have aa:some wr.heap.size≠P.ownBlock:=fun e=>by have:=(G _ e.symm).2;omega
   have n:y.heap[w.heap.size+1+1]?=wr.heap[w.heap.size+1+1]?:=(b.block _ (by omega) ac).trans (t.block _ (by omega));have u:y.heap[w.heap.size+1]?=wr.heap[w.heap.size+1]?:=(b.block _ (by omega) R).trans (t.block _ (by omega));have d0:=(World.cell?_of_block (w:=wr) (a:=⟨w.heap.size+1+1,0,none⟩) n).trans Z.c0;have d1:=(World.cell?_of_block (w:=wr) (a:=⟨w.heap.size+1+1,1,none⟩) n).trans Z.c1;have d2:=(World.cell?_of_block (w:=wr) (a:=⟨w.heap.size+1+1,2,none⟩) n).trans Z.c2;have dz:∀ o,y.frozen? ⟨w.heap.size+1+1,o,none⟩=false:=fun o=>(World.frozen?_of_block (w:=wr) (a:=⟨w.heap.size+1+1,o,none⟩) n).trans (Z.fz o);have hf4:y.cell? ⟨wr.heap.size,2,none⟩=some (.slice J (zaq its).length c):=(b.cell_far ⟨wr.heap.size,2,none⟩ (by show wr.heap.size<_;omega) aa).trans x;have M:qB w y:=(N.trans (t.mono (by omega))).grown b (by omega) (fun q hq=>by have:=(G q hq).1;omega);have hsz4:wr.heap.size+1+1≤y.heap.size:=by have:=b.size;omega
   have dz2:=dz 2;have hne6:¬wr.heap.size=w.heap.size+1+1:=by omega
   have hne7:¬w.heap.size+1+1=wr.heap.size:=by omega
   have C:y.there (w.heap.size+1) 0 3:=fun j hj=>by
    obtain⟨q1,q2⟩:=Z.there_ j hj;exact⟨by rw [World.cell?_of_block (w:=wr) u];exact q1,by rw [World.frozen?_of_block (w:=wr) u];exact q2⟩
   obtain⟨gb,D,rfl,hgb,hgl⟩:=s.form (by omega);clear c0 c1 c2 c3 p2 O x;go_wp2;have ad:PlAt w (y.setCell ⟨w.heap.size+1+1,2,none⟩ (.slice (some ⟨gb,0,none⟩) (k+1) D)) (.slice (some ⟨r,0,none⟩) F.length d) pm F (k+1) (.slice (some ⟨gb,0,none⟩) (k+1) D):=by
    have e:=fun j=>zat y (w.heap.size+1+1) 2 j (.slice (some ⟨gb,0,none⟩) (k+1) D) _ d2;refine⟨by rw [e,if_neg (by omega)];exact d0,by rw [e,if_neg (by omega)];exact d1,by rw [e,if_pos rfl],fun o=>zbP y _ _ o _ (dz o),zds C _ _,?_,M.setCell (p:=⟨w.heap.size+1+1,2,none⟩) (by show w.heap.size≤w.heap.size+1+1;omega) _,by simp [World.setCell];omega⟩;rw [HB.out];have ag:=zaj (w':=y.setCell ⟨w.heap.size+1+1,2,none⟩ (.slice (some ⟨gb,0,none⟩) (k+1) D)) s (fun q hq=>Below.heap_setCell _ _ _ _ (fun e=>by have:=(s.lt q hq).1;simp only at e;omega));simpa [i64s] using ag
   go_roundw
   case rel=>exact⟨k+1,_,by omega,by go_num,by rw [HL.out];go_num,ad⟩
   case measure=>simp [intOf];omega
  ·obtain rfl:k=F.length:=by omega
   have p0:=Z.c0;have p1:=Z.c1;have p2:=Z.c2;have g:=Z.row;rw [List.take_of_length_le (by rw [zoX];omega)] at g;obtain⟨U,D,rfl⟩:=zt7 g;obtain⟨⟨u0,r0⟩,z0⟩:=zix Z.there_ 0 (by omega);obtain⟨⟨u1,r1⟩,z1⟩:=zix Z.there_ 1 (by omega);obtain⟨⟨u2,r2⟩,z2⟩:=zix Z.there_ 2 (by omega);have hT:lenF (F.take F.length)=lenF F:=by rw [List.take_length]
   go_wp2;have S:Tryz.prog.underlying 128=some (.struct _):=Tryz.underlying128;have hr:=World.rangeAt_setCells_same wr (w.heap.size+1) 0 [.slice (some ⟨r,0,none⟩) F.length d,.map (some pm),.slice U F.length D] Z.there_;have X:=run_loadVar_mid (wr.setCells (w.heap.size+1) 0 [.slice (some ⟨r,0,none⟩) F.length d,.map (some pm),.slice U F.length D]) (w.heap.size+1) 0 128 _ _ hr S rfl Tryz.info128;have V:qB w (wr.setCells (w.heap.size+1) 0 [.slice (some ⟨r,0,none⟩) F.length d,.map (some pm),.slice U F.length D]):=zal _ 0 N (by omega);refine bodyPost_ret (v:=.agg #[.slice (some ⟨r,0,none⟩) F.length d,.map (some pm),.slice U F.length D]) (zb9 Tryz.results80 _ ⟨w.heap.size+1,0,none⟩ rfl X) rfl ⟨_,rfl,?_,V⟩;have am:=zaj (w':=wr.setCells (w.heap.size+1) 0 [.slice (some ⟨r,0,none⟩) F.length d,.map (some pm),.slice U F.length D]) g (fun q hq=>za6 _ wr _ _ _ (by have:=(g.lt q hq).1;omega));exact zbk am (by omega)
end
section
open Sp
def cnt(L:List Said):Nat→Nat
 | 0=>0
 | i+1=>cnt L i+(match L[i]? with|none=>0|some q=>if q.kind=105 then 1 else 0)
theorem ziy(L:List Said)(i:Nat)(h:i<L.length)(h5:L[i].kind=105):cnt L (i+1)=cnt L i+1:=by simp [cnt,List.getElem?_eq_getElem h,h5]
theorem zeN(L:List Said)(i:Nat)(h:i<L.length)(h5:¬L[i].kind=105):cnt L (i+1)=cnt L i:=by simp [cnt,List.getElem?_eq_getElem h,h5]
theorem zws(L:List Said)(i d:Nat):cnt L i≤cnt L (i+d):=by
 induction d with
 | zero=>exact Nat.le_refl _
 | succ d ih=>exact Nat.le_trans ih (Nat.le_add_right _ _)
theorem zoY(L:List Said){i j:Nat}(h:i≤j):cnt L i≤cnt L j:=by
 obtain⟨d,rfl⟩:=Nat.exists_eq_add_of_le h;exact zws L i d
theorem zyv(L:List Said)(i:Nat):cnt L i≤i:=by
 induction i with
 | zero=>exact Nat.le_refl _
 | succ i ih =>
  show cnt L i+_≤i+1;have:(match L[i]? with|none=>0|some q=>if q.kind=105 then 1 else 0)≤1:=by
   split
   ·omega
   ·split <;> omega
  omega
def NoFn(L:List Said)(i j:Nat):Prop:=∀ m (hm:m<L.length),i≤m→m≤j→¬L[m].kind=102
theorem NoFn.one{L:List Said}{i:Nat}{hi:i<L.length}(h:¬L[i].kind=102):NoFn L i i:=fun m hm a b=>by
 have e:m=i:=by omega
 subst e;exact h
theorem NoFn.cons{L:List Said}{i j:Nat}{hi:i<L.length}(h:¬L[i].kind=102)(h2:NoFn L (i+1) j):NoFn L i j:=fun m hm a b=>by
 by_cases e:m=i
 ·subst e;exact h
 ·exact h2 m hm (by omega) b
theorem NoFn.trans{L:List Said}{i j k l:Nat}(h:NoFn L i j)(h2:NoFn L k l)(hk:k≤j+1):NoFn L i l:=fun m hm a b=>by
 by_cases e:m≤j
 ·exact h m hm a e
 ·exact h2 m hm (by omega) b
theorem zoZ(L:List Said)(i j:Nat)(h:zad L i=(j:Int)):∃ hj:j<L.length,i≤j∧L[j].kind=105∧cnt L j=cnt L i∧NoFn L i j:=by
 by_cases hi:i<L.length
 ·by_cases f:L[i].kind=102
  ·rw [zj0 L i hi f] at h;omega
  ·by_cases g:L[i].kind=105
   ·rw [zeF L i hi g] at h;have e:i=j:=by omega
    subst e;exact⟨hi,Nat.le_refl _,g,rfl,.one (hi:=hi) f⟩
   ·rw [zer L i hi f g] at h;obtain⟨hj,a,b,c,d⟩:=zoZ L (i+1) j h;exact⟨hj,by omega,b,by rw [c,zeN L i hi g],.cons (hi:=hi) f d⟩
 ·rw [zhk L i hi] at h;omega
termination_by L.length-i
theorem zeO{its:List It}{k:Key}{b:List Key}(h:its.map It.key=k :: b):∃ t r,its=t :: r∧t.key=k∧r.map It.key=b:=by
 cases its with
 | nil=>simp at h
 | cons t r=>simp at h;exact⟨t,r,rfl,h.1,h.2⟩
theorem znK{t:It}(r:List It)(h:t.sort=1):zaq (t :: r)=zaq r:=by simp [zaq,h]
theorem zkD{t:It}(r:List It)(h:t.sort=2):zaq (t :: r)=t :: zaq r:=by simp [zaq,h]
theorem zpa{L:List Said}(hw:WfAll L){i:Nat}(hi:i<L.length)(h0:¬L[i].kind=0)(h1:¬L[i].kind=102)(h2:¬L[i].kind=108):L[i].kind=105:=by
 have:=hw.at i hi;unfold Wf at this;omega
theorem zh7(L:List Said)(hw:WfAll L)(i:Nat)(its:List It)(h:its.map It.key=zar L i)(m:Nat)(it:It)(hm:(zaq its)[m]?=some it):
  ∃ j,∃ hj:j<L.length,i≤j∧L[j].kind=105∧it.key=keyQ L[j] ((j:Int)+1)∧cnt L j=cnt L i+m∧NoFn L i j:=by
 by_cases hi:i<L.length
 ·by_cases f:L[i].kind=102
  ·rw [zdg L i hi f] at h;have e:its=[]:=by simpa using h
   subst e;simp [zaq] at hm
  ·by_cases g:L[i].kind=0
   ·rw [zcx L i hi g] at h;obtain⟨j,hj,a,b,c,d,e⟩:=zh7 L hw (i+1) its h m it hm;exact⟨j,hj,by omega,b,c,by rw [d,zeN L i hi (by omega)],.cons (hi:=hi) f e⟩
   ·rw [zbU L i hi g f] at h;obtain⟨t,r,rfl,n,p⟩:=zeO h;by_cases k:L[i].kind=108
    ·have l:t.sort=1:=(congrArg Key.sort n).trans (zfA _ k);rw [znK r l] at hm;obtain⟨j,hj,a,b,c,d,e⟩:=zh7 L hw (i+1) r p m it hm;exact⟨j,hj,by omega,b,c,by rw [d,zeN L i hi (by omega)],.cons (hi:=hi) f e⟩
    ·have o:=zpa hw hi g f k;have l:t.sort=2:=(congrArg Key.sort n).trans (zeJ _ f k);rw [zkD r l] at hm;cases m with
     | zero =>
      have e:t=it:=by simpa using hm
      subst e;exact⟨i,hi,Nat.le_refl _,o,n,rfl,.one (hi:=hi) f⟩
     | succ m =>
      rw [List.getElem?_cons_succ] at hm;obtain⟨j,hj,a,b,c,d,e⟩:=zh7 L hw (i+1) r p m it hm;exact⟨j,hj,by omega,b,c,by rw [d,ziy L i hi o];omega,.cons (hi:=hi) f e⟩
 ·rw [zcL L i hi] at h;have e:its=[]:=by simpa using h
  subst e;simp [zaq] at hm
termination_by L.length-i
theorem ziz(L:List Said)(hw:WfAll L)(i:Nat)(its:List It)(h:its.map It.key=zar L i)(j:Nat)(hj:j<L.length)(hij:i≤j)(h5:L[j].kind=105)(hno:NoFn L i j):
  ∃ it,(zaq its)[cnt L j-cnt L i]?=some it∧it.key=keyQ L[j] ((j:Int)+1):=by
 have d:i<L.length:=by omega
 have e:=hno i d (Nat.le_refl _) hij;have c:NoFn L (i+1) j:=fun m hm a b=>hno m hm (by omega) b;by_cases s:i=j
 ·subst s;rw [zbU L i d (by omega) e] at h;obtain⟨t,r,rfl,g,q⟩:=zeO h;have f:t.sort=2:=(congrArg Key.sort g).trans (zeJ _ e (by omega));exact⟨t,by rw [zkD r f,Nat.sub_self];rfl,g⟩
 ·by_cases l:L[i].kind=0
  ·rw [zcx L i d l] at h;rw [←zeN L i d (by omega)];exact ziz L hw (i+1) its h j hj (by omega) h5 c
  ·rw [zbU L i d l e] at h;obtain⟨t,r,rfl,g,q⟩:=zeO h;obtain⟨it,k,p⟩:=ziz L hw (i+1) r q j hj (by omega) h5 c;by_cases n:L[i].kind=108
   ·have f:t.sort=1:=(congrArg Key.sort g).trans (zfA _ n);rw [znK r f,←zeN L i d (by omega)];exact⟨it,k,p⟩
   ·have o:=zpa hw d l e n;have f:t.sort=2:=(congrArg Key.sort g).trans (zeJ _ e n);have hle:=zoY L (show i+1≤j by omega);have hc:=ziy L i d o;rw [zkD r f,show cnt L j-cnt L i=(cnt L j-cnt L (i+1))+1 by omega];exact⟨it,by rw [List.getElem?_cons_succ];exact k,p⟩
termination_by L.length-i
theorem zh8(L:List Said)(hw:WfAll L)(x:ByteArray)(i:Nat)(its:List It)(h:its.map It.key=zar L i)(n j:Nat)(hl:zaY L x i=(j:Int)):
  zcb (zb2 n its) x=some (n+(cnt L j-cnt L i))∧∃ hj:j<L.length,i≤j∧L[j].kind=108∧NoFn L i j:=by
 by_cases hi:i<L.length
 ·by_cases f:L[i].kind=102
  ·rw [zfW L x i hi f] at hl;omega
  ·by_cases k:L[i].kind=0
   ·rw [zcx L i hi k] at h;rw [zcd L x i hi f (by simp [zdc,k])] at hl;obtain⟨a,hj,b,c,d⟩:=zh8 L hw x (i+1) its h n j hl;exact⟨by rw [a,zeN L i hi (by omega)],hj,by omega,c,.cons (hi:=hi) f d⟩
   ·rw [zbU L i hi k f] at h;obtain⟨t,r,rfl,m,p⟩:=zeO h;rw [zcy];by_cases g:L[i].kind=108
    ·have o:t.sort=1:=(congrArg Key.sort m).trans (zfA _ g);have hnm:t.nm=L[i].word 0:=(congrArg Key.nm m).trans (zk6 _ g);rw [if_pos o];by_cases l:eqW (L[i].word 0) x=true
     ·rw [zdd L x i hi f (by simp [zdc,g,l])] at hl;have e:i=j:=by omega
      subst e;refine⟨?_,hi,Nat.le_refl _,g,.one (hi:=hi) f⟩;unfold zcb;rw [if_pos (by rw [hnm];exact l)];simp
     ·rw [zcd L x i hi f (by simp [zdc,l])] at hl;obtain⟨a,hj,b,c,d⟩:=zh8 L hw x (i+1) r p n j hl;refine⟨?_,hj,by omega,c,.cons (hi:=hi) f d⟩;unfold zcb;rw [if_neg (by rw [hnm];exact l),a,zeN L i hi (by omega)]
    ·have q:=zpa hw hi k f g;have o:t.sort=2:=(congrArg Key.sort m).trans (zeJ _ f g);rw [if_neg (by omega)];rw [zcd L x i hi f (by simp [zdc,g])] at hl;obtain⟨a,hj,b,c,d⟩:=zh8 L hw x (i+1) r p (n+1) j hl;have hle:=zoY L b;have hc:=ziy L i hi q;refine⟨?_,hj,by omega,c,.cons (hi:=hi) f d⟩;rw [a];congr 1;omega
 ·rw [zeo L x i hi] at hl;omega
termination_by L.length-i
theorem zlX{F:List FnM}{f:Fn}{b:List Fn}(h:F.map FnM.fn=f :: b):∃ t r,F=t :: r∧t.fn=f∧r.map FnM.fn=b:=by
 cases F with
 | nil=>simp at h
 | cons t r=>simp at h;exact⟨t,r,rfl,h.1,h.2⟩
theorem zeP(f:FnM)(F:List FnM):lenF (f :: F)=(zaq f.its).length+lenF F:=by simp [lenF]
theorem zpb(L:List Said)(hw:WfAll L)(i:Nat)(its:List It)(h:its.map It.key=zar L i)(F:List FnM)(hF:F.map FnM.fn=zbc L i)(k:Nat)(f:FnM)(hk:F[k]?=some f):
  ∃ o,∃ ho:o<L.length,i≤o∧L[o].kind=102∧f.line=(o:Int)+1∧f.its.map It.key=zar L (o+1)∧cnt L o=cnt L i+(zaq its).length+lenF (F.take k):=by
 by_cases g:i<L.length
 ·by_cases j:L[i].kind=102
  ·rw [zdg L i g j] at h;have e:its=[]:=by simpa using h
   subst e;rw [zcs L i g j] at hF;obtain⟨t,r,rfl,l,q⟩:=zlX hF;have s:t.its.map It.key=zar L (i+1):=congrArg Fn.body l;have v:t.line=(i:Int)+1:=congrArg Fn.line l;cases k with
   | zero =>
    have e:t=f:=by simpa using hk
    subst e;exact⟨i,g,Nat.le_refl _,j,v,s,by simp [zaq,lenF]⟩
   | succ k =>
    rw [List.getElem?_cons_succ] at hk;obtain⟨o,ho,a,b,c,d,e⟩:=zpb L hw (i+1) t.its s r q k f hk;exact⟨o,ho,by omega,b,c,d,by rw [e,zeN L i g (by omega),List.take_succ_cons,zeP];simp [zaq];omega⟩
  ·rw [zce L i g j] at hF;by_cases m:L[i].kind=0
   ·rw [zcx L i g m] at h;obtain⟨o,ho,a,b,c,d,e⟩:=zpb L hw (i+1) its h F hF k f hk;exact⟨o,ho,by omega,b,c,d,by rw [e,zeN L i g (by omega)]⟩
   ·rw [zbU L i g m j] at h;obtain⟨t,r,rfl,l,q⟩:=zeO h;obtain⟨o,ho,a,b,c,d,e⟩:=zpb L hw (i+1) r q F hF k f hk;by_cases n:L[i].kind=108
    ·have p:t.sort=1:=(congrArg Key.sort l).trans (zfA _ n);exact⟨o,ho,by omega,b,c,d,by rw [e,zeN L i g (by omega),znK r p]⟩
    ·have u:=zpa hw g m j n;have p:t.sort=2:=(congrArg Key.sort l).trans (zeJ _ j n);exact⟨o,ho,by omega,b,c,d,by rw [e,ziy L i g u,zkD r p,List.length_cons];omega⟩
 ·rw [zdh L i g] at hF;have e:F=[]:=by simpa using hF
  subst e;simp at hk
termination_by L.length-i
theorem zkE(L:List Said)(x:ByteArray)(i:Nat)(F:List FnM)(hF:F.map FnM.fn=zbc L i)(n o:Nat)(hl:zaN L x i=(o:Int)):
  ∃ k f,F[k]?=some f∧zcb (zaW n F) x=some (n+k)∧f.line=(o:Int)+1:=by
 by_cases d:i<L.length
 ·by_cases e:L[i].kind=102
  ·rw [zcs L i d e] at hF;obtain⟨t,r,rfl,h,j⟩:=zlX hF;have hnm:t.name=L[i].word 1:=congrArg Fn.name h;have hln:t.line=(i:Int)+1:=congrArg Fn.line h;rw [zdC];by_cases g:eqW (L[i].word 1) x=true
   ·rw [zd4 L x i d (by simp [isFn,e,g])] at hl;refine⟨0,t,rfl,?_,by omega⟩;unfold zcb;rw [if_pos (by rw [hnm];exact g)];simp
   ·rw [zdr L x i d (by simp [isFn,g])] at hl;obtain⟨k,f,a,b,c⟩:=zkE L x (i+1) r j (n+1) o hl;refine⟨k+1,f,by rw [List.getElem?_cons_succ];exact a,?_,c⟩;unfold zcb;rw [if_neg (by rw [hnm];exact g),b];congr 1;omega
  ·rw [zce L i d e] at hF;rw [zdr L x i d (by simp [isFn,e])] at hl;exact zkE L x (i+1) F hF n o hl
 ·rw [zfc L x i d] at hl;omega
termination_by L.length-i
theorem zi0(L:List Said)(i:Nat)(k:Key)(r:List Key)(h:zbu L i=k :: r)(hs:k.sort=0):zar L i=[]:=by
 by_cases a:i<L.length
 ·by_cases b:L[i].kind=0
  ·rw [zd5 L i a b] at h;rw [zcx L i a b];exact zi0 L (i+1) k r h hs
  ·rw [zbD L i a b] at h;have d:keyQ L[i] ((i:Int)+1)=k:=by injection h
   by_cases c:L[i].kind=102
   ·exact zdg L i a c
   ·exact absurd ((congrArg Key.sort d).trans hs) (zfB _ c)
 ·exact zcL L i a
termination_by L.length-i
theorem znL(L:List Said)(i:Nat)(k:Key)(r:List Key)(h:zbu L i=k :: r)(hs:k.sort=0):(k :: r).foldl addK []=zbc L i:=by
 by_cases a:i<L.length
 ·by_cases c:L[i].kind=0
  ·rw [zd5 L i a c] at h;rw [zce L i a (by omega)];exact znL L (i+1) k r h hs
  ·rw [zbD L i a c] at h;have d:keyQ L[i] ((i:Int)+1)=k:=by injection h
   by_cases b:L[i].kind=102
   ·rw [←h,List.foldl_cons,zcK _ _ (zeI _ b),zgh,zcs L i a b];simp [keyQ,zgB _ b]
   ·exact absurd ((congrArg Key.sort d).trans hs) (zfB _ b)
 ·rw [zdt L i a] at h;cases h
termination_by L.length-i
end
end Go.Proofs.YtfpgjkbjbbgciaaGreatDoor
