import Derived.Test.YtfpgjkbjbbgciaaGreatDoorMk21
import Derived.Test.YtfpgjkbjbbgciaaGreatDoorMk22
import Derived.Test.YtfpgjkbjbbgciaaGreatDoorMk25
set_option maxRecDepth 100000
set_option maxHeartbeats 8000000
namespace Go.Proofs.YtfpgjkbjbbgciaaGreatDoor
section
open Go.RowKit Sp
def zpr(w:World)(names:List ByteArray)(F:List Fn):Ending→World→Prop:=fun e w' =>
 Below w.heap.size w w'∧((∃ l,zc9 names F=some l∧e=zak 4 l)∨(zc9 names F=none∧e=.returned (.tuple #[])))
theorem zqQ(names:List ByteArray)(F:List Fn)(k:Nat)(h:k<F.length):zc9 names (F.drop k)=match zaI names (labsOf F[k].body) F[k].body with|some l=>some l|none=>zc9 names (F.drop (k+1)):=by
 rw [List.drop_eq_getElem_cons h];rfl
theorem zk3(names labs:List ByteArray)(b:List Key)(k:Nat)(h:k<b.length):zaI names labs (b.drop k)=if zdi names labs b[k]=true then some b[k].line else zaI names labs (b.drop (k+1)):=by
 rw [List.drop_eq_getElem_cons h,zer]
theorem zqR(i:It)(l:List It):zal (i :: l)=if i.sort=1 then zal l else i :: zal l:=by
 by_cases h:i.sort=1 <;> simp [zal,h]
theorem zjV:zaF ⟨#[]⟩=false∧zbt ⟨#[]⟩=false:=⟨by kernel_rfl,by kernel_rfl⟩
theorem zwr(names labs:List ByteArray)(l:List It)(h:∀ i∈l,ItOk i):zaI names labs (l.map It.key)=zaI names labs ((zal l).map It.key):=by
 induction l with
 | nil=>rfl
 | cons i l a =>
  have a:=a (fun j hj=>h j (by simp [hj]));rw [zqR];by_cases b:i.sort=1
  ·rw [if_pos b,←a,List.map_cons,zer];have hw:i.key.word=⟨#[]⟩:=(h i (by simp)).2 b;rw [if_neg];unfold zdi;rw [hw,zjV.1,zjV.2];simp
  ·rw [if_neg b,List.map_cons,List.map_cons,zer,zer,a]
theorem zg2{X W:World}(hb:Below X.heap.size X W){p:Addr}{u:Value}(h:X.cell? p=some u):W.cell? p=some u:=(hb.cell (World.block_lt_of_cell? X p h)).trans h
structure Sees(W:World)(rb pb sb m pm:Nat)(i:It)(labs names:List (ByteArray × Nat)):Prop where
 cm:W.cell? ⟨rb,3,none⟩=some (.map (some m))
 cp:W.cell? ⟨pb,1,none⟩=some (.map (some pm))
 c0:W.cell? ⟨sb,0,none⟩=some (.int .i64 i.sort)
 c1:W.cell? ⟨sb,1,none⟩=some (.int .i64 i.line)
 c2:W.cell? ⟨sb,2,none⟩=some (.string i.word)
 c3:W.cell? ⟨sb,3,none⟩=some (.int .i64 i.a)
 c4:W.cell? ⟨sb,4,none⟩=some (.int .i64 i.b)
 c5:W.cell? ⟨sb,5,none⟩=some (.int .i64 i.c)
 c6:W.cell? ⟨sb,6,none⟩=some (.int .i64 i.n)
 c7:W.cell? ⟨sb,7,none⟩=some (.string i.nm)
 ml:MapIs W m labs
 mp:MapIs W pm names
theorem Sees.below{X W:World}{rb pb sb m pm:Nat}{i:It}{labs names:List (ByteArray × Nat)}(h:Sees X rb pb sb m pm i labs names)(hb:Below X.heap.size X W):Sees W rb pb sb m pm i labs names :=
 ⟨zg2 hb h.cm,zg2 hb h.cp,zg2 hb h.c0,zg2 hb h.c1,zg2 hb h.c2,zg2 hb h.c3,zg2 hb h.c4,zg2 hb h.c5,zg2 hb h.c6,zg2 hb h.c7,h.ml.below hb h.ml.lt,h.mp.below hb h.mp.lt⟩
theorem Sees.made(w:World)(rb pb m pm:Nat)(i:It)(labs names:List (ByteArray × Nat))(cm:w.cell? ⟨rb,3,none⟩=some (.map (some m)))(cp:w.cell? ⟨pb,1,none⟩=some (.map (some pm)))(ml:MapIs w m labs)(mp:MapIs w pm names):
  Sees (w.alloc (.cells #[.int .i64 i.sort,.int .i64 i.line,.string i.word,.int .i64 i.a,.int .i64 i.b,.int .i64 i.c,.int .i64 i.n,.string i.nm] 135)) rb pb w.heap.size m pm i labs names:=by
 have d:Below w.heap.size w (w.alloc (.cells #[.int .i64 i.sort,.int .i64 i.line,.string i.word,.int .i64 i.a,.int .i64 i.b,.int .i64 i.c,.int .i64 i.n,.string i.nm] 135)):=(Below.refl _ _).alloc (Nat.le_refl _) _;have h:=World.cell?_alloc_new (w:=w) #[.int .i64 i.sort,.int .i64 i.line,.string i.word,.int .i64 i.a,.int .i64 i.b,.int .i64 i.c,.int .i64 i.n,.string i.nm] 135;exact⟨zg2 d cm,zg2 d cp,h 0,h 1,h 2,h 3,h 4,h 5,h 6,h 7,ml.alloc _,mp.alloc _⟩
theorem zjW(w:World)(B pm:Nat)(v:Value)(F:List FnM)(h:PIn B w pm v F)(hF:0<F.length)(hn:F.length≤300)(hb:∀ f∈F,f.its.length≤300∧∀ i∈f.its,ItOk i):
  Calls Tryz.prog 69 #[.agg #[v,.map (some pm)]] w (zpr w (F.map FnM.name) (F.map FnM.fn)):=by
 obtain⟨O,E,rfl,ax,hcap,Q⟩:=h.fns hF;have aa:=h.places;have aj:=zci 0 F;rw [←aj];clear aj;change Calls Tryz.prog 69 #[.agg #[.slice (some ⟨O,0,none⟩) F.length E,.map (some pm)]] w (zpr w (zbx (zbj F)) (F.map FnM.fn));generalize zbj F=nameE at aa ⊢;generalize hN:zbx nameE=names;have HN:Hid (zbx nameE=names):=hN;clear hN;have ak:Below w.heap.size w (w.alloc (.cells #[.slice (some ⟨O,0,none⟩) F.length E,.map (some pm)] 83)):=(Below.refl _ _).alloc (Nat.le_refl _) _;have au:(w.alloc (.cells #[.slice (some ⟨O,0,none⟩) F.length E,.map (some pm)] 83)).heap.size=w.heap.size+1:=by simp
 have ag:(w.alloc (.cells #[.slice (some ⟨O,0,none⟩) F.length E,.map (some pm)] 83)).cell? ⟨w.heap.size,1,none⟩=some (.map (some pm)):=World.cell?_alloc_new (w:=w) #[.slice (some ⟨O,0,none⟩) F.length E,.map (some pm)] 83 1;go_enter Tryz.func69,Tryz.ntmps69;go_wp2;generalize w.alloc (.cells #[.slice (some ⟨O,0,none⟩) F.length E,.map (some pm)] 83)=W1 at ak au ag
 go_loopw [9] (fun ti wr=>∃(k:Nat),k≤F.length∧ti=.int .i64 (k:Int)∧Below (w.heap.size+1) W1 wr∧zc9 names (F.map FnM.fn)=zc9 names ((F.map FnM.fn).drop k)) (fun ti _=>F.length-(intOf ti).toNat)
 case atStart=>exact⟨0,by omega,rfl,Below.refl _ _,rfl⟩
 case round =>
  obtain⟨r,ay⟩:∃ r,r=wr:=⟨wr,rfl⟩
  subst ay;obtain⟨k,hk,rfl,T,hE⟩:=hrel;have HE:Hid (zc9 names (F.map FnM.fn)=zc9 names ((F.map FnM.fn).drop k)):=hE;clear hE;have hszr:=T.size;have P:Below w.heap.size w r:=ak.trans (T.mono (by omega));by_cases ae:k<F.length
  ·obtain⟨c0,c1,c2,c3⟩:=Q k ae;have s:=List.getElem_mem ae;have HD:Hid (zc9 names (F.map FnM.fn)=match zaI names (zbx (zbO F[k].its)) ((zal F[k].its).map It.key) with|some l=>some l|none=>zc9 names ((F.map FnM.fn).drop (k+1))):=by
    unfold Hid;rw [HE.out,zqQ _ _ k (by simpa using ae),←zwr _ _ _ (hb F[k] s).2,zd2];simp [FnM.fn]
   have J:=h.bodies F[k] s;have K:=h.labels F[k] s;have ac:=Nat.le_trans (zdD F[k].its) (hb F[k] s).1;have R:∀ i∈zal F[k].its,i.nm.size≤1048576:=fun i hi=>((hb F[k] s).2 i ((List.mem_filter.1 hi).1)).1;generalize F[k]=f at c0 c1 c2 c3 s HD J ac K R;have z:∀ j,r.cell? ⟨O,j,none⟩=w.cell? ⟨O,j,none⟩:=fun j=>P.cell (p:=⟨O,j,none⟩) ax;rw [←z] at c0 c1 c2 c3;clear z HE;have hk4:k*4≤1200:=by omega
   obtain⟨name,line,Z,bv,m⟩:=f;simp only at c0 c1 c2 c3 J ac HD K R;generalize zbO Z=labE at HD K;generalize zal Z=its at HD J ac R;obtain⟨ao,t,rfl⟩:=zba J;generalize aq:zbx labE=labs at HD;have HLB:Hid (zbx labE=labs):=aq;clear aq;have ap:r.cell? ⟨w.heap.size,1,none⟩=some (.map (some pm)):=(T.cell (by simp)).trans ag;have al:Below r.heap.size r (r.alloc (.cells #[.string name,.int .i64 line,.slice ao its.length t,.map (some m)] 131)):=(Below.refl _ _).alloc (Nat.le_refl _) _;have av:(r.alloc (.cells #[.string name,.int .i64 line,.slice ao its.length t,.map (some m)] 131)).heap.size=r.heap.size+1:=by simp
   have ah:(r.alloc (.cells #[.string name,.int .i64 line,.slice ao its.length t,.map (some m)] 131)).cell? ⟨r.heap.size,3,none⟩=some (.map (some m)):=World.cell?_alloc_new (w:=r) #[.string name,.int .i64 line,.slice ao its.length t,.map (some m)] 131 3;go_wp2;generalize r.alloc (.cells #[.string name,.int .i64 line,.slice ao its.length t,.map (some m)] 131)=W2 at al av ah
   go_loopw [16] (fun tj wi=>∃(j:Nat),j≤its.length∧tj=.int .i64 (j:Int)∧Below (r.heap.size+1) W2 wi∧zaI names labs (its.map It.key)=zaI names labs ((its.map It.key).drop j)) (fun tj _=>its.length-(intOf tj).toNat)
   case atStart=>exact⟨0,by omega,rfl,Below.refl _ _,rfl⟩
   case round =>
    obtain⟨j,hj,rfl,H,hI⟩:=hrel;have HI:Hid (zaI names labs (its.map It.key)=zaI names labs ((its.map It.key).drop j)):=hI;clear hI;have hszi:=H.size;have ab:Below r.heap.size r wr:=al.trans (H.mono (by omega));have q:Below w.heap.size w wr:=P.trans (ab.mono P.size);by_cases ad:j<its.length
    ·obtain⟨bg,capb',am,_,aw,ar⟩:=zg0 J (by omega);have hs:=ar j ad;have L:=R its[j] (List.getElem_mem ad);have V:Hid (zaI names labs (its.map It.key)=if zdi names labs its[j].key=true then some its[j].line else zaI names labs ((its.map It.key).drop (j+1))):=by
      unfold Hid;rw [HI.out,zk3 _ _ _ j (by simpa using ad)];simp only [List.getElem_map];rfl
     generalize its[j]=i at hs L V;obtain⟨d0,d1,d2,d3,d4,d5,d6,d7⟩:=hs;have z:∀ j,wr.cell? ⟨bg,j,none⟩=w.cell? ⟨bg,j,none⟩:=fun j=>q.cell (p:=⟨bg,j,none⟩) aw;rw [←z] at d0 d1 d2 d3 d4 d5 d6 d7;simp only [Value.slice.injEq,true_and] at am;obtain⟨rfl,rfl⟩:=am;have hj8:j*8≤2400:=by omega
     have ai:=K.below q K.lt;have X:=aa.below q aa.lt;have an:wr.cell? ⟨r.heap.size,3,none⟩=some (.map (some m)):=(H.cell (by simp)).trans ah;have Y:wr.cell? ⟨w.heap.size,1,none⟩=some (.map (some pm)):=zg2 ab ap;have S:=Sees.made wr r.heap.size w.heap.size m pm i labE nameE an Y ai X;have hX0:Below wr.heap.size wr (wr.alloc (.cells #[.int .i64 i.sort,.int .i64 i.line,.string i.word,.int .i64 i.a,.int .i64 i.b,.int .i64 i.c,.int .i64 i.n,.string i.nm] 135)):=(Below.refl _ _).alloc (Nat.le_refl _) _;clear z ar ap HI ai X an Y;have u:=fun W=>zlO i.sort i.line i.word i.a i.b i.c i.n i.nm W;have x:=fun W=>znB i.sort i.line i.word i.a i.b i.c i.n i.nm W;cases hal:zaF i.word with
     | true =>
      have G:=zis _ hal;rw [hal] at u;rw [G] at x;cases hany:labs.any (fun y=>eqW y i.nm) with
      | true =>
       have D:Hid (zaI names labs (its.map It.key)=zaI names labs ((its.map It.key).drop (j+1))):=by
        unfold Hid;rw [V.out];simp [zdi,It.key,hal,G,hany]
       clear V;go_wp2_with(first
        | (go_at_call 102;refine(u _).mono ?_;rintro e w3 ⟨rfl,g⟩;have N:=S.below g;obtain⟨m3,p3,a0,a1,a2,a3,a4,a5,a6,a7,I,U⟩:=N)
        | (go_at_call 103;refine(zjM w3 m labE I i.sort i.line i.word i.a i.b i.c i.n i.nm L (by rw [HLB.out];exact hany)).mono ?_;rintro e w4 ⟨rfl,o⟩;have d:=g.trans (o.mono g.size);have S4:=S.below d;obtain⟨m4,p4,b0,b1,b2,b3,b4,b5,b6,b7,af,M⟩:=S4)
        | (go_at_call 104;refine(x _).mono ?_;rintro e w5 ⟨rfl,A⟩))
       have C:Below (r.heap.size+1) wr w5:=(zaW _ _ (d.trans (A.mono d.size))).mono (by omega);clear g o d A;go_roundw
       case rel=>exact⟨j+1,by omega,by go_num,H.trans C,D.out⟩
       case measure=>simp [intOf];omega
      | false =>
       have D:Hid (zc9 names (F.map FnM.fn)=some i.line):=by
        unfold Hid;rw [HD.out,V.out];simp [zdi,It.key,hal,G,hany]
       clear V;go_wp2_with(first
        | (go_at_call 102;refine(u _).mono ?_;rintro e w3 ⟨rfl,g⟩;have N:=S.below g;obtain⟨m3,p3,a0,a1,a2,a3,a4,a5,a6,a7,I,U⟩:=N)
        | (go_at_call 103;refine(zlD w3 m labE I i.sort i.line i.word i.a i.b i.c i.n i.nm L (by rw [HLB.out];exact hany)).mono ?_;rintro e w4 ⟨rfl,o⟩;have d:=g.trans (o.mono g.size)))
       exact⟨rfl,q.trans ((zaW _ _ d).mono q.size),.inl ⟨_,D.out,rfl⟩⟩
     | false =>
      rw [hal] at u;cases G:zbt i.word with
      | true =>
       rw [G] at x;cases hany:names.any (fun y=>eqW y i.nm) with
       | true =>
        have D:Hid (zaI names labs (its.map It.key)=zaI names labs ((its.map It.key).drop (j+1))):=by
         unfold Hid;rw [V.out];simp [zdi,It.key,hal,G,hany]
        clear V;go_wp2_with(first
         | (go_at_call 102;refine(u _).mono ?_;rintro e w3 ⟨rfl,g⟩;have N:=S.below g;obtain⟨m3,p3,a0,a1,a2,a3,a4,a5,a6,a7,I,U⟩:=N)
         | (go_at_call 104;refine(x _).mono ?_;rintro e w4 ⟨rfl,o⟩;have d:=g.trans (o.mono g.size);have S4:=S.below d;obtain⟨m4,p4,b0,b1,b2,b3,b4,b5,b6,b7,af,M⟩:=S4)
         | (go_at_call 103;refine(zjM w4 pm nameE M i.sort i.line i.word i.a i.b i.c i.n i.nm L (by rw [HN.out];exact hany)).mono ?_;rintro e w5 ⟨rfl,A⟩))
        have C:Below (r.heap.size+1) wr w5:=(zaW _ _ (d.trans (A.mono d.size))).mono (by omega);clear g o d A;go_roundw
        case rel=>exact⟨j+1,by omega,by go_num,H.trans C,D.out⟩
        case measure=>simp [intOf];omega
       | false =>
        have D:Hid (zc9 names (F.map FnM.fn)=some i.line):=by
         unfold Hid;rw [HD.out,V.out];simp [zdi,It.key,hal,G,hany]
        clear V;go_wp2_with(first
         | (go_at_call 102;refine(u _).mono ?_;rintro e w3 ⟨rfl,g⟩;have N:=S.below g;obtain⟨m3,p3,a0,a1,a2,a3,a4,a5,a6,a7,I,U⟩:=N)
         | (go_at_call 104;refine(x _).mono ?_;rintro e w4 ⟨rfl,o⟩;have d:=g.trans (o.mono g.size);have S4:=S.below d;obtain⟨m4,p4,b0,b1,b2,b3,b4,b5,b6,b7,af,M⟩:=S4)
         | (go_at_call 103;refine(zlD w4 pm nameE M i.sort i.line i.word i.a i.b i.c i.n i.nm L (by rw [HN.out];exact hany)).mono ?_;rintro e w5 ⟨rfl,A⟩))
        exact⟨rfl,q.trans ((zaW _ _ (d.trans (A.mono d.size))).mono q.size),.inl ⟨_,D.out,rfl⟩⟩
      | false =>
       rw [G] at x;have D:Hid (zaI names labs (its.map It.key)=zaI names labs ((its.map It.key).drop (j+1))):=by
        unfold Hid;rw [V.out];simp [zdi,It.key,hal,G]
       clear V;go_wp2_with(first
        | (go_at_call 102;refine(u _).mono ?_;rintro e w3 ⟨rfl,g⟩;have N:=S.below g;obtain⟨m3,p3,a0,a1,a2,a3,a4,a5,a6,a7,I,U⟩:=N)
        | (go_at_call 104;refine(x _).mono ?_;rintro e w4 ⟨rfl,o⟩;have d:=g.trans (o.mono g.size);have S4:=S.below d;obtain⟨m4,p4,b0,b1,b2,b3,b4,b5,b6,b7,af,M⟩:=S4))
       have C:Below (r.heap.size+1) wr w4:=(zaW _ _ d).mono (by omega);clear g o d;go_roundw
       case rel=>exact⟨j+1,by omega,by go_num,H.trans C,D.out⟩
       case measure=>simp [intOf];omega
    ·have D:Hid (zc9 names (F.map FnM.fn)=zc9 names ((F.map FnM.fn).drop (k+1))):=by
      unfold Hid;rw [HD.out,HI.out,List.drop_of_length_le (by simp;omega)];rfl
     have C:Below (w.heap.size+1) W1 wr:=T.trans (ab.mono (by omega));go_wp2;go_roundw
     case rel=>exact⟨k+1,by omega,by go_num,C,D.out⟩
     case measure=>simp [intOf];omega
  ·have D:Hid (k=F.length):=by unfold Hid;omega
   go_wp2
   go_end0
   refine⟨P,.inr ⟨?_,rfl⟩⟩;rw [HE.out,D.out,List.drop_of_length_le (by simp)];rfl
end
section
open Go.RowKit Sp Go.WideMaps Go.Maps
theorem ztu{E:List (ByteArray × Nat)}(hpw:E.Pairwise (fun a b=>eqW a.1 b.1=false)){left:Lit→Bool}{x:ByteArray}{p n:Nat}(hf:zb6 E x=some p)(hp:¬p=n)(h:∀ q∈E,left (.string q.1.data.toList)=false→¬q.2=n):
  ∀ q∈E,(left (.string q.1.data.toList)&&!(Lit.string q.1.data.toList).sameKey (.string x.data.toList))=false→¬q.2=n:=by
 intro q d c;rw [Bool.and_eq_false_iff] at c;rcases c with c|c
 ·exact h q d c
 ·have e:q.1.data.toList=x.data.toList:=by
   have:=WideAt.sameKey_eq (show(Lit.string q.1.data.toList).sameKey (.string x.data.toList)=true by simpa using c);simpa using this
  rw [zqP E hpw x p hf q d ((zdU _ _).2 e)];exact hp
theorem ztv(w:World)(B m:Nat)(name:ByteArray)(line:Int)(bv:Value)(E:List (ByteArray × Nat))(its:List It)(hM:MapIs w m E)(hbo:w.ownsRow B 135 8 bv its.length (zav its))(hn:its.length≤300):
  Calls Tryz.prog 105 #[.agg #[.string name,.int .i64 line,bv,.map (some m)]] w fun e w'=>e=.returned (.bool (E.all (fun p=>!decide (p.2=its.length))&&zdW its))∧Below w.heap.size w w':=by
 obtain⟨D,g,hD,A,k,L⟩:=hM;have hlt:=g.lt;obtain⟨o,d,rfl⟩:=zba hbo;have hne:¬w.heap.size=m:=by omega
 have u:(w.alloc (.cells #[.string name,.int .i64 line,.slice o its.length d,.map (some m)] 131)).cell? ⟨w.heap.size,2,none⟩=some (.slice o its.length d):=World.cell?_alloc_new (w:=w) #[.string name,.int .i64 line,.slice o its.length d,.map (some m)] 131 2;have P:Below w.heap.size w (w.alloc (.cells #[.string name,.int .i64 line,.slice o its.length d,.map (some m)] 131)):=(Below.refl _ _).alloc (Nat.le_refl _) _;have Z:(w.alloc (.cells #[.string name,.int .i64 line,.slice o its.length d,.map (some m)] 131)).heap.size=w.heap.size+1:=by simp
 go_enter Tryz.func105,Tryz.ntmps105;go_wp2_with(first
  | (at_range;refine wpList_range_own _ rfl _ 81 rfl 9 3 lawS Tryz.under81 _ m E.length _ rfl (g.alloc _) ?_;intro w0 C r ag))
 rw [Z] at C ag ⊢;generalize w.alloc (.cells #[.string name,.int .i64 line,.slice o its.length d,.map (some m)] 131)=W1 at u P Z r;have ad:w0.cell? ⟨w.heap.size,2,none⟩=some (.slice o its.length d):=(r.cell_far _ (by simp;omega) (by simp)).trans u;have aa:Below w.heap.size w w0:=P.trans (((Below.refl w.heap.size W1).grown r (by omega) (fun j hj=>by cases hj)))
 go_frame
 go_loopw [4] (fun _ wr=>∃(l:Lit→Bool) (M:Nat),wr.ranges Tryz.prog 9 (plainElem Tryz.prog 3) m (w.heap.size+1) E.length D l M∧w0.grownBy wr (some (w.heap.size+1))∧(∀ p∈E,l (.string p.1.data.toList)=false→¬p.2=its.length))
  (fun _ wr=>wr.rangeLeft m (w.heap.size+1))
 case atStart =>
  refine⟨_,_,C,⟨rfl,rfl,rfl,Nat.le_refl _,fun _ _ _=>rfl⟩,fun p K hl=>?_⟩;rw [A p.1,List.any_eq_false] at hl;have:=hl p.1 (List.mem_map_of_mem K);rw [(zdU _ _).2 rfl] at this;simp at this
 case round =>
  obtain⟨l,M,t,h,s⟩:=hrel;have G:wr.cell? ⟨w.heap.size,2,none⟩=some (.slice o its.length d):=(h.cell_far _ (by simp;omega) (by simp)).trans ad;have f:Below w.heap.size w wr:=aa.trans ((Below.refl w.heap.size w0).grown h (by omega) (fun j hj=>by cases hj;omega));go_wp2_with(first
   | (at_next;refine wpList_next_ranges _ rfl _ rfl 9 lawS (plainElem Tryz.prog 3) Value.string (Value.int .i64) (fun key kl hk=>by obtain⟨x,hx,_⟩:=string_of_keyOf Tryz.underlying9 hk;exact⟨x,hx⟩) (fun v y hv=>by obtain⟨c,rfl,_⟩:=plainElem_int_inv Tryz.underlying3 hv;exact⟨c,rfl⟩) m (w.heap.size+1) E.length _ _ _ rfl t ?_ ?_))
  ·intro _ T;have HA:Hid (E.all (fun p=>!decide (p.2=its.length))=true):=znO E _ (fun p K=>s p K (T _));clear T s t h A k L g hD;rcases List.eq_nil_or_concat its with rfl|⟨I,i,hI⟩
   ·simp only [List.length_nil] at G;go_wp2;go_ret;exact⟨by simp [zdW],f⟩
   ·rw [List.concat_eq_append] at hI;subst hI;obtain⟨bg,capb',R,_,ac,Y⟩:=zg0 hbo (by simp);simp only [Value.slice.injEq,true_and] at R;obtain⟨rfl,rfl⟩:=R;have hs:=Y I.length (by simp);have ae:(I++[i]).length=I.length+1:=by simp
    rw [ae] at G hn;simp only [List.getElem_append_right (Nat.le_refl _),Nat.sub_self,List.getElem_cons_zero] at hs;obtain⟨d0,d1,d2,d3,d4,d5,d6,d7⟩:=hs;have z:∀ j,wr.cell? ⟨bg,j,none⟩=w.cell? ⟨bg,j,none⟩:=fun j=>f.cell (p:=⟨bg,j,none⟩) ac;rw [←z] at d0 d1 d2 d3 d4 d5 d6 d7;have hwrap:IntKind.i64.wrap (I.length:Int)=(I.length:Int):=zd6 _ (by omega) (by omega);have hf3:(0:Int)<(I.length:Int)+1:=by omega
    have hf4:(0:Int)≤(I.length:Int):=by omega
    have hf5:(I.length:Int)<(I.length:Int)+1:=by omega
    have H:=fun W=>zq6 i.sort i.line i.word i.a i.b i.c i.n i.nm W;have HL:Hid (zdW (I++[i])=ends i.word):=zfS I i;clear z Y hbo ae;go_wp2_with(first|(go_at_call 132;refine(H _).mono ?_;rintro e w2 ⟨rfl,ab⟩))
    go_ret;refine⟨?_,f.trans (ab.mono f.size)⟩;rw [HA.out,HL.out];simp
  ·intro x c kl yd yp w1 N S hlk hv O F U J ah hen;obtain⟨x',ex,rfl,_⟩:=string_of_keyOf Tryz.underlying9 S;cases ex;obtain⟨c',ec,ey,_⟩:=plainElem_int_inv Tryz.underlying3 hv;cases ec;have hh:=has_true_of_atKey O;rw [A x] at hh;obtain⟨p,K⟩:=zqw E x hh;have hc:c=(p:Int):=by
    have h1:=k x p (.lit (.int .i64 0)) K;rw [O] at h1;cases ey;simpa using h1
   subst hc;clear ah;have hb11:w1.cell? ⟨w.heap.size,2,none⟩=some (.slice o its.length d):=(J.cell_far _ (by simp;have:=f.size;have:=r.size;have:=h.size;omega) (by simp)).trans G;by_cases V:p=its.length
   ·have X:((p:Int) == (its.length:Int))=true:=by simp;omega
    obtain⟨q,hq,af,_⟩:=ztt E x p K;have HA:Hid (E.all (fun p=>!decide (p.2=its.length))=false):=znP E _ q hq (af.trans V);have Q:Below w.heap.size w w1:=f.trans ((Below.refl w.heap.size wr).grown J f.size (fun j hj=>by cases hj;omega));clear s t F h A k L g hD O;go_wp2;go_ret;exact⟨by rw [HA.out];rfl,Q⟩
   ·have X:((p:Int) == (its.length:Int))=false:=by simp;omega
    go_wp2;go_roundw
    case rel=>exact⟨_,N,F,h.andThen J (fun j hj=>by cases hj;exact Or.inr rfl),ztu L K V s⟩
    case measure=>rw [F.left_eq,t.left_eq];exact U
theorem zlZ(w:World)(B pm:Nat)(v:Value)(F:List FnM)(h:PIn B w pm v F)(hF:0<F.length)(hn:F.length≤300)(hb:∀ f∈F,f.its.length≤300∧∀ i∈f.its,ItOk i):
  Calls Tryz.prog 70 #[.agg #[v,.map (some pm)]] w (zyE w (F.map FnM.fn)):=by
 obtain⟨H,cap,rfl,I,hcap,o⟩:=h.fns hF;go_enter Tryz.func70,Tryz.ntmps70;go_wp2
 go_loopw [7] (fun ti wr=>∃(k:Nat),k≤F.length∧ti=.int .i64 (k:Int)∧Below w.heap.size w wr∧endK (F.map FnM.fn)=endK ((F.map FnM.fn).drop k)) (fun ti _=>F.length-(intOf ti).toNat)
 case atStart=>exact⟨0,by omega,rfl,(Below.refl _ _).alloc (Nat.le_refl _) _,rfl⟩
 case round =>
  obtain⟨k,hk,rfl,c,L⟩:=hrel;have HE:Hid (endK (F.map FnM.fn)=endK ((F.map FnM.fn).drop k)):=L;clear L;have hszr:=c.size;by_cases u:k<F.length
  ·obtain⟨C,D,E,G⟩:=o k u;have b:=List.getElem_mem u;have x:Hid (endK (F.map FnM.fn)=if zts F[k].its=true then endK ((F.map FnM.fn).drop (k+1)) else some F[k].line):=by
    unfold Hid;rw [HE.out,ztr _ k (by simpa using u),zwq _ (hb F[k] b).2];simp [FnM.fn]
   have l:=(h.bodies F[k] b)
   have n:=(h.labels F[k] b)
   have t:=Nat.le_trans (zdD F[k].its) (hb F[k] b).1;generalize F[k]=f at C D E G b x l t n;have z:∀ j,wr.cell? ⟨H,j,none⟩=w.cell? ⟨H,j,none⟩:=fun j=>c.cell (p:=⟨H,j,none⟩) I;rw [←z] at C D E G;clear z;have hk4:k*4≤1200:=by omega
   obtain⟨s,line,its,bv,m⟩:=f;simp only at C D E G l t x n;have q:=zaj (w':=wr) l (fun g hg=>c.block g (l.lt g hg).2);have r:=n.below c n.lt;obtain⟨N,y,rfl⟩:=zba l;have a:=ztv (wr.alloc (.cells #[.string s,.int .i64 line,.slice N (zal its).length y,.map (some m)] 131)) B m s line _ _ _ (r.alloc _) (q.alloc _) t;have O:Hid (((zbO its).all (fun p=>!decide (p.2=(zal its).length))&&zdW (zal its))=zts its):=rfl;rw [O.out] at a;clear l q n r O;cases hend:zts its with
   | false =>
    rw [hend] at x a;go_wp2_with(first|(go_at_call 105;refine a.mono ?_;rintro e P ⟨rfl,d⟩;have J:=(zpq d).1)|(go_at_call 79;refine(zay _ _ _).mono ?_;rintro e wx ⟨rfl,K⟩;subst K))
    exact⟨rfl,c.trans ((zaW _ _ d).mono (by omega)),.inl ⟨_,x.out,rfl⟩⟩
   | true =>
    rw [hend] at x a;go_wp2_with(first|(go_at_call 105;refine a.mono ?_;rintro e P ⟨rfl,d⟩;have J:=(zpq d).1))
    have A:=c.trans ((zaW _ _ d).mono (by omega));clear d;go_roundw
    case rel=>exact⟨k+1,by omega,by go_num,A,x.out⟩
    case measure=>simp [intOf];omega
  ·have M:Hid (k=F.length):=by unfold Hid;omega
   go_wp2
   go_end0
   refine⟨c,.inr ⟨?_,rfl⟩⟩;rw [HE.out,M.out,List.drop_of_length_le (by simp)];rfl
end
section
open Go.RowKit Sp
def zaV(f g:Nat→Rg)(j:Nat):Nat→Rg:=fun i=>if i<j then(f i).or (g i) else f i
theorem ziJ(f g:Nat→Rg):zaV f g 0=f:=by funext i;simp [zaV]
theorem zmt(f g:Nat→Rg)(j:Nat):zaV f g j j=f j:=by simp [zaV]
theorem ziK(f g:Nat→Rg)(j:Nat):updR (zaV f g j) j ((f j).or (g j))=zaV f g (j+1):=by
 funext i
 unfold updR zaV;by_cases e:i=j
 ·subst e;rw [if_pos rfl,if_pos (by omega)]
 ·rw [if_neg e];by_cases a:i<j
  ·rw [if_pos a,if_pos (by omega)]
  ·rw [if_neg a,if_neg (by omega)]
theorem KnM.like{w:World}{b:Nat}{bv:Value}{k k2:Kn}(h:KnM w b bv k)(h1:∀ r,r<8→k2.regs r=k.regs r)(h2:∀ c,c<16→k2.cells c=k.cells c)(h3:k2.next=k.next)(h4:k2.steps=k.steps):KnM w b bv k2 :=
 ⟨fun r hr=>by rw [h1 r hr];exact h.cR r hr,fun c hc=>by rw [h2 c hc];exact h.cC c hc,by rw [h3];exact h.cN,h.cB,by rw [h4];exact h.cS,h.fz⟩
theorem zAd{w:World}{b:Nat}{bv:Value}{k o:Kn}(h:KnM w b bv { k with regs:=zaV k.regs o.regs 8,cells:=zaV k.cells o.cells 16 }):KnM w b bv (zf3 k o) :=
 h.like (fun r hr=>by show _=zaV k.regs o.regs 8 r;unfold zaV;rw [if_pos hr];rfl) (fun r hr=>by show _=zaV k.cells o.cells 16 r;unfold zaV;rw [if_pos hr];rfl) rfl rfl
structure JnM(w wr:World)(b c:Nat)(bv cv:Value)(k o:Kn):Prop where
 kn:KnM wr b bv k
 ot:KnM wr c cv o
 low:w.grownBy wr (some b)
theorem JnM.below{w wr wy:World}{b c:Nat}{bv cv:Value}{k o:Kn}(L:JnM w wr b c bv cv k o)(hb:Below wr.heap.size wr wy):JnM w wy b c bv cv k o :=
 ⟨L.kn.below hb L.kn.lt,L.ot.below hb L.ot.lt,zae L.low ⟨hb.os,hb.tape,hb.output,hb.size,fun q hq _=>hb.block q hq⟩⟩
theorem KnM.other{w:World}{b c n:Nat}{v cv:Value}{o:Kn}(h:KnM w c cv o)(hne:¬c=b):KnM (w.setCell ⟨b,n,none⟩ v) c cv o:=h.block (Below.heap_setCell w _ _ c hne)
theorem JnM.putR{w wr:World}{b c:Nat}{bv cv:Value}{k o:Kn}(L:JnM w wr b c bv cv k o)(hne:¬c=b)(a:Nat)(ha:a<8)(u:Rg):JnM w ((wr.setCell ⟨b,a*2,none⟩ (.int .i64 u.lo)).setCell ⟨b,a*2+1,none⟩ (.int .i64 u.hi)) b c bv cv { k with regs:=updR k.regs a u } o :=
 ⟨L.kn.putR a ha u,(L.ot.other hne).other hne,zae L.low (zae (zah (Below.refl _ _)) (zah (Below.refl _ _)))⟩
theorem JnM.putC{w wr:World}{b c:Nat}{bv cv:Value}{k o:Kn}(L:JnM w wr b c bv cv k o)(hne:¬c=b)(a:Nat)(ha:a<16)(u:Rg):JnM w ((wr.setCell ⟨b,16+a*2,none⟩ (.int .i64 u.lo)).setCell ⟨b,16+a*2+1,none⟩ (.int .i64 u.hi)) b c bv cv { k with cells:=updR k.cells a u } o :=
 ⟨L.kn.putC a ha u,(L.ot.other hne).other hne,zae L.low (zae (zah (Below.refl _ _)) (zah (Below.refl _ _)))⟩
theorem zeK{w wx:World}{cs:Array Value}{t:TypeId}(hbx:Below (w.alloc (.cells cs t)).heap.size (w.alloc (.cells cs t)) wx)(j:Nat):wx.cell? ⟨w.heap.size,j,none⟩=cs[j]? :=
 (World.cell?_of_block (a:=⟨w.heap.size,j,none⟩) (hbx.block w.heap.size (by simp))).trans (World.cell?_alloc_new _ _ _ j)
theorem Tryz.size214:(Tryz.prog.info? 214).map (·.size)=some 16:=by kernel_rfl
theorem Tryz.size215:(Tryz.prog.info? 215).map (·.size)=some 32:=by kernel_rfl
theorem Tryz.row214:Tryz.prog.underlying 214=some (.array 8 213):=by kernel_rfl
theorem Tryz.row215:Tryz.prog.underlying 215=some (.array 16 213):=by kernel_rfl
theorem ztQ{w:World}{b c:Nat}{bv cv:Value}{k o:Kn}(h:KnM w b bv k)(h2:KnM w c cv o)(hne:¬c=b):Calls Tryz.prog 142 #[.pointer (some ⟨b,0,none⟩),.pointer (some ⟨c,0,none⟩)] w (zmp w b bv (zf3 k o)):=by
 have i:=h2.rowR;have H:JnM w w b c bv cv { k with regs:=zaV k.regs o.regs 0 } o:=by rw [ziJ];exact⟨h,h2,⟨rfl,rfl,rfl,Nat.le_refl _,fun _ _ _=>rfl⟩⟩
 have p:(Tryz.prog.info? 214).map (·.size)=some (rgs o.regs 8).length:=by rw [zd3];exact Tryz.size214
 have I:=fun r i W=>zp8 Tryz.row214 o.regs r i W;generalize rgs o.regs 8=cs at i p I;go_enter Tryz.func142,Tryz.ntmps142;go_wp2_with(first|(refine wpList_load_mid rfl 214 _ rfl c 0 rfl cs _ i Tryz.row214 rfl p ?_))
 go_loopw [12] (fun ti wr=>∃ j:Nat,j≤8∧ti=.int .i64 (j:Int)∧JnM w wr b c bv cv { k with regs:=zaV k.regs o.regs j } o) (fun ti _=>8-(intOf ti).toNat)
 case atStart=>exact⟨0,by omega,rfl,H⟩
 case round =>
  obtain⟨j,O,rfl,L⟩:=hrel;by_cases d:j<8
  ·have G:=I j d;have E:(0:Int)≤(j:Int):=by omega
   have F:(j:Int)<8:=by omega
   have K:=L.kn.cR j d;have y:zaV k.regs o.regs j j=k.regs j:=zmt _ _ _;obtain⟨A,n⟩:∃ A,wr.alloc (.cells #[.int .i64 (o.regs j).lo,.int .i64 (o.regs j).hi] 213)=A:=⟨_,rfl⟩
   have v:∀ W,Below A.heap.size A W→Below wr.heap.size wr W:=fun W a=>by subst n;exact box1.trans (a.mono (by simp))
   have l:∀ W,Below A.heap.size A W→JnM w W b c bv cv { k with regs:=zaV k.regs o.regs j } o:=fun W a=>L.below (v W a);have g:∀ W,Below A.heap.size A W→(W.cell? ⟨wr.heap.size,0,none⟩=some (.int .i64 (o.regs j).lo)∧W.cell? ⟨wr.heap.size,1,none⟩=some (.int .i64 (o.regs j).hi))∧(W.cell? ⟨b,j*2,none⟩=some (.int .i64 (k.regs j).lo)∧W.cell? ⟨b,j*2+1,none⟩=some (.int .i64 (k.regs j).hi)):=fun W a=>by
    have t:=(l W a).kn.cR j d;rw [show({ k with regs:=zaV k.regs o.regs j }:Kn).regs j=k.regs j from y] at t;exact⟨by subst n;exact⟨zeK a 0,zeK a 1⟩,t⟩
   go_wp2;refine zad 12 (fun W=>Below A.heap.size A W) (Below.refl _ _).drew (by kernel_rfl) (by kernel_rfl) ?_;simp only [List.take_succ_cons,List.take_zero,List.drop_succ_cons,List.drop_zero];repeat(refine zab rfl ?_ (fun W a=>?_) ?_;rotate_left 1;· (obtain⟨⟨z,B⟩,C,D⟩:=g W a;go_simp;with_reducible rfl))
   refine zaJ rfl 156 #[rv (k.regs j),rv (o.regs j)] (rv ((k.regs j).or (o.regs j))) (fun W a=>?_) (fun W a=>(zp5 _ _ W).mono (fun e w' hh=>⟨hh.1,a.trans (hh.2.mono a.size)⟩)) ?_
   ·go_simp
   repeat(refine zab rfl ?_ (fun W a=>?_) ?_;rotate_left 1;· (obtain⟨⟨z,B⟩,C,D⟩:=g W a;go_simp;with_reducible rfl))
   refine wpQuiet_nil ?_;intro W a;have f:=l W a;obtain⟨_,M,N⟩:=g W a;have P:=f.kn.fz (j*2);have Q:=f.kn.fz (j*2+1);have m:=f.putR hne j d ((k.regs j).or (o.regs j));have x:JnM w ((W.setCell ⟨b,j*2,none⟩ (.int .i64 ((k.regs j).or (o.regs j)).lo)).setCell ⟨b,j*2+1,none⟩ (.int .i64 ((k.regs j).or (o.regs j)).hi)) b c bv cv { k with regs:=zaV k.regs o.regs (j+1) } o:=by
    have e:updR (zaV k.regs o.regs j) j ((k.regs j).or (o.regs j))=zaV k.regs o.regs (j+1):=ziK _ _ _;rw [←e];exact m
   clear m f;go_wp2;exact⟨⟨j+1,by omega,by go_num,x⟩,by simp [intOf];omega⟩
  ·obtain rfl:j=8:=by omega
   have s:=L.ot.rowC;have J:JnM w wr b c bv cv { k with regs:=zaV k.regs o.regs 8,cells:=zaV k.cells o.cells 0 } o:=by rw [ziJ];exact L
   have q:(Tryz.prog.info? 215).map (·.size)=some (rgs o.cells 16).length:=by rw [zd3];exact Tryz.size215
   have u:=fun r i W=>zp8 Tryz.row215 o.cells r i W;generalize rgs o.cells 16=ds at s q u;clear L H;go_wp2_with(first|(refine wpList_load_mid rfl 215 _ rfl c 16 rfl ds _ s Tryz.row215 rfl q ?_))
   go_loopw [34] (fun ti wr=>∃ j:Nat,j≤16∧ti=.int .i64 (j:Int)∧JnM w wr b c bv cv { k with regs:=zaV k.regs o.regs 8,cells:=zaV k.cells o.cells j } o) (fun ti _=>16-(intOf ti).toNat)
   case atStart=>exact⟨0,by omega,rfl,J⟩
   case round =>
    obtain⟨j,O,rfl,L⟩:=hrel;by_cases d:j<16
    ·have G:=u j d;have E:(0:Int)≤(j:Int):=by omega
     have F:(j:Int)<16:=by omega
     have K:=L.kn.cC j d;have y:zaV k.cells o.cells j j=k.cells j:=zmt _ _ _;obtain⟨A,n⟩:∃ A,wr.alloc (.cells #[.int .i64 (o.cells j).lo,.int .i64 (o.cells j).hi] 213)=A:=⟨_,rfl⟩
     have v:∀ W,Below A.heap.size A W→Below wr.heap.size wr W:=fun W a=>by subst n;exact box1.trans (a.mono (by simp))
     have l:∀ W,Below A.heap.size A W→JnM w W b c bv cv { k with regs:=zaV k.regs o.regs 8,cells:=zaV k.cells o.cells j } o:=fun W a=>L.below (v W a);have g:∀ W,Below A.heap.size A W→(W.cell? ⟨wr.heap.size,0,none⟩=some (.int .i64 (o.cells j).lo)∧W.cell? ⟨wr.heap.size,1,none⟩=some (.int .i64 (o.cells j).hi))∧(W.cell? ⟨b,16+j*2,none⟩=some (.int .i64 (k.cells j).lo)∧W.cell? ⟨b,16+j*2+1,none⟩=some (.int .i64 (k.cells j).hi)):=fun W a=>by
      have t:=(l W a).kn.cC j d;rw [show({ k with regs:=zaV k.regs o.regs 8,cells:=zaV k.cells o.cells j }:Kn).cells j=k.cells j from y] at t;exact⟨by subst n;exact⟨zeK a 0,zeK a 1⟩,t⟩
     go_wp2;refine zad 12 (fun W=>Below A.heap.size A W) (Below.refl _ _).drew (by kernel_rfl) (by kernel_rfl) ?_;simp only [List.take_succ_cons,List.take_zero,List.drop_succ_cons,List.drop_zero];repeat(refine zab rfl ?_ (fun W a=>?_) ?_;rotate_left 1;· (obtain⟨⟨z,B⟩,C,D⟩:=g W a;go_simp;with_reducible rfl))
     refine zaJ rfl 156 #[rv (k.cells j),rv (o.cells j)] (rv ((k.cells j).or (o.cells j))) (fun W a=>?_) (fun W a=>(zp5 _ _ W).mono (fun e w' hh=>⟨hh.1,a.trans (hh.2.mono a.size)⟩)) ?_
     ·go_simp
     repeat(refine zab rfl ?_ (fun W a=>?_) ?_;rotate_left 1;· (obtain⟨⟨z,B⟩,C,D⟩:=g W a;go_simp;with_reducible rfl))
     refine wpQuiet_nil ?_;intro W a;have f:=l W a;obtain⟨_,M,N⟩:=g W a;have P:=f.kn.fz (16+j*2);have Q:=f.kn.fz (16+j*2+1);have m:=f.putC hne j d ((k.cells j).or (o.cells j));have x:JnM w ((W.setCell ⟨b,16+j*2,none⟩ (.int .i64 ((k.cells j).or (o.cells j)).lo)).setCell ⟨b,16+j*2+1,none⟩ (.int .i64 ((k.cells j).or (o.cells j)).hi)) b c bv cv { k with regs:=zaV k.regs o.regs 8,cells:=zaV k.cells o.cells (j+1) } o:=by
      have e:updR (zaV k.cells o.cells j) j ((k.cells j).or (o.cells j))=zaV k.cells o.cells (j+1):=ziK _ _ _;rw [←e];exact m
     clear m f;go_wp2;exact⟨⟨j+1,by omega,by go_num,x⟩,by simp [intOf];omega⟩
    ·obtain rfl:j=16:=by omega
     go_wp2;refine bodyPost_end (results_none rfl _ _ _) rfl ⟨rfl,zAd L.kn,L.low⟩
theorem zps{F:List FnM}{G:List Fn}(hG:Hid (F.map FnM.fn=G)):F.map FnM.name=G.map Fn.name:=by
 rw [←hG.out,zk1]
theorem PIn.alloc{B:Nat}{w:World}{pm:Nat}{v:Value}{F:List FnM}(h:PIn B w pm v F)(o:Obj):PIn B (w.alloc o) pm v F:=h.of_blocks fun _b _ hb=>Below.heap_alloc _ _ _ hb
theorem PIn.below{B:Nat}{w w':World}{pm:Nat}{v:Value}{F:List FnM}(h:PIn B w pm v F)(hb:Below w.heap.size w w'):PIn B w' pm v F:=h.of_blocks fun b _ hl=>hb.block b hl
theorem zA9{B:Nat}{w:World}{pm:Nat}{v:Value}{F:List FnM}{G:List Fn}(h:PIn B w pm v F)(hG:Hid (F.map FnM.fn=G))(hF:0<F.length)(hn:F.length≤300)(hb:∀ f∈F,f.its.length≤300∧∀ i∈f.its,ItOk i)(l:Int)(hm:Hid (zc9 (G.map Fn.name) G=some l)):
  Calls Tryz.prog 69 #[.agg #[v,.map (some pm)]] w fun e w'=>e=zak 4 l∧Below w.heap.size w w':=by
 have:=zjW w B pm v F h hF hn hb;rw [zps hG,hG.out] at this;refine this.mono ?_;rintro e w' ⟨b,⟨l',a,c⟩|⟨a,_⟩⟩
 ·rw [hm.out] at a;cases a;exact⟨c,b⟩
 ·rw [hm.out] at a;cases a
theorem zxS{B:Nat}{w:World}{pm:Nat}{v:Value}{F:List FnM}{G:List Fn}(h:PIn B w pm v F)(hG:Hid (F.map FnM.fn=G))(hF:0<F.length)(hn:F.length≤300)(hb:∀ f∈F,f.its.length≤300∧∀ i∈f.its,ItOk i)(hm:Hid (zc9 (G.map Fn.name) G=none)):
  Calls Tryz.prog 69 #[.agg #[v,.map (some pm)]] w fun e w'=>e=.returned (.tuple #[])∧Below w.heap.size w w':=by
 have:=zjW w B pm v F h hF hn hb;rw [zps hG,hG.out] at this;refine this.mono ?_;rintro e w' ⟨b,⟨l',a,h2⟩|⟨_,a⟩⟩
 ·rw [hm.out] at a;cases a
 ·exact⟨a,b⟩
theorem zAa{B:Nat}{w:World}{pm:Nat}{v:Value}{F:List FnM}{G:List Fn}(h:PIn B w pm v F)(hG:Hid (F.map FnM.fn=G))(hF:0<F.length)(hn:F.length≤300)(hb:∀ f∈F,f.its.length≤300∧∀ i∈f.its,ItOk i)(l:Int)(hm:Hid (endK G=some l)):
  Calls Tryz.prog 70 #[.agg #[v,.map (some pm)]] w fun e w'=>e=zak 5 l∧Below w.heap.size w w':=by
 have:=zlZ w B pm v F h hF hn hb;rw [hG.out] at this;refine this.mono ?_;rintro e w' ⟨b,⟨l',a,c⟩|⟨a,_⟩⟩
 ·rw [hm.out] at a;cases a;exact⟨c,b⟩
 ·rw [hm.out] at a;cases a
theorem zyF{B:Nat}{w:World}{pm:Nat}{v:Value}{F:List FnM}{G:List Fn}(h:PIn B w pm v F)(hG:Hid (F.map FnM.fn=G))(hF:0<F.length)(hn:F.length≤300)(hb:∀ f∈F,f.its.length≤300∧∀ i∈f.its,ItOk i)(hm:Hid (endK G=none)):
  Calls Tryz.prog 70 #[.agg #[v,.map (some pm)]] w fun e w'=>e=.returned (.tuple #[])∧Below w.heap.size w w':=by
 have:=zlZ w B pm v F h hF hn hb;rw [hG.out] at this;refine this.mono ?_;rintro e w' ⟨b,⟨l',a,h2⟩|⟨_,a⟩⟩
 ·rw [hm.out] at a;cases a
 ·exact⟨a,b⟩
theorem zws(F:List Fn)(k:Key)(h:0<F.length):0<(addK F k).length:=by
 unfold addK;split
 ·simp
 ·split
  ·exact h
  ·simp
theorem zwt(K:List Key)(F:List Fn)(h:0<F.length):0<(K.foldl addK F).length:=by
 induction K generalizing F with
 | nil=>exact h
 | cons k r ih=>exact ih _ (zws F k h)
theorem zg3(k:Key)(r:List Key)(hs:k.sort=0):0<((k :: r).foldl addK []).length:=by
 rw [List.foldl_cons,zct _ _ hs];exact zwt r _ (by simp)
theorem zpt{w w':World}{a b:Value}(hb:Below (w.alloc (.cells #[a,b] 83)).heap.size (w.alloc (.cells #[a,b] 83)) w'):
  w'.cell? ⟨w.heap.size,0,none⟩=some a∧w'.cell? ⟨w.heap.size,1,none⟩=some b∧w'.frozen? ⟨w.heap.size,0,none⟩=false∧w'.frozen? ⟨w.heap.size,1,none⟩=false:=by
 have c:w'.heap[w.heap.size]?=some (.cells #[a,b] 83 (0,0)):=(hb.block _ (by simp)).trans (heap_alloc_new w _);exact⟨by rw [cell_of_row w' _ 0 _ _ _ c];rfl,by rw [cell_of_row w' _ 1 _ _ _ c];rfl,frozen_of_row w' _ 0 _ _ c,frozen_of_row w' _ 1 _ _ c⟩
theorem zqS(s:ByteArray)(k:Key)(r:List Key)(h:Sts s (k :: r))(hs:k.sort=0)(ht:zaP [] (k :: r)=none)(G:List Fn)(hG:(k :: r).foldl addK []=G)(l:Int)(hm:zc9 (G.map Fn.name) G=some l):zbM s (4,l):=by
 intro w J;have A:LibW (w.alloc Z33):=J.below ((Below.refl _ _).alloc (Nat.le_refl _) _);have d:=zcD s (w.alloc Z33) h.h4 h.h3;have a:=h.begins hs (w.alloc Z33) A;have C:Hid (zaP [] (k :: r)=none):=ht;have B:Hid ((k :: r).foldl addK []=G):=hG;have E:Hid (zc9 (G.map Fn.name) G=some l):=hm;have x:0<G.length:=by rw [←hG];exact zg3 k r hs
 clear h hs ht hG hm;generalize k :: r=K at a C B;go_enter Tryz.func44,Tryz.ntmps44;go_wp2_with(first
  | (go_at_call 65;refine d.mono ?_;rintro e w1 ⟨rfl,f⟩;subst f)
  | (go_at_call 66;refine a.mono ?_;rintro e L ⟨b,v,i,t,rfl,c,I,D,z,j⟩)
  | (go_at_call 67;refine(zh2 L _ v i t c D j).mono ?_;rintro e w3 ⟨rfl,f⟩;have H:=f.symm;subst H)
  | (go_at_call 68;refine(znH _ _ v i t K c I D z j C G B x).mono ?_;rintro e w4 ⟨g,pm,ao,n,cap,F,rfl,m,p,o,u,q⟩)
  | (go_at_call 69;refine(zA9 (m.alloc _) p o u q l E).mono ?_;rintro e w5 ⟨rfl,y⟩))
 exact⟨rfl,((zaW _ _ b).trans (g.mono (zaW _ _ b).size)).trans ((zaW _ _ y).mono ((zaW _ _ b).trans (g.mono (zaW _ _ b).size)).size),.inr ⟨by simp,rfl⟩⟩
theorem ztw(s:ByteArray)(k:Key)(r:List Key)(h:Sts s (k :: r))(hs:k.sort=0)(ht:zaP [] (k :: r)=none)(G:List Fn)(hG:(k :: r).foldl addK []=G)(hm:zc9 (G.map Fn.name) G=none)(l:Int)(he:endK G=some l):zbM s (5,l):=by
 intro w M;have B:LibW (w.alloc Z33):=M.below ((Below.refl _ _).alloc (Nat.le_refl _) _);have g:=zcD s (w.alloc Z33) h.h4 h.h3;have a:=h.begins hs (w.alloc Z33) B;have D:Hid (zaP [] (k :: r)=none):=ht;have C:Hid ((k :: r).foldl addK []=G):=hG;have I:Hid (zc9 (G.map Fn.name) G=none):=hm;have H:Hid (endK G=some l):=he;have y:0<G.length:=by rw [←hG];exact zg3 k r hs
 clear h hs ht hG hm he;generalize k :: r=K at a D C;go_enter Tryz.func44,Tryz.ntmps44;go_wp2_with(first
  | (go_at_call 65;refine g.mono ?_;rintro e w1 ⟨rfl,j⟩;subst j)
  | (go_at_call 66;refine a.mono ?_;rintro e N ⟨b,v,i,t,rfl,d,L,E,A,x⟩)
  | (go_at_call 67;refine(zh2 N _ v i t d E x).mono ?_;rintro e w3 ⟨rfl,j⟩;have J:=j.symm;subst J)
  | (go_at_call 68;refine(znH _ _ v i t K d L E A x D G C y).mono ?_;rintro e w4 ⟨u,pm,ao,n,cap,F,rfl,f,o,m,q,p⟩)
  | (go_at_call 69;refine(zxS (f.alloc _) o m q p I).mono ?_;rintro e w5 ⟨rfl,c⟩;obtain⟨t0,t1,_,_⟩:=zpt c)
  | (go_at_call 70;refine(zAa ((f.alloc _).below c) o m q p l H).mono ?_;rintro e w6 ⟨rfl,z⟩))
 exact⟨rfl,((zaW _ _ b).trans (u.mono (zaW _ _ b).size)).trans ((zaW _ _ (c.trans (z.mono c.size))).mono ((zaW _ _ b).trans (u.mono (zaW _ _ b).size)).size),.inr ⟨by simp,rfl⟩⟩
theorem zjX(s:ByteArray)(k:Key)(r:List Key)(h:Sts s (k :: r))(hs:k.sort=0)(ht:zaP [] (k :: r)=none)(G:List Fn)(hG:(k :: r).foldl addK []=G)(hm:zc9 (G.map Fn.name) G=none)(he:endK G=none)(w:World)(hw:LibW w):
  Calls Tryz.prog 44 #[.string s] w fun e w'=>Below w.heap.size w w'∧∃ pm ao n cap F,e=.returned (.agg #[.slice ao n cap,.map (some pm)])∧PIn w.heap.size w' pm (.slice ao n cap) F∧Hid (F.map FnM.fn=G)∧0<F.length∧F.length≤300∧(∀ f∈F,f.its.length≤300∧∀ i∈f.its,ItOk i):=by
 have J:LibW (w.alloc Z33):=hw.below ((Below.refl _ _).alloc (Nat.le_refl _) _);have y:=zcD s (w.alloc Z33) h.h4 h.h3;have a:=h.begins hs (w.alloc Z33) J;have M:Hid (zaP [] (k :: r)=none):=ht;have L:Hid ((k :: r).foldl addK []=G):=hG;have R:Hid (zc9 (G.map Fn.name) G=none):=hm;have Q:Hid (endK G=none):=he;have D:0<G.length:=by rw [←hG];exact zg3 k r hs
 clear h hs ht hG hm he;generalize k :: r=K at a M L;go_enter Tryz.func44,Tryz.ntmps44;go_wp2_with(first
  | (go_at_call 65;refine y.mono ?_;rintro e w1 ⟨rfl,z⟩;subst z)
  | (go_at_call 66;refine a.mono ?_;rintro e P ⟨c,v,i,t,rfl,l,T,N,I,B⟩)
  | (go_at_call 67;refine(zh2 P _ v i t l N B).mono ?_;rintro e w3 ⟨rfl,z⟩;have S:=z.symm;subst S)
  | (go_at_call 68;refine(znH _ _ v i t K l T N I B M G L D).mono ?_;rintro e w4 ⟨A,pm,ao,n,cap,F,rfl,g,o,m,x,q⟩)
  | (go_at_call 69;refine(zxS (g.alloc _) o m x q R).mono ?_;rintro e w5 ⟨rfl,j⟩;obtain⟨t0,t1,_,_⟩:=zpt j)
  | (go_at_call 70;refine(zyF ((g.alloc _).below j) o m x q Q).mono ?_;rintro e C ⟨rfl,E⟩;have d:=j.trans (E.mono j.size);have H:=zaW _ _ d;have O:=(c.trans (A.mono c.size)).trans (H.mono (c.trans (A.mono c.size)).size);obtain⟨s0,s1,_,_⟩:=zpt d;obtain⟨X,Y,f0,f1⟩:=zpt O))
 have V:=World.cell?_setCell_same (C.setCell ⟨w.heap.size,0,none⟩ (.slice ao n cap)) ⟨w.heap.size,1,none⟩ (.map (some pm)) (u:=.map none) (by rw [World.cell?_setCell_other];exact Y;simp);have W:((C.setCell ⟨w.heap.size,0,none⟩ (.slice ao n cap)).setCell ⟨w.heap.size,1,none⟩ (.map (some pm))).cell? ⟨w.heap.size,0,none⟩=some (.slice ao n cap):=by
  rw [World.cell?_setCell_other]
  ·exact World.cell?_setCell_same C _ _ X
  ·simp
 refine bodyPost_ret (v:=.agg #[.slice ao n cap,.map (some pm)]) (by simp [results,Tryz.results44,go_sem,V,W]) rfl ⟨?_,pm,ao,n,cap,F,rfl,?_,o,m,x,q⟩
 ·exact((zaW _ _ O).setCell (p:=⟨w.heap.size,0,none⟩) (Nat.le_refl _) _).setCell (p:=⟨w.heap.size,1,none⟩) (Nat.le_refl _) _
 ·have hw4:(w.alloc Z33).heap.size≤P.heap.size:=c.size;have hz3:(w.alloc Z33).heap.size=w.heap.size+1:=by simp
  have U:=((g.alloc (.cells #[.slice ao n cap,.map (some pm)] 83)).below d)
  exact(U.of_blocks (w':=((C.setCell ⟨w.heap.size,0,none⟩ (.slice ao n cap)).setCell ⟨w.heap.size,1,none⟩ (.map (some pm)))) (fun b hb _=>by rw [Below.heap_setCell _ _ _ _ (by show ¬b=w.heap.size;omega),Below.heap_setCell _ _ _ _ (by show ¬b=w.heap.size;omega)])).mono (by omega)
theorem zwu(s:ByteArray)(k:Key)(r:List Key)(h:Sts s (k :: r))(hs:k.sort=0)(ht:zaP [] (k :: r)=none)(G:List Fn)(hG:(k :: r).foldl addK []=G)(hm:zc9 (G.map Fn.name) G=none)(he:endK G=none):zbM s (0,0):=by
 intro w b;refine(zjX s k r h hs ht G hG hm he w b).mono ?_;rintro e w' ⟨a,pm,ao,n,cap,F,rfl,_⟩;exact⟨a,.inl ⟨rfl,_,rfl⟩⟩
theorem ziy(s:ByteArray)(hs:s.size≤9223372036854775807):zbM s (zcm s):=by
 unfold zcm;by_cases h:4000<s.size∨300<(lines s).length
 ·rw [if_pos h];exact ztc s hs h
 ·rw [if_neg h];have e:s.size≤4000:=by omega
  have d:(lines s).length≤300:=by omega
  by_cases a:∀ x∈lines s,(say x).ok=true
  ·rw [zeG _ a 0,zeF _ a];have S:Sts s (zaU (lines s) (lines s).length):=⟨e,d,a,rfl⟩
   generalize zaU (lines s) (lines s).length=K at S;cases K with
   | nil=>exact zqE s S
   | cons k r =>
    unfold sayK;dsimp only;by_cases b:k.sort=0
    ·rw [if_pos b];cases ht:zaP [] (k :: r) with
     | some l=>exact znI s k r S b l ht
     | none =>
      generalize c:(k :: r).foldl addK []=G;cases hm:zc9 (G.map Fn.name) G with
      | some l=>exact zqS s k r S b ht G c l hm
      | none =>
       cases he:endK G with
       | some l=>exact ztw s k r S b ht G c hm l he
       | none=>exact zwu s k r S b ht G c hm he
    ·rw [if_neg b];exact znG s k r S b
  ·exact zwf s e d a
end
end Go.Proofs.YtfpgjkbjbbgciaaGreatDoor
