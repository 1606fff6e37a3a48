import Derived.Test.YtfpgjkbjbbgciaaGreatDoorMj18
import Derived.Test.YtfpgjkbjbbgciaaGreatDoorMj19
import Derived.Test.YtfpgjkbjbbgciaaGreatDoorMj21
import Derived.Test.YtfpgjkbjbbgciaaGreatDoorMj22
set_option maxRecDepth 100000
set_option maxHeartbeats 8000000
namespace Go.Proofs.YtfpgjkbjbbgciaaGreatDoor
section
open Go.RowKit Sp
theorem PIn.fns{B:Nat}{w:World}{pm:Nat}{v:Value}{F:List FnM}(h:PIn B w pm v F)(hF:0<F.length):
  ∃ fg cap,v=.slice (some ⟨fg,0,none⟩) F.length cap∧fg<w.heap.size∧F.length≤cap∧∀ k (hk:k<F.length),
   w.cell? ⟨fg,k*4,none⟩=some (.string F[k].name)∧w.cell? ⟨fg,k*4+1,none⟩=some (.int .i64 F[k].line)∧w.cell? ⟨fg,k*4+2,none⟩=some F[k].bv∧w.cell? ⟨fg,k*4+3,none⟩=some (.map (some F[k].m)):=by
 have a:=h.row;obtain⟨fg,cap,f,_,d⟩:=a.form hF;subst f;have b:F.length≤cap:=by
  rcases a.2 with ⟨e,_⟩|⟨g',cap',cur,e,_,_,hnc,_⟩
  ·simp at e
  ·simp at e;omega
 refine⟨fg,cap,rfl,d,b,fun k hk=>?_⟩;have c:∀ j,j<4→w.cell? ⟨fg,k*4+j,none⟩=F[k].cells[j]?:=fun j hj=>by
  rw [World.ownsRow.cellAt a (k*4+j) (by omega),zjB F k hk j hj]
 exact⟨c 0 (by omega),c 1 (by omega),c 2 (by omega),c 3 (by omega)⟩
def zyt(w:World)(F:List Fn):Ending→World→Prop:=fun e w' =>
 qB w w'∧((∃ l,endK F=some l∧e=zak 5 l)∨(endK F=none∧e=.returned (.tuple #[])))
theorem zt0(F:List Fn)(k:Nat)(h:k<F.length):endK (F.drop k)=if zq3 F[k].body=true then endK (F.drop (k+1)) else some F[k].line:=by
 rw [List.drop_eq_getElem_cons h];rfl
theorem zoT{wr w2:World}{a b c d:Value}(hb:Below (wr.alloc (.cells #[a,b,c,d] 131)).heap.size (wr.alloc (.cells #[a,b,c,d] 131)) w2):
  w2.cell? ⟨wr.heap.size,1,none⟩=some b∧w2.cell? ⟨wr.heap.size,2,none⟩=some c∧w2.cell? ⟨wr.heap.size,3,none⟩=some d:=by
 have h:=World.cell?_alloc_new (w:=wr) #[a,b,c,d] 131;refine⟨?_,?_,?_⟩
 ·rw [hb.cell (by simp)];exact h 1
 ·rw [hb.cell (by simp)];exact h 2
 ·rw [hb.cell (by simp)];exact h 3
theorem zqP(b:List Key)(k:Key):zq3 (b++[k])=ends k.word:=by simp [zq3]
def ze0(its:List It):Bool:=match its.getLast? with|none=>false|some i=>ends i.word
theorem zgl(I:List It)(i:It):ze0 (I++[i])=ends i.word:=by simp [ze0]
def zt1(its:List It):Bool:=(zc7 its).all (fun p=>!decide (p.2=(zaq its).length))&&ze0 (zaq its)
theorem znH(n:Nat)(l:List It):∀ p∈zb2 n l,p.2≤n+(zaq l).length:=by
 induction l generalizing n with
 | nil=>simp [zb2]
 | cons i l ih =>
  intro p a;rw [zcy] at a;by_cases h:i.sort=1
  ·rw [if_pos h] at a;rw [show zaq (i :: l)=zaq l by simp [zaq,h]];simp only [List.mem_cons] at a;rcases a with rfl|a
   ·show n≤_;omega
   ·exact ih n p a
  ·rw [if_neg h] at a;rw [show zaq (i :: l)=i :: zaq l by simp [zaq,h]];have:=ih (n+1) p a;simp;omega
theorem zqQ:ends ⟨#[]⟩=false:=by kernel_rfl
theorem zwg(its:List It)(hl:∀ i∈its,ItOk i):zt1 its=zq3 (its.map It.key):=by
 rcases List.eq_nil_or_concat its with rfl|⟨I,i,a⟩
 ·rfl
 ·rw [List.concat_eq_append] at a;subst a;rw [List.map_append,show [i].map It.key=[i.key] from rfl,zqP];unfold zt1;by_cases h:i.sort=1
  ·rw [show i.key.word=⟨#[]⟩ from(hl i (by simp)).2 h,zqQ,zj9 _ _ h,zl8 _ _ h];simp
  ·rw [zjA _ _ h,zl7 _ _ h];have:(zc7 I).all (fun p=>!decide (p.2=(zaq I++[i]).length))=true:=by
    rw [List.all_eq_true];intro p b;have:=znH 0 I p b;simp;omega
   rw [this,zgl];simp [It.key]
theorem zt2(E:List (ByteArray × Nat))(x:ByteArray)(p:Nat)(h:zcb E x=some p):∃ q∈E,q.2=p∧eqW q.1 x=true:=by
 induction E with
 | nil=>cases h
 | cons q r ih =>
  unfold zcb at h;by_cases e:eqW q.1 x=true
  ·rw [if_pos e] at h;simp only [Option.some.injEq] at h;exact⟨q,by simp,h,e⟩
  ·rw [if_neg e] at h;obtain⟨a,h1,b⟩:=ih h;exact⟨a,by simp [h1],b⟩
theorem zqR(E:List (ByteArray × Nat))(hp:E.Pairwise (fun a b=>eqW a.1 b.1=false))(x:ByteArray)(p:Nat)(h:zcb E x=some p)(q:ByteArray × Nat)(hq:q∈E)(hx:eqW q.1 x=true):q.2=p:=by
 induction E with
 | nil=>cases hq
 | cons a r ih =>
  obtain⟨f,g⟩:=List.pairwise_cons.1 hp;unfold zcb at h;simp only [List.mem_cons] at hq;by_cases e:eqW a.1 x=true
  ·rw [if_pos e] at h;simp only [Option.some.injEq] at h;rcases hq with rfl|hq
   ·exact h
   ·have:=f q hq;have d:=(zex _ _).1 e;have i:=(zex _ _).1 hx;have:eqW a.1 q.1=true:=(zex _ _).2 (d.trans i.symm)
    simp_all
  ·rw [if_neg e] at h;rcases hq with rfl|hq
   ·exact absurd hx e
   ·exact ih g h hq
theorem znI(E:List (ByteArray × Nat))(n:Nat)(h:∀ p∈E,¬p.2=n):E.all (fun p=>!decide (p.2=n))=true:=by
 rw [List.all_eq_true];intro p a;simpa using h p a
theorem znJ(E:List (ByteArray × Nat))(n:Nat)(p:ByteArray × Nat)(hp:p∈E)(h:p.2=n):E.all (fun p=>!decide (p.2=n))=false:=by
 rw [List.all_eq_false];exact⟨p,hp,by simpa using h⟩
theorem zn9(L:List Said)(i:Nat)(h:i<L.length)(h2:L[i].kind=102):zcD L i=i:=by rw [zcD,dif_pos h,if_pos h2]
theorem zqD(L:List Said)(i:Nat)(h:i<L.length)(h2:¬L[i].kind=102):zcD L i=zcD L (i+1):=by rw [zcD,dif_pos h,if_neg h2]
theorem zgF(L:List Said)(i p:Nat)(hp:p<L.length)(h2:L[p].kind=102)(hip:i≤p)(hz:∀ j (h:j<L.length),i≤j→j<p→L[j].kind=0):zcD L i=p:=by
 by_cases e:i=p
 ·subst e;exact zn9 L i hp h2
 ·have h0:=hz i (by omega) (by omega) (by omega);rw [zqD L i (by omega) (by omega)];exact zgF L (i+1) p hp h2 (by omega) (fun j h ha hb=>hz j h (by omega) hb)
termination_by p-i
theorem zym(w:World)(lv iv:Value)(to:Int)(inp:List Int):RefM (w.alloc (.cells #[lv,.int .i64 to,.slice none 0 0,iv,.int .i64 0,.int .i64 0,.int .i64 0,.int .i64 0,.int .i64 0,.int .i64 0,.int .i64 0,.int .i64 0,.int .i64 0,.int .i64 0,.int .i64 0,.int .i64 0,.int .i64 0,.int .i64 0,.int .i64 0,.int .i64 0,.int .i64 0,.int .i64 0,.int .i64 0,.int .i64 0,.int .i64 0,.int .i64 0,.int .i64 0,.int .i64 0,.int .i64 0,.slice none 0 0,.int .i64 1,.int .i64 1,.int .i64 0,.int .i64 0] 99)) w.heap.size lv (.slice none 0 0) iv (.slice none 0 0) ⟨to,[],inp,0,fun _=>0,fun _=>0,[],1,1,0⟩:=by
 have h:=World.cell?_alloc_new (w:=w) #[lv,.int .i64 to,.slice none 0 0,iv,.int .i64 0,.int .i64 0,.int .i64 0,.int .i64 0,.int .i64 0,.int .i64 0,.int .i64 0,.int .i64 0,.int .i64 0,.int .i64 0,.int .i64 0,.int .i64 0,.int .i64 0,.int .i64 0,.int .i64 0,.int .i64 0,.int .i64 0,.int .i64 0,.int .i64 0,.int .i64 0,.int .i64 0,.int .i64 0,.int .i64 0,.int .i64 0,.int .i64 0,.slice none 0 0,.int .i64 1,.int .i64 1,.int .i64 0,.int .i64 0] 99;refine⟨h 0,h 1,h 2,h 3,h 4,fun i hi=>?_,fun i hi=>?_,h 29,h 30,h 31,h 32,h 33,fun o=>zkv w _ _ o⟩
 ·have:i=0∨i=1∨i=2∨i=3∨i=4∨i=5∨i=6∨i=7:=by omega
  rcases this with rfl|rfl|rfl|rfl|rfl|rfl|rfl|rfl
  ·exact h 5
  ·exact h 6
  ·exact h 7
  ·exact h 8
  ·exact h 9
  ·exact h 10
  ·exact h 11
  ·exact h 12
 ·have:i=0∨i=1∨i=2∨i=3∨i=4∨i=5∨i=6∨i=7∨i=8∨i=9∨i=10∨i=11∨i=12∨i=13∨i=14∨i=15:=by omega
  rcases this with rfl|rfl|rfl|rfl|rfl|rfl|rfl|rfl|rfl|rfl|rfl|rfl|rfl|rfl|rfl|rfl
  ·exact h 13
  ·exact h 14
  ·exact h 15
  ·exact h 16
  ·exact h 17
  ·exact h 18
  ·exact h 19
  ·exact h 20
  ·exact h 21
  ·exact h 22
  ·exact h 23
  ·exact h 24
  ·exact h 25
  ·exact h 26
  ·exact h 27
  ·exact h 28
theorem zto(w:World)(g cap2 p icap:Nat)(ao:Option Addr)(L:List Said)(inp:List Int)(hL:LinesIn w g L)(hn:L.length≤300)(hp:p<L.length)(h2:L[p].kind=102)(hz:∀ j (h:j<L.length),j<p→L[j].kind=0)(to:Int)(hto:zad L (p+1)=to)(hiv:SlB w w.heap.size (.slice ao inp.length icap) inp):
  qC 54 #[.slice (some ⟨g,0,none⟩) L.length cap2,.slice ao inp.length icap] w fun e w'=>e=.returned (.pointer (some ⟨w.heap.size,0,none⟩))∧RefAt w' w.heap.size g cap2 L ⟨to,[],inp,0,fun _=>0,fun _=>0,[],1,1,0⟩ (.slice none 0 0) (.slice ao inp.length icap) (.slice none 0 0)∧qB w w':=by
 have i:∀ W,LinesIn W g L→qC 88 #[.slice (some ⟨g,0,none⟩) L.length cap2,.int .i64 ((p:Int)+1)] W fun e w'=>e=.returned (.int .i64 to)∧w'=W:=fun W hW=>by
  have:=zdn L g cap2 (p+1) W hW (by omega) (by omega);rw [hto] at this;simpa using this
 have hp0:(0:Int)≤(p:Int):=by omega
 have hp1:(p:Int)<(L.length:Int):=by omega
 go_enter Tryz.func54,Tryz.ntmps54;go_wp2
 go_loop [5] (fun t=>∃ j:Nat,j≤p∧t=.int .i64 (j:Int)) (fun t=>p-(intOf t).toNat)
 case atStart=>exact⟨0,by omega,rfl⟩
 case round =>
  obtain⟨j,hj,rfl⟩:=hrel;have a:j<L.length:=by omega
  have hc:=hL.kind j a;have d:=zdO (hL.wf j a);by_cases e:j=p
  ·subst e;have b:(L[j].kind != 102)=false:=by simp [h2]
   go_wp2_with(first|(go_at_call 88;refine(i _ hL).mono ?_;rintro e wx ⟨rfl,c⟩;have f:=c.symm;subst f))
   go_ret;have d:qB w (w.alloc (.cells #[.slice (some ⟨g,0,none⟩) L.length cap2,.int .i64 to,.slice none 0 0,.slice ao inp.length icap,.int .i64 0,.int .i64 0,.int .i64 0,.int .i64 0,.int .i64 0,.int .i64 0,.int .i64 0,.int .i64 0,.int .i64 0,.int .i64 0,.int .i64 0,.int .i64 0,.int .i64 0,.int .i64 0,.int .i64 0,.int .i64 0,.int .i64 0,.int .i64 0,.int .i64 0,.int .i64 0,.int .i64 0,.int .i64 0,.int .i64 0,.int .i64 0,.int .i64 0,.slice none 0 0,.int .i64 1,.int .i64 1,.int .i64 0,.int .i64 0] 99)):=(Below.refl _ _).alloc (Nat.le_refl _) _;exact⟨rfl,⟨zym w _ _ to inp,World.ownsRow_nil _ _ _ _,World.ownsRow_nil _ _ _ _,hiv.below d⟩,d⟩
  ·have h0:=hz j a (by omega);have b:(L[j].kind != 102)=true:=by simp [h0]
   go_wp2
   go_round
   case rel=>exact⟨j+1,by omega,by go_num⟩
   case measure=>simp [intOf];omega
end
section
open Go.RowKit Sp Go.WideMaps Go.Maps
theorem zt3{E:List (ByteArray × Nat)}(hpw:E.Pairwise (fun a b=>eqW a.1 b.1=false)){left:Lit→Bool}{x:ByteArray}{p n:Nat}(hf:zcb E x=some p)(hp:¬p=n)(h:∀ q∈E,left (.string q.1.data.toList)=false→¬q.2=n):
  ∀ q∈E,(left (.string q.1.data.toList)&&!(Lit.string q.1.data.toList).sameKey (.string x.data.toList))=false→¬q.2=n:=by
 intro q d c;rw [Bool.and_eq_false_iff] at c;rcases c with c|c
 ·exact h q d c
 ·have e:q.1.data.toList=x.data.toList:=by
   have:=WideAt.sameKey_eq (show(Lit.string q.1.data.toList).sameKey (.string x.data.toList)=true by simpa using c);simpa using this
  rw [zqR E hpw x p hf q d ((zex _ _).2 e)];exact hp
theorem zt4(w:World)(B m:Nat)(name:ByteArray)(line:Int)(bv:Value)(E:List (ByteArray × Nat))(its:List It)(hM:MapIs w m E)(hbo:w.ownsRow B 135 8 bv its.length (za5 its))(hn:its.length≤300):
  qC 105 #[.agg #[.string name,.int .i64 line,bv,.map (some m)]] w (qR w (.bool (E.all (fun p=>!decide (p.2=its.length))&&ze0 its))):=by
 obtain⟨D,g,hD,A,l,K⟩:=hM;have hlt:=g.lt;obtain⟨t,d,rfl⟩:=zb7 hbo;have hne:¬w.heap.size=m:=by omega
 have C:(w.alloc (.cells #[.string name,.int .i64 line,.slice t its.length d,.map (some m)] 131)).cell? ⟨w.heap.size,2,none⟩=some (.slice t its.length d):=World.cell?_alloc_new (w:=w) #[.string name,.int .i64 line,.slice t its.length d,.map (some m)] 131 2;have Z:qB w (w.alloc (.cells #[.string name,.int .i64 line,.slice t its.length d,.map (some m)] 131)):=(Below.refl _ _).alloc (Nat.le_refl _) _;have S:(w.alloc (.cells #[.string name,.int .i64 line,.slice t its.length d,.map (some m)] 131)).heap.size=w.heap.size+1:=by simp
 go_enter Tryz.func105,Tryz.ntmps105;go_wp2_with(first
  | (at_range;refine wpList_range_own _ rfl _ 81 rfl 9 3 lawS Tryz.under81 _ m E.length _ rfl (g.alloc _) ?_;intro w0 F o aa))
 rw [S] at F aa ⊢;generalize w.alloc (.cells #[.string name,.int .i64 line,.slice t its.length d,.map (some m)] 131)=W1 at C Z S o;have ah:w0.cell? ⟨w.heap.size,2,none⟩=some (.slice t its.length d):=(o.cell_far _ (by simp;omega) (by simp)).trans C;have af:qB w w0:=Z.trans (((Below.refl w.heap.size W1).grown o (by omega) (fun j hj=>by cases hj)))
 go_frame
 go_loopw [4] (fun _ wr=>∃(k:Lit→Bool) (V:Nat),wr.ranges Tryz.prog 9 (plainElem Tryz.prog 3) m (w.heap.size+1) E.length D k V∧w0.grownBy wr (some (w.heap.size+1))∧(∀ p∈E,k (.string p.1.data.toList)=false→¬p.2=its.length))
  (fun _ wr=>wr.rangeLeft m (w.heap.size+1))
 case atStart =>
  refine⟨_,_,F,⟨rfl,rfl,rfl,Nat.le_refl _,fun _ _ _=>rfl⟩,fun p L hl=>?_⟩;rw [A p.1,List.any_eq_false] at hl;have:=hl p.1 (List.mem_map_of_mem L);rw [(zex _ _).2 rfl] at this;simp at this
 case round =>
  obtain⟨k,V,s,h,r⟩:=hrel;have H:wr.cell? ⟨w.heap.size,2,none⟩=some (.slice t its.length d):=(h.cell_far _ (by simp;omega) (by simp)).trans ah;have f:qB w wr:=af.trans ((Below.refl w.heap.size w0).grown h (by omega) (fun j hj=>by cases hj;omega));go_wp2_with(first
   | (at_next;refine wpList_next_ranges _ rfl _ rfl 9 lawS (plainElem Tryz.prog 3) Value.string (Value.int .i64) (fun key kl hk=>by obtain⟨x,hx,_⟩:=string_of_keyOf Tryz.underlying9 hk;exact⟨x,hx⟩) (fun v y hv=>by obtain⟨c,rfl,_⟩:=plainElem_int_inv Tryz.underlying3 hv;exact⟨c,rfl⟩) m (w.heap.size+1) E.length _ _ _ rfl s ?_ ?_))
  ·intro _ N;have HA:Hid (E.all (fun p=>!decide (p.2=its.length))=true):=znI E _ (fun p L=>r p L (N _));clear N r s h A l K g hD;rcases List.eq_nil_or_concat its with rfl|⟨I,i,hI⟩
   ·simp only [List.length_nil] at H;go_wp2;go_ret;exact⟨by simp [ze0],f⟩
   ·rw [List.concat_eq_append] at hI;subst hI;obtain⟨bg,capb',Y,_,ag,M⟩:=zgD hbo (by simp);simp only [Value.slice.injEq,true_and] at Y;obtain⟨rfl,rfl⟩:=Y;have hs:=M I.length (by simp);have ad:(I++[i]).length=I.length+1:=by simp
    rw [ad] at H hn;simp only [List.getElem_append_right (Nat.le_refl _),Nat.sub_self,List.getElem_cons_zero] at hs;obtain⟨d0,d1,d2,d3,d4,d5,d6,d7⟩:=hs;have z:∀ j,wr.cell? ⟨bg,j,none⟩=w.cell? ⟨bg,j,none⟩:=fun j=>f.cell (p:=⟨bg,j,none⟩) ag;rw [←z] at d0 d1 d2 d3 d4 d5 d6 d7;have hwrap:IntKind.i64.wrap (I.length:Int)=(I.length:Int):=zcH _ (by omega) (by omega);have hf3:(0:Int)<(I.length:Int)+1:=by omega
    have hf4:(0:Int)≤(I.length:Int):=by omega
    have hf5:(I.length:Int)<(I.length:Int)+1:=by omega
    have G:=fun W=>zq4 i.sort i.line i.word i.a i.b i.c i.n i.nm W;have HL:Hid (ze0 (I++[i])=ends i.word):=zgl I i;clear z M hbo ad;go_wp2_with(first|(go_at_call 132;refine(G _).mono ?_;rintro e w2 ⟨rfl,ae⟩))
    go_ret;refine⟨?_,f.trans (ae.mono f.size)⟩;rw [HA.out,HL.out];simp
  ·intro x c kl yd yp w1 P Q hlk hv X u U J ab hen;obtain⟨x',ex,rfl,_⟩:=string_of_keyOf Tryz.underlying9 Q;cases ex;obtain⟨c',ec,ey,_⟩:=plainElem_int_inv Tryz.underlying3 hv;cases ec;have hh:=has_true_of_atKey X;rw [A x] at hh;obtain⟨p,L⟩:=zqq E x hh;have hc:c=(p:Int):=by
    have h1:=l x p (.lit (.int .i64 0)) L;rw [X] at h1;cases ey;simpa using h1
   subst hc;clear ab;have hb11:w1.cell? ⟨w.heap.size,2,none⟩=some (.slice t its.length d):=(J.cell_far _ (by simp;have:=f.size;have:=o.size;have:=h.size;omega) (by simp)).trans H;by_cases O:p=its.length
   ·have R:((p:Int) == (its.length:Int))=true:=by simp;omega
    obtain⟨q,hq,ac,_⟩:=zt2 E x p L;have HA:Hid (E.all (fun p=>!decide (p.2=its.length))=false):=znJ E _ q hq (ac.trans O);have T:qB w w1:=f.trans ((Below.refl w.heap.size wr).grown J f.size (fun j hj=>by cases hj;omega));clear r s u h A l K g hD X;go_wp2;go_ret;exact⟨by rw [HA.out];rfl,T⟩
   ·have R:((p:Int) == (its.length:Int))=false:=by simp;omega
    go_wp2;go_roundw
    case rel=>exact⟨_,P,u,h.andThen J (fun j hj=>by cases hj;exact Or.inr rfl),zt3 K L O r⟩
    case measure=>rw [u.left_eq,s.left_eq];exact U
theorem zlV(w:World)(B pm:Nat)(v:Value)(F:List FnM)(h:PIn B w pm v F)(hF:0<F.length)(hn:F.length≤300)(hb:∀ f∈F,f.its.length≤300∧∀ i∈f.its,ItOk i):
  qC 70 #[.agg #[v,.map (some pm)]] w (zyt w (F.map FnM.fn)):=by
 obtain⟨G,cap,rfl,H,hcap,o⟩:=h.fns hF;go_enter Tryz.func70,Tryz.ntmps70;go_wp2
 go_loopw [7] (fun ti wr=>∃(k:Nat),k≤F.length∧ti=.int .i64 (k:Int)∧qB w wr∧endK (F.map FnM.fn)=endK ((F.map FnM.fn).drop k)) (fun ti _=>F.length-(intOf ti).toNat)
 case atStart=>exact⟨0,by omega,rfl,(Below.refl _ _).alloc (Nat.le_refl _) _,rfl⟩
 case round =>
  obtain⟨k,hk,rfl,c,L⟩:=hrel;have HE:Hid (endK (F.map FnM.fn)=endK ((F.map FnM.fn).drop k)):=L;clear L;have hszr:=c.size;by_cases u:k<F.length
  ·obtain⟨I,C,K,E⟩:=o k u;have b:=List.getElem_mem u;have x:Hid (endK (F.map FnM.fn)=if zt1 F[k].its=true then endK ((F.map FnM.fn).drop (k+1)) else some F[k].line):=by
    unfold Hid;rw [HE.out,zt0 _ k (by simpa using u),zwg _ (hb F[k] b).2];simp [FnM.fn]
   have l:=(h.bodies F[k] b)
   have n:=(h.labels F[k] b)
   have t:=Nat.le_trans (zed F[k].its) (hb F[k] b).1;generalize F[k]=f at I C K E b x l t n;have z:∀ j,wr.cell? ⟨G,j,none⟩=w.cell? ⟨G,j,none⟩:=fun j=>c.cell (p:=⟨G,j,none⟩) H;rw [←z] at I C K E;clear z;have hk4:k*4≤1200:=by omega
   obtain⟨q,line,its,bv,m⟩:=f;simp only at I C K E l t x n;have r:=zaj (w':=wr) l (fun g hg=>c.block g (l.lt g hg).2);have s:=n.below c n.lt;obtain⟨O,y,rfl⟩:=zb7 l;have a:=zt4 (wr.alloc (.cells #[.string q,.int .i64 line,.slice O (zaq its).length y,.map (some m)] 131)) B m q line _ _ _ (s.alloc _) (r.alloc _) t;have M:Hid (((zc7 its).all (fun p=>!decide (p.2=(zaq its).length))&&ze0 (zaq its))=zt1 its):=rfl;rw [M.out] at a;clear l r n s M;cases hend:zt1 its with
   | false =>
    rw [hend] at x a;go_wp2_with(first|(go_at_call 105;refine a.mono ?_;rintro e P ⟨rfl,d⟩;have J:=(zoT d).1)|(go_at_call 79;refine(za1 _ _ _).mono ?_;rintro e wx ⟨rfl,D⟩;subst D))
    exact⟨rfl,c.trans ((zbp _ _ d).mono (by omega)),.inl ⟨_,x.out,rfl⟩⟩
   | true =>
    rw [hend] at x a;go_wp2_with(first|(go_at_call 105;refine a.mono ?_;rintro e P ⟨rfl,d⟩;have J:=(zoT d).1))
    have A:=c.trans ((zbp _ _ d).mono (by omega));clear d;go_roundw
    case rel=>exact⟨k+1,by omega,by go_num,A,x.out⟩
    case measure=>simp [intOf];omega
  ·have N:Hid (k=F.length):=by unfold Hid;omega
   go_wp2
   go_end0
   refine⟨c,.inr ⟨?_,rfl⟩⟩;rw [HE.out,N.out,List.drop_of_length_le (by simp)];rfl
end
section
open Go.RowKit Sp
theorem zq8(A:List ByteArray)(n:Nat):(zbl A n).length≤n:=by
 induction n with
 | zero=>simp [zbl]
 | succ n ih =>
  unfold zbl;rw [List.length_append];split
  ·simp;omega
  ·split <;> simp <;> omega
theorem zq9(A:List ByteArray)(n:Nat)(k:Key)(h:k∈zbl A n):∃ x∈A,∃ l,k=keyQ (say x) l:=by
 induction n with
 | zero=>simp [zbl] at h
 | succ n ih =>
  unfold zbl at h;rw [List.mem_append] at h;rcases h with h|h
  ·exact ih h
  ·split at h
   ·simp at h
   ·rename_i x hx;split at h
    ·simp at h
    ·simp at h;exact⟨x,List.mem_of_getElem? hx,_,h⟩
theorem ziq(l:List ByteArray)(n k:Nat)(h:∀ y∈l,y.size≤n):(l[k]?.getD ⟨#[]⟩).size≤n:=by
 cases hk:l[k]? with
 | none=>exact Nat.zero_le _
 | some y=>exact h y (List.mem_of_getElem? hk)
theorem zqA(sh:List UInt8)(r:List ByteArray)(n k:Nat)(h:∀ y∈r,y.size≤n):(zql sh r k).size≤n:=by
 induction k with
 | zero=>exact Nat.zero_le _
 | succ k ih =>
  unfold zql;split
  ·exact ziq r n k h
  ·exact ih
theorem zlD(x:ByteArray):∀ y∈(say x).kept,y.size≤x.size:=by
 unfold say;split
 ·have c:∀ y∈words x,y.size≤x.size:=fun y b=>(zf1 x y b).2;generalize words x=l at c;unfold sayW;split
  ·simp
  ·rename_i a r;split
   ·exact c
   ·split
    ·intro y b;simp at b;subst b;rw [ByteArray.size_extract];have:=c a (by simp);omega
    ·exact c
 ·simp
theorem zqB(x:ByteArray):(zdP (say x)).size≤x.size:=by
 have h:=zlD x;unfold zdP;split
 ·exact ziq _ _ 1 h
 ·split
  ·exact ziq _ _ 0 h
  ·exact zqA _ _ _ _ (fun y hy=>h y (List.mem_of_mem_tail hy))
theorem zye(K:List Key):¬(sayK K).1=1:=by
 unfold sayK;cases K with
 | nil=>decide
 | cons k r =>
  dsimp only;split
  ·unfold ze8;split
   ·exact(by decide:¬(3:Int)=1)
   ·split
    ·exact(by decide:¬(4:Int)=1)
    ·split
     ·exact(by decide:¬(5:Int)=1)
     ·exact(by decide:¬(0:Int)=1)
  ·exact(by decide:¬(2:Int)=1)
theorem zfl(A:List ByteArray)(h:∀ x∈A,(say x).ok=true)(i:Nat):zbO A i=zbt (A.map say) 0:=by
 by_cases a:i<A.length
 ·rw [zfh A i a (h _ (List.getElem_mem a))];exact zfl A h (i+1)
 ·exact zga A i a
termination_by A.length-i
abbrev Z33:Obj:=.cells #[.slice none 0 0,.map none] 83
theorem zyf(s:ByteArray)(w:World)(hw:LibW w)(h4:s.size≤4000)(h3:(lines s).length≤300)(hno:¬∀ x∈lines s,(say x).ok=true):
  qC 66 #[.string s] w fun e w'=>qB w w'∧¬zbO (lines s) 0=(0,0)∧e=zak (zbO (lines s) 0).1 (zbO (lines s) 0).2:=by
 refine(zoG s w hw h4 h3).mono ?_;rintro e w' ⟨a,⟨i,h1,b⟩|⟨_,h,_⟩⟩
 ·rw [h1];exact⟨a,by simp,b⟩
 ·exact absurd h hno
theorem zvX(s:ByteArray)(w:World)(hw:LibW w)(h4:s.size≤4000)(h3:(lines s).length≤300)(hok:∀ x∈lines s,(say x).ok=true):
  qC 66 #[.string s] w fun e w'=>qB w w'∧∃ v its,e=.returned v∧w'.ownsRow w.heap.size 135 8 v its.length (za5 its)∧its.map It.key=zbl (lines s) (lines s).length∧its.length≤300∧∀ i∈its,ItOk i:=by
 refine(zoG s w hw h4 h3).mono ?_;rintro e w' ⟨j,⟨i,h1,h2⟩|⟨_,h,v,its,d,g,b⟩⟩
 ·exfalso;have h:=zfl (lines s) hok 0;rw [h1,zfk _ hok] at h;have:=zye (zbl (lines s) (lines s).length);rw [←h] at this;exact this rfl
 ·refine⟨j,v,its,d,g,b,?_,?_⟩
  ·have:=zq8 (lines s) (lines s).length;rw [←b] at this;simp at this;omega
  ·intro i m;have f:i.key∈zbl (lines s) (lines s).length:=by rw [←b];exact List.mem_map_of_mem m
   obtain⟨x,k,l,c⟩:=zq9 _ _ _ f;have e1:i.nm=zdP (say x):=by have:=congrArg Key.nm c;exact this
   refine⟨?_,fun hs=>?_⟩
   ·rw [e1];have:=zqB x;have:=zew s x k;omega
   ·have e2:i.word=zeH (say x):=by have:=congrArg Key.word c;exact this
    have a:i.sort=zf6 (say x):=by have:=congrArg Key.sort c;exact this
    rw [e2];rw [hs] at a;unfold zeH;rw [if_neg];intro d;unfold zf6 at a;rw [d] at a;simp at a
theorem ztj(s:ByteArray)(hs:s.size≤9223372036854775807)(h:4000<s.size∨300<(lines s).length):zbT s (6,0):=by
 intro w hw;have a:=zsP s (w.alloc Z33) hs h;clear h;go_enter Tryz.func44,Tryz.ntmps44;go_wp2_with(first|(go_at_call 65;refine a.mono ?_;rintro e w1 ⟨rfl,b⟩;subst b))
 exact⟨rfl,(Below.refl _ _).alloc (Nat.le_refl _) _,.inr ⟨by simp,rfl⟩⟩
theorem zvY(s:ByteArray)(h4:s.size≤4000)(h3:(lines s).length≤300)(hno:¬∀ x∈lines s,(say x).ok=true):zbT s (zbO (lines s) 0):=by
 intro w g;have f:LibW (w.alloc Z33):=g.below ((Below.refl _ _).alloc (Nat.le_refl _) _);have b:=zde s (w.alloc Z33) h4 h3;have a:=zyf s (w.alloc Z33) f h4 h3 hno;clear hno;generalize zbO (lines s) 0=R at a ⊢;go_enter Tryz.func44,Tryz.ntmps44;go_wp2_with(first
  | (go_at_call 65;refine b.mono ?_;rintro e w1 ⟨rfl,d⟩;subst d)
  | (go_at_call 66;refine a.mono ?_;rintro e w2 ⟨c,h,rfl⟩))
 exact⟨rfl,zbp _ _ c,.inr ⟨h,rfl⟩⟩
structure Sts(s:ByteArray)(K:List Key):Prop where
 h4:s.size≤4000
 h3:(lines s).length≤300
 ok:∀ x∈lines s,(say x).ok=true
 keys:zbl (lines s) (lines s).length=K
theorem Sts.call{s:ByteArray}{K:List Key}(h:Sts s K)(w:World)(hw:LibW w):
  qC 66 #[.string s] w fun e w'=>qB w w'∧∃ v its,e=.returned v∧w'.ownsRow w.heap.size 135 8 v its.length (za5 its)∧its.map It.key=K∧its.length≤300∧∀ i∈its,ItOk i:=by
 have:=zvX s w hw h.h4 h.h3 h.ok;rw [h.keys] at this;exact this
theorem zoJ{its:List It}{k:Key}{r:List Key}(h:its.map It.key=k :: r):∃ i t,its=i :: t∧i.key=k:=by
 cases its with
 | nil=>simp at h
 | cons i t=>simp at h;exact⟨i,t,rfl,h.1⟩
theorem zqC(s:ByteArray)(h:Sts s []):zbT s (2,0):=by
 intro w l;have i:LibW (w.alloc Z33):=l.below ((Below.refl _ _).alloc (Nat.le_refl _) _);have c:=zde s (w.alloc Z33) h.h4 h.h3;have a:=h.call (w.alloc Z33) i;clear h;go_enter Tryz.func44,Tryz.ntmps44;go_wp2_with(first
  | (go_at_call 65;refine c.mono ?_;rintro e w1 ⟨rfl,b⟩;subst b)
  | (go_at_call 66;refine a.mono ?_;rintro e j ⟨f,v,g,rfl,d,k,hl,hnm⟩;obtain rfl:g=[]:=by simpa using k)
  | (go_at_call 67;refine(zn3 j _ v d).mono ?_;rintro e w3 ⟨rfl,b⟩;subst b))
 exact⟨rfl,zbp _ _ f,.inr ⟨by simp,rfl⟩⟩
theorem zn6(s:ByteArray)(k:Key)(r:List Key)(h:Sts s (k :: r))(hs:¬k.sort=0):zbT s (2,k.line):=by
 intro w p;have l:LibW (w.alloc Z33):=p.below ((Below.refl _ _).alloc (Nat.le_refl _) _);have c:=zde s (w.alloc Z33) h.h4 h.h3;have a:=(h.call (w.alloc Z33) l).mono (R':=fun e f=>Below (w.alloc Z33).heap.size (w.alloc Z33) f∧∃ v i t,e=.returned v∧f.ownsRow (w.alloc Z33).heap.size 135 8 v (i :: t).length (za5 (i :: t))∧t.length≤4096∧¬i.sort=0∧i.line=k.line) (by
  rintro e f ⟨o,v,its,m,n,h3,h4,h5⟩;obtain⟨i,t,rfl,rfl⟩:=zoJ h3;exact⟨o,v,i,t,m,n,by simp at h4;omega,hs,rfl⟩)
 clear h hs;go_enter Tryz.func44,Tryz.ntmps44;go_wp2_with(first
  | (go_at_call 65;refine c.mono ?_;rintro e w1 ⟨rfl,b⟩;subst b)
  | (go_at_call 66;refine a.mono ?_;rintro e q ⟨j,v,i,t,rfl,d,u,g,hline⟩)
  | (go_at_call 67;refine(zq5 q _ v i t d u g).mono ?_;rintro e w3 ⟨rfl,b⟩;subst b))
 exact⟨rfl,zbp _ _ j,.inr ⟨by simp,by simp⟩⟩
theorem Sts.begins{s:ByteArray}{k:Key}{r:List Key}(h:Sts s (k :: r))(hs:k.sort=0)(w:World)(hw:LibW w):
  qC 66 #[.string s] w fun e w'=>qB w w'∧∃ v i t,e=.returned v∧w'.ownsRow w.heap.size 135 8 v (i :: t).length (za5 (i :: t))∧(i :: t).map It.key=k :: r∧(i :: t).length≤300∧(∀ j∈i :: t,ItOk j)∧Hid (i.sort=0):=by
 refine(h.call w hw).mono ?_;rintro e w' ⟨g,v,its,c,d,a,b,f⟩;obtain⟨i,t,rfl,rfl⟩:=zoJ a;exact⟨g,v,i,t,c,d,a,b,f,hs⟩
theorem zh3(w:World)(B:Nat)(v:Value)(i:It)(t:List It)(h:w.ownsRow B 135 8 v (i :: t).length (za5 (i :: t)))(hl:(i :: t).length≤300)(hs:Hid (i.sort=0)):
  qC 67 #[v] w fun e w'=>e=.returned (.tuple #[])∧w'=w:=zn4 w B v i t h (by simp at hl;omega) hs.out
theorem zyg(w:World)(B:Nat)(v:Value)(i:It)(t:List It)(K:List Key)(h:w.ownsRow B 135 8 v (i :: t).length (za5 (i :: t)))(hk:(i :: t).map It.key=K)(hl:(i :: t).length≤300)(hnm:∀ j∈i :: t,ItOk j)(hs:Hid (i.sort=0))(l:Int)(htw:Hid (zbg [] K=some l)):
  qC 68 #[v] w fun e w'=>qB w w'∧e=zak 3 l:=by
 have:=zlC w B v (i :: t) h hl hnm (by simp) hs;rw [hk] at this;refine this.mono ?_;rintro e w' ⟨b,⟨l',a,c⟩|⟨a,_⟩⟩
 ·rw [htw.out] at a;cases a;exact⟨b,c⟩
 ·rw [htw.out] at a;cases a
theorem zn7(w:World)(B:Nat)(v:Value)(i:It)(t:List It)(K:List Key)(h:w.ownsRow B 135 8 v (i :: t).length (za5 (i :: t)))(hk:(i :: t).map It.key=K)(hl:(i :: t).length≤300)(hnm:∀ j∈i :: t,ItOk j)(hs:Hid (i.sort=0))(htw:Hid (zbg [] K=none))(G:List Fn)(hG:Hid (K.foldl addK []=G))(hG0:0<G.length):
  qC 68 #[v] w fun e w'=>qB w w'∧∃ pm ao n cap F,e=.returned (.agg #[.slice ao n cap,.map (some pm)])∧PIn w.heap.size w' pm (.slice ao n cap) F∧Hid (F.map FnM.fn=G)∧0<F.length∧F.length≤300∧(∀ f∈F,f.its.length≤300∧∀ i∈f.its,ItOk i):=by
 have:=zlC w B v (i :: t) h hl hnm (by simp) hs;rw [hk] at this;have hKl:K.length≤300:=by rw [←hk];simpa using hl
 refine this.mono ?_;rintro e w' ⟨g,⟨l',a,b⟩|⟨_,pm,v',F,a,b,c,h4,d⟩⟩
 ·rw [htw.out] at a;cases a
 ·rw [hG.out] at c;have hFG:F.length=G.length:=by rw [←c];simp
  obtain⟨ao,cap,rfl⟩:=zb7 b.row;exact⟨g,pm,ao,_,cap,F,a,b,c,by omega,by omega,fun f hf=>⟨by have:=(d f hf).1;omega,(d f hf).2⟩⟩
theorem zn8(s:ByteArray)(k:Key)(r:List Key)(h:Sts s (k :: r))(hs:k.sort=0)(l:Int)(ht:zbg [] (k :: r)=some l):zbT s (3,l):=by
 intro w x;have n:LibW (w.alloc Z33):=x.below ((Below.refl _ _).alloc (Nat.le_refl _) _);have d:=zde s (w.alloc Z33) h.h4 h.h3;have a:=h.begins hs (w.alloc Z33) n;have o:Hid (zbg [] (k :: r)=some l):=ht;clear h hs ht;generalize k :: r=K at a o;go_enter Tryz.func44,Tryz.ntmps44;go_wp2_with(first
  | (go_at_call 65;refine d.mono ?_;rintro e w1 ⟨rfl,c⟩;subst c)
  | (go_at_call 66;refine a.mono ?_;rintro e y ⟨g,v,i,t,rfl,b,q,p,m,f⟩)
  | (go_at_call 67;refine(zh3 y _ v i t b p f).mono ?_;rintro e w3 ⟨rfl,c⟩;have u:=c.symm;subst u)
  | (go_at_call 68;refine(zyg _ _ v i t K b q p m f l o).mono ?_;rintro e w4 ⟨j,rfl⟩))
 exact⟨rfl,(zbp _ _ g).trans (j.mono (zbp _ _ g).size),.inr ⟨by simp,rfl⟩⟩
end
section
open Sp
structure Good(L:List Said):Prop where
 wf:∀ k (h:k<L.length),Wf L[k]
 form:∀ k (h:k<L.length),L[k].kind=105→Form L[k].kept
 size:∀ k (h:k<L.length),∀ x∈L[k].kept,x.size≤4000
 head:∃ i,∃ h:i<L.length,L[i].kind=102∧∀ j (h':j<L.length),j<i→L[j].kind=0
 twice:∀ k,k<L.length→zcS L k=false
 miss:∀ k,k<L.length→zaK L k=false
 endl:∀ k,k<L.length→zbs L k=false
 few:L.length≤300
theorem zgk(L:List Said)(q j:Nat)(c:Int × Int)(h:pass L q j c=(0,0)):c=(0,0)∧∀ k,j≤k→k<L.length→badB L q k=false:=by
 by_cases a:j<L.length
 ·cases hb:badB L q j with
  | true =>
   rw [zdy L q j c a hb] at h;have:=congrArg Prod.fst h;simp at this;omega
  | false =>
   rw [zcr L q j c a hb] at h;obtain⟨b,d⟩:=zgk L q (j+1) c h;refine⟨b,fun k hk hl=>?_⟩;by_cases e:k=j
   ·subst e;exact hb
   ·exact d k (by omega) hl
 ·rw [zdJ L q j c a] at h;exact⟨h,fun k hk hl=>by omega⟩
termination_by L.length-j
theorem zjD(L:List Said)(i:Nat)(h:zbt L i=(0,0)):(∃ j,∃ hj:j<L.length,i≤j∧L[j].kind=102∧∀ k (hk:k<L.length),i≤k→k<j→L[k].kind=0)∧tail L 0=(0,0):=by
 by_cases b:i<L.length
 ·by_cases c:L[i].kind=0
  ·rw [zfg L i b c] at h;obtain⟨⟨j,hj,h1,a,f⟩,d⟩:=zjD L (i+1) h;refine⟨⟨j,hj,by omega,a,fun k hk ha hb=>?_⟩,d⟩;by_cases e:k=i
   ·subst e;exact c
   ·exact f k hk (by omega) hb
  ·by_cases a:L[i].kind=102
   ·rw [zfY L i b c a] at h;exact⟨⟨i,b,Nat.le_refl _,a,fun k hk ha hb=>by omega⟩,h⟩
   ·rw [zfZ L i b c a] at h;have:=congrArg Prod.fst h;simp at this
 ·rw [zeu L i b] at h;have:=congrArg Prod.fst h;simp at this
termination_by L.length-i
theorem ziu(s:ByteArray)(h:zaQ s=(0,0)):Good ((lines s).map say):=by
 unfold zaQ at h;split at h
 ·have:=congrArg Prod.fst h;simp at this
 ·rename_i hfar;have a:∀ x∈lines s,(say x).ok=true:=by
   by_cases a:∀ x∈lines s,(say x).ok=true
   ·exact a
   ·exfalso;have l:∀ i,(∃ j,∃ b:j<(lines s).length,i≤j∧(say (lines s)[j]).ok=false)→¬zbO (lines s) i=(0,0):=by
     intro i;intro⟨j,b,f,n⟩;have hil:i≤j:=f;clear f
     induction hd:j-i generalizing i with
     | zero =>
      obtain rfl:j=i:=by omega
      rw [zeb _ j b n];intro e;have:=congrArg Prod.fst e;simp at this
     | succ d ih =>
      cases g:(say ((lines s)[i]'(by omega))).ok with
      | false =>
       rw [zeb _ i (by omega) g];intro e;have:=congrArg Prod.fst e;simp at this
      | true =>
       rw [zfh _ i (by omega) g];exact ih (i+1) (by omega) (by omega)
    have:∃ x∈lines s,¬(say x).ok=true:=by
     refine Classical.byContradiction fun hn=>a fun x c=>?_;refine Classical.byContradiction fun hx'=>hn ⟨x,c,hx'⟩
    obtain⟨x,c,n⟩:=this;obtain⟨j,b,rfl⟩:=List.mem_iff_getElem.1 c;exact l 0 ⟨j,b,by omega,by simpa using n⟩ h
  rw [zfl _ a 0] at h;obtain⟨⟨i,g,_,p,v⟩,o⟩:=zjD _ 0 h;have e0:tail ((lines s).map say) 0=pass ((lines s).map say) 0 0 (pass ((lines s).map say) 1 0 (pass ((lines s).map say) 2 0 (0,0))):=rfl;rw [e0] at o;obtain⟨u,q⟩:=zgk _ _ _ _ o;obtain⟨r,t⟩:=zgk _ _ _ _ u;obtain⟨_,w⟩:=zgk _ _ _ _ r;refine⟨fun k hk=>?_,fun k hk m=>?_,fun k hk x c=>?_,⟨i,g,p,fun j b hji=>v j b (by omega) hji⟩,fun k hk=>q k (by omega) hk,fun k hk=>t k (by omega) hk,fun k hk=>w k (by omega) hk,by simp;omega⟩
  ·rw [List.getElem_map];exact zsN _ (a _ (List.getElem_mem _))
  ·rw [List.getElem_map] at m ⊢;exact zyl _ (a _ (List.getElem_mem _)) m
  ·rw [List.getElem_map] at c;have h4:=zlD _ x c;have m:=zew s ((lines s)[k]'(by simpa using hk)) (List.getElem_mem _);omega
def zdi(L:List Said)(z:Int):Prop:=∃ j:Nat,z=(j:Int)∧∃ h:j<L.length,L[j].kind=105
theorem zh4(L:List Said)(k:Nat)(h:zep L k false=true):zdi L (zad L k):=by
 by_cases a:k<L.length
 ·by_cases c:L[k].kind=102
  ·rw [znk L k _ a c] at h;cases h
  ·by_cases b:L[k].kind=105
   ·rw [zeF L k a b];exact⟨k,rfl,a,b⟩
   ·rw [zer L k a c b];rw [zdI L k _ a c,if_neg b] at h;refine zh4 L (k+1) ?_;split at h <;> exact h
 ·rw [zhV L k _ a] at h;cases h
termination_by L.length-k
theorem Good.live{L:List Said}(G:Good L)(k:Nat)(hk:k<L.length)(h1:¬L[k].kind=0)(h2:¬L[k].kind=102):∃ e,zep L k e=true:=by
 obtain⟨i,q,m,n⟩:=G.head;have hik:i<k:=by
  by_cases e:k=i
  ·subst e;exact absurd m h2
  ·by_cases o:k<i
   ·exact absurd (n k hk o) h1
   ·omega
 have a:∀ j (c:j<L.length),L[j].kind=102→zep L (j+1) false=true:=fun j c h=>by
  have:=G.endl j c;rw [zis L j c (by simp [h])] at this;simpa using this
 have f:∀ d j,j=i+1+d→j≤L.length→∃ e,zep L j e=true:=by
  intro d
  induction d with
  | zero=>intro j c _;subst c;exact⟨false,a i q m⟩
  | succ d ih =>
   intro j c hl;obtain⟨e,g⟩:=ih (j-1) (by omega) (by omega);have b:j-1<L.length:=by omega
   obtain⟨p,rfl⟩:∃ p,j=p+1:=⟨j-1,by omega⟩
   simp only [Nat.add_sub_cancel] at g b;by_cases l:L[p].kind=102
   ·exact⟨false,a p b l⟩
   ·rw [zdI L p e b l] at g;exact⟨_,g⟩
 exact f (k-i-1) k (by omega) (by omega)
theorem Good.lab{L:List Said}(G:Good L)(j:Nat)(hj:j<L.length)(h8:L[j].kind=108):zdi L (zad L j):=by
 obtain⟨e,a⟩:=G.live j hj (by omega) (by omega);rw [zdI L j e hj (by omega),if_pos h8] at a;rw [zer L j hj (by omega) (by omega)];exact zh4 L _ a
theorem Good.fn{L:List Said}(G:Good L)(j:Nat)(hj:j<L.length)(h2:L[j].kind=102):zdi L (zad L (j+1)):=by
 have:=G.endl j hj;rw [zis L j hj (by simp [h2])] at this;exact zh4 L _ (by simpa using this)
theorem Good.next{L:List Said}(G:Good L)(k:Nat)(hk:k<L.length)(h5:L[k].kind=105)(he:ends (L[k].word 0)=false):zdi L (zad L (k+1)):=by
 obtain⟨e,h⟩:=G.live k hk (by omega) (by omega);rw [zdI L k e hk (by omega),if_neg (by omega),if_pos h5,he] at h;exact zh4 L _ h
theorem zfm(L:List Said)(x:ByteArray)(i:Nat)(h:0≤zaY L x i):∃ j:Nat,zaY L x i=(j:Int)∧∃ hj:j<L.length,L[j].kind=108:=by
 by_cases a:i<L.length
 ·by_cases b:L[i].kind=102
  ·rw [zfW L x i a b] at h;omega
  ·cases hl:zdc L[i] x with
   | true =>
    rw [zdd L x i a b hl];refine⟨i,rfl,a,?_⟩;unfold zdc at hl;simp at hl;exact hl.1
   | false =>
    rw [zcd L x i a b hl] at h ⊢;exact zfm L x (i+1) h
 ·rw [zeo L x i a] at h;omega
termination_by L.length-i
theorem zlI(L:List Said)(x:ByteArray)(i:Nat)(h:0≤zaN L x i):∃ j:Nat,zaN L x i=(j:Int)∧∃ hj:j<L.length,L[j].kind=102:=by
 by_cases a:i<L.length
 ·cases hl:isFn L[i] x with
  | true =>
   rw [zd4 L x i a hl];refine⟨i,rfl,a,?_⟩;unfold isFn at hl;simp at hl;exact hl.1
  | false =>
   rw [zdr L x i a hl] at h ⊢;exact zlI L x (i+1) h
 ·rw [zfc L x i a] at h;omega
termination_by L.length-i
end
section
open Go.RowKit Sp
structure InvR(L:List Said)(m:Mc):Prop where
 at_:zdi L m.at'
 backs:∀ z∈m.backs,zdi L z
 frames:m.frames=(m.backs.length:Int)+1
 few:m.backs.length≤15
 peak:∃ p:Nat,m.peak=(p:Int)∧p≤16
 steps:0≤m.steps
 out:(m.out.length:Int)≤m.steps
theorem InvR.plain{L:List Said}{m m1:Mc}{z:Int}(I:InvR L m)(h:zdi L z)(e1:m1.backs=m.backs)(e2:m1.frames=m.frames)(e3:m1.peak=m.peak)(e4:m1.steps=m.steps)(e5:m1.out.length≤m.out.length+1):InvR L (m1.goes z):=by
 have hs:=I.steps;have ho:=I.out;refine⟨h,?_,?_,?_,?_,?_,?_⟩
 ·show ∀ z∈m1.backs,_;rw [e1];exact I.backs
 ·show m1.frames=(m1.backs.length:Int)+1;rw [e1,e2];exact I.frames
 ·show m1.backs.length≤15;rw [e1];exact I.few
 ·show ∃ p:Nat,m1.peak=(p:Int)∧p≤16;rw [e3];exact I.peak
 ·show 0≤m1.steps+1;omega
 ·show(m1.out.length:Int)≤m1.steps+1;omega
theorem ztn{w w0:World}{b g cap2:Nat}{L:List Said}{m:Mc}{bv iv ov:Value}(G:Good L)(R:RefAt w b g cap2 L m bv iv ov)(I:InvR L m)(hfin:m.fin=0)(hL0:LinesIn w0 g L)(h0:qB w0 w)(h0b:w0.heap.size≤b)(hst:m.steps≤99999)(hin:m.inp.length≤1048576):
  qC 55 #[.pointer (some ⟨b,0,none⟩)] w (zbm w b g cap2 L (zbz L m))∧((zbz L m).fin=0→InvR L (zbz L m)):=by
 obtain⟨k,V,l,U⟩:=I.at_;have hstep:zbz L m=exec (insQ L k L[k]) (zad L (k+1)) m:=by
  unfold zbz;rw [V,Int.toNat_natCast,List.getElem?_eq_getElem l]
 rw [hstep];have X:LinesIn w g L:=hL0.below h0;have s:0<L[k].kept.length:=by
  have:=G.wf k l;unfold Wf at this;omega
 obtain⟨N,wc,M,J⟩:=hL0.words k l s;have K:N<w0.heap.size:=by
  have:=World.block_lt_of_cell? w0 _ (J 0 s);simpa using this
 have S:RStep w b N wc g cap2 k L m bv iv ov L[k].kept (zad L (k+1)) :=
  ⟨R,hfin,V,l,G.few,X,fun W hW=>hL0.below (h0.trans (hW.mono h0b)),(h0.cell (World.block_lt_of_cell? w0 _ M)).trans M,fun j B=>(h0.cell (p:=⟨N,j,none⟩) K).trans (J j B),by omega,fun x hx=>by have:=G.size k l x hx;omega,rfl,I.steps,by omega⟩
 have o:=G.miss k l;have F:=G.form k l U;have a:ends (L[k].word 0)=false→zdi L (zad L (k+1)):=G.next k l U;have t:∀ n,L[k].kept.length=n+1→zaJ (L[k].word 0)=true→0≤zcj L k (L[k].word n):=fun n hn ha=>by
  rw [zcR _ 0 s] at ha;rw [zcR _ n (by omega)];rw [zgj L k n l (by simp [U]) hn ha] at o;simpa using o
 have C:∀ n,L[k].kept.length=n+1→zaJ (L[k].word 0)=false→zc2 (L[k].word 0)=true→0≤zaN L (L[k].word n) 0:=fun n hn ha hb=>by
  rw [zcR _ 0 s] at ha hb;rw [zcR _ n (by omega)];rw [zlE L k n l (by simp [U]) hn ha hb] at o;simpa using o
 generalize hq:L[k]=q at S F a t C;obtain⟨kd,kp,ok⟩:=q;simp only at S F;unfold Said.word at a t C;simp only at a t C;have D:=I.frames;have Q:=I.few;cases F with
 | set_ x1 x2 hx1 hx2 =>
  rw [zoK L k _ x1 x2 rfl];obtain⟨c,d⟩:=zax x1 hx1;exact⟨zzn S (regN x1) c d,fun _=>I.plain (a (by kernel_rfl)) rfl rfl rfl rfl (Nat.le_succ _)⟩
 | inc_ x1 x2 hx1 hx2 =>
  rw [zoP L k _ x1 x2 rfl];obtain⟨c,d⟩:=zax x1 hx1;exact⟨zzs S (regN x1) c d,fun _=>I.plain (a (by kernel_rfl)) rfl rfl rfl rfl (Nat.le_succ _)⟩
 | mov_ x1 x2 hx1 hx2 =>
  rw [zoL L k _ x1 x2 rfl];obtain⟨c,d⟩:=zax x1 hx1;obtain⟨f,h⟩:=zax x2 hx2;exact⟨zzo S (regN x1) (regN x2) c d f h,fun _=>I.plain (a (by kernel_rfl)) rfl rfl rfl rfl (Nat.le_succ _)⟩
 | load_ x1 x2 hx1 hx2 =>
  rw [zlP L k _ x1 x2 rfl];obtain⟨c,d⟩:=zax x1 hx1;obtain⟨f,h⟩:=zax x2 hx2;refine⟨zxU S (regN x1) (regN x2) c d f h,fun i=>?_⟩;simp only [exec] at i ⊢;split at i
  ·cases i
  ·rename_i hc;rw [if_neg hc];exact I.plain (a (by kernel_rfl)) rfl rfl rfl rfl (Nat.le_succ _)
 | store_ x1 x2 hx1 hx2 =>
  rw [zjE L k _ x1 x2 rfl];obtain⟨c,d⟩:=zax x1 hx1;obtain⟨f,h⟩:=zax x2 hx2;refine⟨zvS S (regN x1) (regN x2) c d f h,fun i=>?_⟩;simp only [exec] at i ⊢;split at i
  ·cases i
  ·rename_i hc;rw [if_neg hc];exact I.plain (a (by kernel_rfl)) rfl rfl rfl rfl (Nat.le_succ _)
 | add_ x1 x2 x3 hx1 hx2 hx3 =>
  rw [zoM L k _ x1 x2 x3 rfl];obtain⟨c,d⟩:=zax x1 hx1;obtain⟨f,h⟩:=zax x2 hx2;obtain⟨y,A⟩:=zax x3 hx3;exact⟨zzp S (regN x1) (regN x2) (regN x3) c d f h y A,fun _=>I.plain (a (by kernel_rfl)) rfl rfl rfl rfl (Nat.le_succ _)⟩
 | sub_ x1 x2 x3 hx1 hx2 hx3 =>
  rw [zoN L k _ x1 x2 x3 rfl];obtain⟨c,d⟩:=zax x1 hx1;obtain⟨f,h⟩:=zax x2 hx2;obtain⟨y,A⟩:=zax x3 hx3;exact⟨zzq S (regN x1) (regN x2) (regN x3) c d f h y A,fun _=>I.plain (a (by kernel_rfl)) rfl rfl rfl rfl (Nat.le_succ _)⟩
 | mul_ x1 x2 x3 hx1 hx2 hx3 =>
  rw [zoO L k _ x1 x2 x3 rfl];obtain⟨c,d⟩:=zax x1 hx1;obtain⟨f,h⟩:=zax x2 hx2;obtain⟨y,A⟩:=zax x3 hx3;exact⟨zzr S (regN x1) (regN x2) (regN x3) c d f h y A,fun _=>I.plain (a (by kernel_rfl)) rfl rfl rfl rfl (Nat.le_succ _)⟩
 | read_ x1 hx1 =>
  rw [zlQ L k _ x1 rfl];obtain⟨c,d⟩:=zax x1 hx1;exact⟨zxR S (regN x1) c d hin,fun _=>I.plain (a (by kernel_rfl)) rfl rfl rfl rfl (Nat.le_succ _)⟩
 | write_ x1 hx1 =>
  rw [zjF L k _ x1 rfl];obtain⟨c,d⟩:=zax x1 hx1;exact⟨zvO S (regN x1) c d (by have:=I.out;omega),fun _=>I.plain (a (by kernel_rfl)) rfl rfl rfl rfl (by simp)⟩
 | jump_ x1 hx1 =>
  rw [zlJ L k _ x1 rfl];have E:=t 1 rfl (by kernel_rfl);obtain⟨j,B,r,u⟩:=zfm L x1 _ E;have v:zcj L k x1=(j:Int):=B;have e:ze9 L k x1=zad L j:=by unfold ze9;rw [v,Int.toNat_natCast]
  rw [e];exact⟨zxV S j v (by omega),fun _=>I.plain (m1:=m) (G.lab j r u) rfl rfl rfl rfl (Nat.le_succ _)⟩
 | call_ x1 hx1 =>
  rw [zlM L k _ x1 rfl];have E:=C 1 rfl (by kernel_rfl) (by kernel_rfl);obtain⟨j,B,r,O⟩:=zlI L x1 _ E;have e:fnTo L x1=zad L (j+1):=by unfold fnTo;rw [B];rfl
  rw [e];obtain⟨p,hp,T⟩:=I.peak;refine⟨zxS S j (m.backs.length+1) p B r (by omega) (by omega) hp T (by omega),fun i=>?_⟩;simp only [exec] at i ⊢;split at i
  ·cases i
  ·rename_i hc;rw [if_neg hc];have Z:=I.steps;have Y:=I.out;refine⟨G.fn j r O,?_,?_,?_,?_,?_,?_⟩
   ·show ∀ z∈m.backs++[zad L (k+1)],_;intro z i;rw [List.mem_append] at i;rcases i with i|i
    ·exact I.backs z i
    ·simp at i;subst i;exact a (by kernel_rfl)
   ·show m.frames+1=((m.backs++[zad L (k+1)]).length:Int)+1;simp;omega
   ·show(m.backs++[zad L (k+1)]).length≤15;simp;omega
   ·show ∃ p:Nat,max m.peak (m.frames+1)=(p:Int)∧p≤16;exact⟨max p (m.backs.length+2),by omega,by omega⟩
   ·show 0≤m.steps+1;omega
   ·show(m.out.length:Int)≤m.steps+1;omega
 | less_ x1 x2 x3 hx1 hx2 hx3 =>
  rw [zlK L k _ x1 x2 x3 rfl];obtain⟨c,d⟩:=zax x1 hx1;obtain⟨f,h⟩:=zax x2 hx2;have E:=t 3 rfl (by kernel_rfl);obtain⟨j,B,r,u⟩:=zfm L x3 _ E;have v:zcj L k x3=(j:Int):=B;have e:ze9 L k x3=zad L j:=by unfold ze9;rw [v,Int.toNat_natCast]
  rw [e];refine⟨zxW S (regN x1) (regN x2) j c d f h v (by omega),fun _=>?_⟩;simp only [exec];split
  ·exact I.plain (m1:=m) (G.lab j r u) rfl rfl rfl rfl (Nat.le_succ _)
  ·exact I.plain (m1:=m) (a (by kernel_rfl)) rfl rfl rfl rfl (Nat.le_succ _)
 | same_ x1 x2 x3 hx1 hx2 hx3 =>
  rw [zlL L k _ x1 x2 x3 rfl];obtain⟨c,d⟩:=zax x1 hx1;obtain⟨f,h⟩:=zax x2 hx2;have E:=t 3 rfl (by kernel_rfl);obtain⟨j,B,r,u⟩:=zfm L x3 _ E;have v:zcj L k x3=(j:Int):=B;have e:ze9 L k x3=zad L j:=by unfold ze9;rw [v,Int.toNat_natCast]
  rw [e];refine⟨zxX S (regN x1) (regN x2) j c d f h v (by omega),fun _=>?_⟩;simp only [exec];split
  ·exact I.plain (m1:=m) (G.lab j r u) rfl rfl rfl rfl (Nat.le_succ _)
  ·exact I.plain (m1:=m) (a (by kernel_rfl)) rfl rfl rfl rfl (Nat.le_succ _)
 | back_ =>
  rw [zlN L k _ rfl];refine⟨zxT S m.backs.length D Q rfl,fun i=>?_⟩;simp only [exec] at i ⊢;split at i
  ·cases i
  ·rename_i hc;rw [if_neg hc];have Z:=I.steps;have Y:=I.out;have hdl:m.backs.dropLast.length=m.backs.length-1:=List.length_dropLast;have H:¬m.backs=[]:=fun e=>by rw [e] at D;simp at D;omega
   have hpos:0<m.backs.length:=List.length_pos_iff.2 H;refine⟨?_,?_,?_,?_,I.peak,?_,?_⟩
   ·show zdi L (m.backs.getLastD 0);rw [List.getLastD_eq_getLast?,List.getLast?_eq_some_getLast H];exact I.backs _ (List.getLast_mem H)
   ·intro z P;exact I.backs z ((List.dropLast_sublist m.backs).subset P)
   ·show m.frames-1=(m.backs.dropLast.length:Int)+1;omega
   ·show m.backs.dropLast.length≤15;omega
   ·show 0≤m.steps+1;omega
   ·show(m.out.length:Int)≤m.steps+1;omega
 | stop_ =>
  rw [zlO L k _ rfl];exact⟨zxY S,fun i=>by cases i⟩
end
end Go.Proofs.YtfpgjkbjbbgciaaGreatDoor
