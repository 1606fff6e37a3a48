import Derived.Test.YtfpgjkbjbbgciaaGreatDoorMj13
set_option maxRecDepth 100000
set_option maxHeartbeats 8000000
namespace Go.Proofs.YtfpgjkbjbbgciaaGreatDoor
open Go.RowKit Sp
theorem zoG(s:ByteArray)(w:World)(hw:LibW w)(h4:s.size≤4000)(h3:(lines s).length≤300):
  qC 66 #[.string s] w (zxM w (lines s)):=by
 obtain⟨i0,hi,aj,ai,ag⟩:=info_parts Tryz.info135;obtain⟨mm,af⟩:=hw.most;have l:=Tryz.strings_Split s ⟨#[10]⟩ mm w (by omega) af (by decide);rw [zie,(zf8 s).2] at l;have Z:=zew s;have hlow:=hw.low;generalize lines s=A at h3 Z l ⊢;have ak:LibW (w.alloc (.cells (A.map Value.string).toArray 9)):=hw.below ((Below.refl _ _).alloc (Nat.le_refl _) _);have C:∀ k (h:k<A.length),(w.alloc (.cells (A.map Value.string).toArray 9)).cell? ⟨w.heap.size,k,none⟩=some (.string A[k]):=by
  intro k h;rw [World.cell?_alloc_new];simp [h]
 have ae:qB w (w.alloc (.cells (A.map Value.string).toArray 9)):=(Below.refl _ _).alloc (Nat.le_refl _) _;have Y:(w.alloc (.cells (A.map Value.string).toArray 9)).heap.size=w.heap.size+1:=by simp
 go_enter Tryz.func66,Tryz.ntmps66;go_wp2_with(go_at_call 97;refine l.mono ?_;rintro e wx ⟨rfl,ah⟩;subst ah)
 clear l;generalize w.alloc (.cells (A.map Value.string).toArray 9)=W1 at ak C ae Y
 go_loopw [3,10] (fun v ti wr=>∃(k:Nat) (f:List It),k≤A.length∧f.length≤k∧ti=.int .i64 (k:Int)∧wr.ownsRow (w.heap.size+1) 135 8 v f.length (za5 f)∧f.map It.key=zbl A k∧Below (w.heap.size+1) W1 wr∧zbO A 0=zbO A k∧(∀ j (h:j<A.length),j<k→(say A[j]).ok=true)) (fun _ ti _=>A.length-(intOf ti).toNat)
 case atStart=>exact⟨0,[],by omega,by simp,rfl,World.ownsRow_nil _ _ _ _,rfl,Below.refl _ _,rfl,fun j _ h=>by omega⟩
 case round =>
  obtain⟨k,f,hk,hits,rfl,F,I,J,hR,Q⟩:=hrel;have HR:Hid (zbO A 0=zbO A k):=hR;have HK:Hid (f.map It.key=zbl A k):=I;have ad:Hid (∀ j (h:j<A.length),j<k→(say A[j]).ok=true):=Q;clear hR I Q;have hszr:=J.size;have m:qB w wr:=ae.trans (J.mono (by omega));have D:=hw.below m;by_cases o:k<A.length
  ·have hck:=(J.cell (p:=⟨w.heap.size,k,none⟩) (by simp)).trans (C k o);have K:A[k].size≤1048576:=by have:=Z A[k] (List.getElem_mem o);omega
   have u:Hid ((say A[k]).ok=false→zbO A 0=(1,(k:Int)+1)):=fun h=>HR.out.trans (zeb A k o h);have N:Hid ((say A[k]).ok=true→zbO A 0=zbO A (k+1)):=fun h=>HR.out.trans (zfh A k o h);have B:Hid ((say A[k]).ok=true→∀ j (h:j<A.length),j<k+1→(say A[j]).ok=true):=fun h j V hjk=>by
    by_cases e:j=k
    ·subst e;exact h
    ·exact ad.out j V (by omega)
   cases hv:zau A[k] 0 with
   | false =>
    have HB:=u.out (zf9 _ hv);have S:Hid (zbO A 0=(1,(k:Int)+1)):=HB;clear HB;go_wp2_with(go_at_call 98;refine(zqo A[k] _ wr D K hv).mono ?_;rintro e w2 ⟨rfl,d⟩)
    exact⟨rfl,m.trans (d.mono m.size),.inl ⟨k,S.out,rfl⟩⟩
   | true =>
    cases hl:words A[k] with
    | nil =>
     have z:=zsQ _ hv hl;have W:Hid (zbO A 0=zbO A (k+1)∧zbl A (k+1)=zbl A k∧∀ j (h:j<A.length),j<k+1→(say A[j]).ok=true) :=
      ⟨N.out (by rw [z]),zif A k o (by rw [z]),B.out (by rw [z])⟩
     have HL:Hid (words A[k]=[]):=hl;clear z hl;go_wp2_with(go_at_call 98;refine(zns A[k] _ wr D K hv HL).mono ?_;rintro e w2 ⟨ao,L,rfl,d⟩)
     have i:=zbi F d (Nat.le_refl _);have ab:=J.trans (d.mono (by omega));clear d;go_roundw
     case rel=>exact⟨k+1,f,by omega,by omega,by go_num,i,by rw [W.out.2.1];exact HK.out,ab,W.out.1,W.out.2.2⟩
     case measure=>simp [intOf];omega
    | cons x r =>
     have R:=zf1 A[k];have T:=zln A[k];rw [hl] at R T;have P:∀ y∈(x :: r:List ByteArray),1≤y.size∧y.size≤1048576:=fun y hy=>by have:=R y hy;omega
     have X:r.length≤1048576:=by simp at T;omega
     have z:=zig _ hv;rw [hl] at z;have ac:=zsR x r;have H:Hid (zbl A (k+1)=zbl A k++[keyQ (say A[k]) ((k:Int)+1)]):=zj4 A k o (by rw [z];exact ac);rw [z] at u N B H;have HL:Hid (words A[k]=x :: r):=hl;generalize hq:sayW (x :: r)=q at u N B H;have HQ:Hid (sayW (x :: r)=q):=hq;clear hq z ac hl R T;cases hok:q.ok with
     | false =>
      have S:Hid (zbO A 0=(1,(k:Int)+1)):=u.out hok;go_wp2_with(first
       | (go_at_call 98;refine(zih A[k] _ wr D K hv _ HL (by simp)).mono ?_;rintro e w2 ⟨g,L,rfl,hg,O,d⟩;have M:=D.below d)
       | (go_at_call 99;refine(zlt w2 M g L x r _ O P X q HQ hok).mono ?_;rintro e w3 ⟨rfl,G⟩))
      exact⟨rfl,(m.trans (d.mono m.size)).trans (G.mono (by have:=m.size;have:=d.size;omega)),.inl ⟨k,S.out,rfl⟩⟩
     | true =>
      have W:Hid (zbO A 0=zbO A (k+1)∧∀ j (h:j<A.length),j<k+1→(say A[j]).ok=true):=⟨N.out hok,B.out hok⟩
      go_wp2_with(first
       | (go_at_call 98;refine(zih A[k] _ wr D K hv _ HL (by simp)).mono ?_;rintro e w2 ⟨g,L,rfl,hg,O,d⟩;have M:=D.below d;have i:=zbi F d (Nat.le_refl _);have hs2:=d.size)
       | (go_at_call 99;refine(zsS w2 M g L x r _ O P X q HQ hok).mono ?_;rintro e w3 ⟨rfl,G⟩;have t:=zbi i G (Nat.le_refl _);have hs3:=G.size)
       | (at_builtin;refine wpList_append_own _ rfl _ _ 116 rfl (w.heap.size+1) 135 i0 (.agg #[.int .i64 0,.int .i64 0,.string ByteArray.empty,.int .i64 0,.int .i64 0,.int .i64 0,.int .i64 0,.string ByteArray.empty]) 8 80 Tryz.under116 hi aj ai ag rfl (by decide) _ _ _ rfl (t.alloc _) ⟨w3.heap.size,0,none⟩ 1 1 (It.cells ⟨zf6 q,(k:Int)+1,zeH q,zdP q,(opQ q).a,(opQ q).b,(opQ q).c,(opQ q).n⟩) rfl rfl (znr _ _ _ _ _ _ _ _ _ _) (zls _) (by unfold maxLen;omega) (by omega) (by simp;omega) ?_))
      intro v' w4 U E _;have al:Below (w.heap.size+1) W1 w4:=(((J.trans (d.mono (by omega))).trans (G.mono (by omega))).alloc (by omega) _).grown E (by simp;omega) (fun j V=>(t.lt j V).1);clear E t i O M;go_wp2;go_roundw
      case rel=>exact⟨k+1,f++[⟨zf6 q,(k:Int)+1,zeH q,zdP q,(opQ q).a,(opQ q).b,(opQ q).c,(opQ q).n⟩],by omega,by simp;omega,by go_num,by rw [zgc];simpa using U,by rw [List.map_append,HK.out,H.out];rfl,al,W.out.1,W.out.2⟩
      case measure=>simp [intOf];omega
  ·have HE:Hid (zbO A 0=zbt (A.map say) 0):=HR.out.trans (zga A k o);have aa:Hid (k=A.length):=by unfold Hid;omega
   go_wp2;go_ret;refine⟨m,.inr ⟨HE.out,fun x hx=>?_,_,f,rfl,zbk F (by omega),by rw [HK.out,aa.out]⟩⟩;obtain⟨j,V,rfl⟩:=List.mem_iff_getElem.1 hx;exact ad.out j V (by have:=aa.out;omega)
theorem zn1(sort line:Int)(word:ByteArray)(a b c n:Int)(nm:ByteArray)(w:World):
  qC 104 #[stm sort line word a b c n nm] w (qR w (.bool (zc2 word))):=by
 cases h:(word.toList == [99,97,108,108]) with
 | true =>
  have e:zc2 word=true:=h;rw [e];have d:=za0 word _ h;subst d;clear h e;go_enter Tryz.func104,Tryz.ntmps104;go_wp2;go_ret;exact⟨rfl,(Below.refl _ _).alloc (Nat.le_refl _) _⟩
 | false =>
  have e:zc2 word=false:=h;rw [e];clear e;go_enter Tryz.func104,Tryz.ntmps104;go_wp2;go_ret;exact⟨rfl,(Below.refl _ _).alloc (Nat.le_refl _) _⟩
theorem zl5(sort line:Int)(word:ByteArray)(a b c n:Int)(nm:ByteArray)(w:World):
  qC 102 #[stm sort line word a b c n nm] w (qR w (.bool (zaJ word))):=by
 have e:zaJ word=(word.toList == [106,117,109,112]||word.toList == [108,101,115,115]||word.toList == [115,97,109,101]):=rfl;rw [e];clear e;cases h1:(word.toList == [106,117,109,112]) with
 | true =>
  have d:=za0 word _ h1;subst d;clear h1;go_enter Tryz.func102,Tryz.ntmps102;go_wp2;go_ret;exact⟨rfl,(Below.refl _ _).alloc (Nat.le_refl _) _⟩
 | false =>
  cases h2:(word.toList == [108,101,115,115]) with
  | true =>
   have d:=za0 word _ h2;subst d;clear h1 h2;go_enter Tryz.func102,Tryz.ntmps102;go_wp2;go_ret;exact⟨rfl,(Below.refl _ _).alloc (Nat.le_refl _) _⟩
  | false =>
   cases h3:(word.toList == [115,97,109,101]) with
   | true =>
    have d:=za0 word _ h3;subst d;clear h1 h2 h3;go_enter Tryz.func102,Tryz.ntmps102;go_wp2;go_ret;exact⟨rfl,(Below.refl _ _).alloc (Nat.le_refl _) _⟩
   | false =>
    go_enter Tryz.func102,Tryz.ntmps102;go_wp2;go_ret;exact⟨rfl,(Below.refl _ _).alloc (Nat.le_refl _) _⟩
theorem zq4(sort line:Int)(word:ByteArray)(a b c n:Int)(nm:ByteArray)(w:World):
  qC 132 #[stm sort line word a b c n nm] w (qR w (.bool (ends word))):=by
 have e:ends word=(word.toList == [106,117,109,112]||word.toList == [98,97,99,107]||word.toList == [115,116,111,112]):=rfl;rw [e];clear e;cases h1:(word.toList == [106,117,109,112]) with
 | true =>
  have d:=za0 word _ h1;subst d;clear h1;go_enter Tryz.func132,Tryz.ntmps132;go_wp2;go_ret;exact⟨rfl,(Below.refl _ _).alloc (Nat.le_refl _) _⟩
 | false =>
  cases h2:(word.toList == [98,97,99,107]) with
  | true =>
   have d:=za0 word _ h2;subst d;clear h1 h2;go_enter Tryz.func132,Tryz.ntmps132;go_wp2;go_ret;exact⟨rfl,(Below.refl _ _).alloc (Nat.le_refl _) _⟩
  | false =>
   cases h3:(word.toList == [115,116,111,112]) with
   | true =>
    have d:=za0 word _ h3;subst d;clear h1 h2 h3;go_enter Tryz.func132,Tryz.ntmps132;go_wp2;go_ret;exact⟨rfl,(Below.refl _ _).alloc (Nat.le_refl _) _⟩
   | false =>
    go_enter Tryz.func132,Tryz.ntmps132;go_wp2;go_ret;exact⟨rfl,(Below.refl _ _).alloc (Nat.le_refl _) _⟩
theorem zn2(l:List It)(k:Nat)(h:k<l.length)(j:Nat)(hj:j<8):(za5 l)[k*8+j]?=l[k].cells[j]?:=by
 induction l generalizing k with
 | nil=>simp at h
 | cons i l ih =>
  have e:za5 (i :: l)=i.cells++za5 l:=by simp [za5]
  rw [e];cases k with
  | zero =>
   rw [List.getElem?_append_left (by simp;omega)];simp
  | succ k =>
   rw [List.getElem?_append_right (by simp;omega)];have:=ih k (by simpa using h);simp only [List.getElem_cons_succ];rw [←this];congr 1;simp;omega
theorem zgD{w:World}{B:Nat}{v:Value}{its:List It}(h:w.ownsRow B 135 8 v its.length (za5 its))(hp:0<its.length):
  ∃ g cap,v=.slice (some ⟨g,0,none⟩) its.length cap∧B≤g∧g<w.heap.size∧∀ k (hk:k<its.length),
   w.cell? ⟨g,k*8,none⟩=some (.int .i64 its[k].sort)∧w.cell? ⟨g,k*8+1,none⟩=some (.int .i64 its[k].line)∧w.cell? ⟨g,k*8+2,none⟩=some (.string its[k].word) ∧
   w.cell? ⟨g,k*8+3,none⟩=some (.int .i64 its[k].a)∧w.cell? ⟨g,k*8+4,none⟩=some (.int .i64 its[k].b)∧w.cell? ⟨g,k*8+5,none⟩=some (.int .i64 its[k].c) ∧
   w.cell? ⟨g,k*8+6,none⟩=some (.int .i64 its[k].n)∧w.cell? ⟨g,k*8+7,none⟩=some (.string its[k].nm):=by
 obtain⟨g,cap,rfl,e,d⟩:=h.form hp;refine⟨g,cap,rfl,e,d,fun k hk=>?_⟩;have H:∀ j,j<8→w.cell? ⟨g,k*8+j,none⟩=its[k].cells[j]?:=fun j hj=>by
  rw [World.ownsRow.cellAt h (k*8+j) (by omega),zn2 its k hk j hj]
 exact⟨H 0 (by omega),H 1 (by omega),H 2 (by omega),H 3 (by omega),H 4 (by omega),H 5 (by omega),H 6 (by omega),H 7 (by omega)⟩
theorem zn3(w:World)(B:Nat)(v:Value)(h:w.ownsRow B 135 8 v 0 (za5 [])):
  qC 67 #[v] w fun e w'=>e=zak 2 0∧w'=w:=by
 have b:∃ d a,v=.slice d 0 a:=by
  rcases h.2 with ⟨b,_⟩|⟨g,a,cur,b,_⟩
  ·exact⟨none,0,b⟩
  ·exact⟨_,a,b⟩
 obtain⟨d,a,rfl⟩:=b;go_enter Tryz.func67,Tryz.ntmps67;go_wp2_with(go_at_call 79;refine(za1 _ _ _).mono ?_;rintro e wx ⟨rfl,c⟩;subst c)
 exact⟨rfl,rfl,rfl⟩
theorem zq5(w:World)(B:Nat)(v:Value)(i:It)(r:List It)(h:w.ownsRow B 135 8 v (i :: r).length (za5 (i :: r)))(hn:r.length≤4096)(hs:¬i.sort=0):
  qC 67 #[v] w fun e w'=>e=zak 2 i.line∧w'=w:=by
 obtain⟨g,cap,rfl,_,_,c⟩:=zgD h (by simp);obtain⟨f,d,_⟩:=c 0 (by simp);simp only [List.getElem_cons_zero,Nat.zero_mul,Nat.zero_add] at f d;have a:(i :: r).length=r.length+1:=by simp
 rw [a];have hs':(i.sort == 0)=false:=by simpa using hs
 clear c a h;go_enter Tryz.func67,Tryz.ntmps67;go_wp2_with(go_at_call 79;refine(za1 _ _ _).mono ?_;rintro e wx ⟨rfl,b⟩;subst b)
 all_goals exact⟨rfl,rfl,rfl⟩
theorem zn4(w:World)(B:Nat)(v:Value)(i:It)(r:List It)(h:w.ownsRow B 135 8 v (i :: r).length (za5 (i :: r)))(hn:r.length≤4096)(hs:i.sort=0):
  qC 67 #[v] w fun e w'=>e=.returned (.tuple #[])∧w'=w:=by
 obtain⟨g,cap,rfl,_,_,b⟩:=zgD h (by simp);obtain⟨c,d,_⟩:=b 0 (by simp);simp only [List.getElem_cons_zero,Nat.zero_mul,Nat.zero_add] at c d;have a:(i :: r).length=r.length+1:=by simp
 rw [a];rw [hs] at c;clear b a h;go_enter Tryz.func67,Tryz.ntmps67;go_wp2
 go_end0
 exact⟨rfl,rfl⟩
section
attribute [local go_sem ↓] Go.wp_at_zero Go.wp_at_succ
theorem zj8(w:World)(a b:Obj)(p:Addr)(h:p.block<w.heap.size):((w.alloc a).alloc b).drew.frozen? p=w.frozen? p :=
 World.frozen?_of_block (w:=w) ((((Below.refl w.heap.size w).alloc (Nat.le_refl _) a).alloc (by simp) b).drew.block p.block h)
theorem zoH(w:World)(a b:Obj)(p:Addr)(h:p.block<w.heap.size):((w.alloc a).alloc b).drew.cell? p=w.cell? p :=
 World.cell?_of_block (w:=w) ((((Below.refl w.heap.size w).alloc (Nat.le_refl _) a).alloc (by simp) b).drew.block p.block h)
theorem zoI(w:World)(a:Obj)(cs:Array Value)(t:TypeId):((w.alloc a).alloc (.cells cs t)).drew.heap[w.heap.size+1]?=some (.cells cs t (0,0)):=by
 have h:=heap_alloc_new (w.alloc a) (.cells cs t);rw [show(w.alloc a).heap.size=w.heap.size+1 by simp] at h;exact h
theorem zl6{w w1:World}{a b:Obj}{row:Option Nat}(h:((w.alloc a).alloc b).drew.grownBy w1 row):w.grownBy w1 row :=
 ((World.grownBy_alloc w a row).trans (World.grownBy_alloc _ b row)).trans ⟨h.os,h.tape,h.output,h.size,h.block⟩
theorem add_plain(w:World)(B fg o:Nat)(bv:Value)(its:List It)(i:It)(hs:¬i.sort=1)
  (hc:w.cell? ⟨fg,o+2,none⟩=some bv) (hf:w.frozen? ⟨fg,o+2,none⟩=false) (hown:w.ownsRow B 135 8 bv its.length (za5 its)) (hne:bv.ownBlock≠some fg) (hB:B≤w.heap.size) (hn:its.length≤4096) :
  qC 101 #[.pointer (some ⟨fg,o,none⟩),stm i.sort i.line i.word i.a i.b i.c i.n i.nm] w fun e w'=>e=.returned (.tuple #[]) ∧
   ∃ g cap w1,w'=w1.setCell ⟨fg,o+2,none⟩ (.slice (some ⟨g,0,none⟩) (its.length+1) cap)∧w.grownBy w1 bv.ownBlock ∧
    w1.ownsRow B 135 8 (.slice (some ⟨g,0,none⟩) (its.length+1) cap) (its.length+1) (za5 (its++[i]))∧(bv.ownBlock=some g∨w.heap.size≤g):=by
 obtain⟨u,p,q,r,l⟩:=info_parts Tryz.info135;have s:fg<w.heap.size:=World.block_lt_of_cell? w _ hc;have hs':(i.sort == 1)=false:=by simpa using hs
 have m:∀ b,bv.ownBlock=some b→b<w.heap.size:=fun b hb=>(hown.lt b hb).2;have f:some fg≠bv.ownBlock:=fun e=>hne e.symm;have hne3:some w.heap.size≠bv.ownBlock:=fun e=>by have:=m _ e.symm;omega
 have hne4:¬w.heap.size=fg:=by omega
 have hne5:¬fg=w.heap.size:=by omega
 go_enter Tryz.func101,Tryz.ntmps101;go_wp2_with fail
 go_region_law
  ((refine step_append_lies _ (by rfl) _ _ _ (by rfl) B 135 u _ 8 80 Tryz.under116 p q r l rfl (by omega) bv its.length (za5 its) (by rfl) (((hown.alloc _).alloc _).drew)
     ⟨w.heap.size+1,0,none⟩ 1 1 i.cells (by rfl) (by rfl) (World.news_of_block (cs:=i.cells.toArray) (t:=135) (fr:=(0,0)) (zoI w _ _ _)) (zls i)
     (by omega) (by unfold maxLen;omega) (by omega) (by simp;omega) (w.heap.size+1+1) (by simp) ?_;intro g cap w1 j d k hltg;have hfz:w1.frozen? ⟨fg,o+2,none⟩=false:=(d.frozen_far _ (by simp;omega) f).trans ((zj8 w _ _ _ s).trans hf);have hcz:w1.cell? ⟨fg,o+2,none⟩=some bv:=(d.cell_far _ (by simp;omega) f).trans ((zoH w _ _ _ s).trans hc)))
 all_goals go_end0
 all_goals exact⟨rfl,g,cap,w1,rfl,zl6 d,by rw [zgc];exact j,by rcases k with h|h;exact .inl h;exact .inr (by omega)⟩
end
abbrev OutW(w:World):World:=(w.alloc (.cells #[.int .i64 0] 22)).alloc (.cells #[.int .i64 0] 3)
theorem zf2(fn:Nat)(caps:Array Value)(w:World)(Q:World→Prop)(hfn:∀ W,(callFunc fn caps).run Tryz.prog W=.ok (.enter fn caps) W)
  (hcall:qC fn caps (OutW w) fun e w1=>e=.returned (.tuple #[])∧Q w1)
  (hQ:∀ w1,Q w1→w1.cell? ⟨w.heap.size,0,none⟩=some (.int .i64 0)∧w1.cell? ⟨w.heap.size+1,0,none⟩=some (.int .i64 0)∧w1.frozen? ⟨w.heap.size,0,none⟩=false∧w1.frozen? ⟨w.heap.size+1,0,none⟩=false) :
  qC 42 #[.func (.func fn) #[] caps] w fun e w'=>e=.returned (.tuple #[.int .i64 0,.int .i64 0])∧∃ w1,Q w1∧w'=(w1.setCell ⟨w.heap.size,0,none⟩ (.int .i64 0)).setCell ⟨w.heap.size+1,0,none⟩ (.int .i64 0):=by
 have hmf:∀(fn:Go.Fn) (first cap:Array Value) (w:World),(Instr.makeFunc fn first cap).run Tryz.prog w=.ok (.func fn first cap) w:=fun _ _ _ _=>rfl
 go_enter_defers Tryz.func42,Tryz.ntmps42
 go_wp2_with(first|(refine hcall.mono ?_;rintro e w1 ⟨rfl,a⟩;obtain⟨d,g,f0,f1⟩:=hQ w1 a))
 have c:((w1.setCell ⟨w.heap.size,0,none⟩ (.int .i64 0)).setCell ⟨w.heap.size+1,0,none⟩ (.int .i64 0)).cell? ⟨w.heap.size,0,none⟩=some (.int .i64 0):=by
  rw [World.cell?_setCell_other]
  ·exact World.cell?_setCell_same w1 _ _ d
  ·simp
 have b:((w1.setCell ⟨w.heap.size,0,none⟩ (.int .i64 0)).setCell ⟨w.heap.size+1,0,none⟩ (.int .i64 0)).cell? ⟨w.heap.size+1,0,none⟩=some (.int .i64 0):=by
  refine World.cell?_setCell_same (u:=.int .i64 0) _ _ _ ?_;rw [World.cell?_setCell_other]
  ·exact g
  ·simp
 generalize h:(w1.setCell ⟨w.heap.size,0,none⟩ (.int .i64 0)).setCell ⟨w.heap.size+1,0,none⟩ (.int .i64 0)=X at c b ⊢;refine leaves_cons (f:=64) (args:=#[.pointer (some ⟨w.heap.size,0,none⟩),.pointer (some ⟨w.heap.size+1,0,none⟩)]) (by simp) (by simp [go_sem]) ?_;refine(zjt w.heap.size _).mono ?_;rintro e u' w'' ⟨rfl,rfl,rfl⟩;exact⟨.tuple #[.int .i64 0,.int .i64 0],by simp [results,Tryz.results42,go_sem,c,b],rfl,w1,a,h.symm⟩
theorem zd8(fn:Nat)(caps:Array Value)(w:World)(er ln:Int)(hfn:∀ W,(callFunc fn caps).run Tryz.prog W=.ok (.enter fn caps) W)
  (hcall:qC fn caps (OutW w) fun e w1=>e=zak er ln∧Below (OutW w).heap.size (OutW w) w1) :
  qC 42 #[.func (.func fn) #[] caps] w (qR w (.tuple #[.int .i64 er,.int .i64 ln])):=by
 have hmf:∀(fn:Go.Fn) (first cap:Array Value) (w:World),(Instr.makeFunc fn first cap).run Tryz.prog w=.ok (.func fn first cap) w:=fun _ _ _ _=>rfl
 go_enter_defers Tryz.func42,Tryz.ntmps42
 go_wp2_with(first|(refine hcall.mono ?_;rintro e w1 ⟨rfl,b⟩;obtain⟨hc,hf⟩:=zdH b))
 have d:w1.cell? ⟨w.heap.size,0,none⟩=some (.int .i64 0):=by rw [hc _ _ (by simp;omega)];simp
 have h:w1.cell? ⟨w.heap.size+1,0,none⟩=some (.int .i64 0):=by rw [hc _ _ (by simp)];simp
 have g:w1.frozen? ⟨w.heap.size,0,none⟩=false:=by rw [hf _ _ (by simp;omega)];simp
 have c:w1.frozen? ⟨w.heap.size+1,0,none⟩=false:=by rw [hf _ _ (by simp)];simp
 refine leaves_cons (f:=64) (args:=#[.pointer (some ⟨w.heap.size,0,none⟩),.pointer (some ⟨w.heap.size+1,0,none⟩)]) (by simp) (by simp [go_sem]) ?_;refine(zfQ w.heap.size 0 0 er ln _ d h g c).mono ?_;rintro e u' w'' ⟨rfl,rfl,a,j,i⟩;exact⟨.tuple #[.int .i64 er,.int .i64 ln],by simp [results,Tryz.results42,go_sem,j,i],rfl,(zhN _ _ _ b).trans a⟩
section
attribute [local go_sem ↓] Go.wp_at_zero Go.wp_at_succ
theorem Tryz.info131:(Tryz.prog.info? 131).map (fun i=>(i.zero,i.size,i.bytes))=some (some (.agg #[.string ByteArray.empty,.int .i64 0,.slice none 0 0,.map none]),4,56):=by kernel_rfl
theorem Tryz.under80:Tryz.prog.underlying 80=some (.slice 131):=by kernel_rfl
theorem zxw(W:World):(Instr.makeMap 81 none).run Tryz.prog W=.ok (.map (some W.heap.size)) (W.alloc (.map #[] 0)):=by kernel_rfl
theorem zth(w:World)(B p pm n:Nat)(v:Value)(xs:List Value)(i:It)(E:List (ByteArray × Nat))
  (hc:w.cell? ⟨p,0,none⟩=some v) (hm:w.cell? ⟨p,1,none⟩=some (.map (some pm))) (hM:MapIs w pm E) (hown:w.ownsRow B 131 4 v n xs) (_hn:n≤4096)
  (hnm:i.nm.size≤1048576) (hold:(zbH E).any (fun y=>eqW y i.nm)=true) :
  qC 100 #[.pointer (some ⟨p,0,none⟩),stm i.sort i.line i.word i.a i.b i.c i.n i.nm] w fun e w'=>e=zak 3 i.line∧qB w w':=by
 have lg:p<w.heap.size:=World.block_lt_of_cell? w _ hc;have hne4:¬w.heap.size=p:=by omega
 have hne5:¬p=w.heap.size:=by omega
 obtain⟨ao,cap,rfl⟩:=zb7 hown;have d:=zlw ((w.alloc (.cells #[.int .i64 i.sort,.int .i64 i.line,.string i.word,.int .i64 i.a,.int .i64 i.b,.int .i64 i.c,.int .i64 i.n,.string i.nm] 135)).drew) pm E (hM.alloc _).drew i.sort i.line i.word i.a i.b i.c i.n i.nm (n:Int) hnm hold;go_enter Tryz.func100,Tryz.ntmps100;go_wp2_with fail
 go_region_dies
 all_goals(go_at_call 131;refine d.mono ?_;rintro e w2 ⟨rfl,f⟩)
 all_goals exact⟨rfl,rfl,znt _ _ f⟩
theorem zti(w:World)(B p pm n:Nat)(v:Value)(xs:List Value)(i:It)(E:List (ByteArray × Nat))
  (hc:w.cell? ⟨p,0,none⟩=some v) (hm:w.cell? ⟨p,1,none⟩=some (.map (some pm))) (hf:w.frozen? ⟨p,0,none⟩=false) (hM:MapIs w pm E) (hown:w.ownsRow B 131 4 v n xs) (hne:v.ownBlock≠some p) (hB:B≤w.heap.size) (hn:n≤4096) (hnn:E.length≤4096)
  (hnm:i.nm.size≤1048576) (hold:(zbH E).any (fun y=>eqW y i.nm)=false) (hpm:¬p=pm) :
  qC 100 #[.pointer (some ⟨p,0,none⟩),stm i.sort i.line i.word i.a i.b i.c i.n i.nm] w fun e w'=>e=.returned (.tuple #[]) ∧
   ∃ g cap w1 w2,w'=w1.setCell ⟨p,0,none⟩ (.slice (some ⟨g,0,none⟩) (n+1) cap)∧w.grownBy w2 (some pm)∧MapIs w2 pm (E++[(i.nm,n)])∧w2.grownBy w1 v.ownBlock∧w.heap.size≤w2.heap.size∧MapIs w1 w2.heap.size [] ∧
    w1.ownsRow B 131 4 (.slice (some ⟨g,0,none⟩) (n+1) cap) (n+1) (xs++[.string i.nm,.int .i64 i.line,.slice none 0 0,.map (some w2.heap.size)])∧(v.ownBlock=some g∨w2.heap.size<g):=by
 obtain⟨T,C,H,F,A⟩:=info_parts Tryz.info131;have z:p<w.heap.size:=World.block_lt_of_cell? w _ hc;have lm:pm<w.heap.size:=hM.lt;have hne4:¬w.heap.size=p:=by omega
 have hne5:¬p=w.heap.size:=by omega
 have hlt:∀ b,v.ownBlock=some b→b<w.heap.size:=fun b hb=>(hown.lt b hb).2;have l:some p≠v.ownBlock:=fun e=>hne e.symm;have G:=zxN hM hown;have u:v.ownBlock=none∨v.ownBlock≠some pm:=.inr (fun e=>G e.symm);obtain⟨X,s,hbv⟩:=zb7 hown;have q:=hc;rw [hbv] at q;have j:=zlv ((w.alloc (.cells #[.int .i64 i.sort,.int .i64 i.line,.string i.word,.int .i64 i.a,.int .i64 i.b,.int .i64 i.c,.int .i64 i.n,.string i.nm] 135)).drew) pm E (hM.alloc _).drew i.sort i.line i.word i.a i.b i.c i.n i.nm n hn hnn hnm hold;obtain⟨M,D,N,O,S,Q,R,I⟩:=zvK w i.sort i.line i.word i.a i.b i.c i.n i.nm;go_enter Tryz.func100,Tryz.ntmps100;go_wp2_with fail
 go_region_held3 (fun w'=>w'.cell? ⟨p,0,none⟩=some (.slice X n s)∧w'.cell? ⟨p,1,none⟩=some (.map (some pm))∧w'.cell? ⟨w.heap.size,0,none⟩=some (.int .i64 i.sort)∧w'.cell? ⟨w.heap.size,1,none⟩=some (.int .i64 i.line)∧w'.cell? ⟨w.heap.size,2,none⟩=some (.string i.word) ∧
   w'.cell? ⟨w.heap.size,3,none⟩=some (.int .i64 i.a)∧w'.cell? ⟨w.heap.size,4,none⟩=some (.int .i64 i.b)∧w'.cell? ⟨w.heap.size,5,none⟩=some (.int .i64 i.c)∧w'.cell? ⟨w.heap.size,6,none⟩=some (.int .i64 i.n)∧w'.cell? ⟨w.heap.size,7,none⟩=some (.string i.nm))
  (first
    | go_keep
    | (refine⟨?_,?_,?_,?_,?_,?_,?_,?_,?_,?_⟩
       ·(exact(d.cell_far _ (by simp;omega) (by simp;omega)).trans ((zgd w _ _ z).trans q))
       ·(exact(d.cell_far _ (by simp;omega) (by simp;omega)).trans ((zgd w _ _ z).trans hm))
       ·(exact(d.cell_far _ (by simp) (by simp;omega)).trans M)
       ·(exact(d.cell_far _ (by simp) (by simp;omega)).trans D)
       ·(exact(d.cell_far _ (by simp) (by simp;omega)).trans N)
       ·(exact(d.cell_far _ (by simp) (by simp;omega)).trans O)
       ·(exact(d.cell_far _ (by simp) (by simp;omega)).trans S)
       ·(exact(d.cell_far _ (by simp) (by simp;omega)).trans Q)
       ·(exact(d.cell_far _ (by simp) (by simp;omega)).trans R)
       ·(exact(d.cell_far _ (by simp) (by simp;omega)).trans I)))
  (first|(go_at_call 131;refine j.mono ?_;rintro e w2 ⟨rfl,J,d⟩))
 have hsz2:w.heap.size+1≤w2.heap.size:=by have:=d.size;simpa using this
 have V:w2.cell? ⟨p,0,none⟩=some v:=(d.cell_far _ (by simp;omega) (by simp;omega)).trans ((zgd w _ _ z).trans hc);have U:w2.frozen? ⟨p,0,none⟩=false:=(d.frozen_far _ (by simp;omega) (by simp;omega)).trans ((zg9 w _ _ z).trans hf);replace D:=(d.cell_far ⟨w.heap.size,1,none⟩ (by simp) (by simp;omega)).trans D;replace I:=(d.cell_far ⟨w.heap.size,7,none⟩ (by simp) (by simp;omega)).trans I;have k:w2.ownsRow B 131 4 v n xs:=((hown.alloc _).drew).kept d u;have L:w.grownBy w2 (some pm):=zge d;clear j d q hc hm hf hM hown M N O S Q R;have P:p<w2.heap.size:=by omega
 have l3:w.heap.size<w2.heap.size:=by omega
 have hne6:¬w2.heap.size=p:=by omega
 have hne7:¬p=w2.heap.size:=by omega
 have hne8:¬w2.heap.size=w.heap.size:=by omega
 have hne9:¬w.heap.size=w2.heap.size:=by omega
 have m:=MapIs.made w2;have r:∀ b,v.ownBlock=some b→b<w2.heap.size:=fun b hb=>(k.lt b hb).2;have x:some w2.heap.size≠v.ownBlock:=fun e=>by have:=r _ e.symm;omega
 have hmk:=fun W=>zxw W;go_wp2_with fail
 go_region_law
  ((refine step_append_lies _ (by rfl) _ _ _ (by rfl) B 131 T _ 4 56 Tryz.under80 C H F A rfl (by omega) v n xs (by rw [hbv];rfl) (((k.alloc _).alloc _).drew)
     ⟨w2.heap.size+1,0,none⟩ 1 1 [.string i.nm,.int .i64 i.line,.slice none 0 0,.map (some w2.heap.size)] (by rfl) (by rfl) (World.news_of_block (cs:=#[.string i.nm,.int .i64 i.line,.slice none 0 0,.map (some w2.heap.size)]) (t:=131) (fr:=(0,0)) (zoI w2 _ _ _)) (by simp [Value.oneCell'])
     (by omega) (by unfold maxLen;omega) (by omega) (by simp;omega) (w2.heap.size+1+1) (by simp) ?_;intro g cap w1 o f K hltg;have hfz:w1.frozen? ⟨p,0,none⟩=false:=(f.frozen_far _ (by simp;omega) l).trans ((zj8 w2 _ _ _ P).trans U);have hcz:w1.cell? ⟨p,0,none⟩=some v:=(f.cell_far _ (by simp;omega) l).trans ((zoH w2 _ _ _ P).trans V)))
 all_goals go_end0
 all_goals exact⟨rfl,g,cap,w1,w2,rfl,L,J,zl6 f,by omega,((m.alloc _).drew).kept f x,o,by rcases K with h|h;exact .inl h;exact .inr (by omega)⟩
end
end Go.Proofs.YtfpgjkbjbbgciaaGreatDoor
