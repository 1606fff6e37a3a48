import Derived.Test.YtfpgjkbjbbgciaaGreatDoorMj24
import Derived.Test.YtfpgjkbjbbgciaaGreatDoorMj27
set_option maxRecDepth 100000
set_option maxHeartbeats 8000000
namespace Go.Proofs.YtfpgjkbjbbgciaaGreatDoor
section
open Go.RowKit Sp
theorem zoV{F:List FnM}{G:List Fn}(hG:Hid (F.map FnM.fn=G)):F.map FnM.name=G.map Fn.name:=by
 rw [←hG.out,zk8]
theorem PIn.alloc{B:Nat}{w:World}{pm:Nat}{v:Value}{F:List FnM}(h:PIn B w pm v F)(o:Obj):PIn B (w.alloc o) pm v F:=h.of_blocks fun _b _ hb=>Below.heap_alloc _ _ _ hb
theorem PIn.below{B:Nat}{w w':World}{pm:Nat}{v:Value}{F:List FnM}(h:PIn B w pm v F)(hb:qB w w'):PIn B w' pm v F:=h.of_blocks fun b _ hl=>hb.block b hl
theorem zzN{B:Nat}{w:World}{pm:Nat}{v:Value}{F:List FnM}{G:List Fn}(h:PIn B w pm v F)(hG:Hid (F.map FnM.fn=G))(hF:0<F.length)(hn:F.length≤300)(hb:∀ f∈F,f.its.length≤300∧∀ i∈f.its,ItOk i)(l:Int)(hm:Hid (zcX (G.map Fn.name) G=some l)):
  qC 69 #[.agg #[v,.map (some pm)]] w fun e w'=>e=zak 4 l∧qB w w':=by
 have:=zjJ w B pm v F h hF hn hb;rw [zoV hG,hG.out] at this;refine this.mono ?_;rintro e w' ⟨b,⟨l',a,c⟩|⟨a,_⟩⟩
 ·rw [hm.out] at a;cases a;exact⟨c,b⟩
 ·rw [hm.out] at a;cases a
theorem zxz{B:Nat}{w:World}{pm:Nat}{v:Value}{F:List FnM}{G:List Fn}(h:PIn B w pm v F)(hG:Hid (F.map FnM.fn=G))(hF:0<F.length)(hn:F.length≤300)(hb:∀ f∈F,f.its.length≤300∧∀ i∈f.its,ItOk i)(hm:Hid (zcX (G.map Fn.name) G=none)):
  qC 69 #[.agg #[v,.map (some pm)]] w (qR w (.tuple #[])):=by
 have:=zjJ w B pm v F h hF hn hb;rw [zoV hG,hG.out] at this;refine this.mono ?_;rintro e w' ⟨b,⟨l',a,h2⟩|⟨_,a⟩⟩
 ·rw [hm.out] at a;cases a
 ·exact⟨a,b⟩
theorem zzz{B:Nat}{w:World}{pm:Nat}{v:Value}{F:List FnM}{G:List Fn}(h:PIn B w pm v F)(hG:Hid (F.map FnM.fn=G))(hF:0<F.length)(hn:F.length≤300)(hb:∀ f∈F,f.its.length≤300∧∀ i∈f.its,ItOk i)(l:Int)(hm:Hid (endK G=some l)):
  qC 70 #[.agg #[v,.map (some pm)]] w fun e w'=>e=zak 5 l∧qB w w':=by
 have:=zlV w B pm v F h hF hn hb;rw [hG.out] at this;refine this.mono ?_;rintro e w' ⟨b,⟨l',a,c⟩|⟨a,_⟩⟩
 ·rw [hm.out] at a;cases a;exact⟨c,b⟩
 ·rw [hm.out] at a;cases a
theorem zyu{B:Nat}{w:World}{pm:Nat}{v:Value}{F:List FnM}{G:List Fn}(h:PIn B w pm v F)(hG:Hid (F.map FnM.fn=G))(hF:0<F.length)(hn:F.length≤300)(hb:∀ f∈F,f.its.length≤300∧∀ i∈f.its,ItOk i)(hm:Hid (endK G=none)):
  qC 70 #[.agg #[v,.map (some pm)]] w (qR w (.tuple #[])):=by
 have:=zlV w B pm v F h hF hn hb;rw [hG.out] at this;refine this.mono ?_;rintro e w' ⟨b,⟨l',a,h2⟩|⟨_,a⟩⟩
 ·rw [hm.out] at a;cases a
 ·exact⟨a,b⟩
theorem zwi(F:List Fn)(k:Key)(h:0<F.length):0<(addK F k).length:=by
 unfold addK;split
 ·simp
 ·split
  ·exact h
  ·simp
theorem zwj(K:List Key)(F:List Fn)(h:0<F.length):0<(K.foldl addK F).length:=by
 induction K generalizing F with
 | nil=>exact h
 | cons k r ih=>exact ih _ (zwi F k h)
theorem zgO(k:Key)(r:List Key)(hs:k.sort=0):0<((k :: r).foldl addK []).length:=by
 rw [List.foldl_cons,zcK _ _ hs];exact zwj r _ (by simp)
theorem zoW{w w':World}{a b:Value}(hb:Below (w.alloc (.cells #[a,b] 83)).heap.size (w.alloc (.cells #[a,b] 83)) w'):
  w'.cell? ⟨w.heap.size,0,none⟩=some a∧w'.cell? ⟨w.heap.size,1,none⟩=some b∧w'.frozen? ⟨w.heap.size,0,none⟩=false∧w'.frozen? ⟨w.heap.size,1,none⟩=false:=by
 have c:w'.heap[w.heap.size]?=some (.cells #[a,b] 83 (0,0)):=(hb.block _ (by simp)).trans (heap_alloc_new w _);exact⟨by rw [cell_of_row w' _ 0 _ _ _ c];rfl,by rw [cell_of_row w' _ 1 _ _ _ c];rfl,frozen_of_row w' _ 0 _ _ c,frozen_of_row w' _ 1 _ _ c⟩
theorem zqU(s:ByteArray)(k:Key)(r:List Key)(h:Sts s (k :: r))(hs:k.sort=0)(ht:zbg [] (k :: r)=none)(G:List Fn)(hG:(k :: r).foldl addK []=G)(l:Int)(hm:zcX (G.map Fn.name) G=some l):zbT s (4,l):=by
 intro w J;have x:LibW (w.alloc Z33):=J.below ((Below.refl _ _).alloc (Nat.le_refl _) _);have f:=zde s (w.alloc Z33) h.h4 h.h3;have a:=h.begins hs (w.alloc Z33) x;have B:Hid (zbg [] (k :: r)=none):=ht;have D:Hid ((k :: r).foldl addK []=G):=hG;have H:Hid (zcX (G.map Fn.name) G=some l):=hm;have A:0<G.length:=by rw [←hG];exact zgO k r hs
 clear h hs ht hG hm;generalize k :: r=K at a B D;go_enter Tryz.func44,Tryz.ntmps44;go_wp2_with(first
  | (go_at_call 65;refine f.mono ?_;rintro e w1 ⟨rfl,d⟩;subst d)
  | (go_at_call 66;refine a.mono ?_;rintro e L ⟨b,v,i,t,rfl,c,E,C,u,g⟩)
  | (go_at_call 67;refine(zh3 L _ v i t c C g).mono ?_;rintro e w3 ⟨rfl,d⟩;have I:=d.symm;subst I)
  | (go_at_call 68;refine(zn7 _ _ v i t K c E C u g B G D A).mono ?_;rintro e w4 ⟨m,pm,ao,n,cap,F,rfl,j,z,p,q,o⟩)
  | (go_at_call 69;refine(zzN (j.alloc _) z p q o l H).mono ?_;rintro e w5 ⟨rfl,y⟩))
 exact⟨rfl,((zbp _ _ b).trans (m.mono (zbp _ _ b).size)).trans ((zbp _ _ y).mono ((zbp _ _ b).trans (m.mono (zbp _ _ b).size)).size),.inr ⟨by simp,rfl⟩⟩
theorem zt5(s:ByteArray)(k:Key)(r:List Key)(h:Sts s (k :: r))(hs:k.sort=0)(ht:zbg [] (k :: r)=none)(G:List Fn)(hG:(k :: r).foldl addK []=G)(hm:zcX (G.map Fn.name) G=none)(l:Int)(he:endK G=some l):zbT s (5,l):=by
 intro w M;have A:LibW (w.alloc Z33):=M.below ((Below.refl _ _).alloc (Nat.le_refl _) _);have j:=zde s (w.alloc Z33) h.h4 h.h3;have a:=h.begins hs (w.alloc Z33) A;have C:Hid (zbg [] (k :: r)=none):=ht;have E:Hid ((k :: r).foldl addK []=G):=hG;have I:Hid (zcX (G.map Fn.name) G=none):=hm;have L:Hid (endK G=some l):=he;have B:0<G.length:=by rw [←hG];exact zgO k r hs
 clear h hs ht hG hm he;generalize k :: r=K at a C E;go_enter Tryz.func44,Tryz.ntmps44;go_wp2_with(first
  | (go_at_call 65;refine j.mono ?_;rintro e w1 ⟨rfl,g⟩;subst g)
  | (go_at_call 66;refine a.mono ?_;rintro e N ⟨b,v,i,t,rfl,d,H,D,y,m⟩)
  | (go_at_call 67;refine(zh3 N _ v i t d D m).mono ?_;rintro e w3 ⟨rfl,g⟩;have J:=g.symm;subst J)
  | (go_at_call 68;refine(zn7 _ _ v i t K d H D y m C G E B).mono ?_;rintro e w4 ⟨u,pm,ao,n,cap,F,rfl,f,x,p,q,o⟩)
  | (go_at_call 69;refine(zxz (f.alloc _) x p q o I).mono ?_;rintro e w5 ⟨rfl,c⟩;obtain⟨t0,t1,_,_⟩:=zoW c)
  | (go_at_call 70;refine(zzz ((f.alloc _).below c) x p q o l L).mono ?_;rintro e w6 ⟨rfl,z⟩))
 exact⟨rfl,((zbp _ _ b).trans (u.mono (zbp _ _ b).size)).trans ((zbp _ _ (c.trans (z.mono c.size))).mono ((zbp _ _ b).trans (u.mono (zbp _ _ b).size)).size),.inr ⟨by simp,rfl⟩⟩
theorem zjK(s:ByteArray)(k:Key)(r:List Key)(h:Sts s (k :: r))(hs:k.sort=0)(ht:zbg [] (k :: r)=none)(G:List Fn)(hG:(k :: r).foldl addK []=G)(hm:zcX (G.map Fn.name) G=none)(he:endK G=none)(w:World)(hw:LibW w):
  qC 44 #[.string s] w fun e w'=>qB w w'∧∃ pm ao n cap F,e=.returned (.agg #[.slice ao n cap,.map (some pm)])∧PIn w.heap.size w' pm (.slice ao n cap) F∧Hid (F.map FnM.fn=G)∧0<F.length∧F.length≤300∧(∀ f∈F,f.its.length≤300∧∀ i∈f.its,ItOk i):=by
 have I:LibW (w.alloc Z33):=hw.below ((Below.refl _ _).alloc (Nat.le_refl _) _);have y:=zde s (w.alloc Z33) h.h4 h.h3;have a:=h.begins hs (w.alloc Z33) I;have L:Hid (zbg [] (k :: r)=none):=ht;have O:Hid ((k :: r).foldl addK []=G):=hG;have S:Hid (zcX (G.map Fn.name) G=none):=hm;have U:Hid (endK G=none):=he;have J:0<G.length:=by rw [←hG];exact zgO k r hs
 clear h hs ht hG hm he;generalize k :: r=K at a L O;go_enter Tryz.func44,Tryz.ntmps44;go_wp2_with(first
  | (go_at_call 65;refine y.mono ?_;rintro e w1 ⟨rfl,o⟩;subst o)
  | (go_at_call 66;refine a.mono ?_;rintro e P ⟨g,v,i,t,rfl,l,R,N,E,A⟩)
  | (go_at_call 67;refine(zh3 P _ v i t l N A).mono ?_;rintro e w3 ⟨rfl,o⟩;have T:=o.symm;subst T)
  | (go_at_call 68;refine(zn7 _ _ v i t K l R N E A L G O J).mono ?_;rintro e w4 ⟨B,pm,ao,n,cap,F,rfl,d,z,q,x,m⟩)
  | (go_at_call 69;refine(zxz (d.alloc _) z q x m S).mono ?_;rintro e w5 ⟨rfl,j⟩;obtain⟨t0,t1,_,_⟩:=zoW j)
  | (go_at_call 70;refine(zyu ((d.alloc _).below j) z q x m U).mono ?_;rintro e C ⟨rfl,H⟩;have c:=j.trans (H.mono j.size);have D:=zbp _ _ c;have M:=(g.trans (B.mono g.size)).trans (D.mono (g.trans (B.mono g.size)).size);obtain⟨s0,s1,_,_⟩:=zoW c;obtain⟨Y,X,f0,f1⟩:=zoW M))
 have W:=World.cell?_setCell_same (C.setCell ⟨w.heap.size,0,none⟩ (.slice ao n cap)) ⟨w.heap.size,1,none⟩ (.map (some pm)) (u:=.map none) (by rw [World.cell?_setCell_other];exact X;simp);have Q:((C.setCell ⟨w.heap.size,0,none⟩ (.slice ao n cap)).setCell ⟨w.heap.size,1,none⟩ (.map (some pm))).cell? ⟨w.heap.size,0,none⟩=some (.slice ao n cap):=by
  rw [World.cell?_setCell_other]
  ·exact World.cell?_setCell_same C _ _ Y
  ·simp
 refine bodyPost_ret (v:=.agg #[.slice ao n cap,.map (some pm)]) (by simp [results,Tryz.results44,go_sem,W,Q]) rfl ⟨?_,pm,ao,n,cap,F,rfl,?_,z,q,x,m⟩
 ·exact((zbp _ _ M).setCell (p:=⟨w.heap.size,0,none⟩) (Nat.le_refl _) _).setCell (p:=⟨w.heap.size,1,none⟩) (Nat.le_refl _) _
 ·have hw4:(w.alloc Z33).heap.size≤P.heap.size:=g.size;have hz3:(w.alloc Z33).heap.size=w.heap.size+1:=by simp
  have V:=((d.alloc (.cells #[.slice ao n cap,.map (some pm)] 83)).below c)
  exact(V.of_blocks (w':=((C.setCell ⟨w.heap.size,0,none⟩ (.slice ao n cap)).setCell ⟨w.heap.size,1,none⟩ (.map (some pm)))) (fun b hb _=>by rw [Below.heap_setCell _ _ _ _ (by show ¬b=w.heap.size;omega),Below.heap_setCell _ _ _ _ (by show ¬b=w.heap.size;omega)])).mono (by omega)
theorem zwk(s:ByteArray)(k:Key)(r:List Key)(h:Sts s (k :: r))(hs:k.sort=0)(ht:zbg [] (k :: r)=none)(G:List Fn)(hG:(k :: r).foldl addK []=G)(hm:zcX (G.map Fn.name) G=none)(he:endK G=none):zbT s (0,0):=by
 intro w b;refine(zjK s k r h hs ht G hG hm he w b).mono ?_;rintro e w' ⟨a,pm,ao,n,cap,F,rfl,_⟩;exact⟨a,.inl ⟨rfl,_,rfl⟩⟩
theorem zgm(s:ByteArray)(hs:s.size≤9223372036854775807):zbT s (zaQ s):=by
 unfold zaQ;by_cases h:4000<s.size∨300<(lines s).length
 ·rw [if_pos h];exact ztj s hs h
 ·rw [if_neg h];have d:s.size≤4000:=by omega
  have e:(lines s).length≤300:=by omega
  by_cases a:∀ x∈lines s,(say x).ok=true
  ·rw [zfl _ a 0,zfk _ a];have S:Sts s (zbl (lines s) (lines s).length):=⟨d,e,a,rfl⟩
   generalize zbl (lines s) (lines s).length=K at S;cases K with
   | nil=>exact zqC s S
   | cons k r =>
    unfold sayK;dsimp only;by_cases b:k.sort=0
    ·rw [if_pos b];cases ht:zbg [] (k :: r) with
     | some l=>exact zn8 s k r S b l ht
     | none =>
      generalize c:(k :: r).foldl addK []=G;cases hm:zcX (G.map Fn.name) G with
      | some l=>exact zqU s k r S b ht G c l hm
      | none =>
       cases he:endK G with
       | some l=>exact zt5 s k r S b ht G c hm l he
       | none=>exact zwk s k r S b ht G c hm he
    ·rw [if_neg b];exact zn6 s k r S b
  ·exact zvY s d e a
def zgG(w:World)(mm:Mc):Ending→World→Prop:=fun e w'=>∃ ao no co,e=.returned (.agg (zan mm (.slice ao no co) mm.line).toArray)∧w'.ownsRow w.heap.size 2 1 (.slice ao no co) mm.out.length (i64s mm.out)∧qB w w'
theorem zlR(L:List Said)(w:World)(b g cap2:Nat)(m:Mc)(bv iv ov:Value)(R:RefAt w b g cap2 L m bv iv ov)(hn:L.length≤300)(A:AtOk L m):
  ∃ ao no co,ov=.slice ao no co∧qC 56 #[.pointer (some ⟨b,0,none⟩)] w (qR w (.agg (zan m (.slice ao no co) m.line).toArray)):=by
 obtain⟨ao,co,rfl⟩:=zb7 R.out;refine⟨ao,_,co,rfl,?_⟩;have i:=R.mem.range;have j:=zas m (.slice ao m.out.length co) 0;have a:=zil m (.slice ao m.out.length co) 0;have c:=zsY m (.slice ao m.out.length co) 0;have f:=zaz m ao m.out.length co 0;have d:=R.mem.cAt;rcases A with ⟨h|h,ha⟩|⟨l,k,n,hlt,_⟩
 ·rw [show m.line=0 by unfold Mc.line;rw [if_pos (.inl h)]];rw [ha] at d;exact zzR w b _ _ m.fin j f i a c d (.inl h) (zfj _ _ _ _) (zaz _ _ _ _ _)
 ·rw [show m.line=0 by unfold Mc.line;rw [if_pos (.inr h)]];rw [ha] at d;exact zzR w b _ _ m.fin j f i a c d (.inr h) (zfj _ _ _ _) (zaz _ _ _ _ _)
 ·rw [show m.line=(k:Int)+1 by unfold Mc.line;rw [if_neg (by omega),n]];rw [n] at d;exact zta w b k _ _ m.fin j f i a c d (by omega) (by rcases l with h|h|h <;> rw [h] <;> rfl) (by rcases l with h|h|h <;> rw [h] <;> rfl) (zfj _ _ _ _) (zaz _ _ _ _ _)
def stepsAt(w:World)(b:Nat):Nat:=match w.cell? ⟨b,4,none⟩ with|some (.int _ s)=>s.toNat|_=>0
theorem RefM.stepsAt{w:World}{b:Nat}{lv bv iv ov:Value}{m:Mc}(h:RefM w b lv bv iv ov m):Go.Proofs.YtfpgjkbjbbgciaaGreatDoor.stepsAt w b=m.steps.toNat:=by unfold Go.Proofs.YtfpgjkbjbbgciaaGreatDoor.stepsAt;rw [h.cS]
structure RunAt(L:List Said)(n g cap2 b:Nat)(w0 wr:World)(FIN m:Mc)(bv iv ov:Value):Prop where
 ref:RefAt wr b g cap2 L m bv iv ov
 inv:m.fin=0→InvR L m
 fin:m.fin=0∨m.fin=1∨m.fin=2
 ok:AtOk L m
 st0:0≤m.steps
 st1:m.steps≤(n:Int)
 inp:m.inp.length≤1048576
 run:FIN=runS (zbz L) (n-m.steps.toNat) m
 low:qB w0 wr
theorem RunAt.round{L:List Said}{n g cap2 b:Nat}{w0 wr:World}{FIN m:Mc}{bv iv ov:Value}(Z:RunAt L n g cap2 b w0 wr FIN m bv iv ov)(G:Good L)(hL:LinesIn w0 g L)(hb:w0.heap.size≤b)(hn:n≤100000)(hlt:m.steps<(n:Int)):
  (qC 55 #[.pointer (some ⟨b,0,none⟩)] wr fun e w'=>e=.returned (.bool true)∧∃ m2 bv' iv' ov',RunAt L n g cap2 b w0 w' FIN m2 bv' iv' ov'∧m2.steps=m.steps+1) ∨
  (qC 55 #[.pointer (some ⟨b,0,none⟩)] wr fun e w'=>e=.returned (.bool false)∧∃ bv' iv' ov',RefAt w' b g cap2 L FIN bv' iv' ov'∧AtOk L FIN∧qB w0 w'):=by
 by_cases c:m.fin=0
 ·have o:=Z.inv c;obtain⟨j,a⟩:=ztn G Z.ref o c hL Z.low hb (by omega) Z.inp;obtain⟨l,p,hin⟩:=zyn o c a;have hrun:FIN=runS (zbz L) (n-m.steps.toNat-1) (zbz L m):=by
   rw [Z.run,show n-m.steps.toNat=(n-m.steps.toNat-1)+1 by have:=Z.st0;omega,zbZ _ _ _ c];rfl
  rcases p with ⟨k,h⟩|⟨k,h⟩
  ·right;refine j.mono ?_;rintro e w' ⟨f,bv',iv',ov',i,d⟩;have q:FIN=zbz L m:=by rw [hrun,zbY _ _ _ (by omega)]
   refine⟨by rw [f,show decide (¬((zbz L m).fin=3∨(zbz L m).fin=4))=false by simp;omega],bv',iv',ov',by rw [q];exact i,by rw [q];exact l,Z.low.trans (d.mono hb)⟩
  ·left;refine j.mono ?_;rintro e w' ⟨f,bv',iv',ov',i,d⟩;refine⟨by rw [f,show decide (¬((zbz L m).fin=3∨(zbz L m).fin=4))=true by simp;omega],zbz L m,bv',iv',ov',⟨i,a,k,l,by have:=Z.st0;omega,by omega,by have:=Z.inp;omega,?_,Z.low.trans (d.mono hb)⟩,h⟩;rw [hrun,h];congr 1;have:=Z.st0;omega
 ·right;refine(zqE wr b _ bv iv ov m Z.ref.mem (by simpa using c)).mono ?_;rintro e w' ⟨f,rfl⟩;have q:FIN=m:=by rw [Z.run,zbY _ _ _ c]
  exact⟨f,bv,iv,ov,by rw [q];exact Z.ref,by rw [q];exact Z.ok,Z.low⟩
theorem zam{w w':World}{B b o n:Nat}(h:w.there b o n)(hb:Below B w w')(hB:b<B):w'.there b o n:=fun j hj=>by
 obtain⟨h1,h2⟩:=h j hj;exact⟨by rw [hb.cell (p:=⟨b,o+j,none⟩) hB];exact h1,by rw [World.frozen?_of_block (w:=w) (hb.block b hB)];exact h2⟩
theorem zfC{W1 w3 w4:World}{r:Nat}(ht1:W1.there r 0 30)(hs1:W1.heap.size=r+1)(hb3:qB W1 w3)(hb4:qB w3 w4)(ds:List Value)(hl:ds.length=30):w4.there r 0 ds.toArray.size:=by
 rw [show ds.toArray.size=30 by simp [hl]];have a:=zam ht1 hb3 (by omega);exact zam a hb4 (by have:=hb3.size;omega)
theorem zbd(ds:List Value)(hl:ds.length=30):(Tryz.prog.info? 34).map (·.size)=some ds.toArray.size:=by rw [show ds.toArray.size=30 by simp [hl]];exact Tryz.info34
theorem zjH{w W1 w3 w4:World}{g cap2:Nat}{L:List Said}{FIN:Mc}{bv iv:Value}{ao:Option Addr}{no co:Nat}{act:Act}(ht1:W1.there w.heap.size 0 30)(hs1:W1.heap.size=w.heap.size+1)(hb1:qB w W1)(hb3:qB W1 w3)(R3:RefAt w3 (w.heap.size+1) g cap2 L FIN bv iv (.slice ao no co))(hb4:qB w3 w4)
  (hp:act.tmps.getD 6 undef=.pointer (some ⟨w.heap.size,0,none⟩)) (hd:act.defers=[]) :
  bodyPost Tryz.prog Tryz.f24 (zgG w FIN) .ret act (w4.setCells w.heap.size 0 (zan FIN (.slice ao no co) FIN.line)):=by
 have h:=zas FIN (.slice ao no co) FIN.line;have c:=zfC ht1 hs1 hb3 hb4 _ h;generalize hds:zan FIN (.slice ao no co) FIN.line=ds at h c;have b:Tryz.prog.underlying 34=some (.struct _):=Tryz.underlying34;have i:=World.rangeAt_setCells_same w4 w.heap.size 0 ds (by rw [show ds.length=ds.toArray.size by simp];exact c);have d:=run_loadVar_mid (w4.setCells w.heap.size 0 ds) w.heap.size 0 34 ds _ i b rfl (by rw [h];exact Tryz.info34);have a:qB w w4:=(hb1.trans (hb3.mono (by omega))).trans (hb4.mono (by have:=hb3.size;omega));refine bodyPost_ret (v:=.agg ds.toArray) (zb9 Tryz.results24 _ ⟨w.heap.size,0,none⟩ hp d) hd ⟨ao,no,co,by rw [hds],?_,zal ds 0 a (Nat.le_refl _)⟩;have f:=zbi R3.out hb4 (Nat.le_refl _);have e:(w4.setCells w.heap.size 0 ds).ownsRow (w.heap.size+1+1) 2 1 (.slice ao no co) FIN.out.length (i64s FIN.out):=zaj f (fun q hq=>za6 ds w4 _ _ _ (by have:=(f.lt q hq).1;omega));exact zbk e (by omega)
theorem zgH(w:World)(g cap2 n icap:Nat)(ao:Option Addr)(L:List Said)(inp:List Int)(G:Good L)(hL:LinesIn w g L)(hiv:SlB w w.heap.size (.slice ao inp.length icap) inp)(hin:inp.length≤1048576)(hn:n≤100000):
  qC 24 #[.slice (some ⟨g,0,none⟩) L.length cap2,.slice ao inp.length icap,.int .i64 (n:Int)] w (zgG w (runS (zbz L) n (zc3 L inp))):=by
 obtain⟨p,D,P,R⟩:=G.head;have e1:zcD L 0=p:=zgF L 0 p D P (by omega) (fun j h _ hb=>R j h hb);have c:qB w (w.alloc Z34):=(Below.refl _ _).alloc (Nat.le_refl _) _;have i:(w.alloc Z34).heap.size=w.heap.size+1:=by simp
 have f:=zb8 w;have b:=zto (w.alloc Z34) g cap2 p icap ao L inp (hL.below c) G.few D P R (zad L (p+1)) rfl (by
  obtain⟨a,y,N,K,Q⟩:=hiv;refine⟨a,y,N,K,fun D=>?_⟩;obtain⟨V,W,r1,r2,r3,r4⟩:=Q D;exact⟨V,W,r1,by omega,by omega,fun j hj=>(c.cell (p:=⟨V,W+j,none⟩) r3).trans (r4 j hj)⟩)
 have A:=ztp G inp;have em:zc3 L inp=⟨zad L (p+1),[],inp,0,fun _=>0,fun _=>0,[],1,1,0⟩:=by unfold zc3;rw [e1]
 rw [em] at A ⊢;generalize B:(⟨zad L (p+1),[],inp,0,fun _=>0,fun _=>0,[],1,1,0⟩:Mc)=m0 at b A ⊢;have f0:m0.fin=0∧m0.steps=0∧m0.inp=inp:=by rw [←B];exact⟨rfl,rfl,rfl⟩
 obtain⟨I,f2,f3⟩:=f0;generalize C:runS (zbz L) n m0=FIN;have T:Hid (FIN=runS (zbz L) n m0):=C.symm;clear C B em e1;have hu34:Tryz.prog.underlying 34=some (.struct _):=Tryz.underlying34;rw [i] at b;clear hiv;go_enter Tryz.func24,Tryz.ntmps24;go_wp2_with(first|(go_at_call 54;refine b.mono ?_;rintro e W2 ⟨rfl,X,v⟩))
 have z:=hL.below c;clear b hL;generalize w.alloc Z34=W1 at c i f v z
 go_loopw [8] (fun _ wr=>∃(m:Mc) (M F E:Value),RunAt L n g cap2 (w.heap.size+1) W1 wr FIN m M F E) (fun _ wr=>n-stepsAt wr (w.heap.size+1))
 case atStart=>exact⟨m0,_,_,_,⟨X,fun _=>A,.inl I,.inr ⟨.inl I,A.at_⟩,by omega,by omega,by rw [f3];exact hin,by rw [f2];exact T.out,v⟩⟩
 case round =>
  obtain⟨m,M,F,E,Z⟩:=hrel;have cS:=Z.ref.mem.cS;clear X v T A I f2 f3;by_cases J:m.steps<(n:Int)
  ·rcases Z.round G z (by omega) hn J with O|O
   ·go_wp2_with(first|(go_at_call 55;refine O.mono ?_;rintro e U ⟨rfl,Y,t,r,s,S,hs⟩))
    have N:=S.ref.mem.stepsAt;have K:=Z.ref.mem.stepsAt;have Q:=Z.st0;go_roundw
    case rel=>exact⟨Y,t,r,s,S⟩
    case measure=>rw [N,K];omega
   ·go_wp2_with(first|(go_at_call 55;refine O.mono ?_;rintro e U ⟨rfl,t,r,s,x,H,k⟩;obtain⟨a,l,d,rfl,q⟩:=zlR L U (w.heap.size+1) g cap2 FIN t r s x G.few H)|(go_at_call 56;refine q.mono ?_;rintro e w4 ⟨rfl,o⟩;have u:=zfC f i k o _ (zas FIN (.slice a l d) FIN.line))|(refine wpList_store_mid rfl 34 _ _ rfl w.heap.size 0 (zan FIN (.slice a l d) FIN.line).toArray rfl rfl u (zbd _ (zas _ _ _)) (zaz _ _ _ _ _) ?_))
    exact zjH f i c k x o rfl rfl
  ·have C:FIN=m:=by
    rw [Z.run,show n-m.steps.toNat=0 by have:=Z.st1;omega];rfl
   subst C;have x:=Z.ref;have H:=Z.ok;have k:=Z.low;obtain⟨a,l,d,rfl,q⟩:=zlR L wr (w.heap.size+1) g cap2 FIN M F E x G.few H;go_wp2_with(first|(go_at_call 56;refine q.mono ?_;rintro e w4 ⟨rfl,o⟩;have u:=zfC f i k o _ (zas FIN (.slice a l d) FIN.line))|(refine wpList_store_mid rfl 34 _ _ rfl w.heap.size 0 (zan FIN (.slice a l d) FIN.line).toArray rfl rfl u (zbd _ (zas _ _ _)) (zaz _ _ _ _ _) ?_))
   exact zjH f i c k x o rfl rfl
end
section
open Sp
theorem ziC{k:Kn}{l r:Nat}{holds fails:Rg→Rg→Option (Rg × Rg)}{to:Int}(K:KnOk k)(_hl:l<8)(_hr:r<8)
  (h1:∀ a b,holds (k.regs l) (k.regs r)=some (a,b)→a.Ok∧b.Ok) (h2:∀ a b,fails (k.regs l) (k.regs r)=some (a,b)→a.Ok∧b.Ok) :
  ∀ k'∈zbE k l r holds fails to,k'.steps=k.steps+1∧KnOk k':=by
 intro k' f;unfold zbE at f;have g:∀ a b,a.Ok∧b.Ok→∀ z,({ k with regs:=updR (updR k.regs l a) r b }.goTo z).steps=k.steps+1∧KnOk ({ k with regs:=updR (updR k.regs l a) r b }.goTo z):=fun a b h z=>⟨rfl,⟨ze1 (ze1 K.regs h.1) h.2,K.cells⟩⟩
 cases hh:holds (k.regs l) (k.regs r) with
 | none =>
  cases hf:fails (k.regs l) (k.regs r) with
  | none=>rw [hh,hf] at f;rw [List.mem_singleton.1 f];exact⟨rfl,⟨K.regs,K.cells⟩⟩
  | some q=>obtain⟨c,d⟩:=q;rw [hh,hf] at f;rw [List.mem_singleton.1 f];exact g c d (h2 c d hf) _
 | some q =>
  obtain⟨a,b⟩:=q;cases hf:fails (k.regs l) (k.regs r) with
  | none=>rw [hh,hf] at f;rw [List.mem_singleton.1 f];exact g a b (h1 a b hh) _
  | some q =>
   obtain⟨c,d⟩:=q;rw [hh,hf] at f;rcases List.mem_cons.1 f with e|e
   ·rw [e];exact g a b (h1 a b hh) _
   ·rw [List.mem_singleton.1 e];exact g c d (h2 c d hf) _
theorem zjX{k:Kn}{i:Ins}{ks:List Kn}(K:KnOk k)(hi:zhw i)(h64:zkJ i)(h:za7 i k=some ks):∀ k'∈ks,k'.steps=k.steps+1∧KnOk k':=by
 have c:∀(f g:Nat→Rg) (z:Int) (b:List Int),(∀ r,r<8→(f r).Ok)→(∀ r,r<16→(g r).Ok)→∀ k'∈[({ k with regs:=f,cells:=g,behind:=b }:Kn).goTo z],k'.steps=k.steps+1∧KnOk k':=fun f g z b e l k' d=>by
  rw [List.mem_singleton.1 d];exact⟨rfl,⟨e,l⟩⟩
 cases i with
 | set r n =>
  simp only [za7,Option.some.injEq] at h;subst h;exact c _ _ _ _ (ze1 K.regs (zi8 h64)) K.cells
 | mov r s =>
  simp only [za7,Option.some.injEq] at h;subst h;exact c _ _ _ _ (ze1 K.regs (K.regs s hi.2)) K.cells
 | alu o r s t =>
  simp only [za7,Option.some.injEq] at h;subst h;refine c _ _ _ _ (ze1 K.regs ?_) K.cells;split
  ·exact zua _ _
  ·split
   ·split
    ·exact zi8 (by unfold i64;omega)
    ·exact zw7 _ _
   ·exact zw9 (K.regs s hi.2.2.1) (K.regs t hi.2.2.2)
 | inc r n =>
  simp only [za7,Option.some.injEq] at h;subst h;exact c _ _ _ _ (ze1 K.regs (zua _ _)) K.cells
 | load r s =>
  simp only [za7] at h;cases ht:zcm (k.regs s) with
  | none=>rw [ht] at h;cases h
  | some q =>
   obtain⟨a,b⟩:=q;rw [ht] at h;simp only [Option.some.injEq] at h;subst h;obtain⟨e,l⟩:=zri ht (K.regs s hi.2);exact c _ _ _ _ (ze1 K.regs (zrh (fun j _ hj=>K.cells j (by omega)))) K.cells
 | store r s =>
  simp only [za7] at h;cases ht:zcm (k.regs r) with
  | none=>rw [ht] at h;cases h
  | some q =>
   obtain⟨a,b⟩:=q;rw [ht] at h;simp only [Option.some.injEq] at h;subst h;exact c _ _ _ _ K.regs (zwB K.cells (K.regs s hi.2))
 | read r =>
  simp only [za7,Option.some.injEq] at h;subst h;exact c _ _ _ _ (ze1 K.regs ztW) K.cells
 | write r =>
  simp only [za7,Option.some.injEq] at h;subst h;exact c _ _ _ _ K.regs K.cells
 | jump to =>
  simp only [za7,Option.some.injEq] at h;subst h;exact c _ _ _ _ K.regs K.cells
 | less r s to =>
  simp only [za7] at h;split at h
  ·simp only [Option.some.injEq] at h;subst h;exact c _ _ _ _ K.regs K.cells
  ·simp only [Option.some.injEq] at h;subst h;exact ziC K hi.1 hi.2 (fun a b=>zy2 (K.regs r hi.1) (K.regs s hi.2)) (fun a b=>zre (K.regs r hi.1) (K.regs s hi.2))
 | same r s to =>
  simp only [za7] at h;split at h
  ·simp only [Option.some.injEq] at h;subst h;exact c _ _ _ _ K.regs K.cells
  ·simp only [Option.some.injEq] at h;subst h;exact ziC K hi.1 hi.2 (fun a b=>zy3 (K.regs r hi.1) (K.regs s hi.2)) (fun a b=>zrf (K.regs r hi.1) (K.regs s hi.2))
 | call to =>
  simp only [za7] at h;split at h
  ·cases h
  ·simp only [Option.some.injEq] at h;subst h;exact c _ _ _ _ K.regs K.cells
 | back =>
  simp only [za7] at h;cases hb:k.behind with
  | nil=>rw [hb] at h;simp only [Option.some.injEq] at h;subst h;intro k' d;cases d
  | cons b r =>
   rw [hb] at h;simp only [Option.some.injEq] at h;subst h;exact c _ _ _ _ K.regs K.cells
 | stop =>
  simp only [za7,Option.some.injEq] at h;subst h;intro k' d;cases d
theorem zy7{m:Mc}{i:Ins}(M:Mc64 m)(hi:zhw i)(h64:zkJ i):Mc64 (zba i m):=by
 have b:Mc64 (exec i (m.at'+1) m):=by
  cases i with
  | set r n=>exact⟨ziB M.regs h64,M.cells,M.inp⟩
  | mov r s=>exact⟨ziB M.regs (M.regs s hi.2),M.cells,M.inp⟩
  | alu o r s t =>
   refine⟨ziB M.regs ?_,M.cells,M.inp⟩;unfold zby
   repeat' split
   all_goals exact zeh _
  | inc r n=>exact⟨ziB M.regs (zeh _),M.cells,M.inp⟩
  | load r s =>
   by_cases a:m.regs s<0∨15<m.regs s
   ·have c:exec (.load r s) (m.at'+1) m={ m with fin:=3 }:=if_pos a;rw [c];exact⟨M.regs,M.cells,M.inp⟩
   ·have c:exec (.load r s) (m.at'+1) m={ m with regs:=upd m.regs r (m.cells (m.regs s).toNat) }.goes (m.at'+1):=if_neg a;rw [c];exact⟨ziB M.regs (M.cells _ (by omega)),M.cells,M.inp⟩
  | store r s =>
   by_cases a:m.regs r<0∨15<m.regs r
   ·have c:exec (.store r s) (m.at'+1) m={ m with fin:=3 }:=if_pos a;rw [c];exact⟨M.regs,M.cells,M.inp⟩
   ·have c:exec (.store r s) (m.at'+1) m={ m with cells:=upd m.cells (m.regs r).toNat (m.regs s) }.goes (m.at'+1):=if_neg a;rw [c];exact⟨M.regs,ziB M.cells (M.regs s hi.2),M.inp⟩
  | read r =>
   refine⟨ziB M.regs ?_,M.cells,fun x hx=>M.inp x (List.mem_of_mem_tail hx)⟩;cases hin:m.inp with
   | nil=>unfold i64;simp
   | cons x t=>exact M.inp x (by rw [hin];exact List.mem_cons_self)
  | write r=>exact⟨M.regs,M.cells,M.inp⟩
  | jump to=>exact⟨M.regs,M.cells,M.inp⟩
  | less r s to=>exact⟨M.regs,M.cells,M.inp⟩
  | same r s to=>exact⟨M.regs,M.cells,M.inp⟩
  | call to =>
   by_cases a:m.frames=16
   ·have c:exec (.call to) (m.at'+1) m={ m with fin:=4 }:=if_pos a;rw [c];exact⟨M.regs,M.cells,M.inp⟩
   ·have c:exec (.call to) (m.at'+1) m={ m with backs:=m.backs++[m.at'+1],frames:=m.frames+1,peak:=max m.peak (m.frames+1) }.goes to:=if_neg a;rw [c];exact⟨M.regs,M.cells,M.inp⟩
  | back =>
   by_cases a:m.frames=1
   ·have c:exec .back (m.at'+1) m={ m with frames:=0,fin:=2 }.goes (-1):=if_pos a;rw [c];exact⟨M.regs,M.cells,M.inp⟩
   ·have c:exec .back (m.at'+1) m={ m with frames:=m.frames-1,backs:=m.backs.dropLast }.goes (m.backs.getLastD 0):=if_neg a;rw [c];exact⟨M.regs,M.cells,M.inp⟩
  | stop=>exact⟨M.regs,M.cells,M.inp⟩
 unfold zba;split
 ·exact⟨b.regs,b.cells,b.inp⟩
 ·exact b
theorem zmv(i:Ins)(m:Mc):(zba i m).peak=m.peak∨(zba i m).peak=max m.peak (zba i m).frames∧(zba i m).fin=m.fin:=by
 have e1:(zba i m).peak=(exec i (m.at'+1) m).peak:=by unfold zba;split <;> rfl
 cases i with
 | call to =>
  by_cases h:m.frames=16
  ·left;rw [e1,show exec (.call to) (m.at'+1) m={ m with fin:=4 } from if_pos h]
  ·right;have d:exec (.call to) (m.at'+1) m={ m with backs:=m.backs++[m.at'+1],frames:=m.frames+1,peak:=max m.peak (m.frames+1) }.goes to:=if_neg h;have c:(zba (.call to) m).frames=m.frames+1:=by unfold zba;rw [d];split <;> rfl
   have e:(zba (.call to) m).fin=m.fin:=by unfold zba;rw [d];split <;> rfl
   exact⟨by rw [e1,c,d];rfl,e⟩
 | load r s =>
  left;rw [e1];by_cases a:m.regs s<0∨15<m.regs s
  ·have b:exec (.load r s) (m.at'+1) m={ m with fin:=3 }:=if_pos a;rw [b]
  ·have b:exec (.load r s) (m.at'+1) m={ m with regs:=upd m.regs r (m.cells (m.regs s).toNat) }.goes (m.at'+1):=if_neg a;rw [b];rfl
 | store r s =>
  left;rw [e1];by_cases a:m.regs r<0∨15<m.regs r
  ·have b:exec (.store r s) (m.at'+1) m={ m with fin:=3 }:=if_pos a;rw [b]
  ·have b:exec (.store r s) (m.at'+1) m={ m with cells:=upd m.cells (m.regs r).toNat (m.regs s) }.goes (m.at'+1):=if_neg a;rw [b];rfl
 | back =>
  left;rw [e1];by_cases a:m.frames=1
  ·have b:exec .back (m.at'+1) m={ m with frames:=0,fin:=2 }.goes (-1):=if_pos a;rw [b];rfl
  ·have b:exec .back (m.at'+1) m={ m with frames:=m.frames-1,backs:=m.backs.dropLast }.goes (m.backs.getLastD 0):=if_neg a;rw [b];rfl
 | _=>left;rw [e1];rfl
theorem zug(f:Mc→Mc)(n:Nat)(m:Mc)(h:(runS f n m).fin=0):runS f (n+1) m=f (runS f n m):=by
 induction n generalizing m with
 | zero =>
  have b:m.fin=0:=h;rw [zbZ _ _ _ b];rfl
 | succ n ih =>
  by_cases a:m.fin=0
  ·rw [zbZ _ _ _ a] at h;rw [zbZ _ _ _ a,ih _ h,zbZ _ _ _ a]
  ·rw [zbY _ _ _ a] at h;exact absurd h a
structure CodeSure(C:List (Ins × Int)):Prop where
 ok:CodeOk C
 n64:∀ j (h:j<C.length),zkJ C[j].1
structure RunAtC(C:List (Ins × Int))(inp:List Int)(n:Nat)(m:Mc):Prop where
 run:m=runS (zcF C) n (zb0 inp)
 inv:InvD C.length m
 m64:Mc64 m
 steps:m.steps=(n:Int)
def ziD(C:List (Ins × Int))(W:List Kn)(bs bf:Int)(inp:List Int):Prop :=
 ∃ n m,RunAtC C inp n m∧((m.fin=0∧(∃ k∈W,Cov k m)∧m.peak≤max bf m.frames)∨((m.fin=1∨m.fin=2)∧m.steps≤bs∧m.peak≤bf))
theorem znT{C:List (Ins × Int)}(S:CodeSure C)(inp:List Int)(hin:∀ x∈inp,i64 x)(bs bf:Int):ziD C [kn0] bs bf inp:=by
 refine⟨0,zb0 inp,⟨rfl,zef S.ok inp,⟨fun _ _=>by show i64 0;unfold i64;omega,fun _ _=>by show i64 0;unfold i64;omega,hin⟩,rfl⟩,.inl ⟨rfl,⟨kn0,zbV _,⟨fun _ _=>zgS 0,fun _ _=>zgS 0,rfl,rfl,rfl⟩⟩,?_⟩⟩;show(1:Int)≤max bf 1;omega
theorem zrl{C:List (Ins × Int)}(S:CodeSure C){W W' ks:List Kn}{k:Kn}{bs bf:Int}{inp:List Int}{p:Nat}(hp:p<C.length)(hk:k.next=(p:Int))(K:KnOk k)(hbs:bs≤k.steps+1)
  (hl:za7 C[p].1 k=some ks) (hW:∀ x∈W,x=k∨x∈W') (T:ziD C W bs bf inp):ziD C (W'++ks) (k.steps+1) (max bf ((k.behind.length:Int)+1)) inp:=by
 obtain⟨n,m,R,h⟩:=T;rcases h with ⟨a,⟨x,s,g⟩,hpk⟩|⟨a,h1,h2⟩
 ·rcases hW x s with rfl|hx'
  ·have d:m.at'=(p:Int):=g.next.trans hk;have f:=R.inv.frames;rw [if_neg (by omega)] at f;have hbl:=congrArg List.length g.behind;have l:zcF C m=zba C[p].1 m:=zh5 d hp;have A:=znQ g K R.m64 (S.ok.ok p hp) (S.n64 p hp) a f hl;have F:=ziv C[p].1 m a;have hcs:=g.steps;have c:RunAtC C inp (n+1) (zba C[p].1 m)∨((zba C[p].1 m).fin=3∨(zba C[p].1 m).fin=4):=by
    rcases F.1 with ⟨_,hs⟩|⟨i,_⟩
    ·refine .inl ⟨?_,R.inv.step a d (S.ok.leads p hp),zy7 R.m64 (S.ok.ok p hp) (S.n64 p hp),by rw [hs,R.steps];rfl⟩;rw [zug _ _ _ (by rw [←R.run];exact a),←R.run,l]
    ·exact .inr i
   have b:(zba C[p].1 m).peak≤max (max bf ((x.behind.length:Int)+1)) (zba C[p].1 m).frames:=by
    rcases zmv C[p].1 m with e|⟨e,_⟩ <;> rw [e] <;> omega
   rcases A with ⟨i,r,o,q⟩|i
   ·rcases c with c|c
    ·exact⟨n+1,_,c,.inl ⟨i,⟨r,List.mem_append_right _ o,q⟩,b⟩⟩
    ·omega
   ·rcases c with c|c
    ·refine⟨n+1,_,c,.inr ⟨i,?_,?_⟩⟩
     ·have:=c.steps;have:=R.steps;omega
     ·rcases zmv C[p].1 m with e|⟨_,e⟩
      ·rw [e];omega
      ·omega
    ·omega
  ·exact⟨n,m,R,.inl ⟨a,⟨x,List.mem_append_left _ hx',g⟩,by omega⟩⟩
 ·exact⟨n,m,R,.inr ⟨a,by omega,by omega⟩⟩
def zfJ(k o:Kn):Kn:={ k with regs:=fun r=>(k.regs r).or (o.regs r),cells:=fun c=>(k.cells c).or (o.cells c) }
theorem zuh{k o:Kn}{m:Mc}(h:Cov k m):Cov (zfJ k o) m:=⟨fun r hr=>zkH (h.regs r hr) _,fun c hc=>zkH (h.cells c hc) _,h.next,h.behind,h.steps⟩
theorem zrm{k o:Kn}{m:Mc}(h:Cov o m)(h1:o.next=k.next)(h2:o.behind=k.behind)(h3:o.steps=k.steps):Cov (zfJ k o) m :=
 ⟨fun r hr=>zhA (h.regs r hr) _,fun c hc=>zhA (h.cells c hc) _,h.next.trans h1,h.behind.trans h2,h.steps.trans h3⟩
theorem zy8{k o:Kn}(h:KnOk k)(h':KnOk o):KnOk (zfJ k o):=⟨fun r hr=>zw5 (h.regs r hr) (h'.regs r hr),fun c hc=>zw5 (h.cells c hc) (h'.cells c hc)⟩
theorem zrn{C:List (Ins × Int)}{W W':List Kn}{k o:Kn}{bs bf:Int}{inp:List Int}(h1:o.next=k.next)(h2:o.behind=k.behind)(h3:o.steps=k.steps)(hW:∀ x∈W,x=k∨x=o∨x∈W')(T:ziD C W bs bf inp):ziD C (zfJ k o :: W') bs bf inp:=by
 obtain⟨n,m,R,h⟩:=T;refine⟨n,m,R,?_⟩;rcases h with ⟨d,⟨x,c,b⟩,a⟩|h
 ·refine .inl ⟨d,?_,a⟩;rcases hW x c with rfl|rfl|hx'
  ·exact⟨_,List.mem_cons_self,zuh b⟩
  ·exact⟨_,List.mem_cons_self,zrm b h1 h2 h3⟩
  ·exact⟨x,List.mem_cons_of_mem _ hx',b⟩
 ·exact .inr h
theorem zjY{C:List (Ins × Int)}{W W':List Kn}{bs bf:Int}{inp:List Int}(hW:∀ x∈W,x∈W')(T:ziD C W bs bf inp):ziD C W' bs bf inp:=by
 obtain⟨n,m,R,h⟩:=T;refine⟨n,m,R,?_⟩;rcases h with ⟨d,⟨x,b,c⟩,a⟩|h
 ·exact .inl ⟨d,⟨x,hW x b,c⟩,a⟩
 ·exact .inr h
theorem zui{C:List (Ins × Int)}{bs bf:Int}{inp:List Int}(T:ziD C [] bs bf inp)(N:Nat)(hN:bs≤(N:Int)):
  ((runS (zcF C) N (zb0 inp)).fin=1∨(runS (zcF C) N (zb0 inp)).fin=2)∧(runS (zcF C) N (zb0 inp)).steps≤bs∧(runS (zcF C) N (zb0 inp)).peak≤bf:=by
 obtain⟨n,m,R,h⟩:=T;rcases h with ⟨_,⟨x,l,_⟩,_⟩|⟨i,e,g⟩
 ·cases l
 ·have f:=R.steps;obtain⟨d,rfl⟩:=Nat.exists_eq_add_of_le (show n≤N by omega);have key:runS (zcF C) (n+d) (zb0 inp)=m:=by
   have j:=R.run;clear hN f
   induction d with
   | zero=>exact j.symm
   | succ d ih =>
    have:∀(k:Nat) (a:Mc),¬(runS (zcF C) k a).fin=0→runS (zcF C) (k+1) a=runS (zcF C) k a:=by
     intro k
     induction k with
     | zero =>
      intro a c;exact zbY _ _ _ c
     | succ k ih =>
      intro a c;by_cases b:a.fin=0
      ·rw [zbZ _ _ _ b] at c;rw [zbZ _ _ _ b,ih _ c,zbZ _ _ _ b]
      ·rw [zbY _ _ _ b,zbY _ _ _ b]
    rw [←Nat.add_assoc,this (n+d) (zb0 inp) (by rw [ih];omega),ih]
  rw [key];exact⟨i,e,g⟩
end
end Go.Proofs.YtfpgjkbjbbgciaaGreatDoor
