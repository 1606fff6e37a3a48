import Derived.Test.YtfpgjkbjbbgciaaGreatDoorMj06
import Derived.Test.YtfpgjkbjbbgciaaGreatDoorMj07
import Derived.Test.YtfpgjkbjbbgciaaGreatDoorMj08
set_option maxRecDepth 100000
set_option maxHeartbeats 8000000
namespace Go.Proofs.YtfpgjkbjbbgciaaGreatDoor
open Go.RowKit Sp
theorem Tryz.info87:(Tryz.prog.info? 87).map (fun i=>(i.zero,i.size,i.bytes))=some (some (.agg #[.int .u8 0,.slice none 0 0]),2,32):=by kernel_rfl
theorem Tryz.under25:Tryz.prog.underlying 25=some (.slice 87):=by kernel_rfl
theorem zbi{w w':World}{B b:Nat}{e:TypeId}{size n:Nat}{v:Value}{xs:List Value}(h:w.ownsRow b e size v n xs)(hb:Below B w w')(hB:w.heap.size≤B):w'.ownsRow b e size v n xs:=by
 refine⟨h.1,?_⟩;rcases h.2 with f|⟨g,a,c,j,i,d,r⟩
 ·exact .inl f
 ·refine .inr ⟨g,a,c,j,i,?_,r⟩;rw [hb.block g (by have:=(Array.getElem?_eq_some_iff.1 d).1;omega)];exact d
theorem zdZ{w:World}{b b':Nat}{e e':TypeId}{size size' n n':Nat}{v v':Value}{xs xs':List Value}(h:w.ownsRow b e size v n xs)(h':w.ownsRow b' e' size' v' n' xs')(hne:¬e=e'):v.ownBlock=none∨v.ownBlock≠v'.ownBlock:=by
 rcases h.2 with ⟨f,_⟩|⟨g,cap,cur,f,hg,hh,r⟩
 ·subst f;exact .inl rfl
 ·rcases h'.2 with ⟨a,_⟩|⟨g',cap',cur',a,hg',c,r'⟩
  ·subst f a;exact .inr (by simp [Value.ownBlock])
  ·subst f a;refine .inr ?_;simp only [Value.ownBlock];intro d;simp only [Option.some.injEq] at d;subst d;rw [hh] at c;simp at c;exact hne c.2
def zcq(P:List (Said × Value)):List Value:=P.flatMap fun p=>[.int .u8 p.1.kind,p.2]
theorem zji(P:List (Said × Value))(q:Said)(v:Value):zcq (P++[(q,v)])=zcq P++[.int .u8 q.kind,v]:=by simp [zcq]
theorem zku(P:List (Said × Value)):(zcq P).length=P.length*2:=by
 induction P with
 | nil=>rfl
 | cons p P ih=>simp [zcq] at ih ⊢;omega
theorem zfu(P:List (Said × Value))(i:Nat)(h:i<P.length):(zcq P)[i*2]?=some (.int .u8 P[i].1.kind)∧(zcq P)[i*2+1]?=some P[i].2:=by
 induction P generalizing i with
 | nil=>simp at h
 | cons p P ih =>
  cases i with
  | zero=>simp [zcq]
  | succ i =>
   have:=ih i (by simpa using h);simp only [zcq,List.flatMap_cons] at this ⊢;rw [show(i+1)*2=i*2+2 by omega,show i*2+2+1=i*2+1+2 by omega];simpa using this
structure RowsIn(B:Nat)(w:World)(v:Value)(P:List (Said × Value)):Prop where
 row:w.ownsRow B 87 2 v P.length (zcq P)
 words:∀ p∈P,w.ownsRow B 9 1 p.2 p.1.kept.length (p.1.kept.map Value.string)
theorem RowsIn.below{B C:Nat}{w w':World}{v:Value}{P:List (Said × Value)}(h:RowsIn B w v P)(hb:Below C w w')(hC:w.heap.size≤C):RowsIn B w' v P :=
 ⟨zbi h.row hb hC,fun p hp=>zbi (h.words p hp) hb hC⟩
theorem RowsIn.alloc{B:Nat}{w:World}{v:Value}{P:List (Said × Value)}(h:RowsIn B w v P)(o:Obj):RowsIn B (w.alloc o) v P :=
 ⟨h.row.alloc o,fun p hp=>(h.words p hp).alloc o⟩
theorem RowsIn.grown{B:Nat}{w w':World}{v v':Value}{P:List (Said × Value)}{q:Said}{u:Value}(h:RowsIn B w v P)(hu:w.ownsRow B 9 1 u q.kept.length (q.kept.map Value.string))(hg:w.grownBy w' v.ownBlock)(hown:w'.ownsRow B 87 2 v' (P.length+1) (zcq P++[.int .u8 q.kind,u])):RowsIn B w' v' (P++[(q,u)]):=by
 refine⟨by rw [zji];simpa using hown,fun p a=>?_⟩;rw [List.mem_append] at a;rcases a with a|a
 ·exact(h.words p a).kept hg (zdZ (h.words p a) h.row (by decide))
 ·simp at a;subst a;exact hu.kept hg (zdZ hu h.row (by decide))
theorem RowsIn.lines{B:Nat}{w:World}{v:Value}{P:List (Said × Value)}(h:RowsIn B w v P)(hp:0<P.length)(hw:∀ p∈P,Wf p.1):
  ∃ g cap,v=.slice (some ⟨g,0,none⟩) P.length cap∧B≤g∧LinesIn w g (P.map Prod.fst):=by
 have n:=h.row;rcases h.row.2 with ⟨_,h2⟩|⟨g,cap,cur,k,o,hh,hc,hm,hs,hx⟩
 ·have:=zku P;rw [h2] at this;simp at this;omega
 ·subst k;refine⟨g,cap,rfl,o,?_,?_,?_⟩
  ·intro i d;have a:i<P.length:=by simpa using d
   rw [World.ownsRow.cellAt n (i*2) (by omega),(zfu P i a).1];simp
  ·intro i d l;have a:i<P.length:=by simpa using d
   have e:(P.map Prod.fst)[i]=P[i].1:=by simp
   rw [e] at l;obtain⟨b,c,k,_,_,_,_,f⟩:=zo4 (h.words P[i] (List.getElem_mem a)) l;refine⟨b,c,?_,?_⟩
   ·rw [World.ownsRow.cellAt n (i*2+1) (by omega),(zfu P i a).2,k];simp
   ·intro j m;simp only [e] at m ⊢;exact f j m
  ·intro i d;have a:i<P.length:=by simpa using d
   simp only [List.getElem_map];exact hw _ (List.getElem_mem a)
theorem zg4{w w':World}{B:Nat}(h:Lib.Utf8Tabs 1 2 w)(hb:Below B w w')(hB:3≤B):Lib.Utf8Tabs 1 2 w' :=
 ⟨fun c hc=>(hb.cell (p:=⟨1,c,none⟩) (by show 1<B;omega)).trans (h.1 c hc),fun i hi=>⟨(hb.cell (p:=⟨2,2*i,none⟩) (by show 2<B;omega)).trans (h.2 i hi).1,(hb.cell (p:=⟨2,2*i+1,none⟩) (by show 2<B;omega)).trans (h.2 i hi).2⟩⟩
theorem zg5{w w':World}{k base:Nat}{s:ByteArray}{pos:Nat}{v:Value}{n:Nat}{xs:List Value}(hk:w.heap[k]?=some (.stringIter s pos))(hown:w.ownsRow base 9 1 v n xs)(hkb:k<base)(hg:w.grownBy w' v.ownBlock):w'.heap[k]?=some (.stringIter s pos):=by
 have a:k<w.heap.size:=(Array.getElem?_eq_some_iff.1 hk).1;rw [hg.block k a (fun e=>by have:=(hown.lt k e.symm).1;omega)];exact hk
theorem zg6{w:World}{k:Nat}{s:ByteArray}{pos:Nat}(o:Obj)(hk:w.heap[k]?=some (.stringIter s pos)):(w.alloc o).heap[k]?=some (.stringIter s pos):=by
 have a:k<w.heap.size:=(Array.getElem?_eq_some_iff.1 hk).1;exact(Below.heap_alloc w o k a).trans hk
theorem zg7{w w':World}{k B:Nat}{s:ByteArray}{pos:Nat}(hk:w.heap[k]?=some (.stringIter s pos))(hb:Below B w w')(hB:w.heap.size≤B):w'.heap[k]?=some (.stringIter s pos):=by
 have hlt:k<w.heap.size:=(Array.getElem?_eq_some_iff.1 hk).1;rw [hb.block k (by omega)];exact hk
inductive At(s:ByteArray)(pos:Nat)(acc:List ByteArray):Int→Bool→Prop
 | out (h:words s=acc):At s pos acc (-1) true
 | gap (h:words s=za9 s pos ByteArray.empty acc):At s pos acc (-1) false
 | word (b:Nat) (hb:b<pos) (h:words s=za9 s pos (s.extract b pos) acc):At s pos acc (b:Int) false
def zsA(s:ByteArray)(line:Int)(w:World):Ending→World→Prop:=fun e w' =>
 qB w w'∧(zau s 0=true∧(∃ v,e=.returned v∧w'.ownsRow w.heap.size 9 1 v (words s).length ((words s).map Value.string))∨zau s 0=false∧e=zak 1 line)
theorem zv8{w:World}{base:Nat}{v:Value}{n:Nat}{xs:List Value}(h:w.ownsRow base 9 1 v n xs){k:Nat}(hk:k<base)(s:ByteArray)(p:Nat):(w.iterAt k s p).ownsRow base 9 1 v n xs:=ownsRow_iterAt h hk s p
theorem zh2(s:ByteArray)(b pos:Nat)(hb:b<pos)(hp:pos≤s.size):¬(s.extract b pos).size=0:=by rw [ByteArray.size_extract];omega
theorem zsB(s:ByteArray)(i:Nat)(hi:i<s.size)(h0:¬(chr s i).1=0)(h:128≤(chr s i).2):¬chrN s i=1:=by
 intro e;have d:=zcN s i hi h0;by_cases b:bt s i<128
 ·rw [znf s i b] at h;simp at h;omega
 ·unfold chrN at e d;unfold chr at e h0;rw [if_neg b] at e h0;split at e
  ·rename_i hc;rw [if_pos hc] at h0;rcases zbX 2 128 (zbW s (i+1) 1 (bt s i-192)) with a|⟨v,_,c,_,_⟩
   ·rw [a] at h0;exact absurd rfl h0
   ·rw [c] at e;simp at e
  ·rename_i hc;rw [if_neg hc] at h0;split at e
   ·rename_i hd;rw [if_pos hd] at h0;rcases zbX 3 2048 (zbW s (i+1) 2 (bt s i-224)) with a|⟨v,_,c,_,_⟩
    ·rw [a] at h0;exact absurd rfl h0
    ·rw [c] at e;simp at e
   ·rename_i hd;rw [if_neg hd] at h0;split at e
    ·rename_i he;rw [if_pos he] at h0;rcases zbX 4 65536 (zbW s (i+1) 3 (bt s i-240)) with a|⟨v,_,c,_,_⟩
     ·rw [a] at h0;exact absurd rfl h0
     ·rw [c] at e;simp at e
    ·simp at e
theorem zsC(b:Int):((b != 32)=true∧(b != 9)=true∧(b == 59)=false∧¬(b=32∨b=9∨b=59))∨((b != 32)=false∧(b == 59)=false∧b=32)∨((b != 32)=true∧(b != 9)=false∧(b == 59)=false∧b=9)∨((b == 59)=true∧b=59):=by
 by_cases d:b=32
 ·subst d;simp
 ·by_cases c:b=9
  ·subst c;simp
  ·by_cases a:b=59
   ·subst a;simp
   ·left;simp [d,c,a]
theorem zg8(s:ByteArray)(line:Int)(w:World)(hw:LibW w)(hs:s.size≤1048576):
  qC 98 #[.string s,.int .i64 line] w (zsA s line w):=by
 obtain⟨Z,hi,O,N,M⟩:=info_parts Tryz.info9;have H:=hw.tabs;have hlow:=hw.low;have Y:(w.iter s 0).heap[w.heap.size]?=some (.stringIter s 0):=World.iter_heap w s 0;have X:qB w (w.iter s 0):=(Below.refl _ w).alloc (Nat.le_refl _) _;go_enter Tryz.func98,Tryz.ntmps98;go_wp2
 go_loopw [5,6,7] (fun v tb tl wr=>∃(a:Nat) (c:List ByteArray) (bg:Int) (lo:Bool),a≤s.size∧c.length≤a∧tb=.int .i64 bg∧tl=.bool lo∧wr.heap[w.heap.size]?=some (.stringIter s a)∧wr.ownsRow (w.heap.size+1) 9 1 v c.length (c.map Value.string)∧qB w wr∧zau s 0=zau s a∧At s a c bg lo) (fun _ _ _ wr=>s.size-wr.iterPos w.heap.size)
 case atStart=>exact⟨0,[],-1,false,by omega,by simp,rfl,rfl,Y,World.ownsRow_nil _ _ _ _,X,rfl,.gap rfl⟩
 case round =>
  obtain⟨a,c,bg,lo,hp,hacc,rfl,rfl,P,r,G,hV,S⟩:=hrel;have HV:Hid (zau s 0=zau s a):=hV;clear hV Y X;have HMU:Hid (wr.iterPos w.heap.size=a):=by unfold Hid;simp [World.iterPos,P]
  have hsz:=G.size;by_cases g:a<s.size
  ·by_cases Q:(chr s a).1=0
   ·
    have x:=zkq wr w.heap.size s a P g Q;have i:=Lib.below_iterAt G (Nat.le_refl _) s (a+1);generalize wr.iterAt w.heap.size s (a+1)=W1 at x i;have q:=zg4 H i (by omega);have HF:Hid (zau s 0=false):=by unfold Hid;rw [HV.out,zhJ s a g Q]
    have hd:(((Utf8.decode s a).2:Int) == 1)=true:=by rw [(zg3 s a).1 Q];rfl
    clear S r P;go_wp2_with(first|(go_at_call 126;refine(zeY s a _ q g).mono ?_;rintro e T ⟨rfl,p⟩)|(go_at_call 79;refine(za1 _ _ _).mono ?_;rintro e wx ⟨rfl,aa⟩;have h2:=aa.symm;subst h2))
    exact⟨rfl,i.trans (p.mono i.size),.inr ⟨HF.out,rfl⟩⟩
   ·have ab:=zcN s a g Q;obtain⟨_,hp2,hp3,hp4,hp5,hp6⟩:=ab;have x:=zfT wr w.heap.size s a P g Q;have i:=Lib.below_iterAt G (Nat.le_refl _) s (a+chrN s a);have k:=Lib.iterAt_heap wr w.heap.size s a (a+chrN s a) P;have d:=zv8 r (Nat.lt_succ_self _) s (a+chrN s a);have R:(wr.iterAt w.heap.size s (a+chrN s a)).heap.size=wr.heap.size:=Lib.iterAt_size _ _ _ _;generalize wr.iterAt w.heap.size s (a+chrN s a)=W1 at x i k d R;have V:w.heap.size+1≤W1.heap.size:=by
     have:=(Array.getElem?_eq_some_iff.1 k).1;omega
    have q:=zg4 H i (by omega);have n:Hid (zau s 0=zau s (a+chrN s a)):=by unfold Hid;rw [HV.out,zhb s a g Q]
    have o:Hid (W1.iterPos w.heap.size=a+chrN s a):=by unfold Hid;simp [World.iterPos,k]
    have u:Hid (¬(chr s a).1=0):=Q;clear R r P Q;cases hf:((chr s a).2 == 65533) with
    | true =>
     have E:(chr s a).2=65533:=by simpa using hf
     have hd:(((Utf8.decode s a).2:Int) == 1)=false:=by
      rw [(zg3 s a).2 u.out];show(((chrN s a:Nat):Int) == 1)=false;have:¬chrN s a=1:=by
       intro e;rcases zib s a g u.out with ⟨ha,K⟩|⟨_,_⟩
       ·rw [K] at E;simp at E;omega
       ·have hq:=zsB s a g u.out (by omega);omega
      simp;omega
     have h59:((chr s a).2 == 59)=false:=by rw [E];rfl
     have h32:((chr s a).2 != 32)=true:=by rw [E];rfl
     have h9:((chr s a).2 != 9)=true:=by rw [E];rfl
     have U:Hid ((chr s a).2=65533):=E;clear E;cases S with
     | out h =>
      have l:Hid (words s=c):=h;clear h;go_wp2_with(go_at_call 126;refine(zeY s a _ q g).mono ?_;rintro e T ⟨rfl,p⟩)
      have y:=zg7 k p (Nat.le_refl _);have t:=zbi d p (Nat.le_refl _);have B:=i.trans (p.mono i.size);have z:Hid (T.iterPos w.heap.size=a+chrN s a):=by unfold Hid;simp [World.iterPos,y]
      go_roundw
      case rel=>exact⟨a+chrN s a,c,-1,true,by omega,by omega,rfl,rfl,y,t,B,n.out,.out l.out⟩
      case measure=>rw [HMU.out,z.out];omega
     | gap h =>
      have E:=U.out;have l:Hid (words s=za9 s (a+chrN s a) (s.extract a (a+chrN s a)) c):=by
       unfold Hid;rw [h,zfe s a _ c g u.out (by omega)];congr 1 <;> simp
      clear h;clear E;go_wp2_with(go_at_call 126;refine(zeY s a _ q g).mono ?_;rintro e T ⟨rfl,p⟩)
      have y:=zg7 k p (Nat.le_refl _);have t:=zbi d p (Nat.le_refl _);have B:=i.trans (p.mono i.size);have z:Hid (T.iterPos w.heap.size=a+chrN s a):=by unfold Hid;simp [World.iterPos,y]
      go_roundw
      case rel=>exact⟨a+chrN s a,c,(a:Int),false,by omega,by omega,rfl,rfl,y,t,B,n.out,.word a (by omega) l.out⟩
      case measure=>rw [HMU.out,z.out];omega
     | word b K h =>
      have E:=U.out;have l:Hid (words s=za9 s (a+chrN s a) (s.extract b (a+chrN s a)) c):=by
       unfold Hid;rw [h,zfe s a _ c g u.out (by omega),zno s b a _ (by omega) (by omega)]
      clear h;clear E;go_wp2_with(go_at_call 126;refine(zeY s a _ q g).mono ?_;rintro e T ⟨rfl,p⟩)
      have y:=zg7 k p (Nat.le_refl _);have t:=zbi d p (Nat.le_refl _);have B:=i.trans (p.mono i.size);have z:Hid (T.iterPos w.heap.size=a+chrN s a):=by unfold Hid;simp [World.iterPos,y]
      go_roundw
      case rel=>exact⟨a+chrN s a,c,(b:Int),false,by omega,by omega,rfl,rfl,y,t,B,n.out,.word b (by omega) l.out⟩
      case measure=>rw [HMU.out,z.out];omega
    | false =>
     rcases zsC (chr s a).2 with ⟨h1,h2,h3,J⟩|⟨h1,h3,J⟩|⟨h1,h2,h3,J⟩|⟨h3,J⟩
     ·have H4:Hid (¬((chr s a).2=32∨(chr s a).2=9∨(chr s a).2=59)):=J;clear J;cases S with
      | out h =>
       have l:Hid (words s=c):=h;clear h;go_wp2;go_roundw
       case rel=>exact⟨a+chrN s a,c,-1,true,by omega,by omega,rfl,rfl,k,d,i,n.out,.out l.out⟩
       case measure=>rw [HMU.out,o.out];omega
      | gap h =>
       have l:Hid (words s=za9 s (a+chrN s a) (s.extract a (a+chrN s a)) c):=by
        unfold Hid;rw [h,zfe s a _ c g u.out H4.out];congr 1 <;> simp
       clear h;go_wp2;go_roundw
       case rel=>exact⟨a+chrN s a,c,(a:Int),false,by omega,by omega,rfl,rfl,k,d,i,n.out,.word a (by omega) l.out⟩
       case measure=>rw [HMU.out,o.out];omega
      | word b K h =>
       have l:Hid (words s=za9 s (a+chrN s a) (s.extract b (a+chrN s a)) c):=by
        unfold Hid;rw [h,zfe s a _ c g u.out H4.out,zno s b a _ (by omega) (by omega)]
       clear h;go_wp2;go_roundw
       case rel=>exact⟨a+chrN s a,c,(b:Int),false,by omega,by omega,rfl,rfl,k,d,i,n.out,.word b (by omega) l.out⟩
       case measure=>rw [HMU.out,o.out];omega
     ·have C:=zic s a g u.out (by omega);have I:Hid (bt s a=32∧chrN s a=1):=⟨by rw [C.1,J],C.2⟩
      clear C J;cases S with
      | out h =>
       have l:Hid (words s=c):=h;clear h;go_wp2;go_roundw
       case rel=>exact⟨a+chrN s a,c,-1,true,by omega,by omega,rfl,rfl,k,d,i,n.out,.out l.out⟩
       case measure=>rw [HMU.out,o.out];omega
      | gap h =>
       have l:Hid (words s=za9 s (a+chrN s a) ByteArray.empty c):=by
        unfold Hid;rw [h,zbB s a _ c g (by have:=I.out.1;omega),I.out.2];rfl
       clear h;go_wp2;go_roundw
       case rel=>exact⟨a+chrN s a,c,-1,false,by omega,by omega,rfl,rfl,k,d,i,n.out,.gap l.out⟩
       case measure=>rw [HMU.out,o.out];omega
      | word b K h =>
       have l:Hid (words s=za9 s (a+chrN s a) ByteArray.empty (c++[s.extract b a])):=by
        unfold Hid;rw [h,zbB s a _ c g (by have:=I.out.1;omega),I.out.2,zdp _ _ (zh2 s b a K hp)]
       clear h;go_wp2_with(at_builtin;refine wpList_append_own _ rfl _ _ 67 rfl (w.heap.size+1) 9 Z (.string ByteArray.empty) 1 16 Tryz.under67 hi O N M rfl (by decide) _ _ _ rfl (d.alloc _) ⟨W1.heap.size,0,none⟩ 1 1 [.string (s.extract b a)] rfl rfl (cell_one_new _ _ _) (zdm _) (by unfold maxLen;omega) (by omega) (by simp;omega) ?_)
       intro v' L m f _;have F:qB w L:=(i.alloc i.size _).grown f (by simp;omega) (fun j hj=>by have:=(d.lt j hj).1;omega);have D:=zg5 (zg6 _ k) (d.alloc _) (Nat.lt_succ_self _) f;have A:Hid (L.iterPos w.heap.size=a+chrN s a):=by unfold Hid;simp [World.iterPos,D]
       clear f;go_wp2;go_roundw
       case rel=>exact⟨a+chrN s a,c++[s.extract b a],-1,false,by omega,by simp;omega,rfl,rfl,D,by simpa using m,F,n.out,.gap l.out⟩
       case measure=>rw [HMU.out,A.out];omega
     ·have C:=zic s a g u.out (by omega);have I:Hid (bt s a=9∧chrN s a=1):=⟨by rw [C.1,J],C.2⟩
      clear C J;cases S with
      | out h =>
       have l:Hid (words s=c):=h;clear h;go_wp2;go_roundw
       case rel=>exact⟨a+chrN s a,c,-1,true,by omega,by omega,rfl,rfl,k,d,i,n.out,.out l.out⟩
       case measure=>rw [HMU.out,o.out];omega
      | gap h =>
       have l:Hid (words s=za9 s (a+chrN s a) ByteArray.empty c):=by
        unfold Hid;rw [h,zbB s a _ c g (by have:=I.out.1;omega),I.out.2];rfl
       clear h;go_wp2;go_roundw
       case rel=>exact⟨a+chrN s a,c,-1,false,by omega,by omega,rfl,rfl,k,d,i,n.out,.gap l.out⟩
       case measure=>rw [HMU.out,o.out];omega
      | word b K h =>
       have l:Hid (words s=za9 s (a+chrN s a) ByteArray.empty (c++[s.extract b a])):=by
        unfold Hid;rw [h,zbB s a _ c g (by have:=I.out.1;omega),I.out.2,zdp _ _ (zh2 s b a K hp)]
       clear h;go_wp2_with(at_builtin;refine wpList_append_own _ rfl _ _ 67 rfl (w.heap.size+1) 9 Z (.string ByteArray.empty) 1 16 Tryz.under67 hi O N M rfl (by decide) _ _ _ rfl (d.alloc _) ⟨W1.heap.size,0,none⟩ 1 1 [.string (s.extract b a)] rfl rfl (cell_one_new _ _ _) (zdm _) (by unfold maxLen;omega) (by omega) (by simp;omega) ?_)
       intro v' L m f _;have F:qB w L:=(i.alloc i.size _).grown f (by simp;omega) (fun j hj=>by have:=(d.lt j hj).1;omega);have D:=zg5 (zg6 _ k) (d.alloc _) (Nat.lt_succ_self _) f;have A:Hid (L.iterPos w.heap.size=a+chrN s a):=by unfold Hid;simp [World.iterPos,D]
       clear f;go_wp2;go_roundw
       case rel=>exact⟨a+chrN s a,c++[s.extract b a],-1,false,by omega,by simp;omega,rfl,rfl,D,by simpa using m,F,n.out,.gap l.out⟩
       case measure=>rw [HMU.out,A.out];omega
     ·have C:=zic s a g u.out (by omega);have I:Hid (bt s a=59∧chrN s a=1):=⟨by rw [C.1,J],C.2⟩
      clear C J;cases S with
      | out h =>
       have l:Hid (words s=c):=h;clear h;go_wp2;go_roundw
       case rel=>exact⟨a+chrN s a,c,-1,true,by omega,by omega,rfl,rfl,k,d,i,n.out,.out l.out⟩
       case measure=>rw [HMU.out,o.out];omega
      | gap h =>
       have l:Hid (words s=c):=by
        unfold Hid;rw [h,zcI s a _ c g I.out.1];rfl
       clear h;go_wp2;go_roundw
       case rel=>exact⟨a+chrN s a,c,-1,true,by omega,by omega,rfl,rfl,k,d,i,n.out,.out l.out⟩
       case measure=>rw [HMU.out,o.out];omega
      | word b K h =>
       have l:Hid (words s=c++[s.extract b a]):=by
        unfold Hid;rw [h,zcI s a _ c g I.out.1,zdp _ _ (zh2 s b a K hp)]
       clear h;go_wp2_with(at_builtin;refine wpList_append_own _ rfl _ _ 67 rfl (w.heap.size+1) 9 Z (.string ByteArray.empty) 1 16 Tryz.under67 hi O N M rfl (by decide) _ _ _ rfl (d.alloc _) ⟨W1.heap.size,0,none⟩ 1 1 [.string (s.extract b a)] rfl rfl (cell_one_new _ _ _) (zdm _) (by unfold maxLen;omega) (by omega) (by simp;omega) ?_)
       intro v' L m f _;have F:qB w L:=(i.alloc i.size _).grown f (by simp;omega) (fun j hj=>by have:=(d.lt j hj).1;omega);have D:=zg5 (zg6 _ k) (d.alloc _) (Nat.lt_succ_self _) f;have A:Hid (L.iterPos w.heap.size=a+chrN s a):=by unfold Hid;simp [World.iterPos,D]
       clear f;go_wp2;go_roundw
       case rel=>exact⟨a+chrN s a,c++[s.extract b a],-1,true,by omega,by simp;omega,rfl,rfl,D,by simpa using m,F,n.out,.out l.out⟩
       case measure=>rw [HMU.out,A.out];omega
  ·have x:∀ ty,(Instr.next (.pointer (some ⟨w.heap.size,0,none⟩)) true ty).run Tryz.prog wr=.ok (.tuple #[.bool false]) wr:=fun ty=>Lib.run_next_end_at wr w.heap.size s a ty P g;have HT:Hid (zau s 0=true):=by unfold Hid;rw [HV.out,zhI s a g]
   cases S with
   | out h =>
    have l:Hid (words s=c):=h;clear h;go_wp2;go_ret;exact⟨G,.inl ⟨HT.out,_,rfl,by rw [l.out];exact zbk r (by omega)⟩⟩
   | gap h =>
    have l:Hid (words s=c):=by unfold Hid;rw [h,zdb s a _ c g];rfl
    clear h;go_wp2;go_ret;exact⟨G,.inl ⟨HT.out,_,rfl,by rw [l.out];exact zbk r (by omega)⟩⟩
   | word b K h =>
    have W:a=s.size:=by omega
    have l:Hid (words s=c++[s.extract b s.size]):=by
     unfold Hid;rw [h,zdb s a _ c g,zdp _ _ (zh2 s b a K hp),W]
    clear h W;have d:=r;have hbs:b<s.size:=by omega
    have V:w.heap.size+1≤wr.heap.size:=by
     have:=(Array.getElem?_eq_some_iff.1 P).1;omega
    go_wp2_with(at_builtin;refine wpList_append_own _ rfl _ _ 67 rfl (w.heap.size+1) 9 Z (.string ByteArray.empty) 1 16 Tryz.under67 hi O N M rfl (by decide) _ _ _ rfl (d.alloc _) ⟨wr.heap.size,0,none⟩ 1 1 [.string (s.extract b s.size)] rfl rfl (cell_one_new _ _ _) (zdm _) (by unfold maxLen;omega) (by omega) (by simp;omega) ?_)
    intro v' L m f _;have F:qB w L:=(G.alloc G.size _).grown f (by simp;omega) (fun j hj=>by have:=(r.lt j hj).1;omega);clear f;go_wp2;go_ret;exact⟨F,.inl ⟨HT.out,_,rfl,by rw [l.out];exact zbk (by simpa using m) (by omega)⟩⟩
theorem LibW.below{w w':World}(h:LibW w)(hb:qB w w'):LibW w':=by
 have hlow:=h.low;refine⟨zg4 h.tabs hb (by omega),?_,?_,?_,by have:=hb.size;omega⟩
 ·obtain⟨m,c⟩:=h.most;exact⟨m,(hb.cell (p:=⟨0,0,none⟩) (by show 0<w.heap.size;omega)).trans c⟩
 ·obtain⟨b,p,a⟩:=h.syn;exact⟨b,p,var?_below (g:=3) hb (by kernel_rfl) (by omega) a⟩
 ·obtain⟨b,p,a⟩:=h.rng;exact⟨b,p,var?_below (g:=4) hb (by kernel_rfl) (by omega) a⟩
def zql(sh:List UInt8)(r:List ByteArray):Nat→ByteArray
 | 0=>⟨#[]⟩
 | k+1=>if zbv (sh[k]?.getD 0)=2 then r[k]?.getD ⟨#[]⟩ else zql sh r k
structure Opd where
 nm:ByteArray
 a:Int
 b:Int
 c:Int
 n:Int
def Opd.take(o:Opd)(k:Nat)(kind:Int)(x:ByteArray):Opd :=
 if kind=0 then(if k=0 then{ o with a:=zaH x } else if k=1 then{ o with b:=zaH x } else{ o with c:=zaH x })
 else if kind=1 then{ o with n:=zcZ x } else{ o with nm:=x }
def opd0:Opd:=⟨⟨#[]⟩,0,0,0,0⟩
def opK(sh:List UInt8)(r:List ByteArray):Nat→Opd
 | 0=>opd0
 | k+1=>(opK sh r k).take k (zbv (sh[k]?.getD 0)) (r[k]?.getD ⟨#[]⟩)
theorem zv9(sh:List UInt8)(r:List ByteArray)(k:Nat)(hk:k<sh.length)(hr:k<r.length):opK sh r (k+1)=(opK sh r k).take k (zbv sh[k]) r[k]:=by
 show(opK sh r k).take k (zbv (sh[k]?.getD 0)) (r[k]?.getD ⟨#[]⟩)=_;rw [List.getElem?_eq_getElem hk,List.getElem?_eq_getElem hr];rfl
theorem zze(sh:List UInt8)(r:List ByteArray)(k:Nat):(opK sh r k).nm=zql sh r k:=by
 induction k with
 | zero=>rfl
 | succ k ih =>
  show((opK sh r k).take k (zbv (sh[k]?.getD 0)) (r[k]?.getD ⟨#[]⟩)).nm=if zbv (sh[k]?.getD 0)=2 then r[k]?.getD ⟨#[]⟩ else zql sh r k
  have c:∀ a:UInt8,zbv a=0∨zbv a=1∨zbv a=2:=fun a=>by
   unfold zbv;split
   ·simp
   ·split <;> simp
  unfold Opd.take;rcases c (sh[k]?.getD 0) with h|h|h
  ·rw [if_neg (show ¬zbv (sh[k]?.getD 0)=2 by rw [h];decide),if_pos h];split
   ·exact ih
   ·split <;> exact ih
  ·rw [if_neg (show ¬zbv (sh[k]?.getD 0)=2 by rw [h];decide),if_neg (show ¬zbv (sh[k]?.getD 0)=0 by rw [h];decide),if_pos h];exact ih
  ·rw [if_pos h,if_neg (show ¬zbv (sh[k]?.getD 0)=0 by rw [h];decide),if_neg (show ¬zbv (sh[k]?.getD 0)=1 by rw [h];decide)]
abbrev Opd.stm(o:Opd)(line:Int)(x:ByteArray):Value:=Go.Proofs.YtfpgjkbjbbgciaaGreatDoor.stm 2 line x o.a o.b o.c o.n o.nm
def zhv(x:ByteArray)(r:List ByteArray):Bool:=if zaa x=[63]∨¬r.length=(zaa x).length then false else zaX (zaa x) r
def zsD(w:World)(x:ByteArray)(r:List ByteArray)(line:Int):Ending→World→Prop:=fun e w' =>
 qB w w'∧(zhv x r=true∧e=.returned ((opK (zaa x) r r.length).stm line x)∨zhv x r=false∧e=zak 1 line)
theorem zsE(x:ByteArray)(w:World)(sh:List UInt8)(HS:Hid (zaa x=sh)):qC 149 #[.string x] w (zbR w sh):=by
 rw [←HS.out];exact zv1 x w
theorem zvA(x:ByteArray)(w:World)(HS:Hid (zaa x=[63])):qC 149 #[.string x] w fun e w'=>e=.returned (.tuple #[.slice none 0 0,.bool false])∧w'=w:=by
 refine(zsE x w _ HS).mono ?_;rintro e w' (⟨_,h1,h2⟩|⟨h,_⟩|⟨h,_⟩)
 ·exact⟨h1,h2.symm⟩
 ·cases h
 ·exact absurd rfl h
theorem zlm(x:ByteArray)(w:World)(HS:Hid (zaa x=[])):qC 149 #[.string x] w fun e w'=>e=.returned (.tuple #[.slice none 0 0,.bool true])∧w'=w:=by
 refine(zsE x w _ HS).mono ?_;rintro e w' (⟨h,_⟩|⟨_,h1,h2⟩|⟨_,h,_⟩)
 ·cases h
 ·exact⟨h1,h2.symm⟩
 ·exact absurd rfl h
theorem zoD(x:ByteArray)(w:World)(sh:List UInt8)(HS:Hid (zaa x=sh))(h1:¬sh=[63])(h2:¬sh=[]):qC 149 #[.string x] w fun e w'=>e=.returned (.tuple #[.slice (some ⟨w.heap.size,0,none⟩) sh.length sh.length,.bool true])∧w'=w.alloc (.cells (sh.map (fun k=>Value.int .i64 (zbv k))).toArray 225):=by
 refine(zsE x w _ HS).mono ?_;rintro e w' (⟨h,_⟩|⟨h,_⟩|⟨_,_,h3,h4⟩)
 ·exact absurd h h1
 ·exact absurd h h2
 ·exact⟨h3,h4⟩
theorem zsF(w:World)(g cap:Nat)(x:ByteArray)(r:List ByteArray)(line:Int)(hl:WordsIn w g (x :: r))(_hn:r.length≤1048576)(HS:Hid (zaa x=[63])):
  qC 130 #[.slice (some ⟨g,0,none⟩) (r.length+1) cap,.int .i64 line] w fun e w'=>e=zak 1 line∧qB w w':=by
 have b:=hl 0 (by simp);simp only [List.getElem_cons_zero] at b;have hlt:g<w.heap.size:=by
  have:=World.block_lt_of_cell? w _ b;simpa using this
 go_enter Tryz.func130,Tryz.ntmps130;go_wp2_with(first
  | (go_at_call 149;refine(zvA x _ HS).mono ?_;rintro e d ⟨rfl,a⟩;have c:=a.symm;subst c)
  | (go_at_call 79;refine(za1 _ _ _).mono ?_;rintro e d ⟨rfl,a⟩;have c:=a.symm;subst c))
 exact⟨rfl,rfl,(Below.refl _ _).alloc (Nat.le_refl _) _⟩
theorem zvB(w:World)(g cap:Nat)(x:ByteArray)(r:List ByteArray)(line:Int)(hl:WordsIn w g (x :: r))(hn:r.length≤1048576)(sh:List UInt8)(HS:Hid (zaa x=sh))(h1:¬sh=[63])(hs3:sh.length≤3)(hne:((r.length:Int) != (sh.length:Int))=true):
  qC 130 #[.slice (some ⟨g,0,none⟩) (r.length+1) cap,.int .i64 line] w fun e w'=>e=zak 1 line∧qB w w':=by
 have c:=hl 0 (by simp);simp only [List.getElem_cons_zero] at c;have hlt:g<w.heap.size:=by
  have:=World.block_lt_of_cell? w _ c;simpa using this
 by_cases b:sh=[]
 ·subst b;have hne0:((r.length:Int) != 0)=true:=hne;go_enter Tryz.func130,Tryz.ntmps130;go_wp2_with(first
   | (go_at_call 149;refine(zlm x _ HS).mono ?_;rintro e d ⟨rfl,a⟩;have b:=a.symm;subst b)
   | (go_at_call 79;refine(za1 _ _ _).mono ?_;rintro e d ⟨rfl,a⟩;have b:=a.symm;subst b))
  exact⟨rfl,rfl,(Below.refl _ _).alloc (Nat.le_refl _) _⟩
 ·go_enter Tryz.func130,Tryz.ntmps130;go_wp2_with(first
   | (go_at_call 149;refine(zoD x _ sh HS h1 b).mono ?_;rintro e d ⟨rfl,a⟩;subst a)
   | (go_at_call 79;refine(za1 _ _ _).mono ?_;rintro e d ⟨rfl,a⟩;have b:=a.symm;subst b))
  exact⟨rfl,rfl,((Below.refl _ _).alloc (Nat.le_refl _) _).alloc (by simp) _⟩
abbrev insW(w:World)(sh:List UInt8)(line:Int)(x:ByteArray):World :=
 ((w.alloc (.cells #[.int .i64 0,.int .i64 0,.string ⟨#[]⟩,.int .i64 0,.int .i64 0,.int .i64 0,.int .i64 0,.string ⟨#[]⟩] 135)).alloc (.cells (sh.map (fun k=>Value.int .i64 (zbv k))).toArray 225)).alloc (.cells #[.int .i64 2,.int .i64 line,.string x,.int .i64 0,.int .i64 0,.int .i64 0,.int .i64 0,.string ⟨#[]⟩] 135)
theorem zcJ(w:World)(a b:Obj)(c:Array Value)(ty:TypeId)(i:Nat):(((w.alloc a).alloc b).alloc (.cells c ty)).cell? ⟨w.heap.size+1+1,i,none⟩=c[i]?:=by
 have:=World.cell?_alloc_new (w:=(w.alloc a).alloc b) c ty i;rw [World.size_alloc,World.size_alloc] at this;exact this
theorem zqm(w:World)(a o:Obj)(c:Array Value)(ty:TypeId)(i:Nat):(((w.alloc a).alloc (.cells c ty)).alloc o).cell? ⟨w.heap.size+1,i,none⟩=c[i]?:=by
 rw [World.cell?_alloc_lt ((w.alloc a).alloc (.cells c ty)) o ⟨w.heap.size+1,i,none⟩ (by simp)];simp
theorem zqn(w:World)(b o:Obj)(c:Array Value)(ty:TypeId)(i:Nat):(((w.alloc (.cells c ty)).alloc b).alloc o).cell? ⟨w.heap.size,i,none⟩=c[i]?:=by
 rw [World.cell?_alloc_lt ((w.alloc (.cells c ty)).alloc b) o ⟨w.heap.size,i,none⟩ (by simp;omega)];simp
theorem zkv(w:World)(c:Array Value)(ty:TypeId)(o:Nat):(w.alloc (.cells c ty)).frozen? ⟨w.heap.size,o,none⟩=false:=by simp
theorem zvC(w:World)(sh:List UInt8)(line:Int)(x:ByteArray):StmAt (insW w sh line x) (w.heap.size+1+1) line x ⟨#[]⟩ 0 0 0 0:=by
 refine⟨zcJ _ _ _ _ _ 0,zcJ _ _ _ _ _ 1,zcJ _ _ _ _ _ 2,zcJ _ _ _ _ _ 3,zcJ _ _ _ _ _ 4,zcJ _ _ _ _ _ 5,zcJ _ _ _ _ _ 6,zcJ _ _ _ _ _ 7,fun o=>?_⟩;have h:=zkv ((w.alloc (.cells #[.int .i64 0,.int .i64 0,.string ⟨#[]⟩,.int .i64 0,.int .i64 0,.int .i64 0,.int .i64 0,.string ⟨#[]⟩] 135)).alloc (.cells (sh.map (fun k=>Value.int .i64 (zbv k))).toArray 225)) #[.int .i64 2,.int .i64 line,.string x,.int .i64 0,.int .i64 0,.int .i64 0,.int .i64 0,.string ⟨#[]⟩] 135 o;rw [World.size_alloc,World.size_alloc] at h;exact h
theorem zxG(w:World)(sh:List UInt8)(line:Int)(x:ByteArray)(k:Nat)(hk:k<sh.length):(insW w sh line x).cell? ⟨w.heap.size+1,k,none⟩=some (.int .i64 (zbv sh[k])):=by
 rw [zqm];simp [hk]
theorem zvD(w:World)(sh:List UInt8)(line:Int)(x:ByteArray)(j:Nat)(hj:j<8):∃ y,(insW w sh line x).cell? ⟨w.heap.size,j,none⟩=some y:=by
 rw [zqn];exact⟨_,Array.getElem?_eq_getElem (by simpa using hj)⟩
theorem zxH(w:World)(sh:List UInt8)(line:Int)(x:ByteArray)(j:Nat):(insW w sh line x).frozen? ⟨w.heap.size,j,none⟩=false:=by
 have hb:Below (w.heap.size+1) (w.alloc (.cells #[.int .i64 0,.int .i64 0,.string ⟨#[]⟩,.int .i64 0,.int .i64 0,.int .i64 0,.int .i64 0,.string ⟨#[]⟩] 135)) (insW w sh line x):=((Below.refl _ _).alloc (by simp) _).alloc (by simp) _;rw [hb.frozen (p:=⟨w.heap.size,j,none⟩) (by simp)];exact zkv _ _ _ _
theorem zj2{w wr:World}{sh:List UInt8}{line:Int}{x:ByteArray}(h:(insW w sh line x).grownBy wr (some (w.heap.size+1+1))):qB w wr :=
 ((((Below.refl _ w).alloc (Nat.le_refl _) _).alloc (by simp) _).alloc (by simp;omega) _).grown h (by simp;omega) (fun k hk=>by simp at hk;omega)
theorem zag{a b c:World}{q:Option Nat}(h:a.grownBy b q)(k:b.grownBy c q):a.grownBy c q :=
 ⟨k.os.trans h.os,k.tape.trans h.tape,k.output.trans h.output,Nat.le_trans h.size k.size,fun i hi hne=>(k.block i (Nat.lt_of_lt_of_le hi h.size) hne).trans (h.block i hi hne)⟩
theorem zzf(a:UInt8)(y:ByteArray)(h:zbv a=0):opOk a y=zft y:=by
 unfold zbv at h;unfold opOk;split at h
 ·rename_i hc;rw [if_pos hc];rfl
 ·split at h <;> simp at h
theorem zzg(a:UInt8)(y:ByteArray)(h:zbv a=1):opOk a y=(zaI y).2:=by
 unfold zbv at h;unfold opOk;split at h
 ·simp at h
 ·rename_i hc;split at h
  ·rename_i hd;rw [if_neg hc,if_pos hd]
  ·simp at h
theorem zzh(a:UInt8)(y:ByteArray)(h:zbv a=2):opOk a y=za8 y:=by
 unfold zbv at h;unfold opOk;split at h
 ·simp at h
 ·rename_i hc;split at h
  ·simp at h
  ·rename_i hd;rw [if_neg hc,if_neg hd]
theorem zvE(w:World)(hw:LibW w)(g cap:Nat)(x:ByteArray)(r:List ByteArray)(line:Int)(hl:WordsIn w g (x :: r))(hsz:∀ j (hj:j<r.length),r[j].size≤1048576)(sh:List UInt8)(HS:Hid (zaa x=sh))(h1:¬sh=[63])(h2:¬sh=[])(hs3:sh.length≤3)(hle:sh.length≤r.length)(hge:r.length≤sh.length):
  qC 130 #[.slice (some ⟨g,0,none⟩) (r.length+1) cap,.int .i64 line] w fun e w'=>qB w w'∧(zaX sh r=true∧e=.returned ((opK sh r r.length).stm line x)∨zaX sh r=false∧e=zak 1 line):=by
 have K:=hl 0 (by simp);simp only [List.getElem_cons_zero] at K;have O:g<w.heap.size:=by
  have:=World.block_lt_of_cell? w _ K;simpa using this
 have hne:((r.length:Int) != (sh.length:Int))=false:=by simp;omega
 go_enter Tryz.func130,Tryz.ntmps130;go_wp2_with(first
  | (go_at_call 149;refine(zoD x _ sh HS h1 h2).mono ?_;rintro e B ⟨rfl,a⟩;subst a))
 go_loopw [36] (fun ti wr=>∃(k:Nat) (z:ByteArray) (s q m n:Int),k≤sh.length∧ti=.int .i64 (k:Int)∧(insW w sh line x).grownBy wr (some (w.heap.size+1+1))∧StmAt wr (w.heap.size+1+1) line x z s q m n∧(⟨z,s,q,m,n⟩:Opd)=opK sh r k∧zaX sh r=zaX (sh.drop k) (r.drop k)) (fun ti _=>sh.length-(intOf ti).toNat)
 case atStart=>exact⟨0,⟨#[]⟩,0,0,0,0,by omega,rfl,⟨rfl,rfl,rfl,Nat.le_refl _,fun _ _ _=>rfl⟩,zvC w sh line x,rfl,rfl⟩
 case round =>
  obtain⟨k,z,s,q,m,n,hk,rfl,i,u,Q,S⟩:=hrel;have V:Hid ((⟨z,s,q,m,n⟩:Opd)=opK sh r k):=Q;clear Q;have HR:Hid (zaX sh r=zaX (sh.drop k) (r.drop k)):=S;clear S;have d:∀{wz:World},(insW w sh line x).grownBy wz (some (w.heap.size+1+1))→qB w wz:=fun h=>zj2 h;have F:=zj2 i;have J:=hw.below F;have hqz:=u.lt;by_cases A:k<sh.length
  ·have H:k<r.length:=by omega
   have I:wr.cell? ⟨w.heap.size+1,k,none⟩=some (.int .i64 (zbv sh[k])):=i.cell (zxG w sh line x k A) (by simp);have hwk:wr.cell? ⟨g,k+1,none⟩=some (.string r[k]):=(F.cell (p:=⟨g,k+1,none⟩) O).trans (by have:=hl (k+1) (by simp;omega);simpa using this);have c:=hsz k H;have R:Hid (zaX sh r=(opOk sh[k] r[k]&&zaX (sh.drop (k+1)) (r.drop (k+1)))):=by unfold Hid;rw [HR.out,zjw sh r k A H]
   have G:Hid (opK sh r (k+1)=(⟨z,s,q,m,n⟩:Opd).take k (zbv sh[k]) r[k]):=by unfold Hid;rw [V.out];exact zv9 sh r k A H
   have o:zbv sh[k]=0∨zbv sh[k]=1∨zbv sh[k]=2:=by
    unfold zbv;split
    ·simp
    ·split <;> simp
   rcases o with o|o|o
   ·have l:Hid (opOk sh[k] r[k]=zft r[k]):=zzf _ _ o;rw [o] at I;have E:Hid (opK sh r (k+1)=(⟨z,s,q,m,n⟩:Opd).take k 0 r[k]):=by unfold Hid;rw [G.out,o]
    clear o G;have P:k=0∨k=1∨k=2:=by omega
    rcases P with rfl|rfl|rfl
    ·cases hq:zft r[0] with
     | true =>
      have t:Hid (opOk sh[0] r[0]=true):=l.out.trans hq;go_wp2_with(first|(go_at_call 150;refine(zle _ _ line x _ r[0] s q m n u c).mono ?_;rintro e C ⟨rfl,b,f⟩)|(go_at_call 79;refine(za1 _ _ _).mono ?_;rintro e B ⟨rfl,a⟩;have h2:=a.symm;subst h2))
      go_roundw
      case rel=>exact⟨0+1,z,zaH r[0],q,m,n,by omega,by go_num,zag i b,f,E.out.symm,by rw [R.out,t.out];simp⟩
      case measure=>simp [intOf];omega
     | false =>
      have t:Hid (opOk sh[0] r[0]=false):=l.out.trans hq;go_wp2_with(first|(go_at_call 150;refine(zle _ _ line x _ r[0] s q m n u c).mono ?_;rintro e C ⟨rfl,b,f⟩)|(go_at_call 79;refine(za1 _ _ _).mono ?_;rintro e B ⟨rfl,a⟩;have h2:=a.symm;subst h2))
      exact⟨rfl,d (zag i b),.inr ⟨by rw [R.out,t.out];simp,rfl⟩⟩
    ·cases hq:zft r[1] with
     | true =>
      have t:Hid (opOk sh[1] r[1]=true):=l.out.trans hq;go_wp2_with(first|(go_at_call 150;refine(zlf _ _ line x _ r[1] s q m n u c).mono ?_;rintro e C ⟨rfl,b,f⟩)|(go_at_call 79;refine(za1 _ _ _).mono ?_;rintro e B ⟨rfl,a⟩;have h2:=a.symm;subst h2))
      go_roundw
      case rel=>exact⟨1+1,z,s,zaH r[1],m,n,by omega,by go_num,zag i b,f,E.out.symm,by rw [R.out,t.out];simp⟩
      case measure=>simp [intOf];omega
     | false =>
      have t:Hid (opOk sh[1] r[1]=false):=l.out.trans hq;go_wp2_with(first|(go_at_call 150;refine(zlf _ _ line x _ r[1] s q m n u c).mono ?_;rintro e C ⟨rfl,b,f⟩)|(go_at_call 79;refine(za1 _ _ _).mono ?_;rintro e B ⟨rfl,a⟩;have h2:=a.symm;subst h2))
      exact⟨rfl,d (zag i b),.inr ⟨by rw [R.out,t.out];simp,rfl⟩⟩
    ·cases hq:zft r[2] with
     | true =>
      have t:Hid (opOk sh[2] r[2]=true):=l.out.trans hq;go_wp2_with(first|(go_at_call 150;refine(zlg _ _ line x _ r[2] s q m n u c).mono ?_;rintro e C ⟨rfl,b,f⟩)|(go_at_call 79;refine(za1 _ _ _).mono ?_;rintro e B ⟨rfl,a⟩;have h2:=a.symm;subst h2))
      go_roundw
      case rel=>exact⟨2+1,z,s,q,zaH r[2],n,by omega,by go_num,zag i b,f,E.out.symm,by rw [R.out,t.out];simp⟩
      case measure=>simp [intOf];omega
     | false =>
      have t:Hid (opOk sh[2] r[2]=false):=l.out.trans hq;go_wp2_with(first|(go_at_call 150;refine(zlg _ _ line x _ r[2] s q m n u c).mono ?_;rintro e C ⟨rfl,b,f⟩)|(go_at_call 79;refine(za1 _ _ _).mono ?_;rintro e B ⟨rfl,a⟩;have h2:=a.symm;subst h2))
      exact⟨rfl,d (zag i b),.inr ⟨by rw [R.out,t.out];simp,rfl⟩⟩
   ·have l:Hid (opOk sh[k] r[k]=(zaI r[k]).2):=zzg _ _ o;rw [o] at I;have E:Hid (opK sh r (k+1)=⟨z,s,q,m,zcZ r[k]⟩):=by unfold Hid;rw [G.out,o];rfl
    clear o G;cases hq:(zaI r[k]).2 with
    | true =>
     have t:Hid (opOk sh[k] r[k]=true):=l.out.trans hq;go_wp2_with(first|(go_at_call 150;refine(zo8 _ J _ _ line x _ r[k] s q m n u c).mono ?_;rintro e C ⟨rfl,b,f⟩)|(go_at_call 79;refine(za1 _ _ _).mono ?_;rintro e B ⟨rfl,a⟩;have h2:=a.symm;subst h2))
     go_roundw
     case rel=>exact⟨k+1,z,s,q,m,zcZ r[k],by omega,by go_num,zag i b,f,E.out.symm,by rw [R.out,t.out];simp⟩
     case measure=>simp [intOf];omega
    | false =>
     have t:Hid (opOk sh[k] r[k]=false):=l.out.trans hq;go_wp2_with(first|(go_at_call 150;refine(zo8 _ J _ _ line x _ r[k] s q m n u c).mono ?_;rintro e C ⟨rfl,b,f⟩)|(go_at_call 79;refine(za1 _ _ _).mono ?_;rintro e B ⟨rfl,a⟩;have h2:=a.symm;subst h2))
     exact⟨rfl,d (zag i b),.inr ⟨by rw [R.out,t.out];simp,rfl⟩⟩
   ·have l:Hid (opOk sh[k] r[k]=za8 r[k]):=zzh _ _ o;rw [o] at I;have E:Hid (opK sh r (k+1)=⟨r[k],s,q,m,n⟩):=by unfold Hid;rw [G.out,o];rfl
    clear o G;cases hq:za8 r[k] with
    | true =>
     have t:Hid (opOk sh[k] r[k]=true):=l.out.trans hq;go_wp2_with(first|(go_at_call 150;refine(zld _ _ _ line x _ r[k] s q m n u c).mono ?_;rintro e C ⟨rfl,b,f⟩)|(go_at_call 79;refine(za1 _ _ _).mono ?_;rintro e B ⟨rfl,a⟩;have h2:=a.symm;subst h2))
     go_roundw
     case rel=>exact⟨k+1,r[k],s,q,m,n,by omega,by go_num,zag i b,f,E.out.symm,by rw [R.out,t.out];simp⟩
     case measure=>simp [intOf];omega
    | false =>
     have t:Hid (opOk sh[k] r[k]=false):=l.out.trans hq;go_wp2_with(first|(go_at_call 150;refine(zld _ _ _ line x _ r[k] s q m n u c).mono ?_;rintro e C ⟨rfl,b,f⟩)|(go_at_call 79;refine(za1 _ _ _).mono ?_;rintro e B ⟨rfl,a⟩;have h2:=a.symm;subst h2))
     exact⟨rfl,d (zag i b),.inr ⟨by rw [R.out,t.out];simp,rfl⟩⟩
  ·have R:Hid (zaX sh r=true):=by unfold Hid;rw [HR.out,List.drop_of_length_le (by omega)];rfl
   have N:Hid (k=r.length):=by unfold Hid;omega
   obtain⟨c0,c1,c2,c3,c4,c5,c6,c7,fz⟩:=u;have D:∀ j,j<8→∃ y,wr.cell? ⟨w.heap.size,j,none⟩=some y:=fun j hj=>by
    obtain⟨y,hy⟩:=zvD w sh line x j hj;exact⟨y,i.cell hy (by simp;omega)⟩
   have hfz:∀ j,wr.frozen? ⟨w.heap.size,j,none⟩=false:=fun j=>by
    rw [World.frozen?_of_block (i.block w.heap.size (by simp [insW];omega) (by simp;omega))];exact zxH w sh line x j
   obtain⟨y0,z0⟩:=D 0 (by omega);obtain⟨y1,z1⟩:=D 1 (by omega);obtain⟨y2,z2⟩:=D 2 (by omega);obtain⟨y3,z3⟩:=D 3 (by omega);obtain⟨y4,z4⟩:=D 4 (by omega);obtain⟨y5,z5⟩:=D 5 (by omega);obtain⟨y6,z6⟩:=D 6 (by omega);obtain⟨y7,z7⟩:=D 7 (by omega);go_wp2;obtain⟨Z,X,f2,f3,U,Y,T,W⟩:=zpZ D;refine bodyPost_ret (v:=stm 2 line x s q m n z) (by simp [results,Tryz.results130,go_sem,Z,X,f2,f3,U,Y,T,W]) rfl ⟨zjz F (Nat.le_refl _) _ _ _ _ _ _ _ _,.inl ⟨R.out,?_⟩⟩;rw [←N.out,←V.out]
end Go.Proofs.YtfpgjkbjbbgciaaGreatDoor
