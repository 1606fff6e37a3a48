import Derived.Test.YtfpgjkbjbbgciaaGreatDoorMk06
set_option maxRecDepth 100000
set_option maxHeartbeats 8000000
namespace Go.Proofs.YtfpgjkbjbbgciaaGreatDoor
open Go.RowKit Sp
theorem zgt{w w':World}{B:Nat}(h:Lib.Utf8Tabs 1 2 w)(hb:Below B w w')(hB:3≤B):Lib.Utf8Tabs 1 2 w' :=
 ⟨fun c hc=>(hb.cell (p:=⟨1,c,none⟩) (by show 1<B;omega)).trans (h.1 c hc),fun i hi=>⟨(hb.cell (p:=⟨2,2*i,none⟩) (by show 2<B;omega)).trans (h.2 i hi).1,(hb.cell (p:=⟨2,2*i+1,none⟩) (by show 2<B;omega)).trans (h.2 i hi).2⟩⟩
theorem zgu{w w':World}{k base:Nat}{s:ByteArray}{pos:Nat}{v:Value}{n:Nat}{xs:List Value}(hk:w.heap[k]?=some (.stringIter s pos))(hown:w.ownsRow base 9 1 v n xs)(hkb:k<base)(hg:w.grownBy w' v.ownBlock):w'.heap[k]?=some (.stringIter s pos):=by
 have a:k<w.heap.size:=(Array.getElem?_eq_some_iff.1 hk).1;rw [hg.block k a (fun e=>by have:=(hown.lt k e.symm).1;omega)];exact hk
theorem zgv{w:World}{k:Nat}{s:ByteArray}{pos:Nat}(o:Obj)(hk:w.heap[k]?=some (.stringIter s pos)):(w.alloc o).heap[k]?=some (.stringIter s pos):=by
 have a:k<w.heap.size:=(Array.getElem?_eq_some_iff.1 hk).1;exact(Below.heap_alloc w o k a).trans hk
theorem zgw{w w':World}{k B:Nat}{s:ByteArray}{pos:Nat}(hk:w.heap[k]?=some (.stringIter s pos))(hb:Below B w w')(hB:w.heap.size≤B):w'.heap[k]?=some (.stringIter s pos):=by
 have hlt:k<w.heap.size:=(Array.getElem?_eq_some_iff.1 hk).1;rw [hb.block k (by omega)];exact hk
inductive At(s:ByteArray)(pos:Nat)(acc:List ByteArray):Int→Bool→Prop
 | out (h:zbu s=acc):At s pos acc (-1) true
 | gap (h:zbu s=zaE s pos ByteArray.empty acc):At s pos acc (-1) false
 | word (b:Nat) (hb:b<pos) (h:zbu s=zaE s pos (s.extract b pos) acc):At s pos acc (b:Int) false
def zsC(s:ByteArray)(line:Int)(w:World):Ending→World→Prop:=fun e w' =>
 Below w.heap.size w w'∧(zaz s 0=true∧(∃ v,e=.returned v∧w'.ownsRow w.heap.size 9 1 v (zbu s).length ((zbu s).map Value.string))∨zaz s 0=false∧e=zak 1 line)
theorem zvL{w:World}{base:Nat}{v:Value}{n:Nat}{xs:List Value}(h:w.ownsRow base 9 1 v n xs){k:Nat}(hk:k<base)(s:ByteArray)(p:Nat):(w.iterAt k s p).ownsRow base 9 1 v n xs:=ownsRow_iterAt h hk s p
theorem zh0(s:ByteArray)(b pos:Nat)(hb:b<pos)(hp:pos≤s.size):¬(s.extract b pos).size=0:=by rw [ByteArray.size_extract];omega
theorem zsD(s:ByteArray)(i:Nat)(hi:i<s.size)(h0:¬(chr s i).1=0)(h:128≤(chr s i).2):¬chrN s i=1:=by
 intro e;have d:=zcW s i hi h0;by_cases c:bt s i<128
 ·rw [znr s i c] at h;simp at h;omega
 ·unfold chrN at e d;unfold chr at e h0;rw [if_neg c] at e h0;split at e
  ·rename_i hc;rw [if_pos hc] at h0;rcases zbA 2 128 (zd5 s (i+1) 1 (bt s i-192)) with a|⟨v,_,b,_,_⟩
   ·rw [a] at h0;exact absurd rfl h0
   ·rw [b] at e;simp at e
  ·rename_i hc;rw [if_neg hc] at h0;split at e
   ·rename_i hd;rw [if_pos hd] at h0;rcases zbA 3 2048 (zd5 s (i+1) 2 (bt s i-224)) with a|⟨v,_,b,_,_⟩
    ·rw [a] at h0;exact absurd rfl h0
    ·rw [b] at e;simp at e
   ·rename_i hd;rw [if_neg hd] at h0;split at e
    ·rename_i he;rw [if_pos he] at h0;rcases zbA 4 65536 (zd5 s (i+1) 3 (bt s i-240)) with a|⟨v,_,b,_,_⟩
     ·rw [a] at h0;exact absurd rfl h0
     ·rw [b] at e;simp at e
    ·simp at e
theorem zsE(b:Int):((b != 32)=true∧(b != 9)=true∧(b == 59)=false∧¬(b=32∨b=9∨b=59))∨((b != 32)=false∧(b == 59)=false∧b=32)∨((b != 32)=true∧(b != 9)=false∧(b == 59)=false∧b=9)∨((b == 59)=true∧b=59):=by
 by_cases d:b=32
 ·subst d;simp
 ·by_cases a:b=9
  ·subst a;simp
  ·by_cases c:b=59
   ·subst c;simp
   ·left;simp [d,a,c]
theorem zgx(s:ByteArray)(line:Int)(w:World)(hw:LibW w)(hs:s.size≤1048576):
  Calls Tryz.prog 98 #[.string s,.int .i64 line] w (zsC s line w):=by
 obtain⟨i0,Z,M,N,O⟩:=info_parts Tryz.info9;have H:=hw.tabs;have hlow:=hw.low;have W:(w.iter s 0).heap[w.heap.size]?=some (.stringIter s 0):=World.iter_heap w s 0;have V:Below w.heap.size w (w.iter s 0):=(Below.refl _ w).alloc (Nat.le_refl _) _;go_enter Tryz.func98,Tryz.ntmps98;go_wp2
 go_loopw [5,6,7] (fun v tb tl wr=>∃(a:Nat) (c:List ByteArray) (bg:Int) (lo:Bool),a≤s.size∧c.length≤a∧tb=.int .i64 bg∧tl=.bool lo∧wr.heap[w.heap.size]?=some (.stringIter s a)∧wr.ownsRow (w.heap.size+1) 9 1 v c.length (c.map Value.string)∧Below w.heap.size w wr∧zaz s 0=zaz s a∧At s a c bg lo) (fun _ _ _ wr=>s.size-wr.iterPos w.heap.size)
 case atStart=>exact⟨0,[],-1,false,by omega,by simp,rfl,rfl,W,World.ownsRow_nil _ _ _ _,V,rfl,.gap rfl⟩
 case round =>
  obtain⟨a,c,bg,lo,hp,hacc,rfl,rfl,Q,q,G,hV,S⟩:=hrel;have HV:Hid (zaz s 0=zaz s a):=hV;clear hV W V;have HMU:Hid (wr.iterPos w.heap.size=a):=by unfold Hid;simp [World.iterPos,Q]
  have hsz:=G.size;by_cases i:a<s.size
  ·by_cases P:(chr s a).1=0
   ·
    have x:=zku wr w.heap.size s a Q i P;have g:=Lib.below_iterAt G (Nat.le_refl _) s (a+1);generalize wr.iterAt w.heap.size s (a+1)=W1 at x g;have t:=zgt H g (by omega);have HF:Hid (zaz s 0=false):=by unfold Hid;rw [HV.out,znm s a i P]
    have hd:(((Utf8.decode s a).2:Int) == 1)=true:=by rw [(zgo s a).1 P];rfl
    clear S q Q;go_wp2_with(first|(go_at_call 126;refine(zeA s a _ t i).mono ?_;rintro e T ⟨rfl,p⟩)|(go_at_call 79;refine(zay _ _ _).mono ?_;rintro e wx ⟨rfl,ab⟩;have h2:=ab.symm;subst h2))
    exact⟨rfl,g.trans (p.mono g.size),.inr ⟨HF.out,rfl⟩⟩
   ·have aa:=zcW s a i P;obtain⟨_,hp2,hp3,hp4,hp5,hp6⟩:=aa;have x:=zfB wr w.heap.size s a Q i P;have g:=Lib.below_iterAt G (Nat.le_refl _) s (a+chrN s a);have k:=Lib.iterAt_heap wr w.heap.size s a (a+chrN s a) Q;have d:=zvL q (Nat.lt_succ_self _) s (a+chrN s a);have R:(wr.iterAt w.heap.size s (a+chrN s a)).heap.size=wr.heap.size:=Lib.iterAt_size _ _ _ _;generalize wr.iterAt w.heap.size s (a+chrN s a)=W1 at x g k d R;have Y:w.heap.size+1≤W1.heap.size:=by
     have:=(Array.getElem?_eq_some_iff.1 k).1;omega
    have t:=zgt H g (by omega);have m:Hid (zaz s 0=zaz s (a+chrN s a)):=by unfold Hid;rw [HV.out,zgS s a i P]
    have o:Hid (W1.iterPos w.heap.size=a+chrN s a):=by unfold Hid;simp [World.iterPos,k]
    have u:Hid (¬(chr s a).1=0):=P;clear R q Q P;cases hf:((chr s a).2 == 65533) with
    | true =>
     have C:(chr s a).2=65533:=by simpa using hf
     have hd:(((Utf8.decode s a).2:Int) == 1)=false:=by
      rw [(zgo s a).2 u.out];show(((chrN s a:Nat):Int) == 1)=false;have:¬chrN s a=1:=by
       intro e;rcases zif s a i u.out with ⟨ha,K⟩|⟨_,_⟩
       ·rw [K] at C;simp at C;omega
       ·have hq:=zsD s a i u.out (by omega);omega
      simp;omega
     have h59:((chr s a).2 == 59)=false:=by rw [C];rfl
     have h32:((chr s a).2 != 32)=true:=by rw [C];rfl
     have h9:((chr s a).2 != 9)=true:=by rw [C];rfl
     have U:Hid ((chr s a).2=65533):=C;clear C;cases S with
     | out h =>
      have l:Hid (zbu s=c):=h;clear h;go_wp2_with(go_at_call 126;refine(zeA s a _ t i).mono ?_;rintro e T ⟨rfl,p⟩)
      have D:=zgw k p (Nat.le_refl _);have r:=zbw d p (Nat.le_refl _);have A:=g.trans (p.mono g.size);have y:Hid (T.iterPos w.heap.size=a+chrN s a):=by unfold Hid;simp [World.iterPos,D]
      go_roundw
      case rel=>exact⟨a+chrN s a,c,-1,true,by omega,by omega,rfl,rfl,D,r,A,m.out,.out l.out⟩
      case measure=>rw [HMU.out,y.out];omega
     | gap h =>
      have C:=U.out;have l:Hid (zbu s=zaE s (a+chrN s a) (s.extract a (a+chrN s a)) c):=by
       unfold Hid;rw [h,zeE s a _ c i u.out (by omega)];congr 1 <;> simp
      clear h;clear C;go_wp2_with(go_at_call 126;refine(zeA s a _ t i).mono ?_;rintro e T ⟨rfl,p⟩)
      have D:=zgw k p (Nat.le_refl _);have r:=zbw d p (Nat.le_refl _);have A:=g.trans (p.mono g.size);have y:Hid (T.iterPos w.heap.size=a+chrN s a):=by unfold Hid;simp [World.iterPos,D]
      go_roundw
      case rel=>exact⟨a+chrN s a,c,(a:Int),false,by omega,by omega,rfl,rfl,D,r,A,m.out,.word a (by omega) l.out⟩
      case measure=>rw [HMU.out,y.out];omega
     | word b K h =>
      have C:=U.out;have l:Hid (zbu s=zaE s (a+chrN s a) (s.extract b (a+chrN s a)) c):=by
       unfold Hid;rw [h,zeE s a _ c i u.out (by omega),zny s b a _ (by omega) (by omega)]
      clear h;clear C;go_wp2_with(go_at_call 126;refine(zeA s a _ t i).mono ?_;rintro e T ⟨rfl,p⟩)
      have D:=zgw k p (Nat.le_refl _);have r:=zbw d p (Nat.le_refl _);have A:=g.trans (p.mono g.size);have y:Hid (T.iterPos w.heap.size=a+chrN s a):=by unfold Hid;simp [World.iterPos,D]
      go_roundw
      case rel=>exact⟨a+chrN s a,c,(b:Int),false,by omega,by omega,rfl,rfl,D,r,A,m.out,.word b (by omega) l.out⟩
      case measure=>rw [HMU.out,y.out];omega
    | false =>
     rcases zsE (chr s a).2 with ⟨h1,h2,h3,J⟩|⟨h1,h3,J⟩|⟨h1,h2,h3,J⟩|⟨h3,J⟩
     ·have H4:Hid (¬((chr s a).2=32∨(chr s a).2=9∨(chr s a).2=59)):=J;clear J;cases S with
      | out h =>
       have l:Hid (zbu s=c):=h;clear h;go_wp2;go_roundw
       case rel=>exact⟨a+chrN s a,c,-1,true,by omega,by omega,rfl,rfl,k,d,g,m.out,.out l.out⟩
       case measure=>rw [HMU.out,o.out];omega
      | gap h =>
       have l:Hid (zbu s=zaE s (a+chrN s a) (s.extract a (a+chrN s a)) c):=by
        unfold Hid;rw [h,zeE s a _ c i u.out H4.out];congr 1 <;> simp
       clear h;go_wp2;go_roundw
       case rel=>exact⟨a+chrN s a,c,(a:Int),false,by omega,by omega,rfl,rfl,k,d,g,m.out,.word a (by omega) l.out⟩
       case measure=>rw [HMU.out,o.out];omega
      | word b K h =>
       have l:Hid (zbu s=zaE s (a+chrN s a) (s.extract b (a+chrN s a)) c):=by
        unfold Hid;rw [h,zeE s a _ c i u.out H4.out,zny s b a _ (by omega) (by omega)]
       clear h;go_wp2;go_roundw
       case rel=>exact⟨a+chrN s a,c,(b:Int),false,by omega,by omega,rfl,rfl,k,d,g,m.out,.word b (by omega) l.out⟩
       case measure=>rw [HMU.out,o.out];omega
     ·have B:=zig s a i u.out (by omega);have I:Hid (bt s a=32∧chrN s a=1):=⟨by rw [B.1,J],B.2⟩
      clear B J;cases S with
      | out h =>
       have l:Hid (zbu s=c):=h;clear h;go_wp2;go_roundw
       case rel=>exact⟨a+chrN s a,c,-1,true,by omega,by omega,rfl,rfl,k,d,g,m.out,.out l.out⟩
       case measure=>rw [HMU.out,o.out];omega
      | gap h =>
       have l:Hid (zbu s=zaE s (a+chrN s a) ByteArray.empty c):=by
        unfold Hid;rw [h,zcl s a _ c i (by have:=I.out.1;omega),I.out.2];rfl
       clear h;go_wp2;go_roundw
       case rel=>exact⟨a+chrN s a,c,-1,false,by omega,by omega,rfl,rfl,k,d,g,m.out,.gap l.out⟩
       case measure=>rw [HMU.out,o.out];omega
      | word b K h =>
       have l:Hid (zbu s=zaE s (a+chrN s a) ByteArray.empty (c++[s.extract b a])):=by
        unfold Hid;rw [h,zcl s a _ c i (by have:=I.out.1;omega),I.out.2,zfA _ _ (zh0 s b a K hp)]
       clear h;go_wp2_with(at_builtin;refine wpList_append_own _ rfl _ _ 67 rfl (w.heap.size+1) 9 i0 (.string ByteArray.empty) 1 16 Tryz.under67 Z M N O rfl (by decide) _ _ _ rfl (d.alloc _) ⟨W1.heap.size,0,none⟩ 1 1 [.string (s.extract b a)] rfl rfl (cell_one_new _ _ _) (zdu _) (by unfold maxLen;omega) (by omega) (by simp;omega) ?_)
       intro v' L n f _;have F:Below w.heap.size w L:=(g.alloc g.size _).grown f (by simp;omega) (fun j hj=>by have:=(d.lt j hj).1;omega);have E:=zgu (zgv _ k) (d.alloc _) (Nat.lt_succ_self _) f;have z:Hid (L.iterPos w.heap.size=a+chrN s a):=by unfold Hid;simp [World.iterPos,E]
       clear f;go_wp2;go_roundw
       case rel=>exact⟨a+chrN s a,c++[s.extract b a],-1,false,by omega,by simp;omega,rfl,rfl,E,by simpa using n,F,m.out,.gap l.out⟩
       case measure=>rw [HMU.out,z.out];omega
     ·have B:=zig s a i u.out (by omega);have I:Hid (bt s a=9∧chrN s a=1):=⟨by rw [B.1,J],B.2⟩
      clear B J;cases S with
      | out h =>
       have l:Hid (zbu s=c):=h;clear h;go_wp2;go_roundw
       case rel=>exact⟨a+chrN s a,c,-1,true,by omega,by omega,rfl,rfl,k,d,g,m.out,.out l.out⟩
       case measure=>rw [HMU.out,o.out];omega
      | gap h =>
       have l:Hid (zbu s=zaE s (a+chrN s a) ByteArray.empty c):=by
        unfold Hid;rw [h,zcl s a _ c i (by have:=I.out.1;omega),I.out.2];rfl
       clear h;go_wp2;go_roundw
       case rel=>exact⟨a+chrN s a,c,-1,false,by omega,by omega,rfl,rfl,k,d,g,m.out,.gap l.out⟩
       case measure=>rw [HMU.out,o.out];omega
      | word b K h =>
       have l:Hid (zbu s=zaE s (a+chrN s a) ByteArray.empty (c++[s.extract b a])):=by
        unfold Hid;rw [h,zcl s a _ c i (by have:=I.out.1;omega),I.out.2,zfA _ _ (zh0 s b a K hp)]
       clear h;go_wp2_with(at_builtin;refine wpList_append_own _ rfl _ _ 67 rfl (w.heap.size+1) 9 i0 (.string ByteArray.empty) 1 16 Tryz.under67 Z M N O rfl (by decide) _ _ _ rfl (d.alloc _) ⟨W1.heap.size,0,none⟩ 1 1 [.string (s.extract b a)] rfl rfl (cell_one_new _ _ _) (zdu _) (by unfold maxLen;omega) (by omega) (by simp;omega) ?_)
       intro v' L n f _;have F:Below w.heap.size w L:=(g.alloc g.size _).grown f (by simp;omega) (fun j hj=>by have:=(d.lt j hj).1;omega);have E:=zgu (zgv _ k) (d.alloc _) (Nat.lt_succ_self _) f;have z:Hid (L.iterPos w.heap.size=a+chrN s a):=by unfold Hid;simp [World.iterPos,E]
       clear f;go_wp2;go_roundw
       case rel=>exact⟨a+chrN s a,c++[s.extract b a],-1,false,by omega,by simp;omega,rfl,rfl,E,by simpa using n,F,m.out,.gap l.out⟩
       case measure=>rw [HMU.out,z.out];omega
     ·have B:=zig s a i u.out (by omega);have I:Hid (bt s a=59∧chrN s a=1):=⟨by rw [B.1,J],B.2⟩
      clear B J;cases S with
      | out h =>
       have l:Hid (zbu s=c):=h;clear h;go_wp2;go_roundw
       case rel=>exact⟨a+chrN s a,c,-1,true,by omega,by omega,rfl,rfl,k,d,g,m.out,.out l.out⟩
       case measure=>rw [HMU.out,o.out];omega
      | gap h =>
       have l:Hid (zbu s=c):=by
        unfold Hid;rw [h,zcK s a _ c i I.out.1];rfl
       clear h;go_wp2;go_roundw
       case rel=>exact⟨a+chrN s a,c,-1,true,by omega,by omega,rfl,rfl,k,d,g,m.out,.out l.out⟩
       case measure=>rw [HMU.out,o.out];omega
      | word b K h =>
       have l:Hid (zbu s=c++[s.extract b a]):=by
        unfold Hid;rw [h,zcK s a _ c i I.out.1,zfA _ _ (zh0 s b a K hp)]
       clear h;go_wp2_with(at_builtin;refine wpList_append_own _ rfl _ _ 67 rfl (w.heap.size+1) 9 i0 (.string ByteArray.empty) 1 16 Tryz.under67 Z M N O rfl (by decide) _ _ _ rfl (d.alloc _) ⟨W1.heap.size,0,none⟩ 1 1 [.string (s.extract b a)] rfl rfl (cell_one_new _ _ _) (zdu _) (by unfold maxLen;omega) (by omega) (by simp;omega) ?_)
       intro v' L n f _;have F:Below w.heap.size w L:=(g.alloc g.size _).grown f (by simp;omega) (fun j hj=>by have:=(d.lt j hj).1;omega);have E:=zgu (zgv _ k) (d.alloc _) (Nat.lt_succ_self _) f;have z:Hid (L.iterPos w.heap.size=a+chrN s a):=by unfold Hid;simp [World.iterPos,E]
       clear f;go_wp2;go_roundw
       case rel=>exact⟨a+chrN s a,c++[s.extract b a],-1,true,by omega,by simp;omega,rfl,rfl,E,by simpa using n,F,m.out,.out l.out⟩
       case measure=>rw [HMU.out,z.out];omega
  ·have x:∀ ty,(Instr.next (.pointer (some ⟨w.heap.size,0,none⟩)) true ty).run Tryz.prog wr=.ok (.tuple #[.bool false]) wr:=fun ty=>Lib.run_next_end_at wr w.heap.size s a ty Q i;have HT:Hid (zaz s 0=true):=by unfold Hid;rw [HV.out,zhK s a i]
   cases S with
   | out h =>
    have l:Hid (zbu s=c):=h;clear h;go_wp2;go_ret;exact⟨G,.inl ⟨HT.out,_,rfl,by rw [l.out];exact zbR q (by omega)⟩⟩
   | gap h =>
    have l:Hid (zbu s=c):=by unfold Hid;rw [h,zdf s a _ c i];rfl
    clear h;go_wp2;go_ret;exact⟨G,.inl ⟨HT.out,_,rfl,by rw [l.out];exact zbR q (by omega)⟩⟩
   | word b K h =>
    have X:a=s.size:=by omega
    have l:Hid (zbu s=c++[s.extract b s.size]):=by
     unfold Hid;rw [h,zdf s a _ c i,zfA _ _ (zh0 s b a K hp),X]
    clear h X;have d:=q;have hbs:b<s.size:=by omega
    have Y:w.heap.size+1≤wr.heap.size:=by
     have:=(Array.getElem?_eq_some_iff.1 Q).1;omega
    go_wp2_with(at_builtin;refine wpList_append_own _ rfl _ _ 67 rfl (w.heap.size+1) 9 i0 (.string ByteArray.empty) 1 16 Tryz.under67 Z M N O rfl (by decide) _ _ _ rfl (d.alloc _) ⟨wr.heap.size,0,none⟩ 1 1 [.string (s.extract b s.size)] rfl rfl (cell_one_new _ _ _) (zdu _) (by unfold maxLen;omega) (by omega) (by simp;omega) ?_)
    intro v' L n f _;have F:Below w.heap.size w L:=(G.alloc G.size _).grown f (by simp;omega) (fun j hj=>by have:=(q.lt j hj).1;omega);clear f;go_wp2;go_ret;exact⟨F,.inl ⟨HT.out,_,rfl,by rw [l.out];exact zbR (by simpa using n) (by omega)⟩⟩
theorem LibW.below{w w':World}(h:LibW w)(hb:Below w.heap.size w w'):LibW w':=by
 have hlow:=h.low;refine⟨zgt h.tabs hb (by omega),?_,?_,?_,by have:=hb.size;omega⟩
 ·obtain⟨m,c⟩:=h.most;exact⟨m,(hb.cell (p:=⟨0,0,none⟩) (by show 0<w.heap.size;omega)).trans c⟩
 ·obtain⟨b,p,a⟩:=h.syn;exact⟨b,p,var?_below (g:=3) hb (by kernel_rfl) (by omega) a⟩
 ·obtain⟨b,p,a⟩:=h.rng;exact⟨b,p,var?_below (g:=4) hb (by kernel_rfl) (by omega) a⟩
def zqr(sh:List UInt8)(r:List ByteArray):Nat→ByteArray
 | 0=>⟨#[]⟩
 | k+1=>if zbf (sh[k]?.getD 0)=2 then r[k]?.getD ⟨#[]⟩ else zqr sh r k
structure Opd where
 nm:ByteArray
 a:Int
 b:Int
 c:Int
 n:Int
def Opd.take(o:Opd)(k:Nat)(kind:Int)(x:ByteArray):Opd :=
 if kind=0 then(if k=0 then{ o with a:=zap x } else if k=1 then{ o with b:=zap x } else{ o with c:=zap x })
 else if kind=1 then{ o with n:=zcc x } else{ o with nm:=x }
def opd0:Opd:=⟨⟨#[]⟩,0,0,0,0⟩
def opK(sh:List UInt8)(r:List ByteArray):Nat→Opd
 | 0=>opd0
 | k+1=>(opK sh r k).take k (zbf (sh[k]?.getD 0)) (r[k]?.getD ⟨#[]⟩)
theorem zvM(sh:List UInt8)(r:List ByteArray)(k:Nat)(hk:k<sh.length)(hr:k<r.length):opK sh r (k+1)=(opK sh r k).take k (zbf sh[k]) r[k]:=by
 show(opK sh r k).take k (zbf (sh[k]?.getD 0)) (r[k]?.getD ⟨#[]⟩)=_;rw [List.getElem?_eq_getElem hk,List.getElem?_eq_getElem hr];rfl
theorem zzS(sh:List UInt8)(r:List ByteArray)(k:Nat):(opK sh r k).nm=zqr sh r k:=by
 induction k with
 | zero=>rfl
 | succ k ih =>
  show((opK sh r k).take k (zbf (sh[k]?.getD 0)) (r[k]?.getD ⟨#[]⟩)).nm=if zbf (sh[k]?.getD 0)=2 then r[k]?.getD ⟨#[]⟩ else zqr sh r k
  have b:∀ a:UInt8,zbf a=0∨zbf a=1∨zbf a=2:=fun a=>by
   unfold zbf;split
   ·simp
   ·split <;> simp
  unfold Opd.take;rcases b (sh[k]?.getD 0) with h|h|h
  ·rw [if_neg (show ¬zbf (sh[k]?.getD 0)=2 by rw [h];decide),if_pos h];split
   ·exact ih
   ·split <;> exact ih
  ·rw [if_neg (show ¬zbf (sh[k]?.getD 0)=2 by rw [h];decide),if_neg (show ¬zbf (sh[k]?.getD 0)=0 by rw [h];decide),if_pos h];exact ih
  ·rw [if_pos h,if_neg (show ¬zbf (sh[k]?.getD 0)=0 by rw [h];decide),if_neg (show ¬zbf (sh[k]?.getD 0)=1 by rw [h];decide)]
abbrev Opd.stm(o:Opd)(line:Int)(x:ByteArray):Value:=Go.Proofs.YtfpgjkbjbbgciaaGreatDoor.stm 2 line x o.a o.b o.c o.n o.nm
def zhr(x:ByteArray)(r:List ByteArray):Bool:=if zaa x=[63]∨¬r.length=(zaa x).length then false else za1 (zaa x) r
def zsF(w:World)(x:ByteArray)(r:List ByteArray)(line:Int):Ending→World→Prop:=fun e w' =>
 Below w.heap.size w w'∧(zhr x r=true∧e=.returned ((opK (zaa x) r r.length).stm line x)∨zhr x r=false∧e=zak 1 line)
theorem zsG(x:ByteArray)(w:World)(sh:List UInt8)(HS:Hid (zaa x=sh)):Calls Tryz.prog 149 #[.string x] w (zb4 w sh):=by
 rw [←HS.out];exact zvK x w
theorem zvN(x:ByteArray)(w:World)(HS:Hid (zaa x=[63])):Calls Tryz.prog 149 #[.string x] w fun e w'=>e=.returned (.tuple #[.slice none 0 0,.bool false])∧w'=w:=by
 refine(zsG x w _ HS).mono ?_;rintro e w' (⟨_,h1,h2⟩|⟨h,_⟩|⟨h,_⟩)
 ·exact⟨h1,h2.symm⟩
 ·cases h
 ·exact absurd rfl h
theorem zl4(x:ByteArray)(w:World)(HS:Hid (zaa x=[])):Calls Tryz.prog 149 #[.string x] w fun e w'=>e=.returned (.tuple #[.slice none 0 0,.bool true])∧w'=w:=by
 refine(zsG x w _ HS).mono ?_;rintro e w' (⟨h,_⟩|⟨_,h1,h2⟩|⟨_,h,_⟩)
 ·cases h
 ·exact⟨h1,h2.symm⟩
 ·exact absurd rfl h
theorem zph(x:ByteArray)(w:World)(sh:List UInt8)(HS:Hid (zaa x=sh))(h1:¬sh=[63])(h2:¬sh=[]):Calls Tryz.prog 149 #[.string x] w fun e w'=>e=.returned (.tuple #[.slice (some ⟨w.heap.size,0,none⟩) sh.length sh.length,.bool true])∧w'=w.alloc (.cells (sh.map (fun k=>Value.int .i64 (zbf k))).toArray 225):=by
 refine(zsG x w _ HS).mono ?_;rintro e w' (⟨h,_⟩|⟨h,_⟩|⟨_,_,h3,h4⟩)
 ·exact absurd h h1
 ·exact absurd h h2
 ·exact⟨h3,h4⟩
theorem zsH(w:World)(g cap:Nat)(x:ByteArray)(r:List ByteArray)(line:Int)(hl:WordsIn w g (x :: r))(_hn:r.length≤1048576)(HS:Hid (zaa x=[63])):
  Calls Tryz.prog 130 #[.slice (some ⟨g,0,none⟩) (r.length+1) cap,.int .i64 line] w fun e w'=>e=zak 1 line∧Below w.heap.size w w':=by
 have b:=hl 0 (by simp);simp only [List.getElem_cons_zero] at b;have hlt:g<w.heap.size:=by
  have:=World.block_lt_of_cell? w _ b;simpa using this
 go_enter Tryz.func130,Tryz.ntmps130;go_wp2_with(first
  | (go_at_call 149;refine(zvN x _ HS).mono ?_;rintro e d ⟨rfl,a⟩;have c:=a.symm;subst c)
  | (go_at_call 79;refine(zay _ _ _).mono ?_;rintro e d ⟨rfl,a⟩;have c:=a.symm;subst c))
 exact⟨rfl,rfl,(Below.refl _ _).alloc (Nat.le_refl _) _⟩
theorem zvO(w:World)(g cap:Nat)(x:ByteArray)(r:List ByteArray)(line:Int)(hl:WordsIn w g (x :: r))(hn:r.length≤1048576)(sh:List UInt8)(HS:Hid (zaa x=sh))(h1:¬sh=[63])(hs3:sh.length≤3)(hne:((r.length:Int) != (sh.length:Int))=true):
  Calls Tryz.prog 130 #[.slice (some ⟨g,0,none⟩) (r.length+1) cap,.int .i64 line] w fun e w'=>e=zak 1 line∧Below w.heap.size w w':=by
 have c:=hl 0 (by simp);simp only [List.getElem_cons_zero] at c;have hlt:g<w.heap.size:=by
  have:=World.block_lt_of_cell? w _ c;simpa using this
 by_cases b:sh=[]
 ·subst b;have hne0:((r.length:Int) != 0)=true:=hne;go_enter Tryz.func130,Tryz.ntmps130;go_wp2_with(first
   | (go_at_call 149;refine(zl4 x _ HS).mono ?_;rintro e d ⟨rfl,a⟩;have b:=a.symm;subst b)
   | (go_at_call 79;refine(zay _ _ _).mono ?_;rintro e d ⟨rfl,a⟩;have b:=a.symm;subst b))
  exact⟨rfl,rfl,(Below.refl _ _).alloc (Nat.le_refl _) _⟩
 ·go_enter Tryz.func130,Tryz.ntmps130;go_wp2_with(first
   | (go_at_call 149;refine(zph x _ sh HS h1 b).mono ?_;rintro e d ⟨rfl,a⟩;subst a)
   | (go_at_call 79;refine(zay _ _ _).mono ?_;rintro e d ⟨rfl,a⟩;have b:=a.symm;subst b))
  exact⟨rfl,rfl,((Below.refl _ _).alloc (Nat.le_refl _) _).alloc (by simp) _⟩
abbrev insW(w:World)(sh:List UInt8)(line:Int)(x:ByteArray):World :=
 ((w.alloc (.cells #[.int .i64 0,.int .i64 0,.string ⟨#[]⟩,.int .i64 0,.int .i64 0,.int .i64 0,.int .i64 0,.string ⟨#[]⟩] 135)).alloc (.cells (sh.map (fun k=>Value.int .i64 (zbf k))).toArray 225)).alloc (.cells #[.int .i64 2,.int .i64 line,.string x,.int .i64 0,.int .i64 0,.int .i64 0,.int .i64 0,.string ⟨#[]⟩] 135)
theorem zcr(w:World)(a b:Obj)(c:Array Value)(ty:TypeId)(i:Nat):(((w.alloc a).alloc b).alloc (.cells c ty)).cell? ⟨w.heap.size+1+1,i,none⟩=c[i]?:=by
 have:=World.cell?_alloc_new (w:=(w.alloc a).alloc b) c ty i;rw [World.size_alloc,World.size_alloc] at this;exact this
theorem zqs(w:World)(a o:Obj)(c:Array Value)(ty:TypeId)(i:Nat):(((w.alloc a).alloc (.cells c ty)).alloc o).cell? ⟨w.heap.size+1,i,none⟩=c[i]?:=by
 rw [World.cell?_alloc_lt ((w.alloc a).alloc (.cells c ty)) o ⟨w.heap.size+1,i,none⟩ (by simp)];simp
theorem zqt(w:World)(b o:Obj)(c:Array Value)(ty:TypeId)(i:Nat):(((w.alloc (.cells c ty)).alloc b).alloc o).cell? ⟨w.heap.size,i,none⟩=c[i]?:=by
 rw [World.cell?_alloc_lt ((w.alloc (.cells c ty)).alloc b) o ⟨w.heap.size,i,none⟩ (by simp;omega)];simp
theorem zpi(w:World)(c:Array Value)(ty:TypeId)(o:Nat):(w.alloc (.cells c ty)).frozen? ⟨w.heap.size,o,none⟩=false:=by simp
theorem zvP(w:World)(sh:List UInt8)(line:Int)(x:ByteArray):StmAt (insW w sh line x) (w.heap.size+1+1) line x ⟨#[]⟩ 0 0 0 0:=by
 refine⟨zcr _ _ _ _ _ 0,zcr _ _ _ _ _ 1,zcr _ _ _ _ _ 2,zcr _ _ _ _ _ 3,zcr _ _ _ _ _ 4,zcr _ _ _ _ _ 5,zcr _ _ _ _ _ 6,zcr _ _ _ _ _ 7,fun o=>?_⟩;have h:=zpi ((w.alloc (.cells #[.int .i64 0,.int .i64 0,.string ⟨#[]⟩,.int .i64 0,.int .i64 0,.int .i64 0,.int .i64 0,.string ⟨#[]⟩] 135)).alloc (.cells (sh.map (fun k=>Value.int .i64 (zbf k))).toArray 225)) #[.int .i64 2,.int .i64 line,.string x,.int .i64 0,.int .i64 0,.int .i64 0,.int .i64 0,.string ⟨#[]⟩] 135 o;rw [World.size_alloc,World.size_alloc] at h;exact h
theorem zys(w:World)(sh:List UInt8)(line:Int)(x:ByteArray)(k:Nat)(hk:k<sh.length):(insW w sh line x).cell? ⟨w.heap.size+1,k,none⟩=some (.int .i64 (zbf sh[k])):=by
 rw [zqs];simp [hk]
theorem zvQ(w:World)(sh:List UInt8)(line:Int)(x:ByteArray)(j:Nat)(hj:j<8):∃ y,(insW w sh line x).cell? ⟨w.heap.size,j,none⟩=some y:=by
 rw [zqt];exact⟨_,Array.getElem?_eq_getElem (by simpa using hj)⟩
theorem zyt(w:World)(sh:List UInt8)(line:Int)(x:ByteArray)(j:Nat):(insW w sh line x).frozen? ⟨w.heap.size,j,none⟩=false:=by
 have hb:Below (w.heap.size+1) (w.alloc (.cells #[.int .i64 0,.int .i64 0,.string ⟨#[]⟩,.int .i64 0,.int .i64 0,.int .i64 0,.int .i64 0,.string ⟨#[]⟩] 135)) (insW w sh line x):=((Below.refl _ _).alloc (by simp) _).alloc (by simp) _;rw [hb.frozen (p:=⟨w.heap.size,j,none⟩) (by simp)];exact zpi _ _ _ _
theorem zjI{w wr:World}{sh:List UInt8}{line:Int}{x:ByteArray}(h:(insW w sh line x).grownBy wr (some (w.heap.size+1+1))):Below w.heap.size w wr :=
 ((((Below.refl _ w).alloc (Nat.le_refl _) _).alloc (by simp) _).alloc (by simp;omega) _).grown h (by simp;omega) (fun k hk=>by simp at hk;omega)
theorem zae{a b c:World}{q:Option Nat}(h:a.grownBy b q)(k:b.grownBy c q):a.grownBy c q :=
 ⟨k.os.trans h.os,k.tape.trans h.tape,k.output.trans h.output,Nat.le_trans h.size k.size,fun i hi hne=>(k.block i (Nat.lt_of_lt_of_le hi h.size) hne).trans (h.block i hi hne)⟩
theorem zzT(a:UInt8)(y:ByteArray)(h:zbf a=0):opOk a y=zeU y:=by
 unfold zbf at h;unfold opOk;split at h
 ·rename_i hc;rw [if_pos hc];rfl
 ·split at h <;> simp at h
theorem zzU(a:UInt8)(y:ByteArray)(h:zbf a=1):opOk a y=(zb3 y).2:=by
 unfold zbf at h;unfold opOk;split at h
 ·simp at h
 ·rename_i hc;split at h
  ·rename_i hd;rw [if_neg hc,if_pos hd]
  ·simp at h
theorem zzV(a:UInt8)(y:ByteArray)(h:zbf a=2):opOk a y=za6 y:=by
 unfold zbf at h;unfold opOk;split at h
 ·simp at h
 ·rename_i hc;split at h
  ·simp at h
  ·rename_i hd;rw [if_neg hc,if_neg hd]
theorem zvR(w:World)(hw:LibW w)(g cap:Nat)(x:ByteArray)(r:List ByteArray)(line:Int)(hl:WordsIn w g (x :: r))(hsz:∀ j (hj:j<r.length),r[j].size≤1048576)(sh:List UInt8)(HS:Hid (zaa x=sh))(h1:¬sh=[63])(h2:¬sh=[])(hs3:sh.length≤3)(hle:sh.length≤r.length)(hge:r.length≤sh.length):
  Calls Tryz.prog 130 #[.slice (some ⟨g,0,none⟩) (r.length+1) cap,.int .i64 line] w fun e w'=>Below w.heap.size w w'∧(za1 sh r=true∧e=.returned ((opK sh r r.length).stm line x)∨za1 sh r=false∧e=zak 1 line):=by
 have J:=hl 0 (by simp);simp only [List.getElem_cons_zero] at J;have P:g<w.heap.size:=by
  have:=World.block_lt_of_cell? w _ J;simpa using this
 have hne:((r.length:Int) != (sh.length:Int))=false:=by simp;omega
 go_enter Tryz.func130,Tryz.ntmps130;go_wp2_with(first
  | (go_at_call 149;refine(zph x _ sh HS h1 h2).mono ?_;rintro e B ⟨rfl,a⟩;subst a))
 go_loopw [36] (fun ti wr=>∃(k:Nat) (z:ByteArray) (o q s n:Int),k≤sh.length∧ti=.int .i64 (k:Int)∧(insW w sh line x).grownBy wr (some (w.heap.size+1+1))∧StmAt wr (w.heap.size+1+1) line x z o q s n∧(⟨z,o,q,s,n⟩:Opd)=opK sh r k∧za1 sh r=za1 (sh.drop k) (r.drop k)) (fun ti _=>sh.length-(intOf ti).toNat)
 case atStart=>exact⟨0,⟨#[]⟩,0,0,0,0,by omega,rfl,⟨rfl,rfl,rfl,Nat.le_refl _,fun _ _ _=>rfl⟩,zvP w sh line x,rfl,rfl⟩
 case round =>
  obtain⟨k,z,o,q,s,n,hk,rfl,i,u,R,S⟩:=hrel;have T:Hid ((⟨z,o,q,s,n⟩:Opd)=opK sh r k):=R;clear R;have HR:Hid (za1 sh r=za1 (sh.drop k) (r.drop k)):=S;clear S;have d:∀{wz:World},(insW w sh line x).grownBy wz (some (w.heap.size+1+1))→Below w.heap.size w wz:=fun h=>zjI h;have G:=zjI i;have K:=hw.below G;have hqz:=u.lt;by_cases A:k<sh.length
  ·have I:k<r.length:=by omega
   have H:wr.cell? ⟨w.heap.size+1,k,none⟩=some (.int .i64 (zbf sh[k])):=i.cell (zys w sh line x k A) (by simp);have hwk:wr.cell? ⟨g,k+1,none⟩=some (.string r[k]):=(G.cell (p:=⟨g,k+1,none⟩) P).trans (by have:=hl (k+1) (by simp;omega);simpa using this);have c:=hsz k I;have Q:Hid (za1 sh r=(opOk sh[k] r[k]&&za1 (sh.drop (k+1)) (r.drop (k+1)))):=by unfold Hid;rw [HR.out,zqf sh r k A I]
   have E:Hid (opK sh r (k+1)=(⟨z,o,q,s,n⟩:Opd).take k (zbf sh[k]) r[k]):=by unfold Hid;rw [T.out];exact zvM sh r k A I
   have m:zbf sh[k]=0∨zbf sh[k]=1∨zbf sh[k]=2:=by
    unfold zbf;split
    ·simp
    ·split <;> simp
   rcases m with m|m|m
   ·have l:Hid (opOk sh[k] r[k]=zeU r[k]):=zzT _ _ m;rw [m] at H;have F:Hid (opK sh r (k+1)=(⟨z,o,q,s,n⟩:Opd).take k 0 r[k]):=by unfold Hid;rw [E.out,m]
    clear m E;have O:k=0∨k=1∨k=2:=by omega
    rcases O with rfl|rfl|rfl
    ·cases hq:zeU r[0] with
     | true =>
      have t:Hid (opOk sh[0] r[0]=true):=l.out.trans hq;go_wp2_with(first|(go_at_call 150;refine(zlx _ _ line x _ r[0] o q s n u c).mono ?_;rintro e D ⟨rfl,b,f⟩)|(go_at_call 79;refine(zay _ _ _).mono ?_;rintro e B ⟨rfl,a⟩;have h2:=a.symm;subst h2))
      go_roundw
      case rel=>exact⟨0+1,z,zap r[0],q,s,n,by omega,by go_num,zae i b,f,F.out.symm,by rw [Q.out,t.out];simp⟩
      case measure=>simp [intOf];omega
     | false =>
      have t:Hid (opOk sh[0] r[0]=false):=l.out.trans hq;go_wp2_with(first|(go_at_call 150;refine(zlx _ _ line x _ r[0] o q s n u c).mono ?_;rintro e D ⟨rfl,b,f⟩)|(go_at_call 79;refine(zay _ _ _).mono ?_;rintro e B ⟨rfl,a⟩;have h2:=a.symm;subst h2))
      exact⟨rfl,d (zae i b),.inr ⟨by rw [Q.out,t.out];simp,rfl⟩⟩
    ·cases hq:zeU r[1] with
     | true =>
      have t:Hid (opOk sh[1] r[1]=true):=l.out.trans hq;go_wp2_with(first|(go_at_call 150;refine(zly _ _ line x _ r[1] o q s n u c).mono ?_;rintro e D ⟨rfl,b,f⟩)|(go_at_call 79;refine(zay _ _ _).mono ?_;rintro e B ⟨rfl,a⟩;have h2:=a.symm;subst h2))
      go_roundw
      case rel=>exact⟨1+1,z,o,zap r[1],s,n,by omega,by go_num,zae i b,f,F.out.symm,by rw [Q.out,t.out];simp⟩
      case measure=>simp [intOf];omega
     | false =>
      have t:Hid (opOk sh[1] r[1]=false):=l.out.trans hq;go_wp2_with(first|(go_at_call 150;refine(zly _ _ line x _ r[1] o q s n u c).mono ?_;rintro e D ⟨rfl,b,f⟩)|(go_at_call 79;refine(zay _ _ _).mono ?_;rintro e B ⟨rfl,a⟩;have h2:=a.symm;subst h2))
      exact⟨rfl,d (zae i b),.inr ⟨by rw [Q.out,t.out];simp,rfl⟩⟩
    ·cases hq:zeU r[2] with
     | true =>
      have t:Hid (opOk sh[2] r[2]=true):=l.out.trans hq;go_wp2_with(first|(go_at_call 150;refine(zlz _ _ line x _ r[2] o q s n u c).mono ?_;rintro e D ⟨rfl,b,f⟩)|(go_at_call 79;refine(zay _ _ _).mono ?_;rintro e B ⟨rfl,a⟩;have h2:=a.symm;subst h2))
      go_roundw
      case rel=>exact⟨2+1,z,o,q,zap r[2],n,by omega,by go_num,zae i b,f,F.out.symm,by rw [Q.out,t.out];simp⟩
      case measure=>simp [intOf];omega
     | false =>
      have t:Hid (opOk sh[2] r[2]=false):=l.out.trans hq;go_wp2_with(first|(go_at_call 150;refine(zlz _ _ line x _ r[2] o q s n u c).mono ?_;rintro e D ⟨rfl,b,f⟩)|(go_at_call 79;refine(zay _ _ _).mono ?_;rintro e B ⟨rfl,a⟩;have h2:=a.symm;subst h2))
      exact⟨rfl,d (zae i b),.inr ⟨by rw [Q.out,t.out];simp,rfl⟩⟩
   ·have l:Hid (opOk sh[k] r[k]=(zb3 r[k]).2):=zzU _ _ m;rw [m] at H;have F:Hid (opK sh r (k+1)=⟨z,o,q,s,zcc r[k]⟩):=by unfold Hid;rw [E.out,m];rfl
    clear m E;cases hq:(zb3 r[k]).2 with
    | true =>
     have t:Hid (opOk sh[k] r[k]=true):=l.out.trans hq;go_wp2_with(first|(go_at_call 150;refine(zpe _ K _ _ line x _ r[k] o q s n u c).mono ?_;rintro e D ⟨rfl,b,f⟩)|(go_at_call 79;refine(zay _ _ _).mono ?_;rintro e B ⟨rfl,a⟩;have h2:=a.symm;subst h2))
     go_roundw
     case rel=>exact⟨k+1,z,o,q,s,zcc r[k],by omega,by go_num,zae i b,f,F.out.symm,by rw [Q.out,t.out];simp⟩
     case measure=>simp [intOf];omega
    | false =>
     have t:Hid (opOk sh[k] r[k]=false):=l.out.trans hq;go_wp2_with(first|(go_at_call 150;refine(zpe _ K _ _ line x _ r[k] o q s n u c).mono ?_;rintro e D ⟨rfl,b,f⟩)|(go_at_call 79;refine(zay _ _ _).mono ?_;rintro e B ⟨rfl,a⟩;have h2:=a.symm;subst h2))
     exact⟨rfl,d (zae i b),.inr ⟨by rw [Q.out,t.out];simp,rfl⟩⟩
   ·have l:Hid (opOk sh[k] r[k]=za6 r[k]):=zzV _ _ m;rw [m] at H;have F:Hid (opK sh r (k+1)=⟨r[k],o,q,s,n⟩):=by unfold Hid;rw [E.out,m];rfl
    clear m E;cases hq:za6 r[k] with
    | true =>
     have t:Hid (opOk sh[k] r[k]=true):=l.out.trans hq;go_wp2_with(first|(go_at_call 150;refine(zlw _ _ _ line x _ r[k] o q s n u c).mono ?_;rintro e D ⟨rfl,b,f⟩)|(go_at_call 79;refine(zay _ _ _).mono ?_;rintro e B ⟨rfl,a⟩;have h2:=a.symm;subst h2))
     go_roundw
     case rel=>exact⟨k+1,r[k],o,q,s,n,by omega,by go_num,zae i b,f,F.out.symm,by rw [Q.out,t.out];simp⟩
     case measure=>simp [intOf];omega
    | false =>
     have t:Hid (opOk sh[k] r[k]=false):=l.out.trans hq;go_wp2_with(first|(go_at_call 150;refine(zlw _ _ _ line x _ r[k] o q s n u c).mono ?_;rintro e D ⟨rfl,b,f⟩)|(go_at_call 79;refine(zay _ _ _).mono ?_;rintro e B ⟨rfl,a⟩;have h2:=a.symm;subst h2))
     exact⟨rfl,d (zae i b),.inr ⟨by rw [Q.out,t.out];simp,rfl⟩⟩
  ·have Q:Hid (za1 sh r=true):=by unfold Hid;rw [HR.out,List.drop_of_length_le (by omega)];rfl
   have N:Hid (k=r.length):=by unfold Hid;omega
   obtain⟨c0,c1,c2,c3,c4,c5,c6,c7,fz⟩:=u;have C:∀ j,j<8→∃ y,wr.cell? ⟨w.heap.size,j,none⟩=some y:=fun j hj=>by
    obtain⟨y,hy⟩:=zvQ w sh line x j hj;exact⟨y,i.cell hy (by simp;omega)⟩
   have hfz:∀ j,wr.frozen? ⟨w.heap.size,j,none⟩=false:=fun j=>by
    rw [World.frozen?_of_block (i.block w.heap.size (by simp [insW];omega) (by simp;omega))];exact zyt w sh line x j
   obtain⟨y0,z0⟩:=C 0 (by omega);obtain⟨y1,z1⟩:=C 1 (by omega);obtain⟨y2,z2⟩:=C 2 (by omega);obtain⟨y3,z3⟩:=C 3 (by omega);obtain⟨y4,z4⟩:=C 4 (by omega);obtain⟨y5,z5⟩:=C 5 (by omega);obtain⟨y6,z6⟩:=C 6 (by omega);obtain⟨y7,z7⟩:=C 7 (by omega);go_wp2;obtain⟨U,V,W,X,Y,Z,f6,f7⟩:=zqi C;refine bodyPost_ret (v:=stm 2 line x o q s n z) (by simp [results,Tryz.results130,go_sem,U,V,W,X,Y,Z,f6,f7]) rfl ⟨zjG G (Nat.le_refl _) _ _ _ _ _ _ _ _,.inl ⟨Q.out,?_⟩⟩;rw [←N.out,←T.out]
end Go.Proofs.YtfpgjkbjbbgciaaGreatDoor
