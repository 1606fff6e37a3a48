import Derived.Test.YtfpgjkbjbbgciaaGreatDoorMj04
import Derived.Test.YtfpgjkbjbbgciaaGreatDoorMj05
set_option maxRecDepth 100000
set_option maxHeartbeats 8000000
namespace Go.Proofs.YtfpgjkbjbbgciaaGreatDoor
open Go.RowKit Sp
theorem zsk(l:List UInt8):Lib.trimPrefix l [45]=bare l:=by
 unfold Lib.trimPrefix Lib.hasPrefix bare
 match l with
 | []=>rfl
 | c :: r =>
  by_cases h:c=45
  ·subst h;simp [List.isPrefixOf]
  ·have:(45 == c)=false:=by simpa using fun e=>h e.symm
   simp [List.isPrefixOf,this];split
   ·rename_i heq;simp at heq;exact absurd heq.1 h
   ·rfl
theorem zvs(l:List UInt8):(bare l).length≤l.length:=by
 unfold bare;split <;> simp
theorem znf(s:ByteArray)(i:Nat)(h:bt s i<128):chr s i=(1,bt s i):=by unfold chr;rw [if_pos h]
theorem zvt(s:ByteArray)(i:Nat)(h:¬bt s i<128)(h0:¬(chr s i).1=0):128≤(chr s i).2:=by
 unfold chr at h0 ⊢;rw [if_neg h] at h0 ⊢;split at h0
 ·rename_i hc;rw [if_pos hc];rcases zbX 2 128 (zbW s (i+1) 1 (bt s i-192)) with h|⟨v,_,b,a,_⟩
  ·rw [h] at h0;exact absurd rfl h0
  ·rw [b];exact a
 ·rename_i hc;rw [if_neg hc];split at h0
  ·rename_i hd;rw [if_pos hd];rcases zbX 3 2048 (zbW s (i+1) 2 (bt s i-224)) with h|⟨v,_,b,a,_⟩
   ·rw [h] at h0;exact absurd rfl h0
   ·rw [b];show 128≤v;omega
  ·rename_i hd;rw [if_neg hd];split at h0
   ·rename_i he;rw [if_pos he];rcases zbX 4 65536 (zbW s (i+1) 3 (bt s i-240)) with h|⟨v,_,b,a,_⟩
    ·rw [h] at h0;exact absurd rfl h0
    ·rw [b];show 128≤v;omega
   ·exact absurd rfl h0
theorem zsl(t:ByteArray)(i:Nat)(h:i<t.size):zbh (t.data.toList.drop i)=(zbf (bt t i)&&zbh (t.data.toList.drop (i+1))):=by
 obtain⟨c,r,h1,b,a⟩:=zkr t i h;rw [h1,←a,←b];simp only [zbh,zbf];congr 1;by_cases hc:48≤c.toNat∧c.toNat≤57
 ·have:(48:Int)≤c.toNat∧(c.toNat:Int)≤57:=by omega
  simp [hc,this]
 ·have:¬((48:Int)≤c.toNat∧(c.toNat:Int)≤57):=by omega
  simp only [hc,this]
def zcZ(s:ByteArray):Int:=if(zaI s).2=true then(zaI s).1 else 0
theorem zvu(s:ByteArray)(w:World)(hw:LibW w)(hs:s.size≤1048576):
  qC 166 #[.string s] w (qR w (.tuple #[.int .i64 (zcZ s),.bool (zaI s).2])):=by
 have h:=Tryz.strings_TrimPrefix s ⟨#[45]⟩ w;rw [show(⟨#[45]⟩:ByteArray).data.toList=[45] from rfl,zsk] at h;have E:Hid (zbh (bare s.data.toList)=false→(zaI s).2=false):=zvq s;have G:Hid (zbh (bare s.data.toList)=true→(∀ v,Lib.parseIntB 64 s.data.toList=.ok v→zaI s=(v,true))∧(Lib.parseIntB 64 s.data.toList=.«syntax»→(zaI s).2=false)∧(Lib.parseIntB 64 s.data.toList=.range→(zaI s).2=false)):=zvr s;have S:(bare s.data.toList).length≤s.size:=by have:=zvs s.data.toList;simpa using this
 obtain⟨t,ht⟩:∃ t:ByteArray,t=⟨(bare s.data.toList).toArray⟩:=⟨_,rfl⟩
 have o:t.data.toList=bare s.data.toList:=by rw [ht]
 have hts:t.size≤1048576:=by
  have:t.size=(bare s.data.toList).length:=by rw [←o];simp
  omega
 rw [←ht] at h;rw [←o] at E G;clear ht o S;obtain⟨Q,p1,m⟩:=hw.syn;obtain⟨P,p2,l⟩:=hw.rng;have hlow:=hw.low;have K:(w.iter t 0).heap[w.heap.size]?=some (.stringIter t 0):=World.iter_heap w t 0;have H:qB w (w.iter t 0):=(Below.refl _ w).alloc (Nat.le_refl _) _;go_enter Tryz.func166,Tryz.ntmps166;go_wp2_with(go_at_call 174;refine h.mono ?_;rintro e B ⟨rfl,g⟩;have q:=g.symm;subst q)
 clear h
 go_loopw [5] (fun _ wr=>∃ a:Nat,a≤t.size∧wr.heap[w.heap.size]?=some (.stringIter t a)∧qB w wr∧zbh t.data.toList=zbh (t.data.toList.drop a)) (fun _ wr=>t.size-wr.iterPos w.heap.size)
 case atStart=>exact⟨0,by omega,K,H,rfl⟩
 case round =>
  obtain⟨a,hp,A,d,hR⟩:=hrel;have HR:Hid (zbh t.data.toList=zbh (t.data.toList.drop a)):=hR;clear hR K H;have HMU:Hid (wr.iterPos w.heap.size=a):=by unfold Hid;simp [World.iterPos,A]
  by_cases k:a<t.size
  ·have Z:Hid (zbh (t.data.toList.drop a)=(zbf (bt t a)&&zbh (t.data.toList.drop (a+1)))):=zsl t a k;cases hd:zbf (bt t a) with
   | true =>
    have u:bt t a<128:=by simp [zbf] at hd;omega
    have X:=znf t a u;have b:=zfT wr w.heap.size t a A k (by rw [X];simp);have R:chrN t a=1:=by unfold chrN;rw [X];rfl
    rw [R,X] at b;simp only at b;have j:=Lib.below_iterAt d (Nat.le_refl _) t (a+1);have r:=Lib.iterAt_heap wr w.heap.size t a (a+1) A;generalize wr.iterAt w.heap.size t (a+1)=W1 at b j r;have F:Hid (W1.iterPos w.heap.size=a+1):=by unfold Hid;simp [World.iterPos,r]
    have HQ:Hid (zbh t.data.toList=zbh (t.data.toList.drop (a+1))):=by unfold Hid;rw [HR.out,Z.out,hd];rfl
    have hbl:=zyW t a;clear X R;go_wp2_with(go_at_call 163;refine(zbC _ _).mono ?_;rintro e B ⟨rfl,g⟩;have q:=g.symm;subst q)
    go_roundw
    case rel=>exact⟨a+1,by omega,r,j,HQ.out⟩
    case measure=>rw [HMU.out,F.out];omega
   | false =>
    have U:Hid (zbh t.data.toList=false):=by unfold Hid;rw [HR.out,Z.out,hd];rfl
    have n:Hid ((0:Int)=zcZ s∧false=(zaI s).2):=by
     have:=E.out U.out;unfold Hid zcZ;rw [this];simp
    by_cases L:(chr t a).1=0
    ·have b:=zkq wr w.heap.size t a A k L;have j:=Lib.below_iterAt d (Nat.le_refl _) t (a+1);have W:zbf 65533=false:=by decide
     generalize wr.iterAt w.heap.size t (a+1)=W1 at b j;go_wp2_with(go_at_call 163;refine(zbC _ _).mono ?_;rintro e B ⟨rfl,g⟩;have q:=g.symm;subst q)
     go_ret2;exact⟨zeB n.out.1 n.out.2,j⟩
    ·have W:zbf (chr t a).2=false:=by
      by_cases Y:bt t a<128
      ·rw [znf t a Y];exact hd
      ·have:=zvt t a Y L;simp [zbf];omega
     have b:=zfT wr w.heap.size t a A k L;have j:=Lib.below_iterAt d (Nat.le_refl _) t (a+chrN t a);have T:=zcN t a k L;obtain⟨_,_,_,_,hp5,hp6⟩:=T;generalize wr.iterAt w.heap.size t (a+chrN t a)=W1 at b j;go_wp2_with(go_at_call 163;refine(zbC _ _).mono ?_;rintro e B ⟨rfl,g⟩;have q:=g.symm;subst q)
     go_ret2;exact⟨zeB n.out.1 n.out.2,j⟩
  ·have b:∀ ty,(Instr.next (.pointer (some ⟨w.heap.size,0,none⟩)) true ty).run Tryz.prog wr=.ok (.tuple #[.bool false]) wr:=fun ty=>Lib.run_next_end_at wr w.heap.size t a ty A k;have U:Hid (zbh t.data.toList=true):=by unfold Hid;rw [HR.out,List.drop_of_length_le (by simpa using k)];rfl
   obtain⟨J,M,O⟩:=G.out U.out;have y:=Hid.out (p:=∀ v,Lib.parseIntB 64 s.data.toList=.ok v→zaI s=(v,true)) J;have I:Tryz.prog.globalNamed "strconv.ErrSyntax" = some 3:=by kernel_rfl
   have D:Tryz.prog.globalNamed "strconv.ErrRange" = some 4:=by kernel_rfl
   have f:=var?_below d I (by omega) m;have i:=var?_below d D (by omega) l;clear I D;cases hpi:Lib.parseIntB 64 s.data.toList with
   | ok v =>
    have C:=J v hpi;have n:Hid (v=zcZ s∧true=(zaI s).2):=by unfold Hid zcZ;rw [C];simp
    have c:=Tryz.strconv_ParseInt_10_at64_ok s (by omega) v hpi wr;clear C J M O y E G hpi m l f i;go_wp2_with(go_at_call 175;refine c.mono ?_;rintro e B ⟨rfl,g⟩)
    go_ret2;refine⟨zeB n.out.1 n.out.2,?_⟩;rcases g with rfl|⟨x,rfl⟩
    ·exact d
    ·exact d.trans ((Lib.bytesWorld_below wr 5 x).mono d.size)
   | «syntax» =>
    have C:=M hpi;have n:Hid ((0:Int)=zcZ s∧false=(zaI s).2):=by unfold Hid zcZ;rw [C];simp
    have c:=Tryz.strconv_ParseInt_10_at64_syntax_var s (by omega) hpi Q p1 wr f;clear C J M O y E G hpi m l f i;go_wp2_with(go_at_call 175;refine c.mono ?_;rintro e B ⟨N,rfl,R,V,z⟩)
    go_ret2;exact⟨zeB n.out.1 n.out.2,d.trans (z.mono d.size)⟩
   | range =>
    have C:=O hpi;have n:Hid ((0:Int)=zcZ s∧false=(zaI s).2):=by unfold Hid zcZ;rw [C];simp
    have c:=Tryz.strconv_ParseInt_10_at64_range_var s (by omega) hpi P p2 wr i;generalize Lib.intSat 64 s.data.toList=sat at c;clear C J M O y E G hpi m l f i;go_wp2_with(go_at_call 175;refine c.mono ?_;rintro e B ⟨N,rfl,R,V,z⟩)
    go_ret2;exact⟨zeB n.out.1 n.out.2,d.trans (z.mono d.size)⟩
def zbv(k:UInt8):Int:=if k=82 then 0 else if k=75 then 1 else 2
def zbR(w:World)(sh:List UInt8):Ending→World→Prop:=fun e w' =>
 (sh=[63]∧e=.returned (.tuple #[.slice none 0 0,.bool false])∧w=w')∨(sh=[]∧e=.returned (.tuple #[.slice none 0 0,.bool true])∧w=w') ∨
 (¬sh=[63]∧¬sh=[]∧e=.returned (.tuple #[.slice (some ⟨w.heap.size,0,none⟩) sh.length sh.length,.bool true])∧w'=w.alloc (.cells (sh.map (fun k=>Value.int .i64 (zbv k))).toArray 225))
theorem zvv(w:World):qC 149 #[.string ⟨#[115,101,116]⟩] w (zbR w [82,75]):=by
 go_enter Tryz.func149,Tryz.ntmps149;go_wp2;go_ret2;exact .inr (.inr ⟨by decide,by decide,rfl,rfl⟩)
theorem zvw(w:World):qC 149 #[.string ⟨#[105,110,99]⟩] w (zbR w [82,75]):=by
 go_enter Tryz.func149,Tryz.ntmps149;go_wp2;go_ret2;exact .inr (.inr ⟨by decide,by decide,rfl,rfl⟩)
theorem zvx(w:World):qC 149 #[.string ⟨#[109,111,118]⟩] w (zbR w [82,82]):=by
 go_enter Tryz.func149,Tryz.ntmps149;go_wp2;go_ret2;exact .inr (.inr ⟨by decide,by decide,rfl,rfl⟩)
theorem zst(w:World):qC 149 #[.string ⟨#[108,111,97,100]⟩] w (zbR w [82,82]):=by
 go_enter Tryz.func149,Tryz.ntmps149;go_wp2;go_ret2;exact .inr (.inr ⟨by decide,by decide,rfl,rfl⟩)
theorem zpX(w:World):qC 149 #[.string ⟨#[115,116,111,114,101]⟩] w (zbR w [82,82]):=by
 go_enter Tryz.func149,Tryz.ntmps149;go_wp2;go_ret2;exact .inr (.inr ⟨by decide,by decide,rfl,rfl⟩)
theorem zvy(w:World):qC 149 #[.string ⟨#[97,100,100]⟩] w (zbR w [82,82,82]):=by
 go_enter Tryz.func149,Tryz.ntmps149;go_wp2;go_ret2;exact .inr (.inr ⟨by decide,by decide,rfl,rfl⟩)
theorem zvz(w:World):qC 149 #[.string ⟨#[115,117,98]⟩] w (zbR w [82,82,82]):=by
 go_enter Tryz.func149,Tryz.ntmps149;go_wp2;go_ret2;exact .inr (.inr ⟨by decide,by decide,rfl,rfl⟩)
theorem zv0(w:World):qC 149 #[.string ⟨#[109,117,108]⟩] w (zbR w [82,82,82]):=by
 go_enter Tryz.func149,Tryz.ntmps149;go_wp2;go_ret2;exact .inr (.inr ⟨by decide,by decide,rfl,rfl⟩)
theorem zsu(w:World):qC 149 #[.string ⟨#[114,101,97,100]⟩] w (zbR w [82]):=by
 go_enter Tryz.func149,Tryz.ntmps149;go_wp2;go_ret2;exact .inr (.inr ⟨by decide,by decide,rfl,rfl⟩)
theorem zpY(w:World):qC 149 #[.string ⟨#[119,114,105,116,101]⟩] w (zbR w [82]):=by
 go_enter Tryz.func149,Tryz.ntmps149;go_wp2;go_ret2;exact .inr (.inr ⟨by decide,by decide,rfl,rfl⟩)
theorem zsv(w:World):qC 149 #[.string ⟨#[106,117,109,112]⟩] w (zbR w [78]):=by
 go_enter Tryz.func149,Tryz.ntmps149;go_wp2;go_ret2;exact .inr (.inr ⟨by decide,by decide,rfl,rfl⟩)
theorem zsw(w:World):qC 149 #[.string ⟨#[99,97,108,108]⟩] w (zbR w [78]):=by
 go_enter Tryz.func149,Tryz.ntmps149;go_wp2;go_ret2;exact .inr (.inr ⟨by decide,by decide,rfl,rfl⟩)
theorem zsx(w:World):qC 149 #[.string ⟨#[108,101,115,115]⟩] w (zbR w [82,82,78]):=by
 go_enter Tryz.func149,Tryz.ntmps149;go_wp2;go_ret2;exact .inr (.inr ⟨by decide,by decide,rfl,rfl⟩)
theorem zsy(w:World):qC 149 #[.string ⟨#[115,97,109,101]⟩] w (zbR w [82,82,78]):=by
 go_enter Tryz.func149,Tryz.ntmps149;go_wp2;go_ret2;exact .inr (.inr ⟨by decide,by decide,rfl,rfl⟩)
theorem zsz(w:World):qC 149 #[.string ⟨#[98,97,99,107]⟩] w (zbR w []):=by
 go_enter Tryz.func149,Tryz.ntmps149;go_wp2;go_ret2;exact .inr (.inl ⟨rfl,rfl,rfl⟩)
theorem zs0(w:World):qC 149 #[.string ⟨#[115,116,111,112]⟩] w (zbR w []):=by
 go_enter Tryz.func149,Tryz.ntmps149;go_wp2;go_ret2;exact .inr (.inl ⟨rfl,rfl,rfl⟩)
theorem zs1(s:ByteArray)(w:World)(h0:(s.toList == [115,101,116])=false)(h1:(s.toList == [105,110,99])=false)(h2:(s.toList == [109,111,118])=false)(h3:(s.toList == [108,111,97,100])=false)(h4:(s.toList == [115,116,111,114,101])=false)(h5:(s.toList == [97,100,100])=false)(h6:(s.toList == [115,117,98])=false)(h7:(s.toList == [109,117,108])=false)(h8:(s.toList == [114,101,97,100])=false)(h9:(s.toList == [119,114,105,116,101])=false)(h10:(s.toList == [106,117,109,112])=false)(h11:(s.toList == [99,97,108,108])=false)(h12:(s.toList == [108,101,115,115])=false)(h13:(s.toList == [115,97,109,101])=false)(h14:(s.toList == [98,97,99,107])=false)(h15:(s.toList == [115,116,111,112])=false):
  qC 149 #[.string s] w (zbR w [63]):=by
 go_enter Tryz.func149,Tryz.ntmps149;go_wp2;go_ret2;exact .inl ⟨rfl,rfl,rfl⟩
theorem zo7(s:ByteArray)(h0:(s.toList == [115,101,116])=false)(h1:(s.toList == [105,110,99])=false)(h2:(s.toList == [109,111,118])=false)(h3:(s.toList == [108,111,97,100])=false)(h4:(s.toList == [115,116,111,114,101])=false)(h5:(s.toList == [97,100,100])=false)(h6:(s.toList == [115,117,98])=false)(h7:(s.toList == [109,117,108])=false)(h8:(s.toList == [114,101,97,100])=false)(h9:(s.toList == [119,114,105,116,101])=false)(h10:(s.toList == [106,117,109,112])=false)(h11:(s.toList == [99,97,108,108])=false)(h12:(s.toList == [108,101,115,115])=false)(h13:(s.toList == [115,97,109,101])=false)(h14:(s.toList == [98,97,99,107])=false)(h15:(s.toList == [115,116,111,112])=false):zaa s=[63]:=by
 simp only [zaa,isW,h0,h1,h2,h3,h4,h5,h6,h7,h8,h9,h10,h11,h12,h13,h14,h15];simp
theorem zhP:zaa ⟨#[115,101,116]⟩=[82,75]:=by kernel_rfl
theorem zhQ:zaa ⟨#[105,110,99]⟩=[82,75]:=by kernel_rfl
theorem zhR:zaa ⟨#[109,111,118]⟩=[82,82]:=by kernel_rfl
theorem zhc:zaa ⟨#[108,111,97,100]⟩=[82,82]:=by kernel_rfl
theorem zfU:zaa ⟨#[115,116,111,114,101]⟩=[82,82]:=by kernel_rfl
theorem zhS:zaa ⟨#[97,100,100]⟩=[82,82,82]:=by kernel_rfl
theorem zhT:zaa ⟨#[115,117,98]⟩=[82,82,82]:=by kernel_rfl
theorem zhU:zaa ⟨#[109,117,108]⟩=[82,82,82]:=by kernel_rfl
theorem zhd:zaa ⟨#[114,101,97,100]⟩=[82]:=by kernel_rfl
theorem zfV:zaa ⟨#[119,114,105,116,101]⟩=[82]:=by kernel_rfl
theorem zhe:zaa ⟨#[106,117,109,112]⟩=[78]:=by kernel_rfl
theorem zhf:zaa ⟨#[99,97,108,108]⟩=[78]:=by kernel_rfl
theorem zhg:zaa ⟨#[108,101,115,115]⟩=[82,82,78]:=by kernel_rfl
theorem zhh:zaa ⟨#[115,97,109,101]⟩=[82,82,78]:=by kernel_rfl
theorem zhi:zaa ⟨#[98,97,99,107]⟩=[]:=by kernel_rfl
theorem zhj:zaa ⟨#[115,116,111,112]⟩=[]:=by kernel_rfl
theorem zv1(s:ByteArray)(w:World):qC 149 #[.string s] w (zbR w (zaa s)):=by
 cases h0:(s.toList == [115,101,116]) with
 | true=>rw [za0 s _ h0,zhP];exact zvv w
 | false =>
 cases h1:(s.toList == [105,110,99]) with
 | true=>rw [za0 s _ h1,zhQ];exact zvw w
 | false =>
 cases h2:(s.toList == [109,111,118]) with
 | true=>rw [za0 s _ h2,zhR];exact zvx w
 | false =>
 cases h3:(s.toList == [108,111,97,100]) with
 | true=>rw [za0 s _ h3,zhc];exact zst w
 | false =>
 cases h4:(s.toList == [115,116,111,114,101]) with
 | true=>rw [za0 s _ h4,zfU];exact zpX w
 | false =>
 cases h5:(s.toList == [97,100,100]) with
 | true=>rw [za0 s _ h5,zhS];exact zvy w
 | false =>
 cases h6:(s.toList == [115,117,98]) with
 | true=>rw [za0 s _ h6,zhT];exact zvz w
 | false =>
 cases h7:(s.toList == [109,117,108]) with
 | true=>rw [za0 s _ h7,zhU];exact zv0 w
 | false =>
 cases h8:(s.toList == [114,101,97,100]) with
 | true=>rw [za0 s _ h8,zhd];exact zsu w
 | false =>
 cases h9:(s.toList == [119,114,105,116,101]) with
 | true=>rw [za0 s _ h9,zfV];exact zpY w
 | false =>
 cases h10:(s.toList == [106,117,109,112]) with
 | true=>rw [za0 s _ h10,zhe];exact zsv w
 | false =>
 cases h11:(s.toList == [99,97,108,108]) with
 | true=>rw [za0 s _ h11,zhf];exact zsw w
 | false =>
 cases h12:(s.toList == [108,101,115,115]) with
 | true=>rw [za0 s _ h12,zhg];exact zsx w
 | false =>
 cases h13:(s.toList == [115,97,109,101]) with
 | true=>rw [za0 s _ h13,zhh];exact zsy w
 | false =>
 cases h14:(s.toList == [98,97,99,107]) with
 | true=>rw [za0 s _ h14,zhi];exact zsz w
 | false =>
 cases h15:(s.toList == [115,116,111,112]) with
 | true=>rw [za0 s _ h15,zhj];exact zs0 w
 | false =>
 rw [zo7 s h0 h1 h2 h3 h4 h5 h6 h7 h8 h9 h10 h11 h12 h13 h14 h15];exact zs1 s w h0 h1 h2 h3 h4 h5 h6 h7 h8 h9 h10 h11 h12 h13 h14 h15
structure Back8(W:World)(b:Nat):Prop where
 f0:∀ x0,(W.setCell ⟨b,0,none⟩ x0).cell? ⟨b,0,none⟩=some x0
 f1:∀ x0 x1,((W.setCell ⟨b,0,none⟩ x0).setCell ⟨b,1,none⟩ x1).cell? ⟨b,1,none⟩=some x1
 f2:∀ x0 x1 x2,(((W.setCell ⟨b,0,none⟩ x0).setCell ⟨b,1,none⟩ x1).setCell ⟨b,2,none⟩ x2).cell? ⟨b,2,none⟩=some x2
 f3:∀ x0 x1 x2 x3,((((W.setCell ⟨b,0,none⟩ x0).setCell ⟨b,1,none⟩ x1).setCell ⟨b,2,none⟩ x2).setCell ⟨b,3,none⟩ x3).cell? ⟨b,3,none⟩=some x3
 f4:∀ x0 x1 x2 x3 x4,(((((W.setCell ⟨b,0,none⟩ x0).setCell ⟨b,1,none⟩ x1).setCell ⟨b,2,none⟩ x2).setCell ⟨b,3,none⟩ x3).setCell ⟨b,4,none⟩ x4).cell? ⟨b,4,none⟩=some x4
 f5:∀ x0 x1 x2 x3 x4 x5,((((((W.setCell ⟨b,0,none⟩ x0).setCell ⟨b,1,none⟩ x1).setCell ⟨b,2,none⟩ x2).setCell ⟨b,3,none⟩ x3).setCell ⟨b,4,none⟩ x4).setCell ⟨b,5,none⟩ x5).cell? ⟨b,5,none⟩=some x5
 f6:∀ x0 x1 x2 x3 x4 x5 x6,(((((((W.setCell ⟨b,0,none⟩ x0).setCell ⟨b,1,none⟩ x1).setCell ⟨b,2,none⟩ x2).setCell ⟨b,3,none⟩ x3).setCell ⟨b,4,none⟩ x4).setCell ⟨b,5,none⟩ x5).setCell ⟨b,6,none⟩ x6).cell? ⟨b,6,none⟩=some x6
 f7:∀ x0 x1 x2 x3 x4 x5 x6 x7,((((((((W.setCell ⟨b,0,none⟩ x0).setCell ⟨b,1,none⟩ x1).setCell ⟨b,2,none⟩ x2).setCell ⟨b,3,none⟩ x3).setCell ⟨b,4,none⟩ x4).setCell ⟨b,5,none⟩ x5).setCell ⟨b,6,none⟩ x6).setCell ⟨b,7,none⟩ x7).cell? ⟨b,7,none⟩=some x7
theorem zpZ{W:World}{b:Nat}(h:∀ k,k<8→∃ x,W.cell? ⟨b,k,none⟩=some x):Back8 W b:=by
 constructor
 ·intro c;obtain⟨y,a⟩:=h 0 (by omega);refine World.cell?_setCell_same (u:=y) _ _ _ ?_;exact a
 ·intro c d;obtain⟨y,a⟩:=h 1 (by omega);refine World.cell?_setCell_same (u:=y) _ _ _ ?_;rw [World.cell?_setCell_other]
  ·exact a
  all_goals simp
 ·intro c d e;obtain⟨y,a⟩:=h 2 (by omega);refine World.cell?_setCell_same (u:=y) _ _ _ ?_;rw [World.cell?_setCell_other];rw [World.cell?_setCell_other]
  ·exact a
  all_goals simp
 ·intro c d e f;obtain⟨y,a⟩:=h 3 (by omega);refine World.cell?_setCell_same (u:=y) _ _ _ ?_;rw [World.cell?_setCell_other];rw [World.cell?_setCell_other];rw [World.cell?_setCell_other]
  ·exact a
  all_goals simp
 ·intro c d e f g;obtain⟨y,a⟩:=h 4 (by omega);refine World.cell?_setCell_same (u:=y) _ _ _ ?_;rw [World.cell?_setCell_other];rw [World.cell?_setCell_other];rw [World.cell?_setCell_other];rw [World.cell?_setCell_other]
  ·exact a
  all_goals simp
 ·intro c d e f g i;obtain⟨y,a⟩:=h 5 (by omega);refine World.cell?_setCell_same (u:=y) _ _ _ ?_;rw [World.cell?_setCell_other];rw [World.cell?_setCell_other];rw [World.cell?_setCell_other];rw [World.cell?_setCell_other];rw [World.cell?_setCell_other]
  ·exact a
  all_goals simp
 ·intro c d e f g i j;obtain⟨y,a⟩:=h 6 (by omega);refine World.cell?_setCell_same (u:=y) _ _ _ ?_;rw [World.cell?_setCell_other];rw [World.cell?_setCell_other];rw [World.cell?_setCell_other];rw [World.cell?_setCell_other];rw [World.cell?_setCell_other];rw [World.cell?_setCell_other]
  ·exact a
  all_goals simp
 ·intro c d e f g i j x7;obtain⟨y,a⟩:=h 7 (by omega);refine World.cell?_setCell_same (u:=y) _ _ _ ?_;rw [World.cell?_setCell_other];rw [World.cell?_setCell_other];rw [World.cell?_setCell_other];rw [World.cell?_setCell_other];rw [World.cell?_setCell_other];rw [World.cell?_setCell_other];rw [World.cell?_setCell_other]
  ·exact a
  all_goals simp
theorem new8{w w1:World}{c:Array Value}{ty:TypeId}(hc:c.size=8)(hb:Below (w.alloc (.cells c ty)).heap.size (w.alloc (.cells c ty)) w1):∀ k,k<8→∃ x,w1.cell? ⟨w.heap.size,k,none⟩=some x:=by
 intro k hk;rw [hb.cell (p:=⟨w.heap.size,k,none⟩) (by simp)];exact⟨c[k]'(by omega),(World.cell?_alloc_new (w:=w) c ty k).trans (Array.getElem?_eq_getElem (by omega))⟩
theorem zjz{B b:Nat}{a w:World}(h:Below B a w)(hb:B≤b)(x0 x1 x2 x3 x4 x5 x6 x7:Value):Below B a ((((((((w.setCell ⟨b,0,none⟩ x0).setCell ⟨b,1,none⟩ x1).setCell ⟨b,2,none⟩ x2).setCell ⟨b,3,none⟩ x3).setCell ⟨b,4,none⟩ x4).setCell ⟨b,5,none⟩ x5).setCell ⟨b,6,none⟩ x6).setCell ⟨b,7,none⟩ x7) :=
 (((((((h.setCell hb _).setCell hb _).setCell hb _).setCell hb _).setCell hb _).setCell hb _).setCell hb _).setCell hb _
abbrev stm(sort line:Int)(word:ByteArray)(a b c n:Int)(nm:ByteArray):Value:=.agg #[.int .i64 sort,.int .i64 line,.string word,.int .i64 a,.int .i64 b,.int .i64 c,.int .i64 n,.string nm]
def WordsIn(w:World)(g:Nat)(l:List ByteArray):Prop:=∀ j (hj:j<l.length),w.cell? ⟨g,j,none⟩=some (.string l[j])
theorem zqa(w:World)(g cap:Nat)(l:List ByteArray)(line:Int)(hl:WordsIn w g l)(hsz:∀ x∈l,x.size≤1048576)(hn:l.length≤1048577)(h:¬(l.length=2∧za8 (l.getLast?.getD ByteArray.empty)=true)):
  qC 127 #[.slice (some ⟨g,0,none⟩) l.length cap,.int .i64 line] w fun e w'=>e=zak 1 line∧qB w w':=by
 by_cases c:l.length=2
 ·match l,c with
  | [x,y],_ =>
   have d:=hsz y (by simp);have hnm:za8 y=false:=by simpa using h
   have b:=hl 1 (by simp);simp only [List.getElem_cons_succ,List.getElem_cons_zero] at b;have hlt:g<w.heap.size:=by
    have:=World.block_lt_of_cell? w _ b;simpa using this
   go_enter Tryz.func127,Tryz.ntmps127;go_wp2_with(first|(go_at_call 147;refine(zeE y _ d).mono ?_;rintro e w1 ⟨rfl,f⟩)|(go_at_call 79;refine(za1 _ _ _).mono ?_;rintro e i ⟨rfl,a⟩;have c:=a.symm;subst c))
   exact⟨rfl,rfl,((Below.refl _ _).alloc (Nat.le_refl _) _).trans (f.mono (by simp))⟩
 ·have hne:((l.length:Int) != 2)=true:=by simp;omega
  go_enter Tryz.func127,Tryz.ntmps127;go_wp2_with(first|(go_at_call 79;refine(za1 _ _ _).mono ?_;rintro e i ⟨rfl,a⟩;have c:=a.symm;subst c))
  exact⟨rfl,rfl,(Below.refl _ _).alloc (Nat.le_refl _) _⟩
theorem zni(w:World)(g cap:Nat)(x y:ByteArray)(line:Int)(hl:WordsIn w g [x,y])(hy:y.size≤1048576)(hnm:za8 y=true):
  qC 127 #[.slice (some ⟨g,0,none⟩) 2 cap,.int .i64 line] w (qR w (stm 0 line ⟨#[]⟩ 0 0 0 0 y)):=by
 have a:=hl 1 (by simp);simp only [List.getElem_cons_succ,List.getElem_cons_zero] at a;have hlt:g<w.heap.size:=by
  have:=World.block_lt_of_cell? w _ a;simpa using this
 have hne:¬w.heap.size=g:=by omega
 go_enter Tryz.func127,Tryz.ntmps127;go_wp2_with(first|(go_at_call 147;refine(zeE y _ hy).mono ?_;rintro e w1 ⟨rfl,b⟩;obtain⟨hc,hf⟩:=zdH b))
 obtain⟨f,c,i,k,h,d,j,l⟩:=zpZ (new8 rfl b);refine bodyPost_ret (v:=stm 0 line ⟨#[]⟩ 0 0 0 0 y) (by simp [results,Tryz.results127,go_sem,f,c,i,k,h,d,j,l]) rfl ⟨rfl,?_⟩;exact zjz (((Below.refl _ _).alloc (Nat.le_refl _) _).trans (b.mono (by simp))) (Nat.le_refl _) _ _ _ _ _ _ _ _
theorem zqb(w:World)(ao:Option Addr)(n cap:Nat)(x:ByteArray)(line:Int)(hx:x.size≤1048576)(hn:n≤1048577)(h:¬(n=1∧za8 x=true)):
  qC 129 #[.string x,.slice ao n cap,.int .i64 line] w fun e w'=>e=zak 1 line∧qB w w':=by
 by_cases b:n=1
 ·have hnm:za8 x=false:=by simpa [b] using h
  subst b;go_enter Tryz.func129,Tryz.ntmps129;go_wp2_with(first|(go_at_call 147;refine(zeE x _ hx).mono ?_;rintro e w1 ⟨rfl,c⟩)|(go_at_call 79;refine(za1 _ _ _).mono ?_;rintro e d ⟨rfl,a⟩;have b:=a.symm;subst b))
  exact⟨rfl,rfl,((Below.refl _ _).alloc (Nat.le_refl _) _).trans (c.mono (by simp))⟩
 ·have hne:((n:Int) != 1)=true:=by simp;omega
  go_enter Tryz.func129,Tryz.ntmps129;go_wp2_with(first|(go_at_call 79;refine(za1 _ _ _).mono ?_;rintro e d ⟨rfl,a⟩;have b:=a.symm;subst b))
  exact⟨rfl,rfl,(Below.refl _ _).alloc (Nat.le_refl _) _⟩
theorem znj(w:World)(ao:Option Addr)(cap:Nat)(x:ByteArray)(line:Int)(hx:x.size≤1048576)(hnm:za8 x=true):
  qC 129 #[.string x,.slice ao 1 cap,.int .i64 line] w (qR w (stm 1 line ⟨#[]⟩ 0 0 0 0 x)):=by
 go_enter Tryz.func129,Tryz.ntmps129;go_wp2_with(first|(go_at_call 147;refine(zeE x _ hx).mono ?_;rintro e w1 ⟨rfl,a⟩;obtain⟨hc,hf⟩:=zdH a))
 obtain⟨d,b,g,i,f,c,h,j⟩:=zpZ (new8 rfl a);refine bodyPost_ret (v:=stm 1 line ⟨#[]⟩ 0 0 0 0 x) (by simp [results,Tryz.results129,go_sem,d,b,g,i,f,c,h,j]) rfl ⟨rfl,?_⟩;exact zjz (((Below.refl _ _).alloc (Nat.le_refl _) _).trans (a.mono (by simp))) (Nat.le_refl _) _ _ _ _ _ _ _ _
structure StmAt(w:World)(q:Nat)(line:Int)(word nm:ByteArray)(r0 r1 r2 n:Int):Prop where
 c0:w.cell? ⟨q,0,none⟩=some (.int .i64 2)
 c1:w.cell? ⟨q,1,none⟩=some (.int .i64 line)
 c2:w.cell? ⟨q,2,none⟩=some (.string word)
 c3:w.cell? ⟨q,3,none⟩=some (.int .i64 r0)
 c4:w.cell? ⟨q,4,none⟩=some (.int .i64 r1)
 c5:w.cell? ⟨q,5,none⟩=some (.int .i64 r2)
 c6:w.cell? ⟨q,6,none⟩=some (.int .i64 n)
 c7:w.cell? ⟨q,7,none⟩=some (.string nm)
 fz:∀ o,w.frozen? ⟨q,o,none⟩=false
section
section
variable {w w':World} {q B:Nat} {line:Int} {word nm:ByteArray} {r0 r1 r2 n:Int}
theorem StmAt.below(h:StmAt w q line word nm r0 r1 r2 n)(hb:Below B w w')(hq:q<B):StmAt w' q line word nm r0 r1 r2 n:=by
 obtain⟨c,f⟩:=zdH hb;exact⟨(c q 0 hq).trans h.c0,(c q 1 hq).trans h.c1,(c q 2 hq).trans h.c2,(c q 3 hq).trans h.c3,(c q 4 hq).trans h.c4,(c q 5 hq).trans h.c5,(c q 6 hq).trans h.c6,(c q 7 hq).trans h.c7,fun o=>(f q o hq).trans (h.fz o)⟩
theorem StmAt.drew(h:StmAt w q line word nm r0 r1 r2 n):StmAt w.drew q line word nm r0 r1 r2 n:=⟨h.c0,h.c1,h.c2,h.c3,h.c4,h.c5,h.c6,h.c7,h.fz⟩
theorem StmAt.set3(h:StmAt w q line word nm r0 r1 r2 n)(a:Int):StmAt (w.setCell ⟨q,3,none⟩ (.int .i64 a)) q line word nm a r1 r2 n:=by
 refine⟨?_,?_,?_,?_,?_,?_,?_,?_,fun o=>?_⟩
 ·rw [World.cell?_setCell_other];exact h.c0;simp
 ·rw [World.cell?_setCell_other];exact h.c1;simp
 ·rw [World.cell?_setCell_other];exact h.c2;simp
 ·exact World.cell?_setCell_same w _ _ h.c3
 ·rw [World.cell?_setCell_other];exact h.c4;simp
 ·rw [World.cell?_setCell_other];exact h.c5;simp
 ·rw [World.cell?_setCell_other];exact h.c6;simp
 ·rw [World.cell?_setCell_other];exact h.c7;simp
 ·rw [World.frozen?_setCell];exact h.fz o
theorem StmAt.set4(h:StmAt w q line word nm r0 r1 r2 n)(a:Int):StmAt (w.setCell ⟨q,4,none⟩ (.int .i64 a)) q line word nm r0 a r2 n:=by
 refine⟨?_,?_,?_,?_,?_,?_,?_,?_,fun o=>?_⟩
 ·rw [World.cell?_setCell_other];exact h.c0;simp
 ·rw [World.cell?_setCell_other];exact h.c1;simp
 ·rw [World.cell?_setCell_other];exact h.c2;simp
 ·rw [World.cell?_setCell_other];exact h.c3;simp
 ·exact World.cell?_setCell_same w _ _ h.c4
 ·rw [World.cell?_setCell_other];exact h.c5;simp
 ·rw [World.cell?_setCell_other];exact h.c6;simp
 ·rw [World.cell?_setCell_other];exact h.c7;simp
 ·rw [World.frozen?_setCell];exact h.fz o
theorem StmAt.set5(h:StmAt w q line word nm r0 r1 r2 n)(a:Int):StmAt (w.setCell ⟨q,5,none⟩ (.int .i64 a)) q line word nm r0 r1 a n:=by
 refine⟨?_,?_,?_,?_,?_,?_,?_,?_,fun o=>?_⟩
 ·rw [World.cell?_setCell_other];exact h.c0;simp
 ·rw [World.cell?_setCell_other];exact h.c1;simp
 ·rw [World.cell?_setCell_other];exact h.c2;simp
 ·rw [World.cell?_setCell_other];exact h.c3;simp
 ·rw [World.cell?_setCell_other];exact h.c4;simp
 ·exact World.cell?_setCell_same w _ _ h.c5
 ·rw [World.cell?_setCell_other];exact h.c6;simp
 ·rw [World.cell?_setCell_other];exact h.c7;simp
 ·rw [World.frozen?_setCell];exact h.fz o
theorem StmAt.set6(h:StmAt w q line word nm r0 r1 r2 n)(a:Int):StmAt (w.setCell ⟨q,6,none⟩ (.int .i64 a)) q line word nm r0 r1 r2 a:=by
 refine⟨?_,?_,?_,?_,?_,?_,?_,?_,fun o=>?_⟩
 ·rw [World.cell?_setCell_other];exact h.c0;simp
 ·rw [World.cell?_setCell_other];exact h.c1;simp
 ·rw [World.cell?_setCell_other];exact h.c2;simp
 ·rw [World.cell?_setCell_other];exact h.c3;simp
 ·rw [World.cell?_setCell_other];exact h.c4;simp
 ·rw [World.cell?_setCell_other];exact h.c5;simp
 ·exact World.cell?_setCell_same w _ _ h.c6
 ·rw [World.cell?_setCell_other];exact h.c7;simp
 ·rw [World.frozen?_setCell];exact h.fz o
theorem StmAt.set7(h:StmAt w q line word nm r0 r1 r2 n)(y:ByteArray):StmAt (w.setCell ⟨q,7,none⟩ (.string y)) q line word y r0 r1 r2 n:=by
 refine⟨?_,?_,?_,?_,?_,?_,?_,?_,fun o=>?_⟩
 ·rw [World.cell?_setCell_other];exact h.c0;simp
 ·rw [World.cell?_setCell_other];exact h.c1;simp
 ·rw [World.cell?_setCell_other];exact h.c2;simp
 ·rw [World.cell?_setCell_other];exact h.c3;simp
 ·rw [World.cell?_setCell_other];exact h.c4;simp
 ·rw [World.cell?_setCell_other];exact h.c5;simp
 ·rw [World.cell?_setCell_other];exact h.c6;simp
 ·exact World.cell?_setCell_same w _ _ h.c7
 ·rw [World.frozen?_setCell];exact h.fz o
theorem StmAt.lt(h:StmAt w q line word nm r0 r1 r2 n):q<w.heap.size:=by have:=World.block_lt_of_cell? w _ h.c0;simpa using this
end
theorem zac{w w1:World}{q o:Nat}{v:Value}(hb:qB w w1):w.grownBy (w1.setCell ⟨q,o,none⟩ v) (some q) :=
 ⟨hb.os,hb.tape,hb.output,by have:=hb.size;simpa [World.setCell] using this,fun k hk hne=>(Below.heap_setCell w1 _ _ k (fun e=>hne (by rw [e]))).trans (hb.block k hk)⟩
theorem zb6{w w':World}{r:Option Nat}(h:w.grownBy w' r):w.grownBy w'.drew r:=⟨h.os,h.tape,h.output,h.size,h.block⟩
theorem zo8(w:World)(hw:LibW w)(q:Nat)(place line:Int)(word nm x:ByteArray)(r0 r1 r2 n:Int)(hS:StmAt w q line word nm r0 r1 r2 n)(hx:x.size≤1048576):
  qC 150 #[.pointer (some ⟨q,0,none⟩),.int .i64 place,.int .i64 1,.string x] w fun e w'=>e=.returned (.bool (zaI x).2)∧w.grownBy w' (some q)∧StmAt w' q line word nm r0 r1 r2 (zcZ x):=by
 have b:=hS.lt;have hc6:=hS.c6;have hf6:=hS.fz 6;go_enter Tryz.func150,Tryz.ntmps150;go_wp2_with(first|(go_at_call 166;refine(zvu x _ hw hx).mono ?_;rintro e w1 ⟨rfl,a⟩;obtain⟨hc,hf⟩:=zdH a))
 go_ret;exact⟨rfl,zac a,(hS.below a b).set6 _⟩
theorem zld(w:World)(q:Nat)(place line:Int)(word nm x:ByteArray)(r0 r1 r2 n:Int)(hS:StmAt w q line word nm r0 r1 r2 n)(hx:x.size≤1048576):
  qC 150 #[.pointer (some ⟨q,0,none⟩),.int .i64 place,.int .i64 2,.string x] w fun e w'=>e=.returned (.bool (za8 x))∧w.grownBy w' (some q)∧StmAt w' q line word x r0 r1 r2 n:=by
 have b:=hS.lt;have hc7:=hS.c7;have hf7:=hS.fz 7;go_enter Tryz.func150,Tryz.ntmps150;go_wp2_with(first|(go_at_call 147;refine(zeE x _ hx).mono ?_;rintro e w1 ⟨rfl,a⟩;obtain⟨hc,hf⟩:=zdH a))
 go_ret;exact⟨rfl,zac a,(hS.below a b).set7 _⟩
theorem zle(w:World)(q:Nat)(line:Int)(word nm x:ByteArray)(r0 r1 r2 n:Int)(hS:StmAt w q line word nm r0 r1 r2 n)(hx:x.size≤1048576):
  qC 150 #[.pointer (some ⟨q,0,none⟩),.int .i64 0,.int .i64 0,.string x] w fun e w'=>e=.returned (.bool (zft x))∧w.grownBy w' (some q)∧StmAt w' q line word nm (zaH x) r1 r2 n:=by
 have hq:=hS.lt;have hc:=hS.c3;have hf:=hS.fz 3;go_enter Tryz.func150,Tryz.ntmps150;go_wp2;go_region_with(go_at_call 165;refine(zkp x _ (by unfold maxLen;omega)).mono ?_;rintro e wx ⟨rfl,a⟩;have b:=a.symm;subst b)
 all_goals go_wp2
 all_goals go_ret
 all_goals refine⟨rfl,?_,?_⟩
 ·exact zb6 (zac (Below.refl _ _))
 ·exact(hS.set3 _).drew
theorem zlf(w:World)(q:Nat)(line:Int)(word nm x:ByteArray)(r0 r1 r2 n:Int)(hS:StmAt w q line word nm r0 r1 r2 n)(hx:x.size≤1048576):
  qC 150 #[.pointer (some ⟨q,0,none⟩),.int .i64 1,.int .i64 0,.string x] w fun e w'=>e=.returned (.bool (zft x))∧w.grownBy w' (some q)∧StmAt w' q line word nm r0 (zaH x) r2 n:=by
 have hq:=hS.lt;have hc:=hS.c4;have hf:=hS.fz 4;go_enter Tryz.func150,Tryz.ntmps150;go_wp2;go_region_with(go_at_call 165;refine(zkp x _ (by unfold maxLen;omega)).mono ?_;rintro e wx ⟨rfl,a⟩;have b:=a.symm;subst b)
 all_goals go_wp2
 all_goals go_ret
 all_goals refine⟨rfl,?_,?_⟩
 ·exact zb6 (zac (Below.refl _ _))
 ·exact(hS.set4 _).drew
theorem zlg(w:World)(q:Nat)(line:Int)(word nm x:ByteArray)(r0 r1 r2 n:Int)(hS:StmAt w q line word nm r0 r1 r2 n)(hx:x.size≤1048576):
  qC 150 #[.pointer (some ⟨q,0,none⟩),.int .i64 2,.int .i64 0,.string x] w fun e w'=>e=.returned (.bool (zft x))∧w.grownBy w' (some q)∧StmAt w' q line word nm r0 r1 (zaH x) n:=by
 have hq:=hS.lt;have hc:=hS.c5;have hf:=hS.fz 5;go_enter Tryz.func150,Tryz.ntmps150;go_wp2;go_region_with(go_at_call 165;refine(zkp x _ (by unfold maxLen;omega)).mono ?_;rintro e wx ⟨rfl,a⟩;have b:=a.symm;subst b)
 all_goals go_wp2
 all_goals go_ret
 all_goals refine⟨rfl,?_,?_⟩
 ·exact zb6 (zac (Below.refl _ _))
 ·exact(hS.set5 _).drew
end
end Go.Proofs.YtfpgjkbjbbgciaaGreatDoor
