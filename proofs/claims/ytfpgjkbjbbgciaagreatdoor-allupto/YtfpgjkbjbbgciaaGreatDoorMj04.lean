import Derived.Test.YtfpgjkbjbbgciaaGreatDoorMj00
import Derived.Test.YtfpgjkbjbbgciaaGreatDoorMj02
import Derived.Test.YtfpgjkbjbbgciaaGreatDoorMj03
set_option maxRecDepth 100000
set_option maxHeartbeats 8000000
namespace Go.Proofs.YtfpgjkbjbbgciaaGreatDoor
section
open Go.RowKit Sp
theorem zhK(c:Int)(h:97≤c∧c≤122∨c=95∨945≤c∧c≤969):zcO c=true:=by simpa [zcO] using h
theorem zvj(c:Int)(h:¬(97≤c∧c≤122∨c=95∨945≤c∧c≤969)):¬zcO c=true:=by simpa [zcO] using h
theorem zrY(c:Int)(h:48≤c∧c≤57):zbf c=true:=by simpa [zbf] using h
theorem zvk(c:Int)(h:¬(48≤c∧c≤57)):¬zbf c=true:=by simpa [zbf] using h
theorem zx7(c:Int)(j:Nat)(h:97≤c∧c≤122∨95≤c∧c≤95∨945≤c∧c≤969∨(48≤c∧c≤57)∧¬j=0):zcO c=true∨zbf c=true∧¬j=0:=by
 rcases h with h|h|h|⟨h,a⟩
 ·exact .inl (zhK c (by omega))
 ·exact .inl (zhK c (by omega))
 ·exact .inl (zhK c (by omega))
 ·exact .inr ⟨zrY c h,a⟩
theorem zvl(c:Int)(j:Nat)(h:¬(97≤c∧c≤122∨95≤c∧c≤95∨945≤c∧c≤969∨(48≤c∧c≤57)∧¬j=0)):¬(zcO c=true∨zbf c=true∧¬j=0):=by
 intro b;rcases b with a|⟨a,h2⟩
 ·exact absurd a (zvj c (by omega))
 ·exact absurd a (zvk c (by omega))
theorem zrZ(c:Int)(j:Nat)(h0:0≤c)(h1:c≤1114111):((97≤c∧c≤122)∨(95≤c∧c≤95∧(c == 95)=true)∨(945≤c∧c≤969∧(c == 95)=false)∨(48≤c∧c≤57∧((j:Int) == 0)=false∧(c == 95)=false)) ∨
  ((48≤c∧c≤57∧((j:Int) == 0)=true∧(c == 95)=false)∨(0≤c∧c<48∧(c == 95)=false)∨(57<c∧c<95∧(c == 95)=false)∨(95<c∧c<97∧(c == 95)=false)∨(122<c∧c<945∧(c == 95)=false)∨(969<c∧c≤1114111∧(c == 95)=false)):=by
 by_cases h:(j:Int)=0
 ·by_cases a:c=95 <;> simp [h,a] <;> omega
 ·by_cases a:c=95 <;> simp [a] <;> omega
theorem zhL(c:Nat)(h:1≤c):decide ((c:Int)≤12)=zcP (some c):=by
 unfold zcP;by_cases a:c≤12
 ·simp [h,a];omega
 ·simp [a];omega
theorem zju(c:Nat)(h:¬1≤c):false=zcP (some c):=by
 unfold zcP;simp;omega
theorem zhz(s:ByteArray)(w:World)(hs:s.size≤140737488355328):
  qC 73 #[.string s] w fun e w'=>e=.returned (.bool (za8 s))∧w'=w:=by
 go_enter Tryz.func73,Tryz.ntmps73;go_wp2
 go_loop [3,4] (fun tc ti=>∃ j c:Nat,j≤s.size∧c≤j∧ti=.int .i64 (j:Int)∧tc=.int .i64 (c:Int)∧za8 s=zcP (zcY s j c)) (fun _ ti=>s.size-(intOf ti).toNat)
 case atStart=>exact⟨0,0,by omega,by omega,rfl,rfl,rfl⟩
 case round =>
  obtain⟨j,c,hj,hc,rfl,rfl,p⟩:=hrel;have HR:Hid (za8 s=zcP (zcY s j c)):=p;clear p;by_cases a:j<s.size
  ·by_cases f:(chr s j).1=0
   ·have h2:(chr s j).2=0:=by
     rcases zxs s j a with h|h
     ·rw [h]
     ·omega
    go_wp2_with(go_at_call 106;refine(zhH s j _ hs a).mono ?_;rintro e w' ⟨rfl,rfl⟩)
    go_ret;exact⟨zaE (by rw [HR.out,zjs s j c a f];rfl),rfl⟩
   ·have q:=zcN s j a f;obtain⟨g,hp2,hp3,hp4,k,m⟩:=q;have o:Hid (((chrN s j:Nat):Int)=(chr s j).1):=g;have hq1:1≤(chr s j).1:=by omega
    have hq2:(chr s j).1≤4:=by omega
    have hq:((chr s j).1 == 0)=false:=by simpa using f
    clear g;rcases zrZ (chr s j).2 j k m with i|i
    ·have l:Hid (za8 s=zcP (zcY s (j+chrN s j) (c+1))):=by
      rw [HR.out,zfy s j c a f (zx7 _ _ (by simp only [beq_eq_false_iff_ne,ne_eq] at i;omega))];rfl
     rcases i with ⟨h,b⟩|⟨h,b,d⟩|⟨h,b,d⟩|⟨h,b,r,d⟩
     all_goals
      go_wp2_with(go_at_call 106;refine(zhH s j _ hs a).mono ?_;rintro e w' ⟨rfl,rfl⟩)
      go_round
      case rel=>have e:=o.out;exact⟨j+chrN s j,c+1,by omega,by omega,by go_num,by go_num,l.out⟩
      case measure=>have e:=o.out;simp [intOf];omega
    ·have l:Hid (false=za8 s):=by
      rw [HR.out,zg2 s j c a f (zvl _ _ (by simp only [beq_iff_eq] at i;omega))];rfl
     rcases i with ⟨h,b,r,d⟩|⟨h,b,d⟩|⟨h,b,d⟩|⟨h,b,d⟩|⟨h,b,d⟩|⟨h,b,d⟩
     all_goals
      go_wp2_with(go_at_call 106;refine(zhH s j _ hs a).mono ?_;rintro e w' ⟨rfl,rfl⟩)
     all_goals first
      | (exfalso;omega)
      | (exfalso;rename_i hh;simp only [Bool.not_eq_false',decide_eq_true_eq] at hh;omega)
      | (go_ret;exact⟨zaE l.out,rfl⟩)
  ·have HF:Hid (za8 s=zcP (some c)):=by rw [HR.out,zjr s j c a];rfl
   by_cases n:1≤c
   ·go_wp2;go_ret;exact⟨zaE (by rw [HF.out];exact zhL c n),rfl⟩
   ·go_wp2;go_ret;exact⟨zaE (by rw [HF.out];exact zju c n),rfl⟩
theorem zbC(c:Int)(w:World):qC 163 #[.int .i32 c] w fun e w'=>e=.returned (.bool (zbf c))∧w'=w:=by
 by_cases d:48≤c
 ·by_cases f:c≤57
  ·have a:Hid (true=zbf c):=by unfold Hid;simp [zbf,d,f]
   go_enter Tryz.func163,Tryz.ntmps163;go_wp2;go_ret;exact⟨zaE a.out,rfl⟩
  ·have b:57<c:=by omega
   have a:Hid (false=zbf c):=by unfold Hid;simp [zbf];omega
   go_enter Tryz.func163,Tryz.ntmps163;go_wp2;go_ret;exact⟨zaE a.out,rfl⟩
 ·have b:c<48:=by omega
  have a:Hid (false=zbf c):=by unfold Hid;simp [zbf];omega
  go_enter Tryz.func163,Tryz.ntmps163;go_wp2;go_ret;exact⟨zaE a.out,rfl⟩
def zje(c:Int):Bool:=zcO c||zbf c
theorem zsj(c:Int):((97≤c∧c≤122)∨(48≤c∧c≤57∧zbf c=true)∨(95≤c∧c≤95∧(c == 95)=true∧zbf c=false)∨(945≤c∧c≤969∧(c == 95)=false∧zbf c=false)) ∨
  ((c<48∧(c == 95)=false∧zbf c=false)∨(57<c∧c<95∧(c == 95)=false∧zbf c=false)∨(95<c∧c<97∧(c == 95)=false∧zbf c=false)∨(122<c∧c<945∧(c == 95)=false∧zbf c=false)∨(969<c∧(c == 95)=false∧zbf c=false)):=by
 by_cases h':c=95 <;> simp [h',zbf] <;> omega
theorem zc6(c:Int)(w:World):qC 162 #[.int .i32 c] w fun e w'=>e=.returned (.bool (zje c))∧w'=w:=by
 rcases zsj c with i|i
 ·have j:Hid (true=zje c):=by
   unfold Hid zje;rcases i with h|h|h|h
   ·simp [zcO];omega
   ·simp [h.2.2]
   ·simp [zcO];omega
   ·simp [zcO];omega
  rcases i with ⟨a,g⟩|⟨a,g,b⟩|⟨a,g,b,f⟩|⟨a,g,b,f⟩
  all_goals
   go_enter Tryz.func162,Tryz.ntmps162;go_wp2_with(go_at_call 163;refine(zbC c _).mono ?_;rintro e w' ⟨rfl,rfl⟩)
   go_ret;exact⟨zaE j.out,rfl⟩
 ·have j:Hid (false=zje c):=by
   unfold Hid zje;rcases i with h|h|h|h|h
   ·rw [h.2.2];simp [zcO];omega
   ·rw [h.2.2.2];simp [zcO];omega
   ·rw [h.2.2.2];simp [zcO];omega
   ·rw [h.2.2.2];simp [zcO];omega
   ·rw [h.2.2];simp [zcO];omega
  rcases i with ⟨a,b,f⟩|⟨a,g,b,f⟩|⟨a,g,b,f⟩|⟨a,g,b,f⟩|⟨a,b,f⟩
  all_goals
   go_enter Tryz.func162,Tryz.ntmps162;go_wp2_with(go_at_call 163;refine(zbC c _).mono ?_;rintro e w' ⟨rfl,rfl⟩)
  all_goals first
   | (exfalso;omega)
   | (exfalso;rename_i hh;simp only [Bool.not_eq_false',decide_eq_true_eq,beq_iff_eq] at hh;omega)
   | (go_ret;exact⟨zaE (by first|exact j.out|(rw [←j.out];simp;omega)),rfl⟩)
theorem zkq(w:World)(k:Nat)(s:ByteArray)(pos:Nat)(hk:w.heap[k]?=some (.stringIter s pos))(h:pos<s.size)(h0:(chr s pos).1=0)(ty:TypeId):
  (Instr.next (.pointer (some ⟨k,0,none⟩)) true ty).run Tryz.prog w=.ok (.tuple #[.bool true,.int .i64 pos,.int .i32 65533]) (w.iterAt k s (pos+1)):=by
 have e:=(zg3 s pos).1 h0;have r:=Lib.run_next_any_at (P:=Tryz.prog) w k s pos ty hk h;rw [e] at r;exact r
theorem zfT(w:World)(k:Nat)(s:ByteArray)(pos:Nat)(hk:w.heap[k]?=some (.stringIter s pos))(h:pos<s.size)(h0:¬(chr s pos).1=0)(ty:TypeId):
  (Instr.next (.pointer (some ⟨k,0,none⟩)) true ty).run Tryz.prog w=.ok (.tuple #[.bool true,.int .i64 pos,.int .i32 (chr s pos).2]) (w.iterAt k s (pos+chrN s pos)):=by
 have e:=(zg3 s pos).2 h0;have p:=zcN s pos h h0;have r:=Lib.run_next_any_at (P:=Tryz.prog) w k s pos ty hk h;rw [e] at r;have e2:(((chr s pos).2.toNat:Nat):Int)=(chr s pos).2:=by omega
 simp only [e2] at r;exact r
theorem zeE(s:ByteArray)(w:World)(hs:s.size≤1048576):
  qC 147 #[.string s] w (qR w (.bool (za8 s))):=by
 have u:(w.iter s 0).heap[w.heap.size]?=some (.stringIter s 0):=World.iter_heap w s 0;have r:qB w (w.iter s 0):=(Below.refl _ w).alloc (Nat.le_refl _) _;go_enter Tryz.func147,Tryz.ntmps147;go_wp2
 go_loopw [3] (fun tc wr=>∃ a c:Nat,a≤s.size∧c≤a∧(c=0∧a=0∨1≤c∧1≤a)∧tc=.int .i64 (c:Int)∧wr.heap[w.heap.size]?=some (.stringIter s a)∧qB w wr∧za8 s=zcP (zcY s a c)) (fun _ wr=>s.size-wr.iterPos w.heap.size)
 case atStart=>exact⟨0,0,by omega,by omega,.inl ⟨rfl,rfl⟩,rfl,u,r,rfl⟩
 case round =>
  obtain⟨a,c,hp,hc,hcp,rfl,q,l,A⟩:=hrel;have HR:Hid (za8 s=zcP (zcY s a c)):=A;clear A u r;have t:wr.iterPos w.heap.size=a:=by simp [World.iterPos,q]
  have HMU:Hid (wr.iterPos w.heap.size=a):=t;clear t;by_cases b:a<s.size
  ·by_cases n:(chr s a).1=0
   ·have d:=zkq wr w.heap.size s a q b n;have f:=Lib.below_iterAt l (Nat.le_refl _) s (a+1);have j:Hid (false=za8 s):=by unfold Hid;rw [HR.out,zjs s a c b n];rfl
    have g:zje 65533=false:=by decide
    generalize wr.iterAt w.heap.size s (a+1)=W1 at d f;go_wp2_with(first|(go_at_call 162;refine(zc6 _ _).mono ?_;rintro e k ⟨rfl,rfl⟩)|(go_at_call 163;refine(zbC _ _).mono ?_;rintro e k ⟨rfl,rfl⟩))
    go_ret;exact⟨zaE j.out,f⟩
   ·have d:=zfT wr w.heap.size s a q b n;have f:=Lib.below_iterAt l (Nat.le_refl _) s (a+chrN s a);have i:=Lib.iterAt_heap wr w.heap.size s a (a+chrN s a) q;have v:=zcN s a b n;generalize wr.iterAt w.heap.size s (a+chrN s a)=W1 at d f i;have o:W1.iterPos w.heap.size=a+chrN s a:=by simp [World.iterPos,i]
    have m:Hid (W1.iterPos w.heap.size=a+chrN s a):=o;obtain⟨y,hp2,hp3,hp4,hp5,hp6⟩:=v;clear o y;cases g:zje (chr s a).2 with
    | false =>
     have j:Hid (false=za8 s):=by
      unfold Hid;rw [HR.out,zg2 s a c b n (by intro x;simp [zje] at g;simp [g.1,g.2] at x)];rfl
     go_wp2_with(first|(go_at_call 162;refine(zc6 _ _).mono ?_;rintro e k ⟨rfl,rfl⟩)|(go_at_call 163;refine(zbC _ _).mono ?_;rintro e k ⟨rfl,rfl⟩))
     go_ret;exact⟨zaE j.out,f⟩
    | true =>
     by_cases hc0:1≤c
     ·have B:((c:Int) == 0)=false:=by simp;omega
      have j:Hid (za8 s=zcP (zcY s (a+chrN s a) (c+1))):=by
       unfold Hid;rw [HR.out,zfy s a c b n (by simp [zje] at g;rcases g with h|h;exact .inl h;exact .inr ⟨h,by omega⟩)]
      go_wp2_with(first|(go_at_call 162;refine(zc6 _ _).mono ?_;rintro e k ⟨rfl,rfl⟩)|(go_at_call 163;refine(zbC _ _).mono ?_;rintro e k ⟨rfl,rfl⟩))
      go_roundw
      case rel=>exact⟨a+chrN s a,c+1,by omega,by omega,.inr ⟨by omega,by omega⟩,by go_num,i,f,j.out⟩
      case measure=>rw [HMU.out,m.out];omega
     ·have B:((c:Int) == 0)=true:=by simp;omega
      have p:Hid (a=0):=by unfold Hid;omega
      cases hd:zbf (chr s a).2 with
      | true =>
       have j:Hid (false=za8 s):=by
        unfold Hid;rw [HR.out,zg2 s a c b n (by
         intro x;rcases x with h|⟨_,h⟩
         ·simp [zcO] at h;simp [zbf] at hd;omega
         ·exact h p.out)];rfl
       go_wp2_with(first|(go_at_call 162;refine(zc6 _ _).mono ?_;rintro e k ⟨rfl,rfl⟩)|(go_at_call 163;refine(zbC _ _).mono ?_;rintro e k ⟨rfl,rfl⟩))
       go_ret;exact⟨zaE j.out,f⟩
      | false =>
       have j:Hid (za8 s=zcP (zcY s (a+chrN s a) (c+1))):=by
        unfold Hid;rw [HR.out,zfy s a c b n (by simp [zje,hd] at g;exact .inl g)]
       go_wp2_with(first|(go_at_call 162;refine(zc6 _ _).mono ?_;rintro e k ⟨rfl,rfl⟩)|(go_at_call 163;refine(zbC _ _).mono ?_;rintro e k ⟨rfl,rfl⟩))
       go_roundw
       case rel=>exact⟨a+chrN s a,c+1,by omega,by omega,.inr ⟨by omega,by omega⟩,by go_num,i,f,j.out⟩
       case measure=>rw [HMU.out,m.out];omega
  ·have d:∀ ty,(Instr.next (.pointer (some ⟨w.heap.size,0,none⟩)) true ty).run Tryz.prog wr=.ok (.tuple #[.bool false]) wr:=fun ty=>Lib.run_next_end_at wr w.heap.size s a ty q b;have HF:Hid (za8 s=zcP (some c)):=by unfold Hid;rw [HR.out,zjr s a c b]
   by_cases z:1≤c
   ·go_wp2;go_ret;exact⟨zaE (by rw [HF.out];exact zhL c z),l⟩
   ·go_wp2;go_ret;exact⟨zaE (by rw [HF.out];exact zju c z),l⟩
theorem zh1(now:ByteArray)(l:List ByteArray)(h:now.size=0):zfz now l=l:=by unfold zfz;rw [if_pos h]
theorem zdp(now:ByteArray)(l:List ByteArray)(h:¬now.size=0):zfz now l=l++[now]:=by unfold zfz;rw [if_neg h]
theorem zsf(b:Int):((b != 32)=true∧(b != 9)=true∧(b != 59)=true∧¬(b=32∨b=9∨b=59))∨((b != 32)=false∧(b == 59)=false∧b=32)∨((b != 32)=true∧(b != 9)=false∧(b == 59)=false∧b=9)∨((b != 32)=true∧(b != 9)=true∧(b != 59)=false∧(b == 59)=true∧b=59):=by
 by_cases d:b=32
 ·subst d;simp
 ·by_cases c:b=9
  ·subst c;simp
  ·by_cases a:b=59
   ·subst a;simp
   ·left;simp [d,c,a]
theorem zsg(now s:ByteArray)(k:Nat)(h:k<s.size):(now++s.extract k (k+1)).size=now.size+1:=by
 rw [ByteArray.size_append,ByteArray.size_extract];omega
theorem zhM(s:ByteArray)(w:World)(hs:s.size≤1048576):
  qC 72 #[.string s] w fun e w'=>∃ v,e=.returned v∧w'.ownsRow w.heap.size 9 1 v (words s).length ((words s).map Value.string)∧qB w w':=by
 obtain⟨B,C,r,p,o⟩:=info_parts Tryz.info9;go_enter Tryz.func72,Tryz.ntmps72;go_wp2
 go_loopw [3,4,5] (fun v tn ti wr=>∃(k:Nat) (a:ByteArray) (b:List ByteArray),a.size≤k∧b.length≤k∧ti=.int .i64 (k:Int)∧tn=.string a∧wr.ownsRow w.heap.size 9 1 v b.length (b.map Value.string)∧qB w wr∧(k≤s.size∧words s=za9 s k a b∨k=s.size+1∧words s=b)) (fun _ _ ti _=>s.size+1-(intOf ti).toNat)
 case atStart=>exact⟨0,ByteArray.empty,[],by simp,by simp,rfl,rfl,World.ownsRow_nil _ _ _ _,Below.refl _ _,.inl ⟨by omega,rfl⟩⟩
 case round =>
  obtain⟨k,a,b,hn,hacc,rfl,rfl,d,i,K⟩:=hrel;have z:Hid (k≤s.size∧words s=za9 s k a b∨k=s.size+1∧words s=b):=K;clear K;have q:=i.size;by_cases g:k<s.size
  ·have M:Hid (words s=za9 s k a b):=by rcases z.out with h|h;exact h.2;omega
   clear z;have hc0:0≤(s[k].toNat:Int):=by omega
   have hc1:(s[k].toNat:Int)≤255:=by have:=s[k].toNat_lt;omega
   have x:Hid ((s[k].toNat:Int)=bt s k):=zdU s k g;rcases zsf (s[k].toNat:Int) with ⟨E,H,F,n⟩|⟨E,F,n⟩|⟨E,H,F,n⟩|⟨E,H,F,h5,n⟩
   ·have l:Hid (words s=za9 s (k+1) (a++s.extract k (k+1)) b):=by
     rw [M.out,zfa s k a b g (by have:=x.out;omega)];rfl
    have u:=zsg a s k g;have L:Hid ((a++s.extract k (k+1)).size=a.size+1):=u;clear u n;go_wp2;go_roundw
    case rel=>exact⟨k+1,a++s.extract k (k+1),b,by have:=L.out;omega,by omega,by go_num,rfl,d,i,.inl ⟨by omega,l.out⟩⟩
    case measure=>simp [intOf];omega
   ·have t:Hid ((s[k].toNat:Int)=32):=n;clear n;by_cases j:a.size=0
    ·have y:=zda a j;have l:Hid (words s=za9 s (k+1) ByteArray.empty b):=by
      rw [M.out,zbB s k a b g (by have:=x.out;have:=t.out;omega),zh1 a b j];rfl
     go_wp2;go_roundw
     case rel=>exact⟨k+1,ByteArray.empty,b,by simp,by omega,by go_num,rfl,d,i,.inl ⟨by omega,l.out⟩⟩
     case measure=>simp [intOf];omega
    ·have y:=zd3 a j;have l:Hid (words s=za9 s (k+1) ByteArray.empty (b++[a])):=by
      rw [M.out,zbB s k a b g (by have:=x.out;have:=t.out;omega),zdp a b j];rfl
     go_wp2_with(at_builtin;refine wpList_append_own _ rfl _ _ 67 rfl w.heap.size 9 B (.string ByteArray.empty) 1 16 Tryz.under67 C r p o rfl (by decide) _ _ _ rfl (d.alloc _) ⟨wr.heap.size,0,none⟩ 1 1 [.string a] rfl rfl (cell_one_new _ _ _) (zdm _) (by unfold maxLen;omega) (by omega) (by simp;omega) ?_)
     intro D G f c _;have m:=zfb d q i c;clear c;go_wp2;go_roundw
     case rel=>exact⟨k+1,ByteArray.empty,b++[a],by simp,by simp;omega,by go_num,rfl,by simpa using f,m,.inl ⟨by omega,l.out⟩⟩
     case measure=>simp [intOf];omega
   ·have t:Hid ((s[k].toNat:Int)=9):=n;clear n;by_cases j:a.size=0
    ·have y:=zda a j;have l:Hid (words s=za9 s (k+1) ByteArray.empty b):=by
      rw [M.out,zbB s k a b g (by have:=x.out;have:=t.out;omega),zh1 a b j];rfl
     go_wp2;go_roundw
     case rel=>exact⟨k+1,ByteArray.empty,b,by simp,by omega,by go_num,rfl,d,i,.inl ⟨by omega,l.out⟩⟩
     case measure=>simp [intOf];omega
    ·have y:=zd3 a j;have l:Hid (words s=za9 s (k+1) ByteArray.empty (b++[a])):=by
      rw [M.out,zbB s k a b g (by have:=x.out;have:=t.out;omega),zdp a b j];rfl
     go_wp2_with(at_builtin;refine wpList_append_own _ rfl _ _ 67 rfl w.heap.size 9 B (.string ByteArray.empty) 1 16 Tryz.under67 C r p o rfl (by decide) _ _ _ rfl (d.alloc _) ⟨wr.heap.size,0,none⟩ 1 1 [.string a] rfl rfl (cell_one_new _ _ _) (zdm _) (by unfold maxLen;omega) (by omega) (by simp;omega) ?_)
     intro D G f c _;have m:=zfb d q i c;clear c;go_wp2;go_roundw
     case rel=>exact⟨k+1,ByteArray.empty,b++[a],by simp,by simp;omega,by go_num,rfl,by simpa using f,m,.inl ⟨by omega,l.out⟩⟩
     case measure=>simp [intOf];omega
   ·have t:Hid ((s[k].toNat:Int)=59):=n;clear n;by_cases j:a.size=0
    ·have y:=zda a j;have l:Hid (words s=b):=by
      rw [M.out,zcI s k a b g (by have:=x.out;have:=t.out;omega),zh1 a b j];rfl
     go_wp2;go_ret;exact⟨_,rfl,by rw [l.out];exact d,i⟩
    ·have y:=zd3 a j;have l:Hid (words s=b++[a]):=by
      rw [M.out,zcI s k a b g (by have:=x.out;have:=t.out;omega),zdp a b j];rfl
     go_wp2_with(at_builtin;refine wpList_append_own _ rfl _ _ 67 rfl w.heap.size 9 B (.string ByteArray.empty) 1 16 Tryz.under67 C r p o rfl (by decide) _ _ _ rfl (d.alloc _) ⟨wr.heap.size,0,none⟩ 1 1 [.string a] rfl rfl (cell_one_new _ _ _) (zdm _) (by unfold maxLen;omega) (by omega) (by simp;omega) ?_)
     intro D G f c _;have m:=zfb d q i c;clear c;go_wp2;go_ret;exact⟨_,rfl,by rw [l.out];simpa using f,m⟩
  ·by_cases A:k=s.size
   ·have M:Hid (words s=za9 s k a b):=by rcases z.out with h|h;exact h.2;omega
    clear z;have I:Hid (k=s.size):=A;have hle:k≤s.size:=by omega
    clear A;by_cases j:a.size=0
    ·have y:=zda a j;have l:Hid (words s=b):=by
      rw [M.out,zdb s k a b g,zh1 a b j];rfl
     go_wp2;go_roundw
     case rel=>exact⟨k+1,ByteArray.empty,b,by simp,by omega,by go_num,rfl,d,i,.inr ⟨by have:=I.out;omega,l.out⟩⟩
     case measure=>simp [intOf];omega
    ·have y:=zd3 a j;have l:Hid (words s=b++[a]):=by
      rw [M.out,zdb s k a b g,zdp a b j];rfl
     go_wp2_with(at_builtin;refine wpList_append_own _ rfl _ _ 67 rfl w.heap.size 9 B (.string ByteArray.empty) 1 16 Tryz.under67 C r p o rfl (by decide) _ _ _ rfl (d.alloc _) ⟨wr.heap.size,0,none⟩ 1 1 [.string a] rfl rfl (cell_one_new _ _ _) (zdm _) (by unfold maxLen;omega) (by omega) (by simp;omega) ?_)
     intro D G f c _;have m:=zfb d q i c;clear c;go_wp2;go_roundw
     case rel=>exact⟨k+1,ByteArray.empty,b++[a],by simp,by simp;omega,by go_num,rfl,by simpa using f,m,.inr ⟨by have:=I.out;omega,l.out⟩⟩
     case measure=>simp [intOf];omega
   ·have hgt:s.size<k:=by omega
    have l:Hid (words s=b):=by
     rcases z.out with h|h
     ·omega
     ·exact h.2
    clear z;go_wp2;go_ret;exact⟨_,rfl,by rw [l.out];exact d,i⟩
end
namespace Sp
def opOk(k:UInt8)(x:ByteArray):Bool:=if k=82 then decide (0≤reg x) else if k=75 then(zaI x).2 else za8 x
def zaX:List UInt8→List ByteArray→Bool
 | [],_=>true
 | k :: ks,x :: xs=>opOk k x&&zaX ks xs
 | _ :: _,[]=>true
def zfS(s:ByteArray):Int:=bt s (s.size-1)
def zlb(x:ByteArray):Bool:=isW x [102,117,110,99]
structure Said where
 kind:Int
 kept:List ByteArray
 ok:Bool
def sayW(l:List ByteArray):Said :=
 match l with
 | []=>⟨0,[],true⟩
 | x :: r =>
  if zlb x=true then⟨102,l,decide (l.length=2)&&za8 (l.getLast?.getD ByteArray.empty)⟩
  else if l.length=1∧zfS x=58 then⟨108,[x.extract 0 (x.size-1)],za8 (x.extract 0 (x.size-1))⟩
  else⟨105,l,if zaa x=[63]∨¬l.length=(zaa x).length+1 then false else zaX (zaa x) r⟩
def say(s:ByteArray):Said:=if zau s 0=true then sayW (words s) else⟨0,[],false⟩
theorem zf0(s now:ByteArray)(l:List ByteArray)(hl:∀ x∈l,1≤x.size∧x.size≤s.size)(hn:now.size≤s.size):∀ x∈zfz now l,1≤x.size∧x.size≤s.size:=by
 intro x a;unfold zfz at a;split at a
 ·exact hl x a
 ·rw [List.mem_append] at a;rcases a with a|a
  ·exact hl x a
  ·simp at a;subst a;omega
theorem zen(s:ByteArray)(i:Nat)(now:ByteArray)(l:List ByteArray)(hl:∀ x∈l,1≤x.size∧x.size≤s.size)(hn:now.size≤i)(hi:i≤s.size):∀ x∈za9 s i now l,1≤x.size∧x.size≤s.size:=by
 by_cases h:i<s.size
 ·by_cases a:bt s i=32∨bt s i=9∨bt s i=59
  ·by_cases b:bt s i=59
   ·rw [zcI s i now l h b];exact zf0 s now l hl (by omega)
   ·rw [zbB s i now l h (by omega)];exact zen s (i+1) _ _ (zf0 s now l hl (by omega)) (by simp) (by omega)
  ·rw [zfa s i now l h a];exact zen s (i+1) _ _ hl (by rw [ByteArray.size_append,ByteArray.size_extract];omega) (by omega)
 ·rw [zdb s i now l h];exact zf0 s now l hl (by omega)
termination_by s.size-i
theorem zf1(s:ByteArray):∀ x∈words s,1≤x.size∧x.size≤s.size:=zen s 0 _ _ (by simp) (by simp) (by omega)
theorem zjw(ks:List UInt8)(xs:List ByteArray)(i:Nat)(hk:i<ks.length)(hx:i<xs.length):zaX (ks.drop i) (xs.drop i)=(opOk ks[i] xs[i]&&zaX (ks.drop (i+1)) (xs.drop (i+1))):=by
 rw [List.drop_eq_getElem_cons hk,List.drop_eq_getElem_cons hx];rfl
def Wf(q:Said):Prop:=(q.kind=0∧q.kept.length=0)∨(q.kind=102∧q.kept.length=2)∨(q.kind=108∧q.kept.length=1)∨(q.kind=105∧1≤q.kept.length∧q.kept.length≤4)
def eqW(a b:ByteArray):Bool:=a.toList == b.toList
def Said.word(q:Said)(i:Nat):ByteArray:=q.kept[i]?.getD ByteArray.empty
def isFn(q:Said)(x:ByteArray):Bool:=decide (q.kind=102)&&eqW (q.word 1) x
def zdc(q:Said)(x:ByteArray):Bool:=decide (q.kind=108)&&eqW (q.word 0) x
def zaN(L:List Said)(x:ByteArray)(i:Nat):Int :=
 if h:i<L.length then(if isFn L[i] x=true then(i:Int) else zaN L x (i+1)) else -1
termination_by L.length-i
def zcw(L:List Said):Nat→Int
 | 0=>if(L[0]?.map Said.kind)=some 102 then 0 else -1
 | k+1=>if(L[k+1]?.map Said.kind)=some 102 then((k+1:Nat):Int) else zcw L k
def zaY(L:List Said)(x:ByteArray)(i:Nat):Int :=
 if h:i<L.length then(if L[i].kind=102 then -1 else if zdc L[i] x=true then(i:Int) else zaY L x (i+1)) else -1
termination_by L.length-i
def zcj(L:List Said)(k:Nat)(x:ByteArray):Int:=zaY L x (zcw L k+1).toNat
theorem zfc(L:List Said)(x:ByteArray)(i:Nat)(h:¬i<L.length):zaN L x i=-1:=by rw [zaN,dif_neg h]
theorem zd4(L:List Said)(x:ByteArray)(i:Nat)(h:i<L.length)(h':isFn L[i] x=true):zaN L x i=i:=by rw [zaN,dif_pos h,if_pos h']
theorem zdr(L:List Said)(x:ByteArray)(i:Nat)(h:i<L.length)(h':isFn L[i] x=false):zaN L x i=zaN L x (i+1):=by rw [zaN,dif_pos h,if_neg (by simp [h'])]
theorem zeo(L:List Said)(x:ByteArray)(i:Nat)(h:¬i<L.length):zaY L x i=-1:=by rw [zaY,dif_neg h]
theorem zfW(L:List Said)(x:ByteArray)(i:Nat)(h:i<L.length)(h':L[i].kind=102):zaY L x i=-1:=by rw [zaY,dif_pos h,if_pos h']
theorem zdd(L:List Said)(x:ByteArray)(i:Nat)(h:i<L.length)(h0:¬L[i].kind=102)(h':zdc L[i] x=true):zaY L x i=i:=by rw [zaY,dif_pos h,if_neg h0,if_pos h']
theorem zcd(L:List Said)(x:ByteArray)(i:Nat)(h:i<L.length)(h0:¬L[i].kind=102)(h':zdc L[i] x=false):zaY L x i=zaY L x (i+1):=by rw [zaY,dif_pos h,if_neg h0,if_neg (by simp [h'])]
theorem zfX(L:List Said)(k:Nat)(h:k<L.length)(h':L[k].kind=102):zcw L k=k:=by
 cases k with
 | zero=>unfold zcw;rw [List.getElem?_eq_getElem h];simp [h']
 | succ k=>unfold zcw;rw [List.getElem?_eq_getElem h];simp [h']
theorem zqc(L:List Said)(h:0<L.length)(h':¬L[0].kind=102):zcw L 0=-1:=by
 unfold zcw;rw [List.getElem?_eq_getElem h];simp [h']
theorem zdY(L:List Said)(k:Nat)(h:k+1<L.length)(h':¬L[k+1].kind=102):zcw L (k+1)=zcw L k:=by
 conv=>lhs;unfold zcw
 rw [List.getElem?_eq_getElem h];simp [h']
theorem zv2(L:List Said)(k:Nat):-1≤zcw L k∧zcw L k≤k:=by
 induction k with
 | zero=>unfold zcw;split <;> simp
 | succ k ih=>unfold zcw;split <;> omega
end Sp
end Go.Proofs.YtfpgjkbjbbgciaaGreatDoor
