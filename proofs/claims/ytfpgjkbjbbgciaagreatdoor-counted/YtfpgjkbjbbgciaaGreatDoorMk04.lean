import Derived.Test.YtfpgjkbjbbgciaaGreatDoorMk01
import Derived.Test.YtfpgjkbjbbgciaaGreatDoorMk02
import Derived.Test.YtfpgjkbjbbgciaaGreatDoorMk03
set_option maxRecDepth 100000
set_option maxHeartbeats 8000000
namespace Go.Proofs.YtfpgjkbjbbgciaaGreatDoor
open Go.RowKit Sp
theorem zbq(c:Int)(w:World):Calls Tryz.prog 163 #[.int .i32 c] w fun e w'=>e=.returned (.bool (zbe c))∧w'=w:=by
 by_cases b:48≤c
 ·by_cases d:c≤57
  ·have a:Hid (true=zbe c):=by unfold Hid;simp [zbe,b,d]
   go_enter Tryz.func163,Tryz.ntmps163;go_wp2;go_ret;exact⟨zcH a.out,rfl⟩
  ·have f:57<c:=by omega
   have a:Hid (false=zbe c):=by unfold Hid;simp [zbe];omega
   go_enter Tryz.func163,Tryz.ntmps163;go_wp2;go_ret;exact⟨zcH a.out,rfl⟩
 ·have f:c<48:=by omega
  have a:Hid (false=zbe c):=by unfold Hid;simp [zbe];omega
  go_enter Tryz.func163,Tryz.ntmps163;go_wp2;go_ret;exact⟨zcH a.out,rfl⟩
def zj3(c:Int):Bool:=zcT c||zbe c
theorem zsx(c:Int):((97≤c∧c≤122)∨(48≤c∧c≤57∧zbe c=true)∨(95≤c∧c≤95∧(c == 95)=true∧zbe c=false)∨(945≤c∧c≤969∧(c == 95)=false∧zbe c=false)) ∨
  ((c<48∧(c == 95)=false∧zbe c=false)∨(57<c∧c<95∧(c == 95)=false∧zbe c=false)∨(95<c∧c<97∧(c == 95)=false∧zbe c=false)∨(122<c∧c<945∧(c == 95)=false∧zbe c=false)∨(969<c∧(c == 95)=false∧zbe c=false)):=by
 by_cases h':c=95 <;> simp [h',zbe] <;> omega
theorem zcf(c:Int)(w:World):Calls Tryz.prog 162 #[.int .i32 c] w fun e w'=>e=.returned (.bool (zj3 c))∧w'=w:=by
 rcases zsx c with j|j
 ·have i:Hid (true=zj3 c):=by
   unfold Hid zj3;rcases j with h|h|h|h
   ·simp [zcT];omega
   ·simp [h.2.2]
   ·simp [zcT];omega
   ·simp [zcT];omega
  rcases j with ⟨a,d⟩|⟨a,d,b⟩|⟨a,d,b,f⟩|⟨a,d,b,f⟩
  all_goals
   go_enter Tryz.func162,Tryz.ntmps162;go_wp2_with(go_at_call 163;refine(zbq c _).mono ?_;rintro e w' ⟨rfl,rfl⟩)
   go_ret;exact⟨zcH i.out,rfl⟩
 ·have i:Hid (false=zj3 c):=by
   unfold Hid zj3;rcases j with h|h|h|h|h
   ·rw [h.2.2];simp [zcT];omega
   ·rw [h.2.2.2];simp [zcT];omega
   ·rw [h.2.2.2];simp [zcT];omega
   ·rw [h.2.2.2];simp [zcT];omega
   ·rw [h.2.2];simp [zcT];omega
  rcases j with ⟨a,b,f⟩|⟨a,d,b,f⟩|⟨a,d,b,f⟩|⟨a,d,b,f⟩|⟨a,b,f⟩
  all_goals
   go_enter Tryz.func162,Tryz.ntmps162;go_wp2_with(go_at_call 163;refine(zbq c _).mono ?_;rintro e w' ⟨rfl,rfl⟩)
  all_goals first
   | (exfalso;omega)
   | (exfalso;rename_i hh;simp only [Bool.not_eq_false',decide_eq_true_eq,beq_iff_eq] at hh;omega)
   | (go_ret;exact⟨zcH (by first|exact i.out|(rw [←i.out];simp;omega)),rfl⟩)
theorem zku(w:World)(k:Nat)(s:ByteArray)(pos:Nat)(hk:w.heap[k]?=some (.stringIter s pos))(h:pos<s.size)(h0:(chr s pos).1=0)(ty:TypeId):
  (Instr.next (.pointer (some ⟨k,0,none⟩)) true ty).run Tryz.prog w=.ok (.tuple #[.bool true,.int .i64 pos,.int .i32 65533]) (w.iterAt k s (pos+1)):=by
 have e:=(zgo s pos).1 h0;have r:=Lib.run_next_any_at (P:=Tryz.prog) w k s pos ty hk h;rw [e] at r;exact r
theorem zfB(w:World)(k:Nat)(s:ByteArray)(pos:Nat)(hk:w.heap[k]?=some (.stringIter s pos))(h:pos<s.size)(h0:¬(chr s pos).1=0)(ty:TypeId):
  (Instr.next (.pointer (some ⟨k,0,none⟩)) true ty).run Tryz.prog w=.ok (.tuple #[.bool true,.int .i64 pos,.int .i32 (chr s pos).2]) (w.iterAt k s (pos+chrN s pos)):=by
 have e:=(zgo s pos).2 h0;have p:=zcW s pos h h0;have r:=Lib.run_next_any_at (P:=Tryz.prog) w k s pos ty hk h;rw [e] at r;have e2:(((chr s pos).2.toNat:Nat):Int)=(chr s pos).2:=by omega
 simp only [e2] at r;exact r
theorem zem(s:ByteArray)(w:World)(hs:s.size≤1048576):
  Calls Tryz.prog 147 #[.string s] w fun e w'=>e=.returned (.bool (za6 s))∧Below w.heap.size w w':=by
 have r:(w.iter s 0).heap[w.heap.size]?=some (.stringIter s 0):=World.iter_heap w s 0;have p:Below w.heap.size w (w.iter s 0):=(Below.refl _ w).alloc (Nat.le_refl _) _;go_enter Tryz.func147,Tryz.ntmps147;go_wp2
 go_loopw [3] (fun tc wr=>∃ a c:Nat,a≤s.size∧c≤a∧(c=0∧a=0∨1≤c∧1≤a)∧tc=.int .i64 (c:Int)∧wr.heap[w.heap.size]?=some (.stringIter s a)∧Below w.heap.size w wr∧za6 s=zde (zcJ s a c)) (fun _ wr=>s.size-wr.iterPos w.heap.size)
 case atStart=>exact⟨0,0,by omega,by omega,.inl ⟨rfl,rfl⟩,rfl,r,p,rfl⟩
 case round =>
  obtain⟨a,c,hp,hc,hcp,rfl,q,k,z⟩:=hrel;have HR:Hid (za6 s=zde (zcJ s a c)):=z;clear z r p;have t:wr.iterPos w.heap.size=a:=by simp [World.iterPos,q]
  have HMU:Hid (wr.iterPos w.heap.size=a):=t;clear t;by_cases b:a<s.size
  ·by_cases m:(chr s a).1=0
   ·have d:=zku wr w.heap.size s a q b m;have f:=Lib.below_iterAt k (Nat.le_refl _) s (a+1);have i:Hid (false=za6 s):=by unfold Hid;rw [HR.out,zqd s a c b m];rfl
    have g:zj3 65533=false:=by decide
    generalize wr.iterAt w.heap.size s (a+1)=W1 at d f;go_wp2_with(first|(go_at_call 162;refine(zcf _ _).mono ?_;rintro e w' ⟨rfl,rfl⟩)|(go_at_call 163;refine(zbq _ _).mono ?_;rintro e w' ⟨rfl,rfl⟩))
    go_ret;exact⟨zcH i.out,f⟩
   ·have d:=zfB wr w.heap.size s a q b m;have f:=Lib.below_iterAt k (Nat.le_refl _) s (a+chrN s a);have j:=Lib.iterAt_heap wr w.heap.size s a (a+chrN s a) q;have x:=zcW s a b m;generalize wr.iterAt w.heap.size s (a+chrN s a)=W1 at d f j;have n:W1.iterPos w.heap.size=a+chrN s a:=by simp [World.iterPos,j]
    have l:Hid (W1.iterPos w.heap.size=a+chrN s a):=n;obtain⟨v,hp2,hp3,hp4,hp5,hp6⟩:=x;clear n v;cases g:zj3 (chr s a).2 with
    | false =>
     have i:Hid (false=za6 s):=by
      unfold Hid;rw [HR.out,zjC s a c b m (by intro u;simp [zj3] at g;simp [g.1,g.2] at u)];rfl
     go_wp2_with(first|(go_at_call 162;refine(zcf _ _).mono ?_;rintro e w' ⟨rfl,rfl⟩)|(go_at_call 163;refine(zbq _ _).mono ?_;rintro e w' ⟨rfl,rfl⟩))
     go_ret;exact⟨zcH i.out,f⟩
    | true =>
     by_cases hc0:1≤c
     ·have A:((c:Int) == 0)=false:=by simp;omega
      have i:Hid (za6 s=zde (zcJ s (a+chrN s a) (c+1))):=by
       unfold Hid;rw [HR.out,zff s a c b m (by simp [zj3] at g;rcases g with h|h;exact .inl h;exact .inr ⟨h,by omega⟩)]
      go_wp2_with(first|(go_at_call 162;refine(zcf _ _).mono ?_;rintro e w' ⟨rfl,rfl⟩)|(go_at_call 163;refine(zbq _ _).mono ?_;rintro e w' ⟨rfl,rfl⟩))
      go_roundw
      case rel=>exact⟨a+chrN s a,c+1,by omega,by omega,.inr ⟨by omega,by omega⟩,by go_num,j,f,i.out⟩
      case measure=>rw [HMU.out,l.out];omega
     ·have A:((c:Int) == 0)=true:=by simp;omega
      have o:Hid (a=0):=by unfold Hid;omega
      cases hd:zbe (chr s a).2 with
      | true =>
       have i:Hid (false=za6 s):=by
        unfold Hid;rw [HR.out,zjC s a c b m (by
         intro u;rcases u with h|⟨_,h⟩
         ·simp [zcT] at h;simp [zbe] at hd;omega
         ·exact h o.out)];rfl
       go_wp2_with(first|(go_at_call 162;refine(zcf _ _).mono ?_;rintro e w' ⟨rfl,rfl⟩)|(go_at_call 163;refine(zbq _ _).mono ?_;rintro e w' ⟨rfl,rfl⟩))
       go_ret;exact⟨zcH i.out,f⟩
      | false =>
       have i:Hid (za6 s=zde (zcJ s (a+chrN s a) (c+1))):=by
        unfold Hid;rw [HR.out,zff s a c b m (by simp [zj3,hd] at g;exact .inl g)]
       go_wp2_with(first|(go_at_call 162;refine(zcf _ _).mono ?_;rintro e w' ⟨rfl,rfl⟩)|(go_at_call 163;refine(zbq _ _).mono ?_;rintro e w' ⟨rfl,rfl⟩))
       go_roundw
       case rel=>exact⟨a+chrN s a,c+1,by omega,by omega,.inr ⟨by omega,by omega⟩,by go_num,j,f,i.out⟩
       case measure=>rw [HMU.out,l.out];omega
  ·have d:∀ ty,(Instr.next (.pointer (some ⟨w.heap.size,0,none⟩)) true ty).run Tryz.prog wr=.ok (.tuple #[.bool false]) wr:=fun ty=>Lib.run_next_end_at wr w.heap.size s a ty q b;have HF:Hid (za6 s=zde (some c)):=by unfold Hid;rw [HR.out,zjB s a c b]
   by_cases y:1≤c
   ·go_wp2;go_ret;exact⟨zcH (by rw [HF.out];exact zno c y),k⟩
   ·go_wp2;go_ret;exact⟨zcH (by rw [HF.out];exact zqe c y),k⟩
abbrev zak(e l:Int):Ending:=.panicked [{ v:=.iface 115 (.agg #[.int .i64 e,.int .i64 l]),recovered:=false }]
theorem zay(e l:Int)(w:World):Calls Tryz.prog 79 #[.int .i64 e,.int .i64 l] w fun en w'=>en=zak e l∧w'=w:=by
 go_enter Tryz.func79,Tryz.ntmps79;go_wp2;exact⟨rfl,rfl,rfl⟩
theorem zej{k:IntKind}{a c:Int}{b d:Bool}(h:a=c)(h':b=d):Ending.returned (.tuple #[.int k a,.bool b])=.returned (.tuple #[.int k c,.bool d]):=by rw [h,h']
def zeU(s:ByteArray):Bool:=decide (0≤reg s)
def zap(s:ByteArray):Int:=if 0≤reg s then reg s else 0
theorem zkt(s:ByteArray)(w:World)(_hs:s.size≤maxLen):
  Calls Tryz.prog 165 #[.string s] w fun e w'=>e=.returned (.tuple #[.int .i64 (zap s),.bool (zeU s)])∧w'=w:=by
 unfold maxLen at _hs;have i:¬(s.size=2∧bt s 0=114∧48≤bt s 1∧bt s 1≤55)→(0:Int)=zap s∧false=zeU s:=by
  intro h;have e:=zzJ s h;unfold zap zeU;rw [←e];simp
 have c:(h:s.size=2)→(d:bt s 0=114)→(f:48≤bt s 1)→(g:bt s 1≤55)→bt s 1-48=zap s∧true=zeU s:=by
  intro h d f g;have e:=zyj s h d f g;unfold zap zeU;rw [←e,if_pos (by omega)];simp;omega
 have l:=Hid.out (p:=¬(s.size=2∧bt s 0=114∧48≤bt s 1∧bt s 1≤55)→(0:Int)=zap s∧false=zeU s) i;have a:Hid (¬(s.size=2∧bt s 0=114∧48≤bt s 1∧bt s 1≤55)→(0:Int)=zap s∧false=zeU s):=i;have b:Hid ((h:s.size=2)→(d:bt s 0=114)→(f:48≤bt s 1)→(g:bt s 1≤55)→bt s 1-48=zap s∧true=zeU s):=c;clear i c l;by_cases h:s.size=2
 ·have j:Hid (((s[0]'(by omega)).toNat:Int)=bt s 0):=zzH s 0 (by omega);have k:Hid (((s[1]'(by omega)).toNat:Int)=bt s 1):=zzH s 1 (by omega);have b0:0≤((s[1]'(by omega)).toNat:Int):=by omega
  have b1:((s[1]'(by omega)).toNat:Int)≤255:=by have:=(s[1]'(by omega)).toNat_lt;omega
  go_enter Tryz.func165,Tryz.ntmps165;go_wp2
  go_ways
  all_goals go_ret2
  all_goals have e0:=j.out
  all_goals have m:=k.out
  all_goals first
   | (have q:=a.out (by omega);exact⟨zej q.1 q.2,rfl⟩)
   | (have q:=b.out h (by omega) (by omega) (by omega);exact⟨zej (by rw [←q.1,←m]) q.2,rfl⟩)
 ·go_enter Tryz.func165,Tryz.ntmps165;go_wp2;go_ret2;have q:=a.out (by omega);exact⟨zej q.1 q.2,rfl⟩
structure LibW(w:World):Prop where
 tabs:Lib.Utf8Tabs 1 2 w
 most:∃ m,w.cell? ⟨0,0,none⟩=some (.int .i64 m)
 syn:∃ tp p,w.var? Tryz.prog "strconv.ErrSyntax" = some #[.iface tp p]
 rng:∃ tp p,w.var? Tryz.prog "strconv.ErrRange" = some #[.iface tp p]
 low:8≤w.heap.size
theorem zeA(s:ByteArray)(pos:Nat)(w:World)(hw:Lib.Utf8Tabs 1 2 w)(hp:pos<s.size):
  Calls Tryz.prog 126 #[.string (s.extract pos s.size)] w fun e w'=>e=.returned (.bool (((Utf8.decode s pos).2:Int) == 1))∧Below w.heap.size w w':=by
 have hd:Lib.decodeGo (s.extract pos s.size)=Utf8.decode s pos:=by
  unfold Lib.decodeGo;rw [if_neg (by rw [ByteArray.size_extract];omega)];exact Lib.tail_decode s pos 0
 have b:=Tryz.utf8_DecodeRuneInString (s.extract pos s.size) w hw;rw [hd] at b;have c:(Utf8.decode s pos).2≤4:=by
  by_cases a:(chr s pos).1=0
  ·rw [(zgo s pos).1 a];decide
  ·rw [(zgo s pos).2 a];have:=zcW s pos hp a;show(chr s pos).1.toNat≤4;omega
 generalize Utf8.decode s pos=d at b c;go_enter Tryz.func126,Tryz.ntmps126;go_wp2_with(go_at_call 146;refine b.mono ?_;rintro e w' ⟨rfl,f⟩)
 go_ret;exact⟨rfl,f⟩
def zbf(k:UInt8):Int:=if k=82 then 0 else if k=75 then 1 else 2
def zb4(w:World)(sh:List UInt8):Ending→World→Prop:=fun e w' =>
 (sh=[63]∧e=.returned (.tuple #[.slice none 0 0,.bool false])∧w=w')∨(sh=[]∧e=.returned (.tuple #[.slice none 0 0,.bool true])∧w=w') ∨
 (¬sh=[63]∧¬sh=[]∧e=.returned (.tuple #[.slice (some ⟨w.heap.size,0,none⟩) sh.length sh.length,.bool true])∧w'=w.alloc (.cells (sh.map (fun k=>Value.int .i64 (zbf k))).toArray 225))
theorem zvE(w:World):Calls Tryz.prog 149 #[.string ⟨#[115,101,116]⟩] w (zb4 w [82,75]):=by
 go_enter Tryz.func149,Tryz.ntmps149;go_wp2;go_ret2;exact .inr (.inr ⟨by decide,by decide,rfl,rfl⟩)
theorem zvF(w:World):Calls Tryz.prog 149 #[.string ⟨#[105,110,99]⟩] w (zb4 w [82,75]):=by
 go_enter Tryz.func149,Tryz.ntmps149;go_wp2;go_ret2;exact .inr (.inr ⟨by decide,by decide,rfl,rfl⟩)
theorem zvG(w:World):Calls Tryz.prog 149 #[.string ⟨#[109,111,118]⟩] w (zb4 w [82,82]):=by
 go_enter Tryz.func149,Tryz.ntmps149;go_wp2;go_ret2;exact .inr (.inr ⟨by decide,by decide,rfl,rfl⟩)
theorem zs0(w:World):Calls Tryz.prog 149 #[.string ⟨#[108,111,97,100]⟩] w (zb4 w [82,82]):=by
 go_enter Tryz.func149,Tryz.ntmps149;go_wp2;go_ret2;exact .inr (.inr ⟨by decide,by decide,rfl,rfl⟩)
theorem zqg(w:World):Calls Tryz.prog 149 #[.string ⟨#[115,116,111,114,101]⟩] w (zb4 w [82,82]):=by
 go_enter Tryz.func149,Tryz.ntmps149;go_wp2;go_ret2;exact .inr (.inr ⟨by decide,by decide,rfl,rfl⟩)
theorem zvH(w:World):Calls Tryz.prog 149 #[.string ⟨#[97,100,100]⟩] w (zb4 w [82,82,82]):=by
 go_enter Tryz.func149,Tryz.ntmps149;go_wp2;go_ret2;exact .inr (.inr ⟨by decide,by decide,rfl,rfl⟩)
theorem zvI(w:World):Calls Tryz.prog 149 #[.string ⟨#[115,117,98]⟩] w (zb4 w [82,82,82]):=by
 go_enter Tryz.func149,Tryz.ntmps149;go_wp2;go_ret2;exact .inr (.inr ⟨by decide,by decide,rfl,rfl⟩)
theorem zvJ(w:World):Calls Tryz.prog 149 #[.string ⟨#[109,117,108]⟩] w (zb4 w [82,82,82]):=by
 go_enter Tryz.func149,Tryz.ntmps149;go_wp2;go_ret2;exact .inr (.inr ⟨by decide,by decide,rfl,rfl⟩)
theorem zs1(w:World):Calls Tryz.prog 149 #[.string ⟨#[114,101,97,100]⟩] w (zb4 w [82]):=by
 go_enter Tryz.func149,Tryz.ntmps149;go_wp2;go_ret2;exact .inr (.inr ⟨by decide,by decide,rfl,rfl⟩)
theorem zqh(w:World):Calls Tryz.prog 149 #[.string ⟨#[119,114,105,116,101]⟩] w (zb4 w [82]):=by
 go_enter Tryz.func149,Tryz.ntmps149;go_wp2;go_ret2;exact .inr (.inr ⟨by decide,by decide,rfl,rfl⟩)
theorem zs2(w:World):Calls Tryz.prog 149 #[.string ⟨#[106,117,109,112]⟩] w (zb4 w [78]):=by
 go_enter Tryz.func149,Tryz.ntmps149;go_wp2;go_ret2;exact .inr (.inr ⟨by decide,by decide,rfl,rfl⟩)
theorem zs3(w:World):Calls Tryz.prog 149 #[.string ⟨#[99,97,108,108]⟩] w (zb4 w [78]):=by
 go_enter Tryz.func149,Tryz.ntmps149;go_wp2;go_ret2;exact .inr (.inr ⟨by decide,by decide,rfl,rfl⟩)
theorem zs4(w:World):Calls Tryz.prog 149 #[.string ⟨#[108,101,115,115]⟩] w (zb4 w [82,82,78]):=by
 go_enter Tryz.func149,Tryz.ntmps149;go_wp2;go_ret2;exact .inr (.inr ⟨by decide,by decide,rfl,rfl⟩)
theorem zs5(w:World):Calls Tryz.prog 149 #[.string ⟨#[115,97,109,101]⟩] w (zb4 w [82,82,78]):=by
 go_enter Tryz.func149,Tryz.ntmps149;go_wp2;go_ret2;exact .inr (.inr ⟨by decide,by decide,rfl,rfl⟩)
theorem zs6(w:World):Calls Tryz.prog 149 #[.string ⟨#[98,97,99,107]⟩] w (zb4 w []):=by
 go_enter Tryz.func149,Tryz.ntmps149;go_wp2;go_ret2;exact .inr (.inl ⟨rfl,rfl,rfl⟩)
theorem zs7(w:World):Calls Tryz.prog 149 #[.string ⟨#[115,116,111,112]⟩] w (zb4 w []):=by
 go_enter Tryz.func149,Tryz.ntmps149;go_wp2;go_ret2;exact .inr (.inl ⟨rfl,rfl,rfl⟩)
theorem zs8(s:ByteArray)(w:World)(h0:(s.toList == [115,101,116])=false)(h1:(s.toList == [105,110,99])=false)(h2:(s.toList == [109,111,118])=false)(h3:(s.toList == [108,111,97,100])=false)(h4:(s.toList == [115,116,111,114,101])=false)(h5:(s.toList == [97,100,100])=false)(h6:(s.toList == [115,117,98])=false)(h7:(s.toList == [109,117,108])=false)(h8:(s.toList == [114,101,97,100])=false)(h9:(s.toList == [119,114,105,116,101])=false)(h10:(s.toList == [106,117,109,112])=false)(h11:(s.toList == [99,97,108,108])=false)(h12:(s.toList == [108,101,115,115])=false)(h13:(s.toList == [115,97,109,101])=false)(h14:(s.toList == [98,97,99,107])=false)(h15:(s.toList == [115,116,111,112])=false):
  Calls Tryz.prog 149 #[.string s] w (zb4 w [63]):=by
 go_enter Tryz.func149,Tryz.ntmps149;go_wp2;go_ret2;exact .inl ⟨rfl,rfl,rfl⟩
theorem zpd(s:ByteArray)(h0:(s.toList == [115,101,116])=false)(h1:(s.toList == [105,110,99])=false)(h2:(s.toList == [109,111,118])=false)(h3:(s.toList == [108,111,97,100])=false)(h4:(s.toList == [115,116,111,114,101])=false)(h5:(s.toList == [97,100,100])=false)(h6:(s.toList == [115,117,98])=false)(h7:(s.toList == [109,117,108])=false)(h8:(s.toList == [114,101,97,100])=false)(h9:(s.toList == [119,114,105,116,101])=false)(h10:(s.toList == [106,117,109,112])=false)(h11:(s.toList == [99,97,108,108])=false)(h12:(s.toList == [108,101,115,115])=false)(h13:(s.toList == [115,97,109,101])=false)(h14:(s.toList == [98,97,99,107])=false)(h15:(s.toList == [115,116,111,112])=false):zaa s=[63]:=by
 simp only [zaa,isW,h0,h1,h2,h3,h4,h5,h6,h7,h8,h9,h10,h11,h12,h13,h14,h15];simp
theorem zhP:zaa ⟨#[115,101,116]⟩=[82,75]:=by kernel_rfl
theorem zhQ:zaa ⟨#[105,110,99]⟩=[82,75]:=by kernel_rfl
theorem zhR:zaa ⟨#[109,111,118]⟩=[82,82]:=by kernel_rfl
theorem zgU:zaa ⟨#[108,111,97,100]⟩=[82,82]:=by kernel_rfl
theorem zfC:zaa ⟨#[115,116,111,114,101]⟩=[82,82]:=by kernel_rfl
theorem zhS:zaa ⟨#[97,100,100]⟩=[82,82,82]:=by kernel_rfl
theorem zhT:zaa ⟨#[115,117,98]⟩=[82,82,82]:=by kernel_rfl
theorem zhU:zaa ⟨#[109,117,108]⟩=[82,82,82]:=by kernel_rfl
theorem zgV:zaa ⟨#[114,101,97,100]⟩=[82]:=by kernel_rfl
theorem zfD:zaa ⟨#[119,114,105,116,101]⟩=[82]:=by kernel_rfl
theorem zgW:zaa ⟨#[106,117,109,112]⟩=[78]:=by kernel_rfl
theorem zgX:zaa ⟨#[99,97,108,108]⟩=[78]:=by kernel_rfl
theorem zgY:zaa ⟨#[108,101,115,115]⟩=[82,82,78]:=by kernel_rfl
theorem zgZ:zaa ⟨#[115,97,109,101]⟩=[82,82,78]:=by kernel_rfl
theorem zha:zaa ⟨#[98,97,99,107]⟩=[]:=by kernel_rfl
theorem zhb:zaa ⟨#[115,116,111,112]⟩=[]:=by kernel_rfl
theorem zvK(s:ByteArray)(w:World):Calls Tryz.prog 149 #[.string s] w (zb4 w (zaa s)):=by
 cases h0:(s.toList == [115,101,116]) with
 | true=>rw [zaB s _ h0,zhP];exact zvE w
 | false =>
 cases h1:(s.toList == [105,110,99]) with
 | true=>rw [zaB s _ h1,zhQ];exact zvF w
 | false =>
 cases h2:(s.toList == [109,111,118]) with
 | true=>rw [zaB s _ h2,zhR];exact zvG w
 | false =>
 cases h3:(s.toList == [108,111,97,100]) with
 | true=>rw [zaB s _ h3,zgU];exact zs0 w
 | false =>
 cases h4:(s.toList == [115,116,111,114,101]) with
 | true=>rw [zaB s _ h4,zfC];exact zqg w
 | false =>
 cases h5:(s.toList == [97,100,100]) with
 | true=>rw [zaB s _ h5,zhS];exact zvH w
 | false =>
 cases h6:(s.toList == [115,117,98]) with
 | true=>rw [zaB s _ h6,zhT];exact zvI w
 | false =>
 cases h7:(s.toList == [109,117,108]) with
 | true=>rw [zaB s _ h7,zhU];exact zvJ w
 | false =>
 cases h8:(s.toList == [114,101,97,100]) with
 | true=>rw [zaB s _ h8,zgV];exact zs1 w
 | false =>
 cases h9:(s.toList == [119,114,105,116,101]) with
 | true=>rw [zaB s _ h9,zfD];exact zqh w
 | false =>
 cases h10:(s.toList == [106,117,109,112]) with
 | true=>rw [zaB s _ h10,zgW];exact zs2 w
 | false =>
 cases h11:(s.toList == [99,97,108,108]) with
 | true=>rw [zaB s _ h11,zgX];exact zs3 w
 | false =>
 cases h12:(s.toList == [108,101,115,115]) with
 | true=>rw [zaB s _ h12,zgY];exact zs4 w
 | false =>
 cases h13:(s.toList == [115,97,109,101]) with
 | true=>rw [zaB s _ h13,zgZ];exact zs5 w
 | false =>
 cases h14:(s.toList == [98,97,99,107]) with
 | true=>rw [zaB s _ h14,zha];exact zs6 w
 | false =>
 cases h15:(s.toList == [115,116,111,112]) with
 | true=>rw [zaB s _ h15,zhb];exact zs7 w
 | false =>
 rw [zpd s h0 h1 h2 h3 h4 h5 h6 h7 h8 h9 h10 h11 h12 h13 h14 h15];exact zs8 s w h0 h1 h2 h3 h4 h5 h6 h7 h8 h9 h10 h11 h12 h13 h14 h15
structure Back8(W:World)(b:Nat):Prop where
 f0:∀ x0,(W.setCell ⟨b,0,none⟩ x0).cell? ⟨b,0,none⟩=some x0
 f1:∀ x0 x1,((W.setCell ⟨b,0,none⟩ x0).setCell ⟨b,1,none⟩ x1).cell? ⟨b,1,none⟩=some x1
 f2:∀ x0 x1 x2,(((W.setCell ⟨b,0,none⟩ x0).setCell ⟨b,1,none⟩ x1).setCell ⟨b,2,none⟩ x2).cell? ⟨b,2,none⟩=some x2
 f3:∀ x0 x1 x2 x3,((((W.setCell ⟨b,0,none⟩ x0).setCell ⟨b,1,none⟩ x1).setCell ⟨b,2,none⟩ x2).setCell ⟨b,3,none⟩ x3).cell? ⟨b,3,none⟩=some x3
 f4:∀ x0 x1 x2 x3 x4,(((((W.setCell ⟨b,0,none⟩ x0).setCell ⟨b,1,none⟩ x1).setCell ⟨b,2,none⟩ x2).setCell ⟨b,3,none⟩ x3).setCell ⟨b,4,none⟩ x4).cell? ⟨b,4,none⟩=some x4
 f5:∀ x0 x1 x2 x3 x4 x5,((((((W.setCell ⟨b,0,none⟩ x0).setCell ⟨b,1,none⟩ x1).setCell ⟨b,2,none⟩ x2).setCell ⟨b,3,none⟩ x3).setCell ⟨b,4,none⟩ x4).setCell ⟨b,5,none⟩ x5).cell? ⟨b,5,none⟩=some x5
 f6:∀ x0 x1 x2 x3 x4 x5 x6,(((((((W.setCell ⟨b,0,none⟩ x0).setCell ⟨b,1,none⟩ x1).setCell ⟨b,2,none⟩ x2).setCell ⟨b,3,none⟩ x3).setCell ⟨b,4,none⟩ x4).setCell ⟨b,5,none⟩ x5).setCell ⟨b,6,none⟩ x6).cell? ⟨b,6,none⟩=some x6
 f7:∀ x0 x1 x2 x3 x4 x5 x6 x7,((((((((W.setCell ⟨b,0,none⟩ x0).setCell ⟨b,1,none⟩ x1).setCell ⟨b,2,none⟩ x2).setCell ⟨b,3,none⟩ x3).setCell ⟨b,4,none⟩ x4).setCell ⟨b,5,none⟩ x5).setCell ⟨b,6,none⟩ x6).setCell ⟨b,7,none⟩ x7).cell? ⟨b,7,none⟩=some x7
theorem zqi{W:World}{b:Nat}(h:∀ k,k<8→∃ x,W.cell? ⟨b,k,none⟩=some x):Back8 W b:=by
 constructor
 ·intro c;obtain⟨y,a⟩:=h 0 (by omega);refine World.cell?_setCell_same (u:=y) _ _ _ ?_;exact a
 ·intro c d;obtain⟨y,a⟩:=h 1 (by omega);refine World.cell?_setCell_same (u:=y) _ _ _ ?_;rw [World.cell?_setCell_other]
  ·exact a
  all_goals simp
 ·intro c d e;obtain⟨y,a⟩:=h 2 (by omega);refine World.cell?_setCell_same (u:=y) _ _ _ ?_;rw [World.cell?_setCell_other];rw [World.cell?_setCell_other]
  ·exact a
  all_goals simp
 ·intro c d e f;obtain⟨y,a⟩:=h 3 (by omega);refine World.cell?_setCell_same (u:=y) _ _ _ ?_;rw [World.cell?_setCell_other];rw [World.cell?_setCell_other];rw [World.cell?_setCell_other]
  ·exact a
  all_goals simp
 ·intro c d e f g;obtain⟨y,a⟩:=h 4 (by omega);refine World.cell?_setCell_same (u:=y) _ _ _ ?_;rw [World.cell?_setCell_other];rw [World.cell?_setCell_other];rw [World.cell?_setCell_other];rw [World.cell?_setCell_other]
  ·exact a
  all_goals simp
 ·intro c d e f g i;obtain⟨y,a⟩:=h 5 (by omega);refine World.cell?_setCell_same (u:=y) _ _ _ ?_;rw [World.cell?_setCell_other];rw [World.cell?_setCell_other];rw [World.cell?_setCell_other];rw [World.cell?_setCell_other];rw [World.cell?_setCell_other]
  ·exact a
  all_goals simp
 ·intro c d e f g i j;obtain⟨y,a⟩:=h 6 (by omega);refine World.cell?_setCell_same (u:=y) _ _ _ ?_;rw [World.cell?_setCell_other];rw [World.cell?_setCell_other];rw [World.cell?_setCell_other];rw [World.cell?_setCell_other];rw [World.cell?_setCell_other];rw [World.cell?_setCell_other]
  ·exact a
  all_goals simp
 ·intro c d e f g i j x7;obtain⟨y,a⟩:=h 7 (by omega);refine World.cell?_setCell_same (u:=y) _ _ _ ?_;rw [World.cell?_setCell_other];rw [World.cell?_setCell_other];rw [World.cell?_setCell_other];rw [World.cell?_setCell_other];rw [World.cell?_setCell_other];rw [World.cell?_setCell_other];rw [World.cell?_setCell_other]
  ·exact a
  all_goals simp
theorem new8{w w1:World}{c:Array Value}{ty:TypeId}(hc:c.size=8)(hb:Below (w.alloc (.cells c ty)).heap.size (w.alloc (.cells c ty)) w1):∀ k,k<8→∃ x,w1.cell? ⟨w.heap.size,k,none⟩=some x:=by
 intro k hk;rw [hb.cell (p:=⟨w.heap.size,k,none⟩) (by simp)];exact⟨c[k]'(by omega),(World.cell?_alloc_new (w:=w) c ty k).trans (Array.getElem?_eq_getElem (by omega))⟩
theorem zjG{B b:Nat}{a w:World}(h:Below B a w)(hb:B≤b)(x0 x1 x2 x3 x4 x5 x6 x7:Value):Below B a ((((((((w.setCell ⟨b,0,none⟩ x0).setCell ⟨b,1,none⟩ x1).setCell ⟨b,2,none⟩ x2).setCell ⟨b,3,none⟩ x3).setCell ⟨b,4,none⟩ x4).setCell ⟨b,5,none⟩ x5).setCell ⟨b,6,none⟩ x6).setCell ⟨b,7,none⟩ x7) :=
 (((((((h.setCell hb _).setCell hb _).setCell hb _).setCell hb _).setCell hb _).setCell hb _).setCell hb _).setCell hb _
abbrev stm(sort line:Int)(word:ByteArray)(a b c n:Int)(nm:ByteArray):Value:=.agg #[.int .i64 sort,.int .i64 line,.string word,.int .i64 a,.int .i64 b,.int .i64 c,.int .i64 n,.string nm]
def WordsIn(w:World)(g:Nat)(l:List ByteArray):Prop:=∀ j (hj:j<l.length),w.cell? ⟨g,j,none⟩=some (.string l[j])
theorem zqj(w:World)(g cap:Nat)(l:List ByteArray)(line:Int)(hl:WordsIn w g l)(hsz:∀ x∈l,x.size≤1048576)(hn:l.length≤1048577)(h:¬(l.length=2∧za6 (l.getLast?.getD ByteArray.empty)=true)):
  Calls Tryz.prog 127 #[.slice (some ⟨g,0,none⟩) l.length cap,.int .i64 line] w fun e w'=>e=zak 1 line∧Below w.heap.size w w':=by
 by_cases b:l.length=2
 ·match l,b with
  | [x,y],_ =>
   have f:=hsz y (by simp);have hnm:za6 y=false:=by simpa using h
   have c:=hl 1 (by simp);simp only [List.getElem_cons_succ,List.getElem_cons_zero] at c;have hlt:g<w.heap.size:=by
    have:=World.block_lt_of_cell? w _ c;simpa using this
   go_enter Tryz.func127,Tryz.ntmps127;go_wp2_with(first|(go_at_call 147;refine(zem y _ f).mono ?_;rintro e w1 ⟨rfl,d⟩)|(go_at_call 79;refine(zay _ _ _).mono ?_;rintro e i ⟨rfl,a⟩;have b:=a.symm;subst b))
   exact⟨rfl,rfl,((Below.refl _ _).alloc (Nat.le_refl _) _).trans (d.mono (by simp))⟩
 ·have hne:((l.length:Int) != 2)=true:=by simp;omega
  go_enter Tryz.func127,Tryz.ntmps127;go_wp2_with(first|(go_at_call 79;refine(zay _ _ _).mono ?_;rintro e i ⟨rfl,a⟩;have b:=a.symm;subst b))
  exact⟨rfl,rfl,(Below.refl _ _).alloc (Nat.le_refl _) _⟩
theorem zns(w:World)(g cap:Nat)(x y:ByteArray)(line:Int)(hl:WordsIn w g [x,y])(hy:y.size≤1048576)(hnm:za6 y=true):
  Calls Tryz.prog 127 #[.slice (some ⟨g,0,none⟩) 2 cap,.int .i64 line] w fun e w'=>e=.returned (stm 0 line ⟨#[]⟩ 0 0 0 0 y)∧Below w.heap.size w w':=by
 have a:=hl 1 (by simp);simp only [List.getElem_cons_succ,List.getElem_cons_zero] at a;have hlt:g<w.heap.size:=by
  have:=World.block_lt_of_cell? w _ a;simpa using this
 have hne:¬w.heap.size=g:=by omega
 go_enter Tryz.func127,Tryz.ntmps127;go_wp2_with(first|(go_at_call 147;refine(zem y _ hy).mono ?_;rintro e w1 ⟨rfl,b⟩;obtain⟨hc,hf⟩:=zhL b))
 obtain⟨c,d,f,h,i,j,k,l⟩:=zqi (new8 rfl b);refine bodyPost_ret (v:=stm 0 line ⟨#[]⟩ 0 0 0 0 y) (by simp [results,Tryz.results127,go_sem,c,d,f,h,i,j,k,l]) rfl ⟨rfl,?_⟩;exact zjG (((Below.refl _ _).alloc (Nat.le_refl _) _).trans (b.mono (by simp))) (Nat.le_refl _) _ _ _ _ _ _ _ _
theorem zqk(w:World)(ao:Option Addr)(n cap:Nat)(x:ByteArray)(line:Int)(hx:x.size≤1048576)(hn:n≤1048577)(h:¬(n=1∧za6 x=true)):
  Calls Tryz.prog 129 #[.string x,.slice ao n cap,.int .i64 line] w fun e w'=>e=zak 1 line∧Below w.heap.size w w':=by
 by_cases b:n=1
 ·have hnm:za6 x=false:=by simpa [b] using h
  subst b;go_enter Tryz.func129,Tryz.ntmps129;go_wp2_with(first|(go_at_call 147;refine(zem x _ hx).mono ?_;rintro e w1 ⟨rfl,c⟩)|(go_at_call 79;refine(zay _ _ _).mono ?_;rintro e d ⟨rfl,a⟩;have b:=a.symm;subst b))
  exact⟨rfl,rfl,((Below.refl _ _).alloc (Nat.le_refl _) _).trans (c.mono (by simp))⟩
 ·have hne:((n:Int) != 1)=true:=by simp;omega
  go_enter Tryz.func129,Tryz.ntmps129;go_wp2_with(first|(go_at_call 79;refine(zay _ _ _).mono ?_;rintro e d ⟨rfl,a⟩;have b:=a.symm;subst b))
  exact⟨rfl,rfl,(Below.refl _ _).alloc (Nat.le_refl _) _⟩
theorem znt(w:World)(ao:Option Addr)(cap:Nat)(x:ByteArray)(line:Int)(hx:x.size≤1048576)(hnm:za6 x=true):
  Calls Tryz.prog 129 #[.string x,.slice ao 1 cap,.int .i64 line] w fun e w'=>e=.returned (stm 1 line ⟨#[]⟩ 0 0 0 0 x)∧Below w.heap.size w w':=by
 go_enter Tryz.func129,Tryz.ntmps129;go_wp2_with(first|(go_at_call 147;refine(zem x _ hx).mono ?_;rintro e w1 ⟨rfl,a⟩;obtain⟨hc,hf⟩:=zhL a))
 obtain⟨b,c,d,f,g,h,i,j⟩:=zqi (new8 rfl a);refine bodyPost_ret (v:=stm 1 line ⟨#[]⟩ 0 0 0 0 x) (by simp [results,Tryz.results129,go_sem,b,c,d,f,g,h,i,j]) rfl ⟨rfl,?_⟩;exact zjG (((Below.refl _ _).alloc (Nat.le_refl _) _).trans (a.mono (by simp))) (Nat.le_refl _) _ _ _ _ _ _ _ _
structure StmAt(w:World)(q:Nat)(line:Int)(word nm:ByteArray)(r0 r1 r2 n:Int):Prop where
 c0:w.cell? ⟨q,0,none⟩=some (.int .i64 2)
 c1:w.cell? ⟨q,1,none⟩=some (.int .i64 line)
 c2:w.cell? ⟨q,2,none⟩=some (.string word)
 c3:w.cell? ⟨q,3,none⟩=some (.int .i64 r0)
 c4:w.cell? ⟨q,4,none⟩=some (.int .i64 r1)
 c5:w.cell? ⟨q,5,none⟩=some (.int .i64 r2)
 c6:w.cell? ⟨q,6,none⟩=some (.int .i64 n)
 c7:w.cell? ⟨q,7,none⟩=some (.string nm)
 fz:∀ o,w.frozen? ⟨q,o,none⟩=false
theorem zsy(l:List UInt8):Lib.trimPrefix l [45]=bare l:=by
 unfold Lib.trimPrefix Lib.hasPrefix bare
 match l with
 | []=>rfl
 | c :: r =>
  by_cases h:c=45
  ·subst h;simp [List.isPrefixOf]
  ·have:(45 == c)=false:=by simpa using fun e=>h e.symm
   simp [List.isPrefixOf,this];split
   ·rename_i heq;simp at heq;exact absurd heq.1 h
   ·rfl
theorem zvB(l:List UInt8):(bare l).length≤l.length:=by
 unfold bare;split <;> simp
theorem znr(s:ByteArray)(i:Nat)(h:bt s i<128):chr s i=(1,bt s i):=by unfold chr;rw [if_pos h]
theorem zvC(s:ByteArray)(i:Nat)(h:¬bt s i<128)(h0:¬(chr s i).1=0):128≤(chr s i).2:=by
 unfold chr at h0 ⊢;rw [if_neg h] at h0 ⊢;split at h0
 ·rename_i hc;rw [if_pos hc];rcases zbA 2 128 (zd5 s (i+1) 1 (bt s i-192)) with h|⟨v,_,b,a,_⟩
  ·rw [h] at h0;exact absurd rfl h0
  ·rw [b];exact a
 ·rename_i hc;rw [if_neg hc];split at h0
  ·rename_i hd;rw [if_pos hd];rcases zbA 3 2048 (zd5 s (i+1) 2 (bt s i-224)) with h|⟨v,_,b,a,_⟩
   ·rw [h] at h0;exact absurd rfl h0
   ·rw [b];show 128≤v;omega
  ·rename_i hd;rw [if_neg hd];split at h0
   ·rename_i he;rw [if_pos he];rcases zbA 4 65536 (zd5 s (i+1) 3 (bt s i-240)) with h|⟨v,_,b,a,_⟩
    ·rw [h] at h0;exact absurd rfl h0
    ·rw [b];show 128≤v;omega
   ·exact absurd rfl h0
theorem zsz(t:ByteArray)(i:Nat)(h:i<t.size):zaQ (t.data.toList.drop i)=(zbe (bt t i)&&zaQ (t.data.toList.drop (i+1))):=by
 obtain⟨c,r,h1,a,b⟩:=zhO t i h;rw [h1,←b,←a];simp only [zaQ,zbe];congr 1;by_cases hc:48≤c.toNat∧c.toNat≤57
 ·have:(48:Int)≤c.toNat∧(c.toNat:Int)≤57:=by omega
  simp [hc,this]
 ·have:¬((48:Int)≤c.toNat∧(c.toNat:Int)≤57):=by omega
  simp only [hc,this]
def zcc(s:ByteArray):Int:=if(zb3 s).2=true then(zb3 s).1 else 0
theorem zvD(s:ByteArray)(w:World)(hw:LibW w)(hs:s.size≤1048576):
  Calls Tryz.prog 166 #[.string s] w fun e w'=>e=.returned (.tuple #[.int .i64 (zcc s),.bool (zb3 s).2])∧Below w.heap.size w w':=by
 have h:=Tryz.strings_TrimPrefix s ⟨#[45]⟩ w;rw [show(⟨#[45]⟩:ByteArray).data.toList=[45] from rfl,zsy] at h;have D:Hid (zaQ (bare s.data.toList)=false→(zb3 s).2=false):=zv9 s;have E:Hid (zaQ (bare s.data.toList)=true→(∀ v,Lib.parseIntB 64 s.data.toList=.ok v→zb3 s=(v,true))∧(Lib.parseIntB 64 s.data.toList=.«syntax»→(zb3 s).2=false)∧(Lib.parseIntB 64 s.data.toList=.range→(zb3 s).2=false)):=zvA s;have U:(bare s.data.toList).length≤s.size:=by have:=zvB s.data.toList;simpa using this
 obtain⟨t,ht⟩:∃ t:ByteArray,t=⟨(bare s.data.toList).toArray⟩:=⟨_,rfl⟩
 have z:t.data.toList=bare s.data.toList:=by rw [ht]
 have hts:t.size≤1048576:=by
  have:t.size=(bare s.data.toList).length:=by rw [←z];simp
  omega
 rw [←ht] at h;rw [←z] at D E;clear ht z U;obtain⟨V,p1,m⟩:=hw.syn;obtain⟨W,p2,l⟩:=hw.rng;have hlow:=hw.low;have J:(w.iter t 0).heap[w.heap.size]?=some (.stringIter t 0):=World.iter_heap w t 0;have G:Below w.heap.size w (w.iter t 0):=(Below.refl _ w).alloc (Nat.le_refl _) _;go_enter Tryz.func166,Tryz.ntmps166;go_wp2_with(go_at_call 174;refine h.mono ?_;rintro e B ⟨rfl,i⟩;have q:=i.symm;subst q)
 clear h
 go_loopw [5] (fun _ wr=>∃ a:Nat,a≤t.size∧wr.heap[w.heap.size]?=some (.stringIter t a)∧Below w.heap.size w wr∧zaQ t.data.toList=zaQ (t.data.toList.drop a)) (fun _ wr=>t.size-wr.iterPos w.heap.size)
 case atStart=>exact⟨0,by omega,J,G,rfl⟩
 case round =>
  obtain⟨a,hp,A,d,Y⟩:=hrel;have HR:Hid (zaQ t.data.toList=zaQ (t.data.toList.drop a)):=Y;clear Y J G;have HMU:Hid (wr.iterPos w.heap.size=a):=by unfold Hid;simp [World.iterPos,A]
  by_cases k:a<t.size
  ·have X:Hid (zaQ (t.data.toList.drop a)=(zbe (bt t a)&&zaQ (t.data.toList.drop (a+1)))):=zsz t a k;cases hd:zbe (bt t a) with
   | true =>
    have y:bt t a<128:=by simp [zbe] at hd;omega
    have Z:=znr t a y;have b:=zfB wr w.heap.size t a A k (by rw [Z];simp);have Q:chrN t a=1:=by unfold chrN;rw [Z];rfl
    rw [Q,Z] at b;simp only at b;have j:=Lib.below_iterAt d (Nat.le_refl _) t (a+1);have u:=Lib.iterAt_heap wr w.heap.size t a (a+1) A;generalize wr.iterAt w.heap.size t (a+1)=W1 at b j u;have C:Hid (W1.iterPos w.heap.size=a+1):=by unfold Hid;simp [World.iterPos,u]
    have HQ:Hid (zaQ t.data.toList=zaQ (t.data.toList.drop (a+1))):=by unfold Hid;rw [HR.out,X.out,hd];rfl
    have hbl:=zzI t a;clear Z Q;go_wp2_with(go_at_call 163;refine(zbq _ _).mono ?_;rintro e B ⟨rfl,i⟩;have q:=i.symm;subst q)
    go_roundw
    case rel=>exact⟨a+1,by omega,u,j,HQ.out⟩
    case measure=>rw [HMU.out,C.out];omega
   | false =>
    have P:Hid (zaQ t.data.toList=false):=by unfold Hid;rw [HR.out,X.out,hd];rfl
    have n:Hid ((0:Int)=zcc s∧false=(zb3 s).2):=by
     have:=D.out P.out;unfold Hid zcc;rw [this];simp
    by_cases O:(chr t a).1=0
    ·have b:=zku wr w.heap.size t a A k O;have j:=Lib.below_iterAt d (Nat.le_refl _) t (a+1);have S:zbe 65533=false:=by decide
     generalize wr.iterAt w.heap.size t (a+1)=W1 at b j;go_wp2_with(go_at_call 163;refine(zbq _ _).mono ?_;rintro e B ⟨rfl,i⟩;have q:=i.symm;subst q)
     go_ret2;exact⟨zej n.out.1 n.out.2,j⟩
    ·have S:zbe (chr t a).2=false:=by
      by_cases hl:bt t a<128
      ·rw [znr t a hl];exact hd
      ·have:=zvC t a hl O;simp [zbe];omega
     have b:=zfB wr w.heap.size t a A k O;have j:=Lib.below_iterAt d (Nat.le_refl _) t (a+chrN t a);have T:=zcW t a k O;obtain⟨_,_,_,_,hp5,hp6⟩:=T;generalize wr.iterAt w.heap.size t (a+chrN t a)=W1 at b j;go_wp2_with(go_at_call 163;refine(zbq _ _).mono ?_;rintro e B ⟨rfl,i⟩;have q:=i.symm;subst q)
     go_ret2;exact⟨zej n.out.1 n.out.2,j⟩
  ·have b:∀ ty,(Instr.next (.pointer (some ⟨w.heap.size,0,none⟩)) true ty).run Tryz.prog wr=.ok (.tuple #[.bool false]) wr:=fun ty=>Lib.run_next_end_at wr w.heap.size t a ty A k;have P:Hid (zaQ t.data.toList=true):=by unfold Hid;rw [HR.out,List.drop_of_length_le (by simpa using k)];rfl
   obtain⟨F,L,M⟩:=E.out P.out;have o:=Hid.out (p:=∀ v,Lib.parseIntB 64 s.data.toList=.ok v→zb3 s=(v,true)) F;have H:Tryz.prog.globalNamed "strconv.ErrSyntax" = some 3:=by kernel_rfl
   have I:Tryz.prog.globalNamed "strconv.ErrRange" = some 4:=by kernel_rfl
   have g:=var?_below d H (by omega) m;have f:=var?_below d I (by omega) l;clear H I;cases hpi:Lib.parseIntB 64 s.data.toList with
   | ok v =>
    have K:=F v hpi;have n:Hid (v=zcc s∧true=(zb3 s).2):=by unfold Hid zcc;rw [K];simp
    have c:=Tryz.strconv_ParseInt_10_at64_ok s (by omega) v hpi wr;clear K F L M o D E hpi m l g f;go_wp2_with(go_at_call 175;refine c.mono ?_;rintro e B ⟨rfl,i⟩)
    go_ret2;refine⟨zej n.out.1 n.out.2,?_⟩;rcases i with rfl|⟨x,rfl⟩
    ·exact d
    ·exact d.trans ((Lib.bytesWorld_below wr 5 x).mono d.size)
   | «syntax» =>
    have K:=L hpi;have n:Hid ((0:Int)=zcc s∧false=(zb3 s).2):=by unfold Hid zcc;rw [K];simp
    have c:=Tryz.strconv_ParseInt_10_at64_syntax_var s (by omega) hpi V p1 wr g;clear K F L M o D E hpi m l g f;go_wp2_with(go_at_call 175;refine c.mono ?_;rintro e B ⟨N,rfl,Q,R,r⟩)
    go_ret2;exact⟨zej n.out.1 n.out.2,d.trans (r.mono d.size)⟩
   | range =>
    have K:=M hpi;have n:Hid ((0:Int)=zcc s∧false=(zb3 s).2):=by unfold Hid zcc;rw [K];simp
    have c:=Tryz.strconv_ParseInt_10_at64_range_var s (by omega) hpi W p2 wr f;generalize Lib.intSat 64 s.data.toList=sat at c;clear K F L M o D E hpi m l g f;go_wp2_with(go_at_call 175;refine c.mono ?_;rintro e B ⟨N,rfl,Q,R,r⟩)
    go_ret2;exact⟨zej n.out.1 n.out.2,d.trans (r.mono d.size)⟩
end Go.Proofs.YtfpgjkbjbbgciaaGreatDoor
