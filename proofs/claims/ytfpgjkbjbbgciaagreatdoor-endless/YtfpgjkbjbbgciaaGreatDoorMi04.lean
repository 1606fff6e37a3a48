import Derived.Test.YtfpgjkbjbbgciaaGreatDoorMi01
import Derived.Test.YtfpgjkbjbbgciaaGreatDoorMi02
import Derived.Test.YtfpgjkbjbbgciaaGreatDoorMi03
set_option maxRecDepth 100000
set_option maxHeartbeats 8000000
namespace Go.Proofs.YtfpgjkbjbbgciaaGreatDoor
section
open Go.RowKit Sp
theorem zbp(c:Int)(w:World):Calls Tryz.prog 163 #[.int .i32 c] w fun e w'=>e=.returned (.bool (zbe c))∧w'=w:=by
 by_cases h1:48≤c
 ·by_cases h2:c≤57
  ·have HQ:Hid (true=zbe c):=by unfold Hid;simp [zbe,h1,h2]
   go_enter Tryz.func163,Tryz.ntmps163
   go_wp2
   go_ret
   exact⟨zcQ HQ.out,rfl⟩
  ·have h3:57<c:=by omega
   have HQ:Hid (false=zbe c):=by unfold Hid;simp [zbe];omega
   go_enter Tryz.func163,Tryz.ntmps163
   go_wp2
   go_ret
   exact⟨zcQ HQ.out,rfl⟩
 ·have h3:c<48:=by omega
  have HQ:Hid (false=zbe c):=by unfold Hid;simp [zbe];omega
  go_enter Tryz.func163,Tryz.ntmps163
  go_wp2
  go_ret
  exact⟨zcQ HQ.out,rfl⟩
def zjl(c:Int):Bool:=zdb c||zbe c
theorem zrM(c:Int):((97≤c∧c≤122)∨(48≤c∧c≤57∧zbe c=true)∨(95≤c∧c≤95∧(c == 95)=true∧zbe c=false)∨(945≤c∧c≤969∧(c == 95)=false∧zbe c=false)) ∨
  ((c<48∧(c == 95)=false∧zbe c=false)∨(57<c∧c<95∧(c == 95)=false∧zbe c=false)∨(95<c∧c<97∧(c == 95)=false∧zbe c=false)∨(122<c∧c<945∧(c == 95)=false∧zbe c=false)∨(969<c∧(c == 95)=false∧zbe c=false)):=by
 by_cases h':c=95 <;> simp [h',zbe] <;> omega
theorem zck(c:Int)(w:World):Calls Tryz.prog 162 #[.int .i32 c] w fun e w'=>e=.returned (.bool (zjl c))∧w'=w:=by
 rcases zrM c with hw|hw
 ·have HQ:Hid (true=zjl c):=by
   unfold Hid zjl
   rcases hw with h|h|h|h
   ·simp [zdb];omega
   ·simp [h.2.2]
   ·simp [zdb];omega
   ·simp [zdb];omega
  rcases hw with ⟨h1,h2⟩|⟨h1,h2,h3⟩|⟨h1,h2,h3,h4⟩|⟨h1,h2,h3,h4⟩
  all_goals
   go_enter Tryz.func162,Tryz.ntmps162
   go_wp2_with(go_at_call 163;refine(zbp c _).mono ?_;rintro e w' ⟨rfl,rfl⟩)
   go_ret
   exact⟨zcQ HQ.out,rfl⟩
 ·have HQ:Hid (false=zjl c):=by
   unfold Hid zjl
   rcases hw with h|h|h|h|h
   ·rw [h.2.2];simp [zdb];omega
   ·rw [h.2.2.2];simp [zdb];omega
   ·rw [h.2.2.2];simp [zdb];omega
   ·rw [h.2.2.2];simp [zdb];omega
   ·rw [h.2.2];simp [zdb];omega
  rcases hw with ⟨h1,h3,h4⟩|⟨h1,h2,h3,h4⟩|⟨h1,h2,h3,h4⟩|⟨h1,h2,h3,h4⟩|⟨h1,h3,h4⟩
  all_goals
   go_enter Tryz.func162,Tryz.ntmps162
   go_wp2_with(go_at_call 163;refine(zbp c _).mono ?_;rintro e w' ⟨rfl,rfl⟩)
  all_goals first
   | (exfalso;omega)
   | (exfalso;rename_i hh;simp only [Bool.not_eq_false',decide_eq_true_eq,beq_iff_eq] at hh;omega)
   | (go_ret;exact⟨zcQ (by first|exact HQ.out|(rw [←HQ.out];simp;omega)),rfl⟩)
theorem zkj(w:World)(k:Nat)(s:ByteArray)(pos:Nat)(hk:w.heap[k]?=some (.stringIter s pos))(h:pos<s.size)(h0:(chr s pos).1=0)(ty:TypeId):
  (Instr.next (.pointer (some ⟨k,0,none⟩)) true ty).run Tryz.prog w=.ok (.tuple #[.bool true,.int .i64 pos,.int .i32 65533]) (w.iterAt k s (pos+1)):=by
 have e:=(zgr s pos).1 h0
 have r:=Lib.run_next_any_at (P:=Tryz.prog) w k s pos ty hk h
 rw [e] at r
 exact r
theorem zfH(w:World)(k:Nat)(s:ByteArray)(pos:Nat)(hk:w.heap[k]?=some (.stringIter s pos))(h:pos<s.size)(h0:¬(chr s pos).1=0)(ty:TypeId):
  (Instr.next (.pointer (some ⟨k,0,none⟩)) true ty).run Tryz.prog w=.ok (.tuple #[.bool true,.int .i64 pos,.int .i32 (chr s pos).2]) (w.iterAt k s (pos+chrN s pos)):=by
 have e:=(zgr s pos).2 h0
 have p:=zde s pos h h0
 have r:=Lib.run_next_any_at (P:=Tryz.prog) w k s pos ty hk h
 rw [e] at r
 have e2:(((chr s pos).2.toNat:Nat):Int)=(chr s pos).2:=by omega
 simp only [e2] at r
 exact r
theorem zer(s:ByteArray)(w:World)(hs:s.size≤1048576):
  Calls Tryz.prog 147 #[.string s] w fun e w'=>e=.returned (.bool (za5 s))∧Below w.heap.size w w':=by
 have hk0:(w.iter s 0).heap[w.heap.size]?=some (.stringIter s 0):=World.iter_heap w s 0
 have hb0:Below w.heap.size w (w.iter s 0):=(Below.refl _ w).alloc (Nat.le_refl _) _
 go_enter Tryz.func147,Tryz.ntmps147
 go_wp2
 go_loopw [3] (fun tc wr=>∃ pos c:Nat,pos≤s.size∧c≤pos∧(c=0∧pos=0∨1≤c∧1≤pos)∧tc=.int .i64 (c:Int)∧wr.heap[w.heap.size]?=some (.stringIter s pos)∧Below w.heap.size w wr∧za5 s=zdj (zcS s pos c)) (fun _ wr=>s.size-wr.iterPos w.heap.size)
 case atStart=>exact⟨0,0,by omega,by omega,.inl ⟨rfl,rfl⟩,rfl,hk0,hb0,rfl⟩
 case round =>
  obtain⟨pos,c,hp,hc,hcp,rfl,hk,hnx,hR⟩:=hrel
  have HR:Hid (za5 s=zdj (zcS s pos c)):=hR
  clear hR hk0 hb0
  have hmu:wr.iterPos w.heap.size=pos:=by simp [World.iterPos,hk]
  have HMU:Hid (wr.iterPos w.heap.size=pos):=hmu
  clear hmu
  by_cases hlt:pos<s.size
  ·by_cases h0:(chr s pos).1=0
   ·have hnext:=zkj wr w.heap.size s pos hk hlt h0
    have hb1:=Lib.below_iterAt hnx (Nat.le_refl _) s (pos+1)
    have HQ:Hid (false=za5 s):=by unfold Hid;rw [HR.out,zpC s pos c hlt h0];rfl
    have hch:zjl 65533=false:=by decide
    generalize wr.iterAt w.heap.size s (pos+1)=W1 at hnext hb1
    go_wp2_with(first|(go_at_call 162;refine(zck _ _).mono ?_;rintro e w' ⟨rfl,rfl⟩)|(go_at_call 163;refine(zbp _ _).mono ?_;rintro e w' ⟨rfl,rfl⟩))
    go_ret
    exact⟨zcQ HQ.out,hb1⟩
   ·have hnext:=zfH wr w.heap.size s pos hk hlt h0
    have hb1:=Lib.below_iterAt hnx (Nat.le_refl _) s (pos+chrN s pos)
    have hk1:=Lib.iterAt_heap wr w.heap.size s pos (pos+chrN s pos) hk
    have hpp:=zde s pos hlt h0
    generalize wr.iterAt w.heap.size s (pos+chrN s pos)=W1 at hnext hb1 hk1
    have hmu1:W1.iterPos w.heap.size=pos+chrN s pos:=by simp [World.iterPos,hk1]
    have HMU1:Hid (W1.iterPos w.heap.size=pos+chrN s pos):=hmu1
    obtain⟨hp1,hp2,hp3,hp4,hp5,hp6⟩:=hpp
    clear hmu1 hp1
    cases hch:zjl (chr s pos).2 with
    | false =>
     have HQ:Hid (false=za5 s):=by
      unfold Hid;rw [HR.out,zjt s pos c hlt h0 (by intro hh;simp [zjl] at hch;simp [hch.1,hch.2] at hh)];rfl
     go_wp2_with(first|(go_at_call 162;refine(zck _ _).mono ?_;rintro e w' ⟨rfl,rfl⟩)|(go_at_call 163;refine(zbp _ _).mono ?_;rintro e w' ⟨rfl,rfl⟩))
     go_ret
     exact⟨zcQ HQ.out,hb1⟩
    | true =>
     by_cases hc0:1≤c
     ·have hz:((c:Int) == 0)=false:=by simp;omega
      have HQ:Hid (za5 s=zdj (zcS s (pos+chrN s pos) (c+1))):=by
       unfold Hid;rw [HR.out,zfn s pos c hlt h0 (by simp [zjl] at hch;rcases hch with h|h;exact .inl h;exact .inr ⟨h,by omega⟩)]
      go_wp2_with(first|(go_at_call 162;refine(zck _ _).mono ?_;rintro e w' ⟨rfl,rfl⟩)|(go_at_call 163;refine(zbp _ _).mono ?_;rintro e w' ⟨rfl,rfl⟩))
      go_roundw
      case rel=>exact⟨pos+chrN s pos,c+1,by omega,by omega,.inr ⟨by omega,by omega⟩,by go_num,hk1,hb1,HQ.out⟩
      case measure=>rw [HMU.out,HMU1.out];omega
     ·have hz:((c:Int) == 0)=true:=by simp;omega
      have hpos0:Hid (pos=0):=by unfold Hid;omega
      cases hd:zbe (chr s pos).2 with
      | true =>
       have HQ:Hid (false=za5 s):=by
        unfold Hid;rw [HR.out,zjt s pos c hlt h0 (by
         intro hh
         rcases hh with h|⟨_,h⟩
         ·simp [zdb] at h;simp [zbe] at hd;omega
         ·exact h hpos0.out)];rfl
       go_wp2_with(first|(go_at_call 162;refine(zck _ _).mono ?_;rintro e w' ⟨rfl,rfl⟩)|(go_at_call 163;refine(zbp _ _).mono ?_;rintro e w' ⟨rfl,rfl⟩))
       go_ret
       exact⟨zcQ HQ.out,hb1⟩
      | false =>
       have HQ:Hid (za5 s=zdj (zcS s (pos+chrN s pos) (c+1))):=by
        unfold Hid;rw [HR.out,zfn s pos c hlt h0 (by simp [zjl,hd] at hch;exact .inl hch)]
       go_wp2_with(first|(go_at_call 162;refine(zck _ _).mono ?_;rintro e w' ⟨rfl,rfl⟩)|(go_at_call 163;refine(zbp _ _).mono ?_;rintro e w' ⟨rfl,rfl⟩))
       go_roundw
       case rel=>exact⟨pos+chrN s pos,c+1,by omega,by omega,.inr ⟨by omega,by omega⟩,by go_num,hk1,hb1,HQ.out⟩
       case measure=>rw [HMU.out,HMU1.out];omega
  ·have hnext:∀ ty,(Instr.next (.pointer (some ⟨w.heap.size,0,none⟩)) true ty).run Tryz.prog wr=.ok (.tuple #[.bool false]) wr:=fun ty=>Lib.run_next_end_at wr w.heap.size s pos ty hk hlt
   have HF:Hid (za5 s=zdj (some c)):=by unfold Hid;rw [HR.out,zjs s pos c hlt]
   by_cases h1:1≤c
   ·go_wp2
    go_ret
    exact⟨zcQ (by rw [HF.out];exact zmQ c h1),hnx⟩
   ·go_wp2
    go_ret
    exact⟨zcQ (by rw [HF.out];exact zpD c h1),hnx⟩
end
namespace Sp
def opOk(k:UInt8)(x:ByteArray):Bool:=if k=82 then decide (0≤reg x) else if k=75 then(zbc x).2 else za5 x
def za7:List UInt8→List ByteArray→Bool
 | [],_=>true
 | k :: ks,x :: xs=>opOk k x&&za7 ks xs
 | _ :: _,[]=>true
def zfq(s:ByteArray):Int:=bt s (s.size-1)
def zep(x:ByteArray):Bool:=isW x [102,117,110,99]
structure Said where
 kind:Int
 kept:List ByteArray
 ok:Bool
def sayW(l:List ByteArray):Said :=
 match l with
 | []=>⟨0,[],true⟩
 | x :: r =>
  if zep x=true then⟨102,l,decide (l.length=2)&&za5 (l.getLast?.getD ByteArray.empty)⟩
  else if l.length=1∧zfq x=58 then⟨108,[x.extract 0 (x.size-1)],za5 (x.extract 0 (x.size-1))⟩
  else⟨105,l,if zaa x=[63]∨¬l.length=(zaa x).length+1 then false else za7 (zaa x) r⟩
def say(s:ByteArray):Said:=if za0 s 0=true then sayW (zbv s) else⟨0,[],false⟩
theorem zfr(s now:ByteArray)(l:List ByteArray)(hl:∀ x∈l,1≤x.size∧x.size≤s.size)(hn:now.size≤s.size):∀ x∈flush now l,1≤x.size∧x.size≤s.size:=by
 intro x hx
 unfold flush at hx
 split at hx
 ·exact hl x hx
 ·rw [List.mem_append] at hx
  rcases hx with hx|hx
  ·exact hl x hx
  ·simp at hx;subst hx;omega
theorem zdR(s:ByteArray)(i:Nat)(now:ByteArray)(l:List ByteArray)(hl:∀ x∈l,1≤x.size∧x.size≤s.size)(hn:now.size≤i)(hi:i≤s.size):∀ x∈zaD s i now l,1≤x.size∧x.size≤s.size:=by
 by_cases h:i<s.size
 ·by_cases h1:bt s i=32∨bt s i=9∨bt s i=59
  ·by_cases h2:bt s i=59
   ·rw [zcT s i now l h h2];exact zfr s now l hl (by omega)
   ·rw [zcr s i now l h (by omega)]
    exact zdR s (i+1) _ _ (zfr s now l hl (by omega)) (by simp) (by omega)
  ·rw [zeK s i now l h h1]
   exact zdR s (i+1) _ _ hl (by rw [ByteArray.size_append,ByteArray.size_extract];omega) (by omega)
 ·rw [zdk s i now l h];exact zfr s now l hl (by omega)
termination_by s.size-i
theorem zhG(s:ByteArray):∀ x∈zbv s,1≤x.size∧x.size≤s.size:=zdR s 0 _ _ (by simp) (by simp) (by omega)
theorem zpE(ks:List UInt8)(xs:List ByteArray)(i:Nat)(hk:i<ks.length)(hx:i<xs.length):za7 (ks.drop i) (xs.drop i)=(opOk ks[i] xs[i]&&za7 (ks.drop (i+1)) (xs.drop (i+1))):=by
 rw [List.drop_eq_getElem_cons hk,List.drop_eq_getElem_cons hx];rfl
end Sp
section
open Go.RowKit Sp
theorem zzh(s:ByteArray)(h:¬(s.size=2∧bt s 0=114∧48≤bt s 1∧bt s 1≤55)):(-1:Int)=reg s:=by
 unfold reg regB;simp;omega
theorem zx4(s:ByteArray)(h:s.size=2)(h0:bt s 0=114)(h1:48≤bt s 1)(h2:bt s 1≤55):bt s 1-48=reg s:=by
 unfold reg regB;simp [h,h0,h1,h2]
theorem Tryz.info9:(Tryz.prog.info? 9).map (fun i=>(i.zero,i.size,i.bytes))=some (some (.string ByteArray.empty),1,16):=by kernel_rfl
theorem Tryz.under67:Tryz.prog.underlying 67=some (.slice 9):=by kernel_rfl
theorem zdx(s:ByteArray):∀ u∈[Value.string s],u.oneCell'=true:=by
 intro u hu;simp at hu;subst hu;rfl
theorem zsh(now:ByteArray)(l:List ByteArray):(flush now l).length≤l.length+1:=by
 unfold flush;split <;> simp
theorem zfu(s:ByteArray)(i:Nat)(now:ByteArray)(l:List ByteArray):(zaD s i now l).length≤l.length+(s.size-i)+1:=by
 have hf:=zsh now l
 by_cases h:i<s.size
 ·by_cases h1:bt s i=32∨bt s i=9∨bt s i=59
  ·by_cases h2:bt s i=59
   ·rw [zcT s i now l h h2];omega
   ·rw [zcr s i now l h (by omega)]
    have:=zfu s (i+1) ByteArray.empty (flush now l)
    omega
  ·rw [zeK s i now l h h1]
   have:=zfu s (i+1) (now++s.extract i (i+1)) l
   omega
 ·rw [zdk s i now l h];omega
termination_by s.size-i
theorem zsi(s:ByteArray):(zbv s).length≤s.size+1:=by
 have:=zfu s 0 ByteArray.empty []
 simpa [zbv] using this
theorem zsj(x:ByteArray):(zaa x).length≤3:=by
 unfold zaa
 repeat' split
 all_goals decide
theorem zxF(x:ByteArray)(h:zep x=true):x=⟨#[102,117,110,99]⟩:=zaC x _ h
abbrev zak(e l:Int):Ending:=.panicked [{ v:=.iface 115 (.agg #[.int .i64 e,.int .i64 l]),recovered:=false }]
theorem zay(e l:Int)(w:World):Calls Tryz.prog 79 #[.int .i64 e,.int .i64 l] w fun en w'=>en=zak e l∧w'=w:=by
 go_enter Tryz.func79,Tryz.ntmps79
 go_wp2
 exact⟨rfl,rfl,rfl⟩
theorem zeo{k:IntKind}{a c:Int}{b d:Bool}(h:a=c)(h':b=d):Ending.returned (.tuple #[.int k a,.bool b])=.returned (.tuple #[.int k c,.bool d]):=by rw [h,h']
def zfd(s:ByteArray):Bool:=decide (0≤reg s)
def za4(s:ByteArray):Int:=if 0≤reg s then reg s else 0
theorem zki(s:ByteArray)(w:World)(_hs:s.size≤maxLen):
  Calls Tryz.prog 165 #[.string s] w fun e w'=>e=.returned (.tuple #[.int .i64 (za4 s),.bool (zfd s)])∧w'=w:=by
 unfold maxLen at _hs
 have no:¬(s.size=2∧bt s 0=114∧48≤bt s 1∧bt s 1≤55)→(0:Int)=za4 s∧false=zfd s:=by
  intro h
  have e:=zzh s h
  unfold za4 zfd
  rw [←e];simp
 have yes:(h:s.size=2)→(h0:bt s 0=114)→(h1:48≤bt s 1)→(h2:bt s 1≤55)→bt s 1-48=za4 s∧true=zfd s:=by
  intro h h0 h1 h2
  have e:=zx4 s h h0 h1 h2
  unfold za4 zfd
  rw [←e,if_pos (by omega)]
  simp;omega
 have NO:=Hid.out (p:=¬(s.size=2∧bt s 0=114∧48≤bt s 1∧bt s 1≤55)→(0:Int)=za4 s∧false=zfd s) no
 have HNO:Hid (¬(s.size=2∧bt s 0=114∧48≤bt s 1∧bt s 1≤55)→(0:Int)=za4 s∧false=zfd s):=no
 have HYES:Hid ((h:s.size=2)→(h0:bt s 0=114)→(h1:48≤bt s 1)→(h2:bt s 1≤55)→bt s 1-48=za4 s∧true=zfd s):=yes
 clear no yes NO
 by_cases h:s.size=2
 ·have H0:Hid (((s[0]'(by omega)).toNat:Int)=bt s 0):=zzf s 0 (by omega)
  have H1:Hid (((s[1]'(by omega)).toNat:Int)=bt s 1):=zzf s 1 (by omega)
  have b0:0≤((s[1]'(by omega)).toNat:Int):=by omega
  have b1:((s[1]'(by omega)).toNat:Int)≤255:=by have:=(s[1]'(by omega)).toNat_lt;omega
  go_enter Tryz.func165,Tryz.ntmps165
  go_wp2
  go_ways
  all_goals go_ret2
  all_goals have e0:=H0.out
  all_goals have e1:=H1.out
  all_goals first
   | (have q:=HNO.out (by omega);exact⟨zeo q.1 q.2,rfl⟩)
   | (have q:=HYES.out h (by omega) (by omega) (by omega);exact⟨zeo (by rw [←q.1,←e1]) q.2,rfl⟩)
 ·go_enter Tryz.func165,Tryz.ntmps165
  go_wp2
  go_ret2
  have q:=HNO.out (by omega)
  exact⟨zeo q.1 q.2,rfl⟩
structure LibW(w:World):Prop where
 tabs:Lib.Utf8Tabs 1 2 w
 most:∃ m,w.cell? ⟨0,0,none⟩=some (.int .i64 m)
 syn:∃ tp p,w.var? Tryz.prog "strconv.ErrSyntax" = some #[.iface tp p]
 rng:∃ tp p,w.var? Tryz.prog "strconv.ErrRange" = some #[.iface tp p]
 low:8≤w.heap.size
theorem zeJ(s:ByteArray)(pos:Nat)(w:World)(hw:Lib.Utf8Tabs 1 2 w)(hp:pos<s.size):
  Calls Tryz.prog 126 #[.string (s.extract pos s.size)] w fun e w'=>e=.returned (.bool (((Utf8.decode s pos).2:Int) == 1))∧Below w.heap.size w w':=by
 have hd:Lib.decodeGo (s.extract pos s.size)=Utf8.decode s pos:=by
  unfold Lib.decodeGo
  rw [if_neg (by rw [ByteArray.size_extract];omega)]
  exact Lib.tail_decode s pos 0
 have hc:=Tryz.utf8_DecodeRuneInString (s.extract pos s.size) w hw
 rw [hd] at hc
 have hle:(Utf8.decode s pos).2≤4:=by
  by_cases h0:(chr s pos).1=0
  ·rw [(zgr s pos).1 h0];decide
  ·rw [(zgr s pos).2 h0]
   have:=zde s pos hp h0
   show(chr s pos).1.toNat≤4
   omega
 generalize Utf8.decode s pos=d at hc hle
 go_enter Tryz.func126,Tryz.ntmps126
 go_wp2_with(go_at_call 146;refine hc.mono ?_;rintro e w' ⟨rfl,hb⟩)
 go_ret
 exact⟨rfl,hb⟩
end
end Go.Proofs.YtfpgjkbjbbgciaaGreatDoor
