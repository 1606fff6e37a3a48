import Derived.Test.YtfpgjkbjbbgciaaGreatDoorMd03
import Derived.Test.YtfpgjkbjbbgciaaGreatDoorMd04
import Derived.Lib.AtoiErrMem
set_option maxRecDepth 100000
set_option maxHeartbeats 8000000
namespace Go.Proofs.YtfpgjkbjbbgciaaGreatDoor
open Go.RowKit Sp
theorem zb1(c:Int)(w:World):Calls Tryz.prog 163 #[.int .i32 c] w fun e w'=>e=.returned (.bool (zba c))∧w'=w:=by
 by_cases h1:48≤c
 ·by_cases h2:c≤57
  ·have HQ:Hid (true=zba c):=by unfold Hid;simp [zba,h1,h2]
   go_enter Tryz.func163,Tryz.ntmps163
   go_wp2
   go_ret
   exact⟨za9 HQ.out,rfl⟩
  ·have h3:57<c:=by omega
   have HQ:Hid (false=zba c):=by unfold Hid;simp [zba];omega
   go_enter Tryz.func163,Tryz.ntmps163
   go_wp2
   go_ret
   exact⟨za9 HQ.out,rfl⟩
 ·have h3:c<48:=by omega
  have HQ:Hid (false=zba c):=by unfold Hid;simp [zba];omega
  go_enter Tryz.func163,Tryz.ntmps163
  go_wp2
  go_ret
  exact⟨za9 HQ.out,rfl⟩
def zi6(c:Int):Bool:=zcB c||zba c
theorem zrj(c:Int):((97≤c∧c≤122)∨(48≤c∧c≤57∧zba c=true)∨(95≤c∧c≤95∧(c == 95)=true∧zba c=false)∨(945≤c∧c≤969∧(c == 95)=false∧zba c=false)) ∨
  ((c<48∧(c == 95)=false∧zba c=false)∨(57<c∧c<95∧(c == 95)=false∧zba c=false)∨(95<c∧c<97∧(c == 95)=false∧zba c=false)∨(122<c∧c<945∧(c == 95)=false∧zba c=false)∨(969<c∧(c == 95)=false∧zba c=false)):=by
 by_cases h':c=95 <;> simp [h',zba] <;> omega
theorem zcv(c:Int)(w:World):Calls Tryz.prog 162 #[.int .i32 c] w fun e w'=>e=.returned (.bool (zi6 c))∧w'=w:=by
 rcases zrj c with hw|hw
 ·have HQ:Hid (true=zi6 c):=by
   unfold Hid zi6
   rcases hw with h|h|h|h
   ·simp [zcB];omega
   ·simp [h.2.2]
   ·simp [zcB];omega
   ·simp [zcB];omega
  rcases hw with ⟨h1,h2⟩|⟨h1,h2,h3⟩|⟨h1,h2,h3,h4⟩|⟨h1,h2,h3,h4⟩
  all_goals
   go_enter Tryz.func162,Tryz.ntmps162
   go_wp2_with(go_at_call 163;refine(zb1 c _).mono ?_;rintro e w' ⟨rfl,rfl⟩)
   go_ret
   exact⟨za9 HQ.out,rfl⟩
 ·have HQ:Hid (false=zi6 c):=by
   unfold Hid zi6
   rcases hw with h|h|h|h|h
   ·rw [h.2.2];simp [zcB];omega
   ·rw [h.2.2.2];simp [zcB];omega
   ·rw [h.2.2.2];simp [zcB];omega
   ·rw [h.2.2.2];simp [zcB];omega
   ·rw [h.2.2];simp [zcB];omega
  rcases hw with ⟨h1,h3,h4⟩|⟨h1,h2,h3,h4⟩|⟨h1,h2,h3,h4⟩|⟨h1,h2,h3,h4⟩|⟨h1,h3,h4⟩
  all_goals
   go_enter Tryz.func162,Tryz.ntmps162
   go_wp2_with(go_at_call 163;refine(zb1 c _).mono ?_;rintro e w' ⟨rfl,rfl⟩)
  all_goals first
   | (exfalso;omega)
   | (exfalso;rename_i hh;simp only [Bool.not_eq_false',decide_eq_true_eq,beq_iff_eq] at hh;omega)
   | (go_ret;exact⟨za9 (by first|exact HQ.out|(rw [←HQ.out];simp;omega)),rfl⟩)
theorem zjD(w:World)(k:Nat)(s:ByteArray)(pos:Nat)(hk:w.heap[k]?=some (.stringIter s pos))(h:pos<s.size)(h0:(chr s pos).1=0)(ty:TypeId):
  (Instr.next (.pointer (some ⟨k,0,none⟩)) true ty).run Tryz.prog w=.ok (.tuple #[.bool true,.int .i64 pos,.int .i32 65533]) (w.iterAt k s (pos+1)):=by
 have e:=(zgj s pos).1 h0
 have r:=Lib.run_next_any_at (P:=Tryz.prog) w k s pos ty hk h
 rw [e] at r
 exact r
theorem zf8(w:World)(k:Nat)(s:ByteArray)(pos:Nat)(hk:w.heap[k]?=some (.stringIter s pos))(h:pos<s.size)(h0:¬(chr s pos).1=0)(ty:TypeId):
  (Instr.next (.pointer (some ⟨k,0,none⟩)) true ty).run Tryz.prog w=.ok (.tuple #[.bool true,.int .i64 pos,.int .i32 (chr s pos).2]) (w.iterAt k s (pos+chrN s pos)):=by
 have e:=(zgj s pos).2 h0
 have p:=zcA s pos h h0
 have r:=Lib.run_next_any_at (P:=Tryz.prog) w k s pos ty hk h
 rw [e] at r
 have e2:(((chr s pos).2.toNat:Nat):Int)=(chr s pos).2:=by omega
 simp only [e2] at r
 exact r
theorem zes(s:ByteArray)(w:World)(hs:s.size≤1048576):
  Calls Tryz.prog 147 #[.string s] w fun e w'=>e=.returned (.bool (za2 s))∧Below w.heap.size w w':=by
 have hk0:(w.iter s 0).heap[w.heap.size]?=some (.stringIter s 0):=World.iter_heap w s 0
 have hb0:Below w.heap.size w (w.iter s 0):=(Below.refl _ w).alloc (Nat.le_refl _) _
 go_enter Tryz.func147,Tryz.ntmps147
 go_wp2
 go_loopw [3] (fun tc wr=>∃ pos c:Nat,pos≤s.size∧c≤pos∧(c=0∧pos=0∨1≤c∧1≤pos)∧tc=.int .i64 (c:Int)∧wr.heap[w.heap.size]?=some (.stringIter s pos)∧Below w.heap.size w wr∧za2 s=zcC (zcN s pos c)) (fun _ wr=>s.size-wr.iterPos w.heap.size)
 case atStart=>exact⟨0,0,by omega,by omega,.inl ⟨rfl,rfl⟩,rfl,hk0,hb0,rfl⟩
 case round =>
  obtain⟨pos,c,hp,hc,hcp,rfl,hk,hnx,hR⟩:=hrel
  have HR:Hid (za2 s=zcC (zcN s pos c)):=hR
  clear hR hk0 hb0
  have hmu:wr.iterPos w.heap.size=pos:=by simp [World.iterPos,hk]
  have HMU:Hid (wr.iterPos w.heap.size=pos):=hmu
  clear hmu
  by_cases hlt:pos<s.size
  ·by_cases h0:(chr s pos).1=0
   ·have hnext:=zjD wr w.heap.size s pos hk hlt h0
    have hb1:=Lib.below_iterAt hnx (Nat.le_refl _) s (pos+1)
    have HQ:Hid (false=za2 s):=by unfold Hid;rw [HR.out,ziL s pos c hlt h0];rfl
    have hch:zi6 65533=false:=by decide
    generalize wr.iterAt w.heap.size s (pos+1)=W1 at hnext hb1
    go_wp2_with(first|(go_at_call 162;refine(zcv _ _).mono ?_;rintro e w' ⟨rfl,rfl⟩)|(go_at_call 163;refine(zb1 _ _).mono ?_;rintro e w' ⟨rfl,rfl⟩))
    go_ret
    exact⟨za9 HQ.out,hb1⟩
   ·have hnext:=zf8 wr w.heap.size s pos hk hlt h0
    have hb1:=Lib.below_iterAt hnx (Nat.le_refl _) s (pos+chrN s pos)
    have hk1:=Lib.iterAt_heap wr w.heap.size s pos (pos+chrN s pos) hk
    have hpp:=zcA s pos hlt h0
    generalize wr.iterAt w.heap.size s (pos+chrN s pos)=W1 at hnext hb1 hk1
    have hmu1:W1.iterPos w.heap.size=pos+chrN s pos:=by simp [World.iterPos,hk1]
    have HMU1:Hid (W1.iterPos w.heap.size=pos+chrN s pos):=hmu1
    obtain⟨hp1,hp2,hp3,hp4,hp5,hp6⟩:=hpp
    clear hmu1 hp1
    cases hch:zi6 (chr s pos).2 with
    | false =>
     have HQ:Hid (false=za2 s):=by
      unfold Hid;rw [HR.out,zgi s pos c hlt h0 (by intro hh;simp [zi6] at hch;simp [hch.1,hch.2] at hh)];rfl
     go_wp2_with(first|(go_at_call 162;refine(zcv _ _).mono ?_;rintro e w' ⟨rfl,rfl⟩)|(go_at_call 163;refine(zb1 _ _).mono ?_;rintro e w' ⟨rfl,rfl⟩))
     go_ret
     exact⟨za9 HQ.out,hb1⟩
    | true =>
     by_cases hc0:1≤c
     ·have hz:((c:Int) == 0)=false:=by simp;omega
      have HQ:Hid (za2 s=zcC (zcN s (pos+chrN s pos) (c+1))):=by
       unfold Hid;rw [HR.out,zfi s pos c hlt h0 (by simp [zi6] at hch;rcases hch with h|h;exact .inl h;exact .inr ⟨h,by omega⟩)]
      go_wp2_with(first|(go_at_call 162;refine(zcv _ _).mono ?_;rintro e w' ⟨rfl,rfl⟩)|(go_at_call 163;refine(zb1 _ _).mono ?_;rintro e w' ⟨rfl,rfl⟩))
      go_roundw
      case rel=>exact⟨pos+chrN s pos,c+1,by omega,by omega,.inr ⟨by omega,by omega⟩,by go_num,hk1,hb1,HQ.out⟩
      case measure=>rw [HMU.out,HMU1.out];omega
     ·have hz:((c:Int) == 0)=true:=by simp;omega
      have hpos0:Hid (pos=0):=by unfold Hid;omega
      cases hd:zba (chr s pos).2 with
      | true =>
       have HQ:Hid (false=za2 s):=by
        unfold Hid;rw [HR.out,zgi s pos c hlt h0 (by
         intro hh
         rcases hh with h|⟨_,h⟩
         ·simp [zcB] at h;simp [zba] at hd;omega
         ·exact h hpos0.out)];rfl
       go_wp2_with(first|(go_at_call 162;refine(zcv _ _).mono ?_;rintro e w' ⟨rfl,rfl⟩)|(go_at_call 163;refine(zb1 _ _).mono ?_;rintro e w' ⟨rfl,rfl⟩))
       go_ret
       exact⟨za9 HQ.out,hb1⟩
      | false =>
       have HQ:Hid (za2 s=zcC (zcN s (pos+chrN s pos) (c+1))):=by
        unfold Hid;rw [HR.out,zfi s pos c hlt h0 (by simp [zi6,hd] at hch;exact .inl hch)]
       go_wp2_with(first|(go_at_call 162;refine(zcv _ _).mono ?_;rintro e w' ⟨rfl,rfl⟩)|(go_at_call 163;refine(zb1 _ _).mono ?_;rintro e w' ⟨rfl,rfl⟩))
       go_roundw
       case rel=>exact⟨pos+chrN s pos,c+1,by omega,by omega,.inr ⟨by omega,by omega⟩,by go_num,hk1,hb1,HQ.out⟩
       case measure=>rw [HMU.out,HMU1.out];omega
  ·have hnext:∀ ty,(Instr.next (.pointer (some ⟨w.heap.size,0,none⟩)) true ty).run Tryz.prog wr=.ok (.tuple #[.bool false]) wr:=fun ty=>Lib.run_next_end_at wr w.heap.size s pos ty hk hlt
   have HF:Hid (za2 s=zcC (some c)):=by unfold Hid;rw [HR.out,ziK s pos c hlt]
   by_cases h1:1≤c
   ·go_wp2
    go_ret
    exact⟨za9 (by rw [HF.out];exact zht c h1),hnx⟩
   ·go_wp2
    go_ret
    exact⟨za9 (by rw [HF.out];exact ziM c h1),hnx⟩
theorem zro(l:List UInt8):Lib.trimPrefix l [45]=bare l:=by
 unfold Lib.trimPrefix Lib.hasPrefix bare
 match l with
 | []=>rfl
 | c :: r =>
  by_cases h:c=45
  ·subst h;simp [List.isPrefixOf]
  ·have:(45 == c)=false:=by simpa using fun e=>h e.symm
   simp [List.isPrefixOf,this]
   split
   ·rename_i heq;simp at heq;exact absurd heq.1 h
   ·rfl
theorem zup(l:List UInt8):(bare l).length≤l.length:=by
 unfold bare;split <;> simp
theorem zmz(s:ByteArray)(i:Nat)(h:bt s i<128):chr s i=(1,bt s i):=by unfold chr;rw [if_pos h]
theorem zuq(s:ByteArray)(i:Nat)(h:¬bt s i<128)(h0:¬(chr s i).1=0):128≤(chr s i).2:=by
 unfold chr at h0 ⊢
 rw [if_neg h] at h0 ⊢
 split at h0
 ·rename_i hc
  rw [if_pos hc]
  rcases zbN 2 128 (zbM s (i+1) 1 (bt s i-192)) with h|⟨v,_,h2,h3,_⟩
  ·rw [h] at h0;exact absurd rfl h0
  ·rw [h2];exact h3
 ·rename_i hc
  rw [if_neg hc]
  split at h0
  ·rename_i hd
   rw [if_pos hd]
   rcases zbN 3 2048 (zbM s (i+1) 2 (bt s i-224)) with h|⟨v,_,h2,h3,_⟩
   ·rw [h] at h0;exact absurd rfl h0
   ·rw [h2];show 128≤v;omega
  ·rename_i hd
   rw [if_neg hd]
   split at h0
   ·rename_i he
    rw [if_pos he]
    rcases zbN 4 65536 (zbM s (i+1) 3 (bt s i-240)) with h|⟨v,_,h2,h3,_⟩
    ·rw [h] at h0;exact absurd rfl h0
    ·rw [h2];show 128≤v;omega
   ·exact absurd rfl h0
theorem zrp(t:ByteArray)(i:Nat)(h:i<t.size):zbc (t.data.toList.drop i)=(zba (bt t i)&&zbc (t.data.toList.drop (i+1))):=by
 obtain⟨c,r,h1,h2,h3⟩:=zjE t i h
 rw [h1,←h3,←h2]
 simp only [zbc,zba]
 congr 1
 by_cases hc:48≤c.toNat∧c.toNat≤57
 ·have:(48:Int)≤c.toNat∧(c.toNat:Int)≤57:=by omega
  simp [hc,this]
 ·have:¬((48:Int)≤c.toNat∧(c.toNat:Int)≤57):=by omega
  simp only [hc,this]
def zcO(s:ByteArray):Int:=if(zaE s).2=true then(zaE s).1 else 0
theorem zur(s:ByteArray)(w:World)(hw:LibW w)(hs:s.size≤1048576):
  Calls Tryz.prog 166 #[.string s] w fun e w'=>e=.returned (.tuple #[.int .i64 (zcO s),.bool (zaE s).2])∧Below w.heap.size w w':=by
 have htrim:=Tryz.strings_TrimPrefix s ⟨#[45]⟩ w
 rw [show(⟨#[45]⟩:ByteArray).data.toList=[45] from rfl,zro] at htrim
 have HN:Hid (zbc (bare s.data.toList)=false→(zaE s).2=false):=zun s
 have HS:Hid (zbc (bare s.data.toList)=true→(∀ v,Lib.parseIntB 64 s.data.toList=.ok v→zaE s=(v,true))∧(Lib.parseIntB 64 s.data.toList=.«syntax»→(zaE s).2=false)∧(Lib.parseIntB 64 s.data.toList=.range→(zaE s).2=false)):=zuo s
 have htl:(bare s.data.toList).length≤s.size:=by have:=zup s.data.toList;simpa using this
 obtain⟨t,ht⟩:∃ t:ByteArray,t=⟨(bare s.data.toList).toArray⟩:=⟨_,rfl⟩
 have htd:t.data.toList=bare s.data.toList:=by rw [ht]
 have hts:t.size≤1048576:=by
  have:t.size=(bare s.data.toList).length:=by rw [←htd];simp
  omega
 rw [←ht] at htrim
 rw [←htd] at HN HS
 clear ht htd htl
 obtain⟨tp1,p1,hsyn⟩:=hw.syn
 obtain⟨tp2,p2,hrng⟩:=hw.rng
 have hlow:=hw.low
 have hk0:(w.iter t 0).heap[w.heap.size]?=some (.stringIter t 0):=World.iter_heap w t 0
 have hb0:Below w.heap.size w (w.iter t 0):=(Below.refl _ w).alloc (Nat.le_refl _) _
 go_enter Tryz.func166,Tryz.ntmps166
 go_wp2_with(go_at_call 174;refine htrim.mono ?_;rintro e wx ⟨rfl,hww⟩;have h2:=hww.symm;subst h2)
 clear htrim
 go_loopw [5] (fun _ wr=>∃ pos:Nat,pos≤t.size∧wr.heap[w.heap.size]?=some (.stringIter t pos)∧Below w.heap.size w wr∧zbc t.data.toList=zbc (t.data.toList.drop pos)) (fun _ wr=>t.size-wr.iterPos w.heap.size)
 case atStart=>exact⟨0,by omega,hk0,hb0,rfl⟩
 case round =>
  obtain⟨pos,hp,hk,hnx,hR⟩:=hrel
  have HR:Hid (zbc t.data.toList=zbc (t.data.toList.drop pos)):=hR
  clear hR hk0 hb0
  have HMU:Hid (wr.iterPos w.heap.size=pos):=by unfold Hid;simp [World.iterPos,hk]
  by_cases hlt:pos<t.size
  ·have HD:Hid (zbc (t.data.toList.drop pos)=(zba (bt t pos)&&zbc (t.data.toList.drop (pos+1)))):=zrp t pos hlt
   cases hd:zba (bt t pos) with
   | true =>
    have hlow8:bt t pos<128:=by simp [zba] at hd;omega
    have hc:=zmz t pos hlow8
    have hnext:=zf8 wr w.heap.size t pos hk hlt (by rw [hc];simp)
    have hN:chrN t pos=1:=by unfold chrN;rw [hc];rfl
    rw [hN,hc] at hnext
    simp only at hnext
    have hb1:=Lib.below_iterAt hnx (Nat.le_refl _) t (pos+1)
    have hk1:=Lib.iterAt_heap wr w.heap.size t pos (pos+1) hk
    generalize wr.iterAt w.heap.size t (pos+1)=W1 at hnext hb1 hk1
    have HMU1:Hid (W1.iterPos w.heap.size=pos+1):=by unfold Hid;simp [World.iterPos,hk1]
    have HQ:Hid (zbc t.data.toList=zbc (t.data.toList.drop (pos+1))):=by unfold Hid;rw [HR.out,HD.out,hd];rfl
    have hbl:=zxK t pos
    clear hc hN
    go_wp2_with(go_at_call 163;refine(zb1 _ _).mono ?_;rintro e wx ⟨rfl,hww⟩;have h2:=hww.symm;subst h2)
    go_roundw
    case rel=>exact⟨pos+1,by omega,hk1,hb1,HQ.out⟩
    case measure=>rw [HMU.out,HMU1.out];omega
   | false =>
    have HF:Hid (zbc t.data.toList=false):=by unfold Hid;rw [HR.out,HD.out,hd];rfl
    have HE:Hid ((0:Int)=zcO s∧false=(zaE s).2):=by
     have:=HN.out HF.out
     unfold Hid zcO;rw [this];simp
    by_cases h0:(chr t pos).1=0
    ·have hnext:=zjD wr w.heap.size t pos hk hlt h0
     have hb1:=Lib.below_iterAt hnx (Nat.le_refl _) t (pos+1)
     have hdd:zba 65533=false:=by decide
     generalize wr.iterAt w.heap.size t (pos+1)=W1 at hnext hb1
     go_wp2_with(go_at_call 163;refine(zb1 _ _).mono ?_;rintro e wx ⟨rfl,hww⟩;have h2:=hww.symm;subst h2)
     go_ret2
     exact⟨zeu HE.out.1 HE.out.2,hb1⟩
    ·have hdd:zba (chr t pos).2=false:=by
      by_cases hl:bt t pos<128
      ·rw [zmz t pos hl];exact hd
      ·have:=zuq t pos hl h0
       simp [zba];omega
     have hnext:=zf8 wr w.heap.size t pos hk hlt h0
     have hb1:=Lib.below_iterAt hnx (Nat.le_refl _) t (pos+chrN t pos)
     have hpp:=zcA t pos hlt h0
     obtain⟨_,_,_,_,hp5,hp6⟩:=hpp
     generalize wr.iterAt w.heap.size t (pos+chrN t pos)=W1 at hnext hb1
     go_wp2_with(go_at_call 163;refine(zb1 _ _).mono ?_;rintro e wx ⟨rfl,hww⟩;have h2:=hww.symm;subst h2)
     go_ret2
     exact⟨zeu HE.out.1 HE.out.2,hb1⟩
  ·have hnext:∀ ty,(Instr.next (.pointer (some ⟨w.heap.size,0,none⟩)) true ty).run Tryz.prog wr=.ok (.tuple #[.bool false]) wr:=fun ty=>Lib.run_next_end_at wr w.heap.size t pos ty hk hlt
   have HF:Hid (zbc t.data.toList=true):=by unfold Hid;rw [HR.out,List.drop_of_length_le (by simpa using hlt)];rfl
   obtain⟨S1,S2,S3⟩:=HS.out HF.out
   have HS1:=Hid.out (p:=∀ v,Lib.parseIntB 64 s.data.toList=.ok v→zaE s=(v,true)) S1
   have hg7:Tryz.prog.globalNamed "strconv.ErrSyntax" = some 3:=by kernel_rfl
   have hg8:Tryz.prog.globalNamed "strconv.ErrRange" = some 4:=by kernel_rfl
   have hsyn':=var?_below hnx hg7 (by omega) hsyn
   have hrng':=var?_below hnx hg8 (by omega) hrng
   clear hg7 hg8
   cases hpi:Lib.parseIntB 64 s.data.toList with
   | ok v =>
    have hq:=S1 v hpi
    have HE:Hid (v=zcO s∧true=(zaE s).2):=by unfold Hid zcO;rw [hq];simp
    have hcall:=Tryz.strconv_ParseInt_10_at64_ok s (by omega) v hpi wr
    clear hq S1 S2 S3 HS1 HN HS hpi hsyn hrng hsyn' hrng'
    go_wp2_with(go_at_call 175;refine hcall.mono ?_;rintro e wx ⟨rfl,hww⟩)
    go_ret2
    refine⟨zeu HE.out.1 HE.out.2,?_⟩
    rcases hww with rfl|⟨x,rfl⟩
    ·exact hnx
    ·exact hnx.trans ((Lib.bytesWorld_below wr 5 x).mono hnx.size)
   | «syntax» =>
    have hq:=S2 hpi
    have HE:Hid ((0:Int)=zcO s∧false=(zaE s).2):=by unfold Hid zcO;rw [hq];simp
    have hcall:=Tryz.strconv_ParseInt_10_at64_syntax_var s (by omega) hpi tp1 p1 wr hsyn'
    clear hq S1 S2 S3 HS1 HN HS hpi hsyn hrng hsyn' hrng'
    go_wp2_with(go_at_call 175;refine hcall.mono ?_;rintro e wx ⟨N,rfl,hN,hNc,hbx⟩)
    go_ret2
    exact⟨zeu HE.out.1 HE.out.2,hnx.trans (hbx.mono hnx.size)⟩
   | range =>
    have hq:=S3 hpi
    have HE:Hid ((0:Int)=zcO s∧false=(zaE s).2):=by unfold Hid zcO;rw [hq];simp
    have hcall:=Tryz.strconv_ParseInt_10_at64_range_var s (by omega) hpi tp2 p2 wr hrng'
    generalize Lib.intSat 64 s.data.toList=sat at hcall
    clear hq S1 S2 S3 HS1 HN HS hpi hsyn hrng hsyn' hrng'
    go_wp2_with(go_at_call 175;refine hcall.mono ?_;rintro e wx ⟨N,rfl,hN,hNc,hbx⟩)
    go_ret2
    exact⟨zeu HE.out.1 HE.out.2,hnx.trans (hbx.mono hnx.size)⟩
end Go.Proofs.YtfpgjkbjbbgciaaGreatDoor
