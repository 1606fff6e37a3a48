import Derived.Test.YtfpgjkbjbbgciaaGreatDoorMi04
set_option maxRecDepth 100000
set_option maxHeartbeats 8000000
namespace Go.Proofs.YtfpgjkbjbbgciaaGreatDoor
section
open Go.RowKit Sp
theorem zrN(l:List UInt8):Lib.trimPrefix l [45]=bare l:=by
 unfold Lib.trimPrefix Lib.hasPrefix bare
 match l with
 | []=>rfl
 | c :: r =>
  by_cases h:c=45
  ·subst h;simp [List.isPrefixOf]
  ·have:(45 == c)=false:=by simpa using fun e=>h e.symm
   simp [List.isPrefixOf,this]
   split
   ·rename_i heq;simp at heq;exact absurd heq.1 h
   ·rfl
theorem zvc(l:List UInt8):(bare l).length≤l.length:=by
 unfold bare;split <;> simp
theorem zmT(s:ByteArray)(i:Nat)(h:bt s i<128):chr s i=(1,bt s i):=by unfold chr;rw [if_pos h]
theorem zvd(s:ByteArray)(i:Nat)(h:¬bt s i<128)(h0:¬(chr s i).1=0):128≤(chr s i).2:=by
 unfold chr at h0 ⊢
 rw [if_neg h] at h0 ⊢
 split at h0
 ·rename_i hc
  rw [if_pos hc]
  rcases zb9 2 128 (zdC s (i+1) 1 (bt s i-192)) with h|⟨v,_,h2,h3,_⟩
  ·rw [h] at h0;exact absurd rfl h0
  ·rw [h2];exact h3
 ·rename_i hc
  rw [if_neg hc]
  split at h0
  ·rename_i hd
   rw [if_pos hd]
   rcases zb9 3 2048 (zdC s (i+1) 2 (bt s i-224)) with h|⟨v,_,h2,h3,_⟩
   ·rw [h] at h0;exact absurd rfl h0
   ·rw [h2];show 128≤v;omega
  ·rename_i hd
   rw [if_neg hd]
   split at h0
   ·rename_i he
    rw [if_pos he]
    rcases zb9 4 65536 (zdC s (i+1) 3 (bt s i-240)) with h|⟨v,_,h2,h3,_⟩
    ·rw [h] at h0;exact absurd rfl h0
    ·rw [h2];show 128≤v;omega
   ·exact absurd rfl h0
theorem zrO(t:ByteArray)(i:Nat)(h:i<t.size):zaS (t.data.toList.drop i)=(zbe (bt t i)&&zaS (t.data.toList.drop (i+1))):=by
 obtain⟨c,r,h1,h2,h3⟩:=zhI t i h
 rw [h1,←h3,←h2]
 simp only [zaS,zbe]
 congr 1
 by_cases hc:48≤c.toNat∧c.toNat≤57
 ·have:(48:Int)≤c.toNat∧(c.toNat:Int)≤57:=by omega
  simp [hc,this]
 ·have:¬((48:Int)≤c.toNat∧(c.toNat:Int)≤57):=by omega
  simp only [hc,this]
def zcD(s:ByteArray):Int:=if(zbc s).2=true then(zbc s).1 else 0
theorem zve(s:ByteArray)(w:World)(hw:LibW w)(hs:s.size≤1048576):
  Calls Tryz.prog 166 #[.string s] w fun e w'=>e=.returned (.tuple #[.int .i64 (zcD s),.bool (zbc s).2])∧Below w.heap.size w w':=by
 have htrim:=Tryz.strings_TrimPrefix s ⟨#[45]⟩ w
 rw [show(⟨#[45]⟩:ByteArray).data.toList=[45] from rfl,zrN] at htrim
 have HN:Hid (zaS (bare s.data.toList)=false→(zbc s).2=false):=zva s
 have HS:Hid (zaS (bare s.data.toList)=true→(∀ v,Lib.parseIntB 64 s.data.toList=.ok v→zbc s=(v,true))∧(Lib.parseIntB 64 s.data.toList=.«syntax»→(zbc s).2=false)∧(Lib.parseIntB 64 s.data.toList=.range→(zbc s).2=false)):=zvb s
 have htl:(bare s.data.toList).length≤s.size:=by have:=zvc s.data.toList;simpa using this
 obtain⟨t,ht⟩:∃ t:ByteArray,t=⟨(bare s.data.toList).toArray⟩:=⟨_,rfl⟩
 have htd:t.data.toList=bare s.data.toList:=by rw [ht]
 have hts:t.size≤1048576:=by
  have:t.size=(bare s.data.toList).length:=by rw [←htd];simp
  omega
 rw [←ht] at htrim
 rw [←htd] at HN HS
 clear ht htd htl
 obtain⟨tp1,p1,hsyn⟩:=hw.syn
 obtain⟨tp2,p2,hrng⟩:=hw.rng
 have hlow:=hw.low
 have hk0:(w.iter t 0).heap[w.heap.size]?=some (.stringIter t 0):=World.iter_heap w t 0
 have hb0:Below w.heap.size w (w.iter t 0):=(Below.refl _ w).alloc (Nat.le_refl _) _
 go_enter Tryz.func166,Tryz.ntmps166
 go_wp2_with(go_at_call 174;refine htrim.mono ?_;rintro e wx ⟨rfl,hww⟩;have h2:=hww.symm;subst h2)
 clear htrim
 go_loopw [5] (fun _ wr=>∃ pos:Nat,pos≤t.size∧wr.heap[w.heap.size]?=some (.stringIter t pos)∧Below w.heap.size w wr∧zaS t.data.toList=zaS (t.data.toList.drop pos)) (fun _ wr=>t.size-wr.iterPos w.heap.size)
 case atStart=>exact⟨0,by omega,hk0,hb0,rfl⟩
 case round =>
  obtain⟨pos,hp,hk,hnx,hR⟩:=hrel
  have HR:Hid (zaS t.data.toList=zaS (t.data.toList.drop pos)):=hR
  clear hR hk0 hb0
  have HMU:Hid (wr.iterPos w.heap.size=pos):=by unfold Hid;simp [World.iterPos,hk]
  by_cases hlt:pos<t.size
  ·have HD:Hid (zaS (t.data.toList.drop pos)=(zbe (bt t pos)&&zaS (t.data.toList.drop (pos+1)))):=zrO t pos hlt
   cases hd:zbe (bt t pos) with
   | true =>
    have hlow8:bt t pos<128:=by simp [zbe] at hd;omega
    have hc:=zmT t pos hlow8
    have hnext:=zfH wr w.heap.size t pos hk hlt (by rw [hc];simp)
    have hN:chrN t pos=1:=by unfold chrN;rw [hc];rfl
    rw [hN,hc] at hnext
    simp only at hnext
    have hb1:=Lib.below_iterAt hnx (Nat.le_refl _) t (pos+1)
    have hk1:=Lib.iterAt_heap wr w.heap.size t pos (pos+1) hk
    generalize wr.iterAt w.heap.size t (pos+1)=W1 at hnext hb1 hk1
    have HMU1:Hid (W1.iterPos w.heap.size=pos+1):=by unfold Hid;simp [World.iterPos,hk1]
    have HQ:Hid (zaS t.data.toList=zaS (t.data.toList.drop (pos+1))):=by unfold Hid;rw [HR.out,HD.out,hd];rfl
    have hbl:=zzg t pos
    clear hc hN
    go_wp2_with(go_at_call 163;refine(zbp _ _).mono ?_;rintro e wx ⟨rfl,hww⟩;have h2:=hww.symm;subst h2)
    go_roundw
    case rel=>exact⟨pos+1,by omega,hk1,hb1,HQ.out⟩
    case measure=>rw [HMU.out,HMU1.out];omega
   | false =>
    have HF:Hid (zaS t.data.toList=false):=by unfold Hid;rw [HR.out,HD.out,hd];rfl
    have HE:Hid ((0:Int)=zcD s∧false=(zbc s).2):=by
     have:=HN.out HF.out
     unfold Hid zcD;rw [this];simp
    by_cases h0:(chr t pos).1=0
    ·have hnext:=zkj wr w.heap.size t pos hk hlt h0
     have hb1:=Lib.below_iterAt hnx (Nat.le_refl _) t (pos+1)
     have hdd:zbe 65533=false:=by decide
     generalize wr.iterAt w.heap.size t (pos+1)=W1 at hnext hb1
     go_wp2_with(go_at_call 163;refine(zbp _ _).mono ?_;rintro e wx ⟨rfl,hww⟩;have h2:=hww.symm;subst h2)
     go_ret2
     exact⟨zeo HE.out.1 HE.out.2,hb1⟩
    ·have hdd:zbe (chr t pos).2=false:=by
      by_cases hl:bt t pos<128
      ·rw [zmT t pos hl];exact hd
      ·have:=zvd t pos hl h0
       simp [zbe];omega
     have hnext:=zfH wr w.heap.size t pos hk hlt h0
     have hb1:=Lib.below_iterAt hnx (Nat.le_refl _) t (pos+chrN t pos)
     have hpp:=zde t pos hlt h0
     obtain⟨_,_,_,_,hp5,hp6⟩:=hpp
     generalize wr.iterAt w.heap.size t (pos+chrN t pos)=W1 at hnext hb1
     go_wp2_with(go_at_call 163;refine(zbp _ _).mono ?_;rintro e wx ⟨rfl,hww⟩;have h2:=hww.symm;subst h2)
     go_ret2
     exact⟨zeo HE.out.1 HE.out.2,hb1⟩
  ·have hnext:∀ ty,(Instr.next (.pointer (some ⟨w.heap.size,0,none⟩)) true ty).run Tryz.prog wr=.ok (.tuple #[.bool false]) wr:=fun ty=>Lib.run_next_end_at wr w.heap.size t pos ty hk hlt
   have HF:Hid (zaS t.data.toList=true):=by unfold Hid;rw [HR.out,List.drop_of_length_le (by simpa using hlt)];rfl
   obtain⟨S1,S2,S3⟩:=HS.out HF.out
   have HS1:=Hid.out (p:=∀ v,Lib.parseIntB 64 s.data.toList=.ok v→zbc s=(v,true)) S1
   have hg7:Tryz.prog.globalNamed "strconv.ErrSyntax" = some 3:=by kernel_rfl
   have hg8:Tryz.prog.globalNamed "strconv.ErrRange" = some 4:=by kernel_rfl
   have hsyn':=var?_below hnx hg7 (by omega) hsyn
   have hrng':=var?_below hnx hg8 (by omega) hrng
   clear hg7 hg8
   cases hpi:Lib.parseIntB 64 s.data.toList with
   | ok v =>
    have hq:=S1 v hpi
    have HE:Hid (v=zcD s∧true=(zbc s).2):=by unfold Hid zcD;rw [hq];simp
    have hcall:=Tryz.strconv_ParseInt_10_at64_ok s (by omega) v hpi wr
    clear hq S1 S2 S3 HS1 HN HS hpi hsyn hrng hsyn' hrng'
    go_wp2_with(go_at_call 175;refine hcall.mono ?_;rintro e wx ⟨rfl,hww⟩)
    go_ret2
    refine⟨zeo HE.out.1 HE.out.2,?_⟩
    rcases hww with rfl|⟨x,rfl⟩
    ·exact hnx
    ·exact hnx.trans ((Lib.bytesWorld_below wr 5 x).mono hnx.size)
   | «syntax» =>
    have hq:=S2 hpi
    have HE:Hid ((0:Int)=zcD s∧false=(zbc s).2):=by unfold Hid zcD;rw [hq];simp
    have hcall:=Tryz.strconv_ParseInt_10_at64_syntax_var s (by omega) hpi tp1 p1 wr hsyn'
    clear hq S1 S2 S3 HS1 HN HS hpi hsyn hrng hsyn' hrng'
    go_wp2_with(go_at_call 175;refine hcall.mono ?_;rintro e wx ⟨N,rfl,hN,hNc,hbx⟩)
    go_ret2
    exact⟨zeo HE.out.1 HE.out.2,hnx.trans (hbx.mono hnx.size)⟩
   | range =>
    have hq:=S3 hpi
    have HE:Hid ((0:Int)=zcD s∧false=(zbc s).2):=by unfold Hid zcD;rw [hq];simp
    have hcall:=Tryz.strconv_ParseInt_10_at64_range_var s (by omega) hpi tp2 p2 wr hrng'
    generalize Lib.intSat 64 s.data.toList=sat at hcall
    clear hq S1 S2 S3 HS1 HN HS hpi hsyn hrng hsyn' hrng'
    go_wp2_with(go_at_call 175;refine hcall.mono ?_;rintro e wx ⟨N,rfl,hN,hNc,hbx⟩)
    go_ret2
    exact⟨zeo HE.out.1 HE.out.2,hnx.trans (hbx.mono hnx.size)⟩
end
namespace Sp
def Wf(q:Said):Prop:=(q.kind=0∧q.kept.length=0)∨(q.kind=102∧q.kept.length=2)∨(q.kind=108∧q.kept.length=1)∨(q.kind=105∧1≤q.kept.length∧q.kept.length≤4)
def eqW(a b:ByteArray):Bool:=a.toList == b.toList
def Said.word(q:Said)(i:Nat):ByteArray:=q.kept[i]?.getD ByteArray.empty
def isFn(q:Said)(x:ByteArray):Bool:=decide (q.kind=102)&&eqW (q.word 1) x
def zcF(q:Said)(x:ByteArray):Bool:=decide (q.kind=108)&&eqW (q.word 0) x
def zb3(L:List Said)(x:ByteArray)(i:Nat):Int :=
 if h:i<L.length then(if isFn L[i] x=true then(i:Int) else zb3 L x (i+1)) else -1
termination_by L.length-i
def zdS(L:List Said):Nat→Int
 | 0=>if(L[0]?.map Said.kind)=some 102 then 0 else -1
 | k+1=>if(L[k+1]?.map Said.kind)=some 102 then((k+1:Nat):Int) else zdS L k
def zaY(L:List Said)(x:ByteArray)(i:Nat):Int :=
 if h:i<L.length then(if L[i].kind=102 then -1 else if zcF L[i] x=true then(i:Int) else zaY L x (i+1)) else -1
termination_by L.length-i
def zes(L:List Said)(k:Nat)(x:ByteArray):Int:=zaY L x (zdS L k+1).toNat
theorem zgu(L:List Said)(x:ByteArray)(i:Nat)(h:¬i<L.length):zb3 L x i=-1:=by rw [zb3,dif_neg h]
theorem zdg(L:List Said)(x:ByteArray)(i:Nat)(h:i<L.length)(h':isFn L[i] x=true):zb3 L x i=i:=by rw [zb3,dif_pos h,if_pos h']
theorem zdl(L:List Said)(x:ByteArray)(i:Nat)(h:i<L.length)(h':isFn L[i] x=false):zb3 L x i=zb3 L x (i+1):=by rw [zb3,dif_pos h,if_neg (by simp [h'])]
theorem zdT(L:List Said)(x:ByteArray)(i:Nat)(h:¬i<L.length):zaY L x i=-1:=by rw [zaY,dif_neg h]
theorem zfK(L:List Said)(x:ByteArray)(i:Nat)(h:i<L.length)(h':L[i].kind=102):zaY L x i=-1:=by rw [zaY,dif_pos h,if_pos h']
theorem zcs(L:List Said)(x:ByteArray)(i:Nat)(h:i<L.length)(h0:¬L[i].kind=102)(h':zcF L[i] x=true):zaY L x i=i:=by rw [zaY,dif_pos h,if_neg h0,if_pos h']
theorem zbF(L:List Said)(x:ByteArray)(i:Nat)(h:i<L.length)(h0:¬L[i].kind=102)(h':zcF L[i] x=false):zaY L x i=zaY L x (i+1):=by rw [zaY,dif_pos h,if_neg h0,if_neg (by simp [h'])]
theorem zfL(L:List Said)(k:Nat)(h:k<L.length)(h':L[k].kind=102):zdS L k=k:=by
 cases k with
 | zero=>unfold zdS;rw [List.getElem?_eq_getElem h];simp [h']
 | succ k=>unfold zdS;rw [List.getElem?_eq_getElem h];simp [h']
theorem zdH(L:List Said)(k:Nat)(h:k+1<L.length)(h':¬L[k+1].kind=102):zdS L (k+1)=zdS L k:=by
 conv=>lhs;unfold zdS
 rw [List.getElem?_eq_getElem h];simp [h']
def zfh(L:List Said)(k:Nat):Bool :=
 match L[k]? with
 | none=>false
 | some q=>if q.kind=102 then decide (zb3 L (q.word 1) 0<k) else if q.kind=108 then decide (zes L k (q.word 0)<k) else false
def Said.last(q:Said):ByteArray:=q.word (q.kept.length-1)
def zaE(x:ByteArray):Bool:=isW x [106,117,109,112]||isW x [108,101,115,115]||isW x [115,97,109,101]
def zbt(x:ByteArray):Bool:=isW x [99,97,108,108]
def zco(L:List Said)(k:Nat):Bool :=
 match L[k]? with
 | none=>false
 | some q=>if q.kind=105 then(if zaE (q.word 0)=true then decide (zes L k q.last<0) else if zbt (q.word 0)=true then decide (zb3 L q.last 0<0) else false) else false
def ends(x:ByteArray):Bool:=isW x [106,117,109,112]||isW x [98,97,99,107]||isW x [115,116,111,112]
def zfM(L:List Said)(i:Nat)(e:Bool):Bool :=
 if h:i<L.length then
  if L[i].kind=102 then e
  else zfM L (i+1) (if L[i].kind=108 then false else if L[i].kind=105 then ends (L[i].word 0) else e)
 else e
termination_by L.length-i
def zdy(L:List Said)(k:Nat):Bool :=
 match L[k]? with
 | none=>false
 | some q=>if q.kind=102 then !zfM L (k+1) false else false
theorem zhP(L:List Said)(i:Nat)(e:Bool)(h:¬i<L.length):zfM L i e=e:=by rw [zfM,dif_neg h]
theorem zmW(L:List Said)(i:Nat)(e:Bool)(h:i<L.length)(h':L[i].kind=102):zfM L i e=e:=by rw [zfM,dif_pos h,if_pos h']
theorem zeL(L:List Said)(i:Nat)(e:Bool)(h:i<L.length)(h':¬L[i].kind=102):zfM L i e=zfM L (i+1) (if L[i].kind=108 then false else if L[i].kind=105 then ends (L[i].word 0) else e):=by
 conv=>lhs;rw [zfM,dif_pos h,if_neg h']
inductive Ins where
 | set (r:Nat) (k:Int)
 | mov (r s:Nat)
 | alu (o:Nat) (r s t:Nat)
 | inc (r:Nat) (k:Int)
 | load (r s:Nat)
 | store (r s:Nat)
 | read (r:Nat)
 | write (r:Nat)
 | jump (to:Int)
 | less (r s:Nat) (to:Int)
 | same (r s:Nat) (to:Int)
 | call (to:Int)
 | back
 | stop
structure Mc where
 at':Int
 backs:List Int
 inp:List Int
 steps:Int
 regs:Nat→Int
 cells:Nat→Int
 out:List Int
 frames:Int
 peak:Int
 fin:Int
def upd(f:Nat→Int)(i:Nat)(v:Int):Nat→Int:=fun j=>if j=i then v else f j
theorem zdU(f:Nat→Int)(i:Nat)(v:Int):upd f i v i=v:=by simp [upd]
theorem zet(f:Nat→Int)(i j:Nat)(v:Int)(h:¬j=i):upd f i v j=f j:=by simp [upd,h]
def w64(x:Int):Int:=(x+9223372036854775808)%18446744073709551616-9223372036854775808
def zc1(o:Nat)(a b:Int):Int:=if o=0 then w64 (a+b) else if o=1 then w64 (a-b) else w64 (a*b)
def Mc.goes(m:Mc)(to:Int):Mc:={ m with steps:=m.steps+1,at':=to }
def exec(i:Ins)(next:Int)(m:Mc):Mc :=
 match i with
 | .set r k=>{ m with regs:=upd m.regs r k }.goes next
 | .mov r s=>{ m with regs:=upd m.regs r (m.regs s) }.goes next
 | .alu o r s t=>{ m with regs:=upd m.regs r (zc1 o (m.regs s) (m.regs t)) }.goes next
 | .inc r k=>{ m with regs:=upd m.regs r (w64 (m.regs r+k)) }.goes next
 | .load r s=>if m.regs s<0∨15<m.regs s then{ m with fin:=3 } else{ m with regs:=upd m.regs r (m.cells (m.regs s).toNat) }.goes next
 | .store r s=>if m.regs r<0∨15<m.regs r then{ m with fin:=3 } else{ m with cells:=upd m.cells (m.regs r).toNat (m.regs s) }.goes next
 | .read r=>{ m with regs:=upd m.regs r (m.inp.headD 0),inp:=m.inp.tail }.goes next
 | .write r=>{ m with out:=m.out++[m.regs r] }.goes next
 | .jump to=>m.goes to
 | .less r s to=>m.goes (if m.regs r<m.regs s then to else next)
 | .same r s to=>m.goes (if m.regs r=m.regs s then to else next)
 | .call to=>if m.frames=16 then{ m with fin:=4 } else{ m with backs:=m.backs++[next],frames:=m.frames+1,peak:=max m.peak (m.frames+1) }.goes to
 | .back=>if m.frames=1 then{ m with frames:=0,fin:=2 }.goes (-1) else{ m with frames:=m.frames-1,backs:=m.backs.dropLast }.goes (m.backs.getLastD 0)
 | .stop=>{ m with fin:=1 }.goes (-1)
def zau(L:List Said)(i:Nat):Int :=
 if h:i<L.length then(if L[i].kind=102 then -1 else if L[i].kind=105 then(i:Int) else zau L (i+1)) else -1
termination_by L.length-i
theorem zha(L:List Said)(i:Nat)(h:¬i<L.length):zau L i=-1:=by rw [zau,dif_neg h]
theorem zjy(L:List Said)(i:Nat)(h:i<L.length)(h':L[i].kind=102):zau L i=-1:=by rw [zau,dif_pos h,if_pos h']
theorem zdz(L:List Said)(i:Nat)(h:i<L.length)(h':L[i].kind=105):zau L i=i:=by rw [zau,dif_pos h,if_neg (by omega),if_pos h']
theorem zdm(L:List Said)(i:Nat)(h:i<L.length)(h0:¬L[i].kind=102)(h':¬L[i].kind=105):zau L i=zau L (i+1):=by rw [zau,dif_pos h,if_neg h0,if_neg h']
def regN(x:ByteArray):Nat:=(reg x).toNat
def zdV(L:List Said)(k:Nat)(x:ByteArray):Int:=zau L (zes L k x).toNat
def fnTo(L:List Said)(x:ByteArray):Int:=zau L (zb3 L x 0+1).toNat
def insQ(L:List Said)(k:Nat)(q:Said):Ins :=
 if isW (q.word 0) [106,117,109,112]=true then .jump (zdV L k q.last)
 else if isW (q.word 0) [108,101,115,115]=true then .less (regN (q.word 1)) (regN (q.word 2)) (zdV L k q.last)
 else if isW (q.word 0) [115,97,109,101]=true then .same (regN (q.word 1)) (regN (q.word 2)) (zdV L k q.last)
 else if isW (q.word 0) [99,97,108,108]=true then .call (fnTo L q.last)
 else if isW (q.word 0) [98,97,99,107]=true then .back
 else if isW (q.word 0) [115,116,111,112]=true then .stop
 else if isW (q.word 0) [115,101,116]=true then .set (regN (q.word 1)) (zbc (q.word 2)).1
 else if isW (q.word 0) [109,111,118]=true then .mov (regN (q.word 1)) (regN (q.word 2))
 else if isW (q.word 0) [97,100,100]=true then .alu 0 (regN (q.word 1)) (regN (q.word 2)) (regN (q.word 3))
 else if isW (q.word 0) [115,117,98]=true then .alu 1 (regN (q.word 1)) (regN (q.word 2)) (regN (q.word 3))
 else if isW (q.word 0) [109,117,108]=true then .alu 2 (regN (q.word 1)) (regN (q.word 2)) (regN (q.word 3))
 else if isW (q.word 0) [105,110,99]=true then .inc (regN (q.word 1)) (zbc (q.word 2)).1
 else if isW (q.word 0) [108,111,97,100]=true then .load (regN (q.word 1)) (regN (q.word 2))
 else if isW (q.word 0) [115,116,111,114,101]=true then .store (regN (q.word 1)) (regN (q.word 2))
 else if isW (q.word 0) [114,101,97,100]=true then .read (regN (q.word 1))
 else .write (regN (q.word 1))
def zc9(L:List Said)(m:Mc):Mc :=
 match L[m.at'.toNat]? with
 | none=>m
 | some q=>exec (insQ L m.at'.toNat q) (zau L (m.at'.toNat+1)) m
def runS(f:Mc→Mc):Nat→Mc→Mc
 | 0,m=>m
 | n+1,m=>if m.fin=0 then runS f n (f m) else m
theorem zcl(f:Mc→Mc)(n:Nat)(m:Mc)(h:¬m.fin=0):runS f n m=m:=by
 cases n with
 | zero=>rfl
 | succ n=>show(if m.fin=0 then _ else _)=m;rw [if_neg h]
theorem zbO(f:Mc→Mc)(n:Nat)(m:Mc)(h:m.fin=0):runS f (n+1) m=runS f n (f m):=by
 show(if m.fin=0 then _ else _)=_;rw [if_pos h]
def zeu(L:List Said)(i:Nat):Nat:=if h:i<L.length then(if L[i].kind=102 then i else zeu L (i+1)) else i
termination_by L.length-i
def zbL(L:List Said)(inp:List Int):Mc:=⟨zau L (zeu L 0+1),[],inp,0,fun _=>0,fun _=>0,[],1,1,0⟩
def Mc.line(m:Mc):Int:=if m.fin=1∨m.fin=2 then 0 else m.at'+1
end Sp
section
open Go.RowKit Sp
theorem zzj{w:World}{B:Nat}{v:Value}{l:List ByteArray}(h:w.ownsRow B 9 1 v l.length (l.map Value.string))(hl:0<l.length):
  ∃ g cap,v=.slice (some ⟨g,0,none⟩) l.length cap∧l.length≤cap∧cap≤maxLen∧B≤g∧g<w.heap.size∧∀ j (hj:j<l.length),w.cell? ⟨g,j,none⟩=some (.string l[j]):=by
 rcases h.2 with ⟨_,h2⟩|⟨g,cap,cur,hv,hg,hh,hc,hm,hs,hx⟩
 ·simp at h2;subst h2;simp at hl
 ·refine⟨g,cap,hv,hc,hm,hg,(Array.getElem?_eq_some_iff.1 hh).1,fun j hj=>?_⟩
  subst hv
  rw [World.ownsRow.cellAt h j (by omega)]
  simp [hj]
theorem zbV{w:World}{b b':Nat}{e:TypeId}{size n:Nat}{v:Value}{xs:List Value}(h:w.ownsRow b e size v n xs)(hb:b'≤b):w.ownsRow b' e size v n xs:=by
 refine⟨h.1,?_⟩
 rcases h.2 with h2|⟨g,cap,cur,hv,hg,r⟩
 ·exact .inl h2
 ·exact .inr ⟨g,cap,cur,hv,by omega,r⟩
theorem zmR(w:World)(o1 o2:Obj){w1:World}(hb:Below ((w.alloc o1).alloc o2).heap.size ((w.alloc o1).alloc o2) w1):Below w.heap.size w w1 :=
 (((Below.refl _ _).alloc (Nat.le_refl _) _).alloc (by simp) _).trans (hb.mono (by simp;omega))
theorem zfi{P:Program}{o:Oper}{a:Act}{W:World}{K:Act→Prop}(ty:TypeId)(x:Operand)(ho:o.op=.load ty x)(b f:Nat)(hx:a.eval x=.pointer (some ⟨b,f,none⟩))(cs:List Value)(d:TypeDesc)(hc:W.rangeAt b f cs)
  (hu:P.underlying ty=some d) (hd:d.isRow=true) (hi:(P.info? ty).map (·.size)=some cs.length) (h:K (a.put o.dst (.agg cs.toArray))):o.quiet P a (fun w'=>∃ k,w'=W.drewN k) K:=by
 refine⟨_,fun w hw=>?_,h⟩
 obtain⟨k,rfl⟩:=hw
 have hc2:(W.drewN k).rangeAt b f cs:=hc
 unfold Oper.quietAt execOp
 simp only [ho,hx,Instr.loadAt,Instr.sureAddr,Sem.run_bind,Sem.run_pure,Result.andThen_ok,run_loadVar_mid _ b f ty cs d hc2 hu hd hi]
 exact⟨rfl,rfl⟩
theorem zio(w:World)(ds:List Value)(t:TypeId):(w.alloc (.cells ds.toArray t)).rangeAt w.heap.size 0 ds:=by
 intro j v hv
 rw [Nat.zero_add,World.cell?_alloc_new (w:=w) ds.toArray t j,List.getElem?_toArray]
 exact hv
theorem Tryz.info31:(Tryz.prog.info? 31).map (·.size)=some 8:=by kernel_rfl
theorem Tryz.info32:(Tryz.prog.info? 32).map (·.size)=some 16:=by kernel_rfl
end
end Go.Proofs.YtfpgjkbjbbgciaaGreatDoor
