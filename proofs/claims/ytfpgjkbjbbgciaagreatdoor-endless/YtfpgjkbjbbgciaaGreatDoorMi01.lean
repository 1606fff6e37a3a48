import Derived.Test.YtfpgjkbjbbgciaaGreatDoorMi00
import Derived.Test.YtfpgjkbjbbgciaaGreatDoorChecked
import Derived.Test.YtfpgjkbjbbgciaaGreatDoorRows
import Derived.Lib.LaidIn
import Derived.Lib.LaidU8T
import Derived.PinnedBridge
import Derived.Stop.LaidErr
import Derived.Deep.DeepHandedRow
import Derived.Deep.DeepWitnessRowRef
import Derived.ProofKit
import Derived.Shelf.Vars
import Derived.SizedLaws
import Derived.OpenShut
import Derived.Deep.RegionWith
import Derived.ArgAppend
import Derived.Deep.RegionLawGrows
import Derived.Lib.SliceRun
set_option maxRecDepth 100000
set_option maxHeartbeats 8000000
namespace Go.Proofs.YtfpgjkbjbbgciaaGreatDoor
section
open Go.RowKit
theorem zdD(x:Int)(h0:0≤x)(h1:x≤1000000):IntKind.i64.wrap x=x:=IntWalk.i64_in x (by omega)
theorem zhF{W w1:World}{B:Nat}(hb:Below B W w1):(∀ b o,b<B→w1.cell? ⟨b,o,none⟩=W.cell? ⟨b,o,none⟩)∧(∀ b o,b<B→w1.frozen? ⟨b,o,none⟩=W.frozen? ⟨b,o,none⟩) :=
 ⟨fun b o h=>hb.cell (p:=⟨b,o,none⟩) h,fun b o h=>hb.frozen (p:=⟨b,o,none⟩) h⟩
theorem zcQ{a b:Bool}(h:a=b):Ending.returned (.bool a)=.returned (.bool b):=by rw [h]
theorem zb4{w w':World}{n:Nat}{r:Option Nat}(h:(w.drewN n).grownBy w' r):w.grownBy w' r:=⟨h.os,h.tape,h.output,h.size,h.block⟩
theorem zbb{w:World}{B:Nat}{e:TypeId}{size n:Nat}{v:Value}{xs:List Value}(hown:w.ownsRow B e size v n xs):∃ ao cap,v=.slice ao n cap:=by
 rcases hown.2 with ⟨hv,h0⟩|⟨g,cap,cur,hv,_⟩
 ·exact⟨none,0,by rw [hv,h0]⟩
 ·exact⟨_,cap,hv⟩
theorem zdE{w:World}{B e size n:Nat}{v:Value}{l:List Value}(h:w.ownsRow B e size v n l):∃ ao cap,v=.slice ao n cap∧n≤cap∧cap≤maxLen∧(ao=none→n=0∧cap=0):=by
 rcases h.2 with ⟨rfl,rfl⟩|⟨g,cap,cur,rfl,_,_,h1,h2,_⟩
 ·exact⟨none,0,rfl,Nat.le_refl _,Nat.zero_le _,fun _=>⟨rfl,rfl⟩⟩
 ·exact⟨_,cap,rfl,h1,h2,fun e=>by cases e⟩
theorem zaj{w w':World}{B:Nat}{e:TypeId}{size n:Nat}{v:Value}{xs:List Value}(h:w.ownsRow B e size v n xs)(hb:∀ g,v.ownBlock=some g→w'.heap[g]?=w.heap[g]?):w'.ownsRow B e size v n xs:=by
 refine⟨h.1,?_⟩
 rcases h.2 with h2|⟨g,cap,cur,hv,hg,hh,r⟩
 ·exact .inl h2
 ·exact .inr ⟨g,cap,cur,hv,hg,(hb g (by rw [hv];rfl)).trans hh,r⟩
end
namespace Sp
def isW(s:ByteArray)(l:List UInt8):Bool:=s.toList == l
def zaa(s:ByteArray):List UInt8 :=
 if isW s [115,101,116]||isW s [105,110,99] then [82,75] else
 if isW s [109,111,118]||isW s [108,111,97,100]||isW s [115,116,111,114,101] then [82,82] else
 if isW s [97,100,100]||isW s [115,117,98]||isW s [109,117,108] then [82,82,82] else
 if isW s [114,101,97,100]||isW s [119,114,105,116,101] then [82] else
 if isW s [106,117,109,112]||isW s [99,97,108,108] then [78] else
 if isW s [108,101,115,115]||isW s [115,97,109,101] then [82,82,78] else
 if isW s [98,97,99,107]||isW s [115,116,111,112] then [] else
 [63]
end Sp
section
open Go.RowKit Sp
theorem zai{a b c:World}{q:Option Nat}(h:a.grownBy b q)(k:b.grownBy c q):a.grownBy c q :=
 ⟨k.os.trans h.os,k.tape.trans h.tape,k.output.trans h.output,Nat.le_trans h.size k.size,fun i hi hne=>(k.block i (Nat.lt_of_lt_of_le hi h.size) hne).trans (h.block i hi hne)⟩
theorem zkQ(W:World)(v:Value):(Instr.typeAssert (.iface 115 v) 20 115 true).run Tryz.prog W=.ok (.tuple #[v,.bool true]) W:=by kernel_rfl
theorem zmP{w:World}{b:Nat}{x y:Value}(hx:w.cell? ⟨b,0,none⟩=some x)(hy:w.cell? ⟨b+1,0,none⟩=some y)(e l:Value)(o:Obj):
  Below b w (((w.setCell ⟨b,0,none⟩ e).setCell ⟨b+1,0,none⟩ l).alloc o).drew∧(((w.setCell ⟨b,0,none⟩ e).setCell ⟨b+1,0,none⟩ l).alloc o).drew.cell? ⟨b,0,none⟩=some e∧(((w.setCell ⟨b,0,none⟩ e).setCell ⟨b+1,0,none⟩ l).alloc o).drew.cell? ⟨b+1,0,none⟩=some l:=by
 have hlt1:b+1<w.heap.size:=by have:=World.block_lt_of_cell? w _ hy;simpa using this
 refine⟨((((Below.refl b w).setCell (p:=⟨b,0,none⟩) (Nat.le_refl _) _).setCell (p:=⟨b+1,0,none⟩) (Nat.le_succ b) _).alloc (by simp [World.setCell];omega) _).drew,?_,?_⟩
 ·show(((w.setCell ⟨b,0,none⟩ e).setCell ⟨b+1,0,none⟩ l).alloc o).cell? ⟨b,0,none⟩=some e
  rw [World.cell?_alloc_lt _ o ⟨b,0,none⟩ (by simp [World.setCell];omega),World.cell?_setCell_other]
  ·exact World.cell?_setCell_same w _ _ hx
  ·simp
 ·show(((w.setCell ⟨b,0,none⟩ e).setCell ⟨b+1,0,none⟩ l).alloc o).cell? ⟨b+1,0,none⟩=some l
  rw [World.cell?_alloc_lt _ o ⟨b+1,0,none⟩ (by simp [World.setCell];omega)]
  refine World.cell?_setCell_same (u:=y) _ _ _ ?_
  rw [World.cell?_setCell_other]
  ·exact hy
  ·simp
theorem zfF(b:Nat)(x y e l:Int)(w:World)(hx:w.cell? ⟨b,0,none⟩=some (.int .i64 x))(hy:w.cell? ⟨b+1,0,none⟩=some (.int .i64 y))(fx:w.frozen? ⟨b,0,none⟩=false)(fy:w.frozen? ⟨b+1,0,none⟩=false):
  CallsD Tryz.prog 64 #[.pointer (some ⟨b,0,none⟩),.pointer (some ⟨b+1,0,none⟩)] (.panicking ({ v:=.iface 115 (.agg #[.int .i64 e,.int .i64 l]),recovered:=false } :: [])) w fun en u' w' =>
   en=.returned (.tuple #[])∧u'=.panicking ({ v:=.iface 115 (.agg #[.int .i64 e,.int .i64 l]),recovered:=true } :: [])∧Below b w w'∧w'.cell? ⟨b,0,none⟩=some (.int .i64 e)∧w'.cell? ⟨b+1,0,none⟩=some (.int .i64 l):=by
 have has:=zkQ
 refine callsD_of_wpS Tryz.func64 rfl fun c₀ cs hu=>?_
 apply wpS_seq
 apply wpS_region
 simp [wpOpsS,go_sem,recoverD,hu,Tryz.ntmps64,Exit.thenS]
 refine wpS_of_wp ?_
 have hlt1:b+1<w.heap.size:=by have:=World.block_lt_of_cell? w _ hy;simpa using this
 have hlt0:b<w.heap.size:=by omega
 have hn1:¬b=w.heap.size:=by omega
 have hn2:¬b+1=w.heap.size:=by omega
 go_wp2
 go_region
 all_goals exact⟨rfl,_,rfl,.tuple #[],by simp [results,Tryz.results64],rfl,rfl,zmP hx hy _ _ _⟩
theorem zju(b:Nat)(w:World):
  CallsD Tryz.prog 64 #[.pointer (some ⟨b,0,none⟩),.pointer (some ⟨b+1,0,none⟩)] .returning w fun en u' w'=>en=.returned (.tuple #[])∧u'=.returning∧w'=w:=by
 refine callsD_of_wpS Tryz.func64 rfl fun c₀ cs hu=>?_
 apply wpS_seq
 apply wpS_region
 simp [wpOpsS,go_sem,recoverD,hu,Tryz.ntmps64,Exit.thenS]
 refine wpS_of_wp ?_
 go_wp2
 exact⟨rfl,.returning,by rw [←hu],.tuple #[],by simp [results,Tryz.results64],rfl,rfl,rfl⟩
end
namespace Sp
theorem zkh(s:ByteArray)(i k:Nat)(v u:Int)(h:zdC s i k v=some u):i+k≤s.size∨k=0:=by
 induction k generalizing i v with
 | zero=>exact .inr rfl
 | succ k ih =>
  unfold zdC at h
  split at h
  ·rename_i hc
   rcases ih _ _ h with h'|h'
   ·exact .inl (by omega)
   ·subst h';exact .inl (by omega)
  ·cases h
theorem zb9(n least:Int)(o:Option Int):(zdw n least o=(0,0))∨(∃ v,o=some v∧zdw n least o=(n,v)∧least≤v∧v≤1114111):=by
 cases o with
 | none=>exact .inl rfl
 | some v =>
  by_cases h:v<least∨1114111<v∨(55296≤v∧v≤57343)
  ·exact .inl (if_pos h)
  ·exact .inr ⟨v,rfl,if_neg h,by omega,by omega⟩
theorem zzi(s:ByteArray)(i:Nat)(hi:i<s.size):chr s i=(0,0)∨(1≤(chr s i).1∧(chr s i).1≤4∧i+(chr s i).1≤s.size∧0≤(chr s i).2∧(chr s i).2≤1114111):=by
 have hb:=zzg s i
 unfold chr
 split
 ·exact .inr ⟨by simp,by simp,by simp;omega,by simpa using hb.1,by simp;omega⟩
 split
 ·rcases zb9 2 128 (zdC s (i+1) 1 (bt s i-192)) with h|⟨v,h1,h2,h3,h4⟩
  ·exact .inl h
  ·rw [h2]
   rcases zkh _ _ _ _ _ h1 with h|h
   ·exact .inr ⟨by simp,by simp,by simp;omega,by simp;omega,by simpa using h4⟩
   ·omega
 split
 ·rcases zb9 3 2048 (zdC s (i+1) 2 (bt s i-224)) with h|⟨v,h1,h2,h3,h4⟩
  ·exact .inl h
  ·rw [h2]
   rcases zkh _ _ _ _ _ h1 with h|h
   ·exact .inr ⟨by simp,by simp,by simp;omega,by simp;omega,by simpa using h4⟩
   ·omega
 split
 ·rcases zb9 4 65536 (zdC s (i+1) 3 (bt s i-240)) with h|⟨v,h1,h2,h3,h4⟩
  ·exact .inl h
  ·rw [h2]
   rcases zkh _ _ _ _ _ h1 with h|h
   ·exact .inr ⟨by simp,by simp,by simp;omega,by simp;omega,by simpa using h4⟩
   ·omega
 ·exact .inl rfl
def chrN(s:ByteArray)(i:Nat):Nat:=(chr s i).1.toNat
theorem zde(s:ByteArray)(i:Nat)(hi:i<s.size)(h:¬(chr s i).1=0):((chrN s i:Nat):Int)=(chr s i).1∧1≤chrN s i∧chrN s i≤4∧i+chrN s i≤s.size∧0≤(chr s i).2∧(chr s i).2≤1114111:=by
 rcases zzi s i hi with h'|h'
 ·rw [h'] at h;simp at h
 ·unfold chrN;omega
def za0(s:ByteArray)(i:Nat):Bool :=
 if _hi:i<s.size then
  if _h:(chr s i).1=0 then false else za0 s (i+chrN s i)
 else true
termination_by s.size-i
decreasing_by have:=zde s i _hi _h;omega
theorem zhE(s:ByteArray)(i:Nat)(h:¬i<s.size):za0 s i=true:=by
 rw [za0,dif_neg h]
theorem zmO(s:ByteArray)(i:Nat)(h:i<s.size)(h0:(chr s i).1=0):za0 s i=false:=by
 rw [za0,dif_pos h,dif_pos h0]
theorem zgQ(s:ByteArray)(i:Nat)(h:i<s.size)(h0:¬(chr s i).1=0):za0 s i=za0 s (i+chrN s i):=by
 rw [za0,dif_pos h,dif_neg h0]
def zdb(c:Int):Bool:=decide (97≤c∧c≤122∨c=95∨945≤c∧c≤969)
def zbe(c:Int):Bool:=decide (48≤c∧c≤57)
def zcS(s:ByteArray)(i:Nat)(c:Nat):Option Nat :=
 if hi:i<s.size then
  if h:(chr s i).1=0 then none
  else if zdb (chr s i).2=true∨(zbe (chr s i).2=true∧¬i=0) then zcS s (i+chrN s i) (c+1) else none
 else some c
termination_by s.size-i
decreasing_by have:=zde s i hi h;omega
def zdj:Option Nat→Bool
 | none=>false
 | some c=>decide (1≤c∧c≤12)
def za5(s:ByteArray):Bool:=zdj (zcS s 0 0)
theorem zjs(s:ByteArray)(i c:Nat)(h:¬i<s.size):zcS s i c=some c:=by
 rw [zcS,dif_neg h]
theorem zpC(s:ByteArray)(i c:Nat)(h:i<s.size)(h0:(chr s i).1=0):zcS s i c=none:=by
 rw [zcS,dif_pos h,dif_pos h0]
theorem zfn(s:ByteArray)(i c:Nat)(h:i<s.size)(h0:¬(chr s i).1=0)(h1:zdb (chr s i).2=true∨(zbe (chr s i).2=true∧¬i=0)):zcS s i c=zcS s (i+chrN s i) (c+1):=by
 rw [zcS,dif_pos h,dif_neg h0,if_pos h1]
theorem zjt(s:ByteArray)(i c:Nat)(h:i<s.size)(h0:¬(chr s i).1=0)(h1:¬(zdb (chr s i).2=true∨(zbe (chr s i).2=true∧¬i=0))):zcS s i c=none:=by
 rw [zcS,dif_pos h,dif_neg h0,if_neg h1]
end Sp
section
open Go.RowKit Sp
theorem zmQ(c:Nat)(h:1≤c):decide ((c:Int)≤12)=zdj (some c):=by
 unfold zdj
 by_cases h':c≤12
 ·simp [h,h'];omega
 ·simp [h'];omega
theorem zpD(c:Nat)(h:¬1≤c):false=zdj (some c):=by
 unfold zdj;simp;omega
end
section
open Go.ChangeShapes Go.WideShapes Go.ChangeAt Go.RowKit Sp
open Go.ChangeMaps (open_string shut_string)
end
section
open Go.RowKit Sp
theorem zaC(s:ByteArray)(l:List UInt8)(h:(s.toList == l)=true):s=⟨l.toArray⟩:=by
 rw [beq_iff_eq,ByteArray.toList_eq] at h
 rw [←h]
end
end Go.Proofs.YtfpgjkbjbbgciaaGreatDoor
