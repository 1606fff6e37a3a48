import GoSem.Claim
import Derived.Test.YtfpgjkbjbbgciaaGreatDoorProg
import Derived.WalkKit
import Derived.Below
set_option maxRecDepth 100000
set_option maxHeartbeats 8000000
namespace Go.Proofs.YtfpgjkbjbbgciaaGreatDoor
open Go.RowKit in
abbrev qC:=Calls Tryz.prog
open Go.RowKit in
abbrev qB(w w':World):Prop:=Below w.heap.size w w'
open Go.RowKit in
abbrev qR(w:World)(v:Value)(e:Ending)(w':World):Prop:=e=.returned v∧Below w.heap.size w w'
theorem q1:(∀(l:List Value)(i:Nat)(a:Value),l.toArray.setIfInBounds i a=(l.set i a).toArray)∧(∀(x:Value)(l:List Value)(a:Value),(x::l).set 0 a=a::l)∧(∀(x:Value)(l:List Value)(i:Nat)(a:Value),(x::l).set (i+1) a=x::l.set i a):=⟨by simp,by simp,by simp⟩
theorem q2{α:Type}:(∀(i:Nat)(a:α)(l:List α),(a::l).take (i+1)=a::l.take i)∧(∀ l:List α,l.take 0=[])∧(∀(a:α)(l:List α)(i:Nat),(a::l).drop (i+1)=l.drop i)∧(∀ l:List α,l.drop 0=l):=⟨by simp,by simp,by simp,by simp⟩
end Go.Proofs.YtfpgjkbjbbgciaaGreatDoor
namespace Go.Proofs.YtfpgjkbjbbgciaaGreatDoor.Sp
def bt(s:ByteArray)(k:Nat):Int:=((s.data[k]?.getD 0).toNat:Int)
theorem zdU(s:ByteArray)(k:Nat)(h:k<s.size):((s[k]'h).toNat:Int)=bt s k:=by
 have a:k<s.data.size:=h;unfold bt;rw [Array.getElem?_eq_getElem a];rfl
theorem zyW(s:ByteArray)(k:Nat):0≤bt s k∧bt s k≤255:=by
 unfold bt;have:=(s.data[k]?.getD 0).toNat_lt;omega
def regB(s:ByteArray):Bool:=decide (s.size=2)&&decide (bt s 0=114)&&decide (48≤bt s 1)&&decide (bt s 1≤55)
def reg(s:ByteArray):Int:=if regB s=true then bt s 1-48 else -1
def zbW(s:ByteArray)(i:Nat):Nat→Int→Option Int
 | 0,v=>some v
 | k+1,v=>if i<s.size∧128≤bt s i∧bt s i≤191 then zbW s (i+1) k (64*v+bt s i-128) else none
def zaZ(n least:Int):Option Int→Int × Int
 | none=>(0,0)
 | some v=>if v<least∨1114111<v∨(55296≤v∧v≤57343) then(0,0) else(n,v)
def chr(s:ByteArray)(i:Nat):Int × Int :=
 if bt s i<128 then(1,bt s i)
 else if 194≤bt s i∧bt s i<224 then zaZ 2 128 (zbW s (i+1) 1 (bt s i-192))
 else if 224≤bt s i∧bt s i<240 then zaZ 3 2048 (zbW s (i+1) 2 (bt s i-224))
 else if 240≤bt s i∧bt s i<245 then zaZ 4 65536 (zbW s (i+1) 3 (bt s i-240))
 else(0,0)
def least:Int:=-9223372036854775808
def zdo(n d:Int):Bool:=decide (d<0)||decide (9<d)||decide (n<(least+d).tdiv 10)
def zcQ(s:ByteArray)(i:Nat)(n:Int):Option Int :=
 if i<s.size then
  if zdo n (bt s i-48)=true then none else zcQ s (i+1) (10*n-(bt s i-48))
 else some n
termination_by s.size-i
theorem zdW(s:ByteArray)(i:Nat)(n:Int)(h:¬i<s.size):zcQ s i n=some n:=by
 rw [zcQ,if_neg h]
theorem zeC(s:ByteArray)(i:Nat)(n:Int)(h:i<s.size)(h':zdo n (bt s i-48)=true):zcQ s i n=none:=by
 rw [zcQ,if_pos h,if_pos h']
theorem zdX(s:ByteArray)(i:Nat)(n:Int)(h:i<s.size)(h':¬zdo n (bt s i-48)=true):zcQ s i n=zcQ s (i+1) (10*n-(bt s i-48)):=by
 rw [zcQ,if_pos h,if_neg h']
def zb5(minus:Bool):Option Int→Int × Bool
 | none=>(0,false)
 | some n=>if minus=true then(n,true) else(if n=least then least else -n,decide (least<n))
def zd7(s:ByteArray):Bool:=decide (0<s.size)&&decide (bt s 0=45)
def zaI(s:ByteArray):Int × Bool :=
 if zd7 s=true then(if s.size=1 then(0,false) else zb5 true (zcQ s 1 0))
 else(if s.size=0 then(0,false) else zb5 false (zcQ s 0 0))
theorem zh0(d:Int)(h:d≤9):(least+d).tdiv 10=-((9223372036854775808-d)/10):=by
 have e:least+d=-(9223372036854775808-d):=by unfold least;omega
 rw [e,Int.neg_tdiv,Int.tdiv_eq_ediv_of_nonneg (by omega)]
theorem zvm(n d:Int)(h:¬zdo n d=true)(h0:least≤n)(h1:n≤0):least≤10*n-d∧10*n-d≤0∧0≤d∧d≤9:=by
 simp [zdo] at h;obtain⟨⟨h2,a⟩,b⟩:=h;rw [zh0 d a] at b;unfold least at *;omega
end Go.Proofs.YtfpgjkbjbbgciaaGreatDoor.Sp
