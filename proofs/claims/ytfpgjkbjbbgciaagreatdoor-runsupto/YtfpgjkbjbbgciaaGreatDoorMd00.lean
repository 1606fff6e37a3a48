import GoSem.Claim
set_option maxRecDepth 100000
set_option maxHeartbeats 8000000
namespace Go.Proofs.YtfpgjkbjbbgciaaGreatDoor.Sp
def bt(s:ByteArray)(k:Nat):Int:=((s.data[k]?.getD 0).toNat:Int)
theorem zdE(s:ByteArray)(k:Nat)(h:k<s.size):((s[k]'h).toNat:Int)=bt s k:=by
 have h':k<s.data.size:=h
 unfold bt
 rw [Array.getElem?_eq_getElem h']
 rfl
theorem zxK(s:ByteArray)(k:Nat):0≤bt s k∧bt s k≤255:=by
 unfold bt
 have:=(s.data[k]?.getD 0).toNat_lt
 omega
def regB(s:ByteArray):Bool:=decide (s.size=2)&&decide (bt s 0=114)&&decide (48≤bt s 1)&&decide (bt s 1≤55)
def reg(s:ByteArray):Int:=if regB s=true then bt s 1-48 else -1
def zbM(s:ByteArray)(i:Nat):Nat→Int→Option Int
 | 0,v=>some v
 | k+1,v=>if i<s.size∧128≤bt s i∧bt s i≤191 then zbM s (i+1) k (64*v+bt s i-128) else none
def zaV(n least:Int):Option Int→Int × Int
 | none=>(0,0)
 | some v=>if v<least∨1114111<v∨(55296≤v∧v≤57343) then(0,0) else(n,v)
def chr(s:ByteArray)(i:Nat):Int × Int :=
 if bt s i<128 then(1,bt s i)
 else if 194≤bt s i∧bt s i<224 then zaV 2 128 (zbM s (i+1) 1 (bt s i-192))
 else if 224≤bt s i∧bt s i<240 then zaV 3 2048 (zbM s (i+1) 2 (bt s i-224))
 else if 240≤bt s i∧bt s i<245 then zaV 4 65536 (zbM s (i+1) 3 (bt s i-240))
 else(0,0)
def least:Int:=-9223372036854775808
def zdc(n d:Int):Bool:=decide (d<0)||decide (9<d)||decide (n<(least+d).tdiv 10)
def zcD(s:ByteArray)(i:Nat)(n:Int):Option Int :=
 if i<s.size then
  if zdc n (bt s i-48)=true then none else zcD s (i+1) (10*n-(bt s i-48))
 else some n
termination_by s.size-i
theorem zdF(s:ByteArray)(i:Nat)(n:Int)(h:¬i<s.size):zcD s i n=some n:=by
 rw [zcD,if_neg h]
theorem zet(s:ByteArray)(i:Nat)(n:Int)(h:i<s.size)(h':zdc n (bt s i-48)=true):zcD s i n=none:=by
 rw [zcD,if_pos h,if_pos h']
theorem zdG(s:ByteArray)(i:Nat)(n:Int)(h:i<s.size)(h':¬zdc n (bt s i-48)=true):zcD s i n=zcD s (i+1) (10*n-(bt s i-48)):=by
 rw [zcD,if_pos h,if_neg h']
def zbx(minus:Bool):Option Int→Int × Bool
 | none=>(0,false)
 | some n=>if minus=true then(n,true) else(if n=least then least else -n,decide (least<n))
def zdu(s:ByteArray):Bool:=decide (0<s.size)&&decide (bt s 0=45)
def zaE(s:ByteArray):Int × Bool :=
 if zdu s=true then(if s.size=1 then(0,false) else zbx true (zcD s 1 0))
 else(if s.size=0 then(0,false) else zbx false (zcD s 0 0))
theorem zhb(d:Int)(h:d≤9):(least+d).tdiv 10=-((9223372036854775808-d)/10):=by
 have e:least+d=-(9223372036854775808-d):=by unfold least;omega
 rw [e,Int.neg_tdiv,Int.tdiv_eq_ediv_of_nonneg (by omega)]
theorem zuk(n d:Int)(h:¬zdc n d=true)(h0:least≤n)(h1:n≤0):least≤10*n-d∧10*n-d≤0∧0≤d∧d≤9:=by
 simp [zdc] at h
 obtain⟨⟨h2,h3⟩,h4⟩:=h
 rw [zhb d h3] at h4
 unfold least at *
 omega
def isW(s:ByteArray)(l:List UInt8):Bool:=s.toList == l
def zaa(s:ByteArray):List UInt8 :=
 if isW s [115,101,116]||isW s [105,110,99] then [82,75] else
 if isW s [109,111,118]||isW s [108,111,97,100]||isW s [115,116,111,114,101] then [82,82] else
 if isW s [97,100,100]||isW s [115,117,98]||isW s [109,117,108] then [82,82,82] else
 if isW s [114,101,97,100]||isW s [119,114,105,116,101] then [82] else
 if isW s [106,117,109,112]||isW s [99,97,108,108] then [78] else
 if isW s [108,101,115,115]||isW s [115,97,109,101] then [82,82,78] else
 if isW s [98,97,99,107]||isW s [115,116,111,112] then [] else
 [63]
end Go.Proofs.YtfpgjkbjbbgciaaGreatDoor.Sp
