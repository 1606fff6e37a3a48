import GoSem.Claim
import Derived.WalkKit
import Derived.WalkSpells
import Derived.WalkLawsBesides
import Derived.Test.YtfpgjkbjbbgciaaGreatDoorProg
import Derived.Lib.DecodeN
import Derived.Lib.OthersKept
import Derived.Shelf.Small.Wraps
import Derived.Shelf.LaysM
import Derived.Shelf.LaysC
import Derived.Shelf.Strconv.ParseIntPublic10
import Derived.Shelf.Strconv.ErrVarParseInt
import Derived.Shelf.Strings.Count
import Derived.Shelf.Strings.Prefix
import Derived.Shelf.Strings.Split
import Derived.Shelf.Unicode.DecodeAny
import Derived.Lib.Strings
import Derived.Lib.ParseIntB
import Derived.Lib.RuneCountTail
import Derived.WalkSmall
import Derived.Lib.AtoiErrMem
import Derived.Deep.Light
import Derived.Defers
import Derived.Recover
import Derived.StillTail
import Derived.BigQuiet
import Derived.Deep.RegionHeld3
import Derived.Lib.SplitLaws
import Derived.Maps.Own
import Derived.Maps.OwnOps
import Derived.Maps.OwnSet
import Derived.Maps.AppendAt
import Derived.Maps.Views
import Derived.Deep.AppendLies
import Derived.Deep.DrawnRows
import Derived.RegionDies
import Derived.Maps.RangeWalk
import Derived.Deep.MidRow
import Derived.Laws.Small
import Derived.Great.Ranges
import Derived.Laws.Tables
import Derived.Laws.Externs
import Derived.Deep.RegionWith
import Derived.ArgAppend
import Derived.Deep.RegionLawGrows
import Derived.Lib.SliceRun
import Derived.Laws.Strings
import Derived.Laws.IdiomStrings
set_option maxRecDepth 100000
set_option maxHeartbeats 8000000
namespace Go.Proofs.YtfpgjkbjbbgciaaGreatDoor
namespace Sp
def bt(s:ByteArray)(k:Nat):Int:=((s.data[k]?.getD 0).toNat:Int)
theorem zzH(s:ByteArray)(k:Nat)(h:k<s.size):((s[k]'h).toNat:Int)=bt s k:=by
 have a:k<s.data.size:=h;unfold bt;rw [Array.getElem?_eq_getElem a];rfl
theorem zzI(s:ByteArray)(k:Nat):0≤bt s k∧bt s k≤255:=by
 unfold bt;have:=(s.data[k]?.getD 0).toNat_lt;omega
def regB(s:ByteArray):Bool:=decide (s.size=2)&&decide (bt s 0=114)&&decide (48≤bt s 1)&&decide (bt s 1≤55)
def reg(s:ByteArray):Int:=if regB s=true then bt s 1-48 else -1
def zd5(s:ByteArray)(i:Nat):Nat→Int→Option Int
 | 0,v=>some v
 | k+1,v=>if i<s.size∧128≤bt s i∧bt s i≤191 then zd5 s (i+1) k (64*v+bt s i-128) else none
def zdt(n least:Int):Option Int→Int × Int
 | none=>(0,0)
 | some v=>if v<least∨1114111<v∨(55296≤v∧v≤57343) then(0,0) else(n,v)
def chr(s:ByteArray)(i:Nat):Int × Int :=
 if bt s i<128 then(1,bt s i)
 else if 194≤bt s i∧bt s i<224 then zdt 2 128 (zd5 s (i+1) 1 (bt s i-192))
 else if 224≤bt s i∧bt s i<240 then zdt 3 2048 (zd5 s (i+1) 2 (bt s i-224))
 else if 240≤bt s i∧bt s i<245 then zdt 4 65536 (zd5 s (i+1) 3 (bt s i-240))
 else(0,0)
end Sp
section
open Go.RowKit Sp
end
end Go.Proofs.YtfpgjkbjbbgciaaGreatDoor
