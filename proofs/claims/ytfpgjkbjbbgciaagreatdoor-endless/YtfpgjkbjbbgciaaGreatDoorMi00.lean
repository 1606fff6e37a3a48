import GoSem.Claim
import Derived.WalkKit
import Derived.WalkSpells
import Derived.WalkLawsBesides
import Derived.Test.YtfpgjkbjbbgciaaGreatDoorProg
import Derived.Lib.Strings
import Derived.Deep.Light
import Derived.Lib.DecodeN
import Derived.Lib.OthersKept
import Derived.Shelf.Small.Wraps
import Derived.Shelf.LaysM
import Derived.Shelf.LaysC
import Derived.Shelf.Strconv.ParseIntPublic10
import Derived.Shelf.Strconv.ErrVarParseInt
import Derived.Shelf.Strings.Count
import Derived.Shelf.Strings.Prefix
import Derived.Shelf.Strings.Split
import Derived.Shelf.Unicode.DecodeAny
import Derived.Lib.ParseIntB
import Derived.Lib.RuneCountTail
import Derived.WalkSmall
import Derived.Lib.AtoiErrMem
import Derived.BigQuiet
import Derived.Deep.RegionHeld3
import Derived.StillTail
import Derived.Lib.SplitLaws
import Derived.Maps.Own
import Derived.Maps.OwnOps
import Derived.Maps.OwnSet
import Derived.Maps.AppendAt
import Derived.Maps.Views
import Derived.Deep.AppendLies
import Derived.Deep.DrawnRows
import Derived.RegionDies
import Derived.Defers
import Derived.Recover
import Derived.Maps.RangeWalk
import Derived.Deep.MidRow
import Derived.Laws.Small
import Derived.Great.Ranges
import Derived.Laws.Tables
import Derived.Laws.Externs
set_option maxRecDepth 100000
set_option maxHeartbeats 8000000
namespace Go.Proofs.YtfpgjkbjbbgciaaGreatDoor
namespace Sp
def bt(s:ByteArray)(k:Nat):Int:=((s.data[k]?.getD 0).toNat:Int)
theorem zzf(s:ByteArray)(k:Nat)(h:k<s.size):((s[k]'h).toNat:Int)=bt s k:=by
 have h':k<s.data.size:=h
 unfold bt
 rw [Array.getElem?_eq_getElem h']
 rfl
theorem zzg(s:ByteArray)(k:Nat):0≤bt s k∧bt s k≤255:=by
 unfold bt
 have:=(s.data[k]?.getD 0).toNat_lt
 omega
def regB(s:ByteArray):Bool:=decide (s.size=2)&&decide (bt s 0=114)&&decide (48≤bt s 1)&&decide (bt s 1≤55)
def reg(s:ByteArray):Int:=if regB s=true then bt s 1-48 else -1
def zdC(s:ByteArray)(i:Nat):Nat→Int→Option Int
 | 0,v=>some v
 | k+1,v=>if i<s.size∧128≤bt s i∧bt s i≤191 then zdC s (i+1) k (64*v+bt s i-128) else none
def zdw(n least:Int):Option Int→Int × Int
 | none=>(0,0)
 | some v=>if v<least∨1114111<v∨(55296≤v∧v≤57343) then(0,0) else(n,v)
def chr(s:ByteArray)(i:Nat):Int × Int :=
 if bt s i<128 then(1,bt s i)
 else if 194≤bt s i∧bt s i<224 then zdw 2 128 (zdC s (i+1) 1 (bt s i-192))
 else if 224≤bt s i∧bt s i<240 then zdw 3 2048 (zdC s (i+1) 2 (bt s i-224))
 else if 240≤bt s i∧bt s i<245 then zdw 4 65536 (zdC s (i+1) 3 (bt s i-240))
 else(0,0)
end Sp
section
open Go.RowKit Sp
theorem zqG(x y:Int)(hx:0≤x)(hy:0≤y)(W:World):(callFunc 236 #[.int .u64 x,.int .u64 y,.int .u64 0]).run Tryz.prog W=.ok (.value (.tuple #[.int .u64 ((x+y)%18446744073709551616),.int .u64 ((x+y)/18446744073709551616)])) W:=by
 rw [run_callFunc_extern Tryz.func236 (by kernel_rfl) (by kernel_rfl) (by kernel_rfl) (e:=add64Entry) (by kernel_rfl),run_add64 _ _ 0 hx hy (by omega) (by omega)]
 simp only [Result.andThen,Int.add_zero]
end
end Go.Proofs.YtfpgjkbjbbgciaaGreatDoor
