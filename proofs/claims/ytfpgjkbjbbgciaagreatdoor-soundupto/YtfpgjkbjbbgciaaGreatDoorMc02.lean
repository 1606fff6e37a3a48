import Derived.Test.YtfpgjkbjbbgciaaGreatDoorMc00
import Derived.Test.YtfpgjkbjbbgciaaGreatDoorProg
import Derived.WalkKit
import Derived.WalkSpells
import Derived.WalkLawsBesides
import Derived.Lib.Strings
import Derived.Shelf.Small.Wraps
import Derived.Shelf.LaysM
import Derived.Shelf.LaysC
import Derived.Shelf.Strconv.ParseIntPublic10
import Derived.Shelf.Strconv.ErrVarParseInt
import Derived.Shelf.Strings.Count
import Derived.Shelf.Strings.Prefix
import Derived.Shelf.Strings.Split
import Derived.Shelf.Unicode.DecodeAny
set_option maxRecDepth 100000
set_option maxHeartbeats 8000000
namespace Go.Proofs.YtfpgjkbjbbgciaaGreatDoor
open Go.RowKit Sp
theorem zcE (s : ByteArray) (h : s.size = 0) : s.toList.isEmpty = true:=by
 have h' : s.data.size = 0:=h
 rw [ByteArray.toList_eq,List.isEmpty_iff]
 exact List.eq_nil_of_length_eq_zero (by simpa using h')
theorem zdi (s : ByteArray) (h : ¬ s.size = 0) : s.toList.isEmpty = false:=by
 have h' : ¬ s.data.size = 0:=h
 rw [ByteArray.toList_eq]
 cases e : s.data.toList with
 | nil => exact absurd (by rw [← Array.length_toList,e]; rfl) h'
 | cons a l => rfl
theorem zin {k : IntKind} {a : Int} {b : Bool} {R : Int × Bool} (h : (a,b) = R) : Ending.returned (.tuple #[.int k a,.bool b]) = .returned (.tuple #[.int k R.1,.bool R.2]):=by rw [← h]
theorem zmU (n d : Int) (h1 : 0 ≤ d) (h2 : d ≤ 9) (h3 : n ≤ 0) (h4 : (-9223372036854775808 + d).tdiv 10 ≤ n) : wrap64 (wrap64 (10 * n) - d) = 10 * n - d:=by
 have e:=zg9 d h2
 unfold least at e
 rw [e] at h4
 have e1 : wrap64 (10 * n) = 10 * n:=IntWalk.wrap64_in _ (by omega)
 rw [e1]
 exact IntWalk.wrap64_in _ (by omega)
theorem zpY (n d : Int) (h1 : 0 ≤ d) (h2 : d ≤ 9) (h4 : (-9223372036854775808 + d).tdiv 10 ≤ n) : ¬ zcT n d = true:=by
 unfold zcT least
 simp
 omega
theorem znZ (n d : Int) (h : d < 0 ∨ 9 < d ∨ n < (-9223372036854775808 + d).tdiv 10) : zcT n d = true:=by
 unfold zcT least
 simp
 omega
theorem zmV (s : ByteArray) (R : Int × Bool) (m : Bool) (j : Nat) (n d : Int) (hR : R = zbj m (zc1 s j n)) (hj : j < s.size) (e : d = bt s j - 48) (h : d < 0 ∨ 9 < d ∨ n < (-9223372036854775808 + d).tdiv 10) : (0,false) = R:=by
 subst e; rw [hR,zee s j n hj (znZ _ _ h)]; rfl
theorem zmW (s : ByteArray) (R : Int × Bool) (m : Bool) (j : Nat) (n d : Int) (hR : R = zbj m (zc1 s j n)) (hj : j < s.size) (e : d = bt s j - 48) (h1 : 0 ≤ d) (h2 : d ≤ 9) (h4 : (-9223372036854775808 + d).tdiv 10 ≤ n) : R = zbj m (zc1 s (j + 1) (10 * n - d)):=by
 subst e; rw [hR,zd5 s j n hj (zpY _ _ h1 h2 h4)]
theorem zpZ (n d : Int) (h1 : 0 ≤ d) (h2 : d ≤ 9) (h3 : n ≤ 0) (h4 : (-9223372036854775808 + d).tdiv 10 ≤ n) : least ≤ 10 * n - d ∧ 10 * n - d ≤ 0:=by
 have e:=zg9 d h2
 unfold least at e
 rw [e] at h4
 unfold least
 omega
theorem zoa (s : ByteArray) (j : Nat) (h : j + 1 < s.size) : bt (s.extract 1 s.size) j = bt s (j + 1):=by
 have h' : j + 1 < s.data.size:=h
 unfold bt
 congr 2
 rw [ByteArray.data_extract,Array.getElem?_extract]
 rw [if_pos (by omega)]
 congr 2
 omega
theorem size_extract (s : ByteArray) : (s.extract 1 s.size).size = s.size - 1:=by
 rw [ByteArray.size_extract]; omega
theorem zfn (s : ByteArray) (j : Nat) (n : Int) (h : 1 ≤ s.size) : zc1 (s.extract 1 s.size) j n = zc1 s (j + 1) n:=by
 by_cases hj : j < (s.extract 1 s.size).size
 ·have hs:=size_extract s
  have e:=zoa s j (by omega)
  by_cases hb : zcT n (bt (s.extract 1 s.size) j - 48) = true
  ·rw [zee _ _ _ hj hb]
   rw [e] at hb
   rw [zee _ _ _ (by omega) hb]
  ·rw [zd5 _ _ _ hj hb]
   rw [e] at hb
   rw [zd5 _ _ _ (by omega) hb,e]
   exact zfn s (j + 1) _ h
 ·have hs:=size_extract s
  rw [zd4 _ _ _ hj,zd4 _ _ _ (by omega)]
termination_by (s.extract 1 s.size).size - j
theorem zob (s : ByteArray) (h : zdl s = false) (hz : s.size = 0) : (0,false) = za6 s:=by
 unfold za6; rw [if_neg (by simp [h]),if_pos hz]
theorem zoc (s : ByteArray) (h : zdl s = false) (hz : ¬ s.size = 0) : za6 s = zbj false (zc1 s 0 0):=by
 unfold za6; rw [if_neg (by simp [h]),if_neg hz]
theorem zod (s : ByteArray) (h : zdl s = true) (hz : s.size = 1) : (0,false) = za6 s:=by
 unfold za6; rw [if_pos h,if_pos hz]
theorem zlG (s : ByteArray) (h : zdl s = true) (hz : ¬ s.size = 1) : za6 s = zbj true (zc1 s 1 0):=by
 unfold za6; rw [if_pos h,if_neg hz]
theorem zqa (s : ByteArray) (h : zdl s = false) (hp : 0 < s.size) : ((s[0].toNat : Int) == 45) = false:=by
 have e:=zd3 s 0 hp
 simp [zdl,hp] at h
 simp [e,h]
theorem zsO (s : ByteArray) (h : zdl s = true) : ∃ hp : 0 < s.size,((s[0].toNat : Int) == 45) = true:=by
 simp [zdl] at h
 refine ⟨h.1,?_⟩
 have e:=zd3 s 0 h.1
 simp [e,h.2]
theorem zjS (n : Int) : (n,true) = zbj true (some n):=rfl
theorem zlH (n : Int) (h0 : -9223372036854775808 ≤ n) (h1 : n ≤ 0) : (wrap64 (-n),decide (-9223372036854775808 < n)) = zbj false (some n):=by
 have e : zbj false (some n) = (if n = least then least else -n,decide (least < n)):=rfl
 rw [e]
 unfold least
 by_cases h : n = -9223372036854775808
 ·rw [if_pos h]; subst h; unfold wrap64; simp
 ·rw [if_neg h,IntWalk.wrap64_in _ (by omega)]
theorem zsP (s : ByteArray) (w : World) (hs : s.size ≤ 140737488355328) (h : zdl s = false) :
  Calls Tryz.prog 76 #[.string s] w fun e w' => e = .returned (.tuple #[.int .i64 (za6 s).1,.bool (za6 s).2]) ∧ w' = w:=by
 by_cases hz : s.size = 0
 ·have he:=zcE s hz
  have HQ : Hid ((0,false) = za6 s):=zob s h hz
  go_enter Tryz.func76,Tryz.ntmps76
  go_wp2
  go_ret2
  exact ⟨zin HQ.out,rfl⟩
 ·have he:=zdi s hz
  have hp : 0 < s.size:=by omega
  have hb:=zqa s h hp
  have hR:=zoc s h hz
  generalize za6 s = R at hR
  have HR : Hid (R = zbj false (zc1 s 0 0)):=hR
  clear hR h
  go_enter Tryz.func76,Tryz.ntmps76
  go_wp2
  go_loop [5,6] (fun tn ti => ∃ (j : Nat) (n : Int),j ≤ s.size ∧ least ≤ n ∧ n ≤ 0 ∧ ti = .int .i64 (j : Int) ∧ tn = .int .i64 n ∧ R = zbj false (zc1 s j n)) (fun _ ti => s.size - (intOf ti).toNat)
  case atStart => exact ⟨0,0,by omega,by unfold least; omega,by omega,rfl,rfl,HR.out⟩
  case round =>
   obtain ⟨j,n,hj,hn0,hn1,rfl,rfl,hR⟩:=hrel
   clear HR
   have HR : Hid (R = zbj false (zc1 s j n)):=hR
   clear hR
   unfold least at hn0
   by_cases hlt : j < s.size
   ·have hc0 : 0 ≤ (s[j].toNat : Int):=by omega
    have hc1 : (s[j].toNat : Int) ≤ 255:=by have:=s[j].toNat_lt; omega
    have HE : Hid ((s[j].toNat : Int) = bt s j):=zd3 s j hlt
    go_wp2
    all_goals first
     | (go_ret2; have e:=HE.out; exact ⟨zin (zmV s R false j n ((s[j].toNat : Int) - 48) HR.out hlt (by rw [e]) (by omega)),rfl⟩)
     | (go_round
        case rel =>
         have e:=HE.out
         have h4 : (-9223372036854775808 + ((s[j].toNat : Int) - 48)).tdiv 10 ≤ n:=by omega
         have hl:=zpZ n ((s[j].toNat : Int) - 48) (by omega) (by omega) hn1 h4
         exact ⟨j + 1,10 * n - ((s[j].toNat : Int) - 48),by omega,hl.1,hl.2,by go_num,by rw [zmU n _ (by omega) (by omega) hn1 h4],zmW s R false j n ((s[j].toNat : Int) - 48) HR.out hlt (by rw [e]) (by omega) (by omega) h4⟩
        case measure => simp [intOf]; omega)
   ·have HF : Hid (R = zbj false (some n)):=by rw [HR.out,zd4 s j n hlt]; rfl
    go_wp2
    go_ret2
    exact ⟨zin ((zlH n hn0 hn1).trans HF.out.symm),rfl⟩
theorem zqb (s : ByteArray) (w : World) (hs : s.size ≤ 140737488355328) (h : zdl s = true) :
  Calls Tryz.prog 76 #[.string s] w fun e w' => e = .returned (.tuple #[.int .i64 (za6 s).1,.bool (za6 s).2]) ∧ w' = w:=by
 obtain ⟨hp,hb⟩:=zsO s h
 have hsz:=size_extract s
 by_cases hz : s.size = 1
 ·have he:=zcE (s.extract 1 s.size) (by omega)
  have HQ : Hid ((0,false) = za6 s):=zod s h hz
  clear hsz h
  go_enter Tryz.func76,Tryz.ntmps76
  go_wp2
  go_ret2
  exact ⟨zin HQ.out,rfl⟩
 ·have he:=zdi (s.extract 1 s.size) (by omega)
  have hR:=zlG s h hz
  rw [← zfn s 0 0 (by omega)] at hR
  generalize za6 s = R at hR
  have HR : Hid (R = zbj true (zc1 (s.extract 1 s.size) 0 0)):=hR
  have HZ : Hid ((s.extract 1 s.size).size = s.size - 1):=hsz
  have hts : (s.extract 1 s.size).size ≤ 140737488355328:=by omega
  clear hR h hsz
  go_enter Tryz.func76,Tryz.ntmps76
  go_wp2
  generalize s.extract 1 s.size = t at *
  go_loop [5,6] (fun tn ti => ∃ (j : Nat) (n : Int),j ≤ t.size ∧ least ≤ n ∧ n ≤ 0 ∧ ti = .int .i64 (j : Int) ∧ tn = .int .i64 n ∧ R = zbj true (zc1 t j n)) (fun _ ti => t.size - (intOf ti).toNat)
  case atStart => exact ⟨0,0,by omega,by unfold least; omega,by omega,rfl,rfl,HR.out⟩
  case round =>
   obtain ⟨j,n,hj,hn0,hn1,rfl,rfl,hR⟩:=hrel
   clear HR
   have HR : Hid (R = zbj true (zc1 t j n)):=hR
   clear hR
   unfold least at hn0
   by_cases hlt : j < t.size
   ·have hc0 : 0 ≤ (t[j].toNat : Int):=by omega
    have hc1 : (t[j].toNat : Int) ≤ 255:=by have:=t[j].toNat_lt; omega
    have HE : Hid ((t[j].toNat : Int) = bt t j):=zd3 t j hlt
    go_wp2
    all_goals first
     | (go_ret2; have e:=HE.out; exact ⟨zin (zmV t R true j n ((t[j].toNat : Int) - 48) HR.out hlt (by rw [e]) (by omega)),rfl⟩)
     | (go_round
        case rel =>
         have e:=HE.out
         have h4 : (-9223372036854775808 + ((t[j].toNat : Int) - 48)).tdiv 10 ≤ n:=by omega
         have hl:=zpZ n ((t[j].toNat : Int) - 48) (by omega) (by omega) hn1 h4
         exact ⟨j + 1,10 * n - ((t[j].toNat : Int) - 48),by omega,hl.1,hl.2,by go_num,by rw [zmU n _ (by omega) (by omega) hn1 h4],zmW t R true j n ((t[j].toNat : Int) - 48) HR.out hlt (by rw [e]) (by omega) (by omega) h4⟩
        case measure => simp [intOf]; omega)
   ·have HF : Hid (R = zbj true (some n)):=by rw [HR.out,zd4 t j n hlt]; rfl
    go_wp2
    go_ret2
    exact ⟨zin ((zjS n).trans HF.out.symm),rfl⟩
theorem zlI (s : ByteArray) (w : World) (hs : s.size ≤ 140737488355328) :
  Calls Tryz.prog 76 #[.string s] w fun e w' => e = .returned (.tuple #[.int .i64 (za6 s).1,.bool (za6 s).2]) ∧ w' = w:=by
 cases h : zdl s with
 | true => exact zqb s w hs h
 | false => exact zsP s w hs h
end Go.Proofs.YtfpgjkbjbbgciaaGreatDoor
namespace Go.Proofs
open Go.Shelf
def Tryz.lays104_ren : Go.Shelf.Ren:=⟨fun | 104 => 128 | 211 => 148 | 207 => 164 | n => n,fun | 9 => 9 | 4 => 4 | 24 => 206 | 3 => 3 | n => n,fun | n => n⟩
theorem Tryz.lays104 : Go.Proofs.Lays.n104 Tryz.prog Tryz.lays104_ren:={
 mixed:=by kernel_rfl
 f104:=Tryz.func128.trans (congrArg some (by kernel_rfl))
 f207:=Tryz.func164.trans (congrArg some (by kernel_rfl))
 f211:=Tryz.func148.trans (congrArg some (by kernel_rfl))
 t3:=Tryz.underlying3
 a3:=Tryz.isAgg3
 z3:=Tryz.sizeOf3
 v3:=Tryz.zeroValue3
 t4:=Tryz.underlying4
 a4:=Tryz.isAgg4
 z4:=Tryz.sizeOf4
 v4:=Tryz.zeroValue4
 t9:=Tryz.underlying9
 a9:=Tryz.isAgg9
 z9:=Tryz.sizeOf9
 v9:=Tryz.zeroValue9
 t24:=Tryz.underlying206
 a24:=Tryz.isAgg206
 z24:=Tryz.sizeOf206
 v24:=Tryz.zeroValue206 }
open Go.RowKit in
theorem Tryz.strings_CutSuffix (s p : ByteArray) (w : World) (hs : s.size ≤ 9223372036854775807) :
  Calls Tryz.prog 128 #[.string s,.string p] w fun e w' => e = .returned (.tuple #[.string ⟨(Lib.trimSuffix s.data.toList p.data.toList).toArray⟩,.bool (Lib.hasSuffix s.data.toList p.data.toList)]) ∧ w' = w:=Any.strings_CutSuffix Tryz.lays104 s p w hs
def Tryz.laysC174_ren : Go.Shelf.Ren:=⟨fun | 174 => 175 | 247 => 180 | 245 => 181 | 287 => 184 | 279 => 185 | 280 => 186 | 281 => 187 | 282 => 188 | 321 => 189 | 322 => 190 | 316 => 191 | 171 => 193 | 205 => 192 | 243 => 194 | 246 => 195 | 283 => 196 | 284 => 197 | 285 => 198 | 286 => 199 | 129 => 201 | 317 => 200 | 318 => 202 | 319 => 203 | 320 => 204 | 337 => 205 | 338 => 206 | n => n,fun | 9 => 9 | 3 => 3 | 2 => 2 | 75 => 246 | 85 => 247 | 4 => 4 | 167 => 255 | 5 => 5 | 53 => 256 | 175 => 257 | 46 => 231 | 168 => 259 | 37 => 157 | 0 => 0 | 210 => 264 | 21 => 21 | 127 => 266 | 145 => 269 | 143 => 267 | 171 => 271 | 173 => 274 | 212 => 277 | 51 => 237 | 20 => 20 | 213 => 278 | 232 => 281 | 233 => 282 | 80 => 202 | n => n,fun | 15 => 3 | 16 => 4 | 17 => 5 | 18 => 6 | 19 => 7 | n => n⟩
theorem Tryz.laysC174 : Go.Proofs.LaysC.n174 Tryz.prog Tryz.laysC174_ren:={
 mixed:=by kernel_rfl
 f129:=Tryz.func201.trans (congrArg some (by kernel_rfl))
 f171:=Tryz.func193.trans (congrArg some (by kernel_rfl))
 f174:=Tryz.func175.trans (congrArg some (by kernel_rfl))
 f205:=Tryz.func192.trans (congrArg some (by kernel_rfl))
 f243:=Tryz.func194.trans (congrArg some (by kernel_rfl))
 f245:=Tryz.func181.trans (congrArg some (by kernel_rfl))
 f246:=Tryz.func195.trans (congrArg some (by kernel_rfl))
 f247:=Tryz.func180.trans (congrArg some (by kernel_rfl))
 f279:=Tryz.func185.trans (congrArg some (by kernel_rfl))
 f280:=Tryz.func186.trans (congrArg some (by kernel_rfl))
 f281:=Tryz.func187.trans (congrArg some (by kernel_rfl))
 f282:=Tryz.func188.trans (congrArg some (by kernel_rfl))
 f283:=Tryz.func196.trans (congrArg some (by kernel_rfl))
 f284:=Tryz.func197.trans (congrArg some (by kernel_rfl))
 f285:=Tryz.func198.trans (congrArg some (by kernel_rfl))
 f286:=Tryz.func199.trans (congrArg some (by kernel_rfl))
 f287:=Tryz.func184.trans (congrArg some (by kernel_rfl))
 f316:=Tryz.func191.trans (congrArg some (by kernel_rfl))
 f317:=Tryz.func200.trans (congrArg some (by kernel_rfl))
 f318:=Tryz.func202.trans (congrArg some (by kernel_rfl))
 f319:=Tryz.func203.trans (congrArg some (by kernel_rfl))
 f320:=Tryz.func204.trans (congrArg some (by kernel_rfl))
 f321:=Tryz.func189.trans (congrArg some (by kernel_rfl))
 f322:=Tryz.func190.trans (congrArg some (by kernel_rfl))
 f337:=Tryz.func205.trans (congrArg some (by kernel_rfl))
 f338:=Tryz.func206.trans (congrArg some (by kernel_rfl))
 t0:=Tryz.underlying0
 a0:=Tryz.isAgg0
 z0:=Tryz.sizeOf0
 v0:=Tryz.zeroValue0
 t2:=Tryz.underlying2
 a2:=Tryz.isAgg2
 z2:=Tryz.sizeOf2
 v2:=Tryz.zeroValue2
 t3:=Tryz.underlying3
 a3:=Tryz.isAgg3
 z3:=Tryz.sizeOf3
 v3:=Tryz.zeroValue3
 t4:=Tryz.underlying4
 a4:=Tryz.isAgg4
 z4:=Tryz.sizeOf4
 v4:=Tryz.zeroValue4
 t5:=Tryz.underlying5
 a5:=Tryz.isAgg5
 z5:=Tryz.sizeOf5
 v5:=Tryz.zeroValue5
 t9:=Tryz.underlying9
 a9:=Tryz.isAgg9
 z9:=Tryz.sizeOf9
 v9:=Tryz.zeroValue9
 t20:=Tryz.underlying20
 a20:=Tryz.isAgg20
 z20:=Tryz.sizeOf20
 v20:=Tryz.zeroValue20
 t21:=Tryz.underlying21
 a21:=Tryz.isAgg21
 z21:=Tryz.sizeOf21
 v21:=Tryz.zeroValue21
 t37:=Tryz.underlying157
 a37:=Tryz.isAgg157
 z37:=Tryz.sizeOf157
 v37:=Tryz.zeroValue157
 t46:=Tryz.underlying231
 a46:=Tryz.isAgg231
 z46:=Tryz.sizeOf231
 v46:=Tryz.zeroValue231
 t51:=Tryz.underlying237
 a51:=Tryz.isAgg237
 z51:=Tryz.sizeOf237
 v51:=Tryz.zeroValue237
 t53:=Tryz.underlying256
 a53:=Tryz.isAgg256
 z53:=Tryz.sizeOf256
 v53:=Tryz.zeroValue256
 t75:=Tryz.underlying246
 a75:=Tryz.isAgg246
 z75:=Tryz.sizeOf246
 v75:=Tryz.zeroValue246
 t85:=Tryz.underlying247
 a85:=Tryz.isAgg247
 z85:=Tryz.sizeOf247
 v85:=Tryz.zeroValue247
 t127:=Tryz.underlying266
 a127:=Tryz.isAgg266
 z127:=Tryz.sizeOf266
 v127:=Tryz.zeroValue266
 t143:=Tryz.underlying267
 a143:=Tryz.isAgg267
 z143:=Tryz.sizeOf267
 v143:=Tryz.zeroValue267
 t145:=Tryz.underlying269
 a145:=Tryz.isAgg269
 z145:=Tryz.sizeOf269
 v145:=Tryz.zeroValue269
 t167:=Tryz.underlying255
 a167:=Tryz.isAgg255
 z167:=Tryz.sizeOf255
 v167:=Tryz.zeroValue255
 t168:=Tryz.underlying259
 a168:=Tryz.isAgg259
 z168:=Tryz.sizeOf259
 v168:=Tryz.zeroValue259
 t171:=Tryz.underlying271
 a171:=Tryz.isAgg271
 z171:=Tryz.sizeOf271
 v171:=Tryz.zeroValue271
 t173:=Tryz.underlying274
 a173:=Tryz.isAgg274
 z173:=Tryz.sizeOf274
 v173:=Tryz.zeroValue274
 t175:=Tryz.underlying257
 a175:=Tryz.isAgg257
 z175:=Tryz.sizeOf257
 v175:=Tryz.zeroValue257
 t210:=Tryz.underlying264
 a210:=Tryz.isAgg264
 z210:=Tryz.sizeOf264
 v210:=Tryz.zeroValue264
 t212:=Tryz.underlying277
 a212:=Tryz.isAgg277
 z212:=Tryz.sizeOf277
 v212:=Tryz.zeroValue277
 t213:=Tryz.underlying278
 a213:=Tryz.isAgg278
 z213:=Tryz.sizeOf278
 t232:=Tryz.underlying281
 a232:=Tryz.isAgg281
 z232:=Tryz.sizeOf281
 v232:=Tryz.zeroValue281
 t233:=Tryz.underlying282
 a233:=Tryz.isAgg282
 z233:=Tryz.sizeOf282
 v233:=Tryz.zeroValue282
 g15:=by kernel_rfl
 g16:=by kernel_rfl
 g17:=by kernel_rfl
 g18:=by kernel_rfl
 g19:=by kernel_rfl
 t80:=Tryz.underlying202
 a80:=Tryz.isAgg202
 z80:=Tryz.sizeOf202
 v80:=Tryz.zeroValue202
 i0:=by kernel_rfl
 i2:=by kernel_rfl
 i3:=by kernel_rfl
 i4:=by kernel_rfl
 i5:=by kernel_rfl
 i9:=by kernel_rfl
 i20:=by kernel_rfl
 i21:=by kernel_rfl
 i37:=by kernel_rfl
 i46:=by kernel_rfl
 i51:=by kernel_rfl
 i53:=by kernel_rfl
 i75:=by kernel_rfl
 i80:=by kernel_rfl
 i85:=by kernel_rfl
 i127:=by kernel_rfl
 i143:=by kernel_rfl
 i145:=by kernel_rfl
 i167:=by kernel_rfl
 i168:=by kernel_rfl
 i171:=by kernel_rfl
 i173:=by kernel_rfl
 i175:=by kernel_rfl
 i210:=by kernel_rfl
 i212:=by kernel_rfl
 i232:=by kernel_rfl
 i233:=by kernel_rfl
 m15:=by kernel_rfl
 m16:=by kernel_rfl
 m17:=by kernel_rfl
 m18:=by kernel_rfl
 m19:=by kernel_rfl
 c0:=by kernel_rfl
 c2:=by kernel_rfl
 c3:=by kernel_rfl
 c4:=by kernel_rfl
 c5:=by kernel_rfl
 c9:=by kernel_rfl
 c20:=by kernel_rfl
 c21:=by kernel_rfl
 c37:=by kernel_rfl
 c46:=by kernel_rfl
 c51:=by kernel_rfl
 c53:=by kernel_rfl
 c75:=by kernel_rfl
 c80:=by kernel_rfl
 c85:=by kernel_rfl
 c127:=by kernel_rfl
 c143:=by kernel_rfl
 c145:=by kernel_rfl
 c167:=by kernel_rfl
 c168:=by kernel_rfl
 c171:=by kernel_rfl
 c173:=by kernel_rfl
 c175:=by kernel_rfl
 c210:=by kernel_rfl
 c212:=by kernel_rfl
 c213:=by kernel_rfl
 c232:=by kernel_rfl
 c233:=by kernel_rfl }
open Go.RowKit in
theorem Tryz.strconv_ParseInt_10_at64_ok (s : ByteArray) (hmax : s.size ≤ 9223372036854775806) (v : Int) (h : Lib.parseIntB 64 s.data.toList = .ok v) (w : World) :
  Calls Tryz.prog 175 #[.string s,.int .i64 10,.int .i64 64] w fun e w' => e = .returned (.tuple #[.int .i64 v,.nilIface]) ∧ (w' = w ∨ ∃ t,w' = Lib.bytesWorld w 5 t):=Any.strconv_ParseInt_10_at64_ok Tryz.laysC174 s hmax v h w
open Go.RowKit in
theorem Tryz.strconv_ParseInt_10_at64_syntax_var (s : ByteArray) (hlim : s.size ≤ 281474976710656) (h : Lib.parseIntB 64 s.data.toList = .«syntax») (tp : TypeId) (p : Value) (w : World) (hvar : w.var? Tryz.prog "strconv.ErrSyntax" = some #[.iface tp p]) :
  Calls Tryz.prog 175 #[.string s,.int .i64 10,.int .i64 64] w fun e w' => ∃ N,e = .returned (.tuple #[.int .i64 (0),.iface 259 (.pointer (some ⟨N,0,none⟩))]) ∧ w.heap.size ≤ N ∧ w'.heap[N]? = some (.cells #[.string ⟨#[80,97,114,115,101,73,110,116]⟩,.string s,.iface tp p] 264 (0,0)) ∧ Below w.heap.size w w':=Any.strconv_ParseInt_10_at64_syntax_var Tryz.laysC174 s hlim h tp p w hvar
open Go.RowKit in
theorem Tryz.strconv_ParseInt_10_at64_range_var (s : ByteArray) (hlim : s.size ≤ 281474976710656) (h : Lib.parseIntB 64 s.data.toList = .range) (tp : TypeId) (p : Value) (w : World) (hvar : w.var? Tryz.prog "strconv.ErrRange" = some #[.iface tp p]) :
  Calls Tryz.prog 175 #[.string s,.int .i64 10,.int .i64 64] w fun e w' => ∃ N,e = .returned (.tuple #[.int .i64 (Lib.intSat 64 s.data.toList),.iface 259 (.pointer (some ⟨N,0,none⟩))]) ∧ w.heap.size ≤ N ∧ w'.heap[N]? = some (.cells #[.string ⟨#[80,97,114,115,101,73,110,116]⟩,.string s,.iface tp p] 264 (0,0)) ∧ Below w.heap.size w w':=Any.strconv_ParseInt_10_at64_range_var Tryz.laysC174 s hlim h tp p w hvar
def Tryz.lays138_ren : Go.Shelf.Ren:=⟨fun | 138 => 96 | 195 => 122 | 218 => 123 | 143 => 124 | 219 => 144 | 217 => 157 | 225 => 158 | 224 => 159 | 267 => 160 | 266 => 172 | 314 => 173 | n => n,fun | 9 => 9 | 3 => 3 | 4 => 4 | 5 => 5 | 0 => 0 | 46 => 231 | 146 => 238 | 51 => 237 | n => n,fun | 1 => 0 | n => n⟩
theorem Tryz.lays138 : Go.Proofs.Lays.n138 Tryz.prog Tryz.lays138_ren:={
 mixed:=by kernel_rfl
 f138:=Tryz.func96.trans (congrArg some (by kernel_rfl))
 f143:=Tryz.func124.trans (congrArg some (by kernel_rfl))
 f195:=Tryz.func122.trans (congrArg some (by kernel_rfl))
 f217:=Tryz.func157.trans (congrArg some (by kernel_rfl))
 f218:=Tryz.func123.trans (congrArg some (by kernel_rfl))
 f219:=Tryz.func144.trans (congrArg some (by kernel_rfl))
 f224:=Tryz.func159.trans (congrArg some (by kernel_rfl))
 f225:=Tryz.func158.trans (congrArg some (by kernel_rfl))
 f266:=Tryz.func172.trans (congrArg some (by kernel_rfl))
 f267:=Tryz.func160.trans (congrArg some (by kernel_rfl))
 f314:=Tryz.func173.trans (congrArg some (by kernel_rfl))
 t0:=Tryz.underlying0
 a0:=Tryz.isAgg0
 z0:=Tryz.sizeOf0
 v0:=Tryz.zeroValue0
 t3:=Tryz.underlying3
 a3:=Tryz.isAgg3
 z3:=Tryz.sizeOf3
 v3:=Tryz.zeroValue3
 t4:=Tryz.underlying4
 a4:=Tryz.isAgg4
 z4:=Tryz.sizeOf4
 v4:=Tryz.zeroValue4
 t5:=Tryz.underlying5
 a5:=Tryz.isAgg5
 z5:=Tryz.sizeOf5
 v5:=Tryz.zeroValue5
 t9:=Tryz.underlying9
 a9:=Tryz.isAgg9
 z9:=Tryz.sizeOf9
 v9:=Tryz.zeroValue9
 t46:=Tryz.underlying231
 a46:=Tryz.isAgg231
 z46:=Tryz.sizeOf231
 v46:=Tryz.zeroValue231
 t51:=Tryz.underlying237
 a51:=Tryz.isAgg237
 z51:=Tryz.sizeOf237
 v51:=Tryz.zeroValue237
 t146:=Tryz.underlying238
 a146:=Tryz.isAgg238
 z146:=Tryz.sizeOf238
 v146:=Tryz.zeroValue238
 g1:=by kernel_rfl }
open Go.RowKit Go.Lib in
theorem Tryz.strings_Count_one (s : ByteArray) (c : UInt8) (w : World) :
  Calls Tryz.prog 96 #[.string s,.string ⟨#[c]⟩] w fun e w' => e = .returned (.int .i64 (Lib.countByte s.data.toList c)) ∧ w' = w:=Any.strings_Count_one Tryz.lays138 s c w
def Tryz.lays101_ren : Go.Shelf.Ren:=⟨fun | 101 => 174 | 208 => 179 | 206 => 183 | n => n,fun | 9 => 9 | 4 => 4 | 3 => 3 | n => n,fun | n => n⟩
theorem Tryz.lays101 : Go.Proofs.Lays.n101 Tryz.prog Tryz.lays101_ren:={
 mixed:=by kernel_rfl
 f101:=Tryz.func174.trans (congrArg some (by kernel_rfl))
 f206:=Tryz.func183.trans (congrArg some (by kernel_rfl))
 f208:=Tryz.func179.trans (congrArg some (by kernel_rfl))
 t3:=Tryz.underlying3
 a3:=Tryz.isAgg3
 z3:=Tryz.sizeOf3
 v3:=Tryz.zeroValue3
 t4:=Tryz.underlying4
 a4:=Tryz.isAgg4
 z4:=Tryz.sizeOf4
 v4:=Tryz.zeroValue4
 t9:=Tryz.underlying9
 a9:=Tryz.isAgg9
 z9:=Tryz.sizeOf9
 v9:=Tryz.zeroValue9 }
open Go.RowKit Go.Lib in
theorem Tryz.strings_TrimPrefix (s p : ByteArray) (w : World) :
  Calls Tryz.prog 174 #[.string s,.string p] w fun e w' => e = .returned (.string ⟨(Lib.trimPrefix s.data.toList p.data.toList).toArray⟩) ∧ w' = w:=Any.strings_TrimPrefix Tryz.lays101 s p w
def Tryz.lays146_ren : Go.Shelf.Ren:=⟨fun | 146 => 97 | 221 => 125 | 268 => 145 | 138 => 96 | 143 => 124 | 195 => 122 | 197 => 146 | 218 => 123 | 219 => 144 | 260 => 161 | 217 => 157 | 225 => 158 | 224 => 159 | 267 => 160 | 266 => 172 | 314 => 173 | n => n,fun | 9 => 9 | 31 => 67 | 3 => 3 | 4 => 4 | 0 => 0 | 105 => 220 | 21 => 21 | 5 => 5 | 46 => 231 | 119 => 240 | 139 => 243 | 138 => 242 | 146 => 238 | 51 => 237 | n => n,fun | 1 => 0 | 3 => 1 | 4 => 2 | n => n⟩
theorem Tryz.lays146 : Go.Proofs.Lays.n146 Tryz.prog Tryz.lays146_ren:={
 mixed:=by kernel_rfl
 f138:=Tryz.func96.trans (congrArg some (by kernel_rfl))
 f143:=Tryz.func124.trans (congrArg some (by kernel_rfl))
 f146:=Tryz.func97.trans (congrArg some (by kernel_rfl))
 f195:=Tryz.func122.trans (congrArg some (by kernel_rfl))
 f197:=Tryz.func146.trans (congrArg some (by kernel_rfl))
 f217:=Tryz.func157.trans (congrArg some (by kernel_rfl))
 f218:=Tryz.func123.trans (congrArg some (by kernel_rfl))
 f219:=Tryz.func144.trans (congrArg some (by kernel_rfl))
 f221:=Tryz.func125.trans (congrArg some (by kernel_rfl))
 f224:=Tryz.func159.trans (congrArg some (by kernel_rfl))
 f225:=Tryz.func158.trans (congrArg some (by kernel_rfl))
 f260:=Tryz.func161.trans (congrArg some (by kernel_rfl))
 f266:=Tryz.func172.trans (congrArg some (by kernel_rfl))
 f267:=Tryz.func160.trans (congrArg some (by kernel_rfl))
 f268:=Tryz.func145.trans (congrArg some (by kernel_rfl))
 f314:=Tryz.func173.trans (congrArg some (by kernel_rfl))
 t0:=Tryz.underlying0
 a0:=Tryz.isAgg0
 z0:=Tryz.sizeOf0
 v0:=Tryz.zeroValue0
 t3:=Tryz.underlying3
 a3:=Tryz.isAgg3
 z3:=Tryz.sizeOf3
 v3:=Tryz.zeroValue3
 t4:=Tryz.underlying4
 a4:=Tryz.isAgg4
 z4:=Tryz.sizeOf4
 v4:=Tryz.zeroValue4
 t5:=Tryz.underlying5
 a5:=Tryz.isAgg5
 z5:=Tryz.sizeOf5
 v5:=Tryz.zeroValue5
 t9:=Tryz.underlying9
 a9:=Tryz.isAgg9
 z9:=Tryz.sizeOf9
 v9:=Tryz.zeroValue9
 t21:=Tryz.underlying21
 a21:=Tryz.isAgg21
 z21:=Tryz.sizeOf21
 v21:=Tryz.zeroValue21
 t31:=Tryz.underlying67
 a31:=Tryz.isAgg67
 z31:=Tryz.sizeOf67
 v31:=Tryz.zeroValue67
 t46:=Tryz.underlying231
 a46:=Tryz.isAgg231
 z46:=Tryz.sizeOf231
 v46:=Tryz.zeroValue231
 t51:=Tryz.underlying237
 a51:=Tryz.isAgg237
 z51:=Tryz.sizeOf237
 v51:=Tryz.zeroValue237
 t105:=Tryz.underlying220
 a105:=Tryz.isAgg220
 z105:=Tryz.sizeOf220
 v105:=Tryz.zeroValue220
 t119:=Tryz.underlying240
 a119:=Tryz.isAgg240
 z119:=Tryz.sizeOf240
 t138:=Tryz.underlying242
 a138:=Tryz.isAgg242
 z138:=Tryz.sizeOf242
 v138:=Tryz.zeroValue242
 t139:=Tryz.underlying243
 a139:=Tryz.isAgg243
 z139:=Tryz.sizeOf243
 v139:=Tryz.zeroValue243
 t146:=Tryz.underlying238
 a146:=Tryz.isAgg238
 z146:=Tryz.sizeOf238
 v146:=Tryz.zeroValue238
 g1:=by kernel_rfl
 g3:=by kernel_rfl
 g4:=by kernel_rfl }
open Go.RowKit Go.Lib in
theorem Tryz.strings_Split (s sep : ByteArray) (m : Int) (w : World) (hs : s.size < 4294967281) (hm : w.cell? ⟨0,0,none⟩ = some (.int .i64 m)) (h1 : 1 ≤ sep.size) :
  Calls Tryz.prog 97 #[.string s,.string sep] w fun e w' =>
   e = .returned (.slice (some ⟨w.heap.size,0,none⟩) (Lib.countB s sep + 1) (Lib.countB s sep + 1)) ∧ w' = w.alloc (.cells ((Lib.splitB sep 0 (Lib.countB s sep) s).map Value.string).toArray 9):=Any.strings_Split Tryz.lays146 (by kernel_rfl) s sep m w hs hm h1
def Tryz.lays197_ren : Go.Shelf.Ren:=⟨fun | 197 => 146 | 260 => 161 | n => n,fun | 9 => 9 | 21 => 21 | 3 => 3 | 4 => 4 | 5 => 5 | 105 => 220 | 119 => 240 | 0 => 0 | 46 => 231 | 139 => 243 | 138 => 242 | n => n,fun | 3 => 1 | 4 => 2 | n => n⟩
theorem Tryz.lays197 : Go.Proofs.Lays.n197 Tryz.prog Tryz.lays197_ren:={
 mixed:=by kernel_rfl
 f197:=Tryz.func146.trans (congrArg some (by kernel_rfl))
 f260:=Tryz.func161.trans (congrArg some (by kernel_rfl))
 t0:=Tryz.underlying0
 a0:=Tryz.isAgg0
 z0:=Tryz.sizeOf0
 v0:=Tryz.zeroValue0
 t3:=Tryz.underlying3
 a3:=Tryz.isAgg3
 z3:=Tryz.sizeOf3
 v3:=Tryz.zeroValue3
 t4:=Tryz.underlying4
 a4:=Tryz.isAgg4
 z4:=Tryz.sizeOf4
 v4:=Tryz.zeroValue4
 t5:=Tryz.underlying5
 a5:=Tryz.isAgg5
 z5:=Tryz.sizeOf5
 v5:=Tryz.zeroValue5
 t9:=Tryz.underlying9
 a9:=Tryz.isAgg9
 z9:=Tryz.sizeOf9
 v9:=Tryz.zeroValue9
 t21:=Tryz.underlying21
 a21:=Tryz.isAgg21
 z21:=Tryz.sizeOf21
 v21:=Tryz.zeroValue21
 t46:=Tryz.underlying231
 a46:=Tryz.isAgg231
 z46:=Tryz.sizeOf231
 v46:=Tryz.zeroValue231
 t105:=Tryz.underlying220
 a105:=Tryz.isAgg220
 z105:=Tryz.sizeOf220
 v105:=Tryz.zeroValue220
 t119:=Tryz.underlying240
 a119:=Tryz.isAgg240
 z119:=Tryz.sizeOf240
 t138:=Tryz.underlying242
 a138:=Tryz.isAgg242
 z138:=Tryz.sizeOf242
 v138:=Tryz.zeroValue242
 t139:=Tryz.underlying243
 a139:=Tryz.isAgg243
 z139:=Tryz.sizeOf243
 v139:=Tryz.zeroValue243
 g3:=by kernel_rfl
 g4:=by kernel_rfl }
open Go.RowKit Go.Lib in
theorem Tryz.utf8_DecodeRuneInString (s : ByteArray) (w : World) (hT : Lib.Utf8Tabs 1 2 w) :
  Calls Tryz.prog 146 #[.string s] w fun e w' => e = .returned (.tuple #[.int .i32 (Lib.decodeGo s).1,.int .i64 (Lib.decodeGo s).2]) ∧ Below w.heap.size w w':=Any.utf8_DecodeRuneInString Tryz.lays197 s w hT
end Go.Proofs
