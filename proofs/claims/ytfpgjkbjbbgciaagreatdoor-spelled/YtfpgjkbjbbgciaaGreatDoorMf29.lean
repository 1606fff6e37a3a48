import Derived.Test.YtfpgjkbjbbgciaaGreatDoorMf21
import Derived.Test.YtfpgjkbjbbgciaaGreatDoorCards
import Derived.Test.YtfpgjkbjbbgciaaGreatDoorTie
import Derived.Deep.DeepLaidRun
import Derived.OpenShut
set_option maxRecDepth 100000
set_option maxHeartbeats 8000000
namespace Go.Proofs.YtfpgjkbjbbgciaaGreatDoor.Sp
theorem zkq (a b : List UInt8) : eqW (ba a) (ba b) = decide (a = b):=by
 unfold eqW; rw [zfI,zfI,Bool.eq_iff_iff]; simp
def Fs.head (f : Fs) : Said:=⟨102,[ba [102,117,110,99],ba f.name],true⟩
theorem zhG (f : Fs) (x : List UInt8) : isFn f.head (ba x) = decide (f.name = x):=by
 show (decide ((102 : Int) = 102) && eqW (ba f.name) (ba x)) = _
 rw [zkq]; simp
def fnI (x : List UInt8) : List Fs → Option Nat
 | [] => none
 | f :: r => if f.name = x then some 0 else (fnI x r).map (· + 1)
theorem zq7 (A b R : List Said) (x : ByteArray) (hb : zhE b) : zba (A ++ (b ++ R)) x A.length = zba (A ++ (b ++ R)) x (A.length + b.length):=by
 induction b generalizing A with
 | nil => rfl
 | cons q t ih =>
  have hq:=hb q List.mem_cons_self
  have hlt : A.length < (A ++ (q :: t ++ R)).length:=by simp
  have e0 : (A ++ (q :: t ++ R))[A.length] = q:=zfL A q (t ++ R) hlt
  rw [zci _ _ _ hlt (by rw [e0]; simp [isFn,hq])]
  have:=ih (A ++ [q]) (fun y hy => hb y (List.mem_cons_of_mem _ hy))
  rw [List.length_append,List.append_assoc] at this
  simp only [List.length_singleton,List.singleton_append] at this
  rw [List.cons_append,this,List.length_cons]
  congr 1; omega
theorem zmA (fs : List Fs) : offF fs 0 = 0:=by simp [offF,zaB]
theorem zmB (f : Fs) (fs : List Fs) (k : Nat) : offF (f :: fs) (k + 1) = f.body.length + 1 + offF fs k:=by
 unfold offF
 rw [List.take_succ_cons,zb8,List.length_append]
 simp [Fs.said]
theorem zmC (fs : List Fs) (A : List Said) (x : List UInt8) (hb : ∀ f ∈ fs,zhE f.body) : zba (A ++ zaB fs) (ba x) A.length = match fnI x fs with | none => -1 | some k => ((A.length + offF fs k : Nat) : Int):=by
 induction fs generalizing A with
 | nil => rw [ze6 _ _ _ (by simp [zaB])]; rfl
 | cons f t ih =>
  have e : zaB (f :: t) = f.head :: (f.body ++ zaB t):=by rw [zb8]; rfl
  rw [e]
  have hlt : A.length < (A ++ f.head :: (f.body ++ zaB t)).length:=by simp
  have e0 : (A ++ f.head :: (f.body ++ zaB t))[A.length] = f.head:=zfL A _ _ hlt
  by_cases hx : f.name = x
  ·rw [zc4 _ _ _ hlt (by rw [e0,zhG]; simpa using hx)]
   simp only [fnI,if_pos hx,zmA,Nat.add_zero]
  ·rw [zci _ _ _ hlt (by rw [e0,zhG]; simpa using hx)]
   have h1:=zq7 (A ++ [f.head]) f.body (zaB t) (ba x) (hb f List.mem_cons_self)
   have h2:=ih (A ++ f.head :: f.body) (fun y hy => hb y (List.mem_cons_of_mem _ hy))
   rw [List.length_append,List.append_assoc] at h1
   simp only [List.length_singleton,List.singleton_append] at h1
   rw [h1]
   rw [List.append_assoc,List.length_append,List.length_cons,List.cons_append] at h2
   rw [show A.length + 1 + f.body.length = A.length + (f.body.length + 1) by omega,h2]
   simp only [fnI,if_neg hx]
   cases fnI x t with
   | none => rfl
   | some k =>
    show ((A.length + (f.body.length + 1) + offF t k : Nat) : Int) = ((A.length + offF (f :: t) (k + 1) : Nat) : Int)
    rw [zmB]; omega
structure BodyOk (names : List (List UInt8)) (b : List Said) : Prop where
 nofn : zhE b
 ok : ∀ q ∈ b,q.ok = true
 labs : ∀ j (hj : j < b.length),b[j].kind = 108 → labI (b[j].word 0) b = some j
 asks : ∀ q ∈ b,q.kind = 105 → zaz (q.word 0) = true → labI q.last b ≠ none
 calls : ∀ q ∈ b,q.kind = 105 → zaQ (q.word 0) = true → ∃ x ∈ names,q.last = ba x
 ends : b.foldl (fun e q => if q.kind = 108 then false else if q.kind = 105 then ends (q.word 0) else e) false = true
theorem zoK {x : List UInt8} {fs : List Fs} (h : x ∈ fs.map Fs.name) : ∃ k,fnI x fs = some k ∧ k < fs.length:=by
 induction fs with
 | nil => cases h
 | cons f t ih =>
  by_cases hx : f.name = x
  ·exact ⟨0,by simp [fnI,hx],by simp⟩
  ·rw [List.map_cons] at h
   rcases List.mem_cons.1 h with e | e
   ·exact absurd e.symm hx
   ·obtain ⟨k,hk,hl⟩:=ih e
    exact ⟨k + 1,by simp [fnI,hx,hk],by simpa using hl⟩
theorem zr7 {A R : List Fs} {f : Fs} (hn : ((A ++ f :: R).map Fs.name).Nodup) : fnI f.name (A ++ f :: R) = some A.length:=by
 induction A with
 | nil => simp [fnI]
 | cons a t ih =>
  rw [List.cons_append,List.map_cons,List.nodup_cons] at hn
  have hne : ¬ a.name = f.name:=fun e => hn.1 (by rw [e]; simp)
  rw [List.cons_append,fnI,if_neg hne,ih hn.2]; simp
theorem zr8 (A R : List Fs) (f : Fs) : offF (A ++ f :: R) A.length = (zaB A).length:=by
 unfold offF; rw [List.take_left']; rfl
theorem zjm (fs : List Fs) (k : Nat) (h : k < (zaB fs).length) : ∃ A f R j,fs = A ++ f :: R ∧ k = (zaB A).length + j ∧ j ≤ f.body.length:=by
 induction fs generalizing k with
 | nil => simp [zaB] at h
 | cons f t ih =>
  by_cases hk : k ≤ f.body.length
  ·exact ⟨[],f,t,k,rfl,by simp [zaB],hk⟩
  ·rw [zb8,List.length_append] at h
   have hl : f.said.length = f.body.length + 1:=rfl
   obtain ⟨A,g,R,j,h1,h2,h3⟩:=ih (k - (f.body.length + 1)) (by omega)
   refine ⟨f :: A,g,R,j,by rw [h1]; rfl,?_,h3⟩
   rw [zb8,List.length_append,hl]; omega
theorem zdq {A R : List Fs} {f : Fs} : zaB (A ++ f :: R) = zaB A ++ (f.head :: f.body ++ zaB R):=by
 rw [zm9,zb8]; rfl
theorem zq8 (fs : List Fs) (h0 : fs ≠ []) (hn : (fs.map Fs.name).Nodup) (hb : ∀ f ∈ fs,BodyOk (fs.map Fs.name) f.body) : Prog (zaB fs):=by
 have hnf : ∀ f ∈ fs,zhE f.body:=fun f hf => (hb f hf).nofn
 have at0 : ∀ (A : List Fs) (f : Fs) (R : List Fs),fs = A ++ f :: R → (zaB fs)[(zaB A).length]? = some f.head:=fun A f R e => by
  rw [e,zdq,List.getElem?_append_right (Nat.le_refl _)]; simp
 have at1 : ∀ (A : List Fs) (f : Fs) (R : List Fs) (j : Nat) (hj : j < f.body.length),fs = A ++ f :: R → (zaB fs)[(zaB A).length + (j + 1)]? = some f.body[j]:=fun A f R j hj e => by
  rw [e,zdq,List.getElem?_append_right (by omega),show (zaB A).length + (j + 1) - (zaB A).length = j + 1 by omega,List.cons_append,List.getElem?_cons_succ,List.getElem?_append_left hj,List.getElem?_eq_getElem hj]
 have lab : ∀ (A : List Fs) (f : Fs) (R : List Fs) (j : Nat) (x : ByteArray),fs = A ++ f :: R → j ≤ f.body.length → zf6 (zaB fs) ((zaB A).length + j) x = match labI x f.body with | none => -1 | some i => (((zaB A).length + 1 + i : Nat) : Int):=fun A f R j x e hj => by
  have hf : zhE f.body:=hnf f (by rw [e]; simp)
  unfold zf6
  rw [e,zdq,zli (zaB A) f.body (zaB R) f.head rfl hf j hj]
  have:=zoI (zaB A ++ [f.head]) f.body (zaB R) x hf (zhF R)
  rw [List.length_append,List.append_assoc] at this
  simp only [List.length_singleton,List.singleton_append] at this
  rw [show ((((zaB A).length : Int) + 1).toNat) = (zaB A).length + 1 by omega]
  exact this
 refine ⟨fun q hq => ?_,?_,fun k hk => ?_,fun k hk => ?_,fun k hk => ?_⟩
 ·obtain ⟨f,hf,hq⟩:=List.mem_flatMap.1 hq
  rcases List.mem_cons.1 hq with e | e
  ·rw [e]
  ·exact (hb f hf).ok q e
 ·cases fs with
  | nil => exact absurd rfl h0
  | cons f t => exact ⟨f.head,f.body ++ zaB t,by rw [zb8]; rfl,rfl⟩
 ·obtain ⟨A,f,R,j,e,rfl,hj⟩:=zjm fs k hk
  unfold zd5
  cases j with
  | zero =>
   rw [Nat.add_zero,at0 A f R e]
   show (if (102 : Int) = 102 then decide (zba (zaB fs) (ba f.name) 0 < ((zaB A).length : Int)) else _) = false
   rw [if_pos rfl]
   have:=zmC fs [] f.name hnf
   rw [List.nil_append,List.length_nil] at this
   rw [this]
   have e2 : fnI f.name fs = some A.length:=by rw [e]; exact zr7 (by rw [← e]; exact hn)
   rw [e2]
   show decide (((0 + offF fs A.length : Nat) : Int) < _) = false
   rw [e,zr8]; simp
  | succ j =>
   rw [at1 A f R j (by omega) e]
   have hf:=hb f (by rw [e]; simp)
   have h1:=hf.nofn _ (List.getElem_mem (show j < f.body.length by omega))
   show (if f.body[j].kind = 102 then _ else if f.body[j].kind = 108 then _ else false) = false
   rw [if_neg h1]
   split
   ·rename_i h2
    rw [lab A f R (j + 1) _ e (by omega),hf.labs j (by omega) h2]
    simp; omega
   ·rfl
 ·obtain ⟨A,f,R,j,e,rfl,hj⟩:=zjm fs k hk
  unfold zb2
  cases j with
  | zero => rw [Nat.add_zero,at0 A f R e]; rfl
  | succ j =>
   rw [at1 A f R j (by omega) e]
   have hf:=hb f (by rw [e]; simp)
   have hm:=List.getElem_mem (show j < f.body.length by omega)
   show (if f.body[j].kind = 105 then _ else false) = false
   split
   ·rename_i h2
    split
    ·rename_i h3
     rw [lab A f R (j + 1) _ e (by omega)]
     have:=hf.asks _ hm h2 h3
     cases hl : labI f.body[j].last f.body with
     | none => exact absurd hl this
     | some i => simp; omega
    ·split
     ·rename_i h4
      obtain ⟨x,hx,hl⟩:=hf.calls _ hm h2 h4
      rw [hl]
      have:=zmC fs [] x hnf
      rw [List.nil_append,List.length_nil] at this
      rw [this]
      obtain ⟨k,hk,_⟩:=zoK hx
      rw [hk]; simp
     ·rfl
   ·rfl
 ·obtain ⟨A,f,R,j,e,rfl,hj⟩:=zjm fs k hk
  unfold zct
  cases j with
  | zero =>
   rw [Nat.add_zero,at0 A f R e]
   show (if (102 : Int) = 102 then !zed (zaB fs) ((zaB A).length + 1) false else false) = false
   rw [if_pos rfl]
   have hf:=hb f (by rw [e]; simp)
   have:=zoJ (zaB A ++ [f.head]) f.body (zaB R) false hf.nofn (zhF R)
   rw [List.length_append,List.append_assoc] at this
   simp only [List.length_singleton,List.singleton_append] at this
   rw [e,zdq,List.cons_append,this,hf.ends]; rfl
  | succ j =>
   rw [at1 A f R j (by omega) e]
   have hf:=hb f (by rw [e]; simp)
   have h1:=hf.nofn _ (List.getElem_mem (show j < f.body.length by omega))
   show (if f.body[j].kind = 102 then _ else false) = false
   rw [if_neg h1]
end Go.Proofs.YtfpgjkbjbbgciaaGreatDoor.Sp
namespace Go.Proofs.YtfpgjkbjbbgciaaGreatDoor
open Go.RowKit Sp
theorem zlJ (w : World) (a : Value) : ∀ j u,[a][j]? = some u → (w.alloc (.cells #[a] 2)).cell? ((⟨w.heap.size,0,none⟩ : Addr).add j) = some u:=by
 intro j u hj
 have h1:=World.cell?_alloc_new (w:=w) #[a] 2 j
 have h2 : (⟨w.heap.size,0,none⟩ : Addr).add j = ⟨w.heap.size,j,none⟩:=by simp [Addr.add]; omega
 rw [h2,h1]
 rw [← List.getElem?_toArray] at hj
 exact hj
end Go.Proofs.YtfpgjkbjbbgciaaGreatDoor
namespace Go.Proofs.YtfpgjkbjbbgciaaGreatDoor
open Sp
end Go.Proofs.YtfpgjkbjbbgciaaGreatDoor
namespace Go.Proofs.YtfpgjkbjbbgciaaGreatDoor
open Go.RowKit Sp
end Go.Proofs.YtfpgjkbjbbgciaaGreatDoor
namespace Go.Proofs.YtfpgjkbjbbgciaaGreatDoor
open Go.ChangeShapes Go.WideShapes Go.ChangeAt Go.RowKit Sp
def zgp : DataW Unit → List Value
 | .agg l => l.map fun
  | .lit (.int k n) => Value.int k n
  | _ => Value.int .u8 0
 | _ => []
noncomputable def laidWorld (os : Os) : World :=
 let N:=(World.settled Tryz.prog os).heap.size
 let w0:=World.holding Tryz.prog os ⟨#[
  .cells #[.string ⟨#[105,110,118,97,108,105,100,32,115,121,110,116,97,120]⟩] 269,
  .cells #[.string ⟨#[118,97,108,117,101,32,111,117,116,32,111,102,32,114,97,110,103,101]⟩] 269],#[],[]⟩
 let put (h : Array Obj) (g : Nat) (cs : Array Value) : Array Obj:=h.modify g fun
  | .cells _ t frozen => .cells cs t frozen
  | o => o
 let h1:=put w0.heap 1 (Lib.firstTab.map fun z => Value.int .u8 z).toArray
 let h2:=put h1 2 ((List.range 16).flatMap fun i => [Value.int .u8 (Lib.accLo i),Value.int .u8 (Lib.accHi i)]).toArray
 let h3:=put h2 3 #[.iface 267 (.pointer (some ⟨N,0,none⟩))]
 let h4:=put h3 4 #[.iface 267 (.pointer (some ⟨N + 1,0,none⟩))]
 let h5:=put h4 5 (zgp Rows.laid_internal_strconv_uint64pow10).toArray
 let h6:=put h5 6 (zgp Rows.laid_math_bits_deBruijn32tab).toArray
 let h7:=put h6 7 (zgp Rows.laid_math_bits_deBruijn64tab).toArray
 { w0 with heap:=h7 }
theorem zpZ (os : Os) (args : Array Value) : laidMet Tryz.prog Rows.checksUptoRow.laid ((laidWorld os).forCall (fun _ _ => 0) ⟨#[],args,[]⟩).memory :=
 laidMet_of_run3 8 (by kernel_rfl) (by kernel_rfl) (by kernel_rfl)
end Go.Proofs.YtfpgjkbjbbgciaaGreatDoor
namespace Go.Proofs.YtfpgjkbjbbgciaaGreatDoor
open Go.RowKit Sp
def zeQ (c n : Int) : Int:=(if c < 0 then -(c + 1) else c) % n
theorem zfz (c n : Int) (w : World) (hn : 0 < n) (hc : i64 c) : Calls Tryz.prog 37 #[.int .i64 c,.int .i64 n] w fun e w' => e = .returned (.int .i64 (zeQ c n)) ∧ w' = w:=by
 obtain ⟨hc1,hc2⟩:=hc
 by_cases h : c < 0
 ·have e1 : wrap64 (c + 1) = c + 1:=(by unfold wrap64; omega)
  have e2 : wrap64 (-(c + 1)) = -(c + 1):=(by unfold wrap64; omega)
  have e3 : (-(c + 1)).tmod n = -(c + 1) % n:=Int.tmod_eq_emod_of_nonneg (by omega)
  have e4 : zeQ c n = -(c + 1) % n:=by unfold zeQ; rw [if_pos h]
  rw [e4]
  go_enter Tryz.func37,Tryz.ntmps37
  go_wp2
  go_ret
  exact ⟨rfl,rfl⟩
 ·have e4 : zeQ c n = c % n:=by unfold zeQ; rw [if_neg h]
  rw [e4]
  go_enter Tryz.func37,Tryz.ntmps37
  go_wp2
  go_ret
  exact ⟨rfl,rfl⟩
theorem zob (n : Nat) (w : World) : (convert 157 9 (.slice (some ⟨w.heap.size,0,none⟩) 1 1)).run Tryz.prog (w.alloc (.cells #[.int .u8 (48 + (n : Int) % 10)] 5)) = .ok (.string (ba [UInt8.ofNat (48 + n % 10)])) (w.alloc (.cells #[.int .u8 (48 + (n : Int) % 10)] 5)):=by
 refine run_convert_bytes_back (P:=Tryz.prog) _ 157 9 5 ⟨w.heap.size,0,none⟩ 1 [UInt8.ofNat (48 + n % 10)] (by kernel_rfl) (by kernel_rfl) (by kernel_rfl) (fun j hj => ?_)
 have : j = 0:=by simp at hj; omega
 subst this
 show (w.alloc _).cell? ⟨w.heap.size,0 + 0,none⟩ = _
 rw [World.cell?_alloc_new (w:=w) #[.int .u8 (48 + (n : Int) % 10)] 5 0]
 have : ((UInt8.ofNat (48 + n % 10)).toNat : Int) = 48 + (n : Int) % 10:=by
  rw [UInt8.toNat_ofNat',Nat.mod_eq_of_lt (by omega)]; omega
 simp only [List.getElem_cons_zero,this]
 rfl
theorem zcP (a b : List UInt8) : ba a ++ ba b = ba (a ++ b):=by
 apply ByteArray.ext
 simp [ba,ByteArray.data_append]
theorem zpX (k n : Nat) (h : n < 10 ^ (k + 1)) : (decL n).length ≤ k + 1:=by
 induction k generalizing n with
 | zero => rw [zbt n (by simpa using h)]; simp
 | succ k ih =>
  by_cases hs : n < 10
  ·rw [zbt n hs]; simp
  ·have:=ih (n / 10) (by rw [Nat.pow_succ] at h; omega)
   rw [zdp n hs,List.length_append,List.length_singleton]
   omega
theorem zdw (n : Nat) (h : n ≤ 9223372036854775808) : (ba (decL n)).size ≤ 20:=zpX 19 n (by omega)
theorem ziD (n : Nat) (h : n ≤ 9223372036854775808) (w : World) : Calls Tryz.prog 63 #[.int .i64 (-(n : Int))] w fun e w' => e = .returned (.string (ba (decL n))) ∧ Below w.heap.size w w':=by
 induction n using Nat.strongRecOn generalizing w with
 | ind n ih =>
  have hcv:=zob n w
  have hb1 : Below w.heap.size w (w.alloc (.cells #[.int .u8 (48 + (n : Int) % 10)] 5)):=(Below.refl _ _).alloc (Nat.le_refl _) _
  by_cases hs : n < 10
  ·rw [zbt n hs]
   rw [show 48 + n % 10 = 48 + n by omega] at hcv
   generalize ba [UInt8.ofNat (48 + n)] = X at hcv ⊢
   go_enter Tryz.func63,Tryz.ntmps63
   go_wp2_with (first | (rw [hcv]; go_upon))
   go_ret
   exact ⟨rfl,hb1⟩
  ·have ih2:=ih (n / 10) (by omega) (by omega) (w.alloc (.cells #[.int .u8 (48 + (n : Int) % 10)] 5))
   rw [show ((n / 10 : Nat) : Int) = (n : Int) / 10 by omega] at ih2
   rw [zdp n hs,← zcP]
   have z1:=zdw (n / 10) (by omega)
   have z2 : (ba [UInt8.ofNat (48 + n % 10)]).size ≤ 1:=Nat.le_refl _
   generalize ba [UInt8.ofNat (48 + n % 10)] = X at hcv z2 ⊢
   generalize ba (decL (n / 10)) = Y at ih2 z1 ⊢
   have z3 : ¬ 9223372036854775807 < Y.size + X.size:=by omega
   go_enter Tryz.func63,Tryz.ntmps63
   go_wp2_with (first | (rw [hcv]; go_upon) | (go_at_call 63; refine ih2.mono ?_; rintro e w2 ⟨rfl,hb2⟩))
   go_ret
   exact ⟨rfl,hb1.trans (hb2.mono hb1.size)⟩
theorem zeR (n : Int) (h : i64 n) (w : World) : Calls Tryz.prog 36 #[.int .i64 n] w fun e w' => e = .returned (.string (ba (digL n))) ∧ Below w.heap.size w w':=by
 obtain ⟨h1,h2⟩:=h
 have z1:=zdw n.natAbs (by omega)
 by_cases hn : n < 0
 ·have hc:=ziD n.natAbs (by omega) w
  rw [show -((n.natAbs : Nat) : Int) = n by omega] at hc
  rw [show digL n = [45] ++ decL n.natAbs by unfold digL; rw [if_pos hn]; rfl,← zcP]
  generalize ba (decL n.natAbs) = Y at hc z1 ⊢
  have z3 : ¬ 9223372036854775807 < 1 + Y.size:=by omega
  go_enter Tryz.func36,Tryz.ntmps36
  go_wp2_with (go_at_call 63; refine hc.mono ?_; rintro e w2 ⟨rfl,hb2⟩)
  go_ret
  exact ⟨rfl,hb2⟩
 ·have hc:=ziD n.natAbs (by omega) w
  rw [show -((n.natAbs : Nat) : Int) = -n by omega] at hc
  rw [show digL n = decL n.natAbs by unfold digL; rw [if_neg hn]]
  generalize ba (decL n.natAbs) = Y at hc z1 ⊢
  go_enter Tryz.func36,Tryz.ntmps36
  go_wp2_with (go_at_call 63; refine hc.mono ?_; rintro e w2 ⟨rfl,hb2⟩)
  go_ret
  exact ⟨rfl,hb2⟩
def regB (r : Nat) : ByteArray:=ba [114,UInt8.ofNat (48 + r)]
theorem zpY (r : Nat) (h : r < 8) (w : World) : Calls Tryz.prog 38 #[.int .i64 (r : Int)] w fun e w' => e = .returned (.string (regB r)) ∧ Below w.heap.size w w':=by
 have hc:=zeR (r : Int) ⟨by omega,by omega⟩ w
 rw [show digL (r : Int) = [UInt8.ofNat (48 + r)] by unfold digL; rw [if_neg (by omega),Int.natAbs_natCast,zbt r (by omega)]] at hc
 rw [show regB r = ba [114] ++ ba [UInt8.ofNat (48 + r)] from (zcP [114] [UInt8.ofNat (48 + r)]).symm]
 have z : (ba [UInt8.ofNat (48 + r)]).size = 1:=rfl
 generalize ba [UInt8.ofNat (48 + r)] = Y at hc z ⊢
 have z3 : ¬ 9223372036854775807 < 1 + Y.size:=by omega
 go_enter Tryz.func38,Tryz.ntmps38
 go_wp2_with (go_at_call 36; refine hc.mono ?_; rintro e w2 ⟨rfl,hb2⟩)
 go_ret
 exact ⟨rfl,hb2⟩
end Go.Proofs.YtfpgjkbjbbgciaaGreatDoor
