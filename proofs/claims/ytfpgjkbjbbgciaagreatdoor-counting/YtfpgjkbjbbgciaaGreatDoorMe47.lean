import Derived.Test.YtfpgjkbjbbgciaaGreatDoorMe46
import Derived.Test.YtfpgjkbjbbgciaaGreatDoorCards
import Derived.Test.YtfpgjkbjbbgciaaGreatDoorTie
import Derived.Deep.DeepLaidRun
set_option maxRecDepth 100000
set_option maxHeartbeats 8000000
namespace Go.Proofs.YtfpgjkbjbbgciaaGreatDoor.Sp
def zjF (L : List Said) (p : Nat) : Option (Ins × Int):=L[p]?.map fun q => (insQ L p q,za0 L (p + 1))
theorem zdg {L : List Said} {m : Mc} {p : Nat} {i : Ins} {nx : Int} (hp : m.at' = (p : Int)) (h : zjF L p = some (i,nx)) : zbc L m = exec i nx m:=by
 unfold zjF at h
 unfold zbc
 rw [hp,Int.toNat_natCast]
 cases hq : L[p]? with
 | none => rw [hq] at h; cases h
 | some q =>
  rw [hq] at h
  simp only [Option.map_some,Option.some.injEq,Prod.mk.injEq] at h
  rw [← h.1,← h.2]
structure CntL (L : List Said) (i k : Nat) (a l b : Int) : Prop where
 c1 : zjF L 1 = some (.set i a,2)
 c2 : zjF L 2 = some (.set k l,4)
 c4 : zjF L 4 = some (.less i k 7,5)
 c5 : zjF L 5 = some (.back,7)
 c7 : zjF L 7 = some (.write i,8)
 c8 : zjF L 8 = some (.inc i b,9)
 c9 : zjF L 9 = some (.jump 4,-1)
 bg : za0 L (zdV L 0 + 1) = 1
theorem zs9 (A B DA DL DB : ByteArray) : Prog (cntL A B DA DL DB):=by
 have c11 : ∀ k,k < (cntL A B DA DL DB).length → k = 0 ∨ k = 1 ∨ k = 2 ∨ k = 3 ∨ k = 4 ∨ k = 5 ∨ k = 6 ∨ k = 7 ∨ k = 8 ∨ k = 9 ∨ k = 10:=fun k hk => by
  have : (cntL A B DA DL DB).length = 11:=rfl
  omega
 refine ⟨fun q hq => ?_,⟨_,_,rfl,rfl⟩,fun k hk => ?_,fun k hk => ?_,fun k hk => ?_⟩
 ·simp only [cntL,List.mem_cons,List.not_mem_nil,or_false] at hq
  rcases hq with e | e | e | e | e | e | e | e | e | e | e <;> rw [e]
 ·rcases c11 k hk with rfl | rfl | rfl | rfl | rfl | rfl | rfl | rfl | rfl | rfl | rfl <;> kernel_rfl
 ·rcases c11 k hk with rfl | rfl | rfl | rfl | rfl | rfl | rfl | rfl | rfl | rfl | rfl <;> kernel_rfl
 ·rcases c11 k hk with rfl | rfl | rfl | rfl | rfl | rfl | rfl | rfl | rfl | rfl | rfl <;> kernel_rfl
theorem zsA (A B DA DL DB : ByteArray) : CntL (cntL A B DA DL DB) (regN A) (regN B) (zbv DA).1 (zbv DL).1 (zbv DB).1 :=
 ⟨by kernel_rfl,by kernel_rfl,by kernel_rfl,by kernel_rfl,by kernel_rfl,by kernel_rfl,by kernel_rfl,by kernel_rfl⟩
structure CntAt (i k : Nat) (a l b : Int) (c : Nat) (m : Mc) : Prop where
 at_ : m.at' = ((4 : Nat) : Int)
 fin : m.fin = 0
 ri : m.regs i = a + (c : Int) * b
 rk : m.regs k = l
 steps : m.steps = 2 + 4 * (c : Int)
 out : m.out = (List.range c).map fun (j : Nat) => a + (j : Int) * b
 frames : m.frames = 1
 peak : m.peak = 1
theorem zsB {L : List Said} {i k : Nat} {a l b : Int} (C : CntL L i k a l b) (hne : ¬ i = k) (b0 : 1 ≤ b) (b1 : b ≤ 1000) (a0 : -4611686018427387904 ≤ a) (l1 : l ≤ 4611686018427387904) {c : Nat} {m : Mc} (M : CntAt i k a l b c m) (hlt : a + (c : Int) * b < l) (n : Nat) :
  ∃ m',runS (zbc L) (n + 4) m = runS (zbc L) n m' ∧ CntAt i k a l b (c + 1) m':=by
 obtain ⟨h1,h2,h3,h4,h5,h6,h7,h8⟩:=M
 have hcb : 0 ≤ (c : Int) * b:=Int.mul_nonneg (by omega) (by omega)
 have e1 : zbc L m = m.goes 7:=by
  rw [zdg h1 C.c4]
  show m.goes (if m.regs i < m.regs k then 7 else 5) = _
  rw [h3,h4,if_pos hlt]
 have e2 : zbc L (m.goes 7) = ({ m.goes 7 with out:=m.out ++ [m.regs i] } : Mc).goes 8:=by
  rw [zdg (p:=7) rfl C.c7]; rfl
 have e3 : zbc L (({ m.goes 7 with out:=m.out ++ [m.regs i] } : Mc).goes 8) = ({ ({ m.goes 7 with out:=m.out ++ [m.regs i] } : Mc).goes 8 with regs:=upd m.regs i (w64 (m.regs i + b)) } : Mc).goes 9:=by
  rw [zdg (p:=8) rfl C.c8]; rfl
 have e4 : zbc L (({ ({ m.goes 7 with out:=m.out ++ [m.regs i] } : Mc).goes 8 with regs:=upd m.regs i (w64 (m.regs i + b)) } : Mc).goes 9) = (({ ({ m.goes 7 with out:=m.out ++ [m.regs i] } : Mc).goes 8 with regs:=upd m.regs i (w64 (m.regs i + b)) } : Mc).goes 9).goes 4:=by
  rw [zdg (p:=9) rfl C.c9]; rfl
 refine ⟨(({ ({ m.goes 7 with out:=m.out ++ [m.regs i] } : Mc).goes 8 with regs:=upd m.regs i (w64 (m.regs i + b)) } : Mc).goes 9).goes 4,?_,rfl,h2,?_,?_,?_,?_,h7,h8⟩
 ·rw [show n + 4 = n + 1 + 1 + 1 + 1 from rfl,zay _ _ _ h2,e1,zay _ _ _ (by exact h2),e2,zay _ _ _ (by exact h2),e3,zay _ _ _ (by exact h2),e4]
 ·show upd m.regs i (w64 (m.regs i + b)) i = _
  have : ((c + 1 : Nat) : Int) * b = (c : Int) * b + b:=by rw [Int.natCast_add,Int.add_mul]; simp
  rw [zc9,h3,this]
  generalize (c : Int) * b = x at *
  unfold w64; omega
 ·show upd m.regs i (w64 (m.regs i + b)) k = _
  rw [zcU _ _ _ _ (fun e => hne e.symm)]; exact h4
 ·show m.steps + 1 + 1 + 1 + 1 = _
  rw [h5]; omega
 ·show m.out ++ [m.regs i] = _
  rw [h3,h6,List.range_succ]; simp
theorem zpS {L : List Said} {i k : Nat} {a l b : Int} (C : CntL L i k a l b) (hne : ¬ i = k) (b0 : 1 ≤ b) (b1 : b ≤ 1000) (a0 : -4611686018427387904 ≤ a) (l1 : l ≤ 4611686018427387904) (n d : Nat) {c : Nat} {m : Mc} (M : CntAt i k a l b c m) (hlt : ∀ j : Nat,j < c + d → a + (j : Int) * b < l) :
  ∃ m',runS (zbc L) (n + 4 * d) m = runS (zbc L) n m' ∧ CntAt i k a l b (c + d) m':=by
 induction d generalizing c m with
 | zero => exact ⟨m,rfl,M⟩
 | succ d ih =>
  obtain ⟨m1,e,M1⟩:=zsB C hne b0 b1 a0 l1 M (hlt c (by omega)) (n + 4 * d)
  obtain ⟨m2,e2,M2⟩:=ih M1 (fun j hj => hlt j (by omega))
  refine ⟨m2,?_,by rw [show c + (d + 1) = c + 1 + d by omega]; exact M2⟩
  rw [show n + 4 * (d + 1) = n + 4 * d + 4 by omega,e,e2]
def zfA (a l b : Int) : Int:=if l ≤ a then 0 else (l - a - 1) / b + 1
theorem zwd {L : List Said} {i k : Nat} {a l b : Int} (C : CntL L i k a l b) (hne : ¬ i = k) (b0 : 1 ≤ b) (b1 : b ≤ 1000) (a0 : -4611686018427387904 ≤ a) (l1 : l ≤ 4611686018427387904) (c n : Nat) (hc : (c : Int) = zfA a l b) (hn : 4 * c + 4 ≤ n) :
  ∃ m,runS (zbc L) n (zbl L []) = m ∧ m.fin = 2 ∧ m.at' = -1 ∧ m.steps = 4 * (c : Int) + 4 ∧ m.out = ((List.range c).map fun (j : Nat) => a + (j : Int) * b) ∧ m.frames = 0 ∧ m.peak = 1 ∧ m.regs k = l ∧ l ≤ m.regs i:=by
 have hbd : ∀ j : Nat,j < c → a + (j : Int) * b < l:=fun j hj => by
  unfold zfA at hc
  split at hc
  ·omega
  ·have h1 : (j : Int) ≤ (l - a - 1) / b:=by omega
   have h2 : (j : Int) * b ≤ (l - a - 1) / b * b:=Int.mul_le_mul_of_nonneg_right h1 (by omega)
   have h3 : (l - a - 1) / b * b ≤ l - a - 1:=Int.ediv_mul_le _ (by omega)
   omega
 have hge : l ≤ a + (c : Int) * b:=by
  unfold zfA at hc
  split at hc
  ·rw [hc]; omega
  ·have h3 : l - a - 1 < ((l - a - 1) / b + 1) * b:=Int.lt_ediv_add_one_mul_self _ (by omega)
   rw [hc]; omega
 have b1' : (zbl L []).at' = ((1 : Nat) : Int):=C.bg
 have e1 : zbc L (zbl L []) = ({ zbl L [] with regs:=upd (fun _ => 0) i a } : Mc).goes 2:=by
  rw [zdg b1' C.c1]; rfl
 have e2 : zbc L (({ zbl L [] with regs:=upd (fun _ => 0) i a } : Mc).goes 2) = ({ ({ zbl L [] with regs:=upd (fun _ => 0) i a } : Mc).goes 2 with regs:=upd (upd (fun _ => 0) i a) k l } : Mc).goes 4:=by
  rw [zdg (p:=2) rfl C.c2]; rfl
 have M0 : CntAt i k a l b 0 (({ ({ zbl L [] with regs:=upd (fun _ => 0) i a } : Mc).goes 2 with regs:=upd (upd (fun _ => 0) i a) k l } : Mc).goes 4):=by
  refine ⟨rfl,rfl,?_,?_,rfl,rfl,rfl,rfl⟩
  ·show upd (upd (fun _ => 0) i a) k l i = _
   rw [zcU _ _ _ _ hne,zc9]; simp
  ·show upd (upd (fun _ => 0) i a) k l k = _
   rw [zc9]
 obtain ⟨n',rfl⟩:=Nat.exists_eq_add_of_le hn
 obtain ⟨m1,e3,M⟩:=zpS C hne b0 b1 a0 l1 (n' + 2) c M0 (fun j hj => hbd j (by omega))
 rw [Nat.zero_add] at M
 obtain ⟨h1,h2,h3,h4,h5,h6,h7,h8⟩:=M
 have e4 : zbc L m1 = m1.goes 5:=by
  rw [zdg h1 C.c4]
  show m1.goes (if m1.regs i < m1.regs k then 7 else 5) = _
  rw [h3,h4,if_neg (by omega)]
 have e5 : zbc L (m1.goes 5) = ({ m1.goes 5 with frames:=0,fin:=2 } : Mc).goes (-1):=by
  rw [zdg (p:=5) rfl C.c5]
  show (if m1.frames = 1 then _ else _) = _
  rw [if_pos h7]
 refine ⟨({ m1.goes 5 with frames:=0,fin:=2 } : Mc).goes (-1),?_,rfl,rfl,?_,h6,rfl,h8,h4,?_⟩
 ·rw [show 4 * c + 4 + n' = (n' + 2 + 4 * c) + 1 + 1 by omega,zay _ _ _ rfl,e1,zay _ _ _ rfl,e2,e3,zay _ _ _ h2,e4,zay _ _ _ (by exact h2),e5,zbQ _ _ _ (by show ¬ (2 : Int) = 0; decide)]
 ·show m1.steps + 1 + 1 = _
  rw [h5]; omega
 ·show l ≤ m1.regs i
  rw [h3]; exact hge
end Go.Proofs.YtfpgjkbjbbgciaaGreatDoor.Sp
namespace Go.Proofs.YtfpgjkbjbbgciaaGreatDoor
open Go.RowKit Sp
theorem VerdL.ends {L : List Said} {bs bf : Int} (h : VerdL L (some (bs,bf))) (inp : List Int) (hin : ∀ x ∈ inp,i64 x) (N : Nat) (hN : bs ≤ (N : Int)) :
  ((runS (zbc L) N (zbl L inp)).fin = 1 ∨ (runS (zbc L) N (zbl L inp)).fin = 2) ∧ (runS (zbc L) N (zbl L inp)).steps ≤ bs ∧ (runS (zbc L) N (zbl L inp)).peak ≤ bf:=by
 obtain ⟨F,R,hv⟩:=h
 have e:=(zmd R.sim R.codeOk N (zdv R.codeOk inp)).1
 rw [← R.begin inp] at e
 rw [e]
 exact hv.ends R.sure inp hin N hN
theorem VerdL.bound {L : List Said} {bs bf : Int} (h : VerdL L (some (bs,bf))) : 1 ≤ bs ∧ bs ≤ 100000 ∧ 1 ≤ bf ∧ bf ≤ 16:=by
 obtain ⟨F,R,hv⟩:=h
 exact hv.bound R.sure
theorem zlr (m : Mc) (ov : Value) (line : Int) : (zak m ov line)[27]? = some (.int .i64 m.peak):=by simp [zak]
theorem zd0 (m : Mc) (ov : Value) (line : Int) : (zak m ov line)[29]? = some (.int .i64 m.fin):=by simp [zak]
end Go.Proofs.YtfpgjkbjbbgciaaGreatDoor
namespace Go.Proofs.YtfpgjkbjbbgciaaGreatDoor
open Go.ChangeShapes Go.WideShapes Go.ChangeAt Go.RowKit Sp
def zhZ : DataW Unit → List Value
 | .agg l => l.map fun
  | .lit (.int k n) => Value.int k n
  | _ => Value.int .u8 0
 | _ => []
noncomputable def laidWorld (os : Os) : World :=
 let N:=(World.settled Tryz.prog os).heap.size
 let w0:=World.holding Tryz.prog os ⟨#[
  .cells #[.string ⟨#[105,110,118,97,108,105,100,32,115,121,110,116,97,120]⟩] 269,
  .cells #[.string ⟨#[118,97,108,117,101,32,111,117,116,32,111,102,32,114,97,110,103,101]⟩] 269],#[],[]⟩
 let put (h : Array Obj) (g : Nat) (cs : Array Value) : Array Obj:=h.modify g fun
  | .cells _ t frozen => .cells cs t frozen
  | o => o
 let h1:=put w0.heap 1 (Lib.firstTab.map fun z => Value.int .u8 z).toArray
 let h2:=put h1 2 ((List.range 16).flatMap fun i => [Value.int .u8 (Lib.accLo i),Value.int .u8 (Lib.accHi i)]).toArray
 let h3:=put h2 3 #[.iface 267 (.pointer (some ⟨N,0,none⟩))]
 let h4:=put h3 4 #[.iface 267 (.pointer (some ⟨N + 1,0,none⟩))]
 let h5:=put h4 5 (zhZ Rows.laid_internal_strconv_uint64pow10).toArray
 let h6:=put h5 6 (zhZ Rows.laid_math_bits_deBruijn32tab).toArray
 let h7:=put h6 7 (zhZ Rows.laid_math_bits_deBruijn64tab).toArray
 { w0 with heap:=h7 }
theorem zjC (os : Os) (args : Array Value) : laidMet Tryz.prog Rows.checksUptoRow.laid ((laidWorld os).forCall (fun _ _ => 0) ⟨#[],args,[]⟩).memory :=
 laidMet_of_run3 8 (by kernel_rfl) (by kernel_rfl) (by kernel_rfl)
end Go.Proofs.YtfpgjkbjbbgciaaGreatDoor
namespace Go.Proofs.YtfpgjkbjbbgciaaGreatDoor
open Go.ChangeShapes Go.WideShapes Go.ChangeAt Go.RowKit Sp
open Go.ChangeMaps (open_string shut_string)
theorem zmE {H : Type} {enc : TypeId × Value → H} {W : World} {base : Nat} {v : Value} {d : DataW H} {p : List MemPlace} (hval : Value.okWide Tryz.prog W .any base 29 v) (h : DataW.Trod enc Tryz.prog W 0 (fun _ => true) true 29 v d p) :
  ∃ (ao : Option Addr) (icap : Nat) (inp : List Int),v = .slice ao inp.length icap ∧ SlB W W.heap.size (.slice ao inp.length icap) inp ∧ inp.length ≤ Rows.uptoBulk d ∧ (∀ x ∈ inp,i64 x) ∧ inp.length ≤ 9223372036854775807 ∧
   ∀ W',Below W.heap.size W W' → DataW.Trod enc Tryz.prog W' 0 (fun b => decide (b < W.heap.size)) true 29 v d p:=by
 obtain ⟨a0,len0,cap0,rfl⟩:=okWide_slice Tryz.underlying29 hval
 obtain ⟨fuel,hf⟩:=h
 have hc : Tryz.prog.cellsOf 2 = 1:=by kernel_rfl
 rcases open_ints Tryz.underlying29 Tryz.underlying2 hc hf with ⟨hcs,hx⟩ | ⟨a,len,cap,zs,hcs,_,hle,hmax,hall,hx,hcell,hwf⟩
 ·simp [Value.cells] at hcs
  obtain ⟨rfl,rfl,rfl⟩:=hcs
  simp only [Prod.mk.injEq] at hx
  obtain ⟨rfl,rfl⟩:=hx
  refine ⟨none,0,[],rfl,⟨none,0,rfl,Nat.le_refl _,fun h => by simp at h⟩,Nat.zero_le _,(fun x hx => (by cases hx)),Nat.zero_le _,fun W' _ => ⟨1,?_⟩⟩
  simp [DataW.trod,Value.cells,Tryz.underlying29]
 ·simp [Value.cells] at hcs
  obtain ⟨rfl,rfl,rfl⟩:=hcs
  simp only [Prod.mk.injEq] at hx
  obtain ⟨rfl,rfl⟩:=hx
  simp only [if_true] at hall
  have hlt : (zs.take len0).length = len0:=by rw [List.length_take]; omega
  refine ⟨some a,cap0,zs.take len0,by rw [hlt],⟨some a,cap0,rfl,by omega,fun hp => ?_⟩,?_,fun x hx => ?_,by rw [hlt]; exact Nat.le_trans hle (Nat.le_trans hmax (by decide)),fun W' hb => ⟨2,?_⟩⟩
  ·obtain ⟨b,off,rfl,hat⟩:=ints_at hcell (by omega)
   have hbl : b < W.heap.size:=World.block_lt_of_cell? W _ (hat 0 (by omega))
   refine ⟨b,off,rfl,hbl,hbl,fun j hj => ?_⟩
   rw [hat j (by omega)]
   simp [List.getD,show j < zs.length by omega]
  ·have:=zoT (lits (H:=H) .i64 (zs.take len0)) (lits .i64 (zs.drop len0))
   have hll : (lits (H:=H) .i64 (zs.take len0)).length = (zs.take len0).length:=by simp [lits]
   rw [hll] at this
   exact Nat.le_trans (Nat.le_add_right _ _) this
  ·have:=hwf x (List.mem_of_mem_take hx)
   simp only [Lit.wf,Bool.and_eq_true,decide_eq_true_eq] at this
   exact this
  ·have hz : zs.length = (if decide (a.block < W.heap.size) = true then cap0 else len0):=by
    by_cases h0 : 0 < zs.length
    ·have : a.block < W.heap.size:=by
      have:=World.block_lt_of_cell? W _ (hcell 0 h0)
      simpa [Addr.add] using this
     rw [if_pos (by simpa using this)]; exact hall
    ·split <;> omega
   have:=shut_ints (enc:=enc) (P:=Tryz.prog) (w:=W') (base:=0) (spare:=fun b => decide (b < W.heap.size)) (held:=true) 0 Tryz.underlying29 Tryz.underlying2 hc (Nat.zero_le _) hle hmax hz (fun i hi => zap hb (hcell i hi)) hwf
   simpa [Value.cells] using this
end Go.Proofs.YtfpgjkbjbbgciaaGreatDoor
