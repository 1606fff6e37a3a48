import Derived.Test.YtfpgjkbjbbgciaaGreatDoorMe47
import Derived.Test.YtfpgjkbjbbgciaaGreatDoorMe48
set_option maxRecDepth 100000
set_option maxHeartbeats 8000000
namespace Go.Proofs.YtfpgjkbjbbgciaaGreatDoor
open Go.RowKit Sp
def unsT (A B : ByteArray) : ByteArray:=ba [102,117,110,99,32,109,97,105,110,10,9,115,101,116,32] ++ A ++ ba [32,48,10,9,114,101,97,100,32] ++ B ++ ba [10,97,103,97,105,110,58,10,9,108,101,115,115,32] ++ A ++ ba [32] ++ B ++ ba [32,109,111,114,101,10,9,115,116,111,112,10,109,111,114,101,58,10,9,105,110,99,32] ++ A ++ ba [32,49,10,9,106,117,109,112,32,97,103,97,105,110,10]
def zig (L : List Said) (p : Nat) : Option (Ins × Int):=L[p]?.map fun q => (insQ L p q,za0 L (p + 1))
theorem zdH {L : List Said} {m : Mc} {p : Nat} {i : Ins} {nx : Int} (hp : m.at' = (p : Int)) (h : zig L p = some (i,nx)) : zbc L m = exec i nx m:=by
 unfold zig at h
 unfold zbc
 rw [hp,Int.toNat_natCast]
 cases hq : L[p]? with
 | none => rw [hq] at h; cases h
 | some q =>
  rw [hq] at h
  simp only [Option.map_some,Option.some.injEq,Prod.mk.injEq] at h
  rw [← h.1,← h.2]
structure UnsL (L : List Said) (i k : Nat) : Prop where
 c1 : zig L 1 = some (.set i 0,2)
 c2 : zig L 2 = some (.read k,4)
 c4 : zig L 4 = some (.less i k 7,5)
 c7 : zig L 7 = some (.inc i 1,8)
 c8 : (zig L 8).map Prod.fst = some (.jump 4)
 bg : za0 L (zdV L 0 + 1) = 1
 tr : (runS (zbc L) 100 (zbl L [3])).steps = 13 ∧ (runS (zbc L) 100 (zbl L [3])).fin = 1 ∧ (runS (zbc L) 100 (zbl L [3])).regs i = 3
def UnsC (i k : Nat) : Prop:=zbk (unsT (regB i) (regB k)) = (0,0) ∧ UnsL ((lines (unsT (regB i) (regB k))).map say) i k
theorem uc01 : UnsC 0 1:=⟨by kernel_rfl,by kernel_rfl,by kernel_rfl,by kernel_rfl,by kernel_rfl,by kernel_rfl,by kernel_rfl,by kernel_rfl,by kernel_rfl,by kernel_rfl⟩
theorem uc02 : UnsC 0 2:=⟨by kernel_rfl,by kernel_rfl,by kernel_rfl,by kernel_rfl,by kernel_rfl,by kernel_rfl,by kernel_rfl,by kernel_rfl,by kernel_rfl,by kernel_rfl⟩
theorem uc03 : UnsC 0 3:=⟨by kernel_rfl,by kernel_rfl,by kernel_rfl,by kernel_rfl,by kernel_rfl,by kernel_rfl,by kernel_rfl,by kernel_rfl,by kernel_rfl,by kernel_rfl⟩
theorem uc04 : UnsC 0 4:=⟨by kernel_rfl,by kernel_rfl,by kernel_rfl,by kernel_rfl,by kernel_rfl,by kernel_rfl,by kernel_rfl,by kernel_rfl,by kernel_rfl,by kernel_rfl⟩
theorem uc05 : UnsC 0 5:=⟨by kernel_rfl,by kernel_rfl,by kernel_rfl,by kernel_rfl,by kernel_rfl,by kernel_rfl,by kernel_rfl,by kernel_rfl,by kernel_rfl,by kernel_rfl⟩
theorem uc06 : UnsC 0 6:=⟨by kernel_rfl,by kernel_rfl,by kernel_rfl,by kernel_rfl,by kernel_rfl,by kernel_rfl,by kernel_rfl,by kernel_rfl,by kernel_rfl,by kernel_rfl⟩
theorem uc07 : UnsC 0 7:=⟨by kernel_rfl,by kernel_rfl,by kernel_rfl,by kernel_rfl,by kernel_rfl,by kernel_rfl,by kernel_rfl,by kernel_rfl,by kernel_rfl,by kernel_rfl⟩
theorem uc10 : UnsC 1 0:=⟨by kernel_rfl,by kernel_rfl,by kernel_rfl,by kernel_rfl,by kernel_rfl,by kernel_rfl,by kernel_rfl,by kernel_rfl,by kernel_rfl,by kernel_rfl⟩
theorem uc12 : UnsC 1 2:=⟨by kernel_rfl,by kernel_rfl,by kernel_rfl,by kernel_rfl,by kernel_rfl,by kernel_rfl,by kernel_rfl,by kernel_rfl,by kernel_rfl,by kernel_rfl⟩
theorem uc13 : UnsC 1 3:=⟨by kernel_rfl,by kernel_rfl,by kernel_rfl,by kernel_rfl,by kernel_rfl,by kernel_rfl,by kernel_rfl,by kernel_rfl,by kernel_rfl,by kernel_rfl⟩
theorem uc14 : UnsC 1 4:=⟨by kernel_rfl,by kernel_rfl,by kernel_rfl,by kernel_rfl,by kernel_rfl,by kernel_rfl,by kernel_rfl,by kernel_rfl,by kernel_rfl,by kernel_rfl⟩
theorem uc15 : UnsC 1 5:=⟨by kernel_rfl,by kernel_rfl,by kernel_rfl,by kernel_rfl,by kernel_rfl,by kernel_rfl,by kernel_rfl,by kernel_rfl,by kernel_rfl,by kernel_rfl⟩
theorem uc16 : UnsC 1 6:=⟨by kernel_rfl,by kernel_rfl,by kernel_rfl,by kernel_rfl,by kernel_rfl,by kernel_rfl,by kernel_rfl,by kernel_rfl,by kernel_rfl,by kernel_rfl⟩
theorem uc17 : UnsC 1 7:=⟨by kernel_rfl,by kernel_rfl,by kernel_rfl,by kernel_rfl,by kernel_rfl,by kernel_rfl,by kernel_rfl,by kernel_rfl,by kernel_rfl,by kernel_rfl⟩
theorem uc20 : UnsC 2 0:=⟨by kernel_rfl,by kernel_rfl,by kernel_rfl,by kernel_rfl,by kernel_rfl,by kernel_rfl,by kernel_rfl,by kernel_rfl,by kernel_rfl,by kernel_rfl⟩
theorem uc21 : UnsC 2 1:=⟨by kernel_rfl,by kernel_rfl,by kernel_rfl,by kernel_rfl,by kernel_rfl,by kernel_rfl,by kernel_rfl,by kernel_rfl,by kernel_rfl,by kernel_rfl⟩
theorem uc23 : UnsC 2 3:=⟨by kernel_rfl,by kernel_rfl,by kernel_rfl,by kernel_rfl,by kernel_rfl,by kernel_rfl,by kernel_rfl,by kernel_rfl,by kernel_rfl,by kernel_rfl⟩
theorem uc24 : UnsC 2 4:=⟨by kernel_rfl,by kernel_rfl,by kernel_rfl,by kernel_rfl,by kernel_rfl,by kernel_rfl,by kernel_rfl,by kernel_rfl,by kernel_rfl,by kernel_rfl⟩
theorem uc25 : UnsC 2 5:=⟨by kernel_rfl,by kernel_rfl,by kernel_rfl,by kernel_rfl,by kernel_rfl,by kernel_rfl,by kernel_rfl,by kernel_rfl,by kernel_rfl,by kernel_rfl⟩
theorem uc26 : UnsC 2 6:=⟨by kernel_rfl,by kernel_rfl,by kernel_rfl,by kernel_rfl,by kernel_rfl,by kernel_rfl,by kernel_rfl,by kernel_rfl,by kernel_rfl,by kernel_rfl⟩
theorem uc27 : UnsC 2 7:=⟨by kernel_rfl,by kernel_rfl,by kernel_rfl,by kernel_rfl,by kernel_rfl,by kernel_rfl,by kernel_rfl,by kernel_rfl,by kernel_rfl,by kernel_rfl⟩
theorem uc30 : UnsC 3 0:=⟨by kernel_rfl,by kernel_rfl,by kernel_rfl,by kernel_rfl,by kernel_rfl,by kernel_rfl,by kernel_rfl,by kernel_rfl,by kernel_rfl,by kernel_rfl⟩
theorem uc31 : UnsC 3 1:=⟨by kernel_rfl,by kernel_rfl,by kernel_rfl,by kernel_rfl,by kernel_rfl,by kernel_rfl,by kernel_rfl,by kernel_rfl,by kernel_rfl,by kernel_rfl⟩
theorem uc32 : UnsC 3 2:=⟨by kernel_rfl,by kernel_rfl,by kernel_rfl,by kernel_rfl,by kernel_rfl,by kernel_rfl,by kernel_rfl,by kernel_rfl,by kernel_rfl,by kernel_rfl⟩
theorem uc34 : UnsC 3 4:=⟨by kernel_rfl,by kernel_rfl,by kernel_rfl,by kernel_rfl,by kernel_rfl,by kernel_rfl,by kernel_rfl,by kernel_rfl,by kernel_rfl,by kernel_rfl⟩
theorem uc35 : UnsC 3 5:=⟨by kernel_rfl,by kernel_rfl,by kernel_rfl,by kernel_rfl,by kernel_rfl,by kernel_rfl,by kernel_rfl,by kernel_rfl,by kernel_rfl,by kernel_rfl⟩
theorem uc36 : UnsC 3 6:=⟨by kernel_rfl,by kernel_rfl,by kernel_rfl,by kernel_rfl,by kernel_rfl,by kernel_rfl,by kernel_rfl,by kernel_rfl,by kernel_rfl,by kernel_rfl⟩
theorem uc37 : UnsC 3 7:=⟨by kernel_rfl,by kernel_rfl,by kernel_rfl,by kernel_rfl,by kernel_rfl,by kernel_rfl,by kernel_rfl,by kernel_rfl,by kernel_rfl,by kernel_rfl⟩
theorem uc40 : UnsC 4 0:=⟨by kernel_rfl,by kernel_rfl,by kernel_rfl,by kernel_rfl,by kernel_rfl,by kernel_rfl,by kernel_rfl,by kernel_rfl,by kernel_rfl,by kernel_rfl⟩
theorem uc41 : UnsC 4 1:=⟨by kernel_rfl,by kernel_rfl,by kernel_rfl,by kernel_rfl,by kernel_rfl,by kernel_rfl,by kernel_rfl,by kernel_rfl,by kernel_rfl,by kernel_rfl⟩
theorem uc42 : UnsC 4 2:=⟨by kernel_rfl,by kernel_rfl,by kernel_rfl,by kernel_rfl,by kernel_rfl,by kernel_rfl,by kernel_rfl,by kernel_rfl,by kernel_rfl,by kernel_rfl⟩
theorem uc43 : UnsC 4 3:=⟨by kernel_rfl,by kernel_rfl,by kernel_rfl,by kernel_rfl,by kernel_rfl,by kernel_rfl,by kernel_rfl,by kernel_rfl,by kernel_rfl,by kernel_rfl⟩
theorem uc45 : UnsC 4 5:=⟨by kernel_rfl,by kernel_rfl,by kernel_rfl,by kernel_rfl,by kernel_rfl,by kernel_rfl,by kernel_rfl,by kernel_rfl,by kernel_rfl,by kernel_rfl⟩
theorem uc46 : UnsC 4 6:=⟨by kernel_rfl,by kernel_rfl,by kernel_rfl,by kernel_rfl,by kernel_rfl,by kernel_rfl,by kernel_rfl,by kernel_rfl,by kernel_rfl,by kernel_rfl⟩
theorem uc47 : UnsC 4 7:=⟨by kernel_rfl,by kernel_rfl,by kernel_rfl,by kernel_rfl,by kernel_rfl,by kernel_rfl,by kernel_rfl,by kernel_rfl,by kernel_rfl,by kernel_rfl⟩
theorem uc50 : UnsC 5 0:=⟨by kernel_rfl,by kernel_rfl,by kernel_rfl,by kernel_rfl,by kernel_rfl,by kernel_rfl,by kernel_rfl,by kernel_rfl,by kernel_rfl,by kernel_rfl⟩
theorem uc51 : UnsC 5 1:=⟨by kernel_rfl,by kernel_rfl,by kernel_rfl,by kernel_rfl,by kernel_rfl,by kernel_rfl,by kernel_rfl,by kernel_rfl,by kernel_rfl,by kernel_rfl⟩
theorem uc52 : UnsC 5 2:=⟨by kernel_rfl,by kernel_rfl,by kernel_rfl,by kernel_rfl,by kernel_rfl,by kernel_rfl,by kernel_rfl,by kernel_rfl,by kernel_rfl,by kernel_rfl⟩
theorem uc53 : UnsC 5 3:=⟨by kernel_rfl,by kernel_rfl,by kernel_rfl,by kernel_rfl,by kernel_rfl,by kernel_rfl,by kernel_rfl,by kernel_rfl,by kernel_rfl,by kernel_rfl⟩
theorem uc54 : UnsC 5 4:=⟨by kernel_rfl,by kernel_rfl,by kernel_rfl,by kernel_rfl,by kernel_rfl,by kernel_rfl,by kernel_rfl,by kernel_rfl,by kernel_rfl,by kernel_rfl⟩
theorem uc56 : UnsC 5 6:=⟨by kernel_rfl,by kernel_rfl,by kernel_rfl,by kernel_rfl,by kernel_rfl,by kernel_rfl,by kernel_rfl,by kernel_rfl,by kernel_rfl,by kernel_rfl⟩
theorem uc57 : UnsC 5 7:=⟨by kernel_rfl,by kernel_rfl,by kernel_rfl,by kernel_rfl,by kernel_rfl,by kernel_rfl,by kernel_rfl,by kernel_rfl,by kernel_rfl,by kernel_rfl⟩
theorem uc60 : UnsC 6 0:=⟨by kernel_rfl,by kernel_rfl,by kernel_rfl,by kernel_rfl,by kernel_rfl,by kernel_rfl,by kernel_rfl,by kernel_rfl,by kernel_rfl,by kernel_rfl⟩
theorem uc61 : UnsC 6 1:=⟨by kernel_rfl,by kernel_rfl,by kernel_rfl,by kernel_rfl,by kernel_rfl,by kernel_rfl,by kernel_rfl,by kernel_rfl,by kernel_rfl,by kernel_rfl⟩
theorem uc62 : UnsC 6 2:=⟨by kernel_rfl,by kernel_rfl,by kernel_rfl,by kernel_rfl,by kernel_rfl,by kernel_rfl,by kernel_rfl,by kernel_rfl,by kernel_rfl,by kernel_rfl⟩
theorem uc63 : UnsC 6 3:=⟨by kernel_rfl,by kernel_rfl,by kernel_rfl,by kernel_rfl,by kernel_rfl,by kernel_rfl,by kernel_rfl,by kernel_rfl,by kernel_rfl,by kernel_rfl⟩
theorem uc64 : UnsC 6 4:=⟨by kernel_rfl,by kernel_rfl,by kernel_rfl,by kernel_rfl,by kernel_rfl,by kernel_rfl,by kernel_rfl,by kernel_rfl,by kernel_rfl,by kernel_rfl⟩
theorem uc65 : UnsC 6 5:=⟨by kernel_rfl,by kernel_rfl,by kernel_rfl,by kernel_rfl,by kernel_rfl,by kernel_rfl,by kernel_rfl,by kernel_rfl,by kernel_rfl,by kernel_rfl⟩
theorem uc67 : UnsC 6 7:=⟨by kernel_rfl,by kernel_rfl,by kernel_rfl,by kernel_rfl,by kernel_rfl,by kernel_rfl,by kernel_rfl,by kernel_rfl,by kernel_rfl,by kernel_rfl⟩
theorem uc70 : UnsC 7 0:=⟨by kernel_rfl,by kernel_rfl,by kernel_rfl,by kernel_rfl,by kernel_rfl,by kernel_rfl,by kernel_rfl,by kernel_rfl,by kernel_rfl,by kernel_rfl⟩
theorem uc71 : UnsC 7 1:=⟨by kernel_rfl,by kernel_rfl,by kernel_rfl,by kernel_rfl,by kernel_rfl,by kernel_rfl,by kernel_rfl,by kernel_rfl,by kernel_rfl,by kernel_rfl⟩
theorem uc72 : UnsC 7 2:=⟨by kernel_rfl,by kernel_rfl,by kernel_rfl,by kernel_rfl,by kernel_rfl,by kernel_rfl,by kernel_rfl,by kernel_rfl,by kernel_rfl,by kernel_rfl⟩
theorem uc73 : UnsC 7 3:=⟨by kernel_rfl,by kernel_rfl,by kernel_rfl,by kernel_rfl,by kernel_rfl,by kernel_rfl,by kernel_rfl,by kernel_rfl,by kernel_rfl,by kernel_rfl⟩
theorem uc74 : UnsC 7 4:=⟨by kernel_rfl,by kernel_rfl,by kernel_rfl,by kernel_rfl,by kernel_rfl,by kernel_rfl,by kernel_rfl,by kernel_rfl,by kernel_rfl,by kernel_rfl⟩
theorem uc75 : UnsC 7 5:=⟨by kernel_rfl,by kernel_rfl,by kernel_rfl,by kernel_rfl,by kernel_rfl,by kernel_rfl,by kernel_rfl,by kernel_rfl,by kernel_rfl,by kernel_rfl⟩
theorem uc76 : UnsC 7 6:=⟨by kernel_rfl,by kernel_rfl,by kernel_rfl,by kernel_rfl,by kernel_rfl,by kernel_rfl,by kernel_rfl,by kernel_rfl,by kernel_rfl,by kernel_rfl⟩
theorem znW (i k : Nat) (hi : i < 8) (hk : k < 8) (hne : ¬ i = k) : zbk (unsT (regB i) (regB k)) = (0,0) ∧ UnsL ((lines (unsT (regB i) (regB k))).map say) i k:=by
 show UnsC i k
 have hi2 : i = 0 ∨ i = 1 ∨ i = 2 ∨ i = 3 ∨ i = 4 ∨ i = 5 ∨ i = 6 ∨ i = 7:=by omega
 have hk2 : k = 0 ∨ k = 1 ∨ k = 2 ∨ k = 3 ∨ k = 4 ∨ k = 5 ∨ k = 6 ∨ k = 7:=by omega
 rcases hi2 with rfl | rfl | rfl | rfl | rfl | rfl | rfl | rfl <;> rcases hk2 with rfl | rfl | rfl | rfl | rfl | rfl | rfl | rfl
 ·exact absurd rfl hne
 ·exact uc01
 ·exact uc02
 ·exact uc03
 ·exact uc04
 ·exact uc05
 ·exact uc06
 ·exact uc07
 ·exact uc10
 ·exact absurd rfl hne
 ·exact uc12
 ·exact uc13
 ·exact uc14
 ·exact uc15
 ·exact uc16
 ·exact uc17
 ·exact uc20
 ·exact uc21
 ·exact absurd rfl hne
 ·exact uc23
 ·exact uc24
 ·exact uc25
 ·exact uc26
 ·exact uc27
 ·exact uc30
 ·exact uc31
 ·exact uc32
 ·exact absurd rfl hne
 ·exact uc34
 ·exact uc35
 ·exact uc36
 ·exact uc37
 ·exact uc40
 ·exact uc41
 ·exact uc42
 ·exact uc43
 ·exact absurd rfl hne
 ·exact uc45
 ·exact uc46
 ·exact uc47
 ·exact uc50
 ·exact uc51
 ·exact uc52
 ·exact uc53
 ·exact uc54
 ·exact absurd rfl hne
 ·exact uc56
 ·exact uc57
 ·exact uc60
 ·exact uc61
 ·exact uc62
 ·exact uc63
 ·exact uc64
 ·exact uc65
 ·exact absurd rfl hne
 ·exact uc67
 ·exact uc70
 ·exact uc71
 ·exact uc72
 ·exact uc73
 ·exact uc74
 ·exact uc75
 ·exact uc76
 ·exact absurd rfl hne
theorem zs5 {L : List Said} {i k : Nat} (U : UnsL L i k) (hne : ¬ i = k) (n : Nat) {m : Mc} {a b : Int} (h1 : m.at' = 4) (h2 : m.fin = 0) (h3 : m.regs i = a) (h4 : m.regs k = b) (h5 : 0 ≤ a) (h6 : a < b) (h7 : b ≤ 1000000) :
  ∃ m',runS (zbc L) (n + 3) m = runS (zbc L) n m' ∧ m'.at' = 4 ∧ m'.fin = 0 ∧ m'.regs i = a + 1 ∧ m'.regs k = b:=by
 obtain ⟨⟨q,nx⟩,h8,h9⟩:=Option.map_eq_some_iff.1 U.c8
 have e1 : zbc L m = m.goes 7:=by
  rw [zdH (p:=4) h1 U.c4]
  show m.goes (if m.regs i < m.regs k then 7 else 5) = _
  rw [h3,h4,if_pos h6]
 have e2 : zbc L (m.goes 7) = ({ m.goes 7 with regs:=upd m.regs i (w64 (m.regs i + 1)) } : Mc).goes 8:=by
  rw [zdH (p:=7) rfl U.c7]; rfl
 have e3 : zbc L (({ m.goes 7 with regs:=upd m.regs i (w64 (m.regs i + 1)) } : Mc).goes 8) = (({ m.goes 7 with regs:=upd m.regs i (w64 (m.regs i + 1)) } : Mc).goes 8).goes 4:=by
  rw [zdH (p:=8) rfl h8]
  simp only at h9
  rw [h9]; rfl
 refine ⟨(({ m.goes 7 with regs:=upd m.regs i (w64 (m.regs i + 1)) } : Mc).goes 8).goes 4,?_,rfl,h2,?_,?_⟩
 ·rw [zay _ _ _ h2,e1,zay _ _ _ (by exact h2),e2,zay _ _ _ (by exact h2),e3]
 ·show upd m.regs i (w64 (m.regs i + 1)) i = _
  rw [zc9,h3]
  unfold w64; omega
 ·show upd m.regs i (w64 (m.regs i + 1)) k = _
  unfold upd
  rw [if_neg (fun e => hne e.symm)]
  exact h4
theorem zpR {L : List Said} {i k : Nat} (U : UnsL L i k) (hne : ¬ i = k) (c n : Nat) {m : Mc} {a b : Int} (h1 : m.at' = 4) (h2 : m.fin = 0) (h3 : m.regs i = a) (h4 : m.regs k = b) (h5 : 0 ≤ a) (h6 : a + c ≤ b) (h7 : b ≤ 1000000) :
  ∃ m',runS (zbc L) (n + 3 * c) m = runS (zbc L) n m' ∧ m'.at' = 4 ∧ m'.fin = 0 ∧ m'.regs i = a + c ∧ m'.regs k = b:=by
 induction c generalizing m a with
 | zero => exact ⟨m,rfl,h1,h2,by simpa using h3,h4⟩
 | succ c ih =>
  obtain ⟨m1,e,g1,g2,g3,g4⟩:=zs5 U hne (n + 3 * c) h1 h2 h3 h4 h5 (by omega) h7
  obtain ⟨m2,e',k1,k2,k3,k4⟩:=ih g1 g2 g3 g4 (by omega) (by omega)
  refine ⟨m2,?_,k1,k2,by rw [k3]; omega,k4⟩
  rw [show n + 3 * (c + 1) = n + 3 * c + 3 by omega,e,e']
theorem zu9 {L : List Said} {i k : Nat} (U : UnsL L i k) (hne : ¬ i = k) : (runS (zbc L) 100000 (zbl L [1000000])).fin = 0:=by
 have b1 : (zbl L [1000000]).at' = ((1 : Nat) : Int):=U.bg
 have e1 : zbc L (zbl L [1000000]) = ({ zbl L [1000000] with regs:=upd (fun _ => 0) i 0 } : Mc).goes 2:=by
  rw [zdH b1 U.c1]; rfl
 have e2 : zbc L (({ zbl L [1000000] with regs:=upd (fun _ => 0) i 0 } : Mc).goes 2) = ({ ({ zbl L [1000000] with regs:=upd (fun _ => 0) i 0 } : Mc).goes 2 with regs:=upd (upd (fun _ => 0) i 0) k 1000000,inp:=[] } : Mc).goes 4:=by
  rw [zdH (p:=2) rfl U.c2]; rfl
 rw [show (100000 : Nat) = 99999 + 1 from rfl,zay _ _ _ rfl,e1,show (99999 : Nat) = 99998 + 1 from rfl,zay _ _ _ rfl,e2]
 generalize hm : ({ ({ zbl L [1000000] with regs:=upd (fun _ => 0) i 0 } : Mc).goes 2 with regs:=upd (upd (fun _ => 0) i 0) k 1000000,inp:=[] } : Mc).goes 4 = m
 have g1 : m.at' = 4:=by rw [← hm]; rfl
 have g2 : m.fin = 0:=by rw [← hm]; rfl
 have g3 : m.regs i = 0:=by rw [← hm]; show upd (upd (fun _ => 0) i 0) k 1000000 i = 0; unfold upd; rw [if_neg hne,if_pos rfl]
 have g4 : m.regs k = 1000000:=by rw [← hm]; show upd (upd (fun _ => 0) i 0) k 1000000 k = _; rw [zc9]
 obtain ⟨m2,e,k1,k2,k3,k4⟩:=zpR U hne 33332 2 g1 g2 g3 g4 (by omega) (by omega) (by omega)
 rw [show (99998 : Nat) = 2 + 3 * 33332 from rfl,e]
 have f1 : zbc L m2 = m2.goes 7:=by
  rw [zdH (p:=4) k1 U.c4]
  show m2.goes (if m2.regs i < m2.regs k then 7 else 5) = _
  rw [k3,k4,if_pos (by omega)]
 rw [zay _ _ _ k2,f1,zay _ _ _ (by exact k2),zdH (p:=7) rfl U.c7]
 exact k2
theorem zwP {i k : Nat} (hi : i < 8) (hk : k < 8) (hne : ¬ i = k) : VerdL ((lines (unsT (regB i) (regB k))).map say) none:=by
 obtain ⟨hR,U⟩:=znW i k hi hk hne
 obtain ⟨F,R⟩:=zda _ hR
 obtain ⟨v,hv⟩:=zdG R
 cases v with
 | none => exact hv
 | some b =>
  exfalso
  have hb:=VerdL.bound (bs:=b.1) (bf:=b.2) hv
  have he:=VerdL.ends (bs:=b.1) (bf:=b.2) hv [1000000] (fun x hx => by simp at hx; subst hx; exact ⟨by omega,by omega⟩) 100000 (by omega)
  rw [zu9 U hne] at he
  omega
end Go.Proofs.YtfpgjkbjbbgciaaGreatDoor
