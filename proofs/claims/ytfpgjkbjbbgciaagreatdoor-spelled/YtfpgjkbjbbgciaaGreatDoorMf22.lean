import Derived.Test.YtfpgjkbjbbgciaaGreatDoorMf21
set_option maxRecDepth 100000
set_option maxHeartbeats 8000000
namespace Go.Proofs.YtfpgjkbjbbgciaaGreatDoor
open Go.RowKit Sp
def zai (m : Mc) (ov : Value) (line : Int) : List Value:=[.int .i64 m.steps] ++ ((List.range 8).map (fun i => Value.int .i64 (m.regs i)) ++ ((List.range 16).map (fun i => Value.int .i64 (m.cells i)) ++ [ov,.int .i64 m.frames,.int .i64 m.peak,.int .i64 line,.int .i64 m.fin]))
theorem zaK (m : Mc) (ov : Value) (line : Int) : (zai m ov line).length = 30:=by simp [zai]
theorem zbi (m : Mc) (ao : Option Addr) (n c : Nat) (line : Int) : (zai m (.slice ao n c) line).toArray.all (·.oneCell') = true:=by
 refine all_oneCell_toArray fun v hv => ?_
 simp only [zai,List.mem_append,List.mem_map,List.mem_cons,List.mem_nil_iff,or_false] at hv
 rcases hv with rfl | ⟨i,_,rfl⟩ | ⟨i,_,rfl⟩ | rfl | rfl | rfl | rfl | rfl <;> rfl
theorem zgg (m : Mc) (ov : Value) (line : Int) : (zai m ov line)[28]? = some (.int .i64 line):=by simp [zai]
theorem zlP (m : Mc) (ov : Value) (line l2 : Int) : (zai m ov line).set 28 (.int .i64 l2) = zai m ov l2:=by simp [zai,List.range_succ]
theorem zir {w : World} {b o n : Nat} {cs : List Value} {v u : Value} (h : w.rangeAt b o cs) (hn : w.cell? ⟨b,o + n,none⟩ = some u) : (w.setCell ⟨b,o + n,none⟩ v).rangeAt b o (cs.set n v):=by
 intro j x hx
 by_cases e : j = n
 ·subst e
  rw [List.getElem?_set] at hx
  split at hx
  ·split at hx
   ·rw [← Option.some.inj hx]; exact World.cell?_setCell_same w _ _ hn
   ·cases hx
  ·rename_i hne; exact absurd rfl hne
 ·rw [List.getElem?_set_ne (by omega)] at hx
  rw [World.cell?_setCell_other]
  ·exact h j x hx
  ·simp
theorem zgh {w : World} {b o n : Nat} (h : w.there b o n) (p : Addr) (v : Value) : (w.setCell p v).there b o n:=fun j hj => by
 obtain ⟨h1,h2⟩:=h j hj
 refine ⟨?_,by simpa using h2⟩
 obtain ⟨u,hu⟩:=Option.isSome_iff_exists.1 h1
 obtain ⟨x,hx⟩:=cell?_setCell_some (w:=w) (p:=p) (x:=v) (q:=⟨b,o + j,none⟩) (v:=u) hu
 rw [hx]; rfl
abbrev Z34 : Obj:=.cells #[.int .i64 0,.int .i64 0,.int .i64 0,.int .i64 0,.int .i64 0,.int .i64 0,.int .i64 0,.int .i64 0,.int .i64 0,.int .i64 0,.int .i64 0,.int .i64 0,.int .i64 0,.int .i64 0,.int .i64 0,.int .i64 0,.int .i64 0,.int .i64 0,.int .i64 0,.int .i64 0,.int .i64 0,.int .i64 0,.int .i64 0,.int .i64 0,.int .i64 0,.slice none 0 0,.int .i64 0,.int .i64 0,.int .i64 0,.int .i64 0] 34
theorem zeu (w : World) : (w.alloc Z34).there w.heap.size 0 30:=fun j hj => by
 refine ⟨?_,by simp⟩
 have h:=World.cell?_alloc_new (w:=w) #[.int .i64 0,.int .i64 0,.int .i64 0,.int .i64 0,.int .i64 0,.int .i64 0,.int .i64 0,.int .i64 0,.int .i64 0,.int .i64 0,.int .i64 0,.int .i64 0,.int .i64 0,.int .i64 0,.int .i64 0,.int .i64 0,.int .i64 0,.int .i64 0,.int .i64 0,.int .i64 0,.int .i64 0,.int .i64 0,.int .i64 0,.int .i64 0,.int .i64 0,.slice none 0 0,.int .i64 0,.int .i64 0,.int .i64 0,.int .i64 0] 34 (0 + j)
 rw [h,Array.getElem?_eq_getElem (by simpa using hj)]
 rfl
theorem zcH {fn : Func} {a : Tmp} {t : TypeId} (h : fn.results = #[.cell a t]) (tmps : Array Value) (p : Addr) (hp : tmps.getD a undef = .pointer (some p)) {P : Program} {w : World} {v : Value} (hl : (loadVar t p).run P w = .ok v w) : (results fn tmps).run P w = .ok v w:=by
 have hp2 : tmps[a]?.getD undef = .pointer (some p):=by simpa using hp
 simp [results,h,hp2,asAddr,hl]
theorem zhr {fn : Func} {a b c : Tmp} {t : TypeId} (h : fn.results = #[.cell a t,.tmp b,.tmp c]) (tmps : Array Value) (p : Addr) (hp : tmps.getD a undef = .pointer (some p)) {P : Program} {w : World} {v : Value} (hl : (loadVar t p).run P w = .ok v w) : (results fn tmps).run P w = .ok (.tuple #[v,tmps.getD b undef,tmps.getD c undef]) w:=by
 have hp2 : tmps[a]?.getD undef = .pointer (some p):=by simpa using hp
 simp [results,h,hp2,asAddr,hl]
theorem Tryz.info34 : (Tryz.prog.info? 34).map (·.size) = some 30:=by kernel_rfl
theorem za6 (l : List Value) {B b : Nat} {a w : World} (o : Nat) (h : Below B a w) (hb : B ≤ b) : Below B a (w.setCells b o l):=by
 induction l generalizing w o with
 | nil => exact h
 | cons x r ih => exact ih (o + 1) (h.setCell (p:=⟨b,o,none⟩) hb x)
theorem za0 (l : List Value) (w : World) (b o k : Nat) (h : ¬ k = b) : (w.setCells b o l).heap[k]? = w.heap[k]?:=by
 induction l generalizing w o with
 | nil => rfl
 | cons x r ih =>
  show ((w.setCell ⟨b,o,none⟩ x).setCells b (o + 1) r).heap[k]? = _
  rw [ih,Below.heap_setCell _ _ _ _ h]
theorem zev (l : List Value) (w : World) (b o : Nat) : (w.setCells b o l).heap.size = w.heap.size:=by
 induction l generalizing w o with
 | nil => rfl
 | cons x r ih =>
  show ((w.setCell ⟨b,o,none⟩ x).setCells b (o + 1) r).heap.size = _
  rw [ih]; simp [World.setCell]
theorem zbY {w : World} {b : Nat} {e : TypeId} {size n : Nat} {v : Value} {xs : List Value} (h : w.ownsRow (b + 1) e size v n xs) : v.ownBlock ≠ some b:=fun hb => by have:=(h.lt b hb).1; omega
theorem zdW {w w' : World} {b : Nat} (hb : b < w.heap.size) (hg : w.grownBy w' (some b)) : Below b w w':=(Below.refl b w).grown hg (by omega) (fun j hj => by cases hj; exact Nat.le_refl _)
theorem zaY {w w' : World} {n : Nat} {r : Option Nat} (h : (w.drewN n).grownBy w' r) : w.grownBy w' r:=⟨h.os,h.tape,h.output,h.size,h.block⟩
theorem zcx {W1 : World} {n : Nat} (hs1 : W1.heap.size = n) (cs : List Value) (hlen : cs.length = 30) : (W1.alloc Z34).there n 0 cs.toArray.size:=by
 rw [show cs.toArray.size = 30 by simp [hlen],← hs1]
 exact zeu W1
theorem zpU (x : Int) : IntKind.i64.wrap x = w64 x:=by
 unfold IntKind.wrap w64
 simp [IntKind.bits,IntKind.signed]
 split <;> omega
end Go.Proofs.YtfpgjkbjbbgciaaGreatDoor
namespace Go.Proofs.YtfpgjkbjbbgciaaGreatDoor
open Go.RowKit Sp
attribute [local go_sem ↓] Go.wp_at_zero Go.wp_at_succ
theorem Tryz.info2 : (Tryz.prog.info? 2).map (fun i => (i.zero,i.size,i.bytes)) = some (some (.int .i64 0),1,8):=by kernel_rfl
theorem Tryz.info3 : (Tryz.prog.info? 3).map (fun i => (i.zero,i.size,i.bytes)) = some (some (.int .i64 0),1,8):=by kernel_rfl
theorem Tryz.under29 : Tryz.prog.underlying 29 = some (.slice 2):=by kernel_rfl
theorem Tryz.under59 : Tryz.prog.underlying 59 = some (.slice 3):=by kernel_rfl
end Go.Proofs.YtfpgjkbjbbgciaaGreatDoor
namespace Go.Proofs.YtfpgjkbjbbgciaaGreatDoor
open Go.RowKit Sp
theorem zaw {w w' : World} {B b o n : Nat} (h : w.there b o n) (hb : Below B w w') (hB : b < B) : w'.there b o n:=fun j hj => by
 obtain ⟨h1,h2⟩:=h j hj
 exact ⟨by rw [hb.cell (p:=⟨b,o + j,none⟩) hB]; exact h1,by rw [World.frozen?_of_block (w:=w) (hb.block b hB)]; exact h2⟩
theorem zby (ds : List Value) (hl : ds.length = 30) : (Tryz.prog.info? 34).map (·.size) = some ds.toArray.size:=by rw [show ds.toArray.size = 30 by simp [hl]]; exact Tryz.info34
theorem zij (w : World) (a : Value) : ∀ j u,[a][j]? = some u → (w.alloc (.cells #[a] 3)).cell? ((⟨w.heap.size,0,none⟩ : Addr).add j) = some u:=by
 intro j u hj
 have h1:=World.cell?_alloc_new (w:=w) #[a] 3 j
 have h2 : (⟨w.heap.size,0,none⟩ : Addr).add j = ⟨w.heap.size,j,none⟩:=by simp [Addr.add]; omega
 rw [h2,h1]
 rw [← List.getElem?_toArray] at hj
 exact hj
end Go.Proofs.YtfpgjkbjbbgciaaGreatDoor
namespace Go.Proofs.YtfpgjkbjbbgciaaGreatDoor
section
end
end Go.Proofs.YtfpgjkbjbbgciaaGreatDoor
