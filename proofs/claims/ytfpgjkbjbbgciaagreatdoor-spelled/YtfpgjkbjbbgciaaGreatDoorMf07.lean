import Derived.Test.YtfpgjkbjbbgciaaGreatDoorMf01
import Derived.Test.YtfpgjkbjbbgciaaGreatDoorMf02
import Derived.Test.YtfpgjkbjbbgciaaGreatDoorMf05
set_option maxRecDepth 100000
set_option maxHeartbeats 8000000
namespace Go.Proofs.YtfpgjkbjbbgciaaGreatDoor.Sp
def opOk (k : UInt8) (x : ByteArray) : Bool:=if k = 82 then decide (0 ≤ reg x) else if k = 75 then (zbj x).2 else zau x
def zav : List UInt8 → List ByteArray → Bool
 | [],_ => true
 | k :: ks,x :: xs => opOk k x && zav ks xs
 | _ :: _,[] => true
def zdF (s : ByteArray) : Int:=bt s (s.size - 1)
def zcR (x : ByteArray) : Bool:=isW x [102,117,110,99]
structure Said where
 kind : Int
 kept : List ByteArray
 ok : Bool
def sayW (l : List ByteArray) : Said :=
 match l with
 | [] => ⟨0,[],true⟩
 | x :: r =>
  if zcR x = true then ⟨102,l,decide (l.length = 2) && zau (l.getLast?.getD ByteArray.empty)⟩
  else if l.length = 1 ∧ zdF x = 58 then ⟨108,[x.extract 0 (x.size - 1)],zau (x.extract 0 (x.size - 1))⟩
  else ⟨105,l,if zaa x = [63] ∨ ¬ l.length = (zaa x).length + 1 then false else zav (zaa x) r⟩
def say (s : ByteArray) : Said:=if zar s 0 = true then sayW (zs4 s) else ⟨0,[],false⟩
theorem zdG (s now : ByteArray) (l : List ByteArray) (hl : ∀ x ∈ l,1 ≤ x.size ∧ x.size ≤ s.size) (hn : now.size ≤ s.size) : ∀ x ∈ flush now l,1 ≤ x.size ∧ x.size ≤ s.size:=by
 intro x hx
 unfold flush at hx
 split at hx
 ·exact hl x hx
 ·rw [List.mem_append] at hx
  rcases hx with hx | hx
  ·exact hl x hx
  ·simp at hx; subst hx; omega
theorem zc9 (s : ByteArray) (i : Nat) (now : ByteArray) (l : List ByteArray) (hl : ∀ x ∈ l,1 ≤ x.size ∧ x.size ≤ s.size) (hn : now.size ≤ i) (hi : i ≤ s.size) : ∀ x ∈ zay s i now l,1 ≤ x.size ∧ x.size ≤ s.size:=by
 by_cases h : i < s.size
 ·by_cases h1 : bt s i = 32 ∨ bt s i = 9 ∨ bt s i = 59
  ·by_cases h2 : bt s i = 59
   ·rw [zbQ s i now l h h2]; exact zdG s now l hl (by omega)
   ·rw [zb4 s i now l h (by omega)]
    exact zc9 s (i + 1) _ _ (zdG s now l hl (by omega)) (by simp) (by omega)
  ·rw [zdm s i now l h h1]
   exact zc9 s (i + 1) _ _ hl (by rw [ByteArray.size_append,ByteArray.size_extract]; omega) (by omega)
 ·rw [zch s i now l h]; exact zdG s now l hl (by omega)
termination_by s.size - i
theorem zf5 (s : ByteArray) : ∀ x ∈ zs4 s,1 ≤ x.size ∧ x.size ≤ s.size:=zc9 s 0 _ _ (by simp) (by simp) (by omega)
theorem zle (ks : List UInt8) (xs : List ByteArray) (i : Nat) (hk : i < ks.length) (hx : i < xs.length) : zav (ks.drop i) (xs.drop i) = (opOk ks[i] xs[i] && zav (ks.drop (i + 1)) (xs.drop (i + 1))):=by
 rw [List.drop_eq_getElem_cons hk,List.drop_eq_getElem_cons hx]; rfl
def Wf (q : Said) : Prop:=(q.kind = 0 ∧ q.kept.length = 0) ∨ (q.kind = 102 ∧ q.kept.length = 2) ∨ (q.kind = 108 ∧ q.kept.length = 1) ∨ (q.kind = 105 ∧ 1 ≤ q.kept.length ∧ q.kept.length ≤ 4)
def eqW (a b : ByteArray) : Bool:=a.toList == b.toList
def Said.word (q : Said) (i : Nat) : ByteArray:=q.kept[i]?.getD ByteArray.empty
def isFn (q : Said) (x : ByteArray) : Bool:=decide (q.kind = 102) && eqW (q.word 1) x
def zbU (q : Said) (x : ByteArray) : Bool:=decide (q.kind = 108) && eqW (q.word 0) x
def zba (L : List Said) (x : ByteArray) (i : Nat) : Int :=
 if h : i < L.length then (if isFn L[i] x = true then (i : Int) else zba L x (i + 1)) else -1
termination_by L.length - i
def zdH (L : List Said) : Nat → Int
 | 0 => if (L[0]?.map Said.kind) = some 102 then 0 else -1
 | k + 1 => if (L[k + 1]?.map Said.kind) = some 102 then ((k + 1 : Nat) : Int) else zdH L k
def zaI (L : List Said) (x : ByteArray) (i : Nat) : Int :=
 if h : i < L.length then (if L[i].kind = 102 then -1 else if zbU L[i] x = true then (i : Int) else zaI L x (i + 1)) else -1
termination_by L.length - i
def zf6 (L : List Said) (k : Nat) (x : ByteArray) : Int:=zaI L x (zdH L k + 1).toNat
theorem ze6 (L : List Said) (x : ByteArray) (i : Nat) (h : ¬ i < L.length) : zba L x i = -1:=by rw [zba,dif_neg h]
theorem zc4 (L : List Said) (x : ByteArray) (i : Nat) (h : i < L.length) (h' : isFn L[i] x = true) : zba L x i = i:=by rw [zba,dif_pos h,if_pos h']
theorem zci (L : List Said) (x : ByteArray) (i : Nat) (h : i < L.length) (h' : isFn L[i] x = false) : zba L x i = zba L x (i + 1):=by rw [zba,dif_pos h,if_neg (by simp [h'])]
theorem zdI (L : List Said) (x : ByteArray) (i : Nat) (h : ¬ i < L.length) : zaI L x i = -1:=by rw [zaI,dif_neg h]
theorem zf7 (L : List Said) (x : ByteArray) (i : Nat) (h : i < L.length) (h' : L[i].kind = 102) : zaI L x i = -1:=by rw [zaI,dif_pos h,if_pos h']
theorem zcj (L : List Said) (x : ByteArray) (i : Nat) (h : i < L.length) (h0 : ¬ L[i].kind = 102) (h' : zbU L[i] x = true) : zaI L x i = i:=by rw [zaI,dif_pos h,if_neg h0,if_pos h']
theorem zb7 (L : List Said) (x : ByteArray) (i : Nat) (h : i < L.length) (h0 : ¬ L[i].kind = 102) (h' : zbU L[i] x = false) : zaI L x i = zaI L x (i + 1):=by rw [zaI,dif_pos h,if_neg h0,if_neg (by simp [h'])]
theorem zec (L : List Said) (k : Nat) (h : k < L.length) (h' : L[k].kind = 102) : zdH L k = k:=by
 cases k with
 | zero => unfold zdH; rw [List.getElem?_eq_getElem h]; simp [h']
 | succ k => unfold zdH; rw [List.getElem?_eq_getElem h]; simp [h']
theorem zc5 (L : List Said) (k : Nat) (h : k + 1 < L.length) (h' : ¬ L[k + 1].kind = 102) : zdH L (k + 1) = zdH L k:=by
 conv => lhs; unfold zdH
 rw [List.getElem?_eq_getElem h]; simp [h']
def zd5 (L : List Said) (k : Nat) : Bool :=
 match L[k]? with
 | none => false
 | some q => if q.kind = 102 then decide (zba L (q.word 1) 0 < k) else if q.kind = 108 then decide (zf6 L k (q.word 0) < k) else false
def Said.last (q : Said) : ByteArray:=q.word (q.kept.length - 1)
def zaz (x : ByteArray) : Bool:=isW x [106,117,109,112] || isW x [108,101,115,115] || isW x [115,97,109,101]
def zaQ (x : ByteArray) : Bool:=isW x [99,97,108,108]
def zb2 (L : List Said) (k : Nat) : Bool :=
 match L[k]? with
 | none => false
 | some q => if q.kind = 105 then (if zaz (q.word 0) = true then decide (zf6 L k q.last < 0) else if zaQ (q.word 0) = true then decide (zba L q.last 0 < 0) else false) else false
def ends (x : ByteArray) : Bool:=isW x [106,117,109,112] || isW x [98,97,99,107] || isW x [115,116,111,112]
def zed (L : List Said) (i : Nat) (e : Bool) : Bool :=
 if h : i < L.length then
  if L[i].kind = 102 then e
  else zed L (i + 1) (if L[i].kind = 108 then false else if L[i].kind = 105 then ends (L[i].word 0) else e)
 else e
termination_by L.length - i
def zct (L : List Said) (k : Nat) : Bool :=
 match L[k]? with
 | none => false
 | some q => if q.kind = 102 then !zed L (k + 1) false else false
theorem zf8 (L : List Said) (i : Nat) (e : Bool) (h : ¬ i < L.length) : zed L i e = e:=by rw [zed,dif_neg h]
theorem ziZ (L : List Said) (i : Nat) (e : Bool) (h : i < L.length) (h' : L[i].kind = 102) : zed L i e = e:=by rw [zed,dif_pos h,if_pos h']
theorem zdn (L : List Said) (i : Nat) (e : Bool) (h : i < L.length) (h' : ¬ L[i].kind = 102) : zed L i e = zed L (i + 1) (if L[i].kind = 108 then false else if L[i].kind = 105 then ends (L[i].word 0) else e):=by
 conv => lhs; rw [zed,dif_pos h,if_neg h']
end Go.Proofs.YtfpgjkbjbbgciaaGreatDoor.Sp
namespace Go.Proofs.YtfpgjkbjbbgciaaGreatDoor
open Go.RowKit Sp
theorem zel (now : ByteArray) (l : List ByteArray) (h : ¬ now.size = 0) : flush now l = l ++ [now]:=by unfold flush; rw [if_neg h]
end Go.Proofs.YtfpgjkbjbbgciaaGreatDoor
namespace Go.Proofs.YtfpgjkbjbbgciaaGreatDoor.Sp
def i64 (x : Int) : Prop:=-9223372036854775808 ≤ x ∧ x ≤ 9223372036854775807
structure Rg where
 lo : Int
 hi : Int
def only (n : Int) : Rg:=⟨n,n⟩
end Go.Proofs.YtfpgjkbjbbgciaaGreatDoor.Sp
namespace Go.Proofs.YtfpgjkbjbbgciaaGreatDoor
open Go.RowKit Sp
theorem zax (s : ByteArray) (l : List UInt8) (h : (s.toList == l) = true) : s = ⟨l.toArray⟩:=by
 rw [beq_iff_eq,ByteArray.toList_eq] at h
 rw [← h]
theorem zhK (L : List Said) (k : Nat) (h : k < L.length) (h1 : (L[k].kind != 102) = false) : zct L k = !zed L (k + 1) false:=by
 simp at h1
 unfold zct; rw [List.getElem?_eq_getElem h]; simp only [h1,if_true]
end Go.Proofs.YtfpgjkbjbbgciaaGreatDoor
namespace Go.Proofs.YtfpgjkbjbbgciaaGreatDoor
open Sp
end Go.Proofs.YtfpgjkbjbbgciaaGreatDoor
namespace Go.Proofs.YtfpgjkbjbbgciaaGreatDoor
open Go.RowKit Sp
theorem zaS {w w' : World} {B b : Nat} {e : TypeId} {size n : Nat} {v : Value} {xs : List Value} (h : w.ownsRow b e size v n xs) (hb : Below B w w') (hB : w.heap.size ≤ B) : w'.ownsRow b e size v n xs:=by
 refine ⟨h.1,?_⟩
 rcases h.2 with h2 | ⟨g,cap,cur,hv,hg,hh,r⟩
 ·exact .inl h2
 ·refine .inr ⟨g,cap,cur,hv,hg,?_,r⟩
  rw [hb.block g (by have:=(Array.getElem?_eq_some_iff.1 hh).1; omega)]
  exact hh
theorem zbR {w : World} {b b' : Nat} {e e' : TypeId} {size size' n n' : Nat} {v v' : Value} {xs xs' : List Value} (h : w.ownsRow b e size v n xs) (h' : w.ownsRow b' e' size' v' n' xs') (hne : ¬ e = e') : v.ownBlock = none ∨ v.ownBlock ≠ v'.ownBlock:=by
 rcases h.2 with ⟨hv,_⟩ | ⟨g,cap,cur,hv,hg,hh,r⟩
 ·subst hv; exact .inl rfl
 ·rcases h'.2 with ⟨hv',_⟩ | ⟨g',cap',cur',hv',hg',hh',r'⟩
  ·subst hv hv'; exact .inr (by simp [Value.ownBlock])
  ·subst hv hv'
   refine .inr ?_
   simp only [Value.ownBlock]
   intro heq
   simp only [Option.some.injEq] at heq
   subst heq
   rw [hh] at hh'
   simp at hh'
   exact hne hh'.2
theorem zmG (now : ByteArray) (l : List ByteArray) : (flush now l).length ≤ l.length + 1:=by
 unfold flush; split <;> simp
theorem zdP (s : ByteArray) (i : Nat) (now : ByteArray) (l : List ByteArray) : (zay s i now l).length ≤ l.length + (s.size - i) + 1:=by
 have hf:=zmG now l
 by_cases h : i < s.size
 ·by_cases h1 : bt s i = 32 ∨ bt s i = 9 ∨ bt s i = 59
  ·by_cases h2 : bt s i = 59
   ·rw [zbQ s i now l h h2]; omega
   ·rw [zb4 s i now l h (by omega)]
    have:=zdP s (i + 1) ByteArray.empty (flush now l)
    omega
  ·rw [zdm s i now l h h1]
   have:=zdP s (i + 1) (now ++ s.extract i (i + 1)) l
   omega
 ·rw [zch s i now l h]; omega
termination_by s.size - i
theorem zmH (s : ByteArray) : (zs4 s).length ≤ s.size + 1:=by
 have:=zdP s 0 ByteArray.empty []
 simpa [zs4] using this
theorem zmI (x : ByteArray) : (zaa x).length ≤ 3:=by
 unfold zaa
 repeat' split
 all_goals decide
theorem zqB (x : ByteArray) (h : zcR x = true) : x = ⟨#[102,117,110,99]⟩:=zax x _ h
theorem zhJ (W : World) (v : Value) : (Instr.typeAssert (.iface 115 v) 20 115 true).run Tryz.prog W = .ok (.tuple #[v,.bool true]) W:=by kernel_rfl
theorem zjp {w : World} {b : Nat} {x y : Value} (hx : w.cell? ⟨b,0,none⟩ = some x) (hy : w.cell? ⟨b + 1,0,none⟩ = some y) (e l : Value) (o : Obj) :
  Below b w (((w.setCell ⟨b,0,none⟩ e).setCell ⟨b + 1,0,none⟩ l).alloc o).drew ∧ (((w.setCell ⟨b,0,none⟩ e).setCell ⟨b + 1,0,none⟩ l).alloc o).drew.cell? ⟨b,0,none⟩ = some e ∧ (((w.setCell ⟨b,0,none⟩ e).setCell ⟨b + 1,0,none⟩ l).alloc o).drew.cell? ⟨b + 1,0,none⟩ = some l:=by
 have hlt1 : b + 1 < w.heap.size:=by have:=World.block_lt_of_cell? w _ hy; simpa using this
 refine ⟨((((Below.refl b w).setCell (p:=⟨b,0,none⟩) (Nat.le_refl _) _).setCell (p:=⟨b + 1,0,none⟩) (Nat.le_succ b) _).alloc (by simp [World.setCell]; omega) _).drew,?_,?_⟩
 ·show (((w.setCell ⟨b,0,none⟩ e).setCell ⟨b + 1,0,none⟩ l).alloc o).cell? ⟨b,0,none⟩ = some e
  rw [World.cell?_alloc_lt _ o ⟨b,0,none⟩ (by simp [World.setCell]; omega),World.cell?_setCell_other]
  ·exact World.cell?_setCell_same w _ _ hx
  ·simp
 ·show (((w.setCell ⟨b,0,none⟩ e).setCell ⟨b + 1,0,none⟩ l).alloc o).cell? ⟨b + 1,0,none⟩ = some l
  rw [World.cell?_alloc_lt _ o ⟨b + 1,0,none⟩ (by simp [World.setCell]; omega)]
  refine World.cell?_setCell_same (u:=y) _ _ _ ?_
  rw [World.cell?_setCell_other]
  ·exact hy
  ·simp
theorem zhj (b : Nat) (x y e l : Int) (w : World) (hx : w.cell? ⟨b,0,none⟩ = some (.int .i64 x)) (hy : w.cell? ⟨b + 1,0,none⟩ = some (.int .i64 y)) (fx : w.frozen? ⟨b,0,none⟩ = false) (fy : w.frozen? ⟨b + 1,0,none⟩ = false) :
  CallsD Tryz.prog 64 #[.pointer (some ⟨b,0,none⟩),.pointer (some ⟨b + 1,0,none⟩)] (.panicking ({ v:=.iface 115 (.agg #[.int .i64 e,.int .i64 l]),recovered:=false } :: [])) w fun en u' w' =>
   en = .returned (.tuple #[]) ∧ u' = .panicking ({ v:=.iface 115 (.agg #[.int .i64 e,.int .i64 l]),recovered:=true } :: []) ∧ Below b w w' ∧ w'.cell? ⟨b,0,none⟩ = some (.int .i64 e) ∧ w'.cell? ⟨b + 1,0,none⟩ = some (.int .i64 l):=by
 have has:=zhJ
 refine callsD_of_wpS Tryz.func64 rfl fun c₀ cs hu => ?_
 apply wpS_seq
 apply wpS_region
 simp [wpOpsS,go_sem,recoverD,hu,Tryz.ntmps64,Exit.thenS]
 refine wpS_of_wp ?_
 have hlt1 : b + 1 < w.heap.size:=by have:=World.block_lt_of_cell? w _ hy; simpa using this
 have hlt0 : b < w.heap.size:=by omega
 have hn1 : ¬ b = w.heap.size:=by omega
 have hn2 : ¬ b + 1 = w.heap.size:=by omega
 go_wp2
 go_region
 all_goals exact ⟨rfl,_,rfl,.tuple #[],by simp [results,Tryz.results64],rfl,rfl,zjp hx hy _ _ _⟩
theorem zll (b : Nat) (w : World) :
  CallsD Tryz.prog 64 #[.pointer (some ⟨b,0,none⟩),.pointer (some ⟨b + 1,0,none⟩)] .returning w fun en u' w' => en = .returned (.tuple #[]) ∧ u' = .returning ∧ w' = w:=by
 refine callsD_of_wpS Tryz.func64 rfl fun c₀ cs hu => ?_
 apply wpS_seq
 apply wpS_region
 simp [wpOpsS,go_sem,recoverD,hu,Tryz.ntmps64,Exit.thenS]
 refine wpS_of_wp ?_
 go_wp2
 exact ⟨rfl,.returning,by rw [← hu],.tuple #[],by simp [results,Tryz.results64],rfl,rfl,rfl⟩
end Go.Proofs.YtfpgjkbjbbgciaaGreatDoor
