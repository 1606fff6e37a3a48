import Derived.Test.YtfpgjkbjbbgciaaGreatDoorMf45
set_option maxRecDepth 100000
set_option maxHeartbeats 8000000
namespace Go.Proofs.YtfpgjkbjbbgciaaGreatDoor
open Go.RowKit Sp
attribute [local go_sem ↓] Go.wp_at_zero Go.wp_at_succ
theorem zml (A : List Ln) (G : List (List Ln)) : zdh (A :: G) = zck ((zcr G.length :: (A ++ [zbM])).map Ln.bytes) ++ zdh G:=by
 unfold zdh
 show zck (((zcr G.length :: (A ++ [zbM])) ++ lnsT G).map Ln.bytes) = _
 rw [List.map_append,zhC]
theorem zmm (ls : List (List UInt8)) (l : List UInt8) : zck (ls ++ [l]) = zck ls ++ l ++ [10]:=by
 rw [zhC]; simp [zck]
theorem zmn (ls : List (List UInt8)) (h : ∀ l ∈ ls,l.length ≤ 200) : (zck ls).length ≤ ls.length * 201:=by
 induction ls with
 | nil => exact Nat.le_refl _
 | cons l t ih =>
  have h1:=ih (fun x hx => h x (List.mem_cons_of_mem _ hx))
  have h2:=h l List.mem_cons_self
  rw [zg9,List.length_append,List.length_cons,List.length_cons,Nat.add_mul]
  omega
theorem zmo (k : Nat) (h : k ≤ 1000000) : (zcr k).bytes.length ≤ 200:=by
 have:=zdx 6 k (by omega)
 simp [Ln.bytes,Ln.blank,zcr,zbG,fnW]
 omega
theorem zou {k : Nat} {D : ByteArray} (h : Hid (D = ba (digL (k : Int)))) : (⟨#[102,117,110,99,32,102]⟩ : ByteArray) ++ D ++ (⟨#[10]⟩ : ByteArray) = ba (zck ((zcr k :: ([] : List Ln)).map Ln.bytes)):=by
 rw [show D = _ from h,show digL (k : Int) = decL k by unfold digL; rw [if_neg (by omega)]; rfl]
 have e : (⟨#[102,117,110,99,32,102]⟩ : ByteArray) = ba [102,117,110,99,32,102]:=rfl
 have e2 : (⟨#[10]⟩ : ByteArray) = ba [10]:=rfl
 rw [e,e2]
 simp only [zcP]
 refine congrArg ba ?_
 simp [Ln.bytes,Ln.blank,zbG,zcr,fnW,zck]
theorem zov {k i : Nat} {L : List Ln} (hi : i < L.length) : ba (zck ((zcr k :: L.take i).map Ln.bytes)) ++ ba (L[i]).bytes ++ (⟨#[10]⟩ : ByteArray) = ba (zck ((zcr k :: L.take (i + 1)).map Ln.bytes)):=by
 have e2 : (⟨#[10]⟩ : ByteArray) = ba [10]:=rfl
 rw [e2]
 simp only [zcP]
 refine congrArg ba ?_
 rw [List.take_succ_eq_append_getElem hi,← List.cons_append,List.map_append,List.map_singleton,zmm]
theorem ziN {k i : Nat} {L : List Ln} (hk : k ≤ 1000000) (hL : ∀ l ∈ L,l.bytes.length ≤ 200) (hl : L.length ≤ 1300) : (ba (zck ((zcr k :: L.take i).map Ln.bytes))).size ≤ 300000:=by
 have h:=zmn ((zcr k :: L.take i).map Ln.bytes) (fun l hl => by
  obtain ⟨x,hx,rfl⟩:=List.mem_map.1 hl
  rcases List.mem_cons.1 hx with e | e
  ·rw [e]; exact zmo k hk
  ·exact hL x (List.mem_of_mem_take e))
 have h2 : ((zcr k :: L.take i).map Ln.bytes).length ≤ 1301:=by simp; omega
 have h3:=Nat.mul_le_mul_right 201 h2
 show (zck _).length ≤ _
 omega
def accS (k : Nat) (L : List Ln) (i : Nat) : ByteArray:=ba (zck ((zcr k :: L.take i).map Ln.bytes))
def lnS (L : List Ln) (i : Nat) : ByteArray:=if h : i < L.length then ba (L[i]).bytes else ByteArray.empty
theorem zow {k i : Nat} {L : List Ln} (hi : i < L.length) : accS k L i ++ lnS L i ++ (⟨#[10]⟩ : ByteArray) = accS k L (i + 1):=by
 unfold accS lnS
 rw [dif_pos hi]
 exact zov hi
theorem zqh {L : List Ln} {i : Nat} (hL : ∀ l ∈ L,l.bytes.length ≤ 200) : (lnS L i).size ≤ 200:=by
 unfold lnS
 split
 ·rename_i h
  exact hL _ (List.getElem_mem h)
 ·exact Nat.zero_le _
theorem zla (A : List Ln) (G : List (List Ln)) : accS G.length (A ++ [zbM]) (A ++ [zbM]).length ++ ba (zdh G) = ba (zdh (A :: G)):=by
 unfold accS
 rw [List.take_length,zml,zcP]
theorem KnRow.fr {B : Nat} {w w' : World} {b px : Nat} {cv : Value} {code : List Int} {S : Wst} {k : Nat} {V V' : Nat → Value} {v : Value} {nk : Nat} (h : KnRow B w v nk) (M : WrM B w b px cv code S k V) (f : Fr b px w V w' V') : KnRow B w' v nk:=by
 obtain ⟨xs,h1,h2⟩:=h
 refine ⟨xs,zad h1 (fun g hg => f.keep g (h1.lt g hg).2 (fun hm => ?_)),h2⟩
 rcases hm with e | e | e | e
 ·exact zb6 h1 M.blk.kb (by decide) g hg e
 ·exact zb6 h1 M.blk.di.kx (by decide) g hg e
 ·rcases zbR h1 M.lines (by decide) with q | q
  ·rw [q] at hg; cases hg
  ·exact q (hg.trans e.symm)
 ·rcases zbR h1 M.counts (by decide) with q | q
  ·rw [q] at hg; cases hg
  ·exact q (hg.trans e.symm)
theorem KnRow.below {B : Nat} {w w' : World} {v : Value} {nk : Nat} (h : KnRow B w v nk) (hb : Below w.heap.size w w') : KnRow B w' v nk:=by
 obtain ⟨xs,h1,h2⟩:=h
 exact ⟨xs,zad h1 (fun g hg => hb.block g (h1.lt g hg).2),h2⟩
theorem DiM.grew {B : Nat} {w w6 : World} {px : Nat} {cv : Value} {code : List Int} {k : Nat} {v : Value} {nk : Nat} {xs : List Value} {o : Obj} (D : DiM B w px cv code k) (h1 : w.ownsRow B 113 10 v nk xs) (hg : (w.alloc o).drew.grownBy w6 v.ownBlock) (hB : B ≤ w.heap.size) : DiM B w6 px cv code k ∧ Below B w w6:=by
 have hg2 : w.grownBy w6 v.ownBlock:=(World.grownBy_alloc w o v.ownBlock).trans ⟨hg.os,hg.tape,hg.output,hg.size,hg.block⟩
 have hb : Below B w w6:=zdz hg2 (fun g e => (h1.lt g e).1) hB
 exact ⟨D.block hb (hg2.block px D.lt (fun e => zb6 h1 D.kx (by decide) px e.symm rfl)),hb⟩
theorem KnRow.more {B : Nat} {w4 : World} {v4 : Value} {nk : Nat} {z f : Nat} {g : Nat → Bool} (hz : z ≤ (nk + 1) * 2147483648) (hf : f ≤ nk + 1) {xs : List Value} (h1 : ∀ j,j < nk → (∃ z : Nat,xs[j * 10]? = some (.int .i64 (z : Int)) ∧ z ≤ (j + 1) * 2147483648) ∧ (∀ i,i < 8 → ∃ g,xs[j * 10 + (1 + i)]? = some (.bool g)) ∧ ∃ f : Nat,xs[j * 10 + 9]? = some (.int .i64 (f : Int)) ∧ f ≤ j + 1) (hx : xs.length = nk * 10)
  (h4 : w4.ownsRow B 113 10 v4 (nk + 1) (xs ++ [.int .i64 (z : Int),.bool (g 0),.bool (g 1),.bool (g 2),.bool (g 3),.bool (g 4),.bool (g 5),.bool (g 6),.bool (g 7),.int .i64 (f : Int)])) : KnRow B w4 v4 (nk + 1):=by
 refine ⟨_,h4,fun j hj => ?_⟩
 by_cases hjn : j < nk
 ·obtain ⟨⟨z1,a1,a2⟩,a3,f1,a4,a5⟩:=h1 j hjn
  refine ⟨⟨z1,by rw [List.getElem?_append_left (by omega)]; exact a1,a2⟩,fun i hi => ?_,f1,by rw [List.getElem?_append_left (by omega)]; exact a4,a5⟩
  obtain ⟨gg,hg⟩:=a3 i hi
  exact ⟨gg,by rw [List.getElem?_append_left (by omega)]; exact hg⟩
 ·have hj2 : j = nk:=by omega
  subst hj2
  refine ⟨⟨z,by rw [List.getElem?_append_right (by omega),show j * 10 - xs.length = 0 by omega]; rfl,hz⟩,fun i hi => ⟨g i,?_⟩,f,by rw [List.getElem?_append_right (by omega),show j * 10 + 9 - xs.length = 9 by omega]; rfl,hf⟩
  rw [List.getElem?_append_right (by omega),show j * 10 + (1 + i) - xs.length = 1 + i by omega]
  have hi2 : i = 0 ∨ i = 1 ∨ i = 2 ∨ i = 3 ∨ i = 4 ∨ i = 5 ∨ i = 6 ∨ i = 7:=by omega
  rcases hi2 with rfl | rfl | rfl | rfl | rfl | rfl | rfl | rfl <;> rfl
theorem zh4 {B : Nat} {w : World} {px : Nat} {cv : Value} {code : List Int} {k : Nat} (h : DiM B w px cv code k) (hB : B ≤ w.heap.size) (n : Int) (hn : 0 < n) :
  Calls Tryz.prog 41 #[.pointer (some ⟨px,0,none⟩),.int .i64 n] w fun e w' => ∃ c : Nat,e = .returned (.int .i64 (c : Int)) ∧ (c : Int) < n ∧ (∃ k2,DiM B w' px cv code k2) ∧ Below B w w' ∧ w.grownBy w' (some px):=by
 refine (zdi h n hn).mono ?_
 rintro e w' ⟨c,he,hc,k2,hd,hg⟩
 exact ⟨c,he,hc,⟨k2,hd⟩,zdz hg (fun g e => by cases e; exact h.hB) hB,hg⟩
def zsb : Prop:=∀ (B : Nat) (w : World) (b px : Nat) (cv : Value) (code : List Int) (S : Wst) (k : Nat) (V : Nat → Value),WrM B w b px cv code S k V → S.deep = 0 → (∀ i,S.held i = false) → S.lines = [] → S.labels = 0 → S.nk ≤ 100 → S.counts = [] →
 Calls Tryz.prog 60 #[.pointer (some ⟨b,0,none⟩)] w fun e w' => (∃ n : Nat,e = .returned (.int .i64 (n : Int)) ∧ n ≤ 1073741824) ∧ PcPost B w b px cv code V S 1268 252 w'
def zox : Prop:=∀ (B : Nat) (w : World) (b px : Nat) (cv : Value) (code : List Int) (S : Wst) (k : Nat) (V : Nat → Value),WrM B w b px cv code S k V → (∀ i,S.held i = false) → S.lines.length ≤ 10000 → S.nk ≤ 100 →
 Calls Tryz.prog 61 #[.pointer (some ⟨b,0,none⟩)] w fun e w' => (∃ n : Nat,e = .returned (.int .i64 (n : Int)) ∧ n ≤ S.nk * 2147483648 + 2) ∧ PcPost B w b px cv code V S 2 0 w'
end Go.Proofs.YtfpgjkbjbbgciaaGreatDoor
namespace Go.Proofs.YtfpgjkbjbbgciaaGreatDoor
open Go.RowKit Sp
attribute [local go_sem ↓] Go.wp_at_zero Go.wp_at_succ
theorem WrM.counted {B : Nat} {w w4 : World} {b px : Nat} {cv : Value} {code : List Int} {S : Wst} {k : Nat} {V : Nat → Value} (h : WrM B w b px cv code S k V) {gn cn : Nat} {l : Nat} (hl8 : l < 8) (hg : w.grownBy w4 (V 11).ownBlock) (hnew : (V 11).ownBlock = some gn ∨ w.heap.size ≤ gn) (hown : w4.ownsRow B 3 1 (.slice (some ⟨gn,0,none⟩) (S.counts.length + 1) cn) (S.counts.length + 1) ((S.counts ++ [l]).map natV)) :
  WrM B (w4.setCell ⟨b,11,none⟩ (.slice (some ⟨gn,0,none⟩) (S.counts.length + 1) cn)) b px cv code { S with counts:=S.counts ++ [l] } k (updV V 11 (.slice (some ⟨gn,0,none⟩) (S.counts.length + 1) cn)) ∧ Fr b px w V (w4.setCell ⟨b,11,none⟩ (.slice (some ⟨gn,0,none⟩) (S.counts.length + 1) cn)) (updV V 11 (.slice (some ⟨gn,0,none⟩) (S.counts.length + 1) cn)) ∧ w4.cell? ⟨b,11,none⟩ = some (V 11) ∧ w4.frozen? ⟨b,11,none⟩ = false:=by
 have hB:=h.base
 have hb4 : Below B w w4:=zdz hg (fun g e => (h.counts.lt g e).1) hB
 have keep : ∀ g,g < w.heap.size → ¬ (V 11).ownBlock = some g → w4.heap[g]? = w.heap[g]?:=fun g hl hne => hg.block g hl (fun e => hne e.symm)
 have eb : w4.heap[b]? = w.heap[b]?:=keep b h.blk.lt (fun e => zb6 h.counts h.blk.kb (by decide) b e rfl)
 have ex : w4.heap[px]? = w.heap[px]?:=keep px h.blk.di.lt (fun e => zb6 h.counts h.blk.di.kx (by decide) px e rfl)
 have B4:=h.blk.block hb4 eb ex
 have hc4 : w4.ownsRow B 9 1 (V 1) S.lines.length (S.lines.map lnV):=zad h.lines fun g e => keep g (h.lines.lt g e).2 (fun e1 => by
  rcases zbR h.lines h.counts (by decide) with q | q
  ·rw [q] at e; cases e
  ·exact q (e.trans e1.symm))
 obtain ⟨xs,k1,k2⟩:=h.known
 have hk4 : w4.ownsRow B 113 10 (V 23) S.nk xs:=zad k1 fun g e => keep g (k1.lt g e).2 (fun e1 => by
  rcases zbR k1 h.counts (by decide) with q | q
  ·rw [q] at e; cases e
  ·exact q (e.trans e1.symm))
 have set5 : ∀ {e : TypeId} {size n : Nat} {v : Value} {ys : List Value},w4.ownsRow B e size v n ys → ¬ e = 109 → (w4.setCell ⟨b,11,none⟩ (.slice (some ⟨gn,0,none⟩) (S.counts.length + 1) cn)).ownsRow B e size v n ys:=fun ho hne => zad ho fun g e => Below.heap_setCell _ _ _ _ (zb6 ho B4.kb hne g e)
 refine ⟨⟨B4.put 11 (by omega) _,?_,?_,?_,fun i hi => ?_,?_,?_,fun i hi => ?_,?_,?_,?_,?_⟩,⟨hg.os,hg.tape,hg.output,by rw [World.size_setCell]; exact hg.size,fun q hq hm => ?_,fun q hq hm => ?_⟩,B4.cell 11 (by omega),B4.fz 11⟩
 ·rw [zab _ _ (by decide)]; exact h.v0
 ·rw [zab _ _ (by decide)]; exact set5 hc4 (by decide)
 ·rw [zab _ _ (by decide)]; exact h.v2
 ·rw [zab _ _ (by omega)]; exact h.held i hi
 ·rw [zbp]
  have:=set5 hown (by decide)
  simpa using this
 ·intro x hx
  rcases List.mem_append.1 hx with e | e
  ·exact h.cnt8 x e
  ·rw [List.mem_singleton.1 e]; exact hl8
 ·rw [zab _ _ (by omega)]; exact h.gives i hi
 ·rw [zab _ _ (by decide)]; exact h.v20
 ·rw [zab _ _ (by decide)]; exact h.v21
 ·rw [zab _ _ (by decide)]; exact h.v22
 ·rw [zab _ _ (by decide)]; exact ⟨xs,set5 hk4 (by decide),k2⟩
 ·rw [Below.heap_setCell _ _ _ _ (fun e => hm (.inl e))]
  exact keep q hq (fun e => hm (.inr (.inr (.inr e))))
 ·rcases hm with e | e | e | e
  ·exact .inl e
  ·exact .inr (.inl e)
  ·rw [zab _ _ (by decide)] at e
   exact .inr (.inr (.inl e))
  ·rw [zbp] at e
   have e2 : gn = q:=Option.some.inj e
   rcases hnew with e3 | e3
   ·exact .inr (.inr (.inr (by rw [e3,e2])))
   ·omega
theorem zms {w : World} {B : Nat} {e : TypeId} {ao : Option Addr} {n m cap : Nat} {xs : List Value} (h : w.ownsRow B e 1 (.slice ao n cap) n xs) (hm : m ≤ n) : w.ownsRow B e 1 (.slice ao m cap) m (xs.take m):=by
 obtain ⟨h1,h2⟩:=h
 refine ⟨by rw [List.length_take]; omega,?_⟩
 rcases h2 with ⟨hv,h0⟩ | ⟨g,c,cur,hv,hB,hg,hn,hc,hs,ht⟩
 ·left
  simp only [Value.slice.injEq] at hv
  obtain ⟨rfl,_,rfl⟩:=hv
  have : m = 0:=by omega
  subst this
  exact ⟨rfl,rfl⟩
 ·right
  simp only [Value.slice.injEq] at hv
  obtain ⟨rfl,_,rfl⟩:=hv
  refine ⟨g,cap,cur,rfl,hB,hg,by omega,hc,hs,?_⟩
  rw [← ht,List.take_take,Nat.min_eq_left (by omega),Nat.mul_one]
theorem WrM.cut {B : Nat} {w : World} {b px : Nat} {cv : Value} {code : List Int} {S : Wst} {k : Nat} {V : Nat → Value} (h : WrM B w b px cv code S k V) {ao : Option Addr} {cap : Nat} (hv : V 11 = .slice ao S.counts.length cap) (C : List Nat) (R : List Nat) (hC : S.counts = C ++ R) :
  WrM B (w.setCell ⟨b,11,none⟩ (.slice ao C.length cap)) b px cv code { S with counts:=C } k (updV V 11 (.slice ao C.length cap)) ∧ Fr b px w V (w.setCell ⟨b,11,none⟩ (.slice ao C.length cap)) (updV V 11 (.slice ao C.length cap)):=by
 obtain ⟨r1,r2,r3⟩:=h.rows (w':=w.setCell ⟨b,11,none⟩ (.slice ao C.length cap)) (fun g _ hne _ => Below.heap_setCell _ _ _ _ hne)
 rw [hv] at r2
 have r4:=zms r2 (m:=C.length) (by rw [hC]; simp)
 have e : (S.counts.map natV).take C.length = C.map natV:=by rw [hC,List.map_append]; exact List.take_left' (by simp)
 rw [e] at r4
 refine ⟨⟨h.blk.put 11 (by omega) _,?_,?_,?_,fun i hi => ?_,?_,fun x hx => h.cnt8 x (by rw [hC]; exact List.mem_append_left _ hx),fun i hi => ?_,?_,?_,?_,?_⟩,rfl,rfl,rfl,by rw [World.size_setCell]; exact Nat.le_refl _,fun q _ hm => Below.heap_setCell _ _ _ _ (fun e => hm (.inl e)),fun q _ hm => ?_⟩
 ·rw [zab _ _ (by decide)]; exact h.v0
 ·rw [zab _ _ (by decide)]; exact r1
 ·rw [zab _ _ (by decide)]; exact h.v2
 ·rw [zab _ _ (by omega)]; exact h.held i hi
 ·rw [zbp]; exact r4
 ·rw [zab _ _ (by omega)]; exact h.gives i hi
 ·rw [zab _ _ (by decide)]; exact h.v20
 ·rw [zab _ _ (by decide)]; exact h.v21
 ·rw [zab _ _ (by decide)]; exact h.v22
 ·rw [zab _ _ (by decide)]; exact r3
 ·rcases hm with e | e | e | e
  ·exact .inl e
  ·exact .inr (.inl e)
  ·rw [zab _ _ (by decide)] at e
   exact .inr (.inr (.inl e))
  ·rw [zbp] at e
   refine .inr (.inr (.inr ?_))
   rw [hv]
   cases ao with
   | none => cases e
   | some a => exact e
def zg4 (h : Nat → Bool) : Nat:=(h 0).toNat + (h 1).toNat + (h 2).toNat + (h 3).toNat + (h 4).toNat + (h 5).toNat + (h 6).toNat + (h 7).toNat
theorem zqj (b : Bool) : b.toNat ≤ 1:=by cases b <;> decide
theorem zdk {h : Nat → Bool} (hl : zg4 h < 8) : ∃ r,r < 8 ∧ h r = false:=by
 refine Classical.byContradiction fun hn => ?_
 have all : ∀ r,r < 8 → h r = true:=fun r hr => by
  cases e : h r with
  | true => rfl
  | false => exact absurd ⟨r,hr,e⟩ hn
 unfold zg4 at hl
 rw [all 0 (by omega),all 1 (by omega),all 2 (by omega),all 3 (by omega),all 4 (by omega),all 5 (by omega),all 6 (by omega),all 7 (by omega)] at hl
 exact absurd hl (by decide)
theorem ziT (h : Nat → Bool) (r : Nat) (hr : r < 8) : zg4 (updH h r true) ≤ zg4 h + 1:=by
 have t:=fun j => zqj (h j)
 have t0:=t 0
 have t1:=t 1
 have t2:=t 2
 have t3:=t 3
 have t4:=t 4
 have t5:=t 5
 have t6:=t 6
 have t7:=t 7
 have hr2 : r = 0 ∨ r = 1 ∨ r = 2 ∨ r = 3 ∨ r = 4 ∨ r = 5 ∨ r = 6 ∨ r = 7:=by omega
 unfold zg4 updH
 rcases hr2 with rfl | rfl | rfl | rfl | rfl | rfl | rfl | rfl <;> simp <;> omega
theorem zo4 {h : Nat → Bool} {i n : Nat} (hi : h i = false) (hn : updH h i true n = false) : updH (updH (updH (updH h i true) n true) i false) n false = h:=by
 have hne : ¬ n = i:=fun e => by rw [e] at hn; simp [updH] at hn
 have hn2 : h n = false:=by simpa [updH,hne] using hn
 funext j
 unfold updH
 by_cases e : j = n
 ·rw [if_pos e,e,hn2]
 ·rw [if_neg e]
  by_cases e2 : j = i
  ·rw [if_pos e2,e2,hi]
  ·rw [if_neg e2,if_neg e,if_neg e2]
end Go.Proofs.YtfpgjkbjbbgciaaGreatDoor
