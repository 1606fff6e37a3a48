import Derived.Test.YtfpgjkbjbbgciaaGreatDoorMf12
import Derived.Test.YtfpgjkbjbbgciaaGreatDoorMf13
set_option maxRecDepth 100000
set_option maxHeartbeats 8000000
namespace Go.Proofs.YtfpgjkbjbbgciaaGreatDoor
open Go.RowKit Sp
attribute [local go_sem ↓] Go.wp_at_zero Go.wp_at_succ
theorem zgI (w : World) (a b : Obj) (p : Addr) (h : p.block < w.heap.size) : ((w.alloc a).alloc b).drew.frozen? p = w.frozen? p :=
 World.frozen?_of_block (w:=w) ((((Below.refl w.heap.size w).alloc (Nat.le_refl _) a).alloc (by simp) b).drew.block p.block h)
theorem zkz (w : World) (a b : Obj) (p : Addr) (h : p.block < w.heap.size) : ((w.alloc a).alloc b).drew.cell? p = w.cell? p :=
 World.cell?_of_block (w:=w) ((((Below.refl w.heap.size w).alloc (Nat.le_refl _) a).alloc (by simp) b).drew.block p.block h)
theorem zk0 (w : World) (a : Obj) (cs : Array Value) (t : TypeId) : ((w.alloc a).alloc (.cells cs t)).drew.heap[w.heap.size + 1]? = some (.cells cs t (0,0)):=by
 have h:=heap_alloc_new (w.alloc a) (.cells cs t)
 rw [show (w.alloc a).heap.size = w.heap.size + 1 by simp] at h
 exact h
theorem zia {w w1 : World} {a b : Obj} {row : Option Nat} (h : ((w.alloc a).alloc b).drew.grownBy w1 row) : w.grownBy w1 row :=
 ((World.grownBy_alloc w a row).trans (World.grownBy_alloc _ b row)).trans ⟨h.os,h.tape,h.output,h.size,h.block⟩
theorem znh (w : World) (B fg o : Nat) (bv : Value) (its : List It) (i : It) (hs : ¬ i.sort = 1)
  (hc : w.cell? ⟨fg,o + 2,none⟩ = some bv) (hf : w.frozen? ⟨fg,o + 2,none⟩ = false) (hown : w.ownsRow B 135 8 bv its.length (zam its)) (hne : bv.ownBlock ≠ some fg) (hB : B ≤ w.heap.size) (hn : its.length ≤ 4096) :
  Calls Tryz.prog 101 #[.pointer (some ⟨fg,o,none⟩),stm i.sort i.line i.word i.a i.b i.c i.n i.nm] w fun e w' => e = .returned (.tuple #[]) ∧
   ∃ g cap w1,w' = w1.setCell ⟨fg,o + 2,none⟩ (.slice (some ⟨g,0,none⟩) (its.length + 1) cap) ∧ w.grownBy w1 bv.ownBlock ∧
    w1.ownsRow B 135 8 (.slice (some ⟨g,0,none⟩) (its.length + 1) cap) (its.length + 1) (zam (its ++ [i])) ∧ (bv.ownBlock = some g ∨ w.heap.size ≤ g):=by
 obtain ⟨i0,hi0,hz0,hz1,hz2⟩:=info_parts Tryz.info135
 have lg : fg < w.heap.size:=World.block_lt_of_cell? w _ hc
 have hs' : (i.sort == 1) = false:=by simpa using hs
 have hlt : ∀ b,bv.ownBlock = some b → b < w.heap.size:=fun b hb => (hown.lt b hb).2
 have hne2 : some fg ≠ bv.ownBlock:=fun e => hne e.symm
 have hne3 : some w.heap.size ≠ bv.ownBlock:=fun e => by have:=hlt _ e.symm; omega
 have hne4 : ¬ w.heap.size = fg:=by omega
 have hne5 : ¬ fg = w.heap.size:=by omega
 go_enter Tryz.func101,Tryz.ntmps101
 go_wp2_with fail
 go_region_law
  ((refine step_append_lies _ (by rfl) _ _ _ (by rfl) B 135 i0 _ 8 80 Tryz.under116 hi0 hz0 hz1 hz2 rfl (by omega) bv its.length (zam its) (by rfl) (((hown.alloc _).alloc _).drew)
     ⟨w.heap.size + 1,0,none⟩ 1 1 i.cells (by rfl) (by rfl) (World.news_of_block (cs:=i.cells.toArray) (t:=135) (fr:=(0,0)) (zk0 w _ _ _)) (zhS i)
     (by omega) (by unfold maxLen; omega) (by omega) (by simp; omega) (w.heap.size + 1 + 1) (by simp) ?_; intro g cap w1 hown1 hgrow hat hltg; have hfz : w1.frozen? ⟨fg,o + 2,none⟩ = false:=(hgrow.frozen_far _ (by simp; omega) hne2).trans ((zgI w _ _ _ lg).trans hf); have hcz : w1.cell? ⟨fg,o + 2,none⟩ = some bv:=(hgrow.cell_far _ (by simp; omega) hne2).trans ((zkz w _ _ _ lg).trans hc)))
 all_goals go_end0
 all_goals exact ⟨rfl,g,cap,w1,rfl,zia hgrow,by rw [zeo]; exact hown1,by rcases hat with h | h; exact .inl h; exact .inr (by omega)⟩
end Go.Proofs.YtfpgjkbjbbgciaaGreatDoor
namespace Go.Proofs.YtfpgjkbjbbgciaaGreatDoor
open Sp
theorem zns (L : List Said) (k : Nat) (q : Said) (x1 : ByteArray) (h : q.kept = [⟨#[106,117,109,112]⟩,x1]) : insQ L k q = .jump (zfo L k x1):=by
 obtain ⟨kd,kp,ok⟩:=q
 cases h
 kernel_rfl
theorem znt (L : List Said) (k : Nat) (q : Said) (x1 x2 x3 : ByteArray) (h : q.kept = [⟨#[108,101,115,115]⟩,x1,x2,x3]) : insQ L k q = .less (regN x1) (regN x2) (zfo L k x3):=by
 obtain ⟨kd,kp,ok⟩:=q
 cases h
 kernel_rfl
theorem znu (L : List Said) (k : Nat) (q : Said) (x1 x2 x3 : ByteArray) (h : q.kept = [⟨#[115,97,109,101]⟩,x1,x2,x3]) : insQ L k q = .same (regN x1) (regN x2) (zfo L k x3):=by
 obtain ⟨kd,kp,ok⟩:=q
 cases h
 kernel_rfl
theorem znv (L : List Said) (k : Nat) (q : Said) (x1 : ByteArray) (h : q.kept = [⟨#[99,97,108,108]⟩,x1]) : insQ L k q = .call (fnTo L x1):=by
 obtain ⟨kd,kp,ok⟩:=q
 cases h
 kernel_rfl
theorem znw (L : List Said) (k : Nat) (q : Said) (h : q.kept = [⟨#[98,97,99,107]⟩]) : insQ L k q = .back:=by
 obtain ⟨kd,kp,ok⟩:=q
 cases h
 kernel_rfl
theorem znx (L : List Said) (k : Nat) (q : Said) (h : q.kept = [⟨#[115,116,111,112]⟩]) : insQ L k q = .stop:=by
 obtain ⟨kd,kp,ok⟩:=q
 cases h
 kernel_rfl
theorem zps (L : List Said) (k : Nat) (q : Said) (x1 x2 : ByteArray) (h : q.kept = [⟨#[115,101,116]⟩,x1,x2]) : insQ L k q = .set (regN x1) (zbj x2).1:=by
 obtain ⟨kd,kp,ok⟩:=q
 cases h
 kernel_rfl
theorem zpt (L : List Said) (k : Nat) (q : Said) (x1 x2 : ByteArray) (h : q.kept = [⟨#[109,111,118]⟩,x1,x2]) : insQ L k q = .mov (regN x1) (regN x2):=by
 obtain ⟨kd,kp,ok⟩:=q
 cases h
 kernel_rfl
theorem zpu (L : List Said) (k : Nat) (q : Said) (x1 x2 x3 : ByteArray) (h : q.kept = [⟨#[97,100,100]⟩,x1,x2,x3]) : insQ L k q = .alu 0 (regN x1) (regN x2) (regN x3):=by
 obtain ⟨kd,kp,ok⟩:=q
 cases h
 kernel_rfl
theorem zpv (L : List Said) (k : Nat) (q : Said) (x1 x2 x3 : ByteArray) (h : q.kept = [⟨#[115,117,98]⟩,x1,x2,x3]) : insQ L k q = .alu 1 (regN x1) (regN x2) (regN x3):=by
 obtain ⟨kd,kp,ok⟩:=q
 cases h
 kernel_rfl
theorem zpw (L : List Said) (k : Nat) (q : Said) (x1 x2 x3 : ByteArray) (h : q.kept = [⟨#[109,117,108]⟩,x1,x2,x3]) : insQ L k q = .alu 2 (regN x1) (regN x2) (regN x3):=by
 obtain ⟨kd,kp,ok⟩:=q
 cases h
 kernel_rfl
theorem zpx (L : List Said) (k : Nat) (q : Said) (x1 x2 : ByteArray) (h : q.kept = [⟨#[105,110,99]⟩,x1,x2]) : insQ L k q = .inc (regN x1) (zbj x2).1:=by
 obtain ⟨kd,kp,ok⟩:=q
 cases h
 kernel_rfl
theorem zny (L : List Said) (k : Nat) (q : Said) (x1 x2 : ByteArray) (h : q.kept = [⟨#[108,111,97,100]⟩,x1,x2]) : insQ L k q = .load (regN x1) (regN x2):=by
 obtain ⟨kd,kp,ok⟩:=q
 cases h
 kernel_rfl
theorem zlD (L : List Said) (k : Nat) (q : Said) (x1 x2 : ByteArray) (h : q.kept = [⟨#[115,116,111,114,101]⟩,x1,x2]) : insQ L k q = .store (regN x1) (regN x2):=by
 obtain ⟨kd,kp,ok⟩:=q
 cases h
 kernel_rfl
theorem znz (L : List Said) (k : Nat) (q : Said) (x1 : ByteArray) (h : q.kept = [⟨#[114,101,97,100]⟩,x1]) : insQ L k q = .read (regN x1):=by
 obtain ⟨kd,kp,ok⟩:=q
 cases h
 kernel_rfl
theorem zlE (L : List Said) (k : Nat) (q : Said) (x1 : ByteArray) (h : q.kept = [⟨#[119,114,105,116,101]⟩,x1]) : insQ L k q = .write (regN x1):=by
 obtain ⟨kd,kp,ok⟩:=q
 cases h
 kernel_rfl
end Go.Proofs.YtfpgjkbjbbgciaaGreatDoor
namespace Go.Proofs.YtfpgjkbjbbgciaaGreatDoor
open Go.RowKit Sp
attribute [local go_sem ↓] Go.wp_at_zero Go.wp_at_succ
theorem MapIs.drew {w : World} {b : Nat} {E : List (ByteArray × Nat)} (h : MapIs w b E) : MapIs w.drew b E:=h
theorem zj4 (w : World) (a : Obj) {w1 : World} (h : Below (w.alloc a).drew.heap.size (w.alloc a).drew w1) : Below w.heap.size w w1 :=
 (((Below.refl w.heap.size w).alloc (Nat.le_refl _) a).drew).trans (h.mono (by show w.heap.size ≤ (w.alloc a).heap.size; simp))
theorem zqN (w : World) (B fg o m : Nat) (bv : Value) (its : List It) (i : It) (E : List (ByteArray × Nat)) (hs : i.sort = 1)
  (hc : w.cell? ⟨fg,o + 2,none⟩ = some bv) (hm : w.cell? ⟨fg,o + 3,none⟩ = some (.map (some m))) (hM : MapIs w m E) (hown : w.ownsRow B 135 8 bv its.length (zam its)) (_hn : its.length ≤ 4096)
  (hnm : i.nm.size ≤ 1048576) (hold : (zaT E).any (fun y => eqW y i.nm) = true) :
  Calls Tryz.prog 101 #[.pointer (some ⟨fg,o,none⟩),stm i.sort i.line i.word i.a i.b i.c i.n i.nm] w fun e w' => e = zap 3 i.line ∧ Below w.heap.size w w':=by
 have lg : fg < w.heap.size:=World.block_lt_of_cell? w _ hc
 have hne4 : ¬ w.heap.size = fg:=by omega
 have hne5 : ¬ fg = w.heap.size:=by omega
 have hv : ∃ ao cap,bv = .slice ao its.length cap:=by
  rcases hown.2 with ⟨hv,h0⟩ | ⟨g,cap,cur,hv,_⟩
  ·exact ⟨none,0,by rw [hv,h0]⟩
  ·exact ⟨_,cap,hv⟩
 obtain ⟨ao,cap,rfl⟩:=hv
 rw [hs]
 have hcall:=zhX ((w.alloc (.cells #[.int .i64 1,.int .i64 i.line,.string i.word,.int .i64 i.a,.int .i64 i.b,.int .i64 i.c,.int .i64 i.n,.string i.nm] 135)).drew) m E (hM.alloc _).drew 1 i.line i.word i.a i.b i.c i.n i.nm (its.length : Int) hnm hold
 go_enter Tryz.func101,Tryz.ntmps101
 go_wp2_with fail
 go_region_dies
 all_goals (go_at_call 131; refine hcall.mono ?_; rintro e w2 ⟨rfl,hb⟩)
 all_goals exact ⟨rfl,rfl,zj4 _ _ hb⟩
theorem zpi (w : World) (s l : Int) (x : ByteArray) (a b c n : Int) (y : ByteArray) :
  ((w.alloc (.cells #[.int .i64 s,.int .i64 l,.string x,.int .i64 a,.int .i64 b,.int .i64 c,.int .i64 n,.string y] 135)).drew).cell? ⟨w.heap.size,0,none⟩ = some (.int .i64 s) ∧
  ((w.alloc (.cells #[.int .i64 s,.int .i64 l,.string x,.int .i64 a,.int .i64 b,.int .i64 c,.int .i64 n,.string y] 135)).drew).cell? ⟨w.heap.size,1,none⟩ = some (.int .i64 l) ∧
  ((w.alloc (.cells #[.int .i64 s,.int .i64 l,.string x,.int .i64 a,.int .i64 b,.int .i64 c,.int .i64 n,.string y] 135)).drew).cell? ⟨w.heap.size,2,none⟩ = some (.string x) ∧
  ((w.alloc (.cells #[.int .i64 s,.int .i64 l,.string x,.int .i64 a,.int .i64 b,.int .i64 c,.int .i64 n,.string y] 135)).drew).cell? ⟨w.heap.size,3,none⟩ = some (.int .i64 a) ∧
  ((w.alloc (.cells #[.int .i64 s,.int .i64 l,.string x,.int .i64 a,.int .i64 b,.int .i64 c,.int .i64 n,.string y] 135)).drew).cell? ⟨w.heap.size,4,none⟩ = some (.int .i64 b) ∧
  ((w.alloc (.cells #[.int .i64 s,.int .i64 l,.string x,.int .i64 a,.int .i64 b,.int .i64 c,.int .i64 n,.string y] 135)).drew).cell? ⟨w.heap.size,5,none⟩ = some (.int .i64 c) ∧
  ((w.alloc (.cells #[.int .i64 s,.int .i64 l,.string x,.int .i64 a,.int .i64 b,.int .i64 c,.int .i64 n,.string y] 135)).drew).cell? ⟨w.heap.size,6,none⟩ = some (.int .i64 n) ∧
  ((w.alloc (.cells #[.int .i64 s,.int .i64 l,.string x,.int .i64 a,.int .i64 b,.int .i64 c,.int .i64 n,.string y] 135)).drew).cell? ⟨w.heap.size,7,none⟩ = some (.string y):=by
 have h:=World.cell?_alloc_new (w:=w) #[.int .i64 s,.int .i64 l,.string x,.int .i64 a,.int .i64 b,.int .i64 c,.int .i64 n,.string y] 135
 exact ⟨h 0,h 1,h 2,h 3,h 4,h 5,h 6,h 7⟩
theorem zgJ (w : World) (b : Obj) (p : Addr) (h : p.block < w.heap.size) : (w.alloc b).drew.frozen? p = w.frozen? p :=
 World.frozen?_of_block (w:=w) (((Below.refl w.heap.size w).alloc (Nat.le_refl _) b).drew.block p.block h)
theorem zft (w : World) (b : Obj) (p : Addr) (h : p.block < w.heap.size) : (w.alloc b).drew.cell? p = w.cell? p :=
 World.cell?_of_block (w:=w) (((Below.refl w.heap.size w).alloc (Nat.le_refl _) b).drew.block p.block h)
theorem zpj (w : World) (cs : Array Value) (t : TypeId) : (w.alloc (.cells cs t)).drew.heap[w.heap.size]? = some (.cells cs t (0,0)):=heap_alloc_new w (.cells cs t)
theorem zfZ {w w1 : World} {a : Obj} {row : Option Nat} (h : (w.alloc a).drew.grownBy w1 row) : w.grownBy w1 row :=
 (World.grownBy_alloc w a row).trans ⟨h.os,h.tape,h.output,h.size,h.block⟩
theorem zqO (w : World) (B fg o m : Nat) (bv : Value) (its : List It) (i : It) (E : List (ByteArray × Nat)) (hs : i.sort = 1)
  (hc : w.cell? ⟨fg,o + 2,none⟩ = some bv) (hm : w.cell? ⟨fg,o + 3,none⟩ = some (.map (some m))) (hM : MapIs w m E) (hown : w.ownsRow B 135 8 bv its.length (zam its)) (hn : its.length ≤ 4096) (hnn : E.length ≤ 4096)
  (hnm : i.nm.size ≤ 1048576) (hold : (zaT E).any (fun y => eqW y i.nm) = false) :
  Calls Tryz.prog 101 #[.pointer (some ⟨fg,o,none⟩),stm i.sort i.line i.word i.a i.b i.c i.n i.nm] w fun e w' => e = .returned (.tuple #[]) ∧ w.grownBy w' (some m) ∧ MapIs w' m (E ++ [(i.nm,its.length)]):=by
 have lg : fg < w.heap.size:=World.block_lt_of_cell? w _ hc
 have hne4 : ¬ w.heap.size = fg:=by omega
 have hne5 : ¬ fg = w.heap.size:=by omega
 have hv : ∃ ao cap,bv = .slice ao its.length cap:=by
  rcases hown.2 with ⟨hv,h0⟩ | ⟨g,cap,cur,hv,_⟩
  ·exact ⟨none,0,by rw [hv,h0]⟩
  ·exact ⟨_,cap,hv⟩
 obtain ⟨ao,cap0,rfl⟩:=hv
 rw [hs]
 have hcall:=zhW ((w.alloc (.cells #[.int .i64 1,.int .i64 i.line,.string i.word,.int .i64 i.a,.int .i64 i.b,.int .i64 i.c,.int .i64 i.n,.string i.nm] 135)).drew) m E (hM.alloc _).drew 1 i.line i.word i.a i.b i.c i.n i.nm its.length hn hnn hnm hold
 go_enter Tryz.func101,Tryz.ntmps101
 go_wp2_with fail
 go_region_with (go_at_call 131; refine hcall.mono ?_; rintro e w2 ⟨rfl,hM2,hg2⟩)
 all_goals go_wp2
 all_goals go_end0
 all_goals exact ⟨rfl,zfZ hg2,hM2⟩
end Go.Proofs.YtfpgjkbjbbgciaaGreatDoor
namespace Go.Proofs.YtfpgjkbjbbgciaaGreatDoor
open Go.RowKit Sp
attribute [local go_sem ↓] Go.wp_at_zero Go.wp_at_succ
theorem Tryz.info131 : (Tryz.prog.info? 131).map (fun i => (i.zero,i.size,i.bytes)) = some (some (.agg #[.string ByteArray.empty,.int .i64 0,.slice none 0 0,.map none]),4,56):=by kernel_rfl
theorem Tryz.under80 : Tryz.prog.underlying 80 = some (.slice 131):=by kernel_rfl
theorem zqr (W : World) : (Instr.makeMap 81 none).run Tryz.prog W = .ok (.map (some W.heap.size)) (W.alloc (.map #[] 0)):=by kernel_rfl
theorem za9 {w : World} {B : Nat} {e : TypeId} {size n : Nat} {v : Value} {xs : List Value} (hown : w.ownsRow B e size v n xs) : ∃ ao cap,v = .slice ao n cap:=by
 rcases hown.2 with ⟨hv,h0⟩ | ⟨g,cap,cur,hv,_⟩
 ·exact ⟨none,0,by rw [hv,h0]⟩
 ·exact ⟨_,cap,hv⟩
theorem zni (w : World) (B p pm n : Nat) (v : Value) (xs : List Value) (i : It) (E : List (ByteArray × Nat))
  (hc : w.cell? ⟨p,0,none⟩ = some v) (hm : w.cell? ⟨p,1,none⟩ = some (.map (some pm))) (hM : MapIs w pm E) (hown : w.ownsRow B 131 4 v n xs) (_hn : n ≤ 4096)
  (hnm : i.nm.size ≤ 1048576) (hold : (zaT E).any (fun y => eqW y i.nm) = true) :
  Calls Tryz.prog 100 #[.pointer (some ⟨p,0,none⟩),stm i.sort i.line i.word i.a i.b i.c i.n i.nm] w fun e w' => e = zap 3 i.line ∧ Below w.heap.size w w':=by
 have lg : p < w.heap.size:=World.block_lt_of_cell? w _ hc
 have hne4 : ¬ w.heap.size = p:=by omega
 have hne5 : ¬ p = w.heap.size:=by omega
 obtain ⟨ao,cap,rfl⟩:=za9 hown
 have hcall:=zhX ((w.alloc (.cells #[.int .i64 i.sort,.int .i64 i.line,.string i.word,.int .i64 i.a,.int .i64 i.b,.int .i64 i.c,.int .i64 i.n,.string i.nm] 135)).drew) pm E (hM.alloc _).drew i.sort i.line i.word i.a i.b i.c i.n i.nm (n : Int) hnm hold
 go_enter Tryz.func100,Tryz.ntmps100
 go_wp2_with fail
 go_region_dies
 all_goals (go_at_call 131; refine hcall.mono ?_; rintro e w2 ⟨rfl,hb⟩)
 all_goals exact ⟨rfl,rfl,zj4 _ _ hb⟩
theorem znj (w : World) (B p pm n : Nat) (v : Value) (xs : List Value) (i : It) (E : List (ByteArray × Nat))
  (hc : w.cell? ⟨p,0,none⟩ = some v) (hm : w.cell? ⟨p,1,none⟩ = some (.map (some pm))) (hf : w.frozen? ⟨p,0,none⟩ = false) (hM : MapIs w pm E) (hown : w.ownsRow B 131 4 v n xs) (hne : v.ownBlock ≠ some p) (hB : B ≤ w.heap.size) (hn : n ≤ 4096) (hnn : E.length ≤ 4096)
  (hnm : i.nm.size ≤ 1048576) (hold : (zaT E).any (fun y => eqW y i.nm) = false) (hpm : ¬ p = pm) :
  Calls Tryz.prog 100 #[.pointer (some ⟨p,0,none⟩),stm i.sort i.line i.word i.a i.b i.c i.n i.nm] w fun e w' => e = .returned (.tuple #[]) ∧
   ∃ g cap w1 w2,w' = w1.setCell ⟨p,0,none⟩ (.slice (some ⟨g,0,none⟩) (n + 1) cap) ∧ w.grownBy w2 (some pm) ∧ MapIs w2 pm (E ++ [(i.nm,n)]) ∧ w2.grownBy w1 v.ownBlock ∧ w.heap.size ≤ w2.heap.size ∧ MapIs w1 w2.heap.size [] ∧
    w1.ownsRow B 131 4 (.slice (some ⟨g,0,none⟩) (n + 1) cap) (n + 1) (xs ++ [.string i.nm,.int .i64 i.line,.slice none 0 0,.map (some w2.heap.size)]) ∧ (v.ownBlock = some g ∨ w2.heap.size < g):=by
 obtain ⟨i0,hi0,hz0,hz1,hz2⟩:=info_parts Tryz.info131
 have lg : p < w.heap.size:=World.block_lt_of_cell? w _ hc
 have lm : pm < w.heap.size:=hM.lt
 have hne4 : ¬ w.heap.size = p:=by omega
 have hne5 : ¬ p = w.heap.size:=by omega
 have hlt : ∀ b,v.ownBlock = some b → b < w.heap.size:=fun b hb => (hown.lt b hb).2
 have hne2 : some p ≠ v.ownBlock:=fun e => hne e.symm
 have hmr:=zqL hM hown
 have hrow : v.ownBlock = none ∨ v.ownBlock ≠ some pm:=.inr (fun e => hmr e.symm)
 obtain ⟨ao,cap0,hbv⟩:=za9 hown
 have hc':=hc
 rw [hbv] at hc'
 have hcall:=zhW ((w.alloc (.cells #[.int .i64 i.sort,.int .i64 i.line,.string i.word,.int .i64 i.a,.int .i64 i.b,.int .i64 i.c,.int .i64 i.n,.string i.nm] 135)).drew) pm E (hM.alloc _).drew i.sort i.line i.word i.a i.b i.c i.n i.nm n hn hnn hnm hold
 obtain ⟨k0,k1,k2,k3,k4,k5,k6,k7⟩:=zpi w i.sort i.line i.word i.a i.b i.c i.n i.nm
 go_enter Tryz.func100,Tryz.ntmps100
 go_wp2_with fail
 go_region_held3 (fun w' => w'.cell? ⟨p,0,none⟩ = some (.slice ao n cap0) ∧ w'.cell? ⟨p,1,none⟩ = some (.map (some pm)) ∧ w'.cell? ⟨w.heap.size,0,none⟩ = some (.int .i64 i.sort) ∧ w'.cell? ⟨w.heap.size,1,none⟩ = some (.int .i64 i.line) ∧ w'.cell? ⟨w.heap.size,2,none⟩ = some (.string i.word) ∧
   w'.cell? ⟨w.heap.size,3,none⟩ = some (.int .i64 i.a) ∧ w'.cell? ⟨w.heap.size,4,none⟩ = some (.int .i64 i.b) ∧ w'.cell? ⟨w.heap.size,5,none⟩ = some (.int .i64 i.c) ∧ w'.cell? ⟨w.heap.size,6,none⟩ = some (.int .i64 i.n) ∧ w'.cell? ⟨w.heap.size,7,none⟩ = some (.string i.nm))
  (first
    | go_keep
    | (refine ⟨?_,?_,?_,?_,?_,?_,?_,?_,?_,?_⟩
       ·(exact (hg2.cell_far _ (by simp; omega) (by simp; omega)).trans ((zft w _ _ lg).trans hc'))
       ·(exact (hg2.cell_far _ (by simp; omega) (by simp; omega)).trans ((zft w _ _ lg).trans hm))
       ·(exact (hg2.cell_far _ (by simp) (by simp; omega)).trans k0)
       ·(exact (hg2.cell_far _ (by simp) (by simp; omega)).trans k1)
       ·(exact (hg2.cell_far _ (by simp) (by simp; omega)).trans k2)
       ·(exact (hg2.cell_far _ (by simp) (by simp; omega)).trans k3)
       ·(exact (hg2.cell_far _ (by simp) (by simp; omega)).trans k4)
       ·(exact (hg2.cell_far _ (by simp) (by simp; omega)).trans k5)
       ·(exact (hg2.cell_far _ (by simp) (by simp; omega)).trans k6)
       ·(exact (hg2.cell_far _ (by simp) (by simp; omega)).trans k7)))
  (first | (go_at_call 131; refine hcall.mono ?_; rintro e w2 ⟨rfl,hM2,hg2⟩))
 have hsz2 : w.heap.size + 1 ≤ w2.heap.size:=by have:=hg2.size; simpa using this
 have c2 : w2.cell? ⟨p,0,none⟩ = some v:=(hg2.cell_far _ (by simp; omega) (by simp; omega)).trans ((zft w _ _ lg).trans hc)
 have f2 : w2.frozen? ⟨p,0,none⟩ = false:=(hg2.frozen_far _ (by simp; omega) (by simp; omega)).trans ((zgJ w _ _ lg).trans hf)
 replace k1:=(hg2.cell_far ⟨w.heap.size,1,none⟩ (by simp) (by simp; omega)).trans k1
 replace k7:=(hg2.cell_far ⟨w.heap.size,7,none⟩ (by simp) (by simp; omega)).trans k7
 have own2 : w2.ownsRow B 131 4 v n xs:=((hown.alloc _).drew).kept hg2 hrow
 have hgw : w.grownBy w2 (some pm):=zfZ hg2
 clear hcall hg2 hc' hc hm hf hM hown k0 k2 k3 k4 k5 k6
 have l2 : p < w2.heap.size:=by omega
 have l3 : w.heap.size < w2.heap.size:=by omega
 have hne6 : ¬ w2.heap.size = p:=by omega
 have hne7 : ¬ p = w2.heap.size:=by omega
 have hne8 : ¬ w2.heap.size = w.heap.size:=by omega
 have hne9 : ¬ w.heap.size = w2.heap.size:=by omega
 have hmade:=MapIs.made w2
 have hlt2 : ∀ b,v.ownBlock = some b → b < w2.heap.size:=fun b hb => (own2.lt b hb).2
 have hnm2 : some w2.heap.size ≠ v.ownBlock:=fun e => by have:=hlt2 _ e.symm; omega
 have hmk:=fun W => zqr W
 go_wp2_with fail
 go_region_law
  ((refine step_append_lies _ (by rfl) _ _ _ (by rfl) B 131 i0 _ 4 56 Tryz.under80 hi0 hz0 hz1 hz2 rfl (by omega) v n xs (by rw [hbv]; rfl) (((own2.alloc _).alloc _).drew)
     ⟨w2.heap.size + 1,0,none⟩ 1 1 [.string i.nm,.int .i64 i.line,.slice none 0 0,.map (some w2.heap.size)] (by rfl) (by rfl) (World.news_of_block (cs:=#[.string i.nm,.int .i64 i.line,.slice none 0 0,.map (some w2.heap.size)]) (t:=131) (fr:=(0,0)) (zk0 w2 _ _ _)) (by simp [Value.oneCell'])
     (by omega) (by unfold maxLen; omega) (by omega) (by simp; omega) (w2.heap.size + 1 + 1) (by simp) ?_; intro g cap w1 hown1 hgrow hat hltg; have hfz : w1.frozen? ⟨p,0,none⟩ = false:=(hgrow.frozen_far _ (by simp; omega) hne2).trans ((zgI w2 _ _ _ l2).trans f2); have hcz : w1.cell? ⟨p,0,none⟩ = some v:=(hgrow.cell_far _ (by simp; omega) hne2).trans ((zkz w2 _ _ _ l2).trans c2)))
 all_goals go_end0
 all_goals exact ⟨rfl,g,cap,w1,w2,rfl,hgw,hM2,zia hgrow,by omega,((hmade.alloc _).drew).kept hgrow hnm2,hown1,by rcases hat with h | h; exact .inl h; exact .inr (by omega)⟩
end Go.Proofs.YtfpgjkbjbbgciaaGreatDoor
