import Derived.Test.YtfpgjkbjbbgciaaGreatDoorMc10
import Derived.Test.YtfpgjkbjbbgciaaGreatDoorMc14
set_option maxRecDepth 100000
set_option maxHeartbeats 8000000
namespace Go.Proofs.YtfpgjkbjbbgciaaGreatDoor
open Go.RowKit Sp
theorem zqJ (w : World) (g cap : Nat) (x : ByteArray) (line : Int) (hl : WordsIn w g [x]) (HS : Hid (zaa x = [])) :
  Calls Tryz.prog 130 #[.slice (some ⟨g,0,none⟩) 1 cap,.int .i64 line] w fun e w' => Below w.heap.size w w' ∧ e = .returned (stm 2 line x 0 0 0 0 ⟨#[]⟩):=by
 have hc0:=hl 0 (by simp)
 simp only [List.getElem_cons_zero] at hc0
 have hlt : g < w.heap.size:=by
  have:=World.block_lt_of_cell? w _ hc0; simpa using this
 go_enter Tryz.func130,Tryz.ntmps130
 go_wp2_with (first
  | (go_at_call 149; refine (zkh x _ HS).mono ?_; rintro e wx ⟨rfl,hww⟩; have h2:=hww.symm; subst h2))
 refine wp_loop_rounds 1 ?_
 rw [rounds_succ]
 go_wp2
 refine bodyPost_ret (v:=stm 2 line x 0 0 0 0 ⟨#[]⟩) (by simp [results,Tryz.results130,go_sem]) rfl ⟨?_,rfl⟩
 exact ((Below.refl _ _).alloc (Nat.le_refl _) _).alloc (by simp) _
theorem ztr (w : World) (hw : LibW w) (g cap : Nat) (x : ByteArray) (r : List ByteArray) (line : Int) (hl : WordsIn w g (x :: r)) (hsz : ∀ j (hj : j < r.length),r[j].size ≤ 1048576) (hn : r.length ≤ 1048576) :
  Calls Tryz.prog 130 #[.slice (some ⟨g,0,none⟩) (r.length + 1) cap,.int .i64 line] w (zqE w x r line):=by
 have hs3:=zjX x
 by_cases h63 : zaa x = [63]
 ·refine (zqG w g cap x r line hl hn h63).mono ?_
  rintro e w' ⟨h1,h2⟩
  exact ⟨h2,.inr ⟨by unfold zg5; rw [if_pos (.inl h63)],h1⟩⟩
 ·by_cases hlen : r.length = (zaa x).length
  ·have hio : zg5 x r = zaK (zaa x) r:=by unfold zg5; rw [if_neg]; rintro (h | h); exact h63 h; exact h hlen
   by_cases h0 : zaa x = []
   ·have hr : r = []:=List.eq_nil_of_length_eq_zero (by rw [hlen,h0]; rfl)
    subst hr
    refine (zqJ w g cap x line hl h0).mono ?_
    rintro e w' ⟨h1,h2⟩
    refine ⟨h1,.inl ⟨by rw [hio,h0]; rfl,?_⟩⟩
    rw [h2,h0]; rfl
   ·refine (zto w hw g cap x r line hl hsz (zaa x) rfl h63 h0 hs3 (by omega) (by omega)).mono ?_
    rintro e w' ⟨h1,h2⟩
    refine ⟨h1,?_⟩
    rw [hio]
    exact h2
  ·refine (ztl w g cap x r line hl hn (zaa x) rfl h63 hs3 (by simp; omega)).mono ?_
   rintro e w' ⟨h1,h2⟩
   exact ⟨h2,.inr ⟨by unfold zg5; rw [if_pos (.inr hlen)],h1⟩⟩
def zeV (q : Said) : Int:=if q.kind = 102 then 0 else if q.kind = 108 then 1 else 2
def zeh (q : Said) : ByteArray:=if q.kind = 105 then q.word 0 else ⟨#[]⟩
def zdy (q : Said) : ByteArray:=if q.kind = 102 then q.word 1 else if q.kind = 108 then q.word 0 else zow (zaa (q.word 0)) q.kept.tail q.kept.tail.length
def opQ (q : Said) : Opd:=if q.kind = 105 then opK (zaa (q.word 0)) q.kept.tail q.kept.tail.length else opd0
def zvf (w : World) (q : Said) (line : Int) : Ending → World → Prop:=fun e w' =>
 Below w.heap.size w w' ∧ (q.ok = true ∧ e = .returned (stm (zeV q) line (zeh q) (opQ q).a (opQ q).b (opQ q).c (opQ q).n (zdy q)) ∨ q.ok = false ∧ e = zah 1 line)
theorem ziu (x : ByteArray) (h : 1 ≤ x.size) : ∃ l c,x.data.toList = l ++ [c] ∧ zfo x = (c.toNat : Int) ∧ l.length = x.size - 1:=by
 have hl : x.data.toList.length = x.size:=by simp
 have hne : x.data.toList ≠ []:=by intro e; rw [e] at hl; simp at hl; omega
 obtain ⟨l,c,e⟩ : ∃ l c,x.data.toList = l ++ [c]:=⟨x.data.toList.dropLast,x.data.toList.getLast hne,(List.dropLast_concat_getLast hne).symm⟩
 have hll : l.length = x.size - 1:=by rw [e] at hl; simp at hl; omega
 refine ⟨l,c,e,?_,hll⟩
 unfold zfo bt
 rw [← Array.getElem?_toList,e,← hll]
 simp
theorem zdQ (x : ByteArray) (h : 1 ≤ x.size) : Lib.hasSuffix x.data.toList [58] = decide (zfo x = 58):=by
 obtain ⟨l,c,e,h1,_⟩:=ziu x h
 rw [h1,e]
 unfold Lib.hasSuffix List.isSuffixOf
 rw [List.reverse_append]
 by_cases hc : c = 58
 ·subst hc; simp [List.isPrefixOf]
 ·have h2 : ¬ 58 = c:=fun e => hc e.symm
  have h3 : ¬ (c.toNat : Int) = 58:=by
   intro e; apply hc; exact UInt8.toNat_inj.1 (by simp; omega)
  simp [List.isPrefixOf,h2,h3]
theorem zkj (x : ByteArray) (h : 1 ≤ x.size) (hs : zfo x = 58) : (⟨(Lib.trimSuffix x.data.toList [58]).toArray⟩ : ByteArray) = x.extract 0 (x.size - 1):=by
 obtain ⟨l,c,e,_,h2⟩:=ziu x h
 unfold Lib.trimSuffix
 rw [zdQ x h,hs]
 simp only [decide_true,if_true]
 apply ByteArray.ext
 rw [ByteArray.data_extract]
 apply Array.ext'
 rw [Array.toList_extract,List.extract_eq_take_drop]
 simp only [List.drop_zero,Nat.sub_zero]
 congr 1
theorem zlU (x : ByteArray) (_h : 1 ≤ x.size) (hs : zfo x = 58) : zaa x = [63]:=by
 have key : ∀ l : List UInt8,(isW x l = true) → zfo ⟨l.toArray⟩ = 58:=by
  intro l hl
  have:=zap x l hl
  rw [← this]; exact hs
 unfold zaa
 repeat' split
 all_goals first
  | rfl
  | (exfalso; rename_i hh; simp only [Bool.or_eq_true] at hh; rcases hh with hh | hh <;> (first | (have:=key _ hh; revert this; decide) | (rcases hh with hh | hh <;> (have:=key _ hh; revert this; decide))))
theorem WordsIn.alloc {w : World} {g : Nat} {l : List ByteArray} (h : WordsIn w g l) (o : Obj) : WordsIn (w.alloc o) g l:=by
 intro j hj
 have hc:=h j hj
 rw [World.cell?_alloc_lt w o ⟨g,j,none⟩ (by have:=World.block_lt_of_cell? w _ hc; simpa using this)]
 exact hc
abbrev zdc : Obj:=.cells #[.int .i64 0,.int .i64 0,.string ⟨#[]⟩,.int .i64 0,.int .i64 0,.int .i64 0,.int .i64 0,.string ⟨#[]⟩] 135
theorem zd8 {w w1 : World} {o : Obj} (hb : Below (w.alloc o).heap.size (w.alloc o) w1) : Below w.heap.size w w1:=((Below.refl _ _).alloc (Nat.le_refl _) _).trans (hb.mono (by simp))
theorem zjm (w : World) (g cap : Nat) (r : List ByteArray) (line : Int) (hl : WordsIn w g (⟨#[102,117,110,99]⟩ :: r)) (hsz : ∀ y ∈ (⟨#[102,117,110,99]⟩ :: r : List ByteArray),y.size ≤ 1048576) (hn : r.length ≤ 1048576) (h : ¬ ((⟨#[102,117,110,99]⟩ :: r : List ByteArray).length = 2 ∧ zaz ((⟨#[102,117,110,99]⟩ :: r : List ByteArray).getLast?.getD ByteArray.empty) = true)) :
  Calls Tryz.prog 99 #[.slice (some ⟨g,0,none⟩) (r.length + 1) cap,.int .i64 line] w fun e w' => e = zah 1 line ∧ Below w.heap.size w w':=by
 have hc0:=hl 0 (by simp)
 simp only [List.getElem_cons_zero] at hc0
 have hlt : g < w.heap.size:=by have:=World.block_lt_of_cell? w _ hc0; simpa using this
 have hcall:=zou (w.alloc zdc) g cap _ line (hl.alloc _) hsz (by simp; omega) h
 simp only [List.length_cons] at hcall
 go_enter Tryz.func99,Tryz.ntmps99
 go_wp2_with (go_at_call 127; refine hcall.mono ?_; rintro e w1 ⟨rfl,hb⟩)
 exact ⟨rfl,rfl,zd8 hb⟩
theorem zhZ (w : World) (g cap : Nat) (y : ByteArray) (line : Int) (hl : WordsIn w g [⟨#[102,117,110,99]⟩,y]) (hy : y.size ≤ 1048576) (hnm : zaz y = true) :
  Calls Tryz.prog 99 #[.slice (some ⟨g,0,none⟩) 2 cap,.int .i64 line] w fun e w' => e = .returned (stm 0 line ⟨#[]⟩ 0 0 0 0 y) ∧ Below w.heap.size w w':=by
 have hc0:=hl 0 (by simp)
 simp only [List.getElem_cons_zero] at hc0
 have hlt : g < w.heap.size:=by have:=World.block_lt_of_cell? w _ hc0; simpa using this
 have hcall:=zlR (w.alloc zdc) g cap _ y line (hl.alloc _) hy hnm
 go_enter Tryz.func99,Tryz.ntmps99
 go_wp2_with (go_at_call 127; refine hcall.mono ?_; rintro e w1 ⟨rfl,hb⟩; obtain ⟨hc,hf⟩:=zdO hb)
 obtain ⟨f0,f1,f2,f3,f4,f5,f6,f7⟩:=zot (new8 rfl hb)
 refine bodyPost_ret (v:=stm 0 line ⟨#[]⟩ 0 0 0 0 y) (by simp [results,Tryz.results99,go_sem,f0,f1,f2,f3,f4,f5,f6,f7]) rfl ⟨rfl,?_⟩
 exact zis (zd8 hb) (Nat.le_refl _) _ _ _ _ _ _ _ _
theorem zkk (w : World) (g cap : Nat) (x : ByteArray) (r : List ByteArray) (line : Int) (hl : WordsIn w g (x :: r)) (hx : x.size ≤ 1048576) (hx1 : 1 ≤ x.size) (hn : r.length ≤ 1048576) (hnf : (x.toList == [102,117,110,99]) = false) (hs : zfo x = 58) (h : ¬ (r.length + 1 = 1 ∧ zaz (x.extract 0 (x.size - 1)) = true)) :
  Calls Tryz.prog 99 #[.slice (some ⟨g,0,none⟩) (r.length + 1) cap,.int .i64 line] w fun e w' => e = zah 1 line ∧ Below w.heap.size w w':=by
 have hc0:=hl 0 (by simp)
 simp only [List.getElem_cons_zero] at hc0
 have hlt : g < w.heap.size:=by have:=World.block_lt_of_cell? w _ hc0; simpa using this
 have hcut:=Tryz.strings_CutSuffix x ⟨#[58]⟩ (w.alloc zdc) (by omega)
 rw [show (⟨#[58]⟩ : ByteArray).data.toList = [58] from rfl,zdQ x hx1,zkj x hx1 hs,hs] at hcut
 simp only [decide_true] at hcut
 have hcall:=zov (w.alloc zdc) (some ⟨g,0,none⟩) (r.length + 1) cap (x.extract 0 (x.size - 1)) line (by rw [ByteArray.size_extract]; omega) (by omega) h
 clear hs
 go_enter Tryz.func99,Tryz.ntmps99
 go_wp2_with (first | (go_at_call 128; refine hcut.mono ?_; rintro e wx ⟨rfl,hww⟩; subst hww) | (go_at_call 129; refine hcall.mono ?_; rintro e w1 ⟨rfl,hb⟩))
 exact ⟨rfl,rfl,zd8 hb⟩
theorem zjn (w : World) (g cap : Nat) (x : ByteArray) (line : Int) (hl : WordsIn w g [x]) (hx : x.size ≤ 1048576) (hx1 : 1 ≤ x.size) (hnf : (x.toList == [102,117,110,99]) = false) (hs : zfo x = 58) (h : zaz (x.extract 0 (x.size - 1)) = true) :
  Calls Tryz.prog 99 #[.slice (some ⟨g,0,none⟩) 1 cap,.int .i64 line] w fun e w' => e = .returned (stm 1 line ⟨#[]⟩ 0 0 0 0 (x.extract 0 (x.size - 1))) ∧ Below w.heap.size w w':=by
 have hc0:=hl 0 (by simp)
 simp only [List.getElem_cons_zero] at hc0
 have hlt : g < w.heap.size:=by have:=World.block_lt_of_cell? w _ hc0; simpa using this
 have hcut:=Tryz.strings_CutSuffix x ⟨#[58]⟩ (w.alloc zdc) (by omega)
 rw [show (⟨#[58]⟩ : ByteArray).data.toList = [58] from rfl,zdQ x hx1,zkj x hx1 hs,hs] at hcut
 simp only [decide_true] at hcut
 have hcall:=zlS (w.alloc zdc) (some ⟨g,0,none⟩) cap (x.extract 0 (x.size - 1)) line (by rw [ByteArray.size_extract]; omega) h
 clear hs
 go_enter Tryz.func99,Tryz.ntmps99
 go_wp2_with (first | (go_at_call 128; refine hcut.mono ?_; rintro e wx ⟨rfl,hww⟩; subst hww) | (go_at_call 129; refine hcall.mono ?_; rintro e w1 ⟨rfl,hb⟩; obtain ⟨hc,hf⟩:=zdO hb))
 obtain ⟨f0,f1,f2,f3,f4,f5,f6,f7⟩:=zot (new8 rfl hb)
 refine bodyPost_ret (v:=stm 1 line ⟨#[]⟩ 0 0 0 0 (x.extract 0 (x.size - 1))) (by simp [results,Tryz.results99,go_sem,f0,f1,f2,f3,f4,f5,f6,f7]) rfl ⟨rfl,?_⟩
 exact zis (zd8 hb) (Nat.le_refl _) _ _ _ _ _ _ _ _
theorem zts (w : World) (hw : LibW w) (g cap : Nat) (x : ByteArray) (r : List ByteArray) (line : Int) (hl : WordsIn w g (x :: r)) (hsz : ∀ j (hj : j < r.length),r[j].size ≤ 1048576) (hx : x.size ≤ 1048576) (hx1 : 1 ≤ x.size) (hn : r.length ≤ 1048576) (hnf : (x.toList == [102,117,110,99]) = false) (hs : ¬ zfo x = 58) :
  Calls Tryz.prog 99 #[.slice (some ⟨g,0,none⟩) (r.length + 1) cap,.int .i64 line] w (zqE w x r line):=by
 have hc0:=hl 0 (by simp)
 simp only [List.getElem_cons_zero] at hc0
 have hlt : g < w.heap.size:=by have:=World.block_lt_of_cell? w _ hc0; simpa using this
 have hcut:=Tryz.strings_CutSuffix x ⟨#[58]⟩ (w.alloc zdc) (by omega)
 rw [show (⟨#[58]⟩ : ByteArray).data.toList = [58] from rfl,zdQ x hx1] at hcut
 simp only [hs,decide_false] at hcut
 generalize (⟨(Lib.trimSuffix x.data.toList [58]).toArray⟩ : ByteArray) = tr at hcut
 have hcall:=ztr (w.alloc zdc) (hw.below ((Below.refl _ _).alloc (Nat.le_refl _) _)) g cap x r line (hl.alloc _) hsz hn
 cases hok : zg5 x r with
 | true =>
  have hcall2:=hcall.mono (R':=fun e w' => e = .returned ((opK (zaa x) r r.length).stm line x) ∧ Below (w.alloc zdc).heap.size (w.alloc zdc) w') (by
   rintro e w' ⟨h1,h2 | h2⟩
   ·exact ⟨h2.2,h1⟩
   ·rw [hok] at h2; exact absurd h2.1 (by simp))
  clear hs hcall
  generalize hop : opK (zaa x) r r.length = op at hcall2
  obtain ⟨nm,r0,r1,r2,n⟩:=op
  have HO : Hid (opK (zaa x) r r.length = ⟨nm,r0,r1,r2,n⟩):=hop
  clear hop
  go_enter Tryz.func99,Tryz.ntmps99
  go_wp2_with (first | (go_at_call 128; refine hcut.mono ?_; rintro e wx ⟨rfl,hww⟩; subst hww) | (go_at_call 130; refine hcall2.mono ?_; rintro e w1 ⟨rfl,hb⟩; obtain ⟨hc,hf⟩:=zdO hb))
  obtain ⟨f0,f1,f2,f3,f4,f5,f6,f7⟩:=zot (new8 rfl hb)
  refine bodyPost_ret (v:=stm 2 line x r0 r1 r2 n nm) (by simp [results,Tryz.results99,go_sem,f0,f1,f2,f3,f4,f5,f6,f7]) rfl ⟨?_,.inl ⟨hok,by rw [HO.out]⟩⟩
  exact zis (zd8 hb) (Nat.le_refl _) _ _ _ _ _ _ _ _
 | false =>
  have hcall2:=hcall.mono (R':=fun e w' => e = zah 1 line ∧ Below (w.alloc zdc).heap.size (w.alloc zdc) w') (by
   rintro e w' ⟨h1,h2 | h2⟩
   ·rw [hok] at h2; exact absurd h2.1 (by simp)
   ·exact ⟨h2.2,h1⟩)
  clear hs hcall
  go_enter Tryz.func99,Tryz.ntmps99
  go_wp2_with (first | (go_at_call 128; refine hcut.mono ?_; rintro e wx ⟨rfl,hww⟩; subst hww) | (go_at_call 130; refine hcall2.mono ?_; rintro e w1 ⟨rfl,hb⟩))
  exact ⟨rfl,zd8 hb,.inr ⟨hok,rfl⟩⟩
theorem zng (w : World) (hw : LibW w) (g cap : Nat) (x : ByteArray) (r : List ByteArray) (line : Int) (hl : WordsIn w g (x :: r)) (hsz : ∀ y ∈ (x :: r : List ByteArray),1 ≤ y.size ∧ y.size ≤ 1048576) (hn : r.length ≤ 1048576) :
  Calls Tryz.prog 99 #[.slice (some ⟨g,0,none⟩) (r.length + 1) cap,.int .i64 line] w (zvf w (sayW (x :: r)) line):=by
 have hx:=hsz x (by simp)
 cases hf : zjT x with
 | true =>
  have e1 : sayW (x :: r) = ⟨102,x :: r,decide ((x :: r).length = 2) && zaz ((x :: r).getLast?.getD ByteArray.empty)⟩:=by simp only [sayW,hf,if_true]
  rw [e1]
  have:=zqw x hf
  subst this
  by_cases hg : (⟨#[102,117,110,99]⟩ :: r : List ByteArray).length = 2 ∧ zaz ((⟨#[102,117,110,99]⟩ :: r : List ByteArray).getLast?.getD ByteArray.empty) = true
  ·match r,hg,hl,hsz with
   | [y],hg,hl,hsz =>
    have hnm : zaz y = true:=by simpa using hg.2
    refine (zhZ w g cap y line hl (hsz y (by simp)).2 hnm).mono ?_
    rintro e w' ⟨h1,h2⟩
    exact ⟨h2,.inl ⟨by simp [hnm],h1⟩⟩
  ·refine (zjm w g cap r line hl (fun y hy => (hsz y hy).2) hn hg).mono ?_
   rintro e w' ⟨h1,h2⟩
   exact ⟨h2,.inr ⟨by simpa using hg,h1⟩⟩
 | false =>
  have hnf : (x.toList == [102,117,110,99]) = false:=hf
  by_cases hs : zfo x = 58
  ·by_cases hg : r.length + 1 = 1 ∧ zaz (x.extract 0 (x.size - 1)) = true
   ·have hr : r = []:=List.eq_nil_of_length_eq_zero (by omega)
    subst hr
    have e1 : sayW [x] = ⟨108,[x.extract 0 (x.size - 1)],zaz (x.extract 0 (x.size - 1))⟩:=by simp only [sayW,hf]; rw [if_neg (by simp),if_pos ⟨rfl,hs⟩]
    rw [e1]
    refine (zjn w g cap x line hl hx.2 hx.1 hnf hs hg.2).mono ?_
    rintro e w' ⟨h1,h2⟩
    exact ⟨h2,.inl ⟨hg.2,h1⟩⟩
   ·refine (zkk w g cap x r line hl hx.2 hx.1 hn hnf hs hg).mono ?_
    rintro e w' ⟨h1,h2⟩
    refine ⟨h2,.inr ⟨?_,h1⟩⟩
    by_cases hr : r = []
    ·subst hr
     have e1 : sayW [x] = ⟨108,[x.extract 0 (x.size - 1)],zaz (x.extract 0 (x.size - 1))⟩:=by simp only [sayW,hf]; rw [if_neg (by simp),if_pos ⟨rfl,hs⟩]
     rw [e1]
     simpa using hg
    ·have hr1 : ¬ (x :: r).length = 1:=by cases r with | nil => exact absurd rfl hr | cons a b => simp
     have e1 : (sayW (x :: r)).ok = if zaa x = [63] ∨ ¬ (x :: r).length = (zaa x).length + 1 then false else zaK (zaa x) r:=by
      simp only [sayW,hf]; rw [if_neg (by simp),if_neg (fun h => hr1 h.1)]
     rw [e1,if_pos (.inl (zlU x hx.1 hs))]
  ·have e1 : sayW (x :: r) = ⟨105,x :: r,if zaa x = [63] ∨ ¬ (x :: r).length = (zaa x).length + 1 then false else zaK (zaa x) r⟩:=by simp only [sayW,hf]; rw [if_neg (by simp),if_neg (fun h => hs h.2)]
   rw [e1]
   have e2 : (if zaa x = [63] ∨ ¬ (x :: r).length = (zaa x).length + 1 then false else zaK (zaa x) r) = zg5 x r:=by
    unfold zg5
    simp only [List.length_cons,Nat.add_right_cancel_iff]
   rw [e2]
   refine (zts w hw g cap x r line hl (fun j hj => (hsz r[j] (List.mem_cons_of_mem _ (List.getElem_mem hj))).2) hx.2 hx.1 hn hnf hs).mono ?_
   rintro e w' ⟨h1,h2 | h2⟩
   ·refine ⟨h1,.inl ⟨h2.1,?_⟩⟩
    rw [h2.2]
    show Ending.returned (stm 2 line x (opK (zaa x) r r.length).a (opK (zaa x) r r.length).b (opK (zaa x) r r.length).c (opK (zaa x) r r.length).n (opK (zaa x) r r.length).nm) = _
    rw [zwp]
    rfl
   ·exact ⟨h1,.inr h2⟩
theorem zqL (s : ByteArray) (w : World) (hs : s.size ≤ 1048576) (h : 4000 < s.size ∨ 300 < (lines s).length) :
  Calls Tryz.prog 65 #[.string s] w fun e w' => e = zah 6 0 ∧ w' = w:=by
 have hcl:=(zeW s).1
 have hll:=zfu s
 have hcall:=Tryz.strings_Count_one s 10 w
 generalize Lib.countByte s.data.toList 10 = c at hcl hcall
 by_cases h4 : 4000 < s.size
 ·go_enter Tryz.func65,Tryz.ntmps65
  go_wp2_with (first | (go_at_call 96; refine hcall.mono ?_; rintro e wx ⟨rfl,hww⟩; have h2:=hww.symm; subst h2) | (go_at_call 79; refine (zaw _ _ _).mono ?_; rintro e wx ⟨rfl,hww⟩; have h2:=hww.symm; subst h2))
  exact ⟨rfl,rfl,rfl⟩
 ·have h3 : 300 < c + 1:=by omega
  have hc : c ≤ 1048576:=by omega
  clear hcl
  go_enter Tryz.func65,Tryz.ntmps65
  go_wp2_with (first | (go_at_call 96; refine hcall.mono ?_; rintro e wx ⟨rfl,hww⟩; have h2:=hww.symm; subst h2) | (go_at_call 79; refine (zaw _ _ _).mono ?_; rintro e wx ⟨rfl,hww⟩; have h2:=hww.symm; subst h2))
  exact ⟨rfl,rfl,rfl⟩
theorem zcI (s : ByteArray) (w : World) (h4 : s.size ≤ 4000) (h3 : (lines s).length ≤ 300) :
  Calls Tryz.prog 65 #[.string s] w fun e w' => e = .returned (.tuple #[]) ∧ w' = w:=by
 have hcl:=(zeW s).1
 have hcall:=Tryz.strings_Count_one s 10 w
 generalize Lib.countByte s.data.toList 10 = c at hcl hcall
 have h5 : c + 1 ≤ 300:=by omega
 clear hcl
 go_enter Tryz.func65,Tryz.ntmps65
 go_wp2_with (first | (go_at_call 96; refine hcall.mono ?_; rintro e wx ⟨rfl,hww⟩; have h2:=hww.symm; subst h2))
 go_end0
 exact ⟨rfl,rfl⟩
structure It where
 sort : Int
 line : Int
 word : ByteArray
 nm : ByteArray
 a : Int
 b : Int
 c : Int
 n : Int
abbrev It.cells (i : It) : List Value:=[.int .i64 i.sort,.int .i64 i.line,.string i.word,.int .i64 i.a,.int .i64 i.b,.int .i64 i.c,.int .i64 i.n,.string i.nm]
def zat (l : List It) : List Value:=l.flatMap It.cells
structure Key where
 sort : Int
 line : Int
 word : ByteArray
 nm : ByteArray
 a : Int
 b : Int
 c : Int
 n : Int
def It.key (i : It) : Key:=⟨i.sort,i.line,i.word,i.nm,i.a,i.b,i.c,i.n⟩
def keyQ (q : Said) (line : Int) : Key:=⟨zeV q,line,zeh q,zdy q,(opQ q).a,(opQ q).b,(opQ q).c,(opQ q).n⟩
def zaT (A : List ByteArray) : Nat → List Key
 | 0 => []
 | k + 1 => zaT A k ++ (match A[k]? with | none => [] | some x => if (say x).kind = 0 then [] else [keyQ (say x) ((k : Int) + 1)])
theorem zfz (l : List It) (i : It) : zat (l ++ [i]) = zat l ++ i.cells:=by simp [zat]
theorem Tryz.info135 : (Tryz.prog.info? 135).map (fun i => (i.zero,i.size,i.bytes)) = some (some (.agg #[.int .i64 0,.int .i64 0,.string ByteArray.empty,.int .i64 0,.int .i64 0,.int .i64 0,.int .i64 0,.string ByteArray.empty]),8,80):=by kernel_rfl
theorem Tryz.under116 : Tryz.prog.underlying 116 = some (.slice 135):=by kernel_rfl
theorem zhg (A : List ByteArray) (k : Nat) (h : k < A.length) (h0 : (say A[k]).kind = 0) : zaT A (k + 1) = zaT A k:=by
 simp [zaT,List.getElem?_eq_getElem h,h0]
theorem ziv (A : List ByteArray) (k : Nat) (h : k < A.length) (h0 : ¬ (say A[k]).kind = 0) : zaT A (k + 1) = zaT A k ++ [keyQ (say A[k]) ((k : Int) + 1)]:=by
 simp [zaT,List.getElem?_eq_getElem h,h0]
theorem zqM (x : ByteArray) (hv : zak x 0 = true) (hw : words x = []) : say x = ⟨0,[],true⟩:=by
 simp [say,hv,hw,sayW]
theorem zhh (x : ByteArray) (hv : zak x 0 = true) : say x = sayW (words x):=by simp [say,hv]
theorem zeX (x : ByteArray) (hv : zak x 0 = false) : (say x).ok = false:=by simp [say,hv]
theorem zqN (x : ByteArray) (r : List ByteArray) : ¬ (sayW (x :: r)).kind = 0:=by
 unfold sayW
 dsimp only
 repeat' split
 all_goals simp
def zvi (w : World) (A : List ByteArray) : Ending → World → Prop:=fun e w' =>
 Below w.heap.size w w' ∧ ((∃ i : Nat,zb1 A 0 = (1,(i : Int) + 1) ∧ e = zah 1 ((i : Int) + 1)) ∨
  (zb1 A 0 = zba (A.map say) 0 ∧ (∀ x ∈ A,(say x).ok = true) ∧ ∃ v its,e = .returned v ∧ w'.ownsRow w.heap.size 135 8 v its.length (zat its) ∧ its.map It.key = zaT A A.length))
theorem zlW (w : World) (a b c d e f g h : Value) (t : TypeId) : ∀ j u,[a,b,c,d,e,f,g,h][j]? = some u → (w.alloc (.cells #[a,b,c,d,e,f,g,h] t)).cell? ((⟨w.heap.size,0,none⟩ : Addr).add j) = some u:=by
 intro j u hj
 have h1:=World.cell?_alloc_new (w:=w) #[a,b,c,d,e,f,g,h] t j
 have h2 : (⟨w.heap.size,0,none⟩ : Addr).add j = ⟨w.heap.size,j,none⟩:=by simp [Addr.add]; omega
 rw [h2,h1]
 rw [← List.getElem?_toArray] at hj
 exact hj
theorem zkm (i : It) : ∀ u ∈ i.cells,u.oneCell' = true:=by
 intro u hu
 simp at hu
 rcases hu with rfl | rfl | rfl | rfl | rfl | rfl | rfl | rfl <;> rfl
theorem zhi (s : ByteArray) (line : Int) (w : World) (hw : LibW w) (hs : s.size ≤ 1048576) (hv : zak s 0 = true) (l : List ByteArray) (hl : Hid (words s = l)) (h0 : 0 < l.length) :
  Calls Tryz.prog 98 #[.string s,.int .i64 line] w fun e w' => ∃ g cap,e = .returned (.slice (some ⟨g,0,none⟩) l.length cap) ∧ w.heap.size ≤ g ∧ WordsIn w' g l ∧ Below w.heap.size w w':=by
 refine (zfP s line w hw hs).mono ?_
 rintro e w' ⟨hb,⟨_,v,rfl,hown⟩ | ⟨h,_⟩⟩
 ·rw [hl.out] at hown
  obtain ⟨g,cap,rfl,_,_,h3,_,h5⟩:=zna hown h0
  exact ⟨g,cap,rfl,h3,h5,hb⟩
 ·rw [hv] at h; cases h
theorem zlX (s : ByteArray) (line : Int) (w : World) (hw : LibW w) (hs : s.size ≤ 1048576) (hv : zak s 0 = true) (hl : Hid (words s = [])) :
  Calls Tryz.prog 98 #[.string s,.int .i64 line] w fun e w' => ∃ ao cap,e = .returned (.slice ao 0 cap) ∧ Below w.heap.size w w':=by
 refine (zfP s line w hw hs).mono ?_
 rintro e w' ⟨hb,⟨_,v,rfl,hown⟩ | ⟨h,_⟩⟩
 ·rw [hl.out] at hown
  rcases hown.2 with ⟨h1,_⟩ | ⟨g,cap,cur,h1,_⟩
  ·subst h1; exact ⟨none,0,rfl,hb⟩
  ·subst h1; exact ⟨_,cap,rfl,hb⟩
 ·rw [hv] at h; cases h
theorem zoz (s : ByteArray) (line : Int) (w : World) (hw : LibW w) (hs : s.size ≤ 1048576) (hv : zak s 0 = false) :
  Calls Tryz.prog 98 #[.string s,.int .i64 line] w fun e w' => e = zah 1 line ∧ Below w.heap.size w w':=by
 refine (zfP s line w hw hs).mono ?_
 rintro e w' ⟨hb,⟨h,_⟩ | ⟨_,h⟩⟩
 ·rw [hv] at h; cases h
 ·exact ⟨h,hb⟩
theorem zqO (w : World) (hw : LibW w) (g cap : Nat) (x : ByteArray) (r : List ByteArray) (line : Int) (hl : WordsIn w g (x :: r)) (hsz : ∀ y ∈ (x :: r : List ByteArray),1 ≤ y.size ∧ y.size ≤ 1048576) (hn : r.length ≤ 1048576) (q : Said) (hq : Hid (sayW (x :: r) = q)) (hok : q.ok = true) :
  Calls Tryz.prog 99 #[.slice (some ⟨g,0,none⟩) (r.length + 1) cap,.int .i64 line] w fun e w' => e = .returned (stm (zeV q) line (zeh q) (opQ q).a (opQ q).b (opQ q).c (opQ q).n (zdy q)) ∧ Below w.heap.size w w':=by
 refine (zng w hw g cap x r line hl hsz hn).mono ?_
 rw [hq.out]
 rintro e w' ⟨hb,⟨_,h⟩ | ⟨h,_⟩⟩
 ·exact ⟨h,hb⟩
 ·rw [hok] at h; cases h
theorem zkn (w : World) (hw : LibW w) (g cap : Nat) (x : ByteArray) (r : List ByteArray) (line : Int) (hl : WordsIn w g (x :: r)) (hsz : ∀ y ∈ (x :: r : List ByteArray),1 ≤ y.size ∧ y.size ≤ 1048576) (hn : r.length ≤ 1048576) (q : Said) (hq : Hid (sayW (x :: r) = q)) (hok : q.ok = false) :
  Calls Tryz.prog 99 #[.slice (some ⟨g,0,none⟩) (r.length + 1) cap,.int .i64 line] w fun e w' => e = zah 1 line ∧ Below w.heap.size w w':=by
 refine (zng w hw g cap x r line hl hsz hn).mono ?_
 rw [hq.out]
 rintro e w' ⟨hb,⟨h,_⟩ | ⟨_,h⟩⟩
 ·rw [hok] at h; cases h
 ·exact ⟨h,hb⟩
end Go.Proofs.YtfpgjkbjbbgciaaGreatDoor
namespace Go.Proofs.YtfpgjkbjbbgciaaGreatDoor
open Go.RowKit Sp Go.WideMaps Go.Maps
theorem Tryz.under81 : Tryz.prog.underlying 81 = some (.map 9 3):=by kernel_rfl
theorem lawS : Keyed Tryz.prog 9:=string_keyed Tryz.underlying9
theorem zqP (w : World) : (zeroValue 3).run Tryz.prog w = .ok (.int .i64 0) w:=by kernel_rfl
theorem keyS (x : ByteArray) (h : x.size ≤ maxLen) : keyOf Tryz.prog 9 (.string x) = some (.string x.data.toList):=keyOf_string_mk Tryz.underlying9 h
def zce : List (ByteArray × Nat) → ByteArray → Option Nat
 | [],_ => none
 | p :: r,x => if eqW p.1 x = true then some p.2 else zce r x
abbrev zbu (E : List (ByteArray × Nat)) : List ByteArray:=E.map Prod.fst
theorem zo0 (E : List (ByteArray × Nat)) (x : ByteArray) (h : (zbu E).any (fun y => eqW y x) = false) : zce E x = none:=by
 induction E with
 | nil => rfl
 | cons p r ih =>
  simp only [zbu,List.map_cons,List.any_cons,Bool.or_eq_false_iff] at h
  unfold zce
  rw [if_neg (by rw [h.1]; simp)]
  exact ih h.2
theorem zko (E G : List (ByteArray × Nat)) (x : ByteArray) : zce (E ++ G) x = match zce E x with | some p => some p | none => zce G x:=by
 induction E with
 | nil => rfl
 | cons p r ih =>
  show (if eqW p.1 x = true then some p.2 else zce (r ++ G) x) = match (if eqW p.1 x = true then some p.2 else zce r x) with | some p => some p | none => zce G x
  split
  ·rfl
  ·exact ih
theorem zo1 (E : List (ByteArray × Nat)) (x : ByteArray) (h : (zbu E).any (fun y => eqW y x) = true) : ∃ p,zce E x = some p:=by
 induction E with
 | nil => simp at h
 | cons p r ih =>
  simp only [zbu,List.map_cons,List.any_cons,Bool.or_eq_true] at h
  unfold zce
  by_cases e : eqW p.1 x = true
  ·exact ⟨_,if_pos e⟩
  ·rw [if_neg e]
   rcases h with h | h
   ·exact absurd h e
   ·exact ih h
def MapIs (w : World) (b : Nat) (E : List (ByteArray × Nat)) : Prop:=∃ D : DataW Unit,w.ownsMap Tryz.prog 9 (plainElem Tryz.prog 3) b E.length D ∧ IsMap D ∧ (∀ x : ByteArray,Maps.has D (.string x.data.toList) = (zbu E).any (fun y => eqW y x)) ∧
 (∀ (x : ByteArray) (p : Nat) (z : DataW Unit),zce E x = some p → D.atKey (.string x.data.toList) z = .lit (.int .i64 (p : Int))) ∧ E.Pairwise (fun a b => eqW a.1 b.1 = false)
theorem MapIs.kept {w w' : World} {b : Nat} {E : List (ByteArray × Nat)} {row : Option Nat} (h : MapIs w b E) (hg : w.grownBy w' row) (hne : some b ≠ row) : MapIs w' b E:=by
 obtain ⟨D,h1,h2⟩:=h
 exact ⟨D,h1.kept hg hne,h2⟩
theorem MapIs.alloc {w : World} {b : Nat} {E : List (ByteArray × Nat)} (h : MapIs w b E) (o : Obj) : MapIs (w.alloc o) b E:=h.kept (World.grownBy_alloc w o none) (by simp)
theorem MapIs.lt {w : World} {b : Nat} {E : List (ByteArray × Nat)} (h : MapIs w b E) : b < w.heap.size:=by
 obtain ⟨D,h1,_⟩:=h
 exact h1.lt
theorem MapIs.below {w w' : World} {b : Nat} {E : List (ByteArray × Nat)} {B : Nat} (h : MapIs w b E) (hb : Below B w w') (hB : b < B) : MapIs w' b E:=by
 obtain ⟨D,⟨es,clock,hh,r⟩,h2⟩:=h
 exact ⟨D,⟨es,clock,(hb.block b hB).trans hh,r⟩,h2⟩
theorem MapIs.made (w : World) : MapIs (w.alloc (.map #[] 0)) w.heap.size []:=⟨.map [],World.ownsMap_made _ _ _ _,⟨[],rfl⟩,fun _x => rfl,fun _x _p _z h => (nomatch h),List.Pairwise.nil⟩
theorem zvj {w : World} {b base : Nat} {E : List (ByteArray × Nat)} {e : TypeId} {size n : Nat} {v : Value} {xs : List Value} (h : MapIs w b E) (hr : w.ownsRow base e size v n xs) : some b ≠ v.ownBlock:=by
 obtain ⟨D,⟨es,clock,hh,_⟩,_⟩:=h
 intro e1
 rcases hr.2 with ⟨hv,_⟩ | ⟨g,cap,cur,hv,_,hg,_⟩
 ·subst hv; simp [Value.ownBlock] at e1
 ·subst hv
  simp [Value.ownBlock] at e1
  subst e1
  rw [hh] at hg
  cases hg
theorem zdR (a b : ByteArray) : eqW a b = true ↔ a.data.toList = b.data.toList:=by
 unfold eqW
 rw [ByteArray.toList_eq,ByteArray.toList_eq,beq_iff_eq]
theorem zvk {D : DataW Unit} {names : List ByteArray} (hD : IsMap D) (h : ∀ x : ByteArray,Maps.has D (.string x.data.toList) = names.any (fun y => eqW y x)) (nm : ByteArray) (d : DataW Unit) : ∀ x : ByteArray,Maps.has (D.put (.string nm.data.toList) d) (.string x.data.toList) = (names ++ [nm]).any (fun y => eqW y x):=by
 intro x
 rw [List.any_append]
 by_cases e : x.data.toList = nm.data.toList
 ·rw [e,has_put_same hD (k:=.string nm.data.toList) trivial d]
  have : eqW nm x = true:=(zdR nm x).2 e.symm
  simp [this]
 ·have hne : (Lit.string x.data.toList) ≠ .string nm.data.toList:=by intro e2; apply e; simpa using e2
  rw [has_put_other hne d,h x]
  have : eqW nm x = false:=by
   cases hq : eqW nm x with
   | false => rfl
   | true => exact absurd ((zdR nm x).1 hq).symm e
  simp [this]
theorem zwt {D : DataW Unit} {E : List (ByteArray × Nat)} (hD : IsMap D) (h : ∀ (x : ByteArray) (p : Nat) (z : DataW Unit),zce E x = some p → D.atKey (.string x.data.toList) z = .lit (.int .i64 (p : Int))) (nm : ByteArray) (hno : (zbu E).any (fun y => eqW y nm) = false) (place : Nat) :
  ∀ (x : ByteArray) (p : Nat) (z : DataW Unit),zce (E ++ [(nm,place)]) x = some p → (D.put (.string nm.data.toList) (.lit (.int .i64 (place : Int)))).atKey (.string x.data.toList) z = .lit (.int .i64 (p : Int)):=by
 intro x p z hf
 rw [zko] at hf
 by_cases e : x.data.toList = nm.data.toList
 ·have hx : x = nm:=by
   have : x.data = nm.data:=by rw [← Array.toArray_toList (xs:=x.data),e,Array.toArray_toList]
   cases x; cases nm; simp at this; rw [this]
  subst hx
  rw [zo0 E x hno] at hf
  have : eqW x x = true:=(zdR x x).2 rfl
  simp only [zce,this,if_true,Option.some.injEq] at hf
  subst hf
  exact atKey_put_same hD (k:=.string x.data.toList) trivial _ z
 ·have hne : (Lit.string x.data.toList) ≠ .string nm.data.toList:=by intro e2; apply e; simpa using e2
  rw [atKey_put_other hne]
  have hq : eqW nm x = false:=by
   cases hq : eqW nm x with
   | false => rfl
   | true => exact absurd ((zdR nm x).1 hq).symm e
  cases hE : zce E x with
  | some q => rw [hE] at hf; simp only [Option.some.injEq] at hf; subst hf; exact h x q z hE
  | none => rw [hE] at hf; simp [zce,hq] at hf
theorem ztt {E : List (ByteArray × Nat)} (h : E.Pairwise (fun a b => eqW a.1 b.1 = false)) (nm : ByteArray) (hno : (zbu E).any (fun y => eqW y nm) = false) (place : Nat) : (E ++ [(nm,place)]).Pairwise (fun a b => eqW a.1 b.1 = false):=by
 refine List.pairwise_append.2 ⟨h,by simp,fun a ha b hb => ?_⟩
 simp at hb
 subst hb
 rw [List.any_eq_false] at hno
 have:=hno a.1 (List.mem_map_of_mem ha)
 simpa using this
theorem zkp (w : World) (b : Nat) (E : List (ByteArray × Nat)) (hM : MapIs w b E) (sort line : Int) (word : ByteArray) (x y z n : Int) (nm : ByteArray) (place : Nat) (hp : place ≤ 4096) (hn : E.length ≤ 4096) (hnm : nm.size ≤ 1048576) (hno : (zbu E).any (fun y => eqW y nm) = false) :
  Calls Tryz.prog 131 #[.map (some b),stm sort line word x y z n nm,.int .i64 (place : Int)] w fun e w' => e = .returned (.tuple #[]) ∧ MapIs w' b (E ++ [(nm,place)]) ∧ w.grownBy w' (some b):=by
 obtain ⟨D,hown,hD,hhas,hat0,hpw⟩:=hM
 have hk:=keyS nm (by unfold maxLen; omega)
 have hf:=hhas nm
 rw [hno] at hf
 have hlt:=hown.lt
 go_enter Tryz.func131,Tryz.ntmps131
 go_wp2_with (first
  | (at_lookup; refine wpList_lookup_own_ok_int _ rfl _ _ 81 rfl 9 3 .i64 lawS Tryz.under81 Tryz.underlying3 (zqP _) b E.length D rfl (hown.alloc _) _ _ rfl hk ?_; intro c hat hwc)
  | (at_mapUpdate; refine wpList_mapUpdate_own _ rfl _ _ _ 81 rfl 9 3 lawS Tryz.under81 _ b E.length D rfl (hown.alloc _) (by unfold maxLen; omega) _ _ _ rfl rfl hk _ [] (plainElem_int Tryz.underlying3 (WalkArith.wf_i64 (by omega))) ?_; intro w1 hown1 hgrow1))
 go_end0
 refine ⟨rfl,⟨_,by simpa using hown1,hD.put _ _,by simpa using zvk hD hhas nm _,zwt hD hat0 nm hno place,ztt hpw nm hno place⟩,(World.grownBy_alloc w _ _).trans hgrow1⟩
theorem zkq (w : World) (b : Nat) (E : List (ByteArray × Nat)) (hM : MapIs w b E) (sort line : Int) (word : ByteArray) (x y z n : Int) (nm : ByteArray) (place : Int) (hnm : nm.size ≤ 1048576) (hno : (zbu E).any (fun y => eqW y nm) = true) :
  Calls Tryz.prog 131 #[.map (some b),stm sort line word x y z n nm,.int .i64 place] w fun e w' => e = zah 3 line ∧ Below w.heap.size w w':=by
 obtain ⟨D,hown,hD,hhas,hat0,hpw⟩:=hM
 have hk:=keyS nm (by unfold maxLen; omega)
 have hf:=hhas nm
 rw [hno] at hf
 have hlt:=hown.lt
 go_enter Tryz.func131,Tryz.ntmps131
 go_wp2_with (first
  | (at_lookup; refine wpList_lookup_own_ok_int _ rfl _ _ 81 rfl 9 3 .i64 lawS Tryz.under81 Tryz.underlying3 (zqP _) b E.length D rfl (hown.alloc _) _ _ rfl hk ?_; intro c hat hwc)
  | (go_at_call 79; refine (zaw _ _ _).mono ?_; rintro e wx ⟨rfl,hww⟩; subst hww))
 exact ⟨rfl,rfl,(Below.refl _ _).alloc (Nat.le_refl _) _⟩
theorem ziw (w : World) (b : Nat) (E : List (ByteArray × Nat)) (hM : MapIs w b E) (sort line : Int) (word : ByteArray) (x y z n : Int) (nm : ByteArray) (hnm : nm.size ≤ 1048576) (hno : (zbu E).any (fun y => eqW y nm) = true) :
  Calls Tryz.prog 103 #[.map (some b),stm sort line word x y z n nm] w fun e w' => e = .returned (.tuple #[]) ∧ Below w.heap.size w w':=by
 obtain ⟨D,hown,hD,hhas,hat0,hpw⟩:=hM
 have hk:=keyS nm (by unfold maxLen; omega)
 have hf:=hhas nm
 rw [hno] at hf
 have hlt:=hown.lt
 go_enter Tryz.func103,Tryz.ntmps103
 go_wp2_with (first
  | (at_lookup; refine wpList_lookup_own_ok_int _ rfl _ _ 81 rfl 9 3 .i64 lawS Tryz.under81 Tryz.underlying3 (zqP _) b E.length D rfl (hown.alloc _) _ _ rfl hk ?_; intro c hat hwc))
 go_end0
 exact ⟨rfl,(Below.refl _ _).alloc (Nat.le_refl _) _⟩
theorem zkr (w : World) (b : Nat) (E : List (ByteArray × Nat)) (hM : MapIs w b E) (sort line : Int) (word : ByteArray) (x y z n : Int) (nm : ByteArray) (hnm : nm.size ≤ 1048576) (hno : (zbu E).any (fun y => eqW y nm) = false) :
  Calls Tryz.prog 103 #[.map (some b),stm sort line word x y z n nm] w fun e w' => e = zah 4 line ∧ Below w.heap.size w w':=by
 obtain ⟨D,hown,hD,hhas,hat0,hpw⟩:=hM
 have hk:=keyS nm (by unfold maxLen; omega)
 have hf:=hhas nm
 rw [hno] at hf
 have hlt:=hown.lt
 go_enter Tryz.func103,Tryz.ntmps103
 go_wp2_with (first
  | (at_lookup; refine wpList_lookup_own_ok_int _ rfl _ _ 81 rfl 9 3 .i64 lawS Tryz.under81 Tryz.underlying3 (zqP _) b E.length D rfl (hown.alloc _) _ _ rfl hk ?_; intro c hat hwc)
  | (go_at_call 79; refine (zaw _ _ _).mono ?_; rintro e wx ⟨rfl,hww⟩; subst hww))
 exact ⟨rfl,rfl,(Below.refl _ _).alloc (Nat.le_refl _) _⟩
end Go.Proofs.YtfpgjkbjbbgciaaGreatDoor
namespace Go.Proofs.YtfpgjkbjbbgciaaGreatDoor
open Sp
structure Fn where
 name : ByteArray
 line : Int
 body : List Key
def zbK (b : List Key) : List ByteArray:=(b.filter (fun k => decide (k.sort = 1))).map Key.nm
def addK (F : List Fn) (k : Key) : List Fn :=
 if k.sort = 0 then F ++ [⟨k.nm,k.line,[]⟩]
 else match F.getLast? with
  | none => F
  | some f => F.dropLast ++ [⟨f.name,f.line,f.body ++ [k]⟩]
theorem zcu (F : List Fn) (k : Key) (h : k.sort = 0) : addK F k = F ++ [⟨k.nm,k.line,[]⟩]:=by simp [addK,h]
theorem zf0 (F : List Fn) (f : Fn) (k : Key) (h : ¬ k.sort = 0) : addK (F ++ [f]) k = F ++ [⟨f.name,f.line,f.body ++ [k]⟩]:=by simp [addK,h]
def bad0 (F : List Fn) (k : Key) : Bool :=
 if k.sort = 0 then (F.map Fn.name).any (fun y => eqW y k.nm)
 else if k.sort = 1 then (match F.getLast? with | none => false | some f => (zbK f.body).any (fun y => eqW y k.nm)) else false
def zan (L : List Said) (i : Nat) : List Key :=
 if h : i < L.length then (if L[i].kind = 102 then [] else if L[i].kind = 0 then zan L (i + 1) else keyQ L[i] ((i : Int) + 1) :: zan L (i + 1)) else []
termination_by L.length - i
def zaM (L : List Said) (i : Nat) : List Fn :=
 if h : i < L.length then (if L[i].kind = 102 then ⟨L[i].word 1,(i : Int) + 1,zan L (i + 1)⟩ :: zaM L (i + 1) else zaM L (i + 1)) else []
termination_by L.length - i
def zbb (L : List Said) (i : Nat) : List Key :=
 if h : i < L.length then (if L[i].kind = 0 then zbb L (i + 1) else keyQ L[i] ((i : Int) + 1) :: zbb L (i + 1)) else []
termination_by L.length - i
theorem zcv (L : List Said) (i : Nat) (h : ¬ i < L.length) : zan L i = []:=by rw [zan,dif_neg h]
theorem zcJ (L : List Said) (i : Nat) (h : i < L.length) (h1 : L[i].kind = 102) : zan L i = []:=by rw [zan,dif_pos h,if_pos h1]
theorem zbY (L : List Said) (i : Nat) (h : i < L.length) (h0 : L[i].kind = 0) : zan L i = zan L (i + 1):=by rw [zan,dif_pos h,if_neg (by omega),if_pos h0]
theorem zb4 (L : List Said) (i : Nat) (h : i < L.length) (h0 : ¬ L[i].kind = 0) (h1 : ¬ L[i].kind = 102) : zan L i = keyQ L[i] ((i : Int) + 1) :: zan L (i + 1):=by rw [zan,dif_pos h,if_neg h1,if_neg h0]
theorem zcK (L : List Said) (i : Nat) (h : ¬ i < L.length) : zaM L i = []:=by rw [zaM,dif_neg h]
theorem zbT (L : List Said) (i : Nat) (h : i < L.length) (h1 : L[i].kind = 102) : zaM L i = ⟨L[i].word 1,(i : Int) + 1,zan L (i + 1)⟩ :: zaM L (i + 1):=by rw [zaM,dif_pos h,if_pos h1]
theorem zbE (L : List Said) (i : Nat) (h : i < L.length) (h1 : ¬ L[i].kind = 102) : zaM L i = zaM L (i + 1):=by rw [zaM,dif_pos h,if_neg h1]
theorem zcX (L : List Said) (i : Nat) (h : ¬ i < L.length) : zbb L i = []:=by rw [zbb,dif_neg h]
theorem zdk (L : List Said) (i : Nat) (h : i < L.length) (h0 : L[i].kind = 0) : zbb L i = zbb L (i + 1):=by rw [zbb,dif_pos h,if_pos h0]
theorem zbp (L : List Said) (i : Nat) (h : i < L.length) (h0 : ¬ L[i].kind = 0) : zbb L i = keyQ L[i] ((i : Int) + 1) :: zbb L (i + 1):=by rw [zbb,dif_pos h,if_neg h0]
theorem zei (q : Said) (h : q.kind = 102) : zeV q = 0:=by simp [zeV,h]
theorem zeY (q : Said) (h : q.kind = 108) : zeV q = 1:=by simp [zeV,h]
theorem zej (q : Said) (h1 : ¬ q.kind = 102) (h2 : ¬ q.kind = 108) : zeV q = 2:=by simp [zeV,h1,h2]
theorem zeZ (q : Said) (h1 : ¬ q.kind = 102) : ¬ zeV q = 0:=by unfold zeV; rw [if_neg h1]; split <;> decide
theorem zfR (q : Said) (h : q.kind = 102) : zdy q = q.word 1:=by simp [zdy,h]
theorem zjo (q : Said) (h : q.kind = 108) : zdy q = q.word 0:=by simp [zdy,h]
theorem zf1 (L : List Said) (i : Nat) (F : List Fn) (f : Fn) : (zbb L i).foldl addK (F ++ [f]) = F ++ (⟨f.name,f.line,f.body ++ zan L i⟩ :: zaM L i):=by
 by_cases h : i < L.length
 ·by_cases h0 : L[i].kind = 0
  ·rw [zdk L i h h0,zbY L i h h0,zbE L i h (by omega)]
   exact zf1 L (i + 1) F f
  ·rw [zbp L i h h0,List.foldl_cons]
   by_cases h1 : L[i].kind = 102
   ·rw [zcu _ _ (zei _ h1),zf1 L (i + 1) (F ++ [f]) _,zcJ L i h h1,zbT L i h h1]
    simp [keyQ,zfR _ h1]
   ·rw [zf0 _ _ _ (zeZ _ h1),zf1 L (i + 1) F _,zb4 L i h h0 h1,zbE L i h h1]
    simp
 ·rw [zcX L i h,zcv L i h,zcK L i h]
  simp
termination_by L.length - i
theorem zhj (A : List ByteArray) (i : Nat) : zaT A A.length = zaT A (min i A.length) ++ zbb (A.map say) i:=by
 by_cases h : i < A.length
 ·have hL : i < (A.map say).length:=by simpa using h
  have hg : (A.map say)[i] = say A[i]:=by simp
  rw [zhj A (i + 1),Nat.min_eq_left (show i + 1 ≤ A.length from h),Nat.min_eq_left (Nat.le_of_lt h)]
  by_cases h0 : (say A[i]).kind = 0
  ·rw [zhg A i h h0,zdk _ i hL (by rw [hg]; exact h0)]
  ·rw [ziv A i h h0,zbp _ i hL (by rw [hg]; exact h0),hg]
   simp
 ·rw [zcX _ i (by simpa using h),Nat.min_eq_right (by omega)]
  simp
termination_by A.length - i
theorem zjp (A : List ByteArray) : zaT A A.length = zbb (A.map say) 0:=by
 rw [zhj A 0]; simp [zaT]
theorem zf2 (L : List Said) (i : Nat) (x : ByteArray) : (zbK (zan L i)).any (fun y => eqW y x) = decide (0 ≤ zaR L x i):=by
 by_cases h : i < L.length
 ·by_cases h1 : L[i].kind = 102
  ·rw [zcJ L i h h1,zfp L x i h h1]; rfl
  ·by_cases h0 : L[i].kind = 0
   ·rw [zbY L i h h0,zbD L x i h h1 (by simp [zcG,h0])]
    exact zf2 L (i + 1) x
   ·rw [zb4 L i h h0 h1]
    by_cases h2 : L[i].kind = 108
    ·have e : zbK (keyQ L[i] ((i : Int) + 1) :: zan L (i + 1)) = L[i].word 0 :: zbK (zan L (i + 1)):=by
      simp [zbK,keyQ,zeY _ h2,zjo _ h2]
     rw [e,List.any_cons]
     by_cases h3 : eqW (L[i].word 0) x = true
     ·rw [zcH L x i h h1 (by simp [zcG,h2,h3]),h3]
      simp
     ·rw [zbD L x i h h1 (by simp [zcG,h3]),zf2 L (i + 1) x]
      simp [h3]
    ·have e : zbK (keyQ L[i] ((i : Int) + 1) :: zan L (i + 1)) = zbK (zan L (i + 1)):=by
      simp [zbK,keyQ,zej _ h1 h2]
     rw [e,zbD L x i h h1 (by simp [zcG,h2])]
     exact zf2 L (i + 1) x
 ·rw [zcv L i h,zdJ L x i h]; rfl
termination_by L.length - i
theorem zlY (L : List Said) (i : Nat) (x : ByteArray) : ((zaM L i).map Fn.name).any (fun y => eqW y x) = decide (0 ≤ zaE L x i):=by
 by_cases h : i < L.length
 ·by_cases h1 : L[i].kind = 102
  ·rw [zbT L i h h1,List.map_cons,List.any_cons]
   by_cases h3 : eqW (L[i].word 1) x = true
   ·rw [zdj L x i h (by simp [isFn,h1,h3])]
    simp [h3]
   ·rw [zcU L x i h (by simp [isFn,h3]),zlY L (i + 1) x]
    simp [h3]
  ·rw [zbE L i h h1,zcU L x i h (by simp [isFn,h1])]
   exact zlY L (i + 1) x
 ·rw [zcK L i h,ze3 L x i h]; rfl
termination_by L.length - i
def zo2 (b : List Key) : Bool:=match b.getLast? with | none => false | some k => ends k.word
theorem zqQ : ends ⟨#[]⟩ = false:=by simp [ends,isW,ByteArray.toList_eq]
def WfAll (L : List Said) : Prop:=∀ q ∈ L,Wf q
theorem WfAll.at {L : List Said} (hw : WfAll L) (i : Nat) (h : i < L.length) : Wf L[i]:=hw _ (List.getElem_mem h)
theorem zqR (L : List Said) (hw : WfAll L) (i : Nat) (e : Bool) : zdK L i e = (match (zan L i).getLast? with | none => e | some k => ends k.word):=by
 by_cases h : i < L.length
 ·by_cases h1 : L[i].kind = 102
  ·rw [zcJ L i h h1,zlK L i e h h1]; rfl
  ·rw [zds L i e h h1,zqR L hw (i + 1)]
   by_cases h0 : L[i].kind = 0
   ·rw [zbY L i h h0]
    simp [h0]
   ·rw [zb4 L i h h0 h1,List.getLast?_cons]
    cases hb : (zan L (i + 1)).getLast? with
    | some k => rfl
    | none =>
     by_cases h2 : L[i].kind = 108
     ·simp [h2,keyQ,zeh,zqQ]
     ·have h5 : L[i].kind = 105:=by
       have:=hw.at i h
       unfold Wf at this; omega
      simp [h5,keyQ,zeh]
 ·rw [zcv L i h,zgR L i e h]; rfl
termination_by L.length - i
end Go.Proofs.YtfpgjkbjbbgciaaGreatDoor
