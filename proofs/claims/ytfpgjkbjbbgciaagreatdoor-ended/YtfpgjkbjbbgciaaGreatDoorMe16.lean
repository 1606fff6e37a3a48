import Derived.Test.YtfpgjkbjbbgciaaGreatDoorMe14
import Derived.Test.YtfpgjkbjbbgciaaGreatDoorMe15
set_option maxRecDepth 100000
set_option maxHeartbeats 8000000
namespace Go.Proofs.YtfpgjkbjbbgciaaGreatDoor
open Go.RowKit Sp
theorem zoz (A : List ByteArray) (n : Nat) : (zaT A n).length ≤ n:=by
 induction n with
 | zero => simp [zaT]
 | succ n ih =>
  unfold zaT
  rw [List.length_append]
  split
  ·simp; omega
  ·split <;> simp <;> omega
theorem zo0 (A : List ByteArray) (n : Nat) (k : Key) (h : k ∈ zaT A n) : ∃ x ∈ A,∃ l,k = keyQ (say x) l:=by
 induction n with
 | zero => simp [zaT] at h
 | succ n ih =>
  unfold zaT at h
  rw [List.mem_append] at h
  rcases h with h | h
  ·exact ih h
  ·split at h
   ·simp at h
   ·rename_i x hx
    split at h
    ·simp at h
    ·simp at h
     exact ⟨x,List.mem_of_getElem? hx,_,h⟩
theorem zhn (l : List ByteArray) (n k : Nat) (h : ∀ y ∈ l,y.size ≤ n) : (l[k]?.getD ⟨#[]⟩).size ≤ n:=by
 cases hk : l[k]? with
 | none => exact Nat.zero_le _
 | some y => exact h y (List.mem_of_getElem? hk)
theorem zo1 (sh : List UInt8) (r : List ByteArray) (n k : Nat) (h : ∀ y ∈ r,y.size ≤ n) : (zof sh r k).size ≤ n:=by
 induction k with
 | zero => exact Nat.zero_le _
 | succ k ih =>
  unfold zof
  split
  ·exact zhn r n k h
  ·exact ih
theorem zko (x : ByteArray) : ∀ y ∈ (say x).kept,y.size ≤ x.size:=by
 unfold say
 split
 ·have hw : ∀ y ∈ words x,y.size ≤ x.size:=fun y hy => (zgP x y hy).2
  generalize words x = l at hw
  unfold sayW
  split
  ·simp
  ·rename_i a r
   split
   ·exact hw
   ·split
    ·intro y hy
     simp at hy
     subst hy
     rw [ByteArray.size_extract]
     have:=hw a (by simp)
     omega
    ·exact hw
 ·simp
theorem zo2 (x : ByteArray) : (zdi (say x)).size ≤ x.size:=by
 have h:=zko x
 unfold zdi
 split
 ·exact zhn _ _ 1 h
 ·split
  ·exact zhn _ _ 0 h
  ·exact zo1 _ _ _ _ (fun y hy => h y (List.mem_of_mem_tail hy))
theorem zvp (K : List Key) : ¬ (sayK K).1 = 1:=by
 unfold sayK
 cases K with
 | nil => decide
 | cons k r =>
  dsimp only
  split
  ·unfold zdJ
   split
   ·exact (by decide : ¬ (3 : Int) = 1)
   ·split
    ·exact (by decide : ¬ (4 : Int) = 1)
    ·split
     ·exact (by decide : ¬ (5 : Int) = 1)
     ·exact (by decide : ¬ (0 : Int) = 1)
  ·exact (by decide : ¬ (2 : Int) = 1)
theorem zes (A : List ByteArray) (h : ∀ x ∈ A,(say x).ok = true) (i : Nat) : zbM A i = zbq (A.map say) 0:=by
 by_cases hi : i < A.length
 ·rw [zep A i hi (h _ (List.getElem_mem hi))]
  exact zes A h (i + 1)
 ·exact zfi A i hi
termination_by A.length - i
abbrev Z33 : Obj:=.cells #[.slice none 0 0,.map none] 83
theorem zvq (s : ByteArray) (w : World) (hw : LibW w) (h4 : s.size ≤ 4000) (h3 : (lines s).length ≤ 300) (hno : ¬ ∀ x ∈ lines s,(say x).ok = true) :
  Calls Tryz.prog 66 #[.string s] w fun e w' => Below w.heap.size w w' ∧ ¬ zbM (lines s) 0 = (0,0) ∧ e = zah (zbM (lines s) 0).1 (zbM (lines s) 0).2:=by
 refine (znd s w hw h4 h3).mono ?_
 rintro e w' ⟨hb,⟨i,h1,h2⟩ | ⟨_,h,_⟩⟩
 ·rw [h1]
  exact ⟨hb,by simp,h2⟩
 ·exact absurd h hno
theorem ztk (s : ByteArray) (w : World) (hw : LibW w) (h4 : s.size ≤ 4000) (h3 : (lines s).length ≤ 300) (hok : ∀ x ∈ lines s,(say x).ok = true) :
  Calls Tryz.prog 66 #[.string s] w fun e w' => Below w.heap.size w w' ∧ ∃ v its,e = .returned v ∧ w'.ownsRow w.heap.size 135 8 v its.length (zax its) ∧ its.map It.key = zaT (lines s) (lines s).length ∧ its.length ≤ 300 ∧ ∀ i ∈ its,ItOk i:=by
 refine (znd s w hw h4 h3).mono ?_
 rintro e w' ⟨hb,⟨i,h1,h2⟩ | ⟨_,h,v,its,h5,h6,h7⟩⟩
 ·exfalso
  have h:=zes (lines s) hok 0
  rw [h1,zer _ hok] at h
  have:=zvp (zaT (lines s) (lines s).length)
  rw [← h] at this
  exact this rfl
 ·refine ⟨hb,v,its,h5,h6,h7,?_,?_⟩
  ·have:=zoz (lines s) (lines s).length
   rw [← h7] at this
   simp at this
   omega
  ·intro i hi
   have hk : i.key ∈ zaT (lines s) (lines s).length:=by rw [← h7]; exact List.mem_map_of_mem hi
   obtain ⟨x,hx,l,hl⟩:=zo0 _ _ _ hk
   have e1 : i.nm = zdi (say x):=by have:=congrArg Key.nm hl; exact this
   refine ⟨?_,fun hs => ?_⟩
   ·rw [e1]
    have:=zo2 x
    have:=zeF s x hx
    omega
   ·have e2 : i.word = zdP (say x):=by have:=congrArg Key.word hl; exact this
    have e3 : i.sort = zeJ (say x):=by have:=congrArg Key.sort hl; exact this
    rw [e2]
    rw [hs] at e3
    unfold zdP
    rw [if_neg]
    intro h5
    unfold zeJ at e3
    rw [h5] at e3
    simp at e3
theorem zqF (s : ByteArray) (hs : s.size ≤ 9223372036854775807) (h : 4000 < s.size ∨ 300 < (lines s).length) : zbJ s (6,0):=by
 intro w hw
 have hcall:=zqw s (w.alloc Z33) hs h
 clear h
 go_enter Tryz.func44,Tryz.ntmps44
 go_wp2_with (first | (go_at_call 65; refine hcall.mono ?_; rintro e w1 ⟨rfl,hww⟩; subst hww))
 exact ⟨rfl,(Below.refl _ _).alloc (Nat.le_refl _) _,.inr ⟨by simp,rfl⟩⟩
theorem ztl (s : ByteArray) (h4 : s.size ≤ 4000) (h3 : (lines s).length ≤ 300) (hno : ¬ ∀ x ∈ lines s,(say x).ok = true) : zbJ s (zbM (lines s) 0):=by
 intro w hw
 have hw1 : LibW (w.alloc Z33):=hw.below ((Below.refl _ _).alloc (Nat.le_refl _) _)
 have hcall:=zc1 s (w.alloc Z33) h4 h3
 have hcall2:=zvq s (w.alloc Z33) hw1 h4 h3 hno
 clear hno
 generalize zbM (lines s) 0 = R at hcall2 ⊢
 go_enter Tryz.func44,Tryz.ntmps44
 go_wp2_with (first
  | (go_at_call 65; refine hcall.mono ?_; rintro e w1 ⟨rfl,hww⟩; subst hww)
  | (go_at_call 66; refine hcall2.mono ?_; rintro e w2 ⟨hb2,hR,rfl⟩))
 exact ⟨rfl,zaX _ _ hb2,.inr ⟨hR,rfl⟩⟩
structure Sts (s : ByteArray) (K : List Key) : Prop where
 h4 : s.size ≤ 4000
 h3 : (lines s).length ≤ 300
 ok : ∀ x ∈ lines s,(say x).ok = true
 keys : zaT (lines s) (lines s).length = K
theorem Sts.call {s : ByteArray} {K : List Key} (h : Sts s K) (w : World) (hw : LibW w) :
  Calls Tryz.prog 66 #[.string s] w fun e w' => Below w.heap.size w w' ∧ ∃ v its,e = .returned v ∧ w'.ownsRow w.heap.size 135 8 v its.length (zax its) ∧ its.map It.key = K ∧ its.length ≤ 300 ∧ ∀ i ∈ its,ItOk i:=by
 have:=ztk s w hw h.h4 h.h3 h.ok
 rw [h.keys] at this
 exact this
theorem znk {its : List It} {k : Key} {r : List Key} (h : its.map It.key = k :: r) : ∃ i t,its = i :: t ∧ i.key = k:=by
 cases its with
 | nil => simp at h
 | cons i t => simp at h; exact ⟨i,t,rfl,h.1⟩
theorem zo3 (s : ByteArray) (h : Sts s []) : zbJ s (2,0):=by
 intro w hw
 have hw1 : LibW (w.alloc Z33):=hw.below ((Below.refl _ _).alloc (Nat.le_refl _) _)
 have hcall:=zc1 s (w.alloc Z33) h.h4 h.h3
 have hcall2:=h.call (w.alloc Z33) hw1
 clear h
 go_enter Tryz.func44,Tryz.ntmps44
 go_wp2_with (first
  | (go_at_call 65; refine hcall.mono ?_; rintro e w1 ⟨rfl,hww⟩; subst hww)
  | (go_at_call 66; refine hcall2.mono ?_; rintro e w2 ⟨hb2,v,its,rfl,hown,hk,hl,hnm⟩; obtain rfl : its = []:=by simpa using hk)
  | (go_at_call 67; refine (zlH w2 _ v hown).mono ?_; rintro e w3 ⟨rfl,hww⟩; subst hww))
 exact ⟨rfl,zaX _ _ hb2,.inr ⟨by simp,rfl⟩⟩
theorem zlO (s : ByteArray) (k : Key) (r : List Key) (h : Sts s (k :: r)) (hs : ¬ k.sort = 0) : zbJ s (2,k.line):=by
 intro w hw
 have hw1 : LibW (w.alloc Z33):=hw.below ((Below.refl _ _).alloc (Nat.le_refl _) _)
 have hcall:=zc1 s (w.alloc Z33) h.h4 h.h3
 have hcall2:=(h.call (w.alloc Z33) hw1).mono (R':=fun e w' => Below (w.alloc Z33).heap.size (w.alloc Z33) w' ∧ ∃ v i t,e = .returned v ∧ w'.ownsRow (w.alloc Z33).heap.size 135 8 v (i :: t).length (zax (i :: t)) ∧ t.length ≤ 4096 ∧ ¬ i.sort = 0 ∧ i.line = k.line) (by
  rintro e w' ⟨hb,v,its,h1,h2,h3,h4,h5⟩
  obtain ⟨i,t,rfl,rfl⟩:=znk h3
  exact ⟨hb,v,i,t,h1,h2,by simp at h4; omega,hs,rfl⟩)
 clear h hs
 go_enter Tryz.func44,Tryz.ntmps44
 go_wp2_with (first
  | (go_at_call 65; refine hcall.mono ?_; rintro e w1 ⟨rfl,hww⟩; subst hww)
  | (go_at_call 66; refine hcall2.mono ?_; rintro e w2 ⟨hb2,v,i,t,rfl,hown,hl,hns,hline⟩)
  | (go_at_call 67; refine (zop w2 _ v i t hown hl hns).mono ?_; rintro e w3 ⟨rfl,hww⟩; subst hww))
 exact ⟨rfl,zaX _ _ hb2,.inr ⟨by simp,by simp⟩⟩
theorem Sts.begins {s : ByteArray} {k : Key} {r : List Key} (h : Sts s (k :: r)) (hs : k.sort = 0) (w : World) (hw : LibW w) :
  Calls Tryz.prog 66 #[.string s] w fun e w' => Below w.heap.size w w' ∧ ∃ v i t,e = .returned v ∧ w'.ownsRow w.heap.size 135 8 v (i :: t).length (zax (i :: t)) ∧ (i :: t).map It.key = k :: r ∧ (i :: t).length ≤ 300 ∧ (∀ j ∈ i :: t,ItOk j) ∧ Hid (i.sort = 0):=by
 refine (h.call w hw).mono ?_
 rintro e w' ⟨hb,v,its,h1,h2,h3,h4,h5⟩
 obtain ⟨i,t,rfl,rfl⟩:=znk h3
 exact ⟨hb,v,i,t,h1,h2,h3,h4,h5,hs⟩
theorem zg9 (w : World) (B : Nat) (v : Value) (i : It) (t : List It) (h : w.ownsRow B 135 8 v (i :: t).length (zax (i :: t))) (hl : (i :: t).length ≤ 300) (hs : Hid (i.sort = 0)) :
  Calls Tryz.prog 67 #[v] w fun e w' => e = .returned (.tuple #[]) ∧ w' = w:=zlI w B v i t h (by simp at hl; omega) hs.out
theorem zvr (w : World) (B : Nat) (v : Value) (i : It) (t : List It) (K : List Key) (h : w.ownsRow B 135 8 v (i :: t).length (zax (i :: t))) (hk : (i :: t).map It.key = K) (hl : (i :: t).length ≤ 300) (hnm : ∀ j ∈ i :: t,ItOk j) (hs : Hid (i.sort = 0)) (l : Int) (htw : Hid (zaQ [] K = some l)) :
  Calls Tryz.prog 68 #[v] w fun e w' => Below w.heap.size w w' ∧ e = zah 3 l:=by
 have:=zkl w B v (i :: t) h hl hnm (by simp) hs
 rw [hk] at this
 refine this.mono ?_
 rintro e w' ⟨hb,⟨l',h1,h2⟩ | ⟨h1,_⟩⟩
 ·rw [htw.out] at h1
  cases h1
  exact ⟨hb,h2⟩
 ·rw [htw.out] at h1; cases h1
theorem zlP (w : World) (B : Nat) (v : Value) (i : It) (t : List It) (K : List Key) (h : w.ownsRow B 135 8 v (i :: t).length (zax (i :: t))) (hk : (i :: t).map It.key = K) (hl : (i :: t).length ≤ 300) (hnm : ∀ j ∈ i :: t,ItOk j) (hs : Hid (i.sort = 0)) (htw : Hid (zaQ [] K = none)) (G : List Fn) (hG : Hid (K.foldl addK [] = G)) (hG0 : 0 < G.length) :
  Calls Tryz.prog 68 #[v] w fun e w' => Below w.heap.size w w' ∧ ∃ pm ao n cap F,e = .returned (.agg #[.slice ao n cap,.map (some pm)]) ∧ PIn w.heap.size w' pm (.slice ao n cap) F ∧ Hid (F.map FnM.fn = G) ∧ 0 < F.length ∧ F.length ≤ 300 ∧ (∀ f ∈ F,f.its.length ≤ 300 ∧ ∀ i ∈ f.its,ItOk i):=by
 have:=zkl w B v (i :: t) h hl hnm (by simp) hs
 rw [hk] at this
 have hKl : K.length ≤ 300:=by rw [← hk]; simpa using hl
 refine this.mono ?_
 rintro e w' ⟨hb,⟨l',h1,h2⟩ | ⟨_,pm,v',F,h1,h2,h3,h4,h5⟩⟩
 ·rw [htw.out] at h1; cases h1
 ·rw [hG.out] at h3
  have hFG : F.length = G.length:=by rw [← h3]; simp
  obtain ⟨ao,cap,rfl⟩:=zb8 h2.row
  exact ⟨hb,pm,ao,_,cap,F,h1,h2,h3,by omega,by omega,fun f hf => ⟨by have:=(h5 f hf).1; omega,(h5 f hf).2⟩⟩
theorem zlQ (s : ByteArray) (k : Key) (r : List Key) (h : Sts s (k :: r)) (hs : k.sort = 0) (l : Int) (ht : zaQ [] (k :: r) = some l) : zbJ s (3,l):=by
 intro w hw
 have hw1 : LibW (w.alloc Z33):=hw.below ((Below.refl _ _).alloc (Nat.le_refl _) _)
 have hcall:=zc1 s (w.alloc Z33) h.h4 h.h3
 have hcall2:=h.begins hs (w.alloc Z33) hw1
 have HT : Hid (zaQ [] (k :: r) = some l):=ht
 clear h hs ht
 generalize k :: r = K at hcall2 HT
 go_enter Tryz.func44,Tryz.ntmps44
 go_wp2_with (first
  | (go_at_call 65; refine hcall.mono ?_; rintro e w1 ⟨rfl,hww⟩; subst hww)
  | (go_at_call 66; refine hcall2.mono ?_; rintro e w2 ⟨hb2,v,i,t,rfl,hown,hk,hl,hnm,hns⟩)
  | (go_at_call 67; refine (zg9 w2 _ v i t hown hl hns).mono ?_; rintro e w3 ⟨rfl,hww⟩; have h2:=hww.symm; subst h2)
  | (go_at_call 68; refine (zvr _ _ v i t K hown hk hl hnm hns l HT).mono ?_; rintro e w4 ⟨hb4,rfl⟩))
 exact ⟨rfl,(zaX _ _ hb2).trans (hb4.mono (zaX _ _ hb2).size),.inr ⟨by simp,rfl⟩⟩
end Go.Proofs.YtfpgjkbjbbgciaaGreatDoor
namespace Go.Proofs.YtfpgjkbjbbgciaaGreatDoor
open Sp
structure Good (L : List Said) : Prop where
 wf : ∀ k (h : k < L.length),Wf L[k]
 form : ∀ k (h : k < L.length),L[k].kind = 105 → Form L[k].kept
 size : ∀ k (h : k < L.length),∀ x ∈ L[k].kept,x.size ≤ 4000
 head : ∃ i,∃ h : i < L.length,L[i].kind = 102 ∧ ∀ j (h' : j < L.length),j < i → L[j].kind = 0
 twice : ∀ k,k < L.length → zff L k = false
 miss : ∀ k,k < L.length → zcq L k = false
 endl : ∀ k,k < L.length → zd4 L k = false
 few : L.length ≤ 300
theorem zfs (L : List Said) (q j : Nat) (c : Int × Int) (h : pass L q j c = (0,0)) : c = (0,0) ∧ ∀ k,j ≤ k → k < L.length → badB L q k = false:=by
 by_cases hj : j < L.length
 ·cases hb : badB L q j with
  | true =>
   rw [zeo L q j c hj hb] at h
   have:=congrArg Prod.fst h
   simp at this
   omega
  | false =>
   rw [zci L q j c hj hb] at h
   obtain ⟨h1,h2⟩:=zfs L q (j + 1) c h
   refine ⟨h1,fun k hk hl => ?_⟩
   by_cases e : k = j
   ·subst e; exact hb
   ·exact h2 k (by omega) hl
 ·rw [zen L q j c hj] at h
  exact ⟨h,fun k hk hl => by omega⟩
termination_by L.length - j
theorem zi8 (L : List Said) (i : Nat) (h : zbq L i = (0,0)) : (∃ j,∃ hj : j < L.length,i ≤ j ∧ L[j].kind = 102 ∧ ∀ k (hk : k < L.length),i ≤ k → k < j → L[k].kind = 0) ∧ tail L 0 = (0,0):=by
 by_cases hi : i < L.length
 ·by_cases h0 : L[i].kind = 0
  ·rw [zfF L i hi h0] at h
   obtain ⟨⟨j,hj,h1,h2,h3⟩,h4⟩:=zi8 L (i + 1) h
   refine ⟨⟨j,hj,by omega,h2,fun k hk ha hb => ?_⟩,h4⟩
   by_cases e : k = i
   ·subst e; exact h0
   ·exact h3 k hk (by omega) hb
  ·by_cases h2 : L[i].kind = 102
   ·rw [zfh L i hi h0 h2] at h
    exact ⟨⟨i,hi,Nat.le_refl _,h2,fun k hk ha hb => by omega⟩,h⟩
   ·rw [zgR L i hi h0 h2] at h
    have:=congrArg Prod.fst h
    simp at this
 ·rw [zeD L i hi] at h
  have:=congrArg Prod.fst h
  simp at this
termination_by L.length - i
theorem zqG (s : ByteArray) (h : zbk s = (0,0)) : Good ((lines s).map say):=by
 unfold zbk at h
 split at h
 ·have:=congrArg Prod.fst h; simp at this
 ·rename_i hfar
  have hok : ∀ x ∈ lines s,(say x).ok = true:=by
   by_cases hok : ∀ x ∈ lines s,(say x).ok = true
   ·exact hok
   ·exfalso
    have key : ∀ i,(∃ j,∃ hj : j < (lines s).length,i ≤ j ∧ (say (lines s)[j]).ok = false) → ¬ zbM (lines s) i = (0,0):=by
     intro i
     intro ⟨j,hj,hij,hb⟩
     have hil : i ≤ j:=hij
     clear hij
     induction hd : j - i generalizing i with
     | zero =>
      obtain rfl : j = i:=by omega
      rw [zdO _ j hj hb]
      intro e
      have:=congrArg Prod.fst e
      simp at this
     | succ d ih =>
      cases hi : (say ((lines s)[i]'(by omega))).ok with
      | false =>
       rw [zdO _ i (by omega) hi]
       intro e
       have:=congrArg Prod.fst e
       simp at this
      | true =>
       rw [zep _ i (by omega) hi]
       exact ih (i + 1) (by omega) (by omega)
    have : ∃ x ∈ lines s,¬ (say x).ok = true:=by
     refine Classical.byContradiction fun hn => hok fun x hx => ?_
     refine Classical.byContradiction fun hx' => hn ⟨x,hx,hx'⟩
    obtain ⟨x,hx,hb⟩:=this
    obtain ⟨j,hj,rfl⟩:=List.mem_iff_getElem.1 hx
    exact key 0 ⟨j,hj,by omega,by simpa using hb⟩ h
  rw [zes _ hok 0] at h
  obtain ⟨⟨i,hi,_,h2,h3⟩,ht⟩:=zi8 _ 0 h
  have e0 : tail ((lines s).map say) 0 = pass ((lines s).map say) 0 0 (pass ((lines s).map say) 1 0 (pass ((lines s).map say) 2 0 (0,0))):=rfl
  rw [e0] at ht
  obtain ⟨t1,p0⟩:=zfs _ _ _ _ ht
  obtain ⟨t2,p1⟩:=zfs _ _ _ _ t1
  obtain ⟨_,p2⟩:=zfs _ _ _ _ t2
  refine ⟨fun k hk => ?_,fun k hk h5 => ?_,fun k hk x hx => ?_,⟨i,hi,h2,fun j hj hji => h3 j hj (by omega) hji⟩,fun k hk => p0 k (by omega) hk,fun k hk => p1 k (by omega) hk,fun k hk => p2 k (by omega) hk,by simp; omega⟩
  ·rw [List.getElem_map]; exact zuD _ (hok _ (List.getElem_mem _))
  ·rw [List.getElem_map] at h5 ⊢; exact zvo _ (hok _ (List.getElem_mem _)) h5
  ·rw [List.getElem_map] at hx
   have h4:=zko _ x hx
   have h5:=zeF s ((lines s)[k]'(by simpa using hk)) (List.getElem_mem _)
   omega
def zdW (L : List Said) (z : Int) : Prop:=∃ j : Nat,z = (j : Int) ∧ ∃ h : j < L.length,L[j].kind = 105
theorem zgA (L : List Said) (k : Nat) (h : zfE L k false = true) : zdW L (za0 L k):=by
 by_cases hk : k < L.length
 ·by_cases h2 : L[k].kind = 102
  ·rw [zpW L k _ hk h2] at h; cases h
  ·by_cases h5 : L[k].kind = 105
   ·rw [zgq L k hk h5]; exact ⟨k,rfl,hk,h5⟩
   ·rw [zeO L k hk h2 h5]
    rw [zfg L k _ hk h2,if_neg h5] at h
    refine zgA L (k + 1) ?_
    split at h <;> exact h
 ·rw [zjK L k _ hk] at h; cases h
termination_by L.length - k
theorem Good.live {L : List Said} (G : Good L) (k : Nat) (hk : k < L.length) (h1 : ¬ L[k].kind = 0) (h2 : ¬ L[k].kind = 102) : ∃ e,zfE L k e = true:=by
 obtain ⟨i,hi,h3,h4⟩:=G.head
 have hik : i < k:=by
  by_cases e : k = i
  ·subst e; exact absurd h3 h2
  ·by_cases e2 : k < i
   ·exact absurd (h4 k hk e2) h1
   ·omega
 have begin_ : ∀ j (hj : j < L.length),L[j].kind = 102 → zfE L (j + 1) false = true:=fun j hj h => by
  have:=G.endl j hj
  rw [zjM L j hj (by simp [h])] at this
  simpa using this
 have key : ∀ d j,j = i + 1 + d → j ≤ L.length → ∃ e,zfE L j e = true:=by
  intro d
  induction d with
  | zero => intro j hj _; subst hj; exact ⟨false,begin_ i hi h3⟩
  | succ d ih =>
   intro j hj hl
   obtain ⟨e,he⟩:=ih (j - 1) (by omega) (by omega)
   have hj1 : j - 1 < L.length:=by omega
   obtain ⟨p,rfl⟩ : ∃ p,j = p + 1:=⟨j - 1,by omega⟩
   simp only [Nat.add_sub_cancel] at he hj1
   by_cases hf : L[p].kind = 102
   ·exact ⟨false,begin_ p hj1 hf⟩
   ·rw [zfg L p e hj1 hf] at he; exact ⟨_,he⟩
 exact key (k - i - 1) k (by omega) (by omega)
theorem Good.lab {L : List Said} (G : Good L) (j : Nat) (hj : j < L.length) (h8 : L[j].kind = 108) : zdW L (za0 L j):=by
 obtain ⟨e,he⟩:=G.live j hj (by omega) (by omega)
 rw [zfg L j e hj (by omega),if_pos h8] at he
 rw [zeO L j hj (by omega) (by omega)]
 exact zgA L _ he
theorem Good.fn {L : List Said} (G : Good L) (j : Nat) (hj : j < L.length) (h2 : L[j].kind = 102) : zdW L (za0 L (j + 1)):=by
 have:=G.endl j hj
 rw [zjM L j hj (by simp [h2])] at this
 exact zgA L _ (by simpa using this)
theorem Good.next {L : List Said} (G : Good L) (k : Nat) (hk : k < L.length) (h5 : L[k].kind = 105) (he : ends (L[k].word 0) = false) : zdW L (za0 L (k + 1)):=by
 obtain ⟨e,h⟩:=G.live k hk (by omega) (by omega)
 rw [zfg L k e hk (by omega),if_neg (by omega),if_pos h5,he] at h
 exact zgA L _ h
end Go.Proofs.YtfpgjkbjbbgciaaGreatDoor
namespace Go.Proofs.YtfpgjkbjbbgciaaGreatDoor
open Go.RowKit Sp
structure InvR (L : List Said) (m : Mc) : Prop where
 at_ : zdW L m.at'
 backs : ∀ z ∈ m.backs,zdW L z
 frames : m.frames = (m.backs.length : Int) + 1
 few : m.backs.length ≤ 15
 peak : ∃ p : Nat,m.peak = (p : Int) ∧ p ≤ 16
 steps : 0 ≤ m.steps
 out : (m.out.length : Int) ≤ m.steps
end Go.Proofs.YtfpgjkbjbbgciaaGreatDoor
