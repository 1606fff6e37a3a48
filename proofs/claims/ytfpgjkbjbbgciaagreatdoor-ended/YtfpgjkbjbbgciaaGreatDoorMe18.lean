import Derived.Test.YtfpgjkbjbbgciaaGreatDoorMe17
set_option maxRecDepth 100000
set_option maxHeartbeats 8000000
namespace Go.Proofs.YtfpgjkbjbbgciaaGreatDoor
open Go.RowKit Sp
theorem zn6 {F : List FnM} {G : List Fn} (hG : Hid (F.map FnM.fn = G)) : F.map FnM.name = G.map Fn.name:=by
 rw [← hG.out,zjl]
theorem PIn.alloc {B : Nat} {w : World} {pm : Nat} {v : Value} {F : List FnM} (h : PIn B w pm v F) (o : Obj) : PIn B (w.alloc o) pm v F:=h.of_blocks fun _b _ hb => Below.heap_alloc _ _ _ hb
theorem PIn.below {B : Nat} {w w' : World} {pm : Nat} {v : Value} {F : List FnM} (h : PIn B w pm v F) (hb : Below w.heap.size w w') : PIn B w' pm v F:=h.of_blocks fun b _ hl => hb.block b hl
theorem zxa {B : Nat} {w : World} {pm : Nat} {v : Value} {F : List FnM} {G : List Fn} (h : PIn B w pm v F) (hG : Hid (F.map FnM.fn = G)) (hF : 0 < F.length) (hn : F.length ≤ 300) (hb : ∀ f ∈ F,f.its.length ≤ 300 ∧ ∀ i ∈ f.its,ItOk i) (l : Int) (hm : Hid (zcy (G.map Fn.name) G = some l)) :
  Calls Tryz.prog 69 #[.agg #[v,.map (some pm)]] w fun e w' => e = zah 4 l ∧ Below w.heap.size w w':=by
 have:=zi7 w B pm v F h hF hn hb
 rw [zn6 hG,hG.out] at this
 refine this.mono ?_
 rintro e w' ⟨hbb,⟨l',h1,h2⟩ | ⟨h1,_⟩⟩
 ·rw [hm.out] at h1; cases h1; exact ⟨h2,hbb⟩
 ·rw [hm.out] at h1; cases h1
theorem zuI {B : Nat} {w : World} {pm : Nat} {v : Value} {F : List FnM} {G : List Fn} (h : PIn B w pm v F) (hG : Hid (F.map FnM.fn = G)) (hF : 0 < F.length) (hn : F.length ≤ 300) (hb : ∀ f ∈ F,f.its.length ≤ 300 ∧ ∀ i ∈ f.its,ItOk i) (hm : Hid (zcy (G.map Fn.name) G = none)) :
  Calls Tryz.prog 69 #[.agg #[v,.map (some pm)]] w fun e w' => e = .returned (.tuple #[]) ∧ Below w.heap.size w w':=by
 have:=zi7 w B pm v F h hF hn hb
 rw [zn6 hG,hG.out] at this
 refine this.mono ?_
 rintro e w' ⟨hbb,⟨l',h1,h2⟩ | ⟨_,h1⟩⟩
 ·rw [hm.out] at h1; cases h1
 ·exact ⟨h1,hbb⟩
theorem zw7 {B : Nat} {w : World} {pm : Nat} {v : Value} {F : List FnM} {G : List Fn} (h : PIn B w pm v F) (hG : Hid (F.map FnM.fn = G)) (hF : 0 < F.length) (hn : F.length ≤ 300) (hb : ∀ f ∈ F,f.its.length ≤ 300 ∧ ∀ i ∈ f.its,ItOk i) (l : Int) (hm : Hid (endK G = some l)) :
  Calls Tryz.prog 70 #[.agg #[v,.map (some pm)]] w fun e w' => e = zah 5 l ∧ Below w.heap.size w w':=by
 have:=zkm w B pm v F h hF hn hb
 rw [hG.out] at this
 refine this.mono ?_
 rintro e w' ⟨hbb,⟨l',h1,h2⟩ | ⟨h1,_⟩⟩
 ·rw [hm.out] at h1; cases h1; exact ⟨h2,hbb⟩
 ·rw [hm.out] at h1; cases h1
theorem zvy {B : Nat} {w : World} {pm : Nat} {v : Value} {F : List FnM} {G : List Fn} (h : PIn B w pm v F) (hG : Hid (F.map FnM.fn = G)) (hF : 0 < F.length) (hn : F.length ≤ 300) (hb : ∀ f ∈ F,f.its.length ≤ 300 ∧ ∀ i ∈ f.its,ItOk i) (hm : Hid (endK G = none)) :
  Calls Tryz.prog 70 #[.agg #[v,.map (some pm)]] w fun e w' => e = .returned (.tuple #[]) ∧ Below w.heap.size w w':=by
 have:=zkm w B pm v F h hF hn hb
 rw [hG.out] at this
 refine this.mono ?_
 rintro e w' ⟨hbb,⟨l',h1,h2⟩ | ⟨_,h1⟩⟩
 ·rw [hm.out] at h1; cases h1
 ·exact ⟨h1,hbb⟩
theorem zt8 (F : List Fn) (k : Key) (h : 0 < F.length) : 0 < (addK F k).length:=by
 unfold addK
 split
 ·simp
 ·split
  ·exact h
  ·simp
theorem zt9 (K : List Key) (F : List Fn) (h : 0 < F.length) : 0 < (K.foldl addK F).length:=by
 induction K generalizing F with
 | nil => exact h
 | cons k r ih => exact ih _ (zt8 F k h)
theorem zfS (k : Key) (r : List Key) (hs : k.sort = 0) : 0 < ((k :: r).foldl addK []).length:=by
 rw [List.foldl_cons,zcn _ _ hs]
 exact zt9 r _ (by simp)
theorem zn7 {w w' : World} {a b : Value} (hb : Below (w.alloc (.cells #[a,b] 83)).heap.size (w.alloc (.cells #[a,b] 83)) w') :
  w'.cell? ⟨w.heap.size,0,none⟩ = some a ∧ w'.cell? ⟨w.heap.size,1,none⟩ = some b ∧ w'.frozen? ⟨w.heap.size,0,none⟩ = false ∧ w'.frozen? ⟨w.heap.size,1,none⟩ = false:=by
 have hh : w'.heap[w.heap.size]? = some (.cells #[a,b] 83 (0,0)):=(hb.block _ (by simp)).trans (heap_alloc_new w _)
 exact ⟨by rw [cell_of_row w' _ 0 _ _ _ hh]; rfl,by rw [cell_of_row w' _ 1 _ _ _ hh]; rfl,frozen_of_row w' _ 0 _ _ hh,frozen_of_row w' _ 1 _ _ hh⟩
theorem zoN (s : ByteArray) (k : Key) (r : List Key) (h : Sts s (k :: r)) (hs : k.sort = 0) (ht : zaQ [] (k :: r) = none) (G : List Fn) (hG : (k :: r).foldl addK [] = G) (l : Int) (hm : zcy (G.map Fn.name) G = some l) : zbJ s (4,l):=by
 intro w hw
 have hw1 : LibW (w.alloc Z33):=hw.below ((Below.refl _ _).alloc (Nat.le_refl _) _)
 have hcall:=zc1 s (w.alloc Z33) h.h4 h.h3
 have hcall2:=h.begins hs (w.alloc Z33) hw1
 have HT : Hid (zaQ [] (k :: r) = none):=ht
 have HG : Hid ((k :: r).foldl addK [] = G):=hG
 have HM : Hid (zcy (G.map Fn.name) G = some l):=hm
 have hG0 : 0 < G.length:=by rw [← hG]; exact zfS k r hs
 clear h hs ht hG hm
 generalize k :: r = K at hcall2 HT HG
 go_enter Tryz.func44,Tryz.ntmps44
 go_wp2_with (first
  | (go_at_call 65; refine hcall.mono ?_; rintro e w1 ⟨rfl,hww⟩; subst hww)
  | (go_at_call 66; refine hcall2.mono ?_; rintro e w2 ⟨hb2,v,i,t,rfl,hown,hk,hl,hnm,hns⟩)
  | (go_at_call 67; refine (zg9 w2 _ v i t hown hl hns).mono ?_; rintro e w3 ⟨rfl,hww⟩; have h2:=hww.symm; subst h2)
  | (go_at_call 68; refine (zlP _ _ v i t K hown hk hl hnm hns HT G HG hG0).mono ?_; rintro e w4 ⟨hb4,pm,ao,n,cap,F,rfl,hpin,hFG,hF0,hFn,hFi⟩)
  | (go_at_call 69; refine (zxa (hpin.alloc _) hFG hF0 hFn hFi l HM).mono ?_; rintro e w5 ⟨rfl,hb5⟩))
 exact ⟨rfl,((zaX _ _ hb2).trans (hb4.mono (zaX _ _ hb2).size)).trans ((zaX _ _ hb5).mono ((zaX _ _ hb2).trans (hb4.mono (zaX _ _ hb2).size)).size),.inr ⟨by simp,rfl⟩⟩
theorem zrk (s : ByteArray) (k : Key) (r : List Key) (h : Sts s (k :: r)) (hs : k.sort = 0) (ht : zaQ [] (k :: r) = none) (G : List Fn) (hG : (k :: r).foldl addK [] = G) (hm : zcy (G.map Fn.name) G = none) (l : Int) (he : endK G = some l) : zbJ s (5,l):=by
 intro w hw
 have hw1 : LibW (w.alloc Z33):=hw.below ((Below.refl _ _).alloc (Nat.le_refl _) _)
 have hcall:=zc1 s (w.alloc Z33) h.h4 h.h3
 have hcall2:=h.begins hs (w.alloc Z33) hw1
 have HT : Hid (zaQ [] (k :: r) = none):=ht
 have HG : Hid ((k :: r).foldl addK [] = G):=hG
 have HM : Hid (zcy (G.map Fn.name) G = none):=hm
 have HE : Hid (endK G = some l):=he
 have hG0 : 0 < G.length:=by rw [← hG]; exact zfS k r hs
 clear h hs ht hG hm he
 generalize k :: r = K at hcall2 HT HG
 go_enter Tryz.func44,Tryz.ntmps44
 go_wp2_with (first
  | (go_at_call 65; refine hcall.mono ?_; rintro e w1 ⟨rfl,hww⟩; subst hww)
  | (go_at_call 66; refine hcall2.mono ?_; rintro e w2 ⟨hb2,v,i,t,rfl,hown,hk,hl,hnm,hns⟩)
  | (go_at_call 67; refine (zg9 w2 _ v i t hown hl hns).mono ?_; rintro e w3 ⟨rfl,hww⟩; have h2:=hww.symm; subst h2)
  | (go_at_call 68; refine (zlP _ _ v i t K hown hk hl hnm hns HT G HG hG0).mono ?_; rintro e w4 ⟨hb4,pm,ao,n,cap,F,rfl,hpin,hFG,hF0,hFn,hFi⟩)
  | (go_at_call 69; refine (zuI (hpin.alloc _) hFG hF0 hFn hFi HM).mono ?_; rintro e w5 ⟨rfl,hb5⟩; obtain ⟨t0,t1,_,_⟩:=zn7 hb5)
  | (go_at_call 70; refine (zw7 ((hpin.alloc _).below hb5) hFG hF0 hFn hFi l HE).mono ?_; rintro e w6 ⟨rfl,hb6⟩))
 exact ⟨rfl,((zaX _ _ hb2).trans (hb4.mono (zaX _ _ hb2).size)).trans ((zaX _ _ (hb5.trans (hb6.mono hb5.size))).mono ((zaX _ _ hb2).trans (hb4.mono (zaX _ _ hb2).size)).size),.inr ⟨by simp,rfl⟩⟩
theorem ziG (s : ByteArray) (k : Key) (r : List Key) (h : Sts s (k :: r)) (hs : k.sort = 0) (ht : zaQ [] (k :: r) = none) (G : List Fn) (hG : (k :: r).foldl addK [] = G) (hm : zcy (G.map Fn.name) G = none) (he : endK G = none) (w : World) (hw : LibW w) :
  Calls Tryz.prog 44 #[.string s] w fun e w' => Below w.heap.size w w' ∧ ∃ pm ao n cap F,e = .returned (.agg #[.slice ao n cap,.map (some pm)]) ∧ PIn w.heap.size w' pm (.slice ao n cap) F ∧ Hid (F.map FnM.fn = G) ∧ 0 < F.length ∧ F.length ≤ 300 ∧ (∀ f ∈ F,f.its.length ≤ 300 ∧ ∀ i ∈ f.its,ItOk i):=by
 have hw1 : LibW (w.alloc Z33):=hw.below ((Below.refl _ _).alloc (Nat.le_refl _) _)
 have hcall:=zc1 s (w.alloc Z33) h.h4 h.h3
 have hcall2:=h.begins hs (w.alloc Z33) hw1
 have HT : Hid (zaQ [] (k :: r) = none):=ht
 have HG : Hid ((k :: r).foldl addK [] = G):=hG
 have HM : Hid (zcy (G.map Fn.name) G = none):=hm
 have HE : Hid (endK G = none):=he
 have hG0 : 0 < G.length:=by rw [← hG]; exact zfS k r hs
 clear h hs ht hG hm he
 generalize k :: r = K at hcall2 HT HG
 go_enter Tryz.func44,Tryz.ntmps44
 go_wp2_with (first
  | (go_at_call 65; refine hcall.mono ?_; rintro e w1 ⟨rfl,hww⟩; subst hww)
  | (go_at_call 66; refine hcall2.mono ?_; rintro e w2 ⟨hb2,v,i,t,rfl,hown,hk,hl,hnm,hns⟩)
  | (go_at_call 67; refine (zg9 w2 _ v i t hown hl hns).mono ?_; rintro e w3 ⟨rfl,hww⟩; have h2:=hww.symm; subst h2)
  | (go_at_call 68; refine (zlP _ _ v i t K hown hk hl hnm hns HT G HG hG0).mono ?_; rintro e w4 ⟨hb4,pm,ao,n,cap,F,rfl,hpin,hFG,hF0,hFn,hFi⟩)
  | (go_at_call 69; refine (zuI (hpin.alloc _) hFG hF0 hFn hFi HM).mono ?_; rintro e w5 ⟨rfl,hb5⟩; obtain ⟨t0,t1,_,_⟩:=zn7 hb5)
  | (go_at_call 70; refine (zvy ((hpin.alloc _).below hb5) hFG hF0 hFn hFi HE).mono ?_; rintro e w6 ⟨rfl,hb6⟩; have hb56:=hb5.trans (hb6.mono hb5.size); have hbz:=zaX _ _ hb56; have hz:=(hb2.trans (hb4.mono hb2.size)).trans (hbz.mono (hb2.trans (hb4.mono hb2.size)).size); obtain ⟨s0,s1,_,_⟩:=zn7 hb56; obtain ⟨r0,r1,f0,f1⟩:=zn7 hz))
 have q0:=World.cell?_setCell_same (w6.setCell ⟨w.heap.size,0,none⟩ (.slice ao n cap)) ⟨w.heap.size,1,none⟩ (.map (some pm)) (u:=.map none) (by rw [World.cell?_setCell_other]; exact r1; simp)
 have q1 : ((w6.setCell ⟨w.heap.size,0,none⟩ (.slice ao n cap)).setCell ⟨w.heap.size,1,none⟩ (.map (some pm))).cell? ⟨w.heap.size,0,none⟩ = some (.slice ao n cap):=by
  rw [World.cell?_setCell_other]
  ·exact World.cell?_setCell_same w6 _ _ r0
  ·simp
 refine bodyPost_ret (v:=.agg #[.slice ao n cap,.map (some pm)]) (by simp [results,Tryz.results44,go_sem,q0,q1]) rfl ⟨?_,pm,ao,n,cap,F,rfl,?_,hFG,hF0,hFn,hFi⟩
 ·exact ((zaX _ _ hz).setCell (p:=⟨w.heap.size,0,none⟩) (Nat.le_refl _) _).setCell (p:=⟨w.heap.size,1,none⟩) (Nat.le_refl _) _
 ·have hw4 : (w.alloc Z33).heap.size ≤ w2.heap.size:=hb2.size
  have hz3 : (w.alloc Z33).heap.size = w.heap.size + 1:=by simp
  have p6:=((hpin.alloc (.cells #[.slice ao n cap,.map (some pm)] 83)).below hb56)
  exact (p6.of_blocks (w':=((w6.setCell ⟨w.heap.size,0,none⟩ (.slice ao n cap)).setCell ⟨w.heap.size,1,none⟩ (.map (some pm)))) (fun b hb _ => by rw [Below.heap_setCell _ _ _ _ (by show ¬ b = w.heap.size; omega),Below.heap_setCell _ _ _ _ (by show ¬ b = w.heap.size; omega)])).mono (by omega)
theorem ztA (s : ByteArray) (k : Key) (r : List Key) (h : Sts s (k :: r)) (hs : k.sort = 0) (ht : zaQ [] (k :: r) = none) (G : List Fn) (hG : (k :: r).foldl addK [] = G) (hm : zcy (G.map Fn.name) G = none) (he : endK G = none) : zbJ s (0,0):=by
 intro w hw
 refine (ziG s k r h hs ht G hG hm he w hw).mono ?_
 rintro e w' ⟨hb,pm,ao,n,cap,F,rfl,_⟩
 exact ⟨hb,.inl ⟨rfl,_,rfl⟩⟩
theorem zfu (s : ByteArray) (hs : s.size ≤ 9223372036854775807) : zbJ s (zbk s):=by
 unfold zbk
 by_cases h : 4000 < s.size ∨ 300 < (lines s).length
 ·rw [if_pos h]; exact zqF s hs h
 ·rw [if_neg h]
  have h4 : s.size ≤ 4000:=by omega
  have h3 : (lines s).length ≤ 300:=by omega
  by_cases hok : ∀ x ∈ lines s,(say x).ok = true
  ·rw [zes _ hok 0,zer _ hok]
   have S : Sts s (zaT (lines s) (lines s).length):=⟨h4,h3,hok,rfl⟩
   generalize zaT (lines s) (lines s).length = K at S
   cases K with
   | nil => exact zo3 s S
   | cons k r =>
    unfold sayK
    dsimp only
    by_cases h0 : k.sort = 0
    ·rw [if_pos h0]
     cases ht : zaQ [] (k :: r) with
     | some l => exact zlQ s k r S h0 l ht
     | none =>
      generalize hG : (k :: r).foldl addK [] = G
      cases hm : zcy (G.map Fn.name) G with
      | some l => exact zoN s k r S h0 ht G hG l hm
      | none =>
       cases he : endK G with
       | some l => exact zrk s k r S h0 ht G hG hm l he
       | none => exact ztA s k r S h0 ht G hG hm he
    ·rw [if_neg h0]
     exact zlO s k r S h0
  ·exact ztl s h4 h3 hok
end Go.Proofs.YtfpgjkbjbbgciaaGreatDoor
namespace Go.Proofs.YtfpgjkbjbbgciaaGreatDoor
open Sp
theorem zqH (L : List Said) (k : Nat) (q : Said) (x1 : ByteArray) (h : q.kept = [⟨#[106,117,109,112]⟩,x1]) : insQ L k q = .jump (zg1 L k x1):=by
 obtain ⟨kd,kp,ok⟩:=q
 simp only at h
 subst h
 unfold insQ
 rw [show (⟨kd,[⟨#[106,117,109,112]⟩,x1],ok⟩ : Said).word 0 = ⟨#[106,117,109,112]⟩ from rfl]
 rw [if_pos (show isW ⟨#[106,117,109,112]⟩ [106,117,109,112] = true from by kernel_rfl)]
 rfl
theorem zqI (L : List Said) (k : Nat) (q : Said) (x1 x2 x3 : ByteArray) (h : q.kept = [⟨#[108,101,115,115]⟩,x1,x2,x3]) : insQ L k q = .less (regN x1) (regN x2) (zg1 L k x3):=by
 obtain ⟨kd,kp,ok⟩:=q
 simp only at h
 subst h
 unfold insQ
 rw [show (⟨kd,[⟨#[108,101,115,115]⟩,x1,x2,x3],ok⟩ : Said).word 0 = ⟨#[108,101,115,115]⟩ from rfl]
 rw [if_neg (show ¬ isW ⟨#[108,101,115,115]⟩ [106,117,109,112] = true by rw [show isW ⟨#[108,101,115,115]⟩ [106,117,109,112] = false from by kernel_rfl]; decide)]
 rw [if_pos (show isW ⟨#[108,101,115,115]⟩ [108,101,115,115] = true from by kernel_rfl)]
 rfl
theorem zqJ (L : List Said) (k : Nat) (q : Said) (x1 x2 x3 : ByteArray) (h : q.kept = [⟨#[115,97,109,101]⟩,x1,x2,x3]) : insQ L k q = .same (regN x1) (regN x2) (zg1 L k x3):=by
 obtain ⟨kd,kp,ok⟩:=q
 simp only at h
 subst h
 unfold insQ
 rw [show (⟨kd,[⟨#[115,97,109,101]⟩,x1,x2,x3],ok⟩ : Said).word 0 = ⟨#[115,97,109,101]⟩ from rfl]
 rw [if_neg (show ¬ isW ⟨#[115,97,109,101]⟩ [106,117,109,112] = true by rw [show isW ⟨#[115,97,109,101]⟩ [106,117,109,112] = false from by kernel_rfl]; decide)]
 rw [if_neg (show ¬ isW ⟨#[115,97,109,101]⟩ [108,101,115,115] = true by rw [show isW ⟨#[115,97,109,101]⟩ [108,101,115,115] = false from by kernel_rfl]; decide)]
 rw [if_pos (show isW ⟨#[115,97,109,101]⟩ [115,97,109,101] = true from by kernel_rfl)]
 rfl
theorem zqK (L : List Said) (k : Nat) (q : Said) (x1 : ByteArray) (h : q.kept = [⟨#[99,97,108,108]⟩,x1]) : insQ L k q = .call (fnTo L x1):=by
 obtain ⟨kd,kp,ok⟩:=q
 simp only at h
 subst h
 unfold insQ
 rw [show (⟨kd,[⟨#[99,97,108,108]⟩,x1],ok⟩ : Said).word 0 = ⟨#[99,97,108,108]⟩ from rfl]
 rw [if_neg (show ¬ isW ⟨#[99,97,108,108]⟩ [106,117,109,112] = true by rw [show isW ⟨#[99,97,108,108]⟩ [106,117,109,112] = false from by kernel_rfl]; decide)]
 rw [if_neg (show ¬ isW ⟨#[99,97,108,108]⟩ [108,101,115,115] = true by rw [show isW ⟨#[99,97,108,108]⟩ [108,101,115,115] = false from by kernel_rfl]; decide)]
 rw [if_neg (show ¬ isW ⟨#[99,97,108,108]⟩ [115,97,109,101] = true by rw [show isW ⟨#[99,97,108,108]⟩ [115,97,109,101] = false from by kernel_rfl]; decide)]
 rw [if_pos (show isW ⟨#[99,97,108,108]⟩ [99,97,108,108] = true from by kernel_rfl)]
 rfl
theorem zqL (L : List Said) (k : Nat) (q : Said) (h : q.kept = [⟨#[98,97,99,107]⟩]) : insQ L k q = .back:=by
 obtain ⟨kd,kp,ok⟩:=q
 simp only at h
 subst h
 unfold insQ
 rw [show (⟨kd,[⟨#[98,97,99,107]⟩],ok⟩ : Said).word 0 = ⟨#[98,97,99,107]⟩ from rfl]
 rw [if_neg (show ¬ isW ⟨#[98,97,99,107]⟩ [106,117,109,112] = true by rw [show isW ⟨#[98,97,99,107]⟩ [106,117,109,112] = false from by kernel_rfl]; decide)]
 rw [if_neg (show ¬ isW ⟨#[98,97,99,107]⟩ [108,101,115,115] = true by rw [show isW ⟨#[98,97,99,107]⟩ [108,101,115,115] = false from by kernel_rfl]; decide)]
 rw [if_neg (show ¬ isW ⟨#[98,97,99,107]⟩ [115,97,109,101] = true by rw [show isW ⟨#[98,97,99,107]⟩ [115,97,109,101] = false from by kernel_rfl]; decide)]
 rw [if_neg (show ¬ isW ⟨#[98,97,99,107]⟩ [99,97,108,108] = true by rw [show isW ⟨#[98,97,99,107]⟩ [99,97,108,108] = false from by kernel_rfl]; decide)]
 rw [if_pos (show isW ⟨#[98,97,99,107]⟩ [98,97,99,107] = true from by kernel_rfl)]
theorem zqM (L : List Said) (k : Nat) (q : Said) (h : q.kept = [⟨#[115,116,111,112]⟩]) : insQ L k q = .stop:=by
 obtain ⟨kd,kp,ok⟩:=q
 simp only at h
 subst h
 unfold insQ
 rw [show (⟨kd,[⟨#[115,116,111,112]⟩],ok⟩ : Said).word 0 = ⟨#[115,116,111,112]⟩ from rfl]
 rw [if_neg (show ¬ isW ⟨#[115,116,111,112]⟩ [106,117,109,112] = true by rw [show isW ⟨#[115,116,111,112]⟩ [106,117,109,112] = false from by kernel_rfl]; decide)]
 rw [if_neg (show ¬ isW ⟨#[115,116,111,112]⟩ [108,101,115,115] = true by rw [show isW ⟨#[115,116,111,112]⟩ [108,101,115,115] = false from by kernel_rfl]; decide)]
 rw [if_neg (show ¬ isW ⟨#[115,116,111,112]⟩ [115,97,109,101] = true by rw [show isW ⟨#[115,116,111,112]⟩ [115,97,109,101] = false from by kernel_rfl]; decide)]
 rw [if_neg (show ¬ isW ⟨#[115,116,111,112]⟩ [99,97,108,108] = true by rw [show isW ⟨#[115,116,111,112]⟩ [99,97,108,108] = false from by kernel_rfl]; decide)]
 rw [if_neg (show ¬ isW ⟨#[115,116,111,112]⟩ [98,97,99,107] = true by rw [show isW ⟨#[115,116,111,112]⟩ [98,97,99,107] = false from by kernel_rfl]; decide)]
 rw [if_pos (show isW ⟨#[115,116,111,112]⟩ [115,116,111,112] = true from by kernel_rfl)]
theorem ztm (L : List Said) (k : Nat) (q : Said) (x1 x2 : ByteArray) (h : q.kept = [⟨#[115,101,116]⟩,x1,x2]) : insQ L k q = .set (regN x1) (zbv x2).1:=by
 obtain ⟨kd,kp,ok⟩:=q
 simp only at h
 subst h
 unfold insQ
 rw [show (⟨kd,[⟨#[115,101,116]⟩,x1,x2],ok⟩ : Said).word 0 = ⟨#[115,101,116]⟩ from rfl]
 rw [if_neg (show ¬ isW ⟨#[115,101,116]⟩ [106,117,109,112] = true by rw [show isW ⟨#[115,101,116]⟩ [106,117,109,112] = false from by kernel_rfl]; decide)]
 rw [if_neg (show ¬ isW ⟨#[115,101,116]⟩ [108,101,115,115] = true by rw [show isW ⟨#[115,101,116]⟩ [108,101,115,115] = false from by kernel_rfl]; decide)]
 rw [if_neg (show ¬ isW ⟨#[115,101,116]⟩ [115,97,109,101] = true by rw [show isW ⟨#[115,101,116]⟩ [115,97,109,101] = false from by kernel_rfl]; decide)]
 rw [if_neg (show ¬ isW ⟨#[115,101,116]⟩ [99,97,108,108] = true by rw [show isW ⟨#[115,101,116]⟩ [99,97,108,108] = false from by kernel_rfl]; decide)]
 rw [if_neg (show ¬ isW ⟨#[115,101,116]⟩ [98,97,99,107] = true by rw [show isW ⟨#[115,101,116]⟩ [98,97,99,107] = false from by kernel_rfl]; decide)]
 rw [if_neg (show ¬ isW ⟨#[115,101,116]⟩ [115,116,111,112] = true by rw [show isW ⟨#[115,101,116]⟩ [115,116,111,112] = false from by kernel_rfl]; decide)]
 rw [if_pos (show isW ⟨#[115,101,116]⟩ [115,101,116] = true from by kernel_rfl)]
 rfl
theorem ztn (L : List Said) (k : Nat) (q : Said) (x1 x2 : ByteArray) (h : q.kept = [⟨#[109,111,118]⟩,x1,x2]) : insQ L k q = .mov (regN x1) (regN x2):=by
 obtain ⟨kd,kp,ok⟩:=q
 simp only at h
 subst h
 unfold insQ
 rw [show (⟨kd,[⟨#[109,111,118]⟩,x1,x2],ok⟩ : Said).word 0 = ⟨#[109,111,118]⟩ from rfl]
 rw [if_neg (show ¬ isW ⟨#[109,111,118]⟩ [106,117,109,112] = true by rw [show isW ⟨#[109,111,118]⟩ [106,117,109,112] = false from by kernel_rfl]; decide)]
 rw [if_neg (show ¬ isW ⟨#[109,111,118]⟩ [108,101,115,115] = true by rw [show isW ⟨#[109,111,118]⟩ [108,101,115,115] = false from by kernel_rfl]; decide)]
 rw [if_neg (show ¬ isW ⟨#[109,111,118]⟩ [115,97,109,101] = true by rw [show isW ⟨#[109,111,118]⟩ [115,97,109,101] = false from by kernel_rfl]; decide)]
 rw [if_neg (show ¬ isW ⟨#[109,111,118]⟩ [99,97,108,108] = true by rw [show isW ⟨#[109,111,118]⟩ [99,97,108,108] = false from by kernel_rfl]; decide)]
 rw [if_neg (show ¬ isW ⟨#[109,111,118]⟩ [98,97,99,107] = true by rw [show isW ⟨#[109,111,118]⟩ [98,97,99,107] = false from by kernel_rfl]; decide)]
 rw [if_neg (show ¬ isW ⟨#[109,111,118]⟩ [115,116,111,112] = true by rw [show isW ⟨#[109,111,118]⟩ [115,116,111,112] = false from by kernel_rfl]; decide)]
 rw [if_neg (show ¬ isW ⟨#[109,111,118]⟩ [115,101,116] = true by rw [show isW ⟨#[109,111,118]⟩ [115,101,116] = false from by kernel_rfl]; decide)]
 rw [if_pos (show isW ⟨#[109,111,118]⟩ [109,111,118] = true from by kernel_rfl)]
 rfl
theorem zto (L : List Said) (k : Nat) (q : Said) (x1 x2 x3 : ByteArray) (h : q.kept = [⟨#[97,100,100]⟩,x1,x2,x3]) : insQ L k q = .alu 0 (regN x1) (regN x2) (regN x3):=by
 obtain ⟨kd,kp,ok⟩:=q
 simp only at h
 subst h
 unfold insQ
 rw [show (⟨kd,[⟨#[97,100,100]⟩,x1,x2,x3],ok⟩ : Said).word 0 = ⟨#[97,100,100]⟩ from rfl]
 rw [if_neg (show ¬ isW ⟨#[97,100,100]⟩ [106,117,109,112] = true by rw [show isW ⟨#[97,100,100]⟩ [106,117,109,112] = false from by kernel_rfl]; decide)]
 rw [if_neg (show ¬ isW ⟨#[97,100,100]⟩ [108,101,115,115] = true by rw [show isW ⟨#[97,100,100]⟩ [108,101,115,115] = false from by kernel_rfl]; decide)]
 rw [if_neg (show ¬ isW ⟨#[97,100,100]⟩ [115,97,109,101] = true by rw [show isW ⟨#[97,100,100]⟩ [115,97,109,101] = false from by kernel_rfl]; decide)]
 rw [if_neg (show ¬ isW ⟨#[97,100,100]⟩ [99,97,108,108] = true by rw [show isW ⟨#[97,100,100]⟩ [99,97,108,108] = false from by kernel_rfl]; decide)]
 rw [if_neg (show ¬ isW ⟨#[97,100,100]⟩ [98,97,99,107] = true by rw [show isW ⟨#[97,100,100]⟩ [98,97,99,107] = false from by kernel_rfl]; decide)]
 rw [if_neg (show ¬ isW ⟨#[97,100,100]⟩ [115,116,111,112] = true by rw [show isW ⟨#[97,100,100]⟩ [115,116,111,112] = false from by kernel_rfl]; decide)]
 rw [if_neg (show ¬ isW ⟨#[97,100,100]⟩ [115,101,116] = true by rw [show isW ⟨#[97,100,100]⟩ [115,101,116] = false from by kernel_rfl]; decide)]
 rw [if_neg (show ¬ isW ⟨#[97,100,100]⟩ [109,111,118] = true by rw [show isW ⟨#[97,100,100]⟩ [109,111,118] = false from by kernel_rfl]; decide)]
 rw [if_pos (show isW ⟨#[97,100,100]⟩ [97,100,100] = true from by kernel_rfl)]
 rfl
theorem ztp (L : List Said) (k : Nat) (q : Said) (x1 x2 x3 : ByteArray) (h : q.kept = [⟨#[115,117,98]⟩,x1,x2,x3]) : insQ L k q = .alu 1 (regN x1) (regN x2) (regN x3):=by
 obtain ⟨kd,kp,ok⟩:=q
 simp only at h
 subst h
 unfold insQ
 rw [show (⟨kd,[⟨#[115,117,98]⟩,x1,x2,x3],ok⟩ : Said).word 0 = ⟨#[115,117,98]⟩ from rfl]
 rw [if_neg (show ¬ isW ⟨#[115,117,98]⟩ [106,117,109,112] = true by rw [show isW ⟨#[115,117,98]⟩ [106,117,109,112] = false from by kernel_rfl]; decide)]
 rw [if_neg (show ¬ isW ⟨#[115,117,98]⟩ [108,101,115,115] = true by rw [show isW ⟨#[115,117,98]⟩ [108,101,115,115] = false from by kernel_rfl]; decide)]
 rw [if_neg (show ¬ isW ⟨#[115,117,98]⟩ [115,97,109,101] = true by rw [show isW ⟨#[115,117,98]⟩ [115,97,109,101] = false from by kernel_rfl]; decide)]
 rw [if_neg (show ¬ isW ⟨#[115,117,98]⟩ [99,97,108,108] = true by rw [show isW ⟨#[115,117,98]⟩ [99,97,108,108] = false from by kernel_rfl]; decide)]
 rw [if_neg (show ¬ isW ⟨#[115,117,98]⟩ [98,97,99,107] = true by rw [show isW ⟨#[115,117,98]⟩ [98,97,99,107] = false from by kernel_rfl]; decide)]
 rw [if_neg (show ¬ isW ⟨#[115,117,98]⟩ [115,116,111,112] = true by rw [show isW ⟨#[115,117,98]⟩ [115,116,111,112] = false from by kernel_rfl]; decide)]
 rw [if_neg (show ¬ isW ⟨#[115,117,98]⟩ [115,101,116] = true by rw [show isW ⟨#[115,117,98]⟩ [115,101,116] = false from by kernel_rfl]; decide)]
 rw [if_neg (show ¬ isW ⟨#[115,117,98]⟩ [109,111,118] = true by rw [show isW ⟨#[115,117,98]⟩ [109,111,118] = false from by kernel_rfl]; decide)]
 rw [if_neg (show ¬ isW ⟨#[115,117,98]⟩ [97,100,100] = true by rw [show isW ⟨#[115,117,98]⟩ [97,100,100] = false from by kernel_rfl]; decide)]
 rw [if_pos (show isW ⟨#[115,117,98]⟩ [115,117,98] = true from by kernel_rfl)]
 rfl
theorem ztq (L : List Said) (k : Nat) (q : Said) (x1 x2 x3 : ByteArray) (h : q.kept = [⟨#[109,117,108]⟩,x1,x2,x3]) : insQ L k q = .alu 2 (regN x1) (regN x2) (regN x3):=by
 obtain ⟨kd,kp,ok⟩:=q
 simp only at h
 subst h
 unfold insQ
 rw [show (⟨kd,[⟨#[109,117,108]⟩,x1,x2,x3],ok⟩ : Said).word 0 = ⟨#[109,117,108]⟩ from rfl]
 rw [if_neg (show ¬ isW ⟨#[109,117,108]⟩ [106,117,109,112] = true by rw [show isW ⟨#[109,117,108]⟩ [106,117,109,112] = false from by kernel_rfl]; decide)]
 rw [if_neg (show ¬ isW ⟨#[109,117,108]⟩ [108,101,115,115] = true by rw [show isW ⟨#[109,117,108]⟩ [108,101,115,115] = false from by kernel_rfl]; decide)]
 rw [if_neg (show ¬ isW ⟨#[109,117,108]⟩ [115,97,109,101] = true by rw [show isW ⟨#[109,117,108]⟩ [115,97,109,101] = false from by kernel_rfl]; decide)]
 rw [if_neg (show ¬ isW ⟨#[109,117,108]⟩ [99,97,108,108] = true by rw [show isW ⟨#[109,117,108]⟩ [99,97,108,108] = false from by kernel_rfl]; decide)]
 rw [if_neg (show ¬ isW ⟨#[109,117,108]⟩ [98,97,99,107] = true by rw [show isW ⟨#[109,117,108]⟩ [98,97,99,107] = false from by kernel_rfl]; decide)]
 rw [if_neg (show ¬ isW ⟨#[109,117,108]⟩ [115,116,111,112] = true by rw [show isW ⟨#[109,117,108]⟩ [115,116,111,112] = false from by kernel_rfl]; decide)]
 rw [if_neg (show ¬ isW ⟨#[109,117,108]⟩ [115,101,116] = true by rw [show isW ⟨#[109,117,108]⟩ [115,101,116] = false from by kernel_rfl]; decide)]
 rw [if_neg (show ¬ isW ⟨#[109,117,108]⟩ [109,111,118] = true by rw [show isW ⟨#[109,117,108]⟩ [109,111,118] = false from by kernel_rfl]; decide)]
 rw [if_neg (show ¬ isW ⟨#[109,117,108]⟩ [97,100,100] = true by rw [show isW ⟨#[109,117,108]⟩ [97,100,100] = false from by kernel_rfl]; decide)]
 rw [if_neg (show ¬ isW ⟨#[109,117,108]⟩ [115,117,98] = true by rw [show isW ⟨#[109,117,108]⟩ [115,117,98] = false from by kernel_rfl]; decide)]
 rw [if_pos (show isW ⟨#[109,117,108]⟩ [109,117,108] = true from by kernel_rfl)]
 rfl
theorem ztr (L : List Said) (k : Nat) (q : Said) (x1 x2 : ByteArray) (h : q.kept = [⟨#[105,110,99]⟩,x1,x2]) : insQ L k q = .inc (regN x1) (zbv x2).1:=by
 obtain ⟨kd,kp,ok⟩:=q
 simp only at h
 subst h
 unfold insQ
 rw [show (⟨kd,[⟨#[105,110,99]⟩,x1,x2],ok⟩ : Said).word 0 = ⟨#[105,110,99]⟩ from rfl]
 rw [if_neg (show ¬ isW ⟨#[105,110,99]⟩ [106,117,109,112] = true by rw [show isW ⟨#[105,110,99]⟩ [106,117,109,112] = false from by kernel_rfl]; decide)]
 rw [if_neg (show ¬ isW ⟨#[105,110,99]⟩ [108,101,115,115] = true by rw [show isW ⟨#[105,110,99]⟩ [108,101,115,115] = false from by kernel_rfl]; decide)]
 rw [if_neg (show ¬ isW ⟨#[105,110,99]⟩ [115,97,109,101] = true by rw [show isW ⟨#[105,110,99]⟩ [115,97,109,101] = false from by kernel_rfl]; decide)]
 rw [if_neg (show ¬ isW ⟨#[105,110,99]⟩ [99,97,108,108] = true by rw [show isW ⟨#[105,110,99]⟩ [99,97,108,108] = false from by kernel_rfl]; decide)]
 rw [if_neg (show ¬ isW ⟨#[105,110,99]⟩ [98,97,99,107] = true by rw [show isW ⟨#[105,110,99]⟩ [98,97,99,107] = false from by kernel_rfl]; decide)]
 rw [if_neg (show ¬ isW ⟨#[105,110,99]⟩ [115,116,111,112] = true by rw [show isW ⟨#[105,110,99]⟩ [115,116,111,112] = false from by kernel_rfl]; decide)]
 rw [if_neg (show ¬ isW ⟨#[105,110,99]⟩ [115,101,116] = true by rw [show isW ⟨#[105,110,99]⟩ [115,101,116] = false from by kernel_rfl]; decide)]
 rw [if_neg (show ¬ isW ⟨#[105,110,99]⟩ [109,111,118] = true by rw [show isW ⟨#[105,110,99]⟩ [109,111,118] = false from by kernel_rfl]; decide)]
 rw [if_neg (show ¬ isW ⟨#[105,110,99]⟩ [97,100,100] = true by rw [show isW ⟨#[105,110,99]⟩ [97,100,100] = false from by kernel_rfl]; decide)]
 rw [if_neg (show ¬ isW ⟨#[105,110,99]⟩ [115,117,98] = true by rw [show isW ⟨#[105,110,99]⟩ [115,117,98] = false from by kernel_rfl]; decide)]
 rw [if_neg (show ¬ isW ⟨#[105,110,99]⟩ [109,117,108] = true by rw [show isW ⟨#[105,110,99]⟩ [109,117,108] = false from by kernel_rfl]; decide)]
 rw [if_pos (show isW ⟨#[105,110,99]⟩ [105,110,99] = true from by kernel_rfl)]
 rfl
theorem zqN (L : List Said) (k : Nat) (q : Said) (x1 x2 : ByteArray) (h : q.kept = [⟨#[108,111,97,100]⟩,x1,x2]) : insQ L k q = .load (regN x1) (regN x2):=by
 obtain ⟨kd,kp,ok⟩:=q
 simp only at h
 subst h
 unfold insQ
 rw [show (⟨kd,[⟨#[108,111,97,100]⟩,x1,x2],ok⟩ : Said).word 0 = ⟨#[108,111,97,100]⟩ from rfl]
 rw [if_neg (show ¬ isW ⟨#[108,111,97,100]⟩ [106,117,109,112] = true by rw [show isW ⟨#[108,111,97,100]⟩ [106,117,109,112] = false from by kernel_rfl]; decide)]
 rw [if_neg (show ¬ isW ⟨#[108,111,97,100]⟩ [108,101,115,115] = true by rw [show isW ⟨#[108,111,97,100]⟩ [108,101,115,115] = false from by kernel_rfl]; decide)]
 rw [if_neg (show ¬ isW ⟨#[108,111,97,100]⟩ [115,97,109,101] = true by rw [show isW ⟨#[108,111,97,100]⟩ [115,97,109,101] = false from by kernel_rfl]; decide)]
 rw [if_neg (show ¬ isW ⟨#[108,111,97,100]⟩ [99,97,108,108] = true by rw [show isW ⟨#[108,111,97,100]⟩ [99,97,108,108] = false from by kernel_rfl]; decide)]
 rw [if_neg (show ¬ isW ⟨#[108,111,97,100]⟩ [98,97,99,107] = true by rw [show isW ⟨#[108,111,97,100]⟩ [98,97,99,107] = false from by kernel_rfl]; decide)]
 rw [if_neg (show ¬ isW ⟨#[108,111,97,100]⟩ [115,116,111,112] = true by rw [show isW ⟨#[108,111,97,100]⟩ [115,116,111,112] = false from by kernel_rfl]; decide)]
 rw [if_neg (show ¬ isW ⟨#[108,111,97,100]⟩ [115,101,116] = true by rw [show isW ⟨#[108,111,97,100]⟩ [115,101,116] = false from by kernel_rfl]; decide)]
 rw [if_neg (show ¬ isW ⟨#[108,111,97,100]⟩ [109,111,118] = true by rw [show isW ⟨#[108,111,97,100]⟩ [109,111,118] = false from by kernel_rfl]; decide)]
 rw [if_neg (show ¬ isW ⟨#[108,111,97,100]⟩ [97,100,100] = true by rw [show isW ⟨#[108,111,97,100]⟩ [97,100,100] = false from by kernel_rfl]; decide)]
 rw [if_neg (show ¬ isW ⟨#[108,111,97,100]⟩ [115,117,98] = true by rw [show isW ⟨#[108,111,97,100]⟩ [115,117,98] = false from by kernel_rfl]; decide)]
 rw [if_neg (show ¬ isW ⟨#[108,111,97,100]⟩ [109,117,108] = true by rw [show isW ⟨#[108,111,97,100]⟩ [109,117,108] = false from by kernel_rfl]; decide)]
 rw [if_neg (show ¬ isW ⟨#[108,111,97,100]⟩ [105,110,99] = true by rw [show isW ⟨#[108,111,97,100]⟩ [105,110,99] = false from by kernel_rfl]; decide)]
 rw [if_pos (show isW ⟨#[108,111,97,100]⟩ [108,111,97,100] = true from by kernel_rfl)]
 rfl
theorem zo4 (L : List Said) (k : Nat) (q : Said) (x1 x2 : ByteArray) (h : q.kept = [⟨#[115,116,111,114,101]⟩,x1,x2]) : insQ L k q = .store (regN x1) (regN x2):=by
 obtain ⟨kd,kp,ok⟩:=q
 simp only at h
 subst h
 unfold insQ
 rw [show (⟨kd,[⟨#[115,116,111,114,101]⟩,x1,x2],ok⟩ : Said).word 0 = ⟨#[115,116,111,114,101]⟩ from rfl]
 rw [if_neg (show ¬ isW ⟨#[115,116,111,114,101]⟩ [106,117,109,112] = true by rw [show isW ⟨#[115,116,111,114,101]⟩ [106,117,109,112] = false from by kernel_rfl]; decide)]
 rw [if_neg (show ¬ isW ⟨#[115,116,111,114,101]⟩ [108,101,115,115] = true by rw [show isW ⟨#[115,116,111,114,101]⟩ [108,101,115,115] = false from by kernel_rfl]; decide)]
 rw [if_neg (show ¬ isW ⟨#[115,116,111,114,101]⟩ [115,97,109,101] = true by rw [show isW ⟨#[115,116,111,114,101]⟩ [115,97,109,101] = false from by kernel_rfl]; decide)]
 rw [if_neg (show ¬ isW ⟨#[115,116,111,114,101]⟩ [99,97,108,108] = true by rw [show isW ⟨#[115,116,111,114,101]⟩ [99,97,108,108] = false from by kernel_rfl]; decide)]
 rw [if_neg (show ¬ isW ⟨#[115,116,111,114,101]⟩ [98,97,99,107] = true by rw [show isW ⟨#[115,116,111,114,101]⟩ [98,97,99,107] = false from by kernel_rfl]; decide)]
 rw [if_neg (show ¬ isW ⟨#[115,116,111,114,101]⟩ [115,116,111,112] = true by rw [show isW ⟨#[115,116,111,114,101]⟩ [115,116,111,112] = false from by kernel_rfl]; decide)]
 rw [if_neg (show ¬ isW ⟨#[115,116,111,114,101]⟩ [115,101,116] = true by rw [show isW ⟨#[115,116,111,114,101]⟩ [115,101,116] = false from by kernel_rfl]; decide)]
 rw [if_neg (show ¬ isW ⟨#[115,116,111,114,101]⟩ [109,111,118] = true by rw [show isW ⟨#[115,116,111,114,101]⟩ [109,111,118] = false from by kernel_rfl]; decide)]
 rw [if_neg (show ¬ isW ⟨#[115,116,111,114,101]⟩ [97,100,100] = true by rw [show isW ⟨#[115,116,111,114,101]⟩ [97,100,100] = false from by kernel_rfl]; decide)]
 rw [if_neg (show ¬ isW ⟨#[115,116,111,114,101]⟩ [115,117,98] = true by rw [show isW ⟨#[115,116,111,114,101]⟩ [115,117,98] = false from by kernel_rfl]; decide)]
 rw [if_neg (show ¬ isW ⟨#[115,116,111,114,101]⟩ [109,117,108] = true by rw [show isW ⟨#[115,116,111,114,101]⟩ [109,117,108] = false from by kernel_rfl]; decide)]
 rw [if_neg (show ¬ isW ⟨#[115,116,111,114,101]⟩ [105,110,99] = true by rw [show isW ⟨#[115,116,111,114,101]⟩ [105,110,99] = false from by kernel_rfl]; decide)]
 rw [if_neg (show ¬ isW ⟨#[115,116,111,114,101]⟩ [108,111,97,100] = true by rw [show isW ⟨#[115,116,111,114,101]⟩ [108,111,97,100] = false from by kernel_rfl]; decide)]
 rw [if_pos (show isW ⟨#[115,116,111,114,101]⟩ [115,116,111,114,101] = true from by kernel_rfl)]
 rfl
theorem zqO (L : List Said) (k : Nat) (q : Said) (x1 : ByteArray) (h : q.kept = [⟨#[114,101,97,100]⟩,x1]) : insQ L k q = .read (regN x1):=by
 obtain ⟨kd,kp,ok⟩:=q
 simp only at h
 subst h
 unfold insQ
 rw [show (⟨kd,[⟨#[114,101,97,100]⟩,x1],ok⟩ : Said).word 0 = ⟨#[114,101,97,100]⟩ from rfl]
 rw [if_neg (show ¬ isW ⟨#[114,101,97,100]⟩ [106,117,109,112] = true by rw [show isW ⟨#[114,101,97,100]⟩ [106,117,109,112] = false from by kernel_rfl]; decide)]
 rw [if_neg (show ¬ isW ⟨#[114,101,97,100]⟩ [108,101,115,115] = true by rw [show isW ⟨#[114,101,97,100]⟩ [108,101,115,115] = false from by kernel_rfl]; decide)]
 rw [if_neg (show ¬ isW ⟨#[114,101,97,100]⟩ [115,97,109,101] = true by rw [show isW ⟨#[114,101,97,100]⟩ [115,97,109,101] = false from by kernel_rfl]; decide)]
 rw [if_neg (show ¬ isW ⟨#[114,101,97,100]⟩ [99,97,108,108] = true by rw [show isW ⟨#[114,101,97,100]⟩ [99,97,108,108] = false from by kernel_rfl]; decide)]
 rw [if_neg (show ¬ isW ⟨#[114,101,97,100]⟩ [98,97,99,107] = true by rw [show isW ⟨#[114,101,97,100]⟩ [98,97,99,107] = false from by kernel_rfl]; decide)]
 rw [if_neg (show ¬ isW ⟨#[114,101,97,100]⟩ [115,116,111,112] = true by rw [show isW ⟨#[114,101,97,100]⟩ [115,116,111,112] = false from by kernel_rfl]; decide)]
 rw [if_neg (show ¬ isW ⟨#[114,101,97,100]⟩ [115,101,116] = true by rw [show isW ⟨#[114,101,97,100]⟩ [115,101,116] = false from by kernel_rfl]; decide)]
 rw [if_neg (show ¬ isW ⟨#[114,101,97,100]⟩ [109,111,118] = true by rw [show isW ⟨#[114,101,97,100]⟩ [109,111,118] = false from by kernel_rfl]; decide)]
 rw [if_neg (show ¬ isW ⟨#[114,101,97,100]⟩ [97,100,100] = true by rw [show isW ⟨#[114,101,97,100]⟩ [97,100,100] = false from by kernel_rfl]; decide)]
 rw [if_neg (show ¬ isW ⟨#[114,101,97,100]⟩ [115,117,98] = true by rw [show isW ⟨#[114,101,97,100]⟩ [115,117,98] = false from by kernel_rfl]; decide)]
 rw [if_neg (show ¬ isW ⟨#[114,101,97,100]⟩ [109,117,108] = true by rw [show isW ⟨#[114,101,97,100]⟩ [109,117,108] = false from by kernel_rfl]; decide)]
 rw [if_neg (show ¬ isW ⟨#[114,101,97,100]⟩ [105,110,99] = true by rw [show isW ⟨#[114,101,97,100]⟩ [105,110,99] = false from by kernel_rfl]; decide)]
 rw [if_neg (show ¬ isW ⟨#[114,101,97,100]⟩ [108,111,97,100] = true by rw [show isW ⟨#[114,101,97,100]⟩ [108,111,97,100] = false from by kernel_rfl]; decide)]
 rw [if_neg (show ¬ isW ⟨#[114,101,97,100]⟩ [115,116,111,114,101] = true by rw [show isW ⟨#[114,101,97,100]⟩ [115,116,111,114,101] = false from by kernel_rfl]; decide)]
 rw [if_pos (show isW ⟨#[114,101,97,100]⟩ [114,101,97,100] = true from by kernel_rfl)]
 rfl
theorem zo5 (L : List Said) (k : Nat) (q : Said) (x1 : ByteArray) (h : q.kept = [⟨#[119,114,105,116,101]⟩,x1]) : insQ L k q = .write (regN x1):=by
 obtain ⟨kd,kp,ok⟩:=q
 simp only at h
 subst h
 unfold insQ
 rw [show (⟨kd,[⟨#[119,114,105,116,101]⟩,x1],ok⟩ : Said).word 0 = ⟨#[119,114,105,116,101]⟩ from rfl]
 rw [if_neg (show ¬ isW ⟨#[119,114,105,116,101]⟩ [106,117,109,112] = true by rw [show isW ⟨#[119,114,105,116,101]⟩ [106,117,109,112] = false from by kernel_rfl]; decide)]
 rw [if_neg (show ¬ isW ⟨#[119,114,105,116,101]⟩ [108,101,115,115] = true by rw [show isW ⟨#[119,114,105,116,101]⟩ [108,101,115,115] = false from by kernel_rfl]; decide)]
 rw [if_neg (show ¬ isW ⟨#[119,114,105,116,101]⟩ [115,97,109,101] = true by rw [show isW ⟨#[119,114,105,116,101]⟩ [115,97,109,101] = false from by kernel_rfl]; decide)]
 rw [if_neg (show ¬ isW ⟨#[119,114,105,116,101]⟩ [99,97,108,108] = true by rw [show isW ⟨#[119,114,105,116,101]⟩ [99,97,108,108] = false from by kernel_rfl]; decide)]
 rw [if_neg (show ¬ isW ⟨#[119,114,105,116,101]⟩ [98,97,99,107] = true by rw [show isW ⟨#[119,114,105,116,101]⟩ [98,97,99,107] = false from by kernel_rfl]; decide)]
 rw [if_neg (show ¬ isW ⟨#[119,114,105,116,101]⟩ [115,116,111,112] = true by rw [show isW ⟨#[119,114,105,116,101]⟩ [115,116,111,112] = false from by kernel_rfl]; decide)]
 rw [if_neg (show ¬ isW ⟨#[119,114,105,116,101]⟩ [115,101,116] = true by rw [show isW ⟨#[119,114,105,116,101]⟩ [115,101,116] = false from by kernel_rfl]; decide)]
 rw [if_neg (show ¬ isW ⟨#[119,114,105,116,101]⟩ [109,111,118] = true by rw [show isW ⟨#[119,114,105,116,101]⟩ [109,111,118] = false from by kernel_rfl]; decide)]
 rw [if_neg (show ¬ isW ⟨#[119,114,105,116,101]⟩ [97,100,100] = true by rw [show isW ⟨#[119,114,105,116,101]⟩ [97,100,100] = false from by kernel_rfl]; decide)]
 rw [if_neg (show ¬ isW ⟨#[119,114,105,116,101]⟩ [115,117,98] = true by rw [show isW ⟨#[119,114,105,116,101]⟩ [115,117,98] = false from by kernel_rfl]; decide)]
 rw [if_neg (show ¬ isW ⟨#[119,114,105,116,101]⟩ [109,117,108] = true by rw [show isW ⟨#[119,114,105,116,101]⟩ [109,117,108] = false from by kernel_rfl]; decide)]
 rw [if_neg (show ¬ isW ⟨#[119,114,105,116,101]⟩ [105,110,99] = true by rw [show isW ⟨#[119,114,105,116,101]⟩ [105,110,99] = false from by kernel_rfl]; decide)]
 rw [if_neg (show ¬ isW ⟨#[119,114,105,116,101]⟩ [108,111,97,100] = true by rw [show isW ⟨#[119,114,105,116,101]⟩ [108,111,97,100] = false from by kernel_rfl]; decide)]
 rw [if_neg (show ¬ isW ⟨#[119,114,105,116,101]⟩ [115,116,111,114,101] = true by rw [show isW ⟨#[119,114,105,116,101]⟩ [115,116,111,114,101] = false from by kernel_rfl]; decide)]
 rw [if_neg (show ¬ isW ⟨#[119,114,105,116,101]⟩ [114,101,97,100] = true by rw [show isW ⟨#[119,114,105,116,101]⟩ [114,101,97,100] = false from by kernel_rfl]; decide)]
 rfl
end Go.Proofs.YtfpgjkbjbbgciaaGreatDoor
