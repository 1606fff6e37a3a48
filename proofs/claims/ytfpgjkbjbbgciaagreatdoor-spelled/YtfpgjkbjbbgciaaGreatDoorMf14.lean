import Derived.Test.YtfpgjkbjbbgciaaGreatDoorMf12
import Derived.Test.YtfpgjkbjbbgciaaGreatDoorMf13
set_option maxRecDepth 100000
set_option maxHeartbeats 8000000
namespace Go.Proofs.YtfpgjkbjbbgciaaGreatDoor
open Go.RowKit Sp
theorem zky (s : ByteArray) (w : World) (hw : LibW w) (h4 : s.size ≤ 4000) (h3 : (lines s).length ≤ 300) :
  Calls Tryz.prog 66 #[.string s] w (zqI w (lines s)):=by
 obtain ⟨i0,hi,hz0,hz1,hz2⟩:=info_parts Tryz.info135
 obtain ⟨mm,hmm⟩:=hw.most
 have hcall:=Tryz.strings_Split s ⟨#[10]⟩ mm w (by omega) hmm (by decide)
 rw [zfG,(zcB s).2] at hcall
 have hsz:=zdK s
 have hlow:=hw.low
 generalize lines s = A at h3 hsz hcall ⊢
 have hw1 : LibW (w.alloc (.cells (A.map Value.string).toArray 9)):=hw.below ((Below.refl _ _).alloc (Nat.le_refl _) _)
 have hcell1 : ∀ k (h : k < A.length),(w.alloc (.cells (A.map Value.string).toArray 9)).cell? ⟨w.heap.size,k,none⟩ = some (.string A[k]):=by
  intro k h
  rw [World.cell?_alloc_new]
  simp [h]
 have hb1 : Below w.heap.size w (w.alloc (.cells (A.map Value.string).toArray 9)):=(Below.refl _ _).alloc (Nat.le_refl _) _
 have hz1w : (w.alloc (.cells (A.map Value.string).toArray 9)).heap.size = w.heap.size + 1:=by simp
 go_enter Tryz.func66,Tryz.ntmps66
 go_wp2_with (go_at_call 97; refine hcall.mono ?_; rintro e wx ⟨rfl,hww⟩; subst hww)
 clear hcall
 generalize w.alloc (.cells (A.map Value.string).toArray 9) = W1 at hw1 hcell1 hb1 hz1w
 go_loopw [3,10] (fun v ti wr => ∃ (k : Nat) (its : List It),k ≤ A.length ∧ its.length ≤ k ∧ ti = .int .i64 (k : Int) ∧ wr.ownsRow (w.heap.size + 1) 135 8 v its.length (zam its) ∧ its.map It.key = za8 A k ∧ Below (w.heap.size + 1) W1 wr ∧ zbs A 0 = zbs A k ∧ (∀ j (h : j < A.length),j < k → (say A[j]).ok = true)) (fun _ ti _ => A.length - (intOf ti).toNat)
 case atStart => exact ⟨0,[],by omega,by simp,rfl,World.ownsRow_nil _ _ _ _,rfl,Below.refl _ _,rfl,fun j _ h => by omega⟩
 case round =>
  obtain ⟨k,its,hk,hits,rfl,hown,hkeys,hnx,hR,hoks⟩:=hrel
  have HR : Hid (zbs A 0 = zbs A k):=hR
  have HK : Hid (its.map It.key = za8 A k):=hkeys
  have HOK : Hid (∀ j (h : j < A.length),j < k → (say A[j]).ok = true):=hoks
  clear hR hkeys hoks
  have hszr:=hnx.size
  have hbw : Below w.heap.size w wr:=hb1.trans (hnx.mono (by omega))
  have hwr:=hw.below hbw
  by_cases hlt : k < A.length
  ·have hck:=(hnx.cell (p:=⟨w.heap.size,k,none⟩) (by simp)).trans (hcell1 k hlt)
   have hAs : A[k].size ≤ 1048576:=by have:=hsz A[k] (List.getElem_mem hlt); omega
   have HBAD : Hid ((say A[k]).ok = false → zbs A 0 = (1,(k : Int) + 1)):=fun h => HR.out.trans (zeh A k hlt h)
   have HON : Hid ((say A[k]).ok = true → zbs A 0 = zbs A (k + 1)):=fun h => HR.out.trans (zeg A k hlt h)
   have HOK1 : Hid ((say A[k]).ok = true → ∀ j (h : j < A.length),j < k + 1 → (say A[j]).ok = true):=fun h j hj hjk => by
    by_cases e : j = k
    ·subst e; exact h
    ·exact HOK.out j hj (by omega)
   cases hv : zar A[k] 0 with
   | false =>
    have HB:=HBAD.out (zdT _ hv)
    have HB2 : Hid (zbs A 0 = (1,(k : Int) + 1)):=HB
    clear HB
    go_wp2_with (go_at_call 98; refine (zlv A[k] _ wr hwr hAs hv).mono ?_; rintro e w2 ⟨rfl,hb2⟩)
    exact ⟨rfl,hbw.trans (hb2.mono hbw.size),.inl ⟨k,HB2.out,rfl⟩⟩
   | true =>
    cases hl : zs4 A[k] with
    | nil =>
     have hsay:=znb _ hv hl
     have HN : Hid (zbs A 0 = zbs A (k + 1) ∧ za8 A (k + 1) = za8 A k ∧ ∀ j (h : j < A.length),j < k + 1 → (say A[j]).ok = true) :=
      ⟨HON.out (by rw [hsay]),zfU A k hlt (by rw [hsay]),HOK1.out (by rw [hsay])⟩
     have HL : Hid (zs4 A[k] = []):=hl
     clear hsay hl
     go_wp2_with (go_at_call 98; refine (zjx A[k] _ wr hwr hAs hv HL).mono ?_; rintro e w2 ⟨ao,cap,rfl,hb2⟩)
     have hown2:=zaS hown hb2 (Nat.le_refl _)
     have hb12:=hnx.trans (hb2.mono (by omega))
     clear hb2
     go_roundw
     case rel => exact ⟨k + 1,its,by omega,by omega,by go_num,hown2,by rw [HN.out.2.1]; exact HK.out,hb12,HN.out.1,HN.out.2.2⟩
     case measure => simp [intOf]; omega
    | cons x r =>
     have hws:=zf5 A[k]
     have hwl:=zmH A[k]
     rw [hl] at hws hwl
     have hws2 : ∀ y ∈ (x :: r : List ByteArray),1 ≤ y.size ∧ y.size ≤ 1048576:=fun y hy => by have:=hws y hy; omega
     have hrn : r.length ≤ 1048576:=by simp at hwl; omega
     have hsay:=zfV _ hv
     rw [hl] at hsay
     have hkd:=znc x r
     have HADD : Hid (za8 A (k + 1) = za8 A k ++ [keyQ (say A[k]) ((k : Int) + 1)]):=zgG A k hlt (by rw [hsay]; exact hkd)
     rw [hsay] at HBAD HON HOK1 HADD
     have HL : Hid (zs4 A[k] = x :: r):=hl
     generalize hq : sayW (x :: r) = q at HBAD HON HOK1 HADD
     have HQ : Hid (sayW (x :: r) = q):=hq
     clear hq hsay hkd hl hws hwl
     cases hok : q.ok with
     | false =>
      have HB2 : Hid (zbs A 0 = (1,(k : Int) + 1)):=HBAD.out hok
      go_wp2_with (first
       | (go_at_call 98; refine (zfW A[k] _ wr hwr hAs hv _ HL (by simp)).mono ?_; rintro e w2 ⟨g,cap,rfl,hg,hwi,hb2⟩; have hw2:=hwr.below hb2)
       | (go_at_call 99; refine (zhT w2 hw2 g cap x r _ hwi hws2 hrn q HQ hok).mono ?_; rintro e w3 ⟨rfl,hb3⟩))
      exact ⟨rfl,(hbw.trans (hb2.mono hbw.size)).trans (hb3.mono (by have:=hbw.size; have:=hb2.size; omega)),.inl ⟨k,HB2.out,rfl⟩⟩
     | true =>
      have HN : Hid (zbs A 0 = zbs A (k + 1) ∧ ∀ j (h : j < A.length),j < k + 1 → (say A[j]).ok = true):=⟨HON.out hok,HOK1.out hok⟩
      go_wp2_with (first
       | (go_at_call 98; refine (zfW A[k] _ wr hwr hAs hv _ HL (by simp)).mono ?_; rintro e w2 ⟨g,cap,rfl,hg,hwi,hb2⟩; have hw2:=hwr.below hb2; have hown2:=zaS hown hb2 (Nat.le_refl _); have hs2:=hb2.size)
       | (go_at_call 99; refine (znd w2 hw2 g cap x r _ hwi hws2 hrn q HQ hok).mono ?_; rintro e w3 ⟨rfl,hb3⟩; have hown3:=zaS hown2 hb3 (Nat.le_refl _); have hs3:=hb3.size)
       | (at_builtin; refine wpList_append_own _ rfl _ _ 116 rfl (w.heap.size + 1) 135 i0 (.agg #[.int .i64 0,.int .i64 0,.string ByteArray.empty,.int .i64 0,.int .i64 0,.int .i64 0,.int .i64 0,.string ByteArray.empty]) 8 80 Tryz.under116 hi hz0 hz1 hz2 rfl (by decide) _ _ _ rfl (hown3.alloc _) ⟨w3.heap.size,0,none⟩ 1 1 (It.cells ⟨zdR q,(k : Int) + 1,zdS q,zc0 q,(opQ q).a,(opQ q).b,(opQ q).c,(opQ q).n⟩) rfl rfl (zjw _ _ _ _ _ _ _ _ _ _) (zhS _) (by unfold maxLen; omega) (by omega) (by simp; omega) ?_))
      intro v' w4 hown4 hgrow _
      have hb4 : Below (w.heap.size + 1) W1 w4:=(((hnx.trans (hb2.mono (by omega))).trans (hb3.mono (by omega))).alloc (by omega) _).grown hgrow (by simp; omega) (fun j hj => (hown3.lt j hj).1)
      clear hgrow hown3 hown2 hwi hw2
      go_wp2
      go_roundw
      case rel => exact ⟨k + 1,its ++ [⟨zdR q,(k : Int) + 1,zdS q,zc0 q,(opQ q).a,(opQ q).b,(opQ q).c,(opQ q).n⟩],by omega,by simp; omega,by go_num,by rw [zeo]; simpa using hown4,by rw [List.map_append,HK.out,HADD.out]; rfl,hb4,HN.out.1,HN.out.2⟩
      case measure => simp [intOf]; omega
  ·have HE : Hid (zbs A 0 = zaV (A.map say) 0):=HR.out.trans (zfB A k hlt)
   have HKA : Hid (k = A.length):=by unfold Hid; omega
   go_wp2
   go_ret
   refine ⟨hbw,.inr ⟨HE.out,fun x hx => ?_,_,its,rfl,zbu hown (by omega),by rw [HK.out,HKA.out]⟩⟩
   obtain ⟨j,hj,rfl⟩:=List.mem_iff_getElem.1 hx
   exact HOK.out j hj (by have:=HKA.out; omega)
theorem zj0 (sort line : Int) (word : ByteArray) (a b c n : Int) (nm : ByteArray) (w : World) :
  Calls Tryz.prog 104 #[stm sort line word a b c n nm] w fun e w' => e = .returned (.bool (zaQ word)) ∧ Below w.heap.size w w':=by
 cases h : (word.toList == [99,97,108,108]) with
 | true =>
  have e : zaQ word = true:=h
  rw [e]
  have hw:=zax word _ h
  subst hw
  clear h e
  go_enter Tryz.func104,Tryz.ntmps104
  go_wp2
  go_ret
  exact ⟨rfl,(Below.refl _ _).alloc (Nat.le_refl _) _⟩
 | false =>
  have e : zaQ word = false:=h
  rw [e]
  clear e
  go_enter Tryz.func104,Tryz.ntmps104
  go_wp2
  go_ret
  exact ⟨rfl,(Below.refl _ _).alloc (Nat.le_refl _) _⟩
theorem zhZ (sort line : Int) (word : ByteArray) (a b c n : Int) (nm : ByteArray) (w : World) :
  Calls Tryz.prog 102 #[stm sort line word a b c n nm] w fun e w' => e = .returned (.bool (zaz word)) ∧ Below w.heap.size w w':=by
 have e : zaz word = (word.toList == [106,117,109,112] || word.toList == [108,101,115,115] || word.toList == [115,97,109,101]):=rfl
 rw [e]
 clear e
 cases h1 : (word.toList == [106,117,109,112]) with
 | true =>
  have hw:=zax word _ h1
  subst hw
  clear h1
  go_enter Tryz.func102,Tryz.ntmps102
  go_wp2
  go_ret
  exact ⟨rfl,(Below.refl _ _).alloc (Nat.le_refl _) _⟩
 | false =>
  cases h2 : (word.toList == [108,101,115,115]) with
  | true =>
   have hw:=zax word _ h2
   subst hw
   clear h1 h2
   go_enter Tryz.func102,Tryz.ntmps102
   go_wp2
   go_ret
   exact ⟨rfl,(Below.refl _ _).alloc (Nat.le_refl _) _⟩
  | false =>
   cases h3 : (word.toList == [115,97,109,101]) with
   | true =>
    have hw:=zax word _ h3
    subst hw
    clear h1 h2 h3
    go_enter Tryz.func102,Tryz.ntmps102
    go_wp2
    go_ret
    exact ⟨rfl,(Below.refl _ _).alloc (Nat.le_refl _) _⟩
   | false =>
    go_enter Tryz.func102,Tryz.ntmps102
    go_wp2
    go_ret
    exact ⟨rfl,(Below.refl _ _).alloc (Nat.le_refl _) _⟩
theorem zlz (sort line : Int) (word : ByteArray) (a b c n : Int) (nm : ByteArray) (w : World) :
  Calls Tryz.prog 132 #[stm sort line word a b c n nm] w fun e w' => e = .returned (.bool (ends word)) ∧ Below w.heap.size w w':=by
 have e : ends word = (word.toList == [106,117,109,112] || word.toList == [98,97,99,107] || word.toList == [115,116,111,112]):=rfl
 rw [e]
 clear e
 cases h1 : (word.toList == [106,117,109,112]) with
 | true =>
  have hw:=zax word _ h1
  subst hw
  clear h1
  go_enter Tryz.func132,Tryz.ntmps132
  go_wp2
  go_ret
  exact ⟨rfl,(Below.refl _ _).alloc (Nat.le_refl _) _⟩
 | false =>
  cases h2 : (word.toList == [98,97,99,107]) with
  | true =>
   have hw:=zax word _ h2
   subst hw
   clear h1 h2
   go_enter Tryz.func132,Tryz.ntmps132
   go_wp2
   go_ret
   exact ⟨rfl,(Below.refl _ _).alloc (Nat.le_refl _) _⟩
  | false =>
   cases h3 : (word.toList == [115,116,111,112]) with
   | true =>
    have hw:=zax word _ h3
    subst hw
    clear h1 h2 h3
    go_enter Tryz.func132,Tryz.ntmps132
    go_wp2
    go_ret
    exact ⟨rfl,(Below.refl _ _).alloc (Nat.le_refl _) _⟩
   | false =>
    go_enter Tryz.func132,Tryz.ntmps132
    go_wp2
    go_ret
    exact ⟨rfl,(Below.refl _ _).alloc (Nat.le_refl _) _⟩
theorem zj1 (l : List It) (k : Nat) (h : k < l.length) (j : Nat) (hj : j < 8) : (zam l)[k * 8 + j]? = l[k].cells[j]?:=by
 induction l generalizing k with
 | nil => simp at h
 | cons i l ih =>
  have e : zam (i :: l) = i.cells ++ zam l:=by simp [zam]
  rw [e]
  cases k with
  | zero =>
   rw [List.getElem?_append_left (by simp; omega)]
   simp
  | succ k =>
   rw [List.getElem?_append_right (by simp; omega)]
   have:=ih k (by simpa using h)
   simp only [List.getElem_cons_succ]
   rw [← this]
   congr 1
   simp; omega
theorem zeG {w : World} {B : Nat} {v : Value} {its : List It} (h : w.ownsRow B 135 8 v its.length (zam its)) (hp : 0 < its.length) :
  ∃ g cap,v = .slice (some ⟨g,0,none⟩) its.length cap ∧ B ≤ g ∧ g < w.heap.size ∧ ∀ k (hk : k < its.length),
   w.cell? ⟨g,k * 8,none⟩ = some (.int .i64 its[k].sort) ∧ w.cell? ⟨g,k * 8 + 1,none⟩ = some (.int .i64 its[k].line) ∧ w.cell? ⟨g,k * 8 + 2,none⟩ = some (.string its[k].word) ∧
   w.cell? ⟨g,k * 8 + 3,none⟩ = some (.int .i64 its[k].a) ∧ w.cell? ⟨g,k * 8 + 4,none⟩ = some (.int .i64 its[k].b) ∧ w.cell? ⟨g,k * 8 + 5,none⟩ = some (.int .i64 its[k].c) ∧
   w.cell? ⟨g,k * 8 + 6,none⟩ = some (.int .i64 its[k].n) ∧ w.cell? ⟨g,k * 8 + 7,none⟩ = some (.string its[k].nm):=by
 obtain ⟨g,cap,rfl,hb,hlt⟩:=h.form hp
 refine ⟨g,cap,rfl,hb,hlt,fun k hk => ?_⟩
 have H : ∀ j,j < 8 → w.cell? ⟨g,k * 8 + j,none⟩ = its[k].cells[j]?:=fun j hj => by
  rw [World.ownsRow.cellAt h (k * 8 + j) (by omega),zj1 its k hk j hj]
 exact ⟨H 0 (by omega),H 1 (by omega),H 2 (by omega),H 3 (by omega),H 4 (by omega),H 5 (by omega),H 6 (by omega),H 7 (by omega)⟩
theorem zj2 (w : World) (B : Nat) (v : Value) (h : w.ownsRow B 135 8 v 0 (zam [])) :
  Calls Tryz.prog 67 #[v] w fun e w' => e = zap 2 0 ∧ w' = w:=by
 have hv : ∃ ao cap,v = .slice ao 0 cap:=by
  rcases h.2 with ⟨hv,_⟩ | ⟨g,cap,cur,hv,_⟩
  ·exact ⟨none,0,hv⟩
  ·exact ⟨_,cap,hv⟩
 obtain ⟨ao,cap,rfl⟩:=hv
 go_enter Tryz.func67,Tryz.ntmps67
 go_wp2_with (go_at_call 79; refine (zaj _ _ _).mono ?_; rintro e wx ⟨rfl,hww⟩; subst hww)
 exact ⟨rfl,rfl,rfl⟩
theorem zl0 (w : World) (B : Nat) (v : Value) (i : It) (r : List It) (h : w.ownsRow B 135 8 v (i :: r).length (zam (i :: r))) (hn : r.length ≤ 4096) (hs : ¬ i.sort = 0) :
  Calls Tryz.prog 67 #[v] w fun e w' => e = zap 2 i.line ∧ w' = w:=by
 obtain ⟨g,cap,rfl,_,_,hc⟩:=zeG h (by simp)
 obtain ⟨h0,h1,_⟩:=hc 0 (by simp)
 simp only [List.getElem_cons_zero,Nat.zero_mul,Nat.zero_add] at h0 h1
 have hlen : (i :: r).length = r.length + 1:=by simp
 rw [hlen]
 have hs' : (i.sort == 0) = false:=by simpa using hs
 clear hc hlen h
 go_enter Tryz.func67,Tryz.ntmps67
 go_wp2_with (go_at_call 79; refine (zaj _ _ _).mono ?_; rintro e wx ⟨rfl,hww⟩; subst hww)
 all_goals exact ⟨rfl,rfl,rfl⟩
theorem zj3 (w : World) (B : Nat) (v : Value) (i : It) (r : List It) (h : w.ownsRow B 135 8 v (i :: r).length (zam (i :: r))) (hn : r.length ≤ 4096) (hs : i.sort = 0) :
  Calls Tryz.prog 67 #[v] w fun e w' => e = .returned (.tuple #[]) ∧ w' = w:=by
 obtain ⟨g,cap,rfl,_,_,hc⟩:=zeG h (by simp)
 obtain ⟨h0,h1,_⟩:=hc 0 (by simp)
 simp only [List.getElem_cons_zero,Nat.zero_mul,Nat.zero_add] at h0 h1
 have hlen : (i :: r).length = r.length + 1:=by simp
 rw [hlen]
 rw [hs] at h0
 clear hc hlen h
 go_enter Tryz.func67,Tryz.ntmps67
 go_wp2
 go_end0
 exact ⟨rfl,rfl⟩
end Go.Proofs.YtfpgjkbjbbgciaaGreatDoor
