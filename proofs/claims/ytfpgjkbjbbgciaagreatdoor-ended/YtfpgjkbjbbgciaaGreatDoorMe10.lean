import Derived.Test.YtfpgjkbjbbgciaaGreatDoorMe09
set_option maxRecDepth 100000
set_option maxHeartbeats 8000000
namespace Go.Proofs.YtfpgjkbjbbgciaaGreatDoor
open Go.RowKit Sp
theorem znd (s : ByteArray) (w : World) (hw : LibW w) (h4 : s.size ≤ 4000) (h3 : (lines s).length ≤ 300) :
  Calls Tryz.prog 66 #[.string s] w (zvb w (lines s)):=by
 obtain ⟨i0,hi,hz0,hz1,hz2⟩:=info_parts Tryz.info135
 obtain ⟨mm,hmm⟩:=hw.most
 have hcall:=Tryz.strings_Split s ⟨#[10]⟩ mm w (by omega) hmm (by decide)
 rw [zhc,(zeK s).2] at hcall
 have hsz:=zeF s
 have hlow:=hw.low
 generalize lines s = A at h3 hsz hcall ⊢
 have hw1 : LibW (w.alloc (.cells (A.map Value.string).toArray 9)):=hw.below ((Below.refl _ _).alloc (Nat.le_refl _) _)
 have hcell1 : ∀ k (h : k < A.length),(w.alloc (.cells (A.map Value.string).toArray 9)).cell? ⟨w.heap.size,k,none⟩ = some (.string A[k]):=by
  intro k h
  rw [World.cell?_alloc_new]
  simp [h]
 have hb1 : Below w.heap.size w (w.alloc (.cells (A.map Value.string).toArray 9)):=(Below.refl _ _).alloc (Nat.le_refl _) _
 have hz1w : (w.alloc (.cells (A.map Value.string).toArray 9)).heap.size = w.heap.size + 1:=by simp
 go_enter Tryz.func66,Tryz.ntmps66
 go_wp2_with (go_at_call 97; refine hcall.mono ?_; rintro e wx ⟨rfl,hww⟩; subst hww)
 clear hcall
 generalize w.alloc (.cells (A.map Value.string).toArray 9) = W1 at hw1 hcell1 hb1 hz1w
 go_loopw [3,10] (fun v ti wr => ∃ (k : Nat) (its : List It),k ≤ A.length ∧ its.length ≤ k ∧ ti = .int .i64 (k : Int) ∧ wr.ownsRow (w.heap.size + 1) 135 8 v its.length (zax its) ∧ its.map It.key = zaT A k ∧ Below (w.heap.size + 1) W1 wr ∧ zbM A 0 = zbM A k ∧ (∀ j (h : j < A.length),j < k → (say A[j]).ok = true)) (fun _ ti _ => A.length - (intOf ti).toNat)
 case atStart => exact ⟨0,[],by omega,by simp,rfl,World.ownsRow_nil _ _ _ _,rfl,Below.refl _ _,rfl,fun j _ h => by omega⟩
 case round =>
  obtain ⟨k,its,hk,hits,rfl,hown,hkeys,hnx,hR,hoks⟩:=hrel
  have HR : Hid (zbM A 0 = zbM A k):=hR
  have HK : Hid (its.map It.key = zaT A k):=hkeys
  have HOK : Hid (∀ j (h : j < A.length),j < k → (say A[j]).ok = true):=hoks
  clear hR hkeys hoks
  have hszr:=hnx.size
  have hbw : Below w.heap.size w wr:=hb1.trans (hnx.mono (by omega))
  have hwr:=hw.below hbw
  by_cases hlt : k < A.length
  ·have hck:=(hnx.cell (p:=⟨w.heap.size,k,none⟩) (by simp)).trans (hcell1 k hlt)
   have hAs : A[k].size ≤ 1048576:=by have:=hsz A[k] (List.getElem_mem hlt); omega
   have HBAD : Hid ((say A[k]).ok = false → zbM A 0 = (1,(k : Int) + 1)):=fun h => HR.out.trans (zdO A k hlt h)
   have HON : Hid ((say A[k]).ok = true → zbM A 0 = zbM A (k + 1)):=fun h => HR.out.trans (zep A k hlt h)
   have HOK1 : Hid ((say A[k]).ok = true → ∀ j (h : j < A.length),j < k + 1 → (say A[j]).ok = true):=fun h j hj hjk => by
    by_cases e : j = k
    ·subst e; exact h
    ·exact HOK.out j hj (by omega)
   cases hv : za3 A[k] 0 with
   | false =>
    have HB:=HBAD.out (zeL _ hv)
    have HB2 : Hid (zbM A 0 = (1,(k : Int) + 1)):=HB
    clear HB
    go_wp2_with (go_at_call 98; refine (zok A[k] _ wr hwr hAs hv).mono ?_; rintro e w2 ⟨rfl,hb2⟩)
    exact ⟨rfl,hbw.trans (hb2.mono hbw.size),.inl ⟨k,HB2.out,rfl⟩⟩
   | true =>
    cases hl : words A[k] with
    | nil =>
     have hsay:=zqx _ hv hl
     have HN : Hid (zbM A 0 = zbM A (k + 1) ∧ zaT A (k + 1) = zaT A k ∧ ∀ j (h : j < A.length),j < k + 1 → (say A[j]).ok = true) :=
      ⟨HON.out (by rw [hsay]),zhd A k hlt (by rw [hsay]),HOK1.out (by rw [hsay])⟩
     have HL : Hid (words A[k] = []):=hl
     clear hsay hl
     go_wp2_with (go_at_call 98; refine (zlC A[k] _ wr hwr hAs hv HL).mono ?_; rintro e w2 ⟨ao,cap,rfl,hb2⟩)
     have hown2:=zbx hown hb2 (Nat.le_refl _)
     have hb12:=hnx.trans (hb2.mono (by omega))
     clear hb2
     go_roundw
     case rel => exact ⟨k + 1,its,by omega,by omega,by go_num,hown2,by rw [HN.out.2.1]; exact HK.out,hb12,HN.out.1,HN.out.2.2⟩
     case measure => simp [intOf]; omega
    | cons x r =>
     have hws:=zgP A[k]
     have hwl:=zqb A[k]
     rw [hl] at hws hwl
     have hws2 : ∀ y ∈ (x :: r : List ByteArray),1 ≤ y.size ∧ y.size ≤ 1048576:=fun y hy => by have:=hws y hy; omega
     have hrn : r.length ≤ 1048576:=by simp at hwl; omega
     have hsay:=zhe _ hv
     rw [hl] at hsay
     have hkd:=zqy x r
     have HADD : Hid (zaT A (k + 1) = zaT A k ++ [keyQ (say A[k]) ((k : Int) + 1)]):=zix A k hlt (by rw [hsay]; exact hkd)
     rw [hsay] at HBAD HON HOK1 HADD
     have HL : Hid (words A[k] = x :: r):=hl
     generalize hq : sayW (x :: r) = q at HBAD HON HOK1 HADD
     have HQ : Hid (sayW (x :: r) = q):=hq
     clear hq hsay hkd hl hws hwl
     cases hok : q.ok with
     | false =>
      have HB2 : Hid (zbM A 0 = (1,(k : Int) + 1)):=HBAD.out hok
      go_wp2_with (first
       | (go_at_call 98; refine (zhf A[k] _ wr hwr hAs hv _ HL (by simp)).mono ?_; rintro e w2 ⟨g,cap,rfl,hg,hwi,hb2⟩; have hw2:=hwr.below hb2)
       | (go_at_call 99; refine (zjW w2 hw2 g cap x r _ hwi hws2 hrn q HQ hok).mono ?_; rintro e w3 ⟨rfl,hb3⟩))
      exact ⟨rfl,(hbw.trans (hb2.mono hbw.size)).trans (hb3.mono (by have:=hbw.size; have:=hb2.size; omega)),.inl ⟨k,HB2.out,rfl⟩⟩
     | true =>
      have HN : Hid (zbM A 0 = zbM A (k + 1) ∧ ∀ j (h : j < A.length),j < k + 1 → (say A[j]).ok = true):=⟨HON.out hok,HOK1.out hok⟩
      go_wp2_with (first
       | (go_at_call 98; refine (zhf A[k] _ wr hwr hAs hv _ HL (by simp)).mono ?_; rintro e w2 ⟨g,cap,rfl,hg,hwi,hb2⟩; have hw2:=hwr.below hb2; have hown2:=zbx hown hb2 (Nat.le_refl _); have hs2:=hb2.size)
       | (go_at_call 99; refine (zqz w2 hw2 g cap x r _ hwi hws2 hrn q HQ hok).mono ?_; rintro e w3 ⟨rfl,hb3⟩; have hown3:=zbx hown2 hb3 (Nat.le_refl _); have hs3:=hb3.size)
       | (at_builtin; refine wpList_append_own _ rfl _ _ 116 rfl (w.heap.size + 1) 135 i0 (.agg #[.int .i64 0,.int .i64 0,.string ByteArray.empty,.int .i64 0,.int .i64 0,.int .i64 0,.int .i64 0,.string ByteArray.empty]) 8 80 Tryz.under116 hi hz0 hz1 hz2 rfl (by decide) _ _ _ rfl (hown3.alloc _) ⟨w3.heap.size,0,none⟩ 1 1 (It.cells ⟨zeJ q,(k : Int) + 1,zdP q,zdi q,(opQ q).a,(opQ q).b,(opQ q).c,(opQ q).n⟩) rfl rfl (zlB _ _ _ _ _ _ _ _ _ _) (zjV _) (by unfold maxLen; omega) (by omega) (by simp; omega) ?_))
      intro v' w4 hown4 hgrow _
      have hb4 : Below (w.heap.size + 1) W1 w4:=(((hnx.trans (hb2.mono (by omega))).trans (hb3.mono (by omega))).alloc (by omega) _).grown hgrow (by simp; omega) (fun j hj => (hown3.lt j hj).1)
      clear hgrow hown3 hown2 hwi hw2
      go_wp2
      go_roundw
      case rel => exact ⟨k + 1,its ++ [⟨zeJ q,(k : Int) + 1,zdP q,zdi q,(opQ q).a,(opQ q).b,(opQ q).c,(opQ q).n⟩],by omega,by simp; omega,by go_num,by rw [zfn]; simpa using hown4,by rw [List.map_append,HK.out,HADD.out]; rfl,hb4,HN.out.1,HN.out.2⟩
      case measure => simp [intOf]; omega
  ·have HE : Hid (zbM A 0 = zbq (A.map say) 0):=HR.out.trans (zfi A k hlt)
   have HKA : Hid (k = A.length):=by unfold Hid; omega
   go_wp2
   go_ret
   refine ⟨hbw,.inr ⟨HE.out,fun x hx => ?_,_,its,rfl,zb5 hown (by omega),by rw [HK.out,HKA.out]⟩⟩
   obtain ⟨j,hj,rfl⟩:=List.mem_iff_getElem.1 hx
   exact HOK.out j hj (by have:=HKA.out; omega)
theorem zlF (sort line : Int) (word : ByteArray) (a b c n : Int) (nm : ByteArray) (w : World) :
  Calls Tryz.prog 104 #[stm sort line word a b c n nm] w fun e w' => e = .returned (.bool (zcl word)) ∧ Below w.heap.size w w':=by
 cases h : (word.toList == [99,97,108,108]) with
 | true =>
  have e : zcl word = true:=h
  rw [e]
  have hw:=zaD word _ h
  subst hw
  clear h e
  go_enter Tryz.func104,Tryz.ntmps104
  go_wp2
  go_ret
  exact ⟨rfl,(Below.refl _ _).alloc (Nat.le_refl _) _⟩
 | false =>
  have e : zcl word = false:=h
  rw [e]
  clear e
  go_enter Tryz.func104,Tryz.ntmps104
  go_wp2
  go_ret
  exact ⟨rfl,(Below.refl _ _).alloc (Nat.le_refl _) _⟩
theorem zkc (sort line : Int) (word : ByteArray) (a b c n : Int) (nm : ByteArray) (w : World) :
  Calls Tryz.prog 102 #[stm sort line word a b c n nm] w fun e w' => e = .returned (.bool (zbp word)) ∧ Below w.heap.size w w':=by
 have e : zbp word = (word.toList == [106,117,109,112] || word.toList == [108,101,115,115] || word.toList == [115,97,109,101]):=rfl
 rw [e]
 clear e
 cases h1 : (word.toList == [106,117,109,112]) with
 | true =>
  have hw:=zaD word _ h1
  subst hw
  clear h1
  go_enter Tryz.func102,Tryz.ntmps102
  go_wp2
  go_ret
  exact ⟨rfl,(Below.refl _ _).alloc (Nat.le_refl _) _⟩
 | false =>
  cases h2 : (word.toList == [108,101,115,115]) with
  | true =>
   have hw:=zaD word _ h2
   subst hw
   clear h1 h2
   go_enter Tryz.func102,Tryz.ntmps102
   go_wp2
   go_ret
   exact ⟨rfl,(Below.refl _ _).alloc (Nat.le_refl _) _⟩
  | false =>
   cases h3 : (word.toList == [115,97,109,101]) with
   | true =>
    have hw:=zaD word _ h3
    subst hw
    clear h1 h2 h3
    go_enter Tryz.func102,Tryz.ntmps102
    go_wp2
    go_ret
    exact ⟨rfl,(Below.refl _ _).alloc (Nat.le_refl _) _⟩
   | false =>
    go_enter Tryz.func102,Tryz.ntmps102
    go_wp2
    go_ret
    exact ⟨rfl,(Below.refl _ _).alloc (Nat.le_refl _) _⟩
theorem zoo (sort line : Int) (word : ByteArray) (a b c n : Int) (nm : ByteArray) (w : World) :
  Calls Tryz.prog 132 #[stm sort line word a b c n nm] w fun e w' => e = .returned (.bool (ends word)) ∧ Below w.heap.size w w':=by
 have e : ends word = (word.toList == [106,117,109,112] || word.toList == [98,97,99,107] || word.toList == [115,116,111,112]):=rfl
 rw [e]
 clear e
 cases h1 : (word.toList == [106,117,109,112]) with
 | true =>
  have hw:=zaD word _ h1
  subst hw
  clear h1
  go_enter Tryz.func132,Tryz.ntmps132
  go_wp2
  go_ret
  exact ⟨rfl,(Below.refl _ _).alloc (Nat.le_refl _) _⟩
 | false =>
  cases h2 : (word.toList == [98,97,99,107]) with
  | true =>
   have hw:=zaD word _ h2
   subst hw
   clear h1 h2
   go_enter Tryz.func132,Tryz.ntmps132
   go_wp2
   go_ret
   exact ⟨rfl,(Below.refl _ _).alloc (Nat.le_refl _) _⟩
  | false =>
   cases h3 : (word.toList == [115,116,111,112]) with
   | true =>
    have hw:=zaD word _ h3
    subst hw
    clear h1 h2 h3
    go_enter Tryz.func132,Tryz.ntmps132
    go_wp2
    go_ret
    exact ⟨rfl,(Below.refl _ _).alloc (Nat.le_refl _) _⟩
   | false =>
    go_enter Tryz.func132,Tryz.ntmps132
    go_wp2
    go_ret
    exact ⟨rfl,(Below.refl _ _).alloc (Nat.le_refl _) _⟩
theorem zlG (l : List It) (k : Nat) (h : k < l.length) (j : Nat) (hj : j < 8) : (zax l)[k * 8 + j]? = l[k].cells[j]?:=by
 induction l generalizing k with
 | nil => simp at h
 | cons i l ih =>
  have e : zax (i :: l) = i.cells ++ zax l:=by simp [zax]
  rw [e]
  cases k with
  | zero =>
   rw [List.getElem?_append_left (by simp; omega)]
   simp
  | succ k =>
   rw [List.getElem?_append_right (by simp; omega)]
   have:=ih k (by simpa using h)
   simp only [List.getElem_cons_succ]
   rw [← this]
   congr 1
   simp; omega
theorem zfM {w : World} {B : Nat} {v : Value} {its : List It} (h : w.ownsRow B 135 8 v its.length (zax its)) (hp : 0 < its.length) :
  ∃ g cap,v = .slice (some ⟨g,0,none⟩) its.length cap ∧ B ≤ g ∧ g < w.heap.size ∧ ∀ k (hk : k < its.length),
   w.cell? ⟨g,k * 8,none⟩ = some (.int .i64 its[k].sort) ∧ w.cell? ⟨g,k * 8 + 1,none⟩ = some (.int .i64 its[k].line) ∧ w.cell? ⟨g,k * 8 + 2,none⟩ = some (.string its[k].word) ∧
   w.cell? ⟨g,k * 8 + 3,none⟩ = some (.int .i64 its[k].a) ∧ w.cell? ⟨g,k * 8 + 4,none⟩ = some (.int .i64 its[k].b) ∧ w.cell? ⟨g,k * 8 + 5,none⟩ = some (.int .i64 its[k].c) ∧
   w.cell? ⟨g,k * 8 + 6,none⟩ = some (.int .i64 its[k].n) ∧ w.cell? ⟨g,k * 8 + 7,none⟩ = some (.string its[k].nm):=by
 obtain ⟨g,cap,rfl,hb,hlt⟩:=h.form hp
 refine ⟨g,cap,rfl,hb,hlt,fun k hk => ?_⟩
 have H : ∀ j,j < 8 → w.cell? ⟨g,k * 8 + j,none⟩ = its[k].cells[j]?:=fun j hj => by
  rw [World.ownsRow.cellAt h (k * 8 + j) (by omega),zlG its k hk j hj]
 exact ⟨H 0 (by omega),H 1 (by omega),H 2 (by omega),H 3 (by omega),H 4 (by omega),H 5 (by omega),H 6 (by omega),H 7 (by omega)⟩
theorem zlH (w : World) (B : Nat) (v : Value) (h : w.ownsRow B 135 8 v 0 (zax [])) :
  Calls Tryz.prog 67 #[v] w fun e w' => e = zah 2 0 ∧ w' = w:=by
 have hv : ∃ ao cap,v = .slice ao 0 cap:=by
  rcases h.2 with ⟨hv,_⟩ | ⟨g,cap,cur,hv,_⟩
  ·exact ⟨none,0,hv⟩
  ·exact ⟨_,cap,hv⟩
 obtain ⟨ao,cap,rfl⟩:=hv
 go_enter Tryz.func67,Tryz.ntmps67
 go_wp2_with (go_at_call 79; refine (zat _ _ _).mono ?_; rintro e wx ⟨rfl,hww⟩; subst hww)
 exact ⟨rfl,rfl,rfl⟩
theorem zop (w : World) (B : Nat) (v : Value) (i : It) (r : List It) (h : w.ownsRow B 135 8 v (i :: r).length (zax (i :: r))) (hn : r.length ≤ 4096) (hs : ¬ i.sort = 0) :
  Calls Tryz.prog 67 #[v] w fun e w' => e = zah 2 i.line ∧ w' = w:=by
 obtain ⟨g,cap,rfl,_,_,hc⟩:=zfM h (by simp)
 obtain ⟨h0,h1,_⟩:=hc 0 (by simp)
 simp only [List.getElem_cons_zero,Nat.zero_mul,Nat.zero_add] at h0 h1
 have hlen : (i :: r).length = r.length + 1:=by simp
 rw [hlen]
 have hs' : (i.sort == 0) = false:=by simpa using hs
 clear hc hlen h
 go_enter Tryz.func67,Tryz.ntmps67
 go_wp2_with (go_at_call 79; refine (zat _ _ _).mono ?_; rintro e wx ⟨rfl,hww⟩; subst hww)
 all_goals exact ⟨rfl,rfl,rfl⟩
theorem zlI (w : World) (B : Nat) (v : Value) (i : It) (r : List It) (h : w.ownsRow B 135 8 v (i :: r).length (zax (i :: r))) (hn : r.length ≤ 4096) (hs : i.sort = 0) :
  Calls Tryz.prog 67 #[v] w fun e w' => e = .returned (.tuple #[]) ∧ w' = w:=by
 obtain ⟨g,cap,rfl,_,_,hc⟩:=zfM h (by simp)
 obtain ⟨h0,h1,_⟩:=hc 0 (by simp)
 simp only [List.getElem_cons_zero,Nat.zero_mul,Nat.zero_add] at h0 h1
 have hlen : (i :: r).length = r.length + 1:=by simp
 rw [hlen]
 rw [hs] at h0
 clear hc hlen h
 go_enter Tryz.func67,Tryz.ntmps67
 go_wp2
 go_end0
 exact ⟨rfl,rfl⟩
def zbJ (s : ByteArray) (R : Int × Int) : Prop:=∀ w,LibW w → Calls Tryz.prog 44 #[.string s] w fun e w' =>
 Below w.heap.size w w' ∧ (R = (0,0) ∧ (∃ v,e = .returned v) ∨ ¬ R = (0,0) ∧ e = zah R.1 R.2)
theorem zuU (s : ByteArray) (h : zbJ s (0,0)) (w : World) (hw : LibW w) (p : Addr) (hp : w.cell? p = some (.string s)) :
  Calls Tryz.prog 43 #[.pointer (some p)] w fun e w' => e = .returned (.tuple #[]) ∧ Below w.heap.size w w':=by
 have hc:=(h w hw).mono (R':=fun e w' => (∃ v,e = .returned v) ∧ Below w.heap.size w w') (by
  rintro e w' ⟨hb,⟨_,h⟩ | ⟨h,_⟩⟩
  ·exact ⟨h,hb⟩
  ·exact absurd rfl h)
 go_enter Tryz.func43,Tryz.ntmps43
 go_wp2_with (go_at_call 44; refine hc.mono ?_; rintro e w1 ⟨⟨v,rfl⟩,hb⟩)
 go_end0
 exact ⟨rfl,hb⟩
theorem zuV (s : ByteArray) (R : Int × Int) (hR : ¬ R = (0,0)) (h : zbJ s R) (w : World) (hw : LibW w) (p : Addr) (hp : w.cell? p = some (.string s)) :
  Calls Tryz.prog 43 #[.pointer (some p)] w fun e w' => e = zah R.1 R.2 ∧ Below w.heap.size w w':=by
 have hc:=(h w hw).mono (R':=fun e w' => e = zah R.1 R.2 ∧ Below w.heap.size w w') (by
  rintro e w' ⟨hb,⟨h,_⟩ | ⟨_,h⟩⟩
  ·exact absurd h hR
  ·exact ⟨h,hb⟩)
 go_enter Tryz.func43,Tryz.ntmps43
 go_wp2_with (go_at_call 44; refine hc.mono ?_; rintro e w1 ⟨rfl,hb⟩)
 exact ⟨rfl,rfl,hb⟩
theorem zoi (s : ByteArray) (h : zbJ s (0,0)) (w : World) (hw : LibW w) (p : Addr) (hp : w.cell? p = some (.string s)) :
  Calls Tryz.prog 42 #[.func (.func 43) #[] #[.pointer (some p)]] w fun e w' => e = .returned (.tuple #[.int .i64 0,.int .i64 0]) ∧ Below w.heap.size w w':=by
 have hmf : ∀ (fn : Go.Fn) (first cap : Array Value) (w : World),(Instr.makeFunc fn first cap).run Tryz.prog w = .ok (.func fn first cap) w:=fun _ _ _ _ => rfl
 have hplt:=World.block_lt_of_cell? w p hp
 have hw2 : LibW ((w.alloc (.cells #[.int .i64 0] 22)).alloc (.cells #[.int .i64 0] 3)):=hw.below (((Below.refl _ _).alloc (Nat.le_refl _) _).alloc (by simp) _)
 have hp2 : ((w.alloc (.cells #[.int .i64 0] 22)).alloc (.cells #[.int .i64 0] 3)).cell? p = some (.string s):=by
  rw [World.cell?_alloc_lt _ _ p (by simp; omega),World.cell?_alloc_lt _ _ p hplt]; exact hp
 have hcall:=zuU s h _ hw2 p hp2
 go_enter_defers Tryz.func42,Tryz.ntmps42
 go_wp2_with (go_at_call 43; refine hcall.mono ?_; rintro e w1 ⟨rfl,hb⟩; obtain ⟨hc,hf⟩:=zgS hb)
 have z0 : w1.cell? ⟨w.heap.size,0,none⟩ = some (.int .i64 0):=by rw [hc _ _ (by simp; omega)]; simp
 have z1 : w1.cell? ⟨w.heap.size + 1,0,none⟩ = some (.int .i64 0):=by rw [hc _ _ (by simp)]; simp
 have y0 : ((w1.setCell ⟨w.heap.size,0,none⟩ (.int .i64 0)).setCell ⟨w.heap.size + 1,0,none⟩ (.int .i64 0)).cell? ⟨w.heap.size,0,none⟩ = some (.int .i64 0):=by
  rw [World.cell?_setCell_other]
  ·exact World.cell?_setCell_same w1 _ _ z0
  ·simp
 have y1 : ((w1.setCell ⟨w.heap.size,0,none⟩ (.int .i64 0)).setCell ⟨w.heap.size + 1,0,none⟩ (.int .i64 0)).cell? ⟨w.heap.size + 1,0,none⟩ = some (.int .i64 0):=by
  refine World.cell?_setCell_same (u:=.int .i64 0) _ _ _ ?_
  rw [World.cell?_setCell_other]
  ·exact z1
  ·simp
 have hbw:=((zl4 _ _ _ hb).setCell (p:=⟨w.heap.size,0,none⟩) (Nat.le_refl _) (.int .i64 0)).setCell (p:=⟨w.heap.size + 1,0,none⟩) (Nat.le_succ _) (.int .i64 0)
 generalize (w1.setCell ⟨w.heap.size,0,none⟩ (.int .i64 0)).setCell ⟨w.heap.size + 1,0,none⟩ (.int .i64 0) = X at y0 y1 hbw ⊢
 refine leaves_cons (f:=64) (args:=#[.pointer (some ⟨w.heap.size,0,none⟩),.pointer (some ⟨w.heap.size + 1,0,none⟩)]) (by simp) (by simp [go_sem]) ?_
 refine (zit w.heap.size _).mono ?_
 rintro e u' w'' ⟨rfl,rfl,rfl⟩
 exact ⟨.tuple #[.int .i64 0,.int .i64 0],by simp [results,Tryz.results42,go_sem,y0,y1],rfl,hbw⟩
theorem zoj (s : ByteArray) (R : Int × Int) (hR : ¬ R = (0,0)) (h : zbJ s R) (w : World) (hw : LibW w) (p : Addr) (hp : w.cell? p = some (.string s)) :
  Calls Tryz.prog 42 #[.func (.func 43) #[] #[.pointer (some p)]] w fun e w' => e = .returned (.tuple #[.int .i64 R.1,.int .i64 R.2]) ∧ Below w.heap.size w w':=by
 have hmf : ∀ (fn : Go.Fn) (first cap : Array Value) (w : World),(Instr.makeFunc fn first cap).run Tryz.prog w = .ok (.func fn first cap) w:=fun _ _ _ _ => rfl
 have hplt:=World.block_lt_of_cell? w p hp
 have hw2 : LibW ((w.alloc (.cells #[.int .i64 0] 22)).alloc (.cells #[.int .i64 0] 3)):=hw.below (((Below.refl _ _).alloc (Nat.le_refl _) _).alloc (by simp) _)
 have hp2 : ((w.alloc (.cells #[.int .i64 0] 22)).alloc (.cells #[.int .i64 0] 3)).cell? p = some (.string s):=by
  rw [World.cell?_alloc_lt _ _ p (by simp; omega),World.cell?_alloc_lt _ _ p hplt]; exact hp
 have hcall:=zuV s R hR h _ hw2 p hp2
 go_enter_defers Tryz.func42,Tryz.ntmps42
 go_wp2_with (go_at_call 43; refine hcall.mono ?_; rintro e w1 ⟨rfl,hb⟩; obtain ⟨hc,hf⟩:=zgS hb)
 have z0 : w1.cell? ⟨w.heap.size,0,none⟩ = some (.int .i64 0):=by rw [hc _ _ (by simp; omega)]; simp
 have z1 : w1.cell? ⟨w.heap.size + 1,0,none⟩ = some (.int .i64 0):=by rw [hc _ _ (by simp)]; simp
 have f0 : w1.frozen? ⟨w.heap.size,0,none⟩ = false:=by rw [hf _ _ (by simp; omega)]; simp
 have f1 : w1.frozen? ⟨w.heap.size + 1,0,none⟩ = false:=by rw [hf _ _ (by simp)]; simp
 refine leaves_cons (f:=64) (args:=#[.pointer (some ⟨w.heap.size,0,none⟩),.pointer (some ⟨w.heap.size + 1,0,none⟩)]) (by simp) (by simp [go_sem]) ?_
 refine (zfj w.heap.size 0 0 R.1 R.2 _ z0 z1 f0 f1).mono ?_
 rintro e u' w'' ⟨rfl,rfl,hb2,y0,y1⟩
 exact ⟨.tuple #[.int .i64 R.1,.int .i64 R.2],by simp [results,Tryz.results42,go_sem,y0,y1],rfl,(zl4 _ _ _ hb).trans hb2⟩
theorem zl8 (s : ByteArray) (R : Int × Int) (h : zbJ s R) (w : World) (hw : LibW w) (p : Addr) (hp : w.cell? p = some (.string s)) :
  Calls Tryz.prog 42 #[.func (.func 43) #[] #[.pointer (some p)]] w fun e w' => e = .returned (.tuple #[.int .i64 R.1,.int .i64 R.2]) ∧ Below w.heap.size w w':=by
 by_cases hR : R = (0,0)
 ·subst hR; exact zoi s h w hw p hp
 ·exact zoj s R hR h w hw p hp
theorem zqu (s : ByteArray) (R : Int × Int) (h : zbJ s R) (w : World) (hw : LibW w) :
  Calls Tryz.prog 15 #[.string s] w fun e w' => e = .returned (.tuple #[.int .i64 R.1,.int .i64 R.2]) ∧ Below w.heap.size w w':=by
 have hmf : ∀ (fn : Go.Fn) (first cap : Array Value) (w : World),(Instr.makeFunc fn first cap).run Tryz.prog w = .ok (.func fn first cap) w:=fun _ _ _ _ => rfl
 have hw2 : LibW (w.alloc (.cells #[.string s] 9)):=hw.below ((Below.refl _ _).alloc (Nat.le_refl _) _)
 have hcall:=zl8 s R h (w.alloc (.cells #[.string s] 9)) hw2 ⟨w.heap.size,0,none⟩ (by simp)
 go_enter Tryz.func15,Tryz.ntmps15
 go_wp2_with (go_at_call 42; refine hcall.mono ?_; rintro e w1 ⟨rfl,hb⟩)
 go_ret2
 exact ⟨rfl,((Below.refl _ _).alloc (Nat.le_refl _) _).trans (hb.mono (by simp))⟩
end Go.Proofs.YtfpgjkbjbbgciaaGreatDoor
namespace Go.Proofs.YtfpgjkbjbbgciaaGreatDoor
open Sp
def zcS (names labs : List ByteArray) (k : Key) : Bool :=
 (zbp k.word && !labs.any (fun y => eqW y k.nm)) || (zcl k.word && !names.any (fun y => eqW y k.nm))
def zaH (names labs : List ByteArray) (b : List Key) : Option Int:=(b.find? (zcS names labs)).map Key.line
def zcy (names : List ByteArray) : List Fn → Option Int
 | [] => none
 | f :: r => match zaH names (zbK f.body) f.body with | some l => some l | none => zcy names r
def endK : List Fn → Option Int
 | [] => none
 | f :: r => if zon f.body = true then endK r else some f.line
def zaQ : List Fn → List Key → Option Int
 | _,[] => none
 | F,k :: r => if bad0 F k = true then some k.line else zaQ (addK F k) r
def zdJ (e : Int) (o : Option Int) (c : Int × Int) : Int × Int:=match o with | some l => (e,l) | none => c
theorem zve (L : List Said) (hw : WfAll L) (i : Nat) (c : Int × Int) : pass L 2 i c = zdJ 5 (endK (zaN L i)) c:=by
 by_cases h : i < L.length
 ·have hb : badB L 2 i = (if L[i].kind = 102 then !zfE L (i + 1) false else false):=by
   simp [badB,zd4,List.getElem?_eq_getElem h]
  by_cases h1 : L[i].kind = 102
  ·rw [if_pos h1,zq2 L hw (i + 1) false] at hb
   change badB L 2 i = !zon (zal L (i + 1)) at hb
   rw [zbO L i h h1]
   cases he : zon (zal L (i + 1)) with
   | true =>
    rw [zci L 2 i c h (by rw [hb,he]; rfl),zve L hw (i + 1) c]
    simp [endK,he]
   | false =>
    rw [zeo L 2 i c h (by rw [hb,he]; rfl)]
    simp [endK,he,zdJ]
  ·rw [if_neg h1] at hb
   rw [zci L 2 i c h hb,zbG L i h h1]
   exact zve L hw (i + 1) c
 ·rw [zen L 2 i c h,zc3 L i h]; rfl
termination_by L.length - i
def NmOk (L : List Said) : Prop:=∀ q ∈ L,q.kind = 105 → (zbp (q.word 0) = true ∨ zcl (q.word 0) = true) → zdi q = q.last
theorem zhh (x : ByteArray) (h : zbp x = true) : zcl x = false:=by
 unfold zbp isW at h
 unfold zcl isW
 simp only [Bool.or_eq_true,beq_iff_eq] at h
 rcases h with (h | h) | h <;> rw [h] <;> decide
theorem zkb : zbp ⟨#[]⟩ = false:=by simp [zbp,isW,ByteArray.toList_eq]
theorem zlE : zcl ⟨#[]⟩ = false:=by simp [zcl,isW,ByteArray.toList_eq]
theorem zvf (L : List Said) (_hw : WfAll L) (hn : NmOk L) (names labs : List ByteArray) (i o : Nat) (h : i < L.length) (ho : zfe L i = (o : Int))
  (hN : ∀ x,names.any (fun y => eqW y x) = decide (0 ≤ zca L x 0)) (hL : ∀ x,labs.any (fun y => eqW y x) = decide (0 ≤ zbo L x (o + 1))) :
  badB L 1 i = zcS names labs (keyQ L[i] ((i : Int) + 1)):=by
 have e : badB L 1 i = zcq L i:=by simp [badB]
 rw [e]
 unfold zcq
 rw [List.getElem?_eq_getElem h]
 dsimp only
 by_cases h5 : L[i].kind = 105
 ·rw [if_pos h5]
  have hlab : zjf L i L[i].last = zbo L L[i].last (o + 1):=by
   unfold zjf
   rw [ho]
   congr 1
  have ew : zdP L[i] = L[i].word 0:=by simp [zdP,h5]
  unfold zcS keyQ
  dsimp only
  rw [ew,hlab,hN,hL]
  by_cases h1 : zbp (L[i].word 0) = true
  ·rw [if_pos h1,hn _ (List.getElem_mem h) h5 (.inl h1),h1,zhh _ h1]
   simp [← Int.not_le]
  ·rw [if_neg h1]
   by_cases h2 : zcl (L[i].word 0) = true
   ·rw [if_pos h2,hn _ (List.getElem_mem h) h5 (.inr h2),h2]
    simp [h1,← Int.not_le]
   ·rw [if_neg h2]
    simp [h1,h2]
 ·rw [if_neg h5]
  have ew : zdP L[i] = ⟨#[]⟩:=by simp [zdP,h5]
  unfold zcS keyQ
  dsimp only
  rw [ew,zkb,zlE]
  rfl
theorem zdS (names labs : List ByteArray) (k : Key) (b : List Key) : zaH names labs (k :: b) = if zcS names labs k = true then some k.line else zaH names labs b:=by
 unfold zaH
 rw [List.find?_cons]
 cases zcS names labs k <;> rfl
theorem ztc (L : List Said) (hw : WfAll L) (hn : NmOk L) (names : List ByteArray) (hN : ∀ x,names.any (fun y => eqW y x) = decide (0 ≤ zca L x 0)) (c : Int × Int) (i o : Nat) (ho : zfe L i = (o : Int)) (labs : List ByteArray)
  (hL : ∀ x,labs.any (fun y => eqW y x) = decide (0 ≤ zbo L x (o + 1))) :
  pass L 1 (i + 1) c = zdJ 4 (match zaH names labs (zal L (i + 1)) with | some l => some l | none => zcy names (zaN L (i + 1))) c:=by
 by_cases h : i + 1 < L.length
 ·by_cases h1 : L[i + 1].kind = 102
  ·have ho':=zg5 L (i + 1) h h1
   have hb : badB L 1 (i + 1) = false:=by simp [badB,zcq,List.getElem?_eq_getElem h,h1]
   rw [zci L 1 (i + 1) c h hb,zc2 L (i + 1) h h1,zbO L (i + 1) h h1,ztc L hw hn names hN c (i + 1) (i + 1) ho' (zbK (zal L (i + 1 + 1))) (fun x => zfq L (i + 1 + 1) x)]
   rfl
  ·have ho' : zfe L (i + 1) = (o : Int):=(zem L i h h1).trans ho
   have hb:=zvf L hw hn names labs (i + 1) o h ho' hN hL
   rw [zbG L (i + 1) h h1]
   by_cases h0 : L[i + 1].kind = 0
   ·have hb : badB L 1 (i + 1) = false:=by simp [badB,zcq,List.getElem?_eq_getElem h,h0]
    rw [zci L 1 (i + 1) c h hb,zbS L (i + 1) h h0]
    exact ztc L hw hn names hN c (i + 1) o ho' labs hL
   ·rw [zb7 L (i + 1) h h0 h1,zdS]
    cases hk : zcS names labs (keyQ L[i + 1] (((i + 1 : Nat) : Int) + 1)) with
    | true => rw [zeo L 1 (i + 1) c h (hb.trans hk)]; rfl
    | false =>
     rw [zci L 1 (i + 1) c h (hb.trans hk)]
     exact ztc L hw hn names hN c (i + 1) o ho' labs hL
 ·rw [zen L 1 (i + 1) c h,zco L _ h,zc3 L _ h]; rfl
termination_by L.length - i
end Go.Proofs.YtfpgjkbjbbgciaaGreatDoor
