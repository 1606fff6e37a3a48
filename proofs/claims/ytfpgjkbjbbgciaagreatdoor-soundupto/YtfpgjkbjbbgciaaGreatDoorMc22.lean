import Derived.Test.YtfpgjkbjbbgciaaGreatDoorMc15
set_option maxRecDepth 100000
set_option maxHeartbeats 8000000
namespace Go.Proofs.YtfpgjkbjbbgciaaGreatDoor
open Sp
inductive Form : List ByteArray → Prop
 | set_ (x1 x2 : ByteArray) (hx1 : 0 ≤ reg x1) (hx2 : (za6 x2).2 = true) : Form [⟨#[115,101,116]⟩,x1,x2]
 | inc_ (x1 x2 : ByteArray) (hx1 : 0 ≤ reg x1) (hx2 : (za6 x2).2 = true) : Form [⟨#[105,110,99]⟩,x1,x2]
 | mov_ (x1 x2 : ByteArray) (hx1 : 0 ≤ reg x1) (hx2 : 0 ≤ reg x2) : Form [⟨#[109,111,118]⟩,x1,x2]
 | load_ (x1 x2 : ByteArray) (hx1 : 0 ≤ reg x1) (hx2 : 0 ≤ reg x2) : Form [⟨#[108,111,97,100]⟩,x1,x2]
 | store_ (x1 x2 : ByteArray) (hx1 : 0 ≤ reg x1) (hx2 : 0 ≤ reg x2) : Form [⟨#[115,116,111,114,101]⟩,x1,x2]
 | add_ (x1 x2 x3 : ByteArray) (hx1 : 0 ≤ reg x1) (hx2 : 0 ≤ reg x2) (hx3 : 0 ≤ reg x3) : Form [⟨#[97,100,100]⟩,x1,x2,x3]
 | sub_ (x1 x2 x3 : ByteArray) (hx1 : 0 ≤ reg x1) (hx2 : 0 ≤ reg x2) (hx3 : 0 ≤ reg x3) : Form [⟨#[115,117,98]⟩,x1,x2,x3]
 | mul_ (x1 x2 x3 : ByteArray) (hx1 : 0 ≤ reg x1) (hx2 : 0 ≤ reg x2) (hx3 : 0 ≤ reg x3) : Form [⟨#[109,117,108]⟩,x1,x2,x3]
 | read_ (x1 : ByteArray) (hx1 : 0 ≤ reg x1) : Form [⟨#[114,101,97,100]⟩,x1]
 | write_ (x1 : ByteArray) (hx1 : 0 ≤ reg x1) : Form [⟨#[119,114,105,116,101]⟩,x1]
 | jump_ (x1 : ByteArray) (hx1 : zaz x1 = true) : Form [⟨#[106,117,109,112]⟩,x1]
 | call_ (x1 : ByteArray) (hx1 : zaz x1 = true) : Form [⟨#[99,97,108,108]⟩,x1]
 | less_ (x1 x2 x3 : ByteArray) (hx1 : 0 ≤ reg x1) (hx2 : 0 ≤ reg x2) (hx3 : zaz x3 = true) : Form [⟨#[108,101,115,115]⟩,x1,x2,x3]
 | same_ (x1 x2 x3 : ByteArray) (hx1 : 0 ≤ reg x1) (hx2 : 0 ≤ reg x2) (hx3 : zaz x3 = true) : Form [⟨#[115,97,109,101]⟩,x1,x2,x3]
 | back_ : Form [⟨#[98,97,99,107]⟩]
 | stop_ : Form [⟨#[115,116,111,112]⟩]
theorem op_r (x : ByteArray) : opOk 82 x = decide (0 ≤ reg x):=rfl
theorem op_k (x : ByteArray) : opOk 75 x = (za6 x).2:=rfl
theorem op_n (x : ByteArray) : opOk 78 x = zaz x:=rfl
theorem zv6 (x : ByteArray) (r : List ByteArray) (h : zg5 x r = true) : Form (x :: r):=by
 unfold zg5 at h
 cases h0 : (x.toList == [115,101,116]) with
 | true =>
  have:=zap x _ h0
  subst this
  change (if zaa ⟨#[115,101,116]⟩ = [63] ∨ ¬ r.length = (zaa ⟨#[115,101,116]⟩).length then false else zaK (zaa ⟨#[115,101,116]⟩) r) = true at h
  rw [zgZ] at h
  split at h
  ·cases h
  ·rename_i hc
   have hl : r.length = 2:=by
    rcases Nat.decEq r.length 2 with h' | h'
    ·exact absurd (.inr (by simpa using h')) hc
    ·exact h'
   match r,hl,h with
   | [x1,x2],_,h =>
    simp only [zaK,op_r,op_k,Bool.and_true,Bool.and_eq_true,decide_eq_true_eq] at h
    exact .set_ x1 x2 h.1 h.2
 | false =>
  cases h1 : (x.toList == [105,110,99]) with
  | true =>
   have:=zap x _ h1
   subst this
   change (if zaa ⟨#[105,110,99]⟩ = [63] ∨ ¬ r.length = (zaa ⟨#[105,110,99]⟩).length then false else zaK (zaa ⟨#[105,110,99]⟩) r) = true at h
   rw [zha] at h
   split at h
   ·cases h
   ·rename_i hc
    have hl : r.length = 2:=by
     rcases Nat.decEq r.length 2 with h' | h'
     ·exact absurd (.inr (by simpa using h')) hc
     ·exact h'
    match r,hl,h with
    | [x1,x2],_,h =>
     simp only [zaK,op_r,op_k,Bool.and_true,Bool.and_eq_true,decide_eq_true_eq] at h
     exact .inc_ x1 x2 h.1 h.2
  | false =>
   cases h2 : (x.toList == [109,111,118]) with
   | true =>
    have:=zap x _ h2
    subst this
    change (if zaa ⟨#[109,111,118]⟩ = [63] ∨ ¬ r.length = (zaa ⟨#[109,111,118]⟩).length then false else zaK (zaa ⟨#[109,111,118]⟩) r) = true at h
    rw [zhb] at h
    split at h
    ·cases h
    ·rename_i hc
     have hl : r.length = 2:=by
      rcases Nat.decEq r.length 2 with h' | h'
      ·exact absurd (.inr (by simpa using h')) hc
      ·exact h'
     match r,hl,h with
     | [x1,x2],_,h =>
      simp only [zaK,op_r,Bool.and_true,Bool.and_eq_true,decide_eq_true_eq] at h
      exact .mov_ x1 x2 h.1 h.2
   | false =>
    cases h3 : (x.toList == [108,111,97,100]) with
    | true =>
     have:=zap x _ h3
     subst this
     change (if zaa ⟨#[108,111,97,100]⟩ = [63] ∨ ¬ r.length = (zaa ⟨#[108,111,97,100]⟩).length then false else zaK (zaa ⟨#[108,111,97,100]⟩) r) = true at h
     rw [zgo] at h
     split at h
     ·cases h
     ·rename_i hc
      have hl : r.length = 2:=by
       rcases Nat.decEq r.length 2 with h' | h'
       ·exact absurd (.inr (by simpa using h')) hc
       ·exact h'
      match r,hl,h with
      | [x1,x2],_,h =>
       simp only [zaK,op_r,Bool.and_true,Bool.and_eq_true,decide_eq_true_eq] at h
       exact .load_ x1 x2 h.1 h.2
    | false =>
     cases h4 : (x.toList == [115,116,111,114,101]) with
     | true =>
      have:=zap x _ h4
      subst this
      change (if zaa ⟨#[115,116,111,114,101]⟩ = [63] ∨ ¬ r.length = (zaa ⟨#[115,116,111,114,101]⟩).length then false else zaK (zaa ⟨#[115,116,111,114,101]⟩) r) = true at h
      rw [zfx] at h
      split at h
      ·cases h
      ·rename_i hc
       have hl : r.length = 2:=by
        rcases Nat.decEq r.length 2 with h' | h'
        ·exact absurd (.inr (by simpa using h')) hc
        ·exact h'
       match r,hl,h with
       | [x1,x2],_,h =>
        simp only [zaK,op_r,Bool.and_true,Bool.and_eq_true,decide_eq_true_eq] at h
        exact .store_ x1 x2 h.1 h.2
     | false =>
      cases h5 : (x.toList == [97,100,100]) with
      | true =>
       have:=zap x _ h5
       subst this
       change (if zaa ⟨#[97,100,100]⟩ = [63] ∨ ¬ r.length = (zaa ⟨#[97,100,100]⟩).length then false else zaK (zaa ⟨#[97,100,100]⟩) r) = true at h
       rw [zhc] at h
       split at h
       ·cases h
       ·rename_i hc
        have hl : r.length = 3:=by
         rcases Nat.decEq r.length 3 with h' | h'
         ·exact absurd (.inr (by simpa using h')) hc
         ·exact h'
        match r,hl,h with
        | [x1,x2,x3],_,h =>
         simp only [zaK,op_r,Bool.and_true,Bool.and_eq_true,decide_eq_true_eq] at h
         exact .add_ x1 x2 x3 h.1 h.2.1 h.2.2
      | false =>
       cases h6 : (x.toList == [115,117,98]) with
       | true =>
        have:=zap x _ h6
        subst this
        change (if zaa ⟨#[115,117,98]⟩ = [63] ∨ ¬ r.length = (zaa ⟨#[115,117,98]⟩).length then false else zaK (zaa ⟨#[115,117,98]⟩) r) = true at h
        rw [zhd] at h
        split at h
        ·cases h
        ·rename_i hc
         have hl : r.length = 3:=by
          rcases Nat.decEq r.length 3 with h' | h'
          ·exact absurd (.inr (by simpa using h')) hc
          ·exact h'
         match r,hl,h with
         | [x1,x2,x3],_,h =>
          simp only [zaK,op_r,Bool.and_true,Bool.and_eq_true,decide_eq_true_eq] at h
          exact .sub_ x1 x2 x3 h.1 h.2.1 h.2.2
       | false =>
        cases h7 : (x.toList == [109,117,108]) with
        | true =>
         have:=zap x _ h7
         subst this
         change (if zaa ⟨#[109,117,108]⟩ = [63] ∨ ¬ r.length = (zaa ⟨#[109,117,108]⟩).length then false else zaK (zaa ⟨#[109,117,108]⟩) r) = true at h
         rw [zhe] at h
         split at h
         ·cases h
         ·rename_i hc
          have hl : r.length = 3:=by
           rcases Nat.decEq r.length 3 with h' | h'
           ·exact absurd (.inr (by simpa using h')) hc
           ·exact h'
          match r,hl,h with
          | [x1,x2,x3],_,h =>
           simp only [zaK,op_r,Bool.and_true,Bool.and_eq_true,decide_eq_true_eq] at h
           exact .mul_ x1 x2 x3 h.1 h.2.1 h.2.2
        | false =>
         cases h8 : (x.toList == [114,101,97,100]) with
         | true =>
          have:=zap x _ h8
          subst this
          change (if zaa ⟨#[114,101,97,100]⟩ = [63] ∨ ¬ r.length = (zaa ⟨#[114,101,97,100]⟩).length then false else zaK (zaa ⟨#[114,101,97,100]⟩) r) = true at h
          rw [zgp] at h
          split at h
          ·cases h
          ·rename_i hc
           have hl : r.length = 1:=by
            rcases Nat.decEq r.length 1 with h' | h'
            ·exact absurd (.inr (by simpa using h')) hc
            ·exact h'
           match r,hl,h with
           | [x1],_,h =>
            simp only [zaK,op_r,Bool.and_true,decide_eq_true_eq] at h
            exact .read_ x1 h
         | false =>
          cases h9 : (x.toList == [119,114,105,116,101]) with
          | true =>
           have:=zap x _ h9
           subst this
           change (if zaa ⟨#[119,114,105,116,101]⟩ = [63] ∨ ¬ r.length = (zaa ⟨#[119,114,105,116,101]⟩).length then false else zaK (zaa ⟨#[119,114,105,116,101]⟩) r) = true at h
           rw [zfy] at h
           split at h
           ·cases h
           ·rename_i hc
            have hl : r.length = 1:=by
             rcases Nat.decEq r.length 1 with h' | h'
             ·exact absurd (.inr (by simpa using h')) hc
             ·exact h'
            match r,hl,h with
            | [x1],_,h =>
             simp only [zaK,op_r,Bool.and_true,decide_eq_true_eq] at h
             exact .write_ x1 h
          | false =>
           cases h10 : (x.toList == [106,117,109,112]) with
           | true =>
            have:=zap x _ h10
            subst this
            change (if zaa ⟨#[106,117,109,112]⟩ = [63] ∨ ¬ r.length = (zaa ⟨#[106,117,109,112]⟩).length then false else zaK (zaa ⟨#[106,117,109,112]⟩) r) = true at h
            rw [zgq] at h
            split at h
            ·cases h
            ·rename_i hc
             have hl : r.length = 1:=by
              rcases Nat.decEq r.length 1 with h' | h'
              ·exact absurd (.inr (by simpa using h')) hc
              ·exact h'
             match r,hl,h with
             | [x1],_,h =>
              simp only [zaK,op_n,Bool.and_true] at h
              exact .jump_ x1 h
           | false =>
            cases h11 : (x.toList == [99,97,108,108]) with
            | true =>
             have:=zap x _ h11
             subst this
             change (if zaa ⟨#[99,97,108,108]⟩ = [63] ∨ ¬ r.length = (zaa ⟨#[99,97,108,108]⟩).length then false else zaK (zaa ⟨#[99,97,108,108]⟩) r) = true at h
             rw [zgr] at h
             split at h
             ·cases h
             ·rename_i hc
              have hl : r.length = 1:=by
               rcases Nat.decEq r.length 1 with h' | h'
               ·exact absurd (.inr (by simpa using h')) hc
               ·exact h'
              match r,hl,h with
              | [x1],_,h =>
               simp only [zaK,op_n,Bool.and_true] at h
               exact .call_ x1 h
            | false =>
             cases h12 : (x.toList == [108,101,115,115]) with
             | true =>
              have:=zap x _ h12
              subst this
              change (if zaa ⟨#[108,101,115,115]⟩ = [63] ∨ ¬ r.length = (zaa ⟨#[108,101,115,115]⟩).length then false else zaK (zaa ⟨#[108,101,115,115]⟩) r) = true at h
              rw [zgs] at h
              split at h
              ·cases h
              ·rename_i hc
               have hl : r.length = 3:=by
                rcases Nat.decEq r.length 3 with h' | h'
                ·exact absurd (.inr (by simpa using h')) hc
                ·exact h'
               match r,hl,h with
               | [x1,x2,x3],_,h =>
                simp only [zaK,op_r,op_n,Bool.and_true,Bool.and_eq_true,decide_eq_true_eq] at h
                exact .less_ x1 x2 x3 h.1 h.2.1 h.2.2
             | false =>
              cases h13 : (x.toList == [115,97,109,101]) with
              | true =>
               have:=zap x _ h13
               subst this
               change (if zaa ⟨#[115,97,109,101]⟩ = [63] ∨ ¬ r.length = (zaa ⟨#[115,97,109,101]⟩).length then false else zaK (zaa ⟨#[115,97,109,101]⟩) r) = true at h
               rw [zgt] at h
               split at h
               ·cases h
               ·rename_i hc
                have hl : r.length = 3:=by
                 rcases Nat.decEq r.length 3 with h' | h'
                 ·exact absurd (.inr (by simpa using h')) hc
                 ·exact h'
                match r,hl,h with
                | [x1,x2,x3],_,h =>
                 simp only [zaK,op_r,op_n,Bool.and_true,Bool.and_eq_true,decide_eq_true_eq] at h
                 exact .same_ x1 x2 x3 h.1 h.2.1 h.2.2
              | false =>
               cases h14 : (x.toList == [98,97,99,107]) with
               | true =>
                have:=zap x _ h14
                subst this
                change (if zaa ⟨#[98,97,99,107]⟩ = [63] ∨ ¬ r.length = (zaa ⟨#[98,97,99,107]⟩).length then false else zaK (zaa ⟨#[98,97,99,107]⟩) r) = true at h
                rw [zgu] at h
                split at h
                ·cases h
                ·rename_i hc
                 have hl : r.length = 0:=by
                  rcases Nat.decEq r.length 0 with h' | h'
                  ·exact absurd (.inr (by simpa using h')) hc
                  ·exact h'
                 obtain rfl : r = []:=List.eq_nil_of_length_eq_zero hl
                 exact .back_
               | false =>
                cases h15 : (x.toList == [115,116,111,112]) with
                | true =>
                 have:=zap x _ h15
                 subst this
                 change (if zaa ⟨#[115,116,111,112]⟩ = [63] ∨ ¬ r.length = (zaa ⟨#[115,116,111,112]⟩).length then false else zaK (zaa ⟨#[115,116,111,112]⟩) r) = true at h
                 rw [zgv] at h
                 split at h
                 ·cases h
                 ·rename_i hc
                  have hl : r.length = 0:=by
                   rcases Nat.decEq r.length 0 with h' | h'
                   ·exact absurd (.inr (by simpa using h')) hc
                   ·exact h'
                  obtain rfl : r = []:=List.eq_nil_of_length_eq_zero hl
                  exact .stop_
                | false =>
                 rw [if_pos (.inl (znc x h0 h1 h2 h3 h4 h5 h6 h7 h8 h9 h10 h11 h12 h13 h14 h15))] at h; cases h
theorem zam (x : ByteArray) (h : 0 ≤ reg x) : regN x < 8 ∧ reg x = (regN x : Int):=by
 have : reg x ≤ 7:=by
  unfold reg at h ⊢
  split
  ·rename_i hb
   unfold regB at hb
   simp at hb
   omega
  ·omega
 unfold regN
 omega
theorem zv7 (s : ByteArray) (h : (say s).ok = true) (h5 : (say s).kind = 105) : Form (say s).kept:=by
 have hv : zak s 0 = true:=by
  cases hv : zak s 0 with
  | true => rfl
  | false => rw [zeX s hv] at h; cases h
 rw [zhh s hv] at h h5 ⊢
 generalize words s = l at h h5 ⊢
 cases l with
 | nil => simp [sayW] at h5
 | cons x r =>
  have e : sayW (x :: r) = ⟨105,x :: r,if zaa x = [63] ∨ ¬ (x :: r).length = (zaa x).length + 1 then false else zaK (zaa x) r⟩:=by
   unfold sayW at h5 ⊢
   dsimp only at h5 ⊢
   split at h5
   ·simp at h5
   ·rename_i hf
    rw [if_neg hf]
    split at h5
    ·simp at h5
    ·rename_i hg
     rw [if_neg hg]
  rw [e] at h ⊢
  refine zv6 x r ?_
  simpa [zg5] using h
theorem zkA (L : List Said) (k : Nat) (q : Said) (x1 : ByteArray) (h : q.kept = [⟨#[106,117,109,112]⟩,x1]) : insQ L k q = .jump (zeI L k x1):=by
 obtain ⟨kd,kp,ok⟩:=q
 simp only at h
 subst h
 unfold insQ
 rw [show (⟨kd,[⟨#[106,117,109,112]⟩,x1],ok⟩ : Said).word 0 = ⟨#[106,117,109,112]⟩ from rfl]
 rw [if_pos (show isW ⟨#[106,117,109,112]⟩ [106,117,109,112] = true from by kernel_rfl)]
 rfl
theorem zkB (L : List Said) (k : Nat) (q : Said) (x1 x2 x3 : ByteArray) (h : q.kept = [⟨#[108,101,115,115]⟩,x1,x2,x3]) : insQ L k q = .less (regN x1) (regN x2) (zeI L k x3):=by
 obtain ⟨kd,kp,ok⟩:=q
 simp only at h
 subst h
 unfold insQ
 rw [show (⟨kd,[⟨#[108,101,115,115]⟩,x1,x2,x3],ok⟩ : Said).word 0 = ⟨#[108,101,115,115]⟩ from rfl]
 rw [if_neg (show ¬ isW ⟨#[108,101,115,115]⟩ [106,117,109,112] = true by rw [show isW ⟨#[108,101,115,115]⟩ [106,117,109,112] = false from by kernel_rfl]; decide)]
 rw [if_pos (show isW ⟨#[108,101,115,115]⟩ [108,101,115,115] = true from by kernel_rfl)]
 rfl
theorem zkC (L : List Said) (k : Nat) (q : Said) (x1 x2 x3 : ByteArray) (h : q.kept = [⟨#[115,97,109,101]⟩,x1,x2,x3]) : insQ L k q = .same (regN x1) (regN x2) (zeI L k x3):=by
 obtain ⟨kd,kp,ok⟩:=q
 simp only at h
 subst h
 unfold insQ
 rw [show (⟨kd,[⟨#[115,97,109,101]⟩,x1,x2,x3],ok⟩ : Said).word 0 = ⟨#[115,97,109,101]⟩ from rfl]
 rw [if_neg (show ¬ isW ⟨#[115,97,109,101]⟩ [106,117,109,112] = true by rw [show isW ⟨#[115,97,109,101]⟩ [106,117,109,112] = false from by kernel_rfl]; decide)]
 rw [if_neg (show ¬ isW ⟨#[115,97,109,101]⟩ [108,101,115,115] = true by rw [show isW ⟨#[115,97,109,101]⟩ [108,101,115,115] = false from by kernel_rfl]; decide)]
 rw [if_pos (show isW ⟨#[115,97,109,101]⟩ [115,97,109,101] = true from by kernel_rfl)]
 rfl
theorem zkD (L : List Said) (k : Nat) (q : Said) (x1 : ByteArray) (h : q.kept = [⟨#[99,97,108,108]⟩,x1]) : insQ L k q = .call (fnTo L x1):=by
 obtain ⟨kd,kp,ok⟩:=q
 simp only at h
 subst h
 unfold insQ
 rw [show (⟨kd,[⟨#[99,97,108,108]⟩,x1],ok⟩ : Said).word 0 = ⟨#[99,97,108,108]⟩ from rfl]
 rw [if_neg (show ¬ isW ⟨#[99,97,108,108]⟩ [106,117,109,112] = true by rw [show isW ⟨#[99,97,108,108]⟩ [106,117,109,112] = false from by kernel_rfl]; decide)]
 rw [if_neg (show ¬ isW ⟨#[99,97,108,108]⟩ [108,101,115,115] = true by rw [show isW ⟨#[99,97,108,108]⟩ [108,101,115,115] = false from by kernel_rfl]; decide)]
 rw [if_neg (show ¬ isW ⟨#[99,97,108,108]⟩ [115,97,109,101] = true by rw [show isW ⟨#[99,97,108,108]⟩ [115,97,109,101] = false from by kernel_rfl]; decide)]
 rw [if_pos (show isW ⟨#[99,97,108,108]⟩ [99,97,108,108] = true from by kernel_rfl)]
 rfl
theorem zkE (L : List Said) (k : Nat) (q : Said) (h : q.kept = [⟨#[98,97,99,107]⟩]) : insQ L k q = .back:=by
 obtain ⟨kd,kp,ok⟩:=q
 simp only at h
 subst h
 unfold insQ
 rw [show (⟨kd,[⟨#[98,97,99,107]⟩],ok⟩ : Said).word 0 = ⟨#[98,97,99,107]⟩ from rfl]
 rw [if_neg (show ¬ isW ⟨#[98,97,99,107]⟩ [106,117,109,112] = true by rw [show isW ⟨#[98,97,99,107]⟩ [106,117,109,112] = false from by kernel_rfl]; decide)]
 rw [if_neg (show ¬ isW ⟨#[98,97,99,107]⟩ [108,101,115,115] = true by rw [show isW ⟨#[98,97,99,107]⟩ [108,101,115,115] = false from by kernel_rfl]; decide)]
 rw [if_neg (show ¬ isW ⟨#[98,97,99,107]⟩ [115,97,109,101] = true by rw [show isW ⟨#[98,97,99,107]⟩ [115,97,109,101] = false from by kernel_rfl]; decide)]
 rw [if_neg (show ¬ isW ⟨#[98,97,99,107]⟩ [99,97,108,108] = true by rw [show isW ⟨#[98,97,99,107]⟩ [99,97,108,108] = false from by kernel_rfl]; decide)]
 rw [if_pos (show isW ⟨#[98,97,99,107]⟩ [98,97,99,107] = true from by kernel_rfl)]
theorem zkF (L : List Said) (k : Nat) (q : Said) (h : q.kept = [⟨#[115,116,111,112]⟩]) : insQ L k q = .stop:=by
 obtain ⟨kd,kp,ok⟩:=q
 simp only at h
 subst h
 unfold insQ
 rw [show (⟨kd,[⟨#[115,116,111,112]⟩],ok⟩ : Said).word 0 = ⟨#[115,116,111,112]⟩ from rfl]
 rw [if_neg (show ¬ isW ⟨#[115,116,111,112]⟩ [106,117,109,112] = true by rw [show isW ⟨#[115,116,111,112]⟩ [106,117,109,112] = false from by kernel_rfl]; decide)]
 rw [if_neg (show ¬ isW ⟨#[115,116,111,112]⟩ [108,101,115,115] = true by rw [show isW ⟨#[115,116,111,112]⟩ [108,101,115,115] = false from by kernel_rfl]; decide)]
 rw [if_neg (show ¬ isW ⟨#[115,116,111,112]⟩ [115,97,109,101] = true by rw [show isW ⟨#[115,116,111,112]⟩ [115,97,109,101] = false from by kernel_rfl]; decide)]
 rw [if_neg (show ¬ isW ⟨#[115,116,111,112]⟩ [99,97,108,108] = true by rw [show isW ⟨#[115,116,111,112]⟩ [99,97,108,108] = false from by kernel_rfl]; decide)]
 rw [if_neg (show ¬ isW ⟨#[115,116,111,112]⟩ [98,97,99,107] = true by rw [show isW ⟨#[115,116,111,112]⟩ [98,97,99,107] = false from by kernel_rfl]; decide)]
 rw [if_pos (show isW ⟨#[115,116,111,112]⟩ [115,116,111,112] = true from by kernel_rfl)]
theorem zns (L : List Said) (k : Nat) (q : Said) (x1 x2 : ByteArray) (h : q.kept = [⟨#[115,101,116]⟩,x1,x2]) : insQ L k q = .set (regN x1) (za6 x2).1:=by
 obtain ⟨kd,kp,ok⟩:=q
 simp only at h
 subst h
 unfold insQ
 rw [show (⟨kd,[⟨#[115,101,116]⟩,x1,x2],ok⟩ : Said).word 0 = ⟨#[115,101,116]⟩ from rfl]
 rw [if_neg (show ¬ isW ⟨#[115,101,116]⟩ [106,117,109,112] = true by rw [show isW ⟨#[115,101,116]⟩ [106,117,109,112] = false from by kernel_rfl]; decide)]
 rw [if_neg (show ¬ isW ⟨#[115,101,116]⟩ [108,101,115,115] = true by rw [show isW ⟨#[115,101,116]⟩ [108,101,115,115] = false from by kernel_rfl]; decide)]
 rw [if_neg (show ¬ isW ⟨#[115,101,116]⟩ [115,97,109,101] = true by rw [show isW ⟨#[115,101,116]⟩ [115,97,109,101] = false from by kernel_rfl]; decide)]
 rw [if_neg (show ¬ isW ⟨#[115,101,116]⟩ [99,97,108,108] = true by rw [show isW ⟨#[115,101,116]⟩ [99,97,108,108] = false from by kernel_rfl]; decide)]
 rw [if_neg (show ¬ isW ⟨#[115,101,116]⟩ [98,97,99,107] = true by rw [show isW ⟨#[115,101,116]⟩ [98,97,99,107] = false from by kernel_rfl]; decide)]
 rw [if_neg (show ¬ isW ⟨#[115,101,116]⟩ [115,116,111,112] = true by rw [show isW ⟨#[115,101,116]⟩ [115,116,111,112] = false from by kernel_rfl]; decide)]
 rw [if_pos (show isW ⟨#[115,101,116]⟩ [115,101,116] = true from by kernel_rfl)]
 rfl
theorem znt (L : List Said) (k : Nat) (q : Said) (x1 x2 : ByteArray) (h : q.kept = [⟨#[109,111,118]⟩,x1,x2]) : insQ L k q = .mov (regN x1) (regN x2):=by
 obtain ⟨kd,kp,ok⟩:=q
 simp only at h
 subst h
 unfold insQ
 rw [show (⟨kd,[⟨#[109,111,118]⟩,x1,x2],ok⟩ : Said).word 0 = ⟨#[109,111,118]⟩ from rfl]
 rw [if_neg (show ¬ isW ⟨#[109,111,118]⟩ [106,117,109,112] = true by rw [show isW ⟨#[109,111,118]⟩ [106,117,109,112] = false from by kernel_rfl]; decide)]
 rw [if_neg (show ¬ isW ⟨#[109,111,118]⟩ [108,101,115,115] = true by rw [show isW ⟨#[109,111,118]⟩ [108,101,115,115] = false from by kernel_rfl]; decide)]
 rw [if_neg (show ¬ isW ⟨#[109,111,118]⟩ [115,97,109,101] = true by rw [show isW ⟨#[109,111,118]⟩ [115,97,109,101] = false from by kernel_rfl]; decide)]
 rw [if_neg (show ¬ isW ⟨#[109,111,118]⟩ [99,97,108,108] = true by rw [show isW ⟨#[109,111,118]⟩ [99,97,108,108] = false from by kernel_rfl]; decide)]
 rw [if_neg (show ¬ isW ⟨#[109,111,118]⟩ [98,97,99,107] = true by rw [show isW ⟨#[109,111,118]⟩ [98,97,99,107] = false from by kernel_rfl]; decide)]
 rw [if_neg (show ¬ isW ⟨#[109,111,118]⟩ [115,116,111,112] = true by rw [show isW ⟨#[109,111,118]⟩ [115,116,111,112] = false from by kernel_rfl]; decide)]
 rw [if_neg (show ¬ isW ⟨#[109,111,118]⟩ [115,101,116] = true by rw [show isW ⟨#[109,111,118]⟩ [115,101,116] = false from by kernel_rfl]; decide)]
 rw [if_pos (show isW ⟨#[109,111,118]⟩ [109,111,118] = true from by kernel_rfl)]
 rfl
theorem znu (L : List Said) (k : Nat) (q : Said) (x1 x2 x3 : ByteArray) (h : q.kept = [⟨#[97,100,100]⟩,x1,x2,x3]) : insQ L k q = .alu 0 (regN x1) (regN x2) (regN x3):=by
 obtain ⟨kd,kp,ok⟩:=q
 simp only at h
 subst h
 unfold insQ
 rw [show (⟨kd,[⟨#[97,100,100]⟩,x1,x2,x3],ok⟩ : Said).word 0 = ⟨#[97,100,100]⟩ from rfl]
 rw [if_neg (show ¬ isW ⟨#[97,100,100]⟩ [106,117,109,112] = true by rw [show isW ⟨#[97,100,100]⟩ [106,117,109,112] = false from by kernel_rfl]; decide)]
 rw [if_neg (show ¬ isW ⟨#[97,100,100]⟩ [108,101,115,115] = true by rw [show isW ⟨#[97,100,100]⟩ [108,101,115,115] = false from by kernel_rfl]; decide)]
 rw [if_neg (show ¬ isW ⟨#[97,100,100]⟩ [115,97,109,101] = true by rw [show isW ⟨#[97,100,100]⟩ [115,97,109,101] = false from by kernel_rfl]; decide)]
 rw [if_neg (show ¬ isW ⟨#[97,100,100]⟩ [99,97,108,108] = true by rw [show isW ⟨#[97,100,100]⟩ [99,97,108,108] = false from by kernel_rfl]; decide)]
 rw [if_neg (show ¬ isW ⟨#[97,100,100]⟩ [98,97,99,107] = true by rw [show isW ⟨#[97,100,100]⟩ [98,97,99,107] = false from by kernel_rfl]; decide)]
 rw [if_neg (show ¬ isW ⟨#[97,100,100]⟩ [115,116,111,112] = true by rw [show isW ⟨#[97,100,100]⟩ [115,116,111,112] = false from by kernel_rfl]; decide)]
 rw [if_neg (show ¬ isW ⟨#[97,100,100]⟩ [115,101,116] = true by rw [show isW ⟨#[97,100,100]⟩ [115,101,116] = false from by kernel_rfl]; decide)]
 rw [if_neg (show ¬ isW ⟨#[97,100,100]⟩ [109,111,118] = true by rw [show isW ⟨#[97,100,100]⟩ [109,111,118] = false from by kernel_rfl]; decide)]
 rw [if_pos (show isW ⟨#[97,100,100]⟩ [97,100,100] = true from by kernel_rfl)]
 rfl
theorem znv (L : List Said) (k : Nat) (q : Said) (x1 x2 x3 : ByteArray) (h : q.kept = [⟨#[115,117,98]⟩,x1,x2,x3]) : insQ L k q = .alu 1 (regN x1) (regN x2) (regN x3):=by
 obtain ⟨kd,kp,ok⟩:=q
 simp only at h
 subst h
 unfold insQ
 rw [show (⟨kd,[⟨#[115,117,98]⟩,x1,x2,x3],ok⟩ : Said).word 0 = ⟨#[115,117,98]⟩ from rfl]
 rw [if_neg (show ¬ isW ⟨#[115,117,98]⟩ [106,117,109,112] = true by rw [show isW ⟨#[115,117,98]⟩ [106,117,109,112] = false from by kernel_rfl]; decide)]
 rw [if_neg (show ¬ isW ⟨#[115,117,98]⟩ [108,101,115,115] = true by rw [show isW ⟨#[115,117,98]⟩ [108,101,115,115] = false from by kernel_rfl]; decide)]
 rw [if_neg (show ¬ isW ⟨#[115,117,98]⟩ [115,97,109,101] = true by rw [show isW ⟨#[115,117,98]⟩ [115,97,109,101] = false from by kernel_rfl]; decide)]
 rw [if_neg (show ¬ isW ⟨#[115,117,98]⟩ [99,97,108,108] = true by rw [show isW ⟨#[115,117,98]⟩ [99,97,108,108] = false from by kernel_rfl]; decide)]
 rw [if_neg (show ¬ isW ⟨#[115,117,98]⟩ [98,97,99,107] = true by rw [show isW ⟨#[115,117,98]⟩ [98,97,99,107] = false from by kernel_rfl]; decide)]
 rw [if_neg (show ¬ isW ⟨#[115,117,98]⟩ [115,116,111,112] = true by rw [show isW ⟨#[115,117,98]⟩ [115,116,111,112] = false from by kernel_rfl]; decide)]
 rw [if_neg (show ¬ isW ⟨#[115,117,98]⟩ [115,101,116] = true by rw [show isW ⟨#[115,117,98]⟩ [115,101,116] = false from by kernel_rfl]; decide)]
 rw [if_neg (show ¬ isW ⟨#[115,117,98]⟩ [109,111,118] = true by rw [show isW ⟨#[115,117,98]⟩ [109,111,118] = false from by kernel_rfl]; decide)]
 rw [if_neg (show ¬ isW ⟨#[115,117,98]⟩ [97,100,100] = true by rw [show isW ⟨#[115,117,98]⟩ [97,100,100] = false from by kernel_rfl]; decide)]
 rw [if_pos (show isW ⟨#[115,117,98]⟩ [115,117,98] = true from by kernel_rfl)]
 rfl
theorem znw (L : List Said) (k : Nat) (q : Said) (x1 x2 x3 : ByteArray) (h : q.kept = [⟨#[109,117,108]⟩,x1,x2,x3]) : insQ L k q = .alu 2 (regN x1) (regN x2) (regN x3):=by
 obtain ⟨kd,kp,ok⟩:=q
 simp only at h
 subst h
 unfold insQ
 rw [show (⟨kd,[⟨#[109,117,108]⟩,x1,x2,x3],ok⟩ : Said).word 0 = ⟨#[109,117,108]⟩ from rfl]
 rw [if_neg (show ¬ isW ⟨#[109,117,108]⟩ [106,117,109,112] = true by rw [show isW ⟨#[109,117,108]⟩ [106,117,109,112] = false from by kernel_rfl]; decide)]
 rw [if_neg (show ¬ isW ⟨#[109,117,108]⟩ [108,101,115,115] = true by rw [show isW ⟨#[109,117,108]⟩ [108,101,115,115] = false from by kernel_rfl]; decide)]
 rw [if_neg (show ¬ isW ⟨#[109,117,108]⟩ [115,97,109,101] = true by rw [show isW ⟨#[109,117,108]⟩ [115,97,109,101] = false from by kernel_rfl]; decide)]
 rw [if_neg (show ¬ isW ⟨#[109,117,108]⟩ [99,97,108,108] = true by rw [show isW ⟨#[109,117,108]⟩ [99,97,108,108] = false from by kernel_rfl]; decide)]
 rw [if_neg (show ¬ isW ⟨#[109,117,108]⟩ [98,97,99,107] = true by rw [show isW ⟨#[109,117,108]⟩ [98,97,99,107] = false from by kernel_rfl]; decide)]
 rw [if_neg (show ¬ isW ⟨#[109,117,108]⟩ [115,116,111,112] = true by rw [show isW ⟨#[109,117,108]⟩ [115,116,111,112] = false from by kernel_rfl]; decide)]
 rw [if_neg (show ¬ isW ⟨#[109,117,108]⟩ [115,101,116] = true by rw [show isW ⟨#[109,117,108]⟩ [115,101,116] = false from by kernel_rfl]; decide)]
 rw [if_neg (show ¬ isW ⟨#[109,117,108]⟩ [109,111,118] = true by rw [show isW ⟨#[109,117,108]⟩ [109,111,118] = false from by kernel_rfl]; decide)]
 rw [if_neg (show ¬ isW ⟨#[109,117,108]⟩ [97,100,100] = true by rw [show isW ⟨#[109,117,108]⟩ [97,100,100] = false from by kernel_rfl]; decide)]
 rw [if_neg (show ¬ isW ⟨#[109,117,108]⟩ [115,117,98] = true by rw [show isW ⟨#[109,117,108]⟩ [115,117,98] = false from by kernel_rfl]; decide)]
 rw [if_pos (show isW ⟨#[109,117,108]⟩ [109,117,108] = true from by kernel_rfl)]
 rfl
theorem znx (L : List Said) (k : Nat) (q : Said) (x1 x2 : ByteArray) (h : q.kept = [⟨#[105,110,99]⟩,x1,x2]) : insQ L k q = .inc (regN x1) (za6 x2).1:=by
 obtain ⟨kd,kp,ok⟩:=q
 simp only at h
 subst h
 unfold insQ
 rw [show (⟨kd,[⟨#[105,110,99]⟩,x1,x2],ok⟩ : Said).word 0 = ⟨#[105,110,99]⟩ from rfl]
 rw [if_neg (show ¬ isW ⟨#[105,110,99]⟩ [106,117,109,112] = true by rw [show isW ⟨#[105,110,99]⟩ [106,117,109,112] = false from by kernel_rfl]; decide)]
 rw [if_neg (show ¬ isW ⟨#[105,110,99]⟩ [108,101,115,115] = true by rw [show isW ⟨#[105,110,99]⟩ [108,101,115,115] = false from by kernel_rfl]; decide)]
 rw [if_neg (show ¬ isW ⟨#[105,110,99]⟩ [115,97,109,101] = true by rw [show isW ⟨#[105,110,99]⟩ [115,97,109,101] = false from by kernel_rfl]; decide)]
 rw [if_neg (show ¬ isW ⟨#[105,110,99]⟩ [99,97,108,108] = true by rw [show isW ⟨#[105,110,99]⟩ [99,97,108,108] = false from by kernel_rfl]; decide)]
 rw [if_neg (show ¬ isW ⟨#[105,110,99]⟩ [98,97,99,107] = true by rw [show isW ⟨#[105,110,99]⟩ [98,97,99,107] = false from by kernel_rfl]; decide)]
 rw [if_neg (show ¬ isW ⟨#[105,110,99]⟩ [115,116,111,112] = true by rw [show isW ⟨#[105,110,99]⟩ [115,116,111,112] = false from by kernel_rfl]; decide)]
 rw [if_neg (show ¬ isW ⟨#[105,110,99]⟩ [115,101,116] = true by rw [show isW ⟨#[105,110,99]⟩ [115,101,116] = false from by kernel_rfl]; decide)]
 rw [if_neg (show ¬ isW ⟨#[105,110,99]⟩ [109,111,118] = true by rw [show isW ⟨#[105,110,99]⟩ [109,111,118] = false from by kernel_rfl]; decide)]
 rw [if_neg (show ¬ isW ⟨#[105,110,99]⟩ [97,100,100] = true by rw [show isW ⟨#[105,110,99]⟩ [97,100,100] = false from by kernel_rfl]; decide)]
 rw [if_neg (show ¬ isW ⟨#[105,110,99]⟩ [115,117,98] = true by rw [show isW ⟨#[105,110,99]⟩ [115,117,98] = false from by kernel_rfl]; decide)]
 rw [if_neg (show ¬ isW ⟨#[105,110,99]⟩ [109,117,108] = true by rw [show isW ⟨#[105,110,99]⟩ [109,117,108] = false from by kernel_rfl]; decide)]
 rw [if_pos (show isW ⟨#[105,110,99]⟩ [105,110,99] = true from by kernel_rfl)]
 rfl
theorem zkG (L : List Said) (k : Nat) (q : Said) (x1 x2 : ByteArray) (h : q.kept = [⟨#[108,111,97,100]⟩,x1,x2]) : insQ L k q = .load (regN x1) (regN x2):=by
 obtain ⟨kd,kp,ok⟩:=q
 simp only at h
 subst h
 unfold insQ
 rw [show (⟨kd,[⟨#[108,111,97,100]⟩,x1,x2],ok⟩ : Said).word 0 = ⟨#[108,111,97,100]⟩ from rfl]
 rw [if_neg (show ¬ isW ⟨#[108,111,97,100]⟩ [106,117,109,112] = true by rw [show isW ⟨#[108,111,97,100]⟩ [106,117,109,112] = false from by kernel_rfl]; decide)]
 rw [if_neg (show ¬ isW ⟨#[108,111,97,100]⟩ [108,101,115,115] = true by rw [show isW ⟨#[108,111,97,100]⟩ [108,101,115,115] = false from by kernel_rfl]; decide)]
 rw [if_neg (show ¬ isW ⟨#[108,111,97,100]⟩ [115,97,109,101] = true by rw [show isW ⟨#[108,111,97,100]⟩ [115,97,109,101] = false from by kernel_rfl]; decide)]
 rw [if_neg (show ¬ isW ⟨#[108,111,97,100]⟩ [99,97,108,108] = true by rw [show isW ⟨#[108,111,97,100]⟩ [99,97,108,108] = false from by kernel_rfl]; decide)]
 rw [if_neg (show ¬ isW ⟨#[108,111,97,100]⟩ [98,97,99,107] = true by rw [show isW ⟨#[108,111,97,100]⟩ [98,97,99,107] = false from by kernel_rfl]; decide)]
 rw [if_neg (show ¬ isW ⟨#[108,111,97,100]⟩ [115,116,111,112] = true by rw [show isW ⟨#[108,111,97,100]⟩ [115,116,111,112] = false from by kernel_rfl]; decide)]
 rw [if_neg (show ¬ isW ⟨#[108,111,97,100]⟩ [115,101,116] = true by rw [show isW ⟨#[108,111,97,100]⟩ [115,101,116] = false from by kernel_rfl]; decide)]
 rw [if_neg (show ¬ isW ⟨#[108,111,97,100]⟩ [109,111,118] = true by rw [show isW ⟨#[108,111,97,100]⟩ [109,111,118] = false from by kernel_rfl]; decide)]
 rw [if_neg (show ¬ isW ⟨#[108,111,97,100]⟩ [97,100,100] = true by rw [show isW ⟨#[108,111,97,100]⟩ [97,100,100] = false from by kernel_rfl]; decide)]
 rw [if_neg (show ¬ isW ⟨#[108,111,97,100]⟩ [115,117,98] = true by rw [show isW ⟨#[108,111,97,100]⟩ [115,117,98] = false from by kernel_rfl]; decide)]
 rw [if_neg (show ¬ isW ⟨#[108,111,97,100]⟩ [109,117,108] = true by rw [show isW ⟨#[108,111,97,100]⟩ [109,117,108] = false from by kernel_rfl]; decide)]
 rw [if_neg (show ¬ isW ⟨#[108,111,97,100]⟩ [105,110,99] = true by rw [show isW ⟨#[108,111,97,100]⟩ [105,110,99] = false from by kernel_rfl]; decide)]
 rw [if_pos (show isW ⟨#[108,111,97,100]⟩ [108,111,97,100] = true from by kernel_rfl)]
 rfl
theorem zi9 (L : List Said) (k : Nat) (q : Said) (x1 x2 : ByteArray) (h : q.kept = [⟨#[115,116,111,114,101]⟩,x1,x2]) : insQ L k q = .store (regN x1) (regN x2):=by
 obtain ⟨kd,kp,ok⟩:=q
 simp only at h
 subst h
 unfold insQ
 rw [show (⟨kd,[⟨#[115,116,111,114,101]⟩,x1,x2],ok⟩ : Said).word 0 = ⟨#[115,116,111,114,101]⟩ from rfl]
 rw [if_neg (show ¬ isW ⟨#[115,116,111,114,101]⟩ [106,117,109,112] = true by rw [show isW ⟨#[115,116,111,114,101]⟩ [106,117,109,112] = false from by kernel_rfl]; decide)]
 rw [if_neg (show ¬ isW ⟨#[115,116,111,114,101]⟩ [108,101,115,115] = true by rw [show isW ⟨#[115,116,111,114,101]⟩ [108,101,115,115] = false from by kernel_rfl]; decide)]
 rw [if_neg (show ¬ isW ⟨#[115,116,111,114,101]⟩ [115,97,109,101] = true by rw [show isW ⟨#[115,116,111,114,101]⟩ [115,97,109,101] = false from by kernel_rfl]; decide)]
 rw [if_neg (show ¬ isW ⟨#[115,116,111,114,101]⟩ [99,97,108,108] = true by rw [show isW ⟨#[115,116,111,114,101]⟩ [99,97,108,108] = false from by kernel_rfl]; decide)]
 rw [if_neg (show ¬ isW ⟨#[115,116,111,114,101]⟩ [98,97,99,107] = true by rw [show isW ⟨#[115,116,111,114,101]⟩ [98,97,99,107] = false from by kernel_rfl]; decide)]
 rw [if_neg (show ¬ isW ⟨#[115,116,111,114,101]⟩ [115,116,111,112] = true by rw [show isW ⟨#[115,116,111,114,101]⟩ [115,116,111,112] = false from by kernel_rfl]; decide)]
 rw [if_neg (show ¬ isW ⟨#[115,116,111,114,101]⟩ [115,101,116] = true by rw [show isW ⟨#[115,116,111,114,101]⟩ [115,101,116] = false from by kernel_rfl]; decide)]
 rw [if_neg (show ¬ isW ⟨#[115,116,111,114,101]⟩ [109,111,118] = true by rw [show isW ⟨#[115,116,111,114,101]⟩ [109,111,118] = false from by kernel_rfl]; decide)]
 rw [if_neg (show ¬ isW ⟨#[115,116,111,114,101]⟩ [97,100,100] = true by rw [show isW ⟨#[115,116,111,114,101]⟩ [97,100,100] = false from by kernel_rfl]; decide)]
 rw [if_neg (show ¬ isW ⟨#[115,116,111,114,101]⟩ [115,117,98] = true by rw [show isW ⟨#[115,116,111,114,101]⟩ [115,117,98] = false from by kernel_rfl]; decide)]
 rw [if_neg (show ¬ isW ⟨#[115,116,111,114,101]⟩ [109,117,108] = true by rw [show isW ⟨#[115,116,111,114,101]⟩ [109,117,108] = false from by kernel_rfl]; decide)]
 rw [if_neg (show ¬ isW ⟨#[115,116,111,114,101]⟩ [105,110,99] = true by rw [show isW ⟨#[115,116,111,114,101]⟩ [105,110,99] = false from by kernel_rfl]; decide)]
 rw [if_neg (show ¬ isW ⟨#[115,116,111,114,101]⟩ [108,111,97,100] = true by rw [show isW ⟨#[115,116,111,114,101]⟩ [108,111,97,100] = false from by kernel_rfl]; decide)]
 rw [if_pos (show isW ⟨#[115,116,111,114,101]⟩ [115,116,111,114,101] = true from by kernel_rfl)]
 rfl
theorem zkH (L : List Said) (k : Nat) (q : Said) (x1 : ByteArray) (h : q.kept = [⟨#[114,101,97,100]⟩,x1]) : insQ L k q = .read (regN x1):=by
 obtain ⟨kd,kp,ok⟩:=q
 simp only at h
 subst h
 unfold insQ
 rw [show (⟨kd,[⟨#[114,101,97,100]⟩,x1],ok⟩ : Said).word 0 = ⟨#[114,101,97,100]⟩ from rfl]
 rw [if_neg (show ¬ isW ⟨#[114,101,97,100]⟩ [106,117,109,112] = true by rw [show isW ⟨#[114,101,97,100]⟩ [106,117,109,112] = false from by kernel_rfl]; decide)]
 rw [if_neg (show ¬ isW ⟨#[114,101,97,100]⟩ [108,101,115,115] = true by rw [show isW ⟨#[114,101,97,100]⟩ [108,101,115,115] = false from by kernel_rfl]; decide)]
 rw [if_neg (show ¬ isW ⟨#[114,101,97,100]⟩ [115,97,109,101] = true by rw [show isW ⟨#[114,101,97,100]⟩ [115,97,109,101] = false from by kernel_rfl]; decide)]
 rw [if_neg (show ¬ isW ⟨#[114,101,97,100]⟩ [99,97,108,108] = true by rw [show isW ⟨#[114,101,97,100]⟩ [99,97,108,108] = false from by kernel_rfl]; decide)]
 rw [if_neg (show ¬ isW ⟨#[114,101,97,100]⟩ [98,97,99,107] = true by rw [show isW ⟨#[114,101,97,100]⟩ [98,97,99,107] = false from by kernel_rfl]; decide)]
 rw [if_neg (show ¬ isW ⟨#[114,101,97,100]⟩ [115,116,111,112] = true by rw [show isW ⟨#[114,101,97,100]⟩ [115,116,111,112] = false from by kernel_rfl]; decide)]
 rw [if_neg (show ¬ isW ⟨#[114,101,97,100]⟩ [115,101,116] = true by rw [show isW ⟨#[114,101,97,100]⟩ [115,101,116] = false from by kernel_rfl]; decide)]
 rw [if_neg (show ¬ isW ⟨#[114,101,97,100]⟩ [109,111,118] = true by rw [show isW ⟨#[114,101,97,100]⟩ [109,111,118] = false from by kernel_rfl]; decide)]
 rw [if_neg (show ¬ isW ⟨#[114,101,97,100]⟩ [97,100,100] = true by rw [show isW ⟨#[114,101,97,100]⟩ [97,100,100] = false from by kernel_rfl]; decide)]
 rw [if_neg (show ¬ isW ⟨#[114,101,97,100]⟩ [115,117,98] = true by rw [show isW ⟨#[114,101,97,100]⟩ [115,117,98] = false from by kernel_rfl]; decide)]
 rw [if_neg (show ¬ isW ⟨#[114,101,97,100]⟩ [109,117,108] = true by rw [show isW ⟨#[114,101,97,100]⟩ [109,117,108] = false from by kernel_rfl]; decide)]
 rw [if_neg (show ¬ isW ⟨#[114,101,97,100]⟩ [105,110,99] = true by rw [show isW ⟨#[114,101,97,100]⟩ [105,110,99] = false from by kernel_rfl]; decide)]
 rw [if_neg (show ¬ isW ⟨#[114,101,97,100]⟩ [108,111,97,100] = true by rw [show isW ⟨#[114,101,97,100]⟩ [108,111,97,100] = false from by kernel_rfl]; decide)]
 rw [if_neg (show ¬ isW ⟨#[114,101,97,100]⟩ [115,116,111,114,101] = true by rw [show isW ⟨#[114,101,97,100]⟩ [115,116,111,114,101] = false from by kernel_rfl]; decide)]
 rw [if_pos (show isW ⟨#[114,101,97,100]⟩ [114,101,97,100] = true from by kernel_rfl)]
 rfl
theorem ziA (L : List Said) (k : Nat) (q : Said) (x1 : ByteArray) (h : q.kept = [⟨#[119,114,105,116,101]⟩,x1]) : insQ L k q = .write (regN x1):=by
 obtain ⟨kd,kp,ok⟩:=q
 simp only at h
 subst h
 unfold insQ
 rw [show (⟨kd,[⟨#[119,114,105,116,101]⟩,x1],ok⟩ : Said).word 0 = ⟨#[119,114,105,116,101]⟩ from rfl]
 rw [if_neg (show ¬ isW ⟨#[119,114,105,116,101]⟩ [106,117,109,112] = true by rw [show isW ⟨#[119,114,105,116,101]⟩ [106,117,109,112] = false from by kernel_rfl]; decide)]
 rw [if_neg (show ¬ isW ⟨#[119,114,105,116,101]⟩ [108,101,115,115] = true by rw [show isW ⟨#[119,114,105,116,101]⟩ [108,101,115,115] = false from by kernel_rfl]; decide)]
 rw [if_neg (show ¬ isW ⟨#[119,114,105,116,101]⟩ [115,97,109,101] = true by rw [show isW ⟨#[119,114,105,116,101]⟩ [115,97,109,101] = false from by kernel_rfl]; decide)]
 rw [if_neg (show ¬ isW ⟨#[119,114,105,116,101]⟩ [99,97,108,108] = true by rw [show isW ⟨#[119,114,105,116,101]⟩ [99,97,108,108] = false from by kernel_rfl]; decide)]
 rw [if_neg (show ¬ isW ⟨#[119,114,105,116,101]⟩ [98,97,99,107] = true by rw [show isW ⟨#[119,114,105,116,101]⟩ [98,97,99,107] = false from by kernel_rfl]; decide)]
 rw [if_neg (show ¬ isW ⟨#[119,114,105,116,101]⟩ [115,116,111,112] = true by rw [show isW ⟨#[119,114,105,116,101]⟩ [115,116,111,112] = false from by kernel_rfl]; decide)]
 rw [if_neg (show ¬ isW ⟨#[119,114,105,116,101]⟩ [115,101,116] = true by rw [show isW ⟨#[119,114,105,116,101]⟩ [115,101,116] = false from by kernel_rfl]; decide)]
 rw [if_neg (show ¬ isW ⟨#[119,114,105,116,101]⟩ [109,111,118] = true by rw [show isW ⟨#[119,114,105,116,101]⟩ [109,111,118] = false from by kernel_rfl]; decide)]
 rw [if_neg (show ¬ isW ⟨#[119,114,105,116,101]⟩ [97,100,100] = true by rw [show isW ⟨#[119,114,105,116,101]⟩ [97,100,100] = false from by kernel_rfl]; decide)]
 rw [if_neg (show ¬ isW ⟨#[119,114,105,116,101]⟩ [115,117,98] = true by rw [show isW ⟨#[119,114,105,116,101]⟩ [115,117,98] = false from by kernel_rfl]; decide)]
 rw [if_neg (show ¬ isW ⟨#[119,114,105,116,101]⟩ [109,117,108] = true by rw [show isW ⟨#[119,114,105,116,101]⟩ [109,117,108] = false from by kernel_rfl]; decide)]
 rw [if_neg (show ¬ isW ⟨#[119,114,105,116,101]⟩ [105,110,99] = true by rw [show isW ⟨#[119,114,105,116,101]⟩ [105,110,99] = false from by kernel_rfl]; decide)]
 rw [if_neg (show ¬ isW ⟨#[119,114,105,116,101]⟩ [108,111,97,100] = true by rw [show isW ⟨#[119,114,105,116,101]⟩ [108,111,97,100] = false from by kernel_rfl]; decide)]
 rw [if_neg (show ¬ isW ⟨#[119,114,105,116,101]⟩ [115,116,111,114,101] = true by rw [show isW ⟨#[119,114,105,116,101]⟩ [115,116,111,114,101] = false from by kernel_rfl]; decide)]
 rw [if_neg (show ¬ isW ⟨#[119,114,105,116,101]⟩ [114,101,97,100] = true by rw [show isW ⟨#[119,114,105,116,101]⟩ [114,101,97,100] = false from by kernel_rfl]; decide)]
 rfl
end Go.Proofs.YtfpgjkbjbbgciaaGreatDoor
