import Derived.Test.YtfpgjkbjbbgciaaGreatDoorMf13
set_option maxRecDepth 100000
set_option maxHeartbeats 8000000
namespace Go.Proofs.YtfpgjkbjbbgciaaGreatDoor
open Sp
inductive Form : List ByteArray → Prop
 | set_ (x1 x2 : ByteArray) (hx1 : 0 ≤ reg x1) (hx2 : (zbj x2).2 = true) : Form [⟨#[115,101,116]⟩,x1,x2]
 | inc_ (x1 x2 : ByteArray) (hx1 : 0 ≤ reg x1) (hx2 : (zbj x2).2 = true) : Form [⟨#[105,110,99]⟩,x1,x2]
 | mov_ (x1 x2 : ByteArray) (hx1 : 0 ≤ reg x1) (hx2 : 0 ≤ reg x2) : Form [⟨#[109,111,118]⟩,x1,x2]
 | load_ (x1 x2 : ByteArray) (hx1 : 0 ≤ reg x1) (hx2 : 0 ≤ reg x2) : Form [⟨#[108,111,97,100]⟩,x1,x2]
 | store_ (x1 x2 : ByteArray) (hx1 : 0 ≤ reg x1) (hx2 : 0 ≤ reg x2) : Form [⟨#[115,116,111,114,101]⟩,x1,x2]
 | add_ (x1 x2 x3 : ByteArray) (hx1 : 0 ≤ reg x1) (hx2 : 0 ≤ reg x2) (hx3 : 0 ≤ reg x3) : Form [⟨#[97,100,100]⟩,x1,x2,x3]
 | sub_ (x1 x2 x3 : ByteArray) (hx1 : 0 ≤ reg x1) (hx2 : 0 ≤ reg x2) (hx3 : 0 ≤ reg x3) : Form [⟨#[115,117,98]⟩,x1,x2,x3]
 | mul_ (x1 x2 x3 : ByteArray) (hx1 : 0 ≤ reg x1) (hx2 : 0 ≤ reg x2) (hx3 : 0 ≤ reg x3) : Form [⟨#[109,117,108]⟩,x1,x2,x3]
 | read_ (x1 : ByteArray) (hx1 : 0 ≤ reg x1) : Form [⟨#[114,101,97,100]⟩,x1]
 | write_ (x1 : ByteArray) (hx1 : 0 ≤ reg x1) : Form [⟨#[119,114,105,116,101]⟩,x1]
 | jump_ (x1 : ByteArray) (hx1 : zau x1 = true) : Form [⟨#[106,117,109,112]⟩,x1]
 | call_ (x1 : ByteArray) (hx1 : zau x1 = true) : Form [⟨#[99,97,108,108]⟩,x1]
 | less_ (x1 x2 x3 : ByteArray) (hx1 : 0 ≤ reg x1) (hx2 : 0 ≤ reg x2) (hx3 : zau x3 = true) : Form [⟨#[108,101,115,115]⟩,x1,x2,x3]
 | same_ (x1 x2 x3 : ByteArray) (hx1 : 0 ≤ reg x1) (hx2 : 0 ≤ reg x2) (hx3 : zau x3 = true) : Form [⟨#[115,97,109,101]⟩,x1,x2,x3]
 | back_ : Form [⟨#[98,97,99,107]⟩]
 | stop_ : Form [⟨#[115,116,111,112]⟩]
theorem op_r (x : ByteArray) : opOk 82 x = decide (0 ≤ reg x):=rfl
theorem op_k (x : ByteArray) : opOk 75 x = (zbj x).2:=rfl
theorem op_n (x : ByteArray) : opOk 78 x = zau x:=rfl
theorem zqU (x : ByteArray) (r : List ByteArray) (h : zfp x r = true) : Form (x :: r):=by
 unfold zfp at h
 cases h0 : (x.toList == [115,101,116]) with
 | true =>
  have:=zax x _ h0
  subst this
  change (if zaa ⟨#[115,101,116]⟩ = [63] ∨ ¬ r.length = (zaa ⟨#[115,101,116]⟩).length then false else zav (zaa ⟨#[115,101,116]⟩) r) = true at h
  rw [zfM] at h
  split at h
  ·cases h
  ·rename_i hc
   have hl : r.length = 2:=by
    rcases Nat.decEq r.length 2 with h' | h'
    ·exact absurd (.inr (by simpa using h')) hc
    ·exact h'
   match r,hl,h with
   | [x1,x2],_,h =>
    simp only [zav,op_r,op_k,Bool.and_true,Bool.and_eq_true,decide_eq_true_eq] at h
    exact .set_ x1 x2 h.1 h.2
 | false =>
  cases h1 : (x.toList == [105,110,99]) with
  | true =>
   have:=zax x _ h1
   subst this
   change (if zaa ⟨#[105,110,99]⟩ = [63] ∨ ¬ r.length = (zaa ⟨#[105,110,99]⟩).length then false else zav (zaa ⟨#[105,110,99]⟩) r) = true at h
   rw [zfN] at h
   split at h
   ·cases h
   ·rename_i hc
    have hl : r.length = 2:=by
     rcases Nat.decEq r.length 2 with h' | h'
     ·exact absurd (.inr (by simpa using h')) hc
     ·exact h'
    match r,hl,h with
    | [x1,x2],_,h =>
     simp only [zav,op_r,op_k,Bool.and_true,Bool.and_eq_true,decide_eq_true_eq] at h
     exact .inc_ x1 x2 h.1 h.2
  | false =>
   cases h2 : (x.toList == [109,111,118]) with
   | true =>
    have:=zax x _ h2
    subst this
    change (if zaa ⟨#[109,111,118]⟩ = [63] ∨ ¬ r.length = (zaa ⟨#[109,111,118]⟩).length then false else zav (zaa ⟨#[109,111,118]⟩) r) = true at h
    rw [zfO] at h
    split at h
    ·cases h
    ·rename_i hc
     have hl : r.length = 2:=by
      rcases Nat.decEq r.length 2 with h' | h'
      ·exact absurd (.inr (by simpa using h')) hc
      ·exact h'
     match r,hl,h with
     | [x1,x2],_,h =>
      simp only [zav,op_r,Bool.and_true,Bool.and_eq_true,decide_eq_true_eq] at h
      exact .mov_ x1 x2 h.1 h.2
   | false =>
    cases h3 : (x.toList == [108,111,97,100]) with
    | true =>
     have:=zax x _ h3
     subst this
     change (if zaa ⟨#[108,111,97,100]⟩ = [63] ∨ ¬ r.length = (zaa ⟨#[108,111,97,100]⟩).length then false else zav (zaa ⟨#[108,111,97,100]⟩) r) = true at h
     rw [zfb] at h
     split at h
     ·cases h
     ·rename_i hc
      have hl : r.length = 2:=by
       rcases Nat.decEq r.length 2 with h' | h'
       ·exact absurd (.inr (by simpa using h')) hc
       ·exact h'
      match r,hl,h with
      | [x1,x2],_,h =>
       simp only [zav,op_r,Bool.and_true,Bool.and_eq_true,decide_eq_true_eq] at h
       exact .load_ x1 x2 h.1 h.2
    | false =>
     cases h4 : (x.toList == [115,116,111,114,101]) with
     | true =>
      have:=zax x _ h4
      subst this
      change (if zaa ⟨#[115,116,111,114,101]⟩ = [63] ∨ ¬ r.length = (zaa ⟨#[115,116,111,114,101]⟩).length then false else zav (zaa ⟨#[115,116,111,114,101]⟩) r) = true at h
      rw [zem] at h
      split at h
      ·cases h
      ·rename_i hc
       have hl : r.length = 2:=by
        rcases Nat.decEq r.length 2 with h' | h'
        ·exact absurd (.inr (by simpa using h')) hc
        ·exact h'
       match r,hl,h with
       | [x1,x2],_,h =>
        simp only [zav,op_r,Bool.and_true,Bool.and_eq_true,decide_eq_true_eq] at h
        exact .store_ x1 x2 h.1 h.2
     | false =>
      cases h5 : (x.toList == [97,100,100]) with
      | true =>
       have:=zax x _ h5
       subst this
       change (if zaa ⟨#[97,100,100]⟩ = [63] ∨ ¬ r.length = (zaa ⟨#[97,100,100]⟩).length then false else zav (zaa ⟨#[97,100,100]⟩) r) = true at h
       rw [zfP] at h
       split at h
       ·cases h
       ·rename_i hc
        have hl : r.length = 3:=by
         rcases Nat.decEq r.length 3 with h' | h'
         ·exact absurd (.inr (by simpa using h')) hc
         ·exact h'
        match r,hl,h with
        | [x1,x2,x3],_,h =>
         simp only [zav,op_r,Bool.and_true,Bool.and_eq_true,decide_eq_true_eq] at h
         exact .add_ x1 x2 x3 h.1 h.2.1 h.2.2
      | false =>
       cases h6 : (x.toList == [115,117,98]) with
       | true =>
        have:=zax x _ h6
        subst this
        change (if zaa ⟨#[115,117,98]⟩ = [63] ∨ ¬ r.length = (zaa ⟨#[115,117,98]⟩).length then false else zav (zaa ⟨#[115,117,98]⟩) r) = true at h
        rw [zfQ] at h
        split at h
        ·cases h
        ·rename_i hc
         have hl : r.length = 3:=by
          rcases Nat.decEq r.length 3 with h' | h'
          ·exact absurd (.inr (by simpa using h')) hc
          ·exact h'
         match r,hl,h with
         | [x1,x2,x3],_,h =>
          simp only [zav,op_r,Bool.and_true,Bool.and_eq_true,decide_eq_true_eq] at h
          exact .sub_ x1 x2 x3 h.1 h.2.1 h.2.2
       | false =>
        cases h7 : (x.toList == [109,117,108]) with
        | true =>
         have:=zax x _ h7
         subst this
         change (if zaa ⟨#[109,117,108]⟩ = [63] ∨ ¬ r.length = (zaa ⟨#[109,117,108]⟩).length then false else zav (zaa ⟨#[109,117,108]⟩) r) = true at h
         rw [zfR] at h
         split at h
         ·cases h
         ·rename_i hc
          have hl : r.length = 3:=by
           rcases Nat.decEq r.length 3 with h' | h'
           ·exact absurd (.inr (by simpa using h')) hc
           ·exact h'
          match r,hl,h with
          | [x1,x2,x3],_,h =>
           simp only [zav,op_r,Bool.and_true,Bool.and_eq_true,decide_eq_true_eq] at h
           exact .mul_ x1 x2 x3 h.1 h.2.1 h.2.2
        | false =>
         cases h8 : (x.toList == [114,101,97,100]) with
         | true =>
          have:=zax x _ h8
          subst this
          change (if zaa ⟨#[114,101,97,100]⟩ = [63] ∨ ¬ r.length = (zaa ⟨#[114,101,97,100]⟩).length then false else zav (zaa ⟨#[114,101,97,100]⟩) r) = true at h
          rw [zfc] at h
          split at h
          ·cases h
          ·rename_i hc
           have hl : r.length = 1:=by
            rcases Nat.decEq r.length 1 with h' | h'
            ·exact absurd (.inr (by simpa using h')) hc
            ·exact h'
           match r,hl,h with
           | [x1],_,h =>
            simp only [zav,op_r,Bool.and_true,decide_eq_true_eq] at h
            exact .read_ x1 h
         | false =>
          cases h9 : (x.toList == [119,114,105,116,101]) with
          | true =>
           have:=zax x _ h9
           subst this
           change (if zaa ⟨#[119,114,105,116,101]⟩ = [63] ∨ ¬ r.length = (zaa ⟨#[119,114,105,116,101]⟩).length then false else zav (zaa ⟨#[119,114,105,116,101]⟩) r) = true at h
           rw [zen] at h
           split at h
           ·cases h
           ·rename_i hc
            have hl : r.length = 1:=by
             rcases Nat.decEq r.length 1 with h' | h'
             ·exact absurd (.inr (by simpa using h')) hc
             ·exact h'
            match r,hl,h with
            | [x1],_,h =>
             simp only [zav,op_r,Bool.and_true,decide_eq_true_eq] at h
             exact .write_ x1 h
          | false =>
           cases h10 : (x.toList == [106,117,109,112]) with
           | true =>
            have:=zax x _ h10
            subst this
            change (if zaa ⟨#[106,117,109,112]⟩ = [63] ∨ ¬ r.length = (zaa ⟨#[106,117,109,112]⟩).length then false else zav (zaa ⟨#[106,117,109,112]⟩) r) = true at h
            rw [zfd] at h
            split at h
            ·cases h
            ·rename_i hc
             have hl : r.length = 1:=by
              rcases Nat.decEq r.length 1 with h' | h'
              ·exact absurd (.inr (by simpa using h')) hc
              ·exact h'
             match r,hl,h with
             | [x1],_,h =>
              simp only [zav,op_n,Bool.and_true] at h
              exact .jump_ x1 h
           | false =>
            cases h11 : (x.toList == [99,97,108,108]) with
            | true =>
             have:=zax x _ h11
             subst this
             change (if zaa ⟨#[99,97,108,108]⟩ = [63] ∨ ¬ r.length = (zaa ⟨#[99,97,108,108]⟩).length then false else zav (zaa ⟨#[99,97,108,108]⟩) r) = true at h
             rw [zfe] at h
             split at h
             ·cases h
             ·rename_i hc
              have hl : r.length = 1:=by
               rcases Nat.decEq r.length 1 with h' | h'
               ·exact absurd (.inr (by simpa using h')) hc
               ·exact h'
              match r,hl,h with
              | [x1],_,h =>
               simp only [zav,op_n,Bool.and_true] at h
               exact .call_ x1 h
            | false =>
             cases h12 : (x.toList == [108,101,115,115]) with
             | true =>
              have:=zax x _ h12
              subst this
              change (if zaa ⟨#[108,101,115,115]⟩ = [63] ∨ ¬ r.length = (zaa ⟨#[108,101,115,115]⟩).length then false else zav (zaa ⟨#[108,101,115,115]⟩) r) = true at h
              rw [zff] at h
              split at h
              ·cases h
              ·rename_i hc
               have hl : r.length = 3:=by
                rcases Nat.decEq r.length 3 with h' | h'
                ·exact absurd (.inr (by simpa using h')) hc
                ·exact h'
               match r,hl,h with
               | [x1,x2,x3],_,h =>
                simp only [zav,op_r,op_n,Bool.and_true,Bool.and_eq_true,decide_eq_true_eq] at h
                exact .less_ x1 x2 x3 h.1 h.2.1 h.2.2
             | false =>
              cases h13 : (x.toList == [115,97,109,101]) with
              | true =>
               have:=zax x _ h13
               subst this
               change (if zaa ⟨#[115,97,109,101]⟩ = [63] ∨ ¬ r.length = (zaa ⟨#[115,97,109,101]⟩).length then false else zav (zaa ⟨#[115,97,109,101]⟩) r) = true at h
               rw [zfg] at h
               split at h
               ·cases h
               ·rename_i hc
                have hl : r.length = 3:=by
                 rcases Nat.decEq r.length 3 with h' | h'
                 ·exact absurd (.inr (by simpa using h')) hc
                 ·exact h'
                match r,hl,h with
                | [x1,x2,x3],_,h =>
                 simp only [zav,op_r,op_n,Bool.and_true,Bool.and_eq_true,decide_eq_true_eq] at h
                 exact .same_ x1 x2 x3 h.1 h.2.1 h.2.2
              | false =>
               cases h14 : (x.toList == [98,97,99,107]) with
               | true =>
                have:=zax x _ h14
                subst this
                change (if zaa ⟨#[98,97,99,107]⟩ = [63] ∨ ¬ r.length = (zaa ⟨#[98,97,99,107]⟩).length then false else zav (zaa ⟨#[98,97,99,107]⟩) r) = true at h
                rw [zfh] at h
                split at h
                ·cases h
                ·rename_i hc
                 have hl : r.length = 0:=by
                  rcases Nat.decEq r.length 0 with h' | h'
                  ·exact absurd (.inr (by simpa using h')) hc
                  ·exact h'
                 obtain rfl : r = []:=List.eq_nil_of_length_eq_zero hl
                 exact .back_
               | false =>
                cases h15 : (x.toList == [115,116,111,112]) with
                | true =>
                 have:=zax x _ h15
                 subst this
                 change (if zaa ⟨#[115,116,111,112]⟩ = [63] ∨ ¬ r.length = (zaa ⟨#[115,116,111,112]⟩).length then false else zav (zaa ⟨#[115,116,111,112]⟩) r) = true at h
                 rw [zfi] at h
                 split at h
                 ·cases h
                 ·rename_i hc
                  have hl : r.length = 0:=by
                   rcases Nat.decEq r.length 0 with h' | h'
                   ·exact absurd (.inr (by simpa using h')) hc
                   ·exact h'
                  obtain rfl : r = []:=List.eq_nil_of_length_eq_zero hl
                  exact .stop_
                | false =>
                 rw [if_pos (.inl (zkt x h0 h1 h2 h3 h4 h5 h6 h7 h8 h9 h10 h11 h12 h13 h14 h15))] at h; cases h
theorem zaF (x : ByteArray) (h : 0 ≤ reg x) : regN x < 8 ∧ reg x = (regN x : Int):=by
 have : reg x ≤ 7:=by
  unfold reg at h ⊢
  split
  ·rename_i hb
   unfold regB at hb
   simp at hb
   omega
  ·omega
 unfold regN
 omega
theorem zqV (s : ByteArray) (h : (say s).ok = true) (h5 : (say s).kind = 105) : Form (say s).kept:=by
 have hv : zar s 0 = true:=by
  cases hv : zar s 0 with
  | true => rfl
  | false => rw [zdT s hv] at h; cases h
 rw [zfV s hv] at h h5 ⊢
 generalize zs4 s = l at h h5 ⊢
 cases l with
 | nil => simp [sayW] at h5
 | cons x r =>
  have e : sayW (x :: r) = ⟨105,x :: r,if zaa x = [63] ∨ ¬ (x :: r).length = (zaa x).length + 1 then false else zav (zaa x) r⟩:=by
   unfold sayW at h5 ⊢
   dsimp only at h5 ⊢
   split at h5
   ·simp at h5
   ·rename_i hf
    rw [if_neg hf]
    split at h5
    ·simp at h5
    ·rename_i hg
     rw [if_neg hg]
  rw [e] at h ⊢
  refine zqU x r ?_
  simpa [zfp] using h
end Go.Proofs.YtfpgjkbjbbgciaaGreatDoor
