import Derived.Test.YtfpgjkbjbbgciaaGreatDoorMf01
import Derived.Test.YtfpgjkbjbbgciaaGreatDoorMf02
set_option maxRecDepth 100000
set_option maxHeartbeats 8000000
namespace Go.Proofs.YtfpgjkbjbbgciaaGreatDoor
open Go.RowKit Sp
theorem zaN (c : Int) (w : World) : Calls Tryz.prog 163 #[.int .i32 c] w fun e w' => e = .returned (.bool (zaD c)) ∧ w' = w:=by
 by_cases h1 : 48 ≤ c
 ·by_cases h2 : c ≤ 57
  ·have HQ : Hid (true = zaD c):=by unfold Hid; simp [zaD,h1,h2]
   go_enter Tryz.func163,Tryz.ntmps163
   go_wp2
   go_ret
   exact ⟨zbN HQ.out,rfl⟩
  ·have h3 : 57 < c:=by omega
   have HQ : Hid (false = zaD c):=by unfold Hid; simp [zaD]; omega
   go_enter Tryz.func163,Tryz.ntmps163
   go_wp2
   go_ret
   exact ⟨zbN HQ.out,rfl⟩
 ·have h3 : c < 48:=by omega
  have HQ : Hid (false = zaD c):=by unfold Hid; simp [zaD]; omega
  go_enter Tryz.func163,Tryz.ntmps163
  go_wp2
  go_ret
  exact ⟨zbN HQ.out,rfl⟩
def zg0 (c : Int) : Bool:=zbZ c || zaD c
theorem zmD (c : Int) : ((97 ≤ c ∧ c ≤ 122) ∨ (48 ≤ c ∧ c ≤ 57 ∧ zaD c = true) ∨ (95 ≤ c ∧ c ≤ 95 ∧ (c == 95) = true ∧ zaD c = false) ∨ (945 ≤ c ∧ c ≤ 969 ∧ (c == 95) = false ∧ zaD c = false)) ∨
  ((c < 48 ∧ (c == 95) = false ∧ zaD c = false) ∨ (57 < c ∧ c < 95 ∧ (c == 95) = false ∧ zaD c = false) ∨ (95 < c ∧ c < 97 ∧ (c == 95) = false ∧ zaD c = false) ∨ (122 < c ∧ c < 945 ∧ (c == 95) = false ∧ zaD c = false) ∨ (969 < c ∧ (c == 95) = false ∧ zaD c = false)):=by
 by_cases h' : c = 95 <;> simp [h',zaD] <;> omega
theorem zb0 (c : Int) (w : World) : Calls Tryz.prog 162 #[.int .i32 c] w fun e w' => e = .returned (.bool (zg0 c)) ∧ w' = w:=by
 rcases zmD c with hw | hw
 ·have HQ : Hid (true = zg0 c):=by
   unfold Hid zg0
   rcases hw with h | h | h | h
   ·simp [zbZ]; omega
   ·simp [h.2.2]
   ·simp [zbZ]; omega
   ·simp [zbZ]; omega
  rcases hw with ⟨h1,h2⟩ | ⟨h1,h2,h3⟩ | ⟨h1,h2,h3,h4⟩ | ⟨h1,h2,h3,h4⟩
  all_goals
   go_enter Tryz.func162,Tryz.ntmps162
   go_wp2_with (go_at_call 163; refine (zaN c _).mono ?_; rintro e w' ⟨rfl,rfl⟩)
   go_ret
   exact ⟨zbN HQ.out,rfl⟩
 ·have HQ : Hid (false = zg0 c):=by
   unfold Hid zg0
   rcases hw with h | h | h | h | h
   ·rw [h.2.2]; simp [zbZ]; omega
   ·rw [h.2.2.2]; simp [zbZ]; omega
   ·rw [h.2.2.2]; simp [zbZ]; omega
   ·rw [h.2.2.2]; simp [zbZ]; omega
   ·rw [h.2.2]; simp [zbZ]; omega
  rcases hw with ⟨h1,h3,h4⟩ | ⟨h1,h2,h3,h4⟩ | ⟨h1,h2,h3,h4⟩ | ⟨h1,h2,h3,h4⟩ | ⟨h1,h3,h4⟩
  all_goals
   go_enter Tryz.func162,Tryz.ntmps162
   go_wp2_with (go_at_call 163; refine (zaN c _).mono ?_; rintro e w' ⟨rfl,rfl⟩)
  all_goals first
   | (exfalso; omega)
   | (exfalso; rename_i hh; simp only [Bool.not_eq_false',decide_eq_true_eq,beq_iff_eq] at hh; omega)
   | (go_ret; exact ⟨zbN (by first | exact HQ.out | (rw [← HQ.out]; simp; omega)),rfl⟩)
theorem zhh (w : World) (k : Nat) (s : ByteArray) (pos : Nat) (hk : w.heap[k]? = some (.stringIter s pos)) (h : pos < s.size) (h0 : (chr s pos).1 = 0) (ty : TypeId) :
  (Instr.next (.pointer (some ⟨k,0,none⟩)) true ty).run Tryz.prog w = .ok (.tuple #[.bool true,.int .i64 pos,.int .i32 65533]) (w.iterAt k s (pos + 1)):=by
 have e:=(ze8 s pos).1 h0
 have r:=Lib.run_next_any_at (P:=Tryz.prog) w k s pos ty hk h
 rw [e] at r
 exact r
theorem zek (w : World) (k : Nat) (s : ByteArray) (pos : Nat) (hk : w.heap[k]? = some (.stringIter s pos)) (h : pos < s.size) (h0 : ¬ (chr s pos).1 = 0) (ty : TypeId) :
  (Instr.next (.pointer (some ⟨k,0,none⟩)) true ty).run Tryz.prog w = .ok (.tuple #[.bool true,.int .i64 pos,.int .i32 (chr s pos).2]) (w.iterAt k s (pos + chrN s pos)):=by
 have e:=(ze8 s pos).2 h0
 have p:=zcc s pos h h0
 have r:=Lib.run_next_any_at (P:=Tryz.prog) w k s pos ty hk h
 rw [e] at r
 have e2 : (((chr s pos).2.toNat : Nat) : Int) = (chr s pos).2:=by omega
 simp only [e2] at r
 exact r
theorem zcT (s : ByteArray) (w : World) (hs : s.size ≤ 1048576) :
  Calls Tryz.prog 147 #[.string s] w fun e w' => e = .returned (.bool (zau s)) ∧ Below w.heap.size w w':=by
 have hk0 : (w.iter s 0).heap[w.heap.size]? = some (.stringIter s 0):=World.iter_heap w s 0
 have hb0 : Below w.heap.size w (w.iter s 0):=(Below.refl _ w).alloc (Nat.le_refl _) _
 go_enter Tryz.func147,Tryz.ntmps147
 go_wp2
 go_loopw [3] (fun tc wr => ∃ pos c : Nat,pos ≤ s.size ∧ c ≤ pos ∧ (c = 0 ∧ pos = 0 ∨ 1 ≤ c ∧ 1 ≤ pos) ∧ tc = .int .i64 (c : Int) ∧ wr.heap[w.heap.size]? = some (.stringIter s pos) ∧ Below w.heap.size w wr ∧ zau s = zcf (zbP s pos c)) (fun _ wr => s.size - wr.iterPos w.heap.size)
 case atStart => exact ⟨0,0,by omega,by omega,.inl ⟨rfl,rfl⟩,rfl,hk0,hb0,rfl⟩
 case round =>
  obtain ⟨pos,c,hp,hc,hcp,rfl,hk,hnx,hR⟩:=hrel
  have HR : Hid (zau s = zcf (zbP s pos c)):=hR
  clear hR hk0 hb0
  have hmu : wr.iterPos w.heap.size = pos:=by simp [World.iterPos,hk]
  have HMU : Hid (wr.iterPos w.heap.size = pos):=hmu
  clear hmu
  by_cases hlt : pos < s.size
  ·by_cases h0 : (chr s pos).1 = 0
   ·have hnext:=zhh wr w.heap.size s pos hk hlt h0
    have hb1:=Lib.below_iterAt hnx (Nat.le_refl _) s (pos + 1)
    have HQ : Hid (false = zau s):=by unfold Hid; rw [HR.out,zlc s pos c hlt h0]; rfl
    have hch : zg0 65533 = false:=by decide
    generalize wr.iterAt w.heap.size s (pos + 1) = W1 at hnext hb1
    go_wp2_with (first | (go_at_call 162; refine (zb0 _ _).mono ?_; rintro e w' ⟨rfl,rfl⟩) | (go_at_call 163; refine (zaN _ _).mono ?_; rintro e w' ⟨rfl,rfl⟩))
    go_ret
    exact ⟨zbN HQ.out,hb1⟩
   ·have hnext:=zek wr w.heap.size s pos hk hlt h0
    have hb1:=Lib.below_iterAt hnx (Nat.le_refl _) s (pos + chrN s pos)
    have hk1:=Lib.iterAt_heap wr w.heap.size s pos (pos + chrN s pos) hk
    have hpp:=zcc s pos hlt h0
    generalize wr.iterAt w.heap.size s (pos + chrN s pos) = W1 at hnext hb1 hk1
    have hmu1 : W1.iterPos w.heap.size = pos + chrN s pos:=by simp [World.iterPos,hk1]
    have HMU1 : Hid (W1.iterPos w.heap.size = pos + chrN s pos):=hmu1
    obtain ⟨hp1,hp2,hp3,hp4,hp5,hp6⟩:=hpp
    clear hmu1 hp1
    cases hch : zg0 (chr s pos).2 with
    | false =>
     have HQ : Hid (false = zau s):=by
      unfold Hid; rw [HR.out,zg6 s pos c hlt h0 (by intro hh; simp [zg0] at hch; simp [hch.1,hch.2] at hh)]; rfl
     go_wp2_with (first | (go_at_call 162; refine (zb0 _ _).mono ?_; rintro e w' ⟨rfl,rfl⟩) | (go_at_call 163; refine (zaN _ _).mono ?_; rintro e w' ⟨rfl,rfl⟩))
     go_ret
     exact ⟨zbN HQ.out,hb1⟩
    | true =>
     by_cases hc0 : 1 ≤ c
     ·have hz : ((c : Int) == 0) = false:=by simp; omega
      have HQ : Hid (zau s = zcf (zbP s (pos + chrN s pos) (c + 1))):=by
       unfold Hid; rw [HR.out,zdC s pos c hlt h0 (by simp [zg0] at hch; rcases hch with h | h; exact .inl h; exact .inr ⟨h,by omega⟩)]
      go_wp2_with (first | (go_at_call 162; refine (zb0 _ _).mono ?_; rintro e w' ⟨rfl,rfl⟩) | (go_at_call 163; refine (zaN _ _).mono ?_; rintro e w' ⟨rfl,rfl⟩))
      go_roundw
      case rel => exact ⟨pos + chrN s pos,c + 1,by omega,by omega,.inr ⟨by omega,by omega⟩,by go_num,hk1,hb1,HQ.out⟩
      case measure => rw [HMU.out,HMU1.out]; omega
     ·have hz : ((c : Int) == 0) = true:=by simp; omega
      have hpos0 : Hid (pos = 0):=by unfold Hid; omega
      cases hd : zaD (chr s pos).2 with
      | true =>
       have HQ : Hid (false = zau s):=by
        unfold Hid; rw [HR.out,zg6 s pos c hlt h0 (by
         intro hh
         rcases hh with h | ⟨_,h⟩
         ·simp [zbZ] at h; simp [zaD] at hd; omega
         ·exact h hpos0.out)]; rfl
       go_wp2_with (first | (go_at_call 162; refine (zb0 _ _).mono ?_; rintro e w' ⟨rfl,rfl⟩) | (go_at_call 163; refine (zaN _ _).mono ?_; rintro e w' ⟨rfl,rfl⟩))
       go_ret
       exact ⟨zbN HQ.out,hb1⟩
      | false =>
       have HQ : Hid (zau s = zcf (zbP s (pos + chrN s pos) (c + 1))):=by
        unfold Hid; rw [HR.out,zdC s pos c hlt h0 (by simp [zg0,hd] at hch; exact .inl hch)]
       go_wp2_with (first | (go_at_call 162; refine (zb0 _ _).mono ?_; rintro e w' ⟨rfl,rfl⟩) | (go_at_call 163; refine (zaN _ _).mono ?_; rintro e w' ⟨rfl,rfl⟩))
       go_roundw
       case rel => exact ⟨pos + chrN s pos,c + 1,by omega,by omega,.inr ⟨by omega,by omega⟩,by go_num,hk1,hb1,HQ.out⟩
       case measure => rw [HMU.out,HMU1.out]; omega
  ·have hnext : ∀ ty,(Instr.next (.pointer (some ⟨w.heap.size,0,none⟩)) true ty).run Tryz.prog wr = .ok (.tuple #[.bool false]) wr:=fun ty => Lib.run_next_end_at wr w.heap.size s pos ty hk hlt
   have HF : Hid (zau s = zcf (some c)):=by unfold Hid; rw [HR.out,zg5 s pos c hlt]
   by_cases h1 : 1 ≤ c
   ·go_wp2
    go_ret
    exact ⟨zbN (by rw [HF.out]; exact zjo c h1),hnx⟩
   ·go_wp2
    go_ret
    exact ⟨zbN (by rw [HF.out]; exact zlk c h1),hnx⟩
end Go.Proofs.YtfpgjkbjbbgciaaGreatDoor
