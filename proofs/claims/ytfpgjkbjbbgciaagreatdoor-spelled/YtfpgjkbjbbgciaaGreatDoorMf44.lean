import Derived.Test.YtfpgjkbjbbgciaaGreatDoorMf43
set_option maxRecDepth 100000
set_option maxHeartbeats 8000000
namespace Go.Proofs.YtfpgjkbjbbgciaaGreatDoor
open Go.RowKit Sp
attribute [local go_sem ↓] Go.wp_at_zero Go.wp_at_succ
theorem zop {B : Nat} {w : World} {b px : Nat} {cv : Value} {code : List Int} {S : Wst} {k : Nat} {V : Nat → Value} (h : WrM B w b px cv code S k V) (n : Nat) : WrM B (w.setCell ⟨b,2,none⟩ (.int .i64 (n : Int))) b px cv code { S with labels:=n } k (updV V 2 (.int .i64 (n : Int))) :=
 h.put 2 (by omega) _ rfl rfl rfl (by omega) (by omega) (by omega) (by omega) (zbp _ _ _) (fun i hi => by rw [zab _ _ (by omega)]; exact h.held i hi) (fun i hi => by rw [zab _ _ (by omega)]; exact h.gives i hi)
  (by rw [zab _ _ (by decide)]; exact h.v20) (by rw [zab _ _ (by decide)]; exact h.v21) (by rw [zab _ _ (by decide)]; exact h.v22)
theorem zkY {B : Nat} {w : World} {b px : Nat} {cv : Value} {code : List Int} {S : Wst} {k : Nat} {V : Nat → Value} (h : WrM B w b px cv code S k V) (n : Nat) : WrM B (w.setCell ⟨b,20,none⟩ (.int .i64 (n : Int))) b px cv code { S with deep:=n } k (updV V 20 (.int .i64 (n : Int))) :=
 h.put 20 (by omega) _ rfl rfl rfl (by omega) (by omega) (by omega) (by omega) (by rw [zab _ _ (by decide)]; exact h.v2) (fun i hi => by rw [zab _ _ (by omega)]; exact h.held i hi) (fun i hi => by rw [zab _ _ (by omega)]; exact h.gives i hi)
  (zbp _ _ _) (by rw [zab _ _ (by decide)]; exact h.v21) (by rw [zab _ _ (by decide)]; exact h.v22)
theorem zmj {B : Nat} {w : World} {b px : Nat} {cv : Value} {code : List Int} {S : Wst} {k : Nat} {V : Nat → Value} (h : WrM B w b px cv code S k V) (n : Nat) (hn : n ≤ S.nk + 1) : WrM B (w.setCell ⟨b,22,none⟩ (.int .i64 (n : Int))) b px cv code S k (updV V 22 (.int .i64 (n : Int))) :=
 h.put 22 (by omega) _ rfl rfl rfl (by omega) (by omega) (by omega) (by omega) (by rw [zab _ _ (by decide)]; exact h.v2) (fun i hi => by rw [zab _ _ (by omega)]; exact h.held i hi) (fun i hi => by rw [zab _ _ (by omega)]; exact h.gives i hi)
  (by rw [zab _ _ (by decide)]; exact h.v20) (by rw [zab _ _ (by decide)]; exact h.v21) ⟨n,zbp _ _ _,hn⟩
def updH (f : Nat → Bool) (r : Nat) (v : Bool) : Nat → Bool:=fun i => if i = r then v else f i
theorem zf0 {B : Nat} {w : World} {b px : Nat} {cv : Value} {code : List Int} {S : Wst} {k : Nat} {V : Nat → Value} (h : WrM B w b px cv code S k V) (r : Nat) (hr : r < 8) (v : Bool) : WrM B (w.setCell ⟨b,3 + r,none⟩ (.bool v)) b px cv code { S with held:=updH S.held r v } k (updV V (3 + r) (.bool v)) :=
 h.put (3 + r) (by omega) _ rfl rfl rfl (by omega) (by omega) (by omega) (by omega) (by rw [zab _ _ (by omega)]; exact h.v2)
  (fun i hi => by
    show _ = Value.bool (if i = r then v else S.held i)
    by_cases e : i = r
    ·rw [e,zbp,if_pos rfl]
    ·rw [zab _ _ (by omega),if_neg e]; exact h.held i hi)
  (fun i hi => by rw [zab _ _ (by omega)]; exact h.gives i hi)
  (by rw [zab _ _ (by omega)]; exact h.v20) (by rw [zab _ _ (by omega)]; exact h.v21) (by rw [zab _ _ (by omega)]; exact h.v22)
theorem zgs {B : Nat} {w : World} {b px : Nat} {cv : Value} {code : List Int} {S : Wst} {k : Nat} {V : Nat → Value} (h : WrM B w b px cv code S k V) (r : Nat) (hr : r < 8) (v : Bool) : WrM B (w.setCell ⟨b,12 + r,none⟩ (.bool v)) b px cv code S k (updV V (12 + r) (.bool v)) :=
 h.put (12 + r) (by omega) _ rfl rfl rfl (by omega) (by omega) (by omega) (by omega) (by rw [zab _ _ (by omega)]; exact h.v2)
  (fun i hi => by rw [zab _ _ (by omega)]; exact h.held i hi)
  (fun i hi => by
    by_cases e : i = r
    ·rw [e,zbp]; exact ⟨v,rfl⟩
    ·rw [zab _ _ (by omega)]; exact h.gives i hi)
  (by rw [zab _ _ (by omega)]; exact h.v20) (by rw [zab _ _ (by omega)]; exact h.v21) (by rw [zab _ _ (by omega)]; exact h.v22)
theorem WrM.put_fr {B : Nat} {w : World} {b px : Nat} {cv : Value} {code : List Int} {S : Wst} {k : Nat} {V : Nat → Value} (_h : WrM B w b px cv code S k V) (n : Nat) (v : Value) (n1 : ¬ n = 1) (n11 : ¬ n = 11) : Fr b px w V (w.setCell ⟨b,n,none⟩ v) (updV V n v) :=
 ⟨rfl,rfl,rfl,by rw [World.size_setCell]; exact Nat.le_refl _,fun q _ hm => Below.heap_setCell _ _ _ _ (fun e => hm (.inl e)),fun q _ hm => by
  unfold Mine at hm
  rw [zab _ _ (fun e => n1 e.symm),zab _ _ (fun e => n11 e.symm)] at hm
  exact hm⟩
theorem zh3 {B : Nat} {w : World} {b px : Nat} {cv : Value} {code : List Int} {S : Wst} {k : Nat} {V : Nat → Value} (h : WrM B w b px cv code S k V) (hn : S.labels ≤ 100000) :
  Calls Tryz.prog 120 #[.pointer (some ⟨b,0,none⟩)] w fun e w' => e = .returned (.string (ba (labW (S.labels + 1)))) ∧ zcy B w b px cv code V { S with labels:=S.labels + 1 } w':=by
 have c2:=h.blk.cell 2 (by omega)
 rw [h.v2] at c2
 have f2:=h.blk.fz 2
 have M:=zop h (S.labels + 1)
 have hb1:=h.put_fr 2 (.int .i64 ((S.labels + 1 : Nat) : Int)) (by decide) (by decide)
 have hd:=zeR ((S.labels : Int) + 1) ⟨by omega,by omega⟩ (w.setCell ⟨b,2,none⟩ (.int .i64 ((S.labels : Int) + 1)))
 have ed : digL ((S.labels : Int) + 1) = decL (S.labels + 1):=by unfold digL; rw [if_neg (by omega)]; congr 1
 have el : ba (labW (S.labels + 1)) = ba [108] ++ ba (decL (S.labels + 1)):=(zcP [108] (decL (S.labels + 1))).symm
 have z1:=zdw (S.labels + 1) (by omega)
 rw [ed] at hd
 rw [el]
 rw [show ((S.labels + 1 : Nat) : Int) = (S.labels : Int) + 1 by omega] at M hb1
 generalize ba (decL (S.labels + 1)) = Y at hd z1 ⊢
 have z3 : ¬ 9223372036854775807 < 1 + Y.size:=by omega
 go_enter Tryz.func120,Tryz.ntmps120
 go_wp2_with (go_at_call 36; (with_reducible refine hd.mono ?_); rintro e w2 ⟨rfl,hb2⟩)
 go_ret
 exact ⟨rfl,k,_,M.below hb2 M.base,hb1.trans (.low hb2)⟩
theorem zrq {B : Nat} {w : World} {b px : Nat} {cv : Value} {code : List Int} {S : Wst} {k : Nat} {V : Nat → Value} (h : WrM B w b px cv code S k V) (c : Nat) (hc : (c : Int) < 8) (rf : Nat) (hrf : rf < 8) (hf : S.held rf = false) :
  Calls Tryz.prog 143 #[.pointer (some ⟨b,0,none⟩),.int .i64 (c : Int)] w fun e w' => ∃ r : Nat,e = .returned (.int .i64 (r : Int)) ∧ r < 8 ∧ S.held r = false ∧ w' = w:=by
 have hp:=fun W => zfz (c : Int) 8 W (by omega) ⟨by omega,by omega⟩
 have ep : zeQ (c : Int) 8 = (c : Int):=by unfold zeQ; rw [if_neg (by omega)]; omega
 rw [ep] at hp
 have hcell : ∀ r,r < 8 → w.cell? ⟨b,3 + r,none⟩ = some (.bool (S.held r)):=fun r hr => by rw [← h.held r hr]; exact h.blk.cell (3 + r) (by omega)
 go_enter Tryz.func143,Tryz.ntmps143
 go_wp2_with (go_at_call 37; (with_reducible refine (hp _).mono ?_); rintro e wx ⟨rfl,hwx⟩; subst hwx)
 go_loopw [5] (fun t wr => ∃ r : Nat,r < 8 ∧ t = .int .i64 (r : Int) ∧ wr = wx) (fun t _ => (rf + 8 - (intOf t).toNat) % 8)
 case atStart => exact ⟨c,by omega,rfl,rfl⟩
 case round =>
  obtain ⟨r,hr,rfl,hwr⟩:=hrel
  subst hwr
  have cr:=hcell r hr
  have hr0 : (0 : Int) ≤ (r : Int):=by omega
  have hr8 : (r : Int) < 8:=by omega
  cases hh : S.held r with
  | false =>
   rw [hh] at cr
   clear hcell
   go_wp2
   go_ret
   exact ⟨r,rfl,hr,hh,rfl⟩
  | true =>
   rw [hh] at cr
   have hne : ¬ r = rf:=fun e => by rw [e,hf] at hh; cases hh
   have e3 : ((r : Int) + 1) % 8 = ((r + 1) % 8 : Nat):=by omega
   clear hcell
   go_wp2
   go_roundw
   case rel => exact ⟨(r + 1) % 8,by omega,by rw [e3],trivial⟩
   case measure => simp [intOf]; omega
theorem zao {B : Nat} {w : World} {b px : Nat} {cv : Value} {code : List Int} {S : Wst} {k : Nat} {V : Nat → Value} (h : WrM B w b px cv code S k V) (n : Int) (hn : 0 < n) :
  Calls Tryz.prog 41 #[.pointer (some ⟨px,0,none⟩),.int .i64 n] w fun e w' => ∃ c : Nat,e = .returned (.int .i64 (c : Int)) ∧ (c : Int) < n ∧ zcy B w b px cv code V S w':=by
 refine (zdi h.blk.di n hn).mono ?_
 rintro e w' ⟨c,he,hc,k2,hd,hg⟩
 exact ⟨c,he,hc,k2,V,h.threw hd hg,.grown hg⟩
theorem zrr {B : Nat} {w : World} {b px : Nat} {cv : Value} {code : List Int} {S : Wst} {k : Nat} {V : Nat → Value} (h : WrM B w b px cv code S k V) :
  Calls Tryz.prog 121 #[.pointer (some ⟨px,0,none⟩)] w fun e w' => ∃ z : Int,e = .returned (.int .i64 z) ∧ i64 z ∧ zcy B w b px cv code V S w':=by
 refine (zqx h.blk.di).mono ?_
 rintro e w' ⟨c,he,hc,k2,hd,hg⟩
 exact ⟨c,he,hc,k2,V,h.threw hd hg,.grown hg⟩
theorem zbz {B : Nat} {w : World} {b px : Nat} {cv : Value} {code : List Int} {S : Wst} {k : Nat} {V : Nat → Value} (h : WrM B w b px cv code S k V) (rf : Nat) (hrf : rf < 8) (hf : S.held rf = false) :
  Calls Tryz.prog 118 #[.pointer (some ⟨b,0,none⟩)] w fun e w' => ∃ r : Nat,e = .returned (.int .i64 (r : Int)) ∧ r < 8 ∧ S.held r = false ∧ zcy B w b px cv code V S w':=by
 have c0:=h.blk.cell 0 (by omega)
 rw [h.v0] at c0
 have hn:=zao h 8 (by omega)
 go_enter Tryz.func118,Tryz.ntmps118
 go_wp2_with (first
  | (go_at_call 41; (with_reducible refine hn.mono ?_); rintro e w1 ⟨c,rfl,hc,k1,V1,M1,hb1⟩; have hfr:=zrq M1 c hc rf hrf hf)
  | (go_at_call 143; (with_reducible refine hfr.mono ?_); rintro e w2 ⟨r,rfl,hr,hh,hw2⟩; refine Hid.out ?_))
 unfold Hid
 subst hw2
 obtain ⟨g,hg⟩:=M1.gives r hr
 have cr:=M1.blk.cell (12 + r) (by omega)
 rw [hg] at cr
 have fr:=M1.blk.fz (12 + r)
 have hr0 : (0 : Int) ≤ (r : Int):=by omega
 have hr8 : (r : Int) < 8:=by omega
 have M2:=zgs M1 r hr true
 have hb2:=M1.put_fr (12 + r) (.bool true) (by omega) (by omega)
 clear hn hfr c0
 go_wp2
 go_ret
 exact ⟨r,rfl,hr,hh,k1,_,M2,hb1.trans hb2⟩
end Go.Proofs.YtfpgjkbjbbgciaaGreatDoor
namespace Go.Proofs.YtfpgjkbjbbgciaaGreatDoor
open Go.RowKit Sp
theorem ln1 (op a : List UInt8) : ba (⟨true,[op,a]⟩ : Ln).bytes = ba [9] ++ (ba (op ++ [32]) ++ ba a):=by
 simp only [zcP]; refine congrArg ba ?_; simp [Ln.bytes,Ln.blank,zbG]
theorem ln2 (op a b : List UInt8) : ba (⟨true,[op,a,b]⟩ : Ln).bytes = ba [9] ++ (ba (op ++ [32]) ++ ba a ++ ba [32] ++ ba b):=by
 simp only [zcP]; refine congrArg ba ?_; simp [Ln.bytes,Ln.blank,zbG]
theorem ln3 (op a b c : List UInt8) : ba (⟨true,[op,a,b,c]⟩ : Ln).bytes = ba [9] ++ (ba (op ++ [32]) ++ ba a ++ ba [32] ++ ba b ++ ba [32] ++ ba c):=by
 simp only [zcP]; refine congrArg ba ?_; simp [Ln.bytes,Ln.blank,zbG]
theorem zhe (n : Int) (h : i64 n) : (ba (digL n)).size ≤ 21:=by
 obtain ⟨h1,h2⟩:=h
 have z1:=zdw n.natAbs (by omega)
 unfold digL
 split
 ·show (decL n.natAbs).length + 1 ≤ 21
  have : (decL n.natAbs).length ≤ 20:=z1
  omega
 ·exact Nat.le_trans z1 (by decide)
theorem zkZ (n : Int) (h : i64 n) : (digL n).length ≤ 21:=zhe n h
theorem ze1 (x : List UInt8) (r : List (List UInt8)) (sh : List UInt8) (hx : Wd x) (hr : ∀ y ∈ r,Wd y) (h1 : ¬ x = [102,117,110,99]) (h2 : (x.getLast? == some 58) = false) (h4 : zaa (ba x) = sh) (h5 : ¬ sh = [63]) (h6 : r.length = sh.length) (h7 : zav sh (r.map ba) = true) (ha : zaz (ba x) = false) (hf : zaQ (ba x) = false) (hsh : (⟨true,x :: r⟩ : Ln).bytes.length ≤ 200) : Plain ⟨true,x :: r⟩:=by
 have e : (⟨true,x :: r⟩ : Ln).said = ⟨105,(x :: r).map ba,true⟩:=zgq x r sh h1 h2 hx.ne h4 h5 h6 h7
 refine ⟨fun y hy => ?_,by rw [e],by rw [e],by rw [e]; exact ha,by rw [e]; exact hf,hsh⟩
 rcases List.mem_cons.1 hy with q | q
 ·rw [q]; exact hx
 ·exact hr y q
theorem zdj {i : Nat} (hi : i < 8) {a : Int} (h : i64 a) : Plain (setL i a) :=
 ze1 [115,101,116] [regW i,digL a] [82,75] (zdO (by decide)) (fun y hy => by
  simp only [List.mem_cons,List.not_mem_nil,or_false] at hy
  rcases hy with rfl | rfl
  ·exact zd6 i hi
  ·exact zqp a) (by decide) (by decide) (by kernel_rfl) (by decide) rfl (by simp [zav,zd7 i hi,zqq a h.1 h.2]) (by kernel_rfl) (by kernel_rfl) (by have:=zkZ a h; simp [Ln.bytes,Ln.blank,zbG,regW]; omega)
theorem ziK {i : Nat} (hi : i < 8) {a : Int} (h : i64 a) : Plain (incL i a) :=
 ze1 [105,110,99] [regW i,digL a] [82,75] (zdO (by decide)) (fun y hy => by
  simp only [List.mem_cons,List.not_mem_nil,or_false] at hy
  rcases hy with rfl | rfl
  ·exact zd6 i hi
  ·exact zqp a) (by decide) (by decide) (by kernel_rfl) (by decide) rfl (by simp [zav,zd7 i hi,zqq a h.1 h.2]) (by kernel_rfl) (by kernel_rfl) (by have:=zkZ a h; simp [Ln.bytes,Ln.blank,zbG,regW]; omega)
theorem zgt (x : List UInt8) {i j : Nat} (hi : i < 8) (hj : j < 8) (hx : Wd x) (hxl : x.length ≤ 10) (h1 : ¬ x = [102,117,110,99]) (h2 : (x.getLast? == some 58) = false) (h4 : zaa (ba x) = [82,82]) (ha : zaz (ba x) = false) (hf : zaQ (ba x) = false) : Plain ⟨true,[x,regW i,regW j]⟩ :=
 ze1 x [regW i,regW j] [82,82] hx (fun y hy => by
  simp only [List.mem_cons,List.not_mem_nil,or_false] at hy
  rcases hy with rfl | rfl
  ·exact zd6 i hi
  ·exact zd6 j hj) h1 h2 h4 (by decide) rfl (by simp [zav,zd7 i hi,zd7 j hj]) ha hf (by simp [Ln.bytes,Ln.blank,zbG,regW]; omega)
theorem zdZ (x : List UInt8) {i j k : Nat} (hi : i < 8) (hj : j < 8) (hk : k < 8) (hx : Wd x) (hxl : x.length ≤ 10) (h1 : ¬ x = [102,117,110,99]) (h2 : (x.getLast? == some 58) = false) (h4 : zaa (ba x) = [82,82,82]) (ha : zaz (ba x) = false) (hf : zaQ (ba x) = false) : Plain ⟨true,[x,regW i,regW j,regW k]⟩ :=
 ze1 x [regW i,regW j,regW k] [82,82,82] hx (fun y hy => by
  simp only [List.mem_cons,List.not_mem_nil,or_false] at hy
  rcases hy with rfl | rfl | rfl
  ·exact zd6 i hi
  ·exact zd6 j hj
  ·exact zd6 k hk) h1 h2 h4 (by decide) rfl (by simp [zav,zd7 i hi,zd7 j hj,zd7 k hk]) ha hf (by simp [Ln.bytes,Ln.blank,zbG,regW]; omega)
theorem ziL (x : List UInt8) {i : Nat} (hi : i < 8) (hx : Wd x) (hxl : x.length ≤ 10) (h1 : ¬ x = [102,117,110,99]) (h2 : (x.getLast? == some 58) = false) (h4 : zaa (ba x) = [82]) (ha : zaz (ba x) = false) (hf : zaQ (ba x) = false) : Plain ⟨true,[x,regW i]⟩ :=
 ze1 x [regW i] [82] hx (fun y hy => by
  simp only [List.mem_cons,List.not_mem_nil,or_false] at hy
  rw [hy]; exact zd6 i hi) h1 h2 h4 (by decide) rfl (by simp [zav,zd7 i hi]) ha hf (by simp [Ln.bytes,Ln.blank,zbG,regW]; omega)
def movL (i j : Nat) : Ln:=⟨true,[[109,111,118],regW i,regW j]⟩
def ziM (i j : Nat) : Ln:=⟨true,[[108,111,97,100],regW i,regW j]⟩
def zfm (i j : Nat) : Ln:=⟨true,[[115,116,111,114,101],regW i,regW j]⟩
def zsa (i : Nat) : Ln:=⟨true,[[114,101,97,100],regW i]⟩
def zoq (i : Nat) : Ln:=⟨true,[[119,114,105,116,101],regW i]⟩
def aluW (o : Nat) : List UInt8:=if o = 0 then [97,100,100] else if o = 1 then [115,117,98] else [109,117,108]
def aluL (o i j k : Nat) : Ln:=⟨true,[aluW o,regW i,regW j,regW k]⟩
theorem zor {i j : Nat} (hi : i < 8) (hj : j < 8) : Plain (movL i j):=zgt _ hi hj (zdO (by decide)) (by decide) (by decide) (by decide) (by kernel_rfl) (by kernel_rfl) (by kernel_rfl)
theorem zeU {i j : Nat} (hi : i < 8) (hj : j < 8) : Plain (ziM i j):=zgt _ hi hj (zdO (by decide)) (by decide) (by decide) (by decide) (by kernel_rfl) (by kernel_rfl) (by kernel_rfl)
theorem zea {i j : Nat} (hi : i < 8) (hj : j < 8) : Plain (zfm i j):=zgt _ hi hj (zdO (by decide)) (by decide) (by decide) (by decide) (by kernel_rfl) (by kernel_rfl) (by kernel_rfl)
theorem zmk {i : Nat} (hi : i < 8) : Plain (zsa i):=ziL _ hi (zdO (by decide)) (by decide) (by decide) (by decide) (by kernel_rfl) (by kernel_rfl) (by kernel_rfl)
theorem zgu {i : Nat} (hi : i < 8) : Plain (zoq i):=ziL _ hi (zdO (by decide)) (by decide) (by decide) (by decide) (by kernel_rfl) (by kernel_rfl) (by kernel_rfl)
theorem zos (o : Nat) {i j k : Nat} (hi : i < 8) (hj : j < 8) (hk : k < 8) : Plain (aluL o i j k):=by
 unfold aluL aluW
 split
 ·exact zdZ _ hi hj hk (zdO (by decide)) (by decide) (by decide) (by decide) (by kernel_rfl) (by kernel_rfl) (by kernel_rfl)
 ·split
  ·exact zdZ _ hi hj hk (zdO (by decide)) (by decide) (by decide) (by decide) (by kernel_rfl) (by kernel_rfl) (by kernel_rfl)
  ·exact zdZ _ hi hj hk (zdO (by decide)) (by decide) (by decide) (by decide) (by kernel_rfl) (by kernel_rfl) (by kernel_rfl)
theorem zaM (r : Nat) (h : r < 8) (w : World) : Calls Tryz.prog 38 #[.int .i64 (r : Int)] w fun e w' => ∃ A : ByteArray,e = .returned (.string A) ∧ A.size = 2 ∧ Hid (A = ba (regW r)) ∧ Below w.heap.size w w' :=
 (zpY r h w).mono fun _e _w' ⟨he,hb⟩ => ⟨_,he,rfl,rfl,hb⟩
theorem zdA (n : Int) (h : i64 n) (w : World) : Calls Tryz.prog 36 #[.int .i64 n] w fun e w' => ∃ A : ByteArray,e = .returned (.string A) ∧ A.size ≤ 21 ∧ Hid (A = ba (digL n)) ∧ Below w.heap.size w w' :=
 (zeR n h w).mono fun _e _w' ⟨he,hb⟩ => ⟨_,he,zhe n h,rfl,hb⟩
end Go.Proofs.YtfpgjkbjbbgciaaGreatDoor
