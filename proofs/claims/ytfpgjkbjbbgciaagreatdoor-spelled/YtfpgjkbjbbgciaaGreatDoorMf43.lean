import Derived.Test.YtfpgjkbjbbgciaaGreatDoorMf24
import Derived.Test.YtfpgjkbjbbgciaaGreatDoorMf29
set_option maxRecDepth 100000
set_option maxHeartbeats 8000000
namespace Go.Proofs.YtfpgjkbjbbgciaaGreatDoor.Sp
structure Ln where
 tab : Bool
 ws : List (List UInt8)
def Ln.blank (l : Ln) : List UInt8:=if l.tab = true then [9] else []
def Ln.bytes (l : Ln) : List UInt8:=l.blank ++ zbG l.ws
def Ln.said (l : Ln) : Said:=sayW (l.ws.map ba)
def Ln.Ok (l : Ln) : Prop:=∀ x ∈ l.ws,Wd x
theorem Ln.blanks (l : Ln) : ∀ c ∈ l.blank,c = 32 ∨ c = 9:=fun c hc => by
 unfold Ln.blank at hc
 split at hc
 ·exact .inr (List.mem_singleton.1 hc)
 ·cases hc
theorem Ln.say (l : Ln) (h : l.Ok) {p s : List UInt8} (hp : ∀ c ∈ p,c = 32 ∨ c = 9) (hs : Suf s) : say (ba (p ++ l.bytes ++ s)) = l.said:=by
 have hb : ∀ c ∈ p ++ l.blank,c = 32 ∨ c = 9:=fun c hc => by
  rcases List.mem_append.1 hc with e | e
  ·exact hp c e
  ·exact l.blanks c e
 have:=zoG hb h hs
 unfold Ln.bytes
 rw [← List.append_assoc]
 exact this
theorem Ln.no10 (l : Ln) (h : l.Ok) {p s : List UInt8} (hp : ∀ c ∈ p,c = 32 ∨ c = 9) (hs : Suf s) : ∀ c ∈ p ++ l.bytes ++ s,¬ c = 10:=by
 have hb : ∀ c ∈ p ++ l.blank,c = 32 ∨ c = 9:=fun c hc => by
  rcases List.mem_append.1 hc with e | e
  ·exact hp c e
  ·exact l.blanks c e
 have:=zm7 hb h hs
 unfold Ln.bytes
 rw [← List.append_assoc]
 exact this
theorem Ln.say0 (l : Ln) (h : l.Ok) : Sp.say (ba l.bytes) = l.said:=by
 have:=l.say h blk0 zm6
 simpa using this
theorem Ln.no10' (l : Ln) (h : l.Ok) : ∀ c ∈ l.bytes,¬ c = 10:=by
 have:=l.no10 h blk0 zm6
 simpa using this
def labW (n : Nat) : List UInt8:=108 :: decL n
def fnW (n : Nat) : List UInt8:=102 :: decL n
theorem zhz {m n : Nat} (hm : m ≤ 9223372036854775808) (hn : n ≤ 9223372036854775808) (h : decL m = decL n) : m = n:=by
 have h1:=zei m hm
 rw [h,zei n hn] at h1
 simp only [Option.some.injEq] at h1
 omega
theorem zdx (k n : Nat) (h : n < 10 ^ (k + 1)) : (decL n).length ≤ k + 1:=by
 induction k generalizing n with
 | zero => rw [zbt n (by simpa using h)]; simp
 | succ k ih =>
  by_cases hs : n < 10
  ·rw [zbt n hs]; simp
  ·have:=ih (n / 10) (by rw [Nat.pow_succ] at h; omega)
   rw [zdp n hs,List.length_append,List.length_singleton]
   omega
theorem zkW (n : Nat) : ∀ x ∈ decL n,zfr x = true:=fun x hx => by
 have:=zcd n x hx
 simp [zfr]; omega
theorem zh0 (n : Nat) (h : n ≤ 1000000) : zau (ba (labW n)) = true:=zgB 108 (decL n) (by decide) (zkW n) (Nat.le_trans (zdx 6 n (by omega)) (by decide))
theorem zoe (n : Nat) (h : n ≤ 1000000) : zau (ba (fnW n)) = true:=zgB 102 (decL n) (by decide) (zkW n) (Nat.le_trans (zdx 6 n (by omega)) (by decide))
theorem zqv (c : UInt8) (hc : 33 ≤ c.toNat ∧ c.toNat < 127 ∧ ¬ c.toNat = 59) (n : Nat) : Wd (c :: decL n):=⟨by simp,fun x hx => by
 rcases List.mem_cons.1 hx with e | e
 ·rw [e]; exact hc
 ·have:=zcd n x e; omega⟩
theorem zof (n : Nat) : Wd (labW n):=zqv 108 (by decide) n
theorem zrZ (n : Nat) : Wd (fnW n):=zqv 102 (by decide) n
theorem zqd {x : List UInt8} (h : Wd x) : Wd (x ++ [58]):=⟨by simp,fun c hc => by
 rcases List.mem_append.1 hc with e | e
 ·exact h.ok c e
 ·rw [List.mem_singleton.1 e]; decide⟩
def labL (n : Nat) : Ln:=⟨false,[labW n ++ [58]]⟩
def zcp (n : Nat) : Ln:=⟨true,[[106,117,109,112],labW n]⟩
def ze0 (i k n : Nat) : Ln:=⟨true,[[108,101,115,115],regW i,regW k,labW n]⟩
def callL (k : Nat) : Ln:=⟨true,[[99,97,108,108],fnW k]⟩
def setL (i : Nat) (a : Int) : Ln:=⟨true,[[115,101,116],regW i,digL a]⟩
def incL (i : Nat) (a : Int) : Ln:=⟨true,[[105,110,99],regW i,digL a]⟩
def zbM : Ln:=⟨true,[[98,97,99,107]]⟩
structure Plain (l : Ln) : Prop where
 ok : l.Ok
 kind : l.said.kind = 105
 good : l.said.ok = true
 lab : zaz (l.said.word 0) = false
 fn : zaQ (l.said.word 0) = false
 short : l.bytes.length ≤ 200
inductive Pc (nk : Nat) : Nat → Nat → List Ln → Prop
 | nil (c : Nat) : Pc nk c c []
 | app {a b c : Nat} {A B : List Ln} (h1 : Pc nk a b A) (h2 : Pc nk b c B) : Pc nk a c (A ++ B)
 | ins (c : Nat) {l : Ln} (h : Plain l) : Pc nk c c [l]
 | call (c : Nat) {k : Nat} (h : k < nk) : Pc nk c c [callL k]
 | loop {c d : Nat} {i n : Nat} (hi : i < 8) (hn : n < 8) {l1 l2 l3 : Ln} (h1 : Plain l1) (h2 : Plain l2) (h3 : Plain l3) {B : List Ln} (h : Pc nk (c + 3) d B) :
   Pc nk c d ([l1,l2,labL (c + 1),ze0 i n (c + 2),zcp (c + 3),labL (c + 2)] ++ B ++ [l3,zcp (c + 1),labL (c + 3)])
theorem zh1 (n : Nat) : (labL n).Ok:=fun x hx => by rw [List.mem_singleton.1 hx]; exact zqd (zof n)
theorem ziG (n : Nat) : (zcp n).Ok:=fun x hx => by
 simp only [zcp,List.mem_cons,List.not_mem_nil,or_false] at hx
 rcases hx with rfl | rfl
 ·exact zdO (by decide)
 ·exact zof n
theorem zog {i k : Nat} (hi : i < 8) (hk : k < 8) (n : Nat) : (ze0 i k n).Ok:=fun x hx => by
 simp only [ze0,List.mem_cons,List.not_mem_nil,or_false] at hx
 rcases hx with rfl | rfl | rfl | rfl
 ·exact zdO (by decide)
 ·exact zd6 i hi
 ·exact zd6 k hk
 ·exact zof n
theorem zoh (n : Nat) : (callL n).Ok:=fun x hx => by
 simp only [callL,List.mem_cons,List.not_mem_nil,or_false] at hx
 rcases hx with rfl | rfl
 ·exact zdO (by decide)
 ·exact zrZ n
theorem zh2 (n : Nat) (h : n ≤ 1000000) : (labL n).said = ⟨108,[ba (labW n)],true⟩:=by
 show sayW ([labW n ++ [58]].map ba) = _
 rw [zoH,zh0 n h]
theorem zgq (x : List UInt8) (r : List (List UInt8)) (sh : List UInt8) (h1 : ¬ x = [102,117,110,99]) (h2 : (x.getLast? == some 58) = false) (h3 : ¬ x = []) (h4 : zaa (ba x) = sh) (h5 : ¬ sh = [63]) (h6 : r.length = sh.length) (h7 : zav sh (r.map ba) = true) : sayW ((x :: r).map ba) = ⟨105,(x :: r).map ba,true⟩:=by
 rw [zq6 x r sh h1 (fun y e => by rw [e] at h2; simp at h2) h3 h4 h5 h6,h7]
theorem zrl {x : List UInt8} (h : zau (ba x) = true) : opOk 78 (ba x) = true:=by
 unfold opOk
 rw [if_neg (by decide),if_neg (by decide)]; exact h
theorem ziH (n : Nat) (h : n ≤ 1000000) : (zcp n).said = ⟨105,[ba [106,117,109,112],ba (labW n)],true⟩ :=
 zgq [106,117,109,112] [labW n] [78] (by decide) (by decide) (by decide) (by kernel_rfl) (by decide) rfl (by simp [zav,zrl (zh0 n h)])
theorem zoi {i k : Nat} (hi : i < 8) (hk : k < 8) (n : Nat) (h : n ≤ 1000000) : (ze0 i k n).said = ⟨105,[ba [108,101,115,115],ba (regW i),ba (regW k),ba (labW n)],true⟩ :=
 zgq [108,101,115,115] [regW i,regW k,labW n] [82,82,78] (by decide) (by decide) (by decide) (by kernel_rfl) (by decide) rfl (by simp [zav,zrl (zh0 n h),zd7 i hi,zd7 k hk])
theorem zoj (n : Nat) (h : n ≤ 1000000) : (callL n).said = ⟨105,[ba [99,97,108,108],ba (fnW n)],true⟩ :=
 zgq [99,97,108,108] [fnW n] [78] (by decide) (by decide) (by decide) (by kernel_rfl) (by decide) rfl (by simp [zav,zrl (zoe n h)])
theorem zdg : zbM.said = ⟨105,[ba [98,97,99,107]],true⟩ :=
 zgq [98,97,99,107] [] [] (by decide) (by decide) (by decide) (by kernel_rfl) (by decide) rfl rfl
def labsOf (A : List Ln) : List (List UInt8):=A.filterMap fun l => if l.said.kind = 108 then some (l.said.word 0).data.toList else none
theorem zbE (A B : List Ln) : labsOf (A ++ B) = labsOf A ++ labsOf B:=by simp [labsOf]
theorem zdy {l : Ln} (h : l.said.kind = 105) : labsOf [l] = []:=by simp [labsOf,h]
structure PcOk (nk a b : Nat) (A : List Ln) : Prop where
 le : a ≤ b
 ok : ∀ l ∈ A,l.Ok ∧ l.said.ok = true ∧ (l.said.kind = 105 ∨ l.said.kind = 108)
 labs : ∀ x ∈ labsOf A,∃ n,a < n ∧ n ≤ b ∧ x = labW n
 nodup : (labsOf A).Nodup
 asks : ∀ l ∈ A,l.said.kind = 105 → zaz (l.said.word 0) = true → ∃ x ∈ labsOf A,l.said.last = ba x
 calls : ∀ l ∈ A,l.said.kind = 105 → zaQ (l.said.word 0) = true → ∃ k,k < nk ∧ l.said.last = ba (fnW k)
theorem PcOk.app {nk a b c : Nat} {A B : List Ln} (h1 : PcOk nk a b A) (h2 : PcOk nk b c B) (hc : c ≤ 1000000) : PcOk nk a c (A ++ B):=by
 have l1:=h1.le
 have l2:=h2.le
 refine ⟨by omega,fun l hl => ?_,fun x hx => ?_,?_,fun l hl => ?_,fun l hl => ?_⟩
 ·rcases List.mem_append.1 hl with e | e
  ·exact h1.ok l e
  ·exact h2.ok l e
 ·rw [zbE] at hx
  rcases List.mem_append.1 hx with e | e
  ·obtain ⟨n,x1,x2,x3⟩:=h1.labs x e
   exact ⟨n,x1,by omega,x3⟩
  ·obtain ⟨n,x1,x2,x3⟩:=h2.labs x e
   exact ⟨n,by omega,x2,x3⟩
 ·rw [zbE,List.nodup_append]
  refine ⟨h1.nodup,h2.nodup,fun x hx y hy e => ?_⟩
  obtain ⟨n,x1,x2,x3⟩:=h1.labs x hx
  obtain ⟨m,y1,y2,y3⟩:=h2.labs y hy
  rw [e,y3] at x3
  have:=zhz (m:=m) (n:=n) (by omega) (by omega) (List.cons.inj x3).2
  omega
 ·intro h3 h4
  rcases List.mem_append.1 hl with e | e
  ·obtain ⟨x,hx,he⟩:=h1.asks l e h3 h4
   exact ⟨x,by rw [zbE]; exact List.mem_append_left _ hx,he⟩
  ·obtain ⟨x,hx,he⟩:=h2.asks l e h3 h4
   exact ⟨x,by rw [zbE]; exact List.mem_append_right _ hx,he⟩
 ·rcases List.mem_append.1 hl with e | e
  ·exact h1.calls l e
  ·exact h2.calls l e
theorem PcOk.plain {nk c : Nat} {l : Ln} (h : Plain l) : PcOk nk c c [l]:=by
 refine ⟨Nat.le_refl _,fun x hx => ?_,fun x hx => ?_,?_,fun x hx _ h4 => ?_,fun x hx _ h4 => ?_⟩
 ·rw [List.mem_singleton.1 hx]; exact ⟨h.ok,h.good,.inl h.kind⟩
 ·rw [zdy h.kind] at hx; cases hx
 ·rw [zdy h.kind]; exact List.nodup_nil
 ·rw [List.mem_singleton.1 hx,h.lab] at h4; cases h4
 ·rw [List.mem_singleton.1 hx,h.fn] at h4; cases h4
theorem PcOk.callL {nk c k : Nat} (hk : k < nk) (hn : nk ≤ 1000000) : PcOk nk c c [callL k]:=by
 have e:=zoj k (by omega)
 refine ⟨Nat.le_refl _,fun x hx => ?_,fun x hx => ?_,?_,fun x hx _ h4 => ?_,fun x hx _ h4 => ?_⟩
 ·rw [List.mem_singleton.1 hx,e]; exact ⟨zoh k,rfl,.inl rfl⟩
 ·rw [zdy (by rw [e])] at hx; cases hx
 ·rw [zdy (by rw [e])]; exact List.nodup_nil
 ·rw [List.mem_singleton.1 hx,e] at h4
  have a1 : zaz (ba [99,97,108,108]) = false:=by kernel_rfl
  exact absurd (a1.symm.trans h4) (by decide)
 ·rw [List.mem_singleton.1 hx,e]
  exact ⟨k,hk,rfl⟩
theorem ziI : zaz (ba [106,117,109,112]) = true ∧ zaQ (ba [106,117,109,112]) = false:=⟨by kernel_rfl,by kernel_rfl⟩
theorem zok : zaz (ba [108,101,115,115]) = true ∧ zaQ (ba [108,101,115,115]) = false:=⟨by kernel_rfl,by kernel_rfl⟩
theorem PcOk.loop {nk c d i n : Nat} (hi : i < 8) (hn : n < 8) {l1 l2 l3 : Ln} (h1 : Plain l1) (h2 : Plain l2) (h3 : Plain l3) {B : List Ln} (h : PcOk nk (c + 3) d B) (hd : d ≤ 1000000) :
  PcOk nk c d ([l1,l2,labL (c + 1),ze0 i n (c + 2),zcp (c + 3),labL (c + 2)] ++ B ++ [l3,zcp (c + 1),labL (c + 3)]):=by
 have hle:=h.le
 have s1:=zh2 (c + 1) (by omega)
 have s2:=zh2 (c + 2) (by omega)
 have s3:=zh2 (c + 3) (by omega)
 have sl:=zoi hi hn (c + 2) (by omega)
 have sj:=ziH (c + 3) (by omega)
 have sk:=ziH (c + 1) (by omega)
 have hlabs : labsOf ([l1,l2,labL (c + 1),ze0 i n (c + 2),zcp (c + 3),labL (c + 2)] ++ B ++ [l3,zcp (c + 1),labL (c + 3)]) = [labW (c + 1),labW (c + 2)] ++ labsOf B ++ [labW (c + 3)]:=by
  have e1 : labsOf [l1,l2,labL (c + 1),ze0 i n (c + 2),zcp (c + 3),labL (c + 2)] = [labW (c + 1),labW (c + 2)]:=by
   simp only [labsOf,List.filterMap_cons,List.filterMap_nil,h1.kind,h2.kind,s1,s2,sl,sj]
   rfl
  have e2 : labsOf [l3,zcp (c + 1),labL (c + 3)] = [labW (c + 3)]:=by
   simp only [labsOf,List.filterMap_cons,List.filterMap_nil,h3.kind,s3,sk]
   rfl
  rw [zbE,zbE,e1,e2]
 have inj : ∀ m p : Nat,m ≤ 1000000 → p ≤ 1000000 → labW m = labW p → m = p:=fun m p hm hp e => zhz (by omega) (by omega) (List.cons.inj e).2
 refine ⟨by omega,fun l hl => ?_,fun x hx => ?_,?_,fun l hl h4 h5 => ?_,fun l hl h4 h5 => ?_⟩
 ·simp only [List.mem_append,List.mem_cons,List.not_mem_nil,or_false] at hl
  rcases hl with ((rfl | rfl | rfl | rfl | rfl | rfl) | e) | (rfl | rfl | rfl)
  ·exact ⟨h1.ok,h1.good,.inl h1.kind⟩
  ·exact ⟨h2.ok,h2.good,.inl h2.kind⟩
  ·rw [s1]; exact ⟨zh1 _,rfl,.inr rfl⟩
  ·rw [sl]; exact ⟨zog hi hn _,rfl,.inl rfl⟩
  ·rw [sj]; exact ⟨ziG _,rfl,.inl rfl⟩
  ·rw [s2]; exact ⟨zh1 _,rfl,.inr rfl⟩
  ·exact h.ok l e
  ·exact ⟨h3.ok,h3.good,.inl h3.kind⟩
  ·rw [sk]; exact ⟨ziG _,rfl,.inl rfl⟩
  ·rw [s3]; exact ⟨zh1 _,rfl,.inr rfl⟩
 ·rw [hlabs] at hx
  simp only [List.mem_append,List.mem_cons,List.not_mem_nil,or_false] at hx
  rcases hx with ((rfl | rfl) | e) | rfl
  ·exact ⟨c + 1,by omega,by omega,rfl⟩
  ·exact ⟨c + 2,by omega,by omega,rfl⟩
  ·obtain ⟨m,x1,x2,x3⟩:=h.labs x e
   exact ⟨m,by omega,x2,x3⟩
  ·exact ⟨c + 3,by omega,by omega,rfl⟩
 ·rw [hlabs,List.nodup_append,List.nodup_append]
  refine ⟨⟨?_,h.nodup,fun x hx y hy e => ?_⟩,(by simp),fun x hx y hy e => ?_⟩
  ·rw [List.nodup_cons]
   refine ⟨fun e => ?_,(by simp)⟩
   have:=inj _ _ (by omega) (by omega) (List.mem_singleton.1 e)
   omega
  ·obtain ⟨m,y1,y2,y3⟩:=h.labs y hy
   simp only [List.mem_cons,List.not_mem_nil,or_false] at hx
   rcases hx with hx | hx
   ·have:=inj _ _ (by omega) (by omega) (hx.symm.trans (e.trans y3)); omega
   ·have:=inj _ _ (by omega) (by omega) (hx.symm.trans (e.trans y3)); omega
  ·rw [List.mem_singleton.1 hy] at e
   rcases List.mem_append.1 hx with hx | hx
   ·simp only [List.mem_cons,List.not_mem_nil,or_false] at hx
    rcases hx with hx | hx
    ·have:=inj _ _ (by omega) (by omega) (hx.symm.trans e); omega
    ·have:=inj _ _ (by omega) (by omega) (hx.symm.trans e); omega
   ·obtain ⟨m,y1,y2,y3⟩:=h.labs x hx
    have:=inj _ _ (by omega) (by omega) (y3.symm.trans e); omega
 ·rw [hlabs]
  simp only [List.mem_append,List.mem_cons,List.not_mem_nil,or_false] at hl
  rcases hl with ((rfl | rfl | rfl | rfl | rfl | rfl) | e) | (rfl | rfl | rfl)
  ·rw [h1.lab] at h5; cases h5
  ·rw [h2.lab] at h5; cases h5
  ·rw [s1] at h4; exact absurd (show (108 : Int) = 105 from h4) (by decide)
  ·rw [sl]; exact ⟨labW (c + 2),by simp,rfl⟩
  ·rw [sj]; exact ⟨labW (c + 3),by simp,rfl⟩
  ·rw [s2] at h4; exact absurd (show (108 : Int) = 105 from h4) (by decide)
  ·obtain ⟨x,hx,he⟩:=h.asks l e h4 h5
   exact ⟨x,by simp [hx],he⟩
  ·rw [h3.lab] at h5; cases h5
  ·rw [sk]; exact ⟨labW (c + 1),by simp,rfl⟩
  ·rw [s3] at h4; exact absurd (show (108 : Int) = 105 from h4) (by decide)
 ·simp only [List.mem_append,List.mem_cons,List.not_mem_nil,or_false] at hl
  rcases hl with ((rfl | rfl | rfl | rfl | rfl | rfl) | e) | (rfl | rfl | rfl)
  ·rw [h1.fn] at h5; cases h5
  ·rw [h2.fn] at h5; cases h5
  ·rw [s1] at h4; exact absurd (show (108 : Int) = 105 from h4) (by decide)
  ·rw [sl] at h5; exact absurd (zok.2.symm.trans h5) (by decide)
  ·rw [sj] at h5; exact absurd (ziI.2.symm.trans h5) (by decide)
  ·rw [s2] at h4; exact absurd (show (108 : Int) = 105 from h4) (by decide)
  ·exact h.calls l e h4 h5
  ·rw [h3.fn] at h5; cases h5
  ·rw [sk] at h5; exact absurd (ziI.2.symm.trans h5) (by decide)
  ·rw [s3] at h4; exact absurd (show (108 : Int) = 105 from h4) (by decide)
theorem Pc.le {nk a b : Nat} {A : List Ln} (h : Pc nk a b A) : a ≤ b:=by
 induction h with
 | nil => exact Nat.le_refl _
 | app _ _ i1 i2 => omega
 | ins => exact Nat.le_refl _
 | call => exact Nat.le_refl _
 | loop _ _ _ _ _ _ ih => omega
theorem Pc.good {nk a b : Nat} {A : List Ln} (h : Pc nk a b A) (hn : nk ≤ 1000000) (hb : b ≤ 1000000) : PcOk nk a b A:=by
 induction h with
 | nil => exact ⟨Nat.le_refl _,fun x hx => (by cases hx),fun x hx => (by cases hx),List.nodup_nil,fun x hx => (by cases hx),fun x hx => (by cases hx)⟩
 | app _ h2 i1 i2 => have:=h2.le; exact (i1 (by omega)).app (i2 hb) hb
 | ins _ h => exact .plain h
 | call _ h => exact .callL h hn
 | loop hi hn h1 h2 h3 _ ih => exact .loop hi hn h1 h2 h3 (ih hb) hb
theorem zmh {b : List Said} {x : List UInt8} (h : ∃ q ∈ b,q.kind = 108 ∧ q.word 0 = ba x) : labI (ba x) b ≠ none:=by
 obtain ⟨q,hq,h1,h2⟩:=h
 induction b with
 | nil => cases hq
 | cons p t ih =>
  intro e
  unfold labI at e
  split at e
  ·cases e
  ·rename_i hp
   rcases List.mem_cons.1 hq with e2 | e2
   ·subst e2
    exact hp (by unfold zbU; rw [h1,h2,zkq]; simp)
   ·cases hl : labI (ba x) t with
    | none => exact ih e2 hl
    | some i => rw [hl] at e; cases e
theorem zrm (A : List Ln) (hk : ∀ l ∈ A,l.said.kind = 108 → ∃ x,l.said.word 0 = ba x) (hn : (labsOf A).Nodup) (j : Nat) (hj : j < (A.map Ln.said).length) (h8 : (A.map Ln.said)[j].kind = 108) : labI ((A.map Ln.said)[j].word 0) (A.map Ln.said) = some j:=by
 induction A generalizing j with
 | nil => simp at hj
 | cons l t ih =>
  cases j with
  | zero =>
   have h8' : l.said.kind = 108:=h8
   obtain ⟨x,hx⟩:=hk l List.mem_cons_self h8'
   show labI (l.said.word 0) (l.said :: t.map Ln.said) = some 0
   unfold labI
   rw [if_pos (by unfold zbU; rw [h8',hx,zkq]; simp)]
  | succ j =>
   have hj' : j < (t.map Ln.said).length:=by simpa using hj
   have h8' : (t.map Ln.said)[j].kind = 108:=h8
   show labI ((t.map Ln.said)[j].word 0) (l.said :: t.map Ln.said) = some (j + 1)
   have hn' : (labsOf t).Nodup:=by
    have : labsOf (l :: t) = labsOf [l] ++ labsOf t:=zbE [l] t
    rw [this,List.nodup_append] at hn
    exact hn.2.1
   have ih2:=ih (fun p hp => hk p (List.mem_cons_of_mem _ hp)) hn' j hj' h8'
   unfold labI
   rw [if_neg (fun e => ?_),ih2]
   ·rfl
   ·unfold zbU at e
    rw [Bool.and_eq_true] at e
    have hl8 : l.said.kind = 108:=of_decide_eq_true e.1
    obtain ⟨x,hx⟩:=hk l List.mem_cons_self hl8
    have hmem : t[j]'(by simpa using hj') ∈ t:=List.getElem_mem _
    have hs : (t.map Ln.said)[j] = (t[j]'(by simpa using hj')).said:=by simp
    rw [hs] at h8' e
    obtain ⟨y,hy⟩:=hk _ (List.mem_cons_of_mem _ hmem) h8'
    rw [hx,hy,zkq] at e
    have hxy : x = y:=of_decide_eq_true e.2
    have : labsOf (l :: t) = x :: labsOf t:=by
     unfold labsOf
     rw [List.filterMap_cons,if_pos hl8,hx]
     rfl
    rw [this,List.nodup_cons] at hn
    refine hn.1 ?_
    rw [hxy]
    unfold labsOf
    rw [List.mem_filterMap]
    exact ⟨_,hmem,by rw [if_pos h8',hy]; rfl⟩
def zd3 : Ln:=⟨false,[]⟩
theorem zgr : zd3.said = ⟨0,[],true⟩:=rfl
theorem zeS : Plain zbM:=⟨fun x hx => by rw [List.mem_singleton.1 hx]; exact zdO (by decide),by rw [zdg],by rw [zdg],by rw [zdg]; kernel_rfl,by rw [zdg]; kernel_rfl,by decide⟩
theorem zmi (E : List Ln) (hE : ∀ l ∈ E,l = zd3) (e : Bool) : (E.map Ln.said).foldl (fun e q => if q.kind = 108 then false else if q.kind = 105 then ends (q.word 0) else e) e = e:=by
 induction E with
 | nil => rfl
 | cons l t ih =>
  rw [List.map_cons,List.foldl_cons,hE l List.mem_cons_self,zgr]
  exact ih (fun x hx => hE x (List.mem_cons_of_mem _ hx))
theorem zrn {nk c : Nat} {A : List Ln} (h : Pc nk 0 c A) (hn : nk ≤ 1000000) (hc : c ≤ 1000000) (names : List (List UInt8)) (hnm : ∀ k,k < nk → fnW k ∈ names) (E : List Ln) (hE : ∀ l ∈ E,l = zd3) : BodyOk names ((A ++ [zbM] ++ E).map Ln.said):=by
 have G:=(h.good hn hc)
 have G2 : PcOk nk 0 c (A ++ [zbM]):=G.app (.plain zeS) hc
 have inE : ∀ l ∈ A ++ [zbM] ++ E,l ∈ A ++ [zbM] ∨ l.said = ⟨0,[],true⟩:=fun l hl => by
  rcases List.mem_append.1 hl with e | e
  ·exact .inl e
  ·right; rw [hE l e,zgr]
 have hlabs : labsOf (A ++ [zbM] ++ E) = labsOf (A ++ [zbM]):=by
  rw [zbE]
  have : labsOf E = []:=by
   unfold labsOf
   rw [List.filterMap_eq_nil_iff]
   intro l hl
   rw [hE l hl,zgr]; rfl
  rw [this,List.append_nil]
 refine ⟨fun q hq => ?_,fun q hq => ?_,fun j hj h8 => ?_,fun q hq h5 h6 => ?_,fun q hq h5 h6 => ?_,?_⟩
 ·obtain ⟨l,hl,rfl⟩:=List.mem_map.1 hq
  rcases inE l hl with e | e
  ·have:=(G2.ok l e).2.2
   omega
  ·rw [e]; show ¬ (0 : Int) = 102; decide
 ·obtain ⟨l,hl,rfl⟩:=List.mem_map.1 hq
  rcases inE l hl with e | e
  ·exact (G2.ok l e).2.1
  ·rw [e]
 ·exact zrm _ (fun l _ _ => ⟨(l.said.word 0).data.toList,(zm2 _).symm⟩) (by rw [hlabs]; exact G2.nodup) j hj h8
 ·obtain ⟨l,hl,rfl⟩:=List.mem_map.1 hq
  rcases inE l hl with e | e
  ·obtain ⟨x,hx,he⟩:=G2.asks l e h5 h6
   rw [he]
   refine zmh ?_
   unfold labsOf at hx
   obtain ⟨p,hp,hpx⟩:=List.mem_filterMap.1 hx
   split at hpx
   ·rename_i h8
    refine ⟨p.said,List.mem_map_of_mem (List.mem_append_left _ hp),h8,?_⟩
    rw [← Option.some.inj hpx,zm2]
   ·cases hpx
  ·rw [e] at h5; exact absurd (show (0 : Int) = 105 from h5) (by decide)
 ·obtain ⟨l,hl,rfl⟩:=List.mem_map.1 hq
  rcases inE l hl with e | e
  ·obtain ⟨k,hk,he⟩:=G2.calls l e h5 h6
   exact ⟨fnW k,hnm k hk,he⟩
  ·rw [e] at h5; exact absurd (show (0 : Int) = 105 from h5) (by decide)
 ·rw [List.map_append,List.foldl_append,zmi E hE,List.map_append,List.foldl_append,List.map_singleton,List.foldl_cons,List.foldl_nil,zdg]
  show (if (105 : Int) = 108 then false else if (105 : Int) = 105 then ends (ba [98,97,99,107]) else _) = true
  rw [if_neg (by decide),if_pos rfl]
  kernel_rfl
def zcr (k : Nat) : Ln:=⟨false,[[102,117,110,99],fnW k]⟩
def lnsT : List (List Ln) → List Ln
 | [] => []
 | A :: r => (zcr r.length :: (A ++ [zbM])) ++ lnsT r
def fsT : List (List Ln) → List Fs
 | [] => []
 | A :: r => ⟨fnW r.length,(A ++ [zbM] ++ (if r = [] then [zd3] else [])).map Ln.said⟩ :: fsT r
theorem zol (k : Nat) (h : k ≤ 1000000) : (zcr k).said = ⟨102,[ba [102,117,110,99],ba (fnW k)],true⟩:=by
 show sayW ([[102,117,110,99],fnW k].map ba) = _
 rw [zq5,zoe k h]
theorem zom (k : Nat) : (zcr k).Ok:=fun x hx => by
 simp only [zcr,List.mem_cons,List.not_mem_nil,or_false] at hx
 rcases hx with rfl | rfl
 ·exact zdO (by decide)
 ·exact zrZ k
theorem zro (G : List (List Ln)) (h : ¬ G = []) (hl : G.length ≤ 1000000) : zaB (fsT G) = (lnsT G ++ [zd3]).map Ln.said:=by
 induction G with
 | nil => exact absurd rfl h
 | cons A r ih =>
  have hh:=zol r.length (by simp at hl; omega)
  show zaB (⟨fnW r.length,(A ++ [zbM] ++ (if r = [] then [zd3] else [])).map Ln.said⟩ :: fsT r) = ((zcr r.length :: (A ++ [zbM])) ++ lnsT r ++ [zd3]).map Ln.said
  rw [zb8]
  cases r with
  | nil =>
   show Fs.said _ ++ [] = ((zcr 0 :: (A ++ [zbM])) ++ [] ++ [zd3]).map Ln.said
   rw [List.append_nil,List.append_nil,List.cons_append,List.map_cons]
   unfold Fs.said
   rw [show zcr 0 = zcr ([] : List (List Ln)).length from rfl,hh]
   rfl
  | cons B t =>
   rw [ih (by simp) (by simp at hl ⊢; omega),if_neg (by simp),List.append_nil]
   rw [show zcr (B :: t).length :: (A ++ [zbM]) ++ lnsT (B :: t) ++ [zd3] = zcr (B :: t).length :: ((A ++ [zbM]) ++ (lnsT (B :: t) ++ [zd3])) by simp,List.map_cons,hh,List.map_append (l₁:=A ++ [zbM])]
   rfl
theorem zon (G : List (List Ln)) : (fsT G).map Fs.name = (List.range G.length).reverse.map fnW:=by
 induction G with
 | nil => rfl
 | cons A r ih =>
  show fnW r.length :: (fsT r).map Fs.name = _
  rw [ih,List.length_cons,List.range_succ,List.reverse_append]
  rfl
theorem zrp {m n : Nat} (hm : m ≤ 1000000) (hn : n ≤ 1000000) (h : fnW m = fnW n) : m = n:=zhz (by omega) (by omega) (List.cons.inj h).2
theorem zka (n : Nat) (h : n ≤ 1000000) : ((List.range n).reverse.map fnW).Nodup:=by
 rw [List.Nodup,List.pairwise_map]
 have : (List.range n).reverse.Nodup:=by
  rw [List.Nodup,List.pairwise_reverse]
  exact List.nodup_range.imp fun h => Ne.symm h
 refine List.Pairwise.imp_of_mem (fun {a b} ha hb hne e => hne ?_) this
 rw [List.mem_reverse,List.mem_range] at ha hb
 exact zrp (by omega) (by omega) e
inductive Wrote : List (List Ln) → Prop
 | nil : Wrote []
 | cons {A : List Ln} {r : List (List Ln)} {c : Nat} (h : Pc r.length 0 c A) (hc : c ≤ 1000000) (hr : Wrote r) : Wrote (A :: r)
theorem Wrote.body {G : List (List Ln)} (h : Wrote G) (names : List (List UInt8)) (hnm : ∀ k,k < G.length → fnW k ∈ names) (hl : G.length ≤ 1000000) : ∀ f ∈ fsT G,BodyOk names f.body:=by
 induction h with
 | nil => intro f hf; cases hf
 | cons h hc hr ih =>
  intro f hf
  rcases List.mem_cons.1 hf with e | e
  ·rw [e]
   refine zrn h (by simp at hl; omega) hc names (fun k hk => hnm k (by simp; omega)) _ (fun l hl => ?_)
   split at hl
   ·exact List.mem_singleton.1 hl
   ·cases hl
  ·exact ih (fun k hk => hnm k (by simp; omega)) (by simp at hl; omega) f e
theorem Wrote.prog {G : List (List Ln)} (h : Wrote G) (h0 : ¬ G = []) (hl : G.length ≤ 1000000) : Prog ((lnsT G ++ [zd3]).map Ln.said):=by
 rw [← zro G h0 hl]
 refine zq8 _ (fun e => ?_) (by rw [zon]; exact zka _ hl) (h.body _ (fun k hk => ?_) hl)
 ·cases G with
  | nil => exact h0 rfl
  | cons A r => cases e
 ·rw [zon]
  exact List.mem_map_of_mem (List.mem_reverse.2 (List.mem_range.2 hk))
theorem Wrote.ok {G : List (List Ln)} (h : Wrote G) (hl : G.length ≤ 1000000) : ∀ l ∈ lnsT G ++ [zd3],l.Ok:=by
 have he : zd3.Ok:=fun x hx => by cases hx
 intro l hl2
 rcases List.mem_append.1 hl2 with e | e
 ·clear hl2
  induction h with
  | nil => cases e
  | cons h hc hr ih =>
   simp only [List.length_cons] at hl
   rcases List.mem_append.1 e with e | e
   ·rcases List.mem_cons.1 e with e | e
    ·rw [e]; exact zom _
    ·rcases List.mem_append.1 e with e | e
     ·exact ((h.good (by omega) hc).ok l e).1
     ·rw [List.mem_singleton.1 e]; exact zeS.ok
   ·exact ih (by omega) e
 ·rw [List.mem_singleton.1 e]; exact he
def zdh (G : List (List Ln)) : List UInt8:=zck ((lnsT G).map Ln.bytes)
theorem zqe {ls : List (List UInt8)} (h : ∀ l ∈ ls,∀ c ∈ l,¬ c = 10) (last : List UInt8) (h2 : ∀ c ∈ last,¬ c = 10) : zbm (zck ls ++ last) = ls ++ [last]:=by
 rw [zjg ls last h,zjf last h2]
theorem Wrote.lines {G : List (List Ln)} (h : Wrote G) (hl : G.length ≤ 1000000) : (lines (ba (zdh G))).map say = (lnsT G ++ [zd3]).map Ln.said:=by
 have hok:=h.ok hl
 have:=zqe (ls:=(lnsT G).map Ln.bytes) (fun l hl c hc => by
  obtain ⟨x,hx,rfl⟩:=List.mem_map.1 hl
  exact x.no10' (hok x (List.mem_append_left _ hx)) c hc) [] (fun c hc => by cases hc)
 rw [List.append_nil] at this
 unfold zdh
 rw [zoB,this,List.map_map,List.map_append,List.map_append,List.map_map]
 have e1 : (lnsT G).map ((Sp.say ∘ ba) ∘ Ln.bytes) = (lnsT G).map Ln.said:=List.map_congr_left fun l hl => l.say0 (hok l (List.mem_append_left _ hl))
 rw [e1]
 have e2 : Sp.say (ba []) = zd3.said:=zd3.say0 (hok _ (List.mem_append_right _ (List.mem_singleton.2 rfl)))
 simp only [List.map_cons,List.map_nil,Function.comp_apply,e2]
theorem Wrote.read {G : List (List Ln)} (h : Wrote G) (h0 : ¬ G = []) (hl : G.length ≤ 1000000) : zd1 (ba (zdh G)) = if 4000 < (ba (zdh G)).size ∨ 300 < (Sp.lines (ba (zdh G))).length then (6,0) else (0,0) :=
 zm8 _ (by rw [h.lines hl]; exact h.prog h0 hl)
theorem zeT (n : Nat) (h : n ≤ 1000000) : (labW n).length ≤ 8:=by
 have:=zdx 6 n (by omega)
 show (decL n).length + 1 ≤ 8
 omega
theorem zoo (n : Nat) (h : n ≤ 1000000) : (fnW n).length ≤ 8:=by
 have:=zdx 6 n (by omega)
 show (decL n).length + 1 ≤ 8
 omega
theorem Pc.short {nk a b : Nat} {A : List Ln} (h : Pc nk a b A) (hn : nk ≤ 1000000) (hb : b ≤ 1000000) : ∀ l ∈ A,l.bytes.length ≤ 200:=by
 induction h with
 | nil => intro l hl; cases hl
 | app _ h2 i1 i2 =>
  intro l hl
  rcases List.mem_append.1 hl with e | e
  ·exact i1 (Nat.le_trans h2.le hb) l e
  ·exact i2 hb l e
 | ins _ h => intro l hl; rw [List.mem_singleton.1 hl]; exact h.short
 | call _ h =>
  rename_i k
  intro l hl
  have:=zoo k (by omega)
  rw [List.mem_singleton.1 hl]
  simp [callL,Ln.bytes,Ln.blank,zbG]
  omega
 | loop hi hn h1 h2 h3 h ih =>
  rename_i c d i n l1 l2 l3 B
  have hle:=h.le
  have w1:=zeT (c + 1) (by omega)
  have w2:=zeT (c + 2) (by omega)
  have w3:=zeT (c + 3) (by omega)
  intro l hl
  simp only [List.mem_append,List.mem_cons,List.not_mem_nil,or_false] at hl
  rcases hl with ((rfl | rfl | rfl | rfl | rfl | rfl) | e) | (rfl | rfl | rfl)
  ·exact h1.short
  ·exact h2.short
  ·simp [labL,Ln.bytes,Ln.blank,zbG]; omega
  ·simp [ze0,Ln.bytes,Ln.blank,zbG,regW]; omega
  ·simp [zcp,Ln.bytes,Ln.blank,zbG]; omega
  ·simp [labL,Ln.bytes,Ln.blank,zbG]; omega
  ·exact ih hb l e
  ·exact h3.short
  ·simp [zcp,Ln.bytes,Ln.blank,zbG]; omega
  ·simp [labL,Ln.bytes,Ln.blank,zbG]; omega
end Go.Proofs.YtfpgjkbjbbgciaaGreatDoor.Sp
namespace Go.Proofs.YtfpgjkbjbbgciaaGreatDoor
open Go.RowKit Sp
structure DiM (B : Nat) (w : World) (px : Nat) (cv : Value) (code : List Int) (k : Nat) : Prop where
 c0 : w.cell? ⟨px,0,none⟩ = some cv
 row : SlB w B cv code
 c1 : w.cell? ⟨px,1,none⟩ = some (.int .i64 (k : Int))
 le : k ≤ code.length
 fz : ∀ j,w.frozen? ⟨px,j,none⟩ = false
 len : code.length ≤ 9223372036854775807
 num : ∀ x ∈ code,i64 x
 hB : B ≤ px
 kx : ∃ c,w.heap[px]? = some (.cells c 76 (0,0))
theorem zkX {w : World} {q o : Nat} {v : Value} {b : Nat} {t : TypeId} (h : ∃ c,w.heap[b]? = some (.cells c t (0,0))) : ∃ c,(w.setCell ⟨q,o,none⟩ v).heap[b]? = some (.cells c t (0,0)):=by
 obtain ⟨c,h⟩:=h
 by_cases e : b = q
 ·subst e
  exact ⟨_,heap_setCell_same w b o c t v h⟩
 ·exact ⟨c,(Below.heap_setCell _ _ _ _ e).trans h⟩
theorem DiM.lt {B : Nat} {w : World} {px : Nat} {cv : Value} {code : List Int} {k : Nat} (h : DiM B w px cv code k) : px < w.heap.size:=World.block_lt_of_cell? w _ h.c0
theorem DiM.block {B : Nat} {w w' : World} {px : Nat} {cv : Value} {code : List Int} {k : Nat} (h : DiM B w px cv code k) (hb : Below B w w') (e : w'.heap[px]? = w.heap[px]?) : DiM B w' px cv code k:=by
 have c : ∀ j,w'.cell? ⟨px,j,none⟩ = w.cell? ⟨px,j,none⟩:=fun j => World.cell?_of_block (w:=w) (a:=⟨px,j,none⟩) e
 exact ⟨(c _).trans h.c0,h.row.below hb,(c _).trans h.c1,h.le,fun j => (World.frozen?_of_block (w:=w) (a:=⟨px,j,none⟩) e).trans (h.fz j),h.len,h.num,h.hB,by rw [e]; exact h.kx⟩
theorem DiM.set {B : Nat} {w : World} {px : Nat} {cv : Value} {code : List Int} {k : Nat} (h : DiM B w px cv code k) (k2 : Nat) (hk : k2 ≤ code.length) : DiM B (w.setCell ⟨px,1,none⟩ (.int .i64 (k2 : Int))) px cv code k2:=by
 have hb : Below B w (w.setCell ⟨px,1,none⟩ (.int .i64 (k2 : Int))):=(Below.refl B w).setCell (p:=⟨px,1,none⟩) h.hB _
 refine ⟨?_,h.row.below hb,?_,hk,fun j => zcN w _ _ j _ (h.fz j),h.len,h.num,h.hB,zkX h.kx⟩
 ·rw [zbv w px 1 0 _ _ h.c1,if_neg (by omega)]; exact h.c0
 ·rw [zbv w px 1 1 _ _ h.c1,if_pos rfl]
theorem DiM.drewN {B : Nat} {w : World} {px : Nat} {cv : Value} {code : List Int} {k : Nat} (h : DiM B w px cv code k) (n : Nat) : DiM B (w.drewN n) px cv code k:=⟨h.c0,h.row,h.c1,h.le,h.fz,h.len,h.num,h.hB,h.kx⟩
theorem zhd (w : World) (n : Nat) (r : Option Nat) : w.grownBy (w.drewN n) r:=⟨rfl,rfl,rfl,Nat.le_refl _,fun _ _ _ => rfl⟩
theorem zbf (w : World) (n B : Nat) : Below B w (w.drewN n):=⟨rfl,rfl,rfl,Nat.le_refl _,fun _ _ => rfl⟩
theorem ziJ {w w' : World} {r : Option Nat} (h : w.grownBy w' r) {n : Nat} : w.grownBy (w'.drewN n) r:=⟨h.os,h.tape,h.output,h.size,h.block⟩
def zqw (B : Nat) (w : World) (px : Nat) (cv : Value) (code : List Int) (w' : World) : Prop:=∃ k,DiM B w' px cv code k ∧ w.grownBy w' (some px)
theorem zdi {B : Nat} {w : World} {px : Nat} {cv : Value} {code : List Int} {k : Nat} (h : DiM B w px cv code k) (n : Int) (hn : 0 < n) :
  Calls Tryz.prog 41 #[.pointer (some ⟨px,0,none⟩),.int .i64 n] w fun e w' => ∃ c : Nat,e = .returned (.int .i64 (c : Int)) ∧ (c : Int) < n ∧ zqw B w px cv code w':=by
 have c0:=h.c0
 have c1:=h.c1
 have f1:=h.fz 1
 have hle:=h.le
 have hln:=h.len
 obtain ⟨ao,cap,rfl,hcap,hrow⟩:=h.row
 by_cases hk : k < code.length
 ·obtain ⟨g,o,rfl,hg,hgs,hcell⟩:=hrow (by omega)
  have cx:=hcell k hk
  have hx:=h.num _ (List.getElem_mem hk)
  have hp0 : 0 ≤ zeQ code[k] n:=Int.emod_nonneg _ (by omega)
  have hp1 : zeQ code[k] n < n:=Int.emod_lt_of_pos _ hn
  have hp:=fun W => zfz code[k] n W hn hx
  clear hcell hrow
  generalize code[k] = x at cx hp hp0 hp1
  obtain ⟨c,hc⟩:=Int.eq_ofNat_of_zero_le hp0
  rw [hc] at hp hp1
  have hk0 : (0 : Int) ≤ (k : Int):=by omega
  have hk1 : (k : Int) < (code.length : Int):=by omega
  go_enter Tryz.func41,Tryz.ntmps41
  go_wp2_with fail
  go_quiet (fail)
  go_wp2_with fail
  go_region_with (go_at_call 37; (with_reducible refine (hp _).mono ?_); rintro e wx ⟨rfl,hww⟩; have h2:=hww.symm; subst h2)
  all_goals go_wp2
  all_goals go_ret
  all_goals exact ⟨c,rfl,hp1,k + 1,(h.drewN _).set (k + 1) (by omega),zat (zbf _ _ _)⟩
 ·go_enter Tryz.func41,Tryz.ntmps41
  go_wp2_with fail
  go_quiet (fail)
  go_wp2
  go_ret
  exact ⟨0,rfl,hn,k,h.drewN _,zhd _ _ _⟩
theorem zqx {B : Nat} {w : World} {px : Nat} {cv : Value} {code : List Int} {k : Nat} (h : DiM B w px cv code k) :
  Calls Tryz.prog 121 #[.pointer (some ⟨px,0,none⟩)] w fun e w' => ∃ z : Int,e = .returned (.int .i64 z) ∧ i64 z ∧ zqw B w px cv code w':=by
 have c0:=h.c0
 have c1:=h.c1
 have f1:=h.fz 1
 have hle:=h.le
 have hln:=h.len
 obtain ⟨ao,cap,rfl,hcap,hrow⟩:=h.row
 by_cases hk : k < code.length
 ·obtain ⟨g,o,rfl,hg,hgs,hcell⟩:=hrow (by omega)
  have cx:=hcell k hk
  have hx:=h.num _ (List.getElem_mem hk)
  have hne : ¬ g = px:=by have:=h.hB; omega
  have hne2 : ¬ px = g:=fun e => hne e.symm
  clear hcell hrow
  generalize code[k] = x at cx hx
  obtain ⟨hx1,hx2⟩:=hx
  have hk0 : (0 : Int) ≤ (k : Int):=by omega
  have hk1 : (k : Int) < (code.length : Int):=by omega
  go_enter Tryz.func121,Tryz.ntmps121
  go_wp2_with fail
  go_quiet (fail)
  go_wp2_with fail
  go_quiet (fail)
  go_wp2
  go_ret
  exact ⟨x,rfl,⟨hx1,hx2⟩,k + 1,((h.drewN _).set (k + 1) (by omega)).drewN _,ziJ (zat (zbf _ _ _))⟩
 ·go_enter Tryz.func121,Tryz.ntmps121
  go_wp2_with fail
  go_quiet (fail)
  go_wp2
  go_ret
  exact ⟨0,rfl,⟨by omega,by omega⟩,k,h.drewN _,zhd _ _ _⟩
structure Wst where
 lines : List Ln
 labels : Nat
 held : Nat → Bool
 counts : List Nat
 deep : Nat
 most : Int
 nk : Nat
def updV (V : Nat → Value) (n : Nat) (v : Value) : Nat → Value:=fun j => if j = n then v else V j
theorem zbp (V : Nat → Value) (n : Nat) (v : Value) : updV V n v n = v:=if_pos rfl
theorem zab (V : Nat → Value) {n j : Nat} (v : Value) (h : ¬ j = n) : updV V n v j = V j:=if_neg h
structure Blk (B : Nat) (w : World) (b px : Nat) (cv : Value) (code : List Int) (k : Nat) (V : Nat → Value) : Prop where
 di : DiM B w px cv code k
 cell : ∀ j,j < 24 → w.cell? ⟨b,j,none⟩ = some (V j)
 fz : ∀ j,w.frozen? ⟨b,j,none⟩ = false
 kb : ∃ c,w.heap[b]? = some (.cells c 109 (0,0))
 hB : B ≤ b
theorem Blk.lt {B : Nat} {w : World} {b px : Nat} {cv : Value} {code : List Int} {k : Nat} {V : Nat → Value} (h : Blk B w b px cv code k V) : b < w.heap.size:=World.block_lt_of_cell? w _ (h.cell 0 (by omega))
theorem Blk.ne {B : Nat} {w : World} {b px : Nat} {cv : Value} {code : List Int} {k : Nat} {V : Nat → Value} (h : Blk B w b px cv code k V) : ¬ b = px:=fun e => by
 obtain ⟨c,h1⟩:=h.kb
 obtain ⟨c2,h2⟩:=h.di.kx
 rw [e,h2] at h1
 simp at h1
theorem Blk.block {B : Nat} {w w' : World} {b px : Nat} {cv : Value} {code : List Int} {k : Nat} {V : Nat → Value} (h : Blk B w b px cv code k V) (hb : Below B w w') (e1 : w'.heap[b]? = w.heap[b]?) (e2 : w'.heap[px]? = w.heap[px]?) : Blk B w' b px cv code k V:=by
 have c : ∀ j,w'.cell? ⟨b,j,none⟩ = w.cell? ⟨b,j,none⟩:=fun j => World.cell?_of_block (w:=w) (a:=⟨b,j,none⟩) e1
 refine ⟨h.di.block hb e2,fun j hj => (c j).trans (h.cell j hj),fun j => (World.frozen?_of_block (w:=w) (a:=⟨b,j,none⟩) e1).trans (h.fz j),?_,h.hB⟩
 rw [e1]; exact h.kb
theorem Blk.put {B : Nat} {w : World} {b px : Nat} {cv : Value} {code : List Int} {k : Nat} {V : Nat → Value} (h : Blk B w b px cv code k V) (n : Nat) (hn : n < 24) (v : Value) : Blk B (w.setCell ⟨b,n,none⟩ v) b px cv code k (updV V n v):=by
 have hb : Below B w (w.setCell ⟨b,n,none⟩ v):=(Below.refl B w).setCell (p:=⟨b,n,none⟩) h.hB _
 have e2 : (w.setCell ⟨b,n,none⟩ v).heap[px]? = w.heap[px]?:=Below.heap_setCell _ _ _ _ (fun e => h.ne e.symm)
 refine ⟨h.di.block hb e2,fun j hj => ?_,fun j => zcN w _ _ j _ (h.fz j),zkX h.kb,h.hB⟩
 rw [zbv w b n j v _ (h.cell n hn)]
 unfold updV
 split
 ·rfl
 ·exact h.cell j hj
theorem Blk.threw {B : Nat} {w w' : World} {b px : Nat} {cv : Value} {code : List Int} {k k2 : Nat} {V : Nat → Value} (h : Blk B w b px cv code k V) (hd : DiM B w' px cv code k2) (hg : w.grownBy w' (some px)) : Blk B w' b px cv code k2 V:=by
 have e1 : w'.heap[b]? = w.heap[b]?:=hg.block b h.lt (fun e => h.ne (Option.some.inj e))
 have c : ∀ j,w'.cell? ⟨b,j,none⟩ = w.cell? ⟨b,j,none⟩:=fun j => World.cell?_of_block (w:=w) (a:=⟨b,j,none⟩) e1
 refine ⟨hd,fun j hj => (c j).trans (h.cell j hj),fun j => (World.frozen?_of_block (w:=w) (a:=⟨b,j,none⟩) e1).trans (h.fz j),?_,h.hB⟩
 rw [e1]; exact h.kb
def KnRow (B : Nat) (w : World) (v : Value) (nk : Nat) : Prop:=∃ xs,w.ownsRow B 113 10 v nk xs ∧ ∀ j,j < nk → (∃ z : Nat,xs[j * 10]? = some (.int .i64 (z : Int)) ∧ z ≤ (j + 1) * 2147483648) ∧ (∀ i,i < 8 → ∃ g,xs[j * 10 + (1 + i)]? = some (.bool g)) ∧ ∃ f : Nat,xs[j * 10 + 9]? = some (.int .i64 (f : Int)) ∧ f ≤ j + 1
def lnV (l : Ln) : Value:=.string (ba l.bytes)
def natV (c : Nat) : Value:=.int .i64 (c : Int)
structure WrM (B : Nat) (w : World) (b px : Nat) (cv : Value) (code : List Int) (S : Wst) (k : Nat) (V : Nat → Value) : Prop where
 blk : Blk B w b px cv code k V
 v0 : V 0 = .pointer (some ⟨px,0,none⟩)
 lines : w.ownsRow B 9 1 (V 1) S.lines.length (S.lines.map lnV)
 v2 : V 2 = .int .i64 (S.labels : Int)
 held : ∀ i,i < 8 → V (3 + i) = .bool (S.held i)
 counts : w.ownsRow B 3 1 (V 11) S.counts.length (S.counts.map natV)
 cnt8 : ∀ c ∈ S.counts,c < 8
 gives : ∀ i,i < 8 → ∃ g,V (12 + i) = .bool g
 v20 : V 20 = .int .i64 (S.deep : Int)
 v21 : V 21 = .int .i64 S.most
 v22 : ∃ f : Nat,V 22 = .int .i64 (f : Int) ∧ f ≤ S.nk + 1
 known : KnRow B w (V 23) S.nk
theorem zb6 {w : World} {B : Nat} {e : TypeId} {size n : Nat} {v : Value} {xs : List Value} (h : w.ownsRow B e size v n xs) {b : Nat} {t : TypeId} (hk : ∃ c,w.heap[b]? = some (.cells c t (0,0))) (hne : ¬ e = t) : ∀ g,v.ownBlock = some g → ¬ g = b:=fun g hg he => by
 obtain ⟨cur,h1⟩:=zbk h hg
 obtain ⟨c,h2⟩:=hk
 rw [he,h2] at h1
 simp at h1
 exact hne h1.2.symm
theorem WrM.rows {B : Nat} {w w' : World} {b px : Nat} {cv : Value} {code : List Int} {S : Wst} {k : Nat} {V : Nat → Value} (h : WrM B w b px cv code S k V) (hb : ∀ g,g < w.heap.size → ¬ g = b → ¬ g = px → w'.heap[g]? = w.heap[g]?) :
  w'.ownsRow B 9 1 (V 1) S.lines.length (S.lines.map lnV) ∧ w'.ownsRow B 3 1 (V 11) S.counts.length (S.counts.map natV) ∧ KnRow B w' (V 23) S.nk:=by
 have kb:=h.blk.kb
 have kx:=h.blk.di.kx
 refine ⟨zad h.lines fun g hg => hb g (h.lines.lt g hg).2 (zb6 h.lines kb (by decide) g hg) (zb6 h.lines kx (by decide) g hg),zad h.counts fun g hg => hb g (h.counts.lt g hg).2 (zb6 h.counts kb (by decide) g hg) (zb6 h.counts kx (by decide) g hg),?_⟩
 obtain ⟨xs,h1,h2⟩:=h.known
 exact ⟨xs,zad h1 fun g hg => hb g (h1.lt g hg).2 (zb6 h1 kb (by decide) g hg) (zb6 h1 kx (by decide) g hg),h2⟩
theorem WrM.threw {B : Nat} {w w' : World} {b px : Nat} {cv : Value} {code : List Int} {S : Wst} {k k2 : Nat} {V : Nat → Value} (h : WrM B w b px cv code S k V) (hd : DiM B w' px cv code k2) (hg : w.grownBy w' (some px)) : WrM B w' b px cv code S k2 V:=by
 obtain ⟨r1,r2,r3⟩:=h.rows (w':=w') (fun g hg' _ hx => hg.block g hg' (fun e => hx (Option.some.inj e)))
 exact ⟨h.blk.threw hd hg,h.v0,r1,h.v2,h.held,r2,h.cnt8,h.gives,h.v20,h.v21,h.v22,r3⟩
theorem WrM.below {B : Nat} {w w' : World} {b px : Nat} {cv : Value} {code : List Int} {S : Wst} {k : Nat} {V : Nat → Value} (h : WrM B w b px cv code S k V) (hb : Below w.heap.size w w') (hB : B ≤ w.heap.size) : WrM B w' b px cv code S k V:=by
 obtain ⟨r1,r2,r3⟩:=h.rows (w':=w') (fun g hg' _ _ => hb.block g hg')
 exact ⟨h.blk.block (hb.mono hB) (hb.block b h.blk.lt) (hb.block px h.blk.di.lt),h.v0,r1,h.v2,h.held,r2,h.cnt8,h.gives,h.v20,h.v21,h.v22,r3⟩
theorem WrM.base {B : Nat} {w : World} {b px : Nat} {cv : Value} {code : List Int} {S : Wst} {k : Nat} {V : Nat → Value} (h : WrM B w b px cv code S k V) : B ≤ w.heap.size:=by
 have:=h.blk.lt
 have:=h.blk.hB
 omega
theorem WrM.put {B : Nat} {w : World} {b px : Nat} {cv : Value} {code : List Int} {S S2 : Wst} {k : Nat} {V : Nat → Value} (h : WrM B w b px cv code S k V) (n : Nat) (hn : n < 24) (v : Value)
  (e1 : S2.lines = S.lines) (e2 : S2.counts = S.counts) (e3 : S2.nk = S.nk) (n0 : ¬ n = 0) (n1 : ¬ n = 1) (n11 : ¬ n = 11) (n23 : ¬ n = 23)
  (h2 : updV V n v 2 = .int .i64 (S2.labels : Int)) (hh : ∀ i,i < 8 → updV V n v (3 + i) = .bool (S2.held i)) (hg : ∀ i,i < 8 → ∃ g,updV V n v (12 + i) = .bool g)
  (h20 : updV V n v 20 = .int .i64 (S2.deep : Int)) (h21 : updV V n v 21 = .int .i64 S2.most) (h22 : ∃ f : Nat,updV V n v 22 = .int .i64 (f : Int) ∧ f ≤ S2.nk + 1) :
  WrM B (w.setCell ⟨b,n,none⟩ v) b px cv code S2 k (updV V n v):=by
 obtain ⟨r1,r2,r3⟩:=h.rows (w':=w.setCell ⟨b,n,none⟩ v) (fun g _ hne _ => Below.heap_setCell _ _ _ _ hne)
 refine ⟨h.blk.put n hn v,?_,?_,h2,hh,?_,by rw [e2]; exact h.cnt8,hg,h20,h21,h22,?_⟩
 ·rw [zab _ _ (fun e => n0 e.symm)]; exact h.v0
 ·rw [zab _ _ (fun e => n1 e.symm),e1]; exact r1
 ·rw [zab _ _ (fun e => n11 e.symm),e2]; exact r2
 ·rw [zab _ _ (fun e => n23 e.symm),e3]; exact r3
end Go.Proofs.YtfpgjkbjbbgciaaGreatDoor
namespace Go.Proofs.YtfpgjkbjbbgciaaGreatDoor
open Go.RowKit Sp
attribute [local go_sem ↓] Go.wp_at_zero Go.wp_at_succ
theorem zdz {B : Nat} {w w4 : World} {r : Option Nat} (hg : w.grownBy w4 r) (hr : ∀ g,r = some g → B ≤ g) (hB : B ≤ w.heap.size) : Below B w w4 :=
 ⟨hg.os,hg.tape,hg.output,hg.size,fun q hq => hg.block q (by omega) (fun e => by have:=hr q e.symm; omega)⟩
def Mine (b px : Nat) (V : Nat → Value) (q : Nat) : Prop:=q = b ∨ q = px ∨ (V 1).ownBlock = some q ∨ (V 11).ownBlock = some q
structure Fr (b px : Nat) (w : World) (V : Nat → Value) (w' : World) (V' : Nat → Value) : Prop where
 os : w'.os = w.os
 tape : w'.tape = w.tape
 output : w'.output = w.output
 size : w.heap.size ≤ w'.heap.size
 keep : ∀ q,q < w.heap.size → ¬ Mine b px V q → w'.heap[q]? = w.heap[q]?
 mine : ∀ q,q < w.heap.size → Mine b px V' q → Mine b px V q
theorem Fr.refl (b px : Nat) (w : World) (V : Nat → Value) : Fr b px w V w V:=⟨rfl,rfl,rfl,Nat.le_refl _,fun _ _ _ => rfl,fun _ _ h => h⟩
theorem Fr.trans {b px : Nat} {w1 w2 w3 : World} {V1 V2 V3 : Nat → Value} (h : Fr b px w1 V1 w2 V2) (k : Fr b px w2 V2 w3 V3) : Fr b px w1 V1 w3 V3 :=
 ⟨k.os.trans h.os,k.tape.trans h.tape,k.output.trans h.output,Nat.le_trans h.size k.size,fun q hq hm => (k.keep q (Nat.lt_of_lt_of_le hq h.size) (fun e => hm (h.mine q hq e))).trans (h.keep q hq hm),fun q hq hm => h.mine q hq (k.mine q (Nat.lt_of_lt_of_le hq h.size) hm)⟩
theorem Fr.low {b px : Nat} {w1 w2 : World} {V : Nat → Value} (h : Below w1.heap.size w1 w2) : Fr b px w1 V w2 V:=⟨h.os,h.tape,h.output,h.size,fun q hq _ => h.block q hq,fun _ _ h => h⟩
theorem Fr.grown {b px : Nat} {w1 w2 : World} {V : Nat → Value} (h : w1.grownBy w2 (some px)) : Fr b px w1 V w2 V:=⟨h.os,h.tape,h.output,h.size,fun q hq hm => h.block q hq (fun e => hm (.inr (.inl (Option.some.inj e)))),fun _ _ h => h⟩
theorem WrM.mineB {B : Nat} {w : World} {b px : Nat} {cv : Value} {code : List Int} {S : Wst} {k : Nat} {V : Nat → Value} (h : WrM B w b px cv code S k V) {q : Nat} (hm : Mine b px V q) : B ≤ q:=by
 rcases hm with e | e | e | e
 ·rw [e]; exact h.blk.hB
 ·rw [e]; exact h.blk.di.hB
 ·exact (h.lines.lt q e).1
 ·exact (h.counts.lt q e).1
theorem WrM.low {B : Nat} {w : World} {b px : Nat} {cv : Value} {code : List Int} {S : Wst} {k : Nat} {V : Nat → Value} (h : WrM B w b px cv code S k V) {w' : World} {V' : Nat → Value} (f : Fr b px w V w' V') : Below B w w' :=
 ⟨f.os,f.tape,f.output,f.size,fun q hq => f.keep q (by have:=h.base; omega) (fun hm => by have:=h.mineB hm; omega)⟩
theorem WrM.said {B : Nat} {w w4 : World} {b px : Nat} {cv : Value} {code : List Int} {S : Wst} {k : Nat} {V : Nat → Value} (h : WrM B w b px cv code S k V) {gn cn : Nat} {l : Ln} (hg : w.grownBy w4 (V 1).ownBlock) (hnew : (V 1).ownBlock = some gn ∨ w.heap.size ≤ gn) (hown : w4.ownsRow B 9 1 (.slice (some ⟨gn,0,none⟩) (S.lines.length + 1) cn) (S.lines.length + 1) ((S.lines ++ [l]).map lnV)) :
  WrM B (w4.setCell ⟨b,1,none⟩ (.slice (some ⟨gn,0,none⟩) (S.lines.length + 1) cn)) b px cv code { S with lines:=S.lines ++ [l] } k (updV V 1 (.slice (some ⟨gn,0,none⟩) (S.lines.length + 1) cn)) ∧ Fr b px w V (w4.setCell ⟨b,1,none⟩ (.slice (some ⟨gn,0,none⟩) (S.lines.length + 1) cn)) (updV V 1 (.slice (some ⟨gn,0,none⟩) (S.lines.length + 1) cn)) ∧ w4.cell? ⟨b,1,none⟩ = some (V 1) ∧ w4.frozen? ⟨b,1,none⟩ = false:=by
 have hB:=h.base
 have hb4 : Below B w w4:=zdz hg (fun g e => (h.lines.lt g e).1) hB
 have keep : ∀ g,g < w.heap.size → ¬ (V 1).ownBlock = some g → w4.heap[g]? = w.heap[g]?:=fun g hl hne => hg.block g hl (fun e => hne e.symm)
 have eb : w4.heap[b]? = w.heap[b]?:=keep b h.blk.lt (fun e => zb6 h.lines h.blk.kb (by decide) b e rfl)
 have ex : w4.heap[px]? = w.heap[px]?:=keep px h.blk.di.lt (fun e => zb6 h.lines h.blk.di.kx (by decide) px e rfl)
 have B4:=h.blk.block hb4 eb ex
 have hc4 : w4.ownsRow B 3 1 (V 11) S.counts.length (S.counts.map natV):=zad h.counts fun g e => keep g (h.counts.lt g e).2 (fun e1 => by
  rcases zbR h.counts h.lines (by decide) with q | q
  ·rw [q] at e; cases e
  ·exact q (e.trans e1.symm))
 obtain ⟨xs,k1,k2⟩:=h.known
 have hk4 : w4.ownsRow B 113 10 (V 23) S.nk xs:=zad k1 fun g e => keep g (k1.lt g e).2 (fun e1 => by
  rcases zbR k1 h.lines (by decide) with q | q
  ·rw [q] at e; cases e
  ·exact q (e.trans e1.symm))
 have set5 : ∀ {e : TypeId} {size n : Nat} {v : Value} {ys : List Value},w4.ownsRow B e size v n ys → ¬ e = 109 → (w4.setCell ⟨b,1,none⟩ (.slice (some ⟨gn,0,none⟩) (S.lines.length + 1) cn)).ownsRow B e size v n ys:=fun ho hne => zad ho fun g e => Below.heap_setCell _ _ _ _ (zb6 ho B4.kb hne g e)
 refine ⟨⟨B4.put 1 (by omega) _,?_,?_,?_,fun i hi => ?_,?_,h.cnt8,fun i hi => ?_,?_,?_,?_,?_⟩,⟨hg.os,hg.tape,hg.output,by rw [World.size_setCell]; exact hg.size,fun q hq hm => ?_,fun q hq hm => ?_⟩,B4.cell 1 (by omega),B4.fz 1⟩
 ·rw [zab _ _ (by decide)]; exact h.v0
 ·rw [zbp]
  have:=set5 hown (by decide)
  simpa using this
 ·rw [zab _ _ (by decide)]; exact h.v2
 ·rw [zab _ _ (by omega)]; exact h.held i hi
 ·rw [zab _ _ (by decide)]; exact set5 hc4 (by decide)
 ·rw [zab _ _ (by omega)]; exact h.gives i hi
 ·rw [zab _ _ (by decide)]; exact h.v20
 ·rw [zab _ _ (by decide)]; exact h.v21
 ·rw [zab _ _ (by decide)]; exact h.v22
 ·rw [zab _ _ (by decide)]; exact ⟨xs,set5 hk4 (by decide),k2⟩
 ·rw [Below.heap_setCell _ _ _ _ (fun e => hm (.inl e))]
  exact keep q hq (fun e => hm (.inr (.inr (.inl e))))
 ·rcases hm with e | e | e | e
  ·exact .inl e
  ·exact .inr (.inl e)
  ·rw [zbp] at e
   have e2 : gn = q:=Option.some.inj e
   rcases hnew with e3 | e3
   ·exact .inr (.inr (.inl (by rw [e3,e2])))
   ·omega
  ·rw [zab _ _ (by decide)] at e
   exact .inr (.inr (.inr e))
def zcy (B : Nat) (w : World) (b px : Nat) (cv : Value) (code : List Int) (V : Nat → Value) (S : Wst) (w' : World) : Prop:=∃ k' V',WrM B w' b px cv code S k' V' ∧ Fr b px w V w' V'
theorem zbg {B : Nat} {w : World} {b px : Nat} {cv : Value} {code : List Int} {S : Wst} {k : Nat} {V : Nat → Value} (h : WrM B w b px cv code S k V) (l : Ln) (X : ByteArray) (hl : ba l.bytes = ba [9] ++ X) (z : X.size ≤ 1000) (hn : S.lines.length ≤ 100000) :
  Calls Tryz.prog 62 #[.pointer (some ⟨b,0,none⟩),.string X] w fun e w' => e = .returned (.tuple #[]) ∧ zcy B w b px cv code V { S with lines:=S.lines ++ [l] } w':=by
 have c1:=h.blk.cell 1 (by omega)
 have hown:=h.lines
 have hB:=h.base
 have lb:=h.blk.lt
 have hlv : lnV l = .string (ba [9] ++ X):=by unfold lnV; rw [hl]
 obtain ⟨i0,hi0,hz0,hz1,hz2⟩:=info_parts Tryz.info9
 have z3 : ¬ 9223372036854775807 < 1 + X.size:=by omega
 obtain ⟨ao,cap,hv1⟩:=za9 hown
 rw [hv1] at c1
 have hown2:=hown
 rw [hv1] at hown2
 go_enter Tryz.func62,Tryz.ntmps62
 go_wp2_with (first
  | (at_builtin; refine wpList_append_lies _ rfl _ _ 67 rfl B 9 i0 (.string ByteArray.empty) 1 16 Tryz.under67 hi0 hz0 hz1 hz2 rfl (by decide) _ _ _ rfl (hown2.alloc _) ⟨w.heap.size,0,none⟩ 1 1 [.string (ba [9] ++ X)] rfl rfl (cell_one_new _ _ _) (zcv _) (by decide) (by unfold maxLen; omega) (by omega) (by simp; omega) (w.heap.size + 1) (by simp) ?_))
 intro gb c w4 hown4 hgrow hnew _
 have hg4 : w.grownBy w4 (V 1).ownBlock:=by rw [hv1]; exact (World.grownBy_alloc w _ _).trans hgrow
 have hown5 : w4.ownsRow B 9 1 (.slice (some ⟨gb,0,none⟩) (S.lines.length + 1) c) (S.lines.length + 1) ((S.lines ++ [l]).map lnV):=by
  have:=hown4
  rw [List.map_append,List.map_singleton,hlv]
  exact this
 obtain ⟨M,hbel,hco,hfo⟩:=h.said hg4 (by rw [hv1]; rcases hnew with e | e; exact .inl e; exact .inr (by omega)) hown5
 rw [hv1] at hco
 clear c1
 go_wp2
 go_end0
 exact ⟨rfl,k,_,M,hbel⟩
end Go.Proofs.YtfpgjkbjbbgciaaGreatDoor
