import Derived.Test.YtfpgjkbjbbgciaaGreatDoorMe16
import Derived.Deep.MidRow
set_option maxRecDepth 100000
set_option maxHeartbeats 8000000
namespace Go.Proofs.YtfpgjkbjbbgciaaGreatDoor
open Go.RowKit Sp Go.WideMaps Go.Maps
theorem zqC {E : List (ByteArray × Nat)} (hpw : E.Pairwise (fun a b => eqW a.1 b.1 = false)) {left : Lit → Bool} {x : ByteArray} {p n : Nat} (hf : zbC E x = some p) (hp : ¬ p = n) (h : ∀ q ∈ E,left (.string q.1.data.toList) = false → ¬ q.2 = n) :
  ∀ q ∈ E,(left (.string q.1.data.toList) && !(Lit.string q.1.data.toList).sameKey (.string x.data.toList)) = false → ¬ q.2 = n:=by
 intro q hq hl
 rw [Bool.and_eq_false_iff] at hl
 rcases hl with hl | hl
 ·exact h q hq hl
 ·have e : q.1.data.toList = x.data.toList:=by
   have:=WideAt.sameKey_eq (show (Lit.string q.1.data.toList).sameKey (.string x.data.toList) = true by simpa using hl)
   simpa using this
  rw [zou E hpw x p hf q hq ((zd7 _ _).2 e)]
  exact hp
theorem zqD (w : World) (B m : Nat) (name : ByteArray) (line : Int) (bv : Value) (E : List (ByteArray × Nat)) (its : List It) (hM : MapIs w m E) (hbo : w.ownsRow B 135 8 bv its.length (zax its)) (hn : its.length ≤ 300) :
  Calls Tryz.prog 105 #[.agg #[.string name,.int .i64 line,bv,.map (some m)]] w fun e w' => e = .returned (.bool (E.all (fun p => !decide (p.2 = its.length)) && zd9 its)) ∧ Below w.heap.size w w':=by
 obtain ⟨D,hown,hD,hhas,hat0,hpw⟩:=hM
 have hlt:=hown.lt
 obtain ⟨ao,capb,rfl⟩:=zb8 hbo
 have hne : ¬ w.heap.size = m:=by omega
 have hbox : (w.alloc (.cells #[.string name,.int .i64 line,.slice ao its.length capb,.map (some m)] 131)).cell? ⟨w.heap.size,2,none⟩ = some (.slice ao its.length capb):=World.cell?_alloc_new (w:=w) #[.string name,.int .i64 line,.slice ao its.length capb,.map (some m)] 131 2
 have hb0 : Below w.heap.size w (w.alloc (.cells #[.string name,.int .i64 line,.slice ao its.length capb,.map (some m)] 131)):=(Below.refl _ _).alloc (Nat.le_refl _) _
 have hsz0 : (w.alloc (.cells #[.string name,.int .i64 line,.slice ao its.length capb,.map (some m)] 131)).heap.size = w.heap.size + 1:=by simp
 go_enter Tryz.func105,Tryz.ntmps105
 go_wp2_with (first
  | (at_range; refine wpList_range_own _ rfl _ 81 rfl 9 3 lawS Tryz.under81 _ m E.length _ rfl (hown.alloc _) ?_; intro w0 hrg0 hg0 hs0))
 rw [hsz0] at hrg0 hs0 ⊢
 generalize w.alloc (.cells #[.string name,.int .i64 line,.slice ao its.length capb,.map (some m)] 131) = W1 at hbox hb0 hsz0 hg0
 have hbx : w0.cell? ⟨w.heap.size,2,none⟩ = some (.slice ao its.length capb):=(hg0.cell_far _ (by simp; omega) (by simp)).trans hbox
 have hb1 : Below w.heap.size w w0:=hb0.trans (((Below.refl w.heap.size W1).grown hg0 (by omega) (fun j hj => by cases hj)))
 go_frame
 go_loopw [4] (fun _ wr => ∃ (left : Lit → Bool) (cnt : Nat),wr.ranges Tryz.prog 9 (plainElem Tryz.prog 3) m (w.heap.size + 1) E.length D left cnt ∧ w0.grownBy wr (some (w.heap.size + 1)) ∧ (∀ p ∈ E,left (.string p.1.data.toList) = false → ¬ p.2 = its.length))
  (fun _ wr => wr.rangeLeft m (w.heap.size + 1))
 case atStart =>
  refine ⟨_,_,hrg0,⟨rfl,rfl,rfl,Nat.le_refl _,fun _ _ _ => rfl⟩,fun p hp hl => ?_⟩
  rw [hhas p.1,List.any_eq_false] at hl
  have:=hl p.1 (List.mem_map_of_mem hp)
  rw [(zd7 _ _).2 rfl] at this
  simp at this
 case round =>
  obtain ⟨left,cnt,hrg,hgw,hno⟩:=hrel
  have hbr : wr.cell? ⟨w.heap.size,2,none⟩ = some (.slice ao its.length capb):=(hgw.cell_far _ (by simp; omega) (by simp)).trans hbx
  have hbw : Below w.heap.size w wr:=hb1.trans ((Below.refl w.heap.size w0).grown hgw (by omega) (fun j hj => by cases hj; omega))
  go_wp2_with (first
   | (at_next; refine wpList_next_ranges _ rfl _ rfl 9 lawS (plainElem Tryz.prog 3) Value.string (Value.int .i64) (fun key kl hk => by obtain ⟨x,hx,_⟩:=string_of_keyOf Tryz.underlying9 hk; exact ⟨x,hx⟩) (fun v y hv => by obtain ⟨c,rfl,_⟩:=plainElem_int_inv Tryz.underlying3 hv; exact ⟨c,rfl⟩) m (w.heap.size + 1) E.length _ _ _ rfl hrg ?_ ?_))
  ·intro _ hl0
   have HA : Hid (E.all (fun p => !decide (p.2 = its.length)) = true):=zlM E _ (fun p hp => hno p hp (hl0 _))
   clear hl0 hno hrg hgw hhas hat0 hpw hown hD
   rcases List.eq_nil_or_concat its with rfl | ⟨I,i,hI⟩
   ·simp only [List.length_nil] at hbr
    go_wp2
    go_ret
    exact ⟨by simp [zd9],hbw⟩
   ·rw [List.concat_eq_append] at hI
    subst hI
    obtain ⟨bg,capb',hbv,_,hbg,hst⟩:=zfM hbo (by simp)
    simp only [Value.slice.injEq,true_and] at hbv
    obtain ⟨rfl,rfl⟩:=hbv
    have hs:=hst I.length (by simp)
    have hil : (I ++ [i]).length = I.length + 1:=by simp
    rw [hil] at hbr hn
    simp only [List.getElem_append_right (Nat.le_refl _),Nat.sub_self,List.getElem_cons_zero] at hs
    obtain ⟨d0,d1,d2,d3,d4,d5,d6,d7⟩:=hs
    have z : ∀ j,wr.cell? ⟨bg,j,none⟩ = w.cell? ⟨bg,j,none⟩:=fun j => hbw.cell (p:=⟨bg,j,none⟩) hbg
    rw [← z] at d0 d1 d2 d3 d4 d5 d6 d7
    have hwrap : IntKind.i64.wrap (I.length : Int) = (I.length : Int):=zdt _ (by omega) (by omega)
    have hf3 : (0 : Int) < (I.length : Int) + 1:=by omega
    have hf4 : (0 : Int) ≤ (I.length : Int):=by omega
    have hf5 : (I.length : Int) < (I.length : Int) + 1:=by omega
    have hcall:=fun W => zoo i.sort i.line i.word i.a i.b i.c i.n i.nm W
    have HL : Hid (zd9 (I ++ [i]) = ends i.word):=zfr I i
    clear z hst hbo hil
    go_wp2_with (first | (go_at_call 132; refine (hcall _).mono ?_; rintro e w2 ⟨rfl,hb2⟩))
    go_ret
    refine ⟨?_,hbw.trans (hb2.mono hbw.size)⟩
    rw [HA.out,HL.out]; simp
  ·intro x c kl yd yp w1 cnt1 hkey hlk hv hat hrg1 hlt1 hg1 hs1 hen
   obtain ⟨x',ex,rfl,_⟩:=string_of_keyOf Tryz.underlying9 hkey
   cases ex
   obtain ⟨c',ec,ey,_⟩:=plainElem_int_inv Tryz.underlying3 hv
   cases ec
   have hh:=has_true_of_atKey hat
   rw [hhas x] at hh
   obtain ⟨p,hp⟩:=zom E x hh
   have hc : c = (p : Int):=by
    have h1:=hat0 x p (.lit (.int .i64 0)) hp
    rw [hat] at h1
    cases ey
    simpa using h1
   subst hc
   clear hs1
   have hb11 : w1.cell? ⟨w.heap.size,2,none⟩ = some (.slice ao its.length capb):=(hg1.cell_far _ (by simp; have:=hbw.size; have:=hg0.size; have:=hgw.size; omega) (by simp)).trans hbr
   by_cases hpn : p = its.length
   ·have hpn' : ((p : Int) == (its.length : Int)) = true:=by simp; omega
    obtain ⟨q,hq,hq2,_⟩:=zqB E x p hp
    have HA : Hid (E.all (fun p => !decide (p.2 = its.length)) = false):=zlN E _ q hq (hq2.trans hpn)
    have hb12 : Below w.heap.size w w1:=hbw.trans ((Below.refl w.heap.size wr).grown hg1 hbw.size (fun j hj => by cases hj; omega))
    clear hno hrg hrg1 hgw hhas hat0 hpw hown hD hat
    go_wp2
    go_ret
    exact ⟨by rw [HA.out]; rfl,hb12⟩
   ·have hpn' : ((p : Int) == (its.length : Int)) = false:=by simp; omega
    go_wp2
    go_roundw
    case rel => exact ⟨_,cnt1,hrg1,hgw.andThen hg1 (fun j hj => by cases hj; exact Or.inr rfl),zqC hpw hp hpn hno⟩
    case measure => rw [hrg1.left_eq,hrg.left_eq]; exact hlt1
theorem zkm (w : World) (B pm : Nat) (v : Value) (F : List FnM) (h : PIn B w pm v F) (hF : 0 < F.length) (hn : F.length ≤ 300) (hb : ∀ f ∈ F,f.its.length ≤ 300 ∧ ∀ i ∈ f.its,ItOk i) :
  Calls Tryz.prog 70 #[.agg #[v,.map (some pm)]] w (zvj w (F.map FnM.fn)):=by
 obtain ⟨fg,cap,rfl,hfg,hcap,hcells⟩:=h.fns hF
 go_enter Tryz.func70,Tryz.ntmps70
 go_wp2
 go_loopw [7] (fun ti wr => ∃ (k : Nat),k ≤ F.length ∧ ti = .int .i64 (k : Int) ∧ Below w.heap.size w wr ∧ endK (F.map FnM.fn) = endK ((F.map FnM.fn).drop k)) (fun ti _ => F.length - (intOf ti).toNat)
 case atStart => exact ⟨0,by omega,rfl,(Below.refl _ _).alloc (Nat.le_refl _) _,rfl⟩
 case round =>
  obtain ⟨k,hk,rfl,hbw,hE⟩:=hrel
  have HE : Hid (endK (F.map FnM.fn) = endK ((F.map FnM.fn).drop k)):=hE
  clear hE
  have hszr:=hbw.size
  by_cases hlt : k < F.length
  ·obtain ⟨c0,c1,c2,c3⟩:=hcells k hlt
   have hmem:=List.getElem_mem hlt
   have HD : Hid (endK (F.map FnM.fn) = if zqA F[k].its = true then endK ((F.map FnM.fn).drop (k + 1)) else some F[k].line):=by
    unfold Hid; rw [HE.out,zq9 _ k (by simpa using hlt),zth _ (hb F[k] hmem).2]; simp [FnM.fn]
   have hbo:=(h.bodies F[k] hmem)
   have hla:=(h.labels F[k] hmem)
   have hbl:=Nat.le_trans (zds F[k].its) (hb F[k] hmem).1
   generalize F[k] = f at c0 c1 c2 c3 hmem HD hbo hbl hla
   have z : ∀ j,wr.cell? ⟨fg,j,none⟩ = w.cell? ⟨fg,j,none⟩:=fun j => hbw.cell (p:=⟨fg,j,none⟩) hfg
   rw [← z] at c0 c1 c2 c3
   clear z
   have hk4 : k * 4 ≤ 1200:=by omega
   obtain ⟨name,line,its,bv,m⟩:=f
   simp only at c0 c1 c2 c3 hbo hbl HD hla
   have hbo2:=zaq (w':=wr) hbo (fun g hg => hbw.block g (hbo.lt g hg).2)
   have hla2:=hla.below hbw hla.lt
   obtain ⟨ao,capb,rfl⟩:=zb8 hbo
   have hcall:=zqD (wr.alloc (.cells #[.string name,.int .i64 line,.slice ao (zaj its).length capb,.map (some m)] 131)) B m name line _ _ _ (hla2.alloc _) (hbo2.alloc _) hbl
   have hM : Hid (((zcc its).all (fun p => !decide (p.2 = (zaj its).length)) && zd9 (zaj its)) = zqA its):=rfl
   rw [hM.out] at hcall
   clear hbo hbo2 hla hla2 hM
   cases hend : zqA its with
   | false =>
    rw [hend] at HD hcall
    go_wp2_with (first | (go_at_call 105; refine hcall.mono ?_; rintro e w2 ⟨rfl,hb2⟩; have hq1:=(znh hb2).1) | (go_at_call 79; refine (zat _ _ _).mono ?_; rintro e wx ⟨rfl,hww⟩; subst hww))
    exact ⟨rfl,hbw.trans ((zaX _ _ hb2).mono (by omega)),.inl ⟨_,HD.out,rfl⟩⟩
   | true =>
    rw [hend] at HD hcall
    go_wp2_with (first | (go_at_call 105; refine hcall.mono ?_; rintro e w2 ⟨rfl,hb2⟩; have hq1:=(znh hb2).1))
    have hb12:=hbw.trans ((zaX _ _ hb2).mono (by omega))
    clear hb2
    go_roundw
    case rel => exact ⟨k + 1,by omega,by go_num,hb12,HD.out⟩
    case measure => simp [intOf]; omega
  ·have HX : Hid (k = F.length):=by unfold Hid; omega
   go_wp2
   go_end0
   refine ⟨hbw,.inr ⟨?_,rfl⟩⟩
   rw [HE.out,HX.out,List.drop_of_length_le (by simp)]; rfl
end Go.Proofs.YtfpgjkbjbbgciaaGreatDoor
namespace Go.Proofs.YtfpgjkbjbbgciaaGreatDoor
open Go.RowKit Sp
def zak (m : Mc) (ov : Value) (line : Int) : List Value:=[.int .i64 m.steps] ++ ((List.range 8).map (fun i => Value.int .i64 (m.regs i)) ++ ((List.range 16).map (fun i => Value.int .i64 (m.cells i)) ++ [ov,.int .i64 m.frames,.int .i64 m.peak,.int .i64 line,.int .i64 m.fin]))
theorem zaE (m : Mc) (ov : Value) (line : Int) : (zak m ov line).length = 30:=by simp [zak]
theorem zaO (m : Mc) (ao : Option Addr) (n c : Nat) (line : Int) : (zak m (.slice ao n c) line).toArray.all (·.oneCell') = true:=by
 refine all_oneCell_toArray fun v hv => ?_
 simp only [zak,List.mem_append,List.mem_map,List.mem_cons,List.mem_nil_iff,or_false] at hv
 rcases hv with rfl | ⟨i,_,rfl⟩ | ⟨i,_,rfl⟩ | rfl | rfl | rfl | rfl | rfl <;> rfl
theorem zho (m : Mc) (ov : Value) (line : Int) : (zak m ov line)[28]? = some (.int .i64 line):=by simp [zak]
theorem zo6 (m : Mc) (ov : Value) (line l2 : Int) : (zak m ov line).set 28 (.int .i64 l2) = zak m ov l2:=by simp [zak,List.range_succ]
theorem zkp {w : World} {b o n : Nat} {cs : List Value} {v u : Value} (h : w.rangeAt b o cs) (hn : w.cell? ⟨b,o + n,none⟩ = some u) : (w.setCell ⟨b,o + n,none⟩ v).rangeAt b o (cs.set n v):=by
 intro j x hx
 by_cases e : j = n
 ·subst e
  rw [List.getElem?_set] at hx
  split at hx
  ·split at hx
   ·rw [← Option.some.inj hx]; exact World.cell?_setCell_same w _ _ hn
   ·cases hx
  ·rename_i hne; exact absurd rfl hne
 ·rw [List.getElem?_set_ne (by omega)] at hx
  rw [World.cell?_setCell_other]
  ·exact h j x hx
  ·simp
theorem zhp {w : World} {b o n : Nat} (h : w.there b o n) (p : Addr) (v : Value) : (w.setCell p v).there b o n:=fun j hj => by
 obtain ⟨h1,h2⟩:=h j hj
 refine ⟨?_,by simpa using h2⟩
 obtain ⟨u,hu⟩:=Option.isSome_iff_exists.1 h1
 obtain ⟨x,hx⟩:=cell?_setCell_some (w:=w) (p:=p) (x:=v) (q:=⟨b,o + j,none⟩) (v:=u) hu
 rw [hx]; rfl
abbrev Z34 : Obj:=.cells #[.int .i64 0,.int .i64 0,.int .i64 0,.int .i64 0,.int .i64 0,.int .i64 0,.int .i64 0,.int .i64 0,.int .i64 0,.int .i64 0,.int .i64 0,.int .i64 0,.int .i64 0,.int .i64 0,.int .i64 0,.int .i64 0,.int .i64 0,.int .i64 0,.int .i64 0,.int .i64 0,.int .i64 0,.int .i64 0,.int .i64 0,.int .i64 0,.int .i64 0,.slice none 0 0,.int .i64 0,.int .i64 0,.int .i64 0,.int .i64 0] 34
theorem zdX (w : World) : (w.alloc Z34).there w.heap.size 0 30:=fun j hj => by
 refine ⟨?_,by simp⟩
 have h:=World.cell?_alloc_new (w:=w) #[.int .i64 0,.int .i64 0,.int .i64 0,.int .i64 0,.int .i64 0,.int .i64 0,.int .i64 0,.int .i64 0,.int .i64 0,.int .i64 0,.int .i64 0,.int .i64 0,.int .i64 0,.int .i64 0,.int .i64 0,.int .i64 0,.int .i64 0,.int .i64 0,.int .i64 0,.int .i64 0,.int .i64 0,.int .i64 0,.int .i64 0,.int .i64 0,.int .i64 0,.slice none 0 0,.int .i64 0,.int .i64 0,.int .i64 0,.int .i64 0] 34 (0 + j)
 rw [h,Array.getElem?_eq_getElem (by simpa using hj)]
 rfl
theorem zcM {fn : Func} {a : Tmp} {t : TypeId} (h : fn.results = #[.cell a t]) (tmps : Array Value) (p : Addr) (hp : tmps.getD a undef = .pointer (some p)) {P : Program} {w : World} {v : Value} (hl : (loadVar t p).run P w = .ok v w) : (results fn tmps).run P w = .ok v w:=by
 have hp2 : tmps[a]?.getD undef = .pointer (some p):=by simpa using hp
 simp [results,h,hp2,asAddr,hl]
theorem zjn {fn : Func} {a b c : Tmp} {t : TypeId} (h : fn.results = #[.cell a t,.tmp b,.tmp c]) (tmps : Array Value) (p : Addr) (hp : tmps.getD a undef = .pointer (some p)) {P : Program} {w : World} {v : Value} (hl : (loadVar t p).run P w = .ok v w) : (results fn tmps).run P w = .ok (.tuple #[v,tmps.getD b undef,tmps.getD c undef]) w:=by
 have hp2 : tmps[a]?.getD undef = .pointer (some p):=by simpa using hp
 simp [results,h,hp2,asAddr,hl]
theorem Tryz.info34 : (Tryz.prog.info? 34).map (·.size) = some 30:=by kernel_rfl
theorem zam (l : List Value) {B b : Nat} {a w : World} (o : Nat) (h : Below B a w) (hb : B ≤ b) : Below B a (w.setCells b o l):=by
 induction l generalizing w o with
 | nil => exact h
 | cons x r ih => exact ih (o + 1) (h.setCell (p:=⟨b,o,none⟩) hb x)
theorem za8 (l : List Value) (w : World) (b o k : Nat) (h : ¬ k = b) : (w.setCells b o l).heap[k]? = w.heap[k]?:=by
 induction l generalizing w o with
 | nil => rfl
 | cons x r ih =>
  show ((w.setCell ⟨b,o,none⟩ x).setCells b (o + 1) r).heap[k]? = _
  rw [ih,Below.heap_setCell _ _ _ _ h]
theorem zjo (l : List Value) (w : World) (b o : Nat) : (w.setCells b o l).heap.size = w.heap.size:=by
 induction l generalizing w o with
 | nil => rfl
 | cons x r ih =>
  show ((w.setCell ⟨b,o,none⟩ x).setCells b (o + 1) r).heap.size = _
  rw [ih]; simp [World.setCell]
theorem zoC (i : Ins) (next : Int) (m : Mc) (h : m.fin = 0) :
  (((exec i next m).fin = 0 ∧ (exec i next m).steps = m.steps + 1) ∨ (((exec i next m).fin = 1 ∨ (exec i next m).fin = 2) ∧ (exec i next m).at' = -1 ∧ (exec i next m).steps = m.steps + 1) ∨ (((exec i next m).fin = 3 ∨ (exec i next m).fin = 4) ∧ (exec i next m).at' = m.at' ∧ (exec i next m).steps = m.steps)) ∧ (exec i next m).inp.length ≤ m.inp.length:=by
 cases i with
 | load r s =>
  simp only [exec]
  split
  ·exact ⟨.inr (.inr ⟨.inl rfl,rfl,rfl⟩),Nat.le_refl _⟩
  ·exact ⟨.inl ⟨h,rfl⟩,Nat.le_refl _⟩
 | store r s =>
  simp only [exec]
  split
  ·exact ⟨.inr (.inr ⟨.inl rfl,rfl,rfl⟩),Nat.le_refl _⟩
  ·exact ⟨.inl ⟨h,rfl⟩,Nat.le_refl _⟩
 | call to =>
  simp only [exec]
  split
  ·exact ⟨.inr (.inr ⟨.inr rfl,rfl,rfl⟩),Nat.le_refl _⟩
  ·exact ⟨.inl ⟨h,rfl⟩,Nat.le_refl _⟩
 | back =>
  simp only [exec]
  split
  ·exact ⟨.inr (.inl ⟨.inr rfl,rfl,rfl⟩),Nat.le_refl _⟩
  ·exact ⟨.inl ⟨h,rfl⟩,Nat.le_refl _⟩
 | stop => exact ⟨.inr (.inl ⟨.inl rfl,rfl,rfl⟩),Nat.le_refl _⟩
 | read r =>
  refine ⟨.inl ⟨h,rfl⟩,?_⟩
  show m.inp.tail.length ≤ _
  simp
 | set r k => exact ⟨.inl ⟨h,rfl⟩,Nat.le_refl _⟩
 | mov r s => exact ⟨.inl ⟨h,rfl⟩,Nat.le_refl _⟩
 | alu o r s t => exact ⟨.inl ⟨h,rfl⟩,Nat.le_refl _⟩
 | inc r k => exact ⟨.inl ⟨h,rfl⟩,Nat.le_refl _⟩
 | write r => exact ⟨.inl ⟨h,rfl⟩,Nat.le_refl _⟩
 | jump to => exact ⟨.inl ⟨h,rfl⟩,Nat.le_refl _⟩
 | less r s to => exact ⟨.inl ⟨h,rfl⟩,Nat.le_refl _⟩
 | same r s to => exact ⟨.inl ⟨h,rfl⟩,Nat.le_refl _⟩
def AtOk (L : List Said) (m : Mc) : Prop:=((m.fin = 1 ∨ m.fin = 2) ∧ m.at' = -1) ∨ ((m.fin = 0 ∨ m.fin = 3 ∨ m.fin = 4) ∧ zdW L m.at')
theorem zoD (w : World) (a : Value) : ∀ j u,[a][j]? = some u → (w.alloc (.cells #[a] 2)).cell? ((⟨w.heap.size,0,none⟩ : Addr).add j) = some u:=by
 intro j u hj
 have h1:=World.cell?_alloc_new (w:=w) #[a] 2 j
 have h2 : (⟨w.heap.size,0,none⟩ : Addr).add j = ⟨w.heap.size,j,none⟩:=by simp [Addr.add]; omega
 rw [h2,h1]
 rw [← List.getElem?_toArray] at hj
 exact hj
structure RunAt (L : List Said) (n g cap2 b : Nat) (w0 wr : World) (FIN m : Mc) (bv iv ov : Value) : Prop where
 ref : RefAt wr b g cap2 L m bv iv ov
 inv : m.fin = 0 → InvR L m
 fin : m.fin = 0 ∨ m.fin = 1 ∨ m.fin = 2
 ok : AtOk L m
 st0 : 0 ≤ m.steps
 st1 : m.steps ≤ (n : Int)
 inp : m.inp.length ≤ 1048576
 run : FIN = runS (zbc L) (n - m.steps.toNat) m
 low : Below w0.heap.size w0 wr
theorem zas {w w' : World} {B b o n : Nat} (h : w.there b o n) (hb : Below B w w') (hB : b < B) : w'.there b o n:=fun j hj => by
 obtain ⟨h1,h2⟩:=h j hj
 exact ⟨by rw [hb.cell (p:=⟨b,o + j,none⟩) hB]; exact h1,by rw [World.frozen?_of_block (w:=w) (hb.block b hB)]; exact h2⟩
theorem zaU (ds : List Value) (hl : ds.length = 30) : (Tryz.prog.info? 34).map (·.size) = some ds.toArray.size:=by rw [show ds.toArray.size = 30 by simp [hl]]; exact Tryz.info34
end Go.Proofs.YtfpgjkbjbbgciaaGreatDoor
