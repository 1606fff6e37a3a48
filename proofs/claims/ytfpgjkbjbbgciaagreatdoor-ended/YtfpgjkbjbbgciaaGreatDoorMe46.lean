import Derived.Test.YtfpgjkbjbbgciaaGreatDoorMe45
set_option maxRecDepth 100000
set_option maxHeartbeats 8000000
namespace Go.Proofs.YtfpgjkbjbbgciaaGreatDoor
open Go.RowKit Sp
def zsn (w : World) (B S g : Nat) (C : List (Ins × Int)) (cv : Value) (R : Rs) (looks : Nat) (bf : Int) (xs : List Wy) (x : Wy) (L : Option (List Kn)) : Ending → World → Prop:=fun e w' => Below B w w' ∧
 ((e = zah 8 0 ∧ (x.k.steps = 100000 ∨ R.kn.endless x.k = none ∨ L = none)) ∨
  (e = .returned (.tuple #[]) ∧ ¬ x.k.steps = 100000 ∧ ∃ (v' mv' : Value) (ys : List Wy) (R' : Rs) (ks : List Kn),R.kn.endless x.k = some R'.kn ∧ L = some ks ∧ SO w' B S g C v' mv' ys [] R'.marked ∧ SC w' S cv v' mv' R' looks (x.k.steps + 1) (max bf ((x.k.behind.length : Int) + 1)) ∧ (ys.map Wy.k).Perm (xs.map Wy.k ++ ks)))
theorem zuq {w : World} {B S g ccap : Nat} {C : List (Ins × Int)} {v mv : Value} {R : Rs} {looks : Nat} {bs bf : Int} {xs : List Wy} {x : Wy} (O : SO w B S g C v mv xs [x] R.marked) (c : SC w S (.slice (some ⟨g,0,none⟩) C.length ccap) v mv R looks bs bf) (hC : CodeSure C) (K : KnIn C x.k)
  (s0 : 0 ≤ R.steps) (s1 : R.steps ≤ 100000) (hl : R.marked.length ≤ 500000) (hn : R.seen ≤ 500000) (f0 : 0 ≤ bf) (f1 : bf ≤ 16) (hlen : xs.length ≤ 2000) {p : Nat} (hp : p < C.length) (hnx : x.k.next = (p : Int)) :
  Calls Tryz.prog 116 #[.pointer (some ⟨S,0,none⟩),.pointer (some ⟨x.b,0,none⟩)] w (zsn w B S g C (.slice (some ⟨g,0,none⟩) C.length ccap) R looks bf xs x (zaz C[p].1 x.k)):=by
 have X:=O.hand x (by simp)
 have hBw : B ≤ w.heap.size:=by have:=O.SB; have:=O.SL; omega
 have ek:=zp6 R ⟨x.ao,x.cap,x.k⟩
 by_cases e1 : x.k.steps = 100000
 ·refine (zsk X.kn e1).mono ?_
  rintro e w' ⟨rfl,rfl⟩
  exact ⟨Below.refl _ _,.inl ⟨rfl,.inl e1⟩⟩
 ·cases hR : R.endless ⟨x.ao,x.cap,x.k⟩ with
  | none =>
   have hend:=zgz c.rs c.fz O s0 s1 K.s0 K.s1 hl hn
   rw [hR] at hend ek
   refine (zpB X.kn e1 hend).mono ?_
   rintro e w' ⟨rfl,hb⟩
   exact ⟨hb.mono hBw,.inl ⟨rfl,.inr (.inl ek)⟩⟩
  | some R' =>
   rw [hR] at ek
   refine (zvS O c hC K e1 hR s0 s1 hl hn f0 f1 hlen hp hnx rfl).mono ?_
   intro e w' h
   cases hL : zaz C[p].1 x.k with
   | none =>
    rw [hL] at h
    exact ⟨h.2,.inl ⟨h.1,.inr (.inr rfl)⟩⟩
   | some ks =>
    rw [hL] at h
    obtain ⟨rfl,v',mv',ys,O',c',hp',hb'⟩:=h
    exact ⟨hb',.inr ⟨rfl,e1,v',mv',ys,R',ks,ek,rfl,O',c',hp'⟩⟩
def zgJ (w : World) (S : Nat) : Nat:=match w.cell? ⟨S,6,none⟩ with | some (.int _ n) => n.toNat | _ => 0
theorem zhW {w : World} {S n : Nat} (h : w.cell? ⟨S,6,none⟩ = some (.int .i64 (n : Int))) : zgJ w S = n:=by unfold zgJ; rw [h]; simp
structure RunI (w : World) (B S g ccap : Nat) (C : List (Ins × Int)) (wr : World) (v mv : Value) (xs : List Wy) (R : Rs) (looks : Nat) (bs bf : Int) : Prop where
 so' : SO wr B S g C v mv xs [] R.marked
 sc : SC wr S (.slice (some ⟨g,0,none⟩) C.length ccap) v mv R looks bs bf
 reach : Reach C ⟨xs.map Wy.k,looks,R.kn,bs,bf⟩
 low : Below B w wr
def zgK (w : World) (B S : Nat) (C : List (Ins × Int)) : Ending → World → Prop:=fun e w' => Below B w w' ∧ ((e = zah 8 0 ∧ Verd C none) ∨ (e = .returned (.tuple #[]) ∧ ∃ bs bf,Verd C (some (bs,bf)) ∧ w'.cell? ⟨S,7,none⟩ = some (.int .i64 bs) ∧ w'.cell? ⟨S,8,none⟩ = some (.int .i64 bf)))
section
variable {w : World} {B S g ccap : Nat} {C : List (Ins × Int)} {wr : World} {v mv : Value} {xs : List Wy} {R : Rs} {looks : Nat} {bs bf : Int}
theorem RunI.ok (I : RunI w B S g ccap C wr v mv xs R looks bs bf) (hC : CodeSure C) : GsOk C ⟨xs.map Wy.k,looks,R.kn,bs,bf⟩:=(I.reach.t hC).ok
theorem RunI.leave (I : RunI w B S g ccap C wr v mv xs R looks bs bf) (h0 : xs.length = 0) : zgK w B S C (.returned (.tuple #[])) wr:=by
 have e : xs = []:=List.length_eq_zero_iff.1 h0
 exact ⟨I.low,.inr ⟨rfl,bs,bf,⟨_,I.reach,by rw [e]; rfl,rfl,rfl⟩,I.sc.c7,I.sc.c8⟩⟩
theorem RunI.tired (I : RunI w B S g ccap C wr v mv xs R looks bs bf) (h0 : ¬ xs.length = 0) (h : 500000 ≤ looks ∨ 1000 < xs.length) {w' : World} (hb : Below S wr w') : zgK w B S C (zah 8 0) w':=by
 refine ⟨I.low.trans (hb.mono I.so'.SB),.inl ⟨rfl,⟨_,I.reach,?_,?_⟩⟩⟩
 ·intro e
  have : (xs.map Wy.k).length = 0:=by rw [show xs.map Wy.k = [] from e]; rfl
  rw [List.length_map] at this; omega
 ·rcases h with h | h
  ·exact .inl h
  ·exact .inr (.inl (by show 1000 < (xs.map Wy.k).length; rw [List.length_map]; exact h))
theorem RunI.effort (I : RunI w B S g ccap C wr v mv xs R looks bs bf) : SO (wr.setCell ⟨S,6,none⟩ (.int .i64 ((looks : Int) + 1))) B S g C v mv xs [] R.marked ∧ SC (wr.setCell ⟨S,6,none⟩ (.int .i64 ((looks : Int) + 1))) S (.slice (some ⟨g,0,none⟩) C.length ccap) v mv R (looks + 1) bs bf ∧ Below B w (wr.setCell ⟨S,6,none⟩ (.int .i64 ((looks : Int) + 1))):=by
 refine ⟨zsl I.so',?_,I.low.setCell (p:=⟨S,6,none⟩) I.so'.SB _⟩
 have:=I.sc.set6 (looks + 1)
 rw [show (((looks + 1 : Nat)) : Int) = (looks : Int) + 1 by omega] at this
 exact this
end
theorem zur {w : World} {B S g ccap : Nat} {C : List (Ins × Int)} {v mv : Value} {xs : List Wy} {R : Rs} {looks : Nat} {bs bf : Int} (I0 : RunI w B S g ccap C w v mv xs R looks bs bf) (hC : CodeSure C) :
  Calls Tryz.prog 92 #[.pointer (some ⟨S,0,none⟩)] w (zgK w B S C):=by
 go_enter Tryz.func92,Tryz.ntmps92
 go_wp2
 go_loopw [] (fun wr => ∃ (v mv : Value) (xs : List Wy) (R : Rs) (looks : Nat) (bs bf : Int),RunI w B S g ccap C wr v mv xs R looks bs bf) (fun wr => 500001 - zgJ wr S)
 case atStart => exact ⟨v,mv,xs,R,looks,bs,bf,I0⟩
 case round =>
  clear I0
  obtain ⟨v,mv,xs,R,looks,bs,bf,I⟩:=hrel
  have ok:=I.ok hC
  have o1 : xs.length ≤ 1002:=by have:=ok.few; rw [List.length_map] at this; exact this
  have o2 : looks ≤ 500000:=ok.looks
  have c1:=I.sc.c1
  obtain ⟨ao,cap,rfl,_,_,_⟩:=zf3 I.so'.hp.row
  have hl:=fun W => zf5 W ao xs.length cap (by omega)
  by_cases h0 : xs.length = 0
  ·have hfin:=I.leave h0
   rw [h0] at hl c1
   clear I ok
   go_wp2_with (go_at_call 114; (with_reducible refine (hl _).mono ?_); rintro e wx ⟨rfl,hww⟩; have hw2:=hww.symm; subst hw2)
   exact bodyPost_end (results_none rfl _ _ _) rfl hfin
  ·have hpos : (0 : Int) < (xs.length : Int):=by omega
   by_cases he : 500000 ≤ looks ∨ 1000 < xs.length
   ·have hef:=zsh c1 I.sc.c6 (I.sc.fz 6) o2 (by omega) he
    have hfin : Hid (∀ w',Below S wr w' → zgK w B S C (zah 8 0) w'):=fun w' hb => I.tired h0 he hb
    clear I ok he
    go_wp2_with (first
     | (go_at_call 114; (with_reducible refine (hl _).mono ?_); rintro e wx ⟨rfl,hww⟩; have hw2:=hww.symm; subst hw2)
     | (go_at_call 115; (with_reducible refine hef.mono ?_); rintro e wx ⟨rfl,hbx⟩))
    exact ⟨rfl,hfin.out _ hbx⟩
   ·have hef:=zsg (looks:=looks) c1 I.sc.c6 (I.sc.fz 6) (by omega) (by omega)
    obtain ⟨O1,c1',hb1⟩:=I.effort
    have htk:=zuo O1 c1' (by omega) (by omega)
    have hlc : Hid (zgJ wr S = looks):=zhW I.sc.c6
    have hrs0 : 0 ≤ R.steps:=ok.rs0
    have hrs1 : R.steps ≤ 100000:=ok.rs1
    have hmk : R.marked.length ≤ 500000:=by have:=ok.mkd; rw [show (⟨xs.map Wy.k,looks,R.kn,bs,bf⟩ : Gs).R.marked.length = (R.marked.map Mk.k).length from rfl,List.length_map] at this; have : R.marked.length ≤ looks:=this; omega
    have hsn : R.seen ≤ 500000:=by have : R.seen ≤ looks:=ok.seen; omega
    have hf0 : 0 ≤ bf:=ok.bf0
    have hf1 : bf ≤ 16:=ok.bf1
    have HK : Hid (∀ (x : Wy) (ys : List Wy),TakeD (xs.map Wy.k) x.k (ys.map Wy.k) → KnIn C x.k ∧ ys.length ≤ 2000):=fun x ys ht => by
     obtain ⟨a,_,b,_⟩:=ht.1.kn hC.ok.few ok.kn
     refine ⟨a,?_⟩
     rw [List.length_map] at b
     have : ys.length < (xs.map Wy.k).length:=b
     rw [List.length_map] at this; omega
    have HRE : Hid (Reach C ⟨xs.map Wy.k,looks,R.kn,bs,bf⟩ ∧ ¬ xs.length = 0 ∧ looks < 500000 ∧ xs.length ≤ 1000):=⟨I.reach,h0,by omega,by omega⟩
    clear I ok he O1 c1' o1 o2
    go_wp2_with (first
     | (go_at_call 114; (with_reducible refine (hl _).mono ?_); rintro e wx ⟨rfl,hww⟩; have hw2:=hww.symm; subst hw2)
     | (go_at_call 115; (with_reducible refine hef.mono ?_); rintro e wx ⟨rfl,hww⟩; have hw2:=hww.symm; subst hw2)
     | (go_at_call 117; (with_reducible refine htk.mono ?_); rintro e wt ⟨vt,ys,x,rfl,Ot,ct,td,hbt⟩)
     | (go_at_call 116; refine Hid.out ?_))
    unfold Hid
    obtain ⟨kx,hyl⟩:=HK.out x ys td
    obtain ⟨p,hpn,hpl⟩:=kx.next
    refine (zuq Ot ct hC kx hrs0 hrs1 hmk hsn hf0 hf1 hyl hpl hpn).mono ?_
    rintro e w3 ⟨hb3,hcase⟩
    obtain ⟨re,z0,z1,z2⟩:=HRE.out
    have hb3' : Below B w w3:=hb1.trans (hbt.trans hb3)
    rcases hcase with ⟨rfl,hrf⟩ | ⟨rfl,hn100,v',mv',zs,R',ks,hk1,hk2,O3,c3,hpm⟩
    ·dsimp only
     refine ⟨rfl,hb3',.inl ⟨rfl,⟨_,re,?_,.inr (.inr ⟨x.k,ys.map Wy.k,td,?_⟩)⟩⟩⟩
     ·intro e
      have : (xs.map Wy.k).length = 0:=by rw [show xs.map Wy.k = [] from e]; rfl
      rw [List.length_map] at this; omega
     ·rcases hrf with h | h | h
      ·exact .inl h
      ·exact .inr (.inl h)
      ·exact .inr (.inr ⟨p,hpl,hpn,h⟩)
    ·dsimp only
     have I2 : RunI w B S g ccap C w3 v' mv' zs R' (looks + 1) (x.k.steps + 1) (max bf ((x.k.behind.length : Int) + 1)):=⟨O3,c3,.step re ⟨x.k,ys.map Wy.k,ks,p,hpl,z1,by show (xs.map Wy.k).length ≤ 1000; rw [List.length_map]; exact z2,td,hn100,hk1,hpn,hk2,hpm,rfl,rfl,rfl⟩,hb3'⟩
     go_wp2
     go_roundw
     case rel => exact ⟨v',mv',zs,R',looks + 1,_,_,I2⟩
     case measure => rw [zhW c3.c6,hlc.out]; omega
end Go.Proofs.YtfpgjkbjbbgciaaGreatDoor
namespace Go.Proofs.YtfpgjkbjbbgciaaGreatDoor
open Go.RowKit Sp
theorem zus : Tryz.prog.built 217 [] = some (zaS (.slice none 0 0) kn0).toArray:=by kernel_rfl
theorem zso (w : World) : KnM (w.alloc (.cells (zaS (.slice none 0 0) kn0).toArray 217)) w.heap.size (.slice none 0 0) kn0:=by
 have hr:=zdu w (zaS (.slice none 0 0) kn0) 217
 refine (zhJ (o:=0) fun j hj => ?_).whole (fun j => by simp)
 have hl : j < (zaS (.slice none 0 0) kn0).length:=by rw [zcY]; exact hj
 exact (hr j _ (List.getElem?_eq_getElem hl)).trans (List.getElem?_eq_getElem hl).symm
theorem zmB (w : World) : Calls Tryz.prog 113 #[] w fun e w' => e = .returned (.pointer (some ⟨w.heap.size,0,none⟩)) ∧ KnM w' w.heap.size (.slice none 0 0) kn0 ∧ Below w.heap.size w w' ∧ w'.heap.size = w.heap.size + 1:=by
 have hb:=zus
 have hm:=zso w
 generalize zaS (.slice none 0 0) kn0 = ds at hb hm
 go_enter Tryz.func113,Tryz.ntmps113
 go_wp2_with (first
  | (refine wpList_build rfl 217 _ rfl ?_ ?_
     ·simp [hb]
     simp only [List.map_toArray,List.map_nil,Act.eval]
     refine Hid.out ?_))
 unfold Hid
 erw [hb]
 simp only [Option.getD_some,Act.put,List.setIfInBounds_toArray,List.set_cons_succ,List.set_cons_zero]
 go_wp2_with (first | (refine Go.Great.wpList_boxTo rfl 217 _ rfl _ rfl w.heap.size rfl ds.toArray rfl ?_))
 go_ret
 exact ⟨rfl,hm,(Below.refl _ _).alloc (Nat.le_refl _) _,by simp⟩
end Go.Proofs.YtfpgjkbjbbgciaaGreatDoor
namespace Go.Proofs.YtfpgjkbjbbgciaaGreatDoor
open Go.ChangeShapes Go.WideShapes Go.ChangeAt Go.RowKit Sp
open Go.ChangeMaps (open_string shut_string)
theorem Tryz.own : ownKnob Tryz.prog.godebug = none:=by kernel_rfl
theorem gES : Tryz.prog.globalNamed "strconv.ErrSyntax" = some 3:=by kernel_rfl
theorem gER : Tryz.prog.globalNamed "strconv.ErrRange" = some 4:=by kernel_rfl
theorem zuW : (Tryz.prog.globals[3]?).map (·.type) = some 246:=by kernel_rfl
theorem zuX : (Tryz.prog.globals[4]?).map (·.type) = some 246:=by kernel_rfl
theorem star : "*errors.errorString" = "*" ++ "errors.errorString":=by decide
theorem zuE (u : TypeId) (h : Tryz.prog.typeName? 3 u = some "*errors.errorString") : u = 267 :=
 typeName_ptr_named (nm := "errors.errorString") (by rw [← star]; kernel_rfl) (by kernel_rfl) (by decide) u (by rw [← star]; exact h)
theorem znb : Tryz.prog.cellsOf 269 = 1:=by kernel_rfl
theorem zuF : Tryz.prog.cellsOf 9 = 1:=by kernel_rfl
theorem zeI {W : World} (hL0 : laidMetH Tryz.prog Rows.checksUptoRow.laid W) (hsh : W.ShapedOpen Tryz.prog) : LibW W:=by
 have hL : laidMet Tryz.prog Rows.checksUptoRow.laid W:=hL0
 have hacc:=Lib.laidMet.reads hL (.tail _ (.tail _ (.tail _ (.head _))))
 have hfst:=Lib.laidMet.reads hL (.tail _ (.tail _ (.tail _ (.tail _ (.tail _ (.tail _ (.head _)))))))
 obtain ⟨a0,s0,hv0,-,-,-⟩:=laid_sentinel hL.tail.tail.tail.tail gER zuX Tryz.underlying246 zuE Tryz.underlying267 Tryz.underlying269 rfl rfl Tryz.underlying9 znb zuF
 obtain ⟨a1,s1,hv1,-,-,-⟩:=laid_sentinel hL.tail.tail.tail.tail.tail gES zuW Tryz.underlying246 zuE Tryz.underlying267 Tryz.underlying269 rfl rfl Tryz.underlying9 znb zuF
 have hpf : Rows.laid_unicode_utf8_first = Lib.firstData:=Pinned.utf8First_eq
 have hpa : Rows.laid_unicode_utf8_acceptRanges = (Lib.acceptData : DataW Unit):=by kernel_rfl
 rw [hpf] at hfst
 rw [hpa] at hacc
 have htabs : Lib.Utf8Tabs 1 2 W :=
  utf8Tabs_of_reads (ρ:=Tryz.lays197_ren) { Tryz.lays197 with } ⟨by kernel_rfl,by kernel_rfl,by kernel_rfl,by kernel_rfl,by kernel_rfl,by kernel_rfl,by kernel_rfl⟩ hfst hacc
 have hmost : ∃ m,W.cell? ⟨0,0,none⟩ = some (.int .i64 m):=cell_of_shapedOpen_int (g:=0) (t:=3) (zero:=#[.int .i64 0]) hsh (of_decide_eq_true (by kernel_rfl)) (by kernel_rfl) rfl (by kernel_rfl) (by kernel_rfl) Tryz.underlying3
 have hlast:=Lib.laidMet.reads hL (.tail _ (.head _))
 refine ⟨htabs,hmost,⟨_,_,hv1⟩,⟨_,_,hv0⟩,?_⟩
 obtain ⟨g,ty,cs,fuel,pp,hg,_,hvar,_⟩:=hlast
 obtain rfl : g = 7:=Option.some.inj (hg.symm.trans (show Tryz.prog.globalNamed "math/bits.deBruijn64tab" = some 7 by kernel_rfl))
 unfold World.var? at hvar
 rw [hg] at hvar
 cases hh : W.heap[7]? with
 | none => simp [hh] at hvar
 | some o => exact (Array.getElem?_eq_some_iff.1 hh).1
end Go.Proofs.YtfpgjkbjbbgciaaGreatDoor
namespace Go.Proofs.YtfpgjkbjbbgciaaGreatDoor
open Go.RowKit Sp
def rs0 : Rs:=⟨[],0,0,false⟩
theorem zsp {w w1 : World} {g ccap : Nat} {C : List (Ins × Int)} (hK : KnM w1 w.heap.size (.slice none 0 0) kn0) (hb : Below w.heap.size w w1) (hs : w1.heap.size = w.heap.size + 1) (hg : g < w.heap.size) (hC : CodeIn w g C) :
  ∃ W,((w1.alloc (.cells #[.pointer (some ⟨w.heap.size,0,none⟩)] 197)).alloc (.cells #[.slice (some ⟨g,0,none⟩) C.length ccap,.slice (some ⟨w1.heap.size,0,none⟩) 1 1,.slice none 0 0,.int .i64 0,.int .i64 0,.bool false,.int .i64 0,.int .i64 0,.int .i64 0] 156)) = W ∧ Below w.heap.size w W ∧
   RunI W w.heap.size (w1.heap.size + 1) g ccap C W (.slice (some ⟨w1.heap.size,0,none⟩) 1 1) (.slice none 0 0) [⟨w.heap.size,none,0,kn0⟩] rs0 0 0 0:=by
 refine ⟨_,rfl,?_,?_⟩
 ·exact (hb.alloc (by omega) _).alloc (by simp; omega) _
 ·have hb1 : Below w1.heap.size w1 (w1.alloc (.cells #[.pointer (some ⟨w.heap.size,0,none⟩)] 197)):=(Below.refl _ _).alloc (Nat.le_refl _) _
  have hs2 : (w1.alloc (.cells #[.pointer (some ⟨w.heap.size,0,none⟩)] 197)).heap.size = w1.heap.size + 1:=by simp
  have hc1:=fun j => World.cell?_alloc_new (w:=w1) #[.pointer (some ⟨w.heap.size,0,none⟩)] 197 j
  have hh1:=heap_alloc_new w1 (.cells #[.pointer (some ⟨w.heap.size,0,none⟩)] 197)
  generalize w1.alloc (.cells #[.pointer (some ⟨w.heap.size,0,none⟩)] 197) = w2 at hb1 hs2 hc1 hh1 ⊢
  have hc2:=fun j => World.cell?_alloc_new (w:=w2) #[.slice (some ⟨g,0,none⟩) C.length ccap,.slice (some ⟨w1.heap.size,0,none⟩) 1 1,.slice none 0 0,.int .i64 0,.int .i64 0,.bool false,.int .i64 0,.int .i64 0,.int .i64 0] 156 j
  have hb2 : Below w2.heap.size w2 (w2.alloc (.cells #[.slice (some ⟨g,0,none⟩) C.length ccap,.slice (some ⟨w1.heap.size,0,none⟩) 1 1,.slice none 0 0,.int .i64 0,.int .i64 0,.bool false,.int .i64 0,.int .i64 0,.int .i64 0] 156)):=(Below.refl _ _).alloc (Nat.le_refl _) _
  have hs3 : (w2.alloc (.cells #[.slice (some ⟨g,0,none⟩) C.length ccap,.slice (some ⟨w1.heap.size,0,none⟩) 1 1,.slice none 0 0,.int .i64 0,.int .i64 0,.bool false,.int .i64 0,.int .i64 0,.int .i64 0] 156)).heap.size = w2.heap.size + 1:=by simp
  have hf3 : ∀ j,(w2.alloc (.cells #[.slice (some ⟨g,0,none⟩) C.length ccap,.slice (some ⟨w1.heap.size,0,none⟩) 1 1,.slice none 0 0,.int .i64 0,.int .i64 0,.bool false,.int .i64 0,.int .i64 0,.int .i64 0] 156)).frozen? ⟨w2.heap.size,j,none⟩ = false:=fun j => by simp
  generalize w2.alloc (.cells #[.slice (some ⟨g,0,none⟩) C.length ccap,.slice (some ⟨w1.heap.size,0,none⟩) 1 1,.slice none 0 0,.int .i64 0,.int .i64 0,.bool false,.int .i64 0,.int .i64 0,.int .i64 0] 156) = W at hc2 hb2 hs3 hf3 ⊢
  have hB : Below w1.heap.size w1 W:=hb1.trans (hb2.mono (by omega))
  have hKW : KnM W w.heap.size (.slice none 0 0) kn0:=hK.below hB (by omega)
  have hwy : WyM W ⟨w.heap.size,none,0,kn0⟩:=⟨⟨⟨Int.le_refl _,by show (0 : Int) ≤ 1000; omega⟩,⟨Nat.zero_le _,fun z hz => (by cases hz)⟩⟩,hKW,zw9 W⟩
  have hS : w2.heap.size = w1.heap.size + 1:=hs2
  rw [hS] at hc2 hf3 hs3
  refine ⟨⟨?_,hg,by omega,by omega,⟨⟨by simp [zik],.inr ⟨w1.heap.size,1,#[.pointer (some ⟨w.heap.size,0,none⟩)],rfl,by omega,(hb2.block _ (by omega)).trans hh1,Nat.le_refl _,by unfold maxLen; omega,rfl,by simp [zik]⟩⟩,fun x hx => by rw [List.mem_singleton.1 hx]; exact hwy,fun q hq x hx => ?_⟩,fun i h1 h2 => ?_,fun h hh => (by cases hh),?_,fun m hm => (by cases hm),?_,?_,?_,by simp,fun x hx => ?_,fun m hm => (by cases hm)⟩,⟨hc2 0,hc2 1,⟨hc2 2,hc2 3,hc2 4,hc2 5⟩,hc2 6,hc2 7,hc2 8,hf3⟩,.zero,Below.refl _ _⟩
  ·exact (hC.below hb hg).below (hB.mono (B':=w.heap.size) (by omega)) hg
  ·rw [List.mem_singleton.1 hx]
   have e : w1.heap.size = q:=by have : some w1.heap.size = some q:=hq; simpa using this
   exact ⟨by show ¬ w.heap.size = q; omega,fun a ha => (by cases ha)⟩
  ·simp only [List.length_singleton] at h2; omega
  ·exact World.ownsRow_nil _ _ _ _
  ·intro e
   have e2 : w1.heap.size = w1.heap.size + 1:=by have : some w1.heap.size = some (w1.heap.size + 1):=e; simp at this
   omega
  ·intro e; cases e
  ·intro q _ e; cases e
  ·rw [List.mem_singleton.1 (show x ∈ [(⟨w.heap.size,none,0,kn0⟩ : Wy)] from hx)]
   refine ⟨Nat.le_refl _,⟨by show ¬ w.heap.size = w1.heap.size + 1; omega,fun e => ?_,fun e => (by cases e)⟩,fun a ha => (by cases ha)⟩
   have e2 : w1.heap.size = w.heap.size:=by have : some w1.heap.size = some w.heap.size:=e; simpa using this
   omega
def znQ (w : World) (g ccap : Nat) (C : List (Ins × Int)) : Ending → World → Prop:=fun e w' => ∃ S v mv xs,e = .returned (.pointer (some ⟨S,0,none⟩)) ∧ Below w.heap.size w w' ∧ RunI w' w.heap.size S g ccap C w' v mv xs rs0 0 0 0
theorem zpD {w : World} {g ccap : Nat} {C : List (Ins × Int)} (hg : g < w.heap.size) (hC : CodeIn w g C) : Calls Tryz.prog 91 #[.slice (some ⟨g,0,none⟩) C.length ccap] w (znQ w g ccap C):=by
 have h1:=zmB w
 have HM : Hid (∀ w1,KnM w1 w.heap.size (.slice none 0 0) kn0 → Below w.heap.size w w1 → w1.heap.size = w.heap.size + 1 → znQ w g ccap C (.returned (.pointer (some ⟨w1.heap.size + 1,0,none⟩))) ((w1.alloc (.cells #[.pointer (some ⟨w.heap.size,0,none⟩)] 197)).alloc (.cells #[.slice (some ⟨g,0,none⟩) C.length ccap,.slice (some ⟨w1.heap.size,0,none⟩) 1 1,.slice none 0 0,.int .i64 0,.int .i64 0,.bool false,.int .i64 0,.int .i64 0,.int .i64 0] 156))):=fun w1 a b c => by
  obtain ⟨W,e,h2,h3⟩:=zsp (ccap:=ccap) a b c hg hC
  rw [e]
  exact ⟨_,_,_,_,rfl,h2,h3⟩
 go_enter Tryz.func91,Tryz.ntmps91
 go_wp2_with (go_at_call 113; (with_reducible refine h1.mono ?_); rintro e w1 ⟨rfl,hK,hb,hs⟩; have hfin:=HM.out w1 hK hb hs; clear hK hs)
 go_ret
 exact hfin
def zsq (w : World) (C : List (Ins × Int)) : Ending → World → Prop:=fun e w' => Below w.heap.size w w' ∧ ((e = zah 8 0 ∧ Verd C none) ∨ ∃ bs bf,e = .returned (.agg #[.int .i64 bs,.int .i64 bf]) ∧ Verd C (some (bs,bf)))
theorem zlp {w : World} {g ccap : Nat} {C : List (Ins × Int)} (hC : CodeSure C) (hg : g < w.heap.size) (hI : CodeIn w g C) : Calls Tryz.prog 58 #[.slice (some ⟨g,0,none⟩) C.length ccap] w (zsq w C):=by
 have hb0 : Below w.heap.size w (w.alloc (.cells #[.int .i64 0,.int .i64 0] 42)):=(Below.refl _ _).alloc (Nat.le_refl _) _
 have hs0 : (w.alloc (.cells #[.int .i64 0,.int .i64 0] 42)).heap.size = w.heap.size + 1:=by simp
 have hc0:=World.cell?_alloc_new (w:=w) #[.int .i64 0,.int .i64 0] 42 0
 have hc1:=World.cell?_alloc_new (w:=w) #[.int .i64 0,.int .i64 0] 42 1
 have hf0 : ∀ j,(w.alloc (.cells #[.int .i64 0,.int .i64 0] 42)).frozen? ⟨w.heap.size,j,none⟩ = false:=fun j => by simp
 have hbeg:=zpD (ccap:=ccap) (by rw [hs0]; omega) (hI.below hb0 hg)
 go_enter Tryz.func58,Tryz.ntmps58
 go_wp2_with (first
  | (go_at_call 91; (with_reducible refine hbeg.mono ?_); rintro e w1 ⟨S,v,mv,xs,rfl,hb1,I⟩; have hrun:=zur I hC)
  | (go_at_call 92; refine Hid.out ?_))
 unfold Hid
 refine hrun.mono ?_
 rintro e w2 ⟨hb2,hcase⟩
 have hb12 : Below (w.heap.size + 1) (w.alloc (.cells #[.int .i64 0,.int .i64 0] 42)) w2:=by rw [← hs0]; exact hb1.trans hb2
 have hbw : Below w.heap.size w w2:=hb0.trans (hb12.mono (by omega))
 have hSB:=I.so'.SB
 rcases hcase with ⟨rfl,hv⟩ | ⟨rfl,bs,bf,hv,d7,d8⟩
 ·dsimp only
  exact ⟨rfl,hbw,.inl ⟨rfl,hv⟩⟩
 ·dsimp only
  have d0 : w2.cell? ⟨w.heap.size,0,none⟩ = some (.int .i64 0):=(World.cell?_of_block (a:=⟨w.heap.size,0,none⟩) (hb12.block w.heap.size (by omega))).trans hc0
  have d1 : w2.cell? ⟨w.heap.size,1,none⟩ = some (.int .i64 0):=(World.cell?_of_block (a:=⟨w.heap.size,1,none⟩) (hb12.block w.heap.size (by omega))).trans hc1
  have z0 : w2.frozen? ⟨w.heap.size,0,none⟩ = false:=(World.frozen?_of_block (a:=⟨w.heap.size,0,none⟩) (hb12.block w.heap.size (by omega))).trans (hf0 0)
  have z1 : w2.frozen? ⟨w.heap.size,1,none⟩ = false:=(World.frozen?_of_block (a:=⟨w.heap.size,1,none⟩) (hb12.block w.heap.size (by omega))).trans (hf0 1)
  have HV : Hid (Verd C (some (bs,bf))):=hv
  clear hv hrun I hbeg hb0 hc0 hc1 hf0 hb1 hb2 hb12
  go_wp2
  refine bodyPost_ret (v:=.agg #[.int .i64 bs,.int .i64 bf]) (by simp [results,Tryz.results58,go_sem,d0,d1]) rfl ⟨?_,.inr ⟨bs,bf,rfl,HV.out⟩⟩
  exact (hbw.setCell (p:=⟨w.heap.size,0,none⟩) (Nat.le_refl _) _).setCell (p:=⟨w.heap.size,1,none⟩) (Nat.le_refl _) _
def VerdL (L : List Said) (v : Option (Int × Int)) : Prop:=∃ F,Right L F ∧ Verd (zao F) v
theorem VerdL.unique {L : List Said} {a b : Option (Int × Int)} (ha : VerdL L a) (hb : VerdL L b) : a = b:=by
 obtain ⟨F,R,h⟩:=ha
 obtain ⟨G,R',h'⟩:=hb
 rw [← zml R R'] at h'
 exact h.unique R.sure h'
def zuL (w : World) (pr : Nat) (L : List Said) : Ending → World → Prop:=fun e w' => (e = zah 8 0 ∧ VerdL L none ∧ Below w.heap.size w w') ∨ ∃ bs bf,e = .returned (.tuple #[]) ∧ VerdL L (some (bs,bf)) ∧ ∃ w1,Below w.heap.size w w1 ∧ w' = (w1.setCell ⟨pr,0,none⟩ (.int .i64 bs)).setCell ⟨pr,1,none⟩ (.int .i64 bf)
theorem zut (w : World) (hw : LibW w) (pt pr : Nat) (s : ByteArray) (t1 : w.cell? ⟨pt,0,none⟩ = some (.string s)) (R : Int × Int) (hR : ¬ R = (0,0)) (h : zbJ s R) :
  Calls Tryz.prog 59 #[.pointer (some ⟨pt,0,none⟩),.pointer (some ⟨pr,0,none⟩)] w fun e w' => e = zah R.1 R.2 ∧ Below w.heap.size w w':=by
 have hc:=(h w hw).mono (R':=fun e w' => e = zah R.1 R.2 ∧ Below w.heap.size w w') (by
  rintro e w' ⟨hb,⟨h,_⟩ | ⟨_,h⟩⟩
  ·exact absurd h hR
  ·exact ⟨h,hb⟩)
 go_enter Tryz.func59,Tryz.ntmps59
 go_wp2_with (go_at_call 44; refine hc.mono ?_; rintro e w1 ⟨rfl,hb⟩)
 exact ⟨rfl,rfl,hb⟩
theorem zsr (w : World) (hw : LibW w) (pt pr : Nat) (s : ByteArray) (t1 : w.cell? ⟨pt,0,none⟩ = some (.string s)) (L : List Said) (h : zh0 s L) (d0 : w.cell? ⟨pr,0,none⟩ = some (.int .i64 0)) (d1 : w.cell? ⟨pr,1,none⟩ = some (.int .i64 0)) (fz : ∀ j,w.frozen? ⟨pr,j,none⟩ = false) :
  Calls Tryz.prog 59 #[.pointer (some ⟨pt,0,none⟩),.pointer (some ⟨pr,0,none⟩)] w (zuL w pr L):=by
 have hc:=h w hw
 have hlt : pr < w.heap.size:=World.block_lt_of_cell? w _ d0
 go_enter Tryz.func59,Tryz.ntmps59
 go_wp2_with (first
  | (go_at_call 44; refine hc.mono ?_; rintro e w1 ⟨hb1,pm,ao,m,cap,F,rfl,hP,R,hn,hits⟩; have hof:=zmg R w1 _ pm _ hP hn hits)
  | (go_at_call 52; refine hof.mono ?_; rintro e w2 ⟨g,gcap,rfl,hg1,hg2,hCI,hb2⟩; have hbd:=zlp (ccap:=gcap) R.sure hg2 hCI)
  | (go_at_call 58; refine Hid.out ?_))
 unfold Hid
 refine hbd.mono ?_
 rintro e w3 ⟨hb3,hcase⟩
 have hB : Below w.heap.size w w3:=hb1.trans ((hb2.mono hb1.size).trans (hb3.mono (Nat.le_trans hb1.size hb2.size)))
 rcases hcase with ⟨rfl,hv⟩ | ⟨bs,bf,rfl,hv⟩
 ·dsimp only
  exact ⟨rfl,.inl ⟨rfl,⟨F,R,hv⟩,hB⟩⟩
 ·dsimp only
  have e0 : w3.cell? ⟨pr,0,none⟩ = some (.int .i64 0):=(World.cell?_of_block (a:=⟨pr,0,none⟩) (hB.block pr hlt)).trans d0
  have e1 : w3.cell? ⟨pr,1,none⟩ = some (.int .i64 0):=(World.cell?_of_block (a:=⟨pr,1,none⟩) (hB.block pr hlt)).trans d1
  have z0 : w3.frozen? ⟨pr,0,none⟩ = false:=(World.frozen?_of_block (a:=⟨pr,0,none⟩) (hB.block pr hlt)).trans (fz 0)
  have z1 : w3.frozen? ⟨pr,1,none⟩ = false:=(World.frozen?_of_block (a:=⟨pr,1,none⟩) (hB.block pr hlt)).trans (fz 1)
  have hfin : Hid (zuL w pr L (.returned (.tuple #[])) ((w3.setCell ⟨pr,0,none⟩ (.int .i64 bs)).setCell ⟨pr,1,none⟩ (.int .i64 bf))):=.inr ⟨bs,bf,rfl,⟨F,R,hv⟩,w3,hB,rfl⟩
  clear hbd hof hc hv hCI hP
  go_wp2
  exact bodyPost_end (results_none rfl _ _ _) rfl hfin.out
theorem zjA (V : World) (cs : Array Value) (t : TypeId) (j : Nat) : (V.alloc (.cells cs t)).frozen? ⟨V.heap.size,j,none⟩ = false:=by simp
abbrev VfW (w : World) (s : ByteArray) : World:=(w.alloc (.cells #[.string s] 9)).alloc (.cells #[.int .i64 0,.int .i64 0] 42)
theorem zjB (w : World) (s : ByteArray) : (VfW w s).heap.size = w.heap.size + 1 + 1:=by simp
theorem zhX (w : World) (s : ByteArray) : Below w.heap.size w (VfW w s):=((Below.refl _ _).alloc (Nat.le_refl _) _).alloc (by simp) _
theorem zss (w : World) (s : ByteArray) : (VfW w s).cell? ⟨w.heap.size,0,none⟩ = some (.string s) ∧ (VfW w s).cell? ⟨w.heap.size + 1,0,none⟩ = some (.int .i64 0) ∧ (VfW w s).cell? ⟨w.heap.size + 1,1,none⟩ = some (.int .i64 0) ∧ ∀ j,(VfW w s).frozen? ⟨w.heap.size + 1,j,none⟩ = false:=by
 have e : (w.alloc (.cells #[.string s] 9)).heap.size = w.heap.size + 1:=by simp
 have h1:=World.cell?_alloc_new (w:=w) #[.string s] 9 0
 have h2:=fun j => World.cell?_alloc_new (w:=w.alloc (.cells #[.string s] 9)) #[.int .i64 0,.int .i64 0] 42 j
 rw [e] at h2
 refine ⟨?_,h2 0,h2 1,fun j => ?_⟩
 ·exact (World.cell?_of_block (a:=⟨w.heap.size,0,none⟩) (Below.heap_alloc _ _ _ (by show w.heap.size < _; rw [e]; omega))).trans h1
 ·have : ∀ j,((w.alloc (.cells #[.string s] 9)).alloc (.cells #[.int .i64 0,.int .i64 0] 42)).frozen? ⟨(w.alloc (.cells #[.string s] 9)).heap.size,j,none⟩ = false:=fun j => by simp
  rw [e] at this
  exact this j
def zlq (w : World) (bs bf er ln : Int) : Ending → World → Prop:=fun e w' => e = .returned (.tuple #[.agg #[.int .i64 bs,.int .i64 bf],.int .i64 er,.int .i64 ln]) ∧ Below w.heap.size w w'
theorem zeh (w : World) (s : ByteArray) (er ln : Int) (hcall : Calls Tryz.prog 59 #[.pointer (some ⟨w.heap.size,0,none⟩),.pointer (some ⟨w.heap.size + 1,0,none⟩)] (OutW (VfW w s)) fun e w' => e = zah er ln ∧ Below (OutW (VfW w s)).heap.size (OutW (VfW w s)) w') :
  Calls Tryz.prog 26 #[.string s] w (zlq w 0 0 er ln):=by
 have hmf : ∀ (fn : Go.Fn) (first cap : Array Value) (w : World),(Instr.makeFunc fn first cap).run Tryz.prog w = .ok (.func fn first cap) w:=fun _ _ _ _ => rfl
 have hout:=zcV 59 _ (VfW w s) er ln (fun W => by kernel_rfl) hcall
 have hsz:=zjB w s
 have hbw:=zhX w s
 obtain ⟨_,d0,d1,z⟩:=zss w s
 go_enter Tryz.func26,Tryz.ntmps26
 go_wp2_with (first | (go_at_call 42; refine hout.mono ?_; rintro e w5 ⟨rfl,hb5⟩; refine Hid.out ?_))
 unfold Hid
 have hlt : w.heap.size + 1 < (VfW w s).heap.size:=by rw [hsz]; omega
 have e0 : w5.cell? ⟨w.heap.size + 1,0,none⟩ = some (.int .i64 0):=(World.cell?_of_block (a:=⟨w.heap.size + 1,0,none⟩) (hb5.block _ hlt)).trans d0
 have e1 : w5.cell? ⟨w.heap.size + 1,1,none⟩ = some (.int .i64 0):=(World.cell?_of_block (a:=⟨w.heap.size + 1,1,none⟩) (hb5.block _ hlt)).trans d1
 have z0 : w5.frozen? ⟨w.heap.size + 1,0,none⟩ = false:=(World.frozen?_of_block (a:=⟨w.heap.size + 1,0,none⟩) (hb5.block _ hlt)).trans (z 0)
 have z1 : w5.frozen? ⟨w.heap.size + 1,1,none⟩ = false:=(World.frozen?_of_block (a:=⟨w.heap.size + 1,1,none⟩) (hb5.block _ hlt)).trans (z 1)
 have hb05 : Below w.heap.size w w5:=hbw.trans (hb5.mono hbw.size)
 clear hout hcall d0 d1 z hbw hsz hb5 hlt
 go_wp2
 refine bodyPost_ret (v:=.tuple #[.agg #[.int .i64 0,.int .i64 0],.int .i64 er,.int .i64 ln]) (by simp [results,Tryz.results26,go_sem,e0,e1]) rfl ⟨rfl,?_⟩
 exact (hb05.setCell (p:=⟨w.heap.size + 1,0,none⟩) (Nat.le_succ _) _).setCell (p:=⟨w.heap.size + 1,1,none⟩) (Nat.le_succ _) _
theorem zpE (w : World) (s : ByteArray) (bs bf : Int) (hcall : Calls Tryz.prog 59 #[.pointer (some ⟨w.heap.size,0,none⟩),.pointer (some ⟨w.heap.size + 1,0,none⟩)] (OutW (VfW w s)) fun e w' => e = .returned (.tuple #[]) ∧ ∃ w1,Below (OutW (VfW w s)).heap.size (OutW (VfW w s)) w1 ∧ w' = (w1.setCell ⟨w.heap.size + 1,0,none⟩ (.int .i64 bs)).setCell ⟨w.heap.size + 1,1,none⟩ (.int .i64 bf)) :
  Calls Tryz.prog 26 #[.string s] w (zlq w bs bf 0 0):=by
 have hmf : ∀ (fn : Go.Fn) (first cap : Array Value) (w : World),(Instr.makeFunc fn first cap).run Tryz.prog w = .ok (.func fn first cap) w:=fun _ _ _ _ => rfl
 have hsz:=zjB w s
 have hbw:=zhX w s
 obtain ⟨_,d0,d1,z⟩:=zss w s
 have hso : (OutW (VfW w s)).heap.size = w.heap.size + 1 + 1 + 1 + 1:=by simp
 have hbo:=zcP (VfW w s)
 have ho0 : (OutW (VfW w s)).cell? ⟨(VfW w s).heap.size,0,none⟩ = some (.int .i64 0):=by
  have h1:=World.cell?_alloc_new (w:=VfW w s) #[.int .i64 0] 22 0
  exact (World.cell?_of_block (a:=⟨(VfW w s).heap.size,0,none⟩) (Below.heap_alloc _ _ _ (by simp))).trans h1
 have ho1 : (OutW (VfW w s)).cell? ⟨(VfW w s).heap.size + 1,0,none⟩ = some (.int .i64 0):=by
  have h1:=World.cell?_alloc_new (w:=(VfW w s).alloc (.cells #[.int .i64 0] 22)) #[.int .i64 0] 3 0
  rw [show ((VfW w s).alloc (.cells #[.int .i64 0] 22)).heap.size = (VfW w s).heap.size + 1 by simp] at h1
  exact h1
 have hf0 : (OutW (VfW w s)).frozen? ⟨(VfW w s).heap.size,0,none⟩ = false:=by
  have h1:=zjA (VfW w s) #[.int .i64 0] 22 0
  exact (World.frozen?_of_block (a:=⟨(VfW w s).heap.size,0,none⟩) (Below.heap_alloc _ _ _ (by simp))).trans h1
 have hf1 : (OutW (VfW w s)).frozen? ⟨(VfW w s).heap.size + 1,0,none⟩ = false:=by
  have h1:=zjA ((VfW w s).alloc (.cells #[.int .i64 0] 22)) #[.int .i64 0] 3 0
  rw [show ((VfW w s).alloc (.cells #[.int .i64 0] 22)).heap.size = (VfW w s).heap.size + 1 by simp] at h1
  exact h1
 have hbk : ∀ w1 b,Below (OutW (VfW w s)).heap.size (OutW (VfW w s)) w1 → b < w.heap.size + 4 → ¬ b = w.heap.size + 1 → ((w1.setCell ⟨w.heap.size + 1,0,none⟩ (.int .i64 bs)).setCell ⟨w.heap.size + 1,1,none⟩ (.int .i64 bf)).heap[b]? = (OutW (VfW w s)).heap[b]?:=fun w1 b hb hlt hne => (Below.heap_setCell _ _ _ b hne).trans ((Below.heap_setCell _ _ _ b hne).trans (hb.block b (by rw [hso]; omega)))
 have hout:=zeS 59 _ (VfW w s) _ (fun W => by kernel_rfl) hcall (fun w2 ⟨w1,hb,e⟩ => by
  subst e
  rw [hsz]
  rw [hsz] at ho0 ho1 hf0 hf1
  exact ⟨(World.cell?_of_block (a:=⟨w.heap.size + 1 + 1,0,none⟩) (hbk w1 _ hb (by show w.heap.size + 1 + 1 < _; omega) (by show ¬ w.heap.size + 1 + 1 = _; omega))).trans ho0,(World.cell?_of_block (a:=⟨w.heap.size + 1 + 1 + 1,0,none⟩) (hbk w1 _ hb (by show w.heap.size + 1 + 1 + 1 < _; omega) (by show ¬ w.heap.size + 1 + 1 + 1 = _; omega))).trans ho1,(World.frozen?_of_block (a:=⟨w.heap.size + 1 + 1,0,none⟩) (hbk w1 _ hb (by show w.heap.size + 1 + 1 < _; omega) (by show ¬ w.heap.size + 1 + 1 = _; omega))).trans hf0,(World.frozen?_of_block (a:=⟨w.heap.size + 1 + 1 + 1,0,none⟩) (hbk w1 _ hb (by show w.heap.size + 1 + 1 + 1 < _; omega) (by show ¬ w.heap.size + 1 + 1 + 1 = _; omega))).trans hf1⟩)
 have HV : Hid (∀ w1,Below (OutW (VfW w s)).heap.size (OutW (VfW w s)) w1 → ∀ w5,w5 = (((w1.setCell ⟨w.heap.size + 1,0,none⟩ (.int .i64 bs)).setCell ⟨w.heap.size + 1,1,none⟩ (.int .i64 bf)).setCell ⟨(VfW w s).heap.size,0,none⟩ (.int .i64 0)).setCell ⟨(VfW w s).heap.size + 1,0,none⟩ (.int .i64 0) → w5.cell? ⟨w.heap.size + 1,0,none⟩ = some (.int .i64 bs) ∧ w5.cell? ⟨w.heap.size + 1,1,none⟩ = some (.int .i64 bf) ∧ w5.frozen? ⟨w.heap.size + 1,0,none⟩ = false ∧ w5.frozen? ⟨w.heap.size + 1,1,none⟩ = false ∧ Below w.heap.size w w5):=fun w1 hb w5 e5 => by
  have hlt : w.heap.size + 1 < (OutW (VfW w s)).heap.size:=by rw [hso]; omega
  have q : ∀ b,b < (VfW w s).heap.size → (OutW (VfW w s)).heap[b]? = (VfW w s).heap[b]?:=fun b hlb => hbo.block b hlb
  have hb1 : w1.heap[w.heap.size + 1]? = (VfW w s).heap[w.heap.size + 1]?:=(hb.block _ hlt).trans (q _ (by rw [hsz]; omega))
  have a0 : w1.cell? ⟨w.heap.size + 1,0,none⟩ = some (.int .i64 0):=(World.cell?_of_block (a:=⟨w.heap.size + 1,0,none⟩) hb1).trans d0
  have a1 : w1.cell? ⟨w.heap.size + 1,1,none⟩ = some (.int .i64 0):=(World.cell?_of_block (a:=⟨w.heap.size + 1,1,none⟩) hb1).trans d1
  have af : ∀ j,w1.frozen? ⟨w.heap.size + 1,j,none⟩ = false:=fun j => (World.frozen?_of_block (a:=⟨w.heap.size + 1,j,none⟩) hb1).trans (z j)
  have b1 : (w1.setCell ⟨w.heap.size + 1,0,none⟩ (.int .i64 bs)).cell? ⟨w.heap.size + 1,1,none⟩ = some (.int .i64 0):=by rw [za1 _ (w.heap.size + 1) 0 1 _ _ a0,if_neg (by omega)]; exact a1
  have b0 : (w1.setCell ⟨w.heap.size + 1,0,none⟩ (.int .i64 bs)).cell? ⟨w.heap.size + 1,0,none⟩ = some (.int .i64 bs):=World.cell?_setCell_same _ _ _ a0
  have e : w5.heap[w.heap.size + 1]? = ((w1.setCell ⟨w.heap.size + 1,0,none⟩ (.int .i64 bs)).setCell ⟨w.heap.size + 1,1,none⟩ (.int .i64 bf)).heap[w.heap.size + 1]?:=by
   rw [e5,hsz]
   exact (Below.heap_setCell _ _ _ _ (by show ¬ w.heap.size + 1 = w.heap.size + 1 + 1 + 1; omega)).trans (Below.heap_setCell _ _ _ _ (by show ¬ w.heap.size + 1 = w.heap.size + 1 + 1; omega))
  refine ⟨(World.cell?_of_block (a:=⟨w.heap.size + 1,0,none⟩) e).trans ?_,(World.cell?_of_block (a:=⟨w.heap.size + 1,1,none⟩) e).trans (World.cell?_setCell_same _ _ _ b1),(World.frozen?_of_block (a:=⟨w.heap.size + 1,0,none⟩) e).trans ?_,(World.frozen?_of_block (a:=⟨w.heap.size + 1,1,none⟩) e).trans ?_,?_⟩
  ·rw [za1 _ (w.heap.size + 1) 1 0 _ _ b1,if_neg (by omega)]; exact b0
  ·rw [zc5,zc5]; exact af 0
  ·rw [zc5,zc5]; exact af 1
  ·rw [e5,hsz]
   exact ((((hbw.trans ((hbo.mono hbw.size).trans (hb.mono (by rw [hso]; omega)))).setCell (p:=⟨w.heap.size + 1,0,none⟩) (Nat.le_succ _) _).setCell (p:=⟨w.heap.size + 1,1,none⟩) (Nat.le_succ _) _).setCell (p:=⟨w.heap.size + 1 + 1,0,none⟩) (by show w.heap.size ≤ w.heap.size + 1 + 1; omega) _).setCell (p:=⟨w.heap.size + 1 + 1 + 1,0,none⟩) (by show w.heap.size ≤ w.heap.size + 1 + 1 + 1; omega) _
 clear hbk ho0 ho1 hf0 hf1 d0 d1 z hcall
 go_enter Tryz.func26,Tryz.ntmps26
 go_wp2_with (first | (go_at_call 42; refine hout.mono ?_; rintro e w5 ⟨rfl,w1,⟨wz,hbz,hq⟩,hw5⟩; have HW5 : Hid _:=hw5; clear hw5; refine Hid.out ?_))
 have hw5:=HW5.out
 clear HW5
 unfold Hid
 rw [hq] at hw5
 obtain ⟨e0,e1,z0,z1,hb05⟩:=HV.out wz hbz w5 hw5
 clear hw5 hq hout HV hbo hso hbw
 go_wp2
 refine bodyPost_ret (v:=.tuple #[.agg #[.int .i64 bs,.int .i64 bf],.int .i64 0,.int .i64 0]) (by simp [results,Tryz.results26,go_sem,e0,e1]) rfl ⟨rfl,?_⟩
 exact (hb05.setCell (p:=⟨w.heap.size + 1,0,none⟩) (Nat.le_succ _) _).setCell (p:=⟨w.heap.size + 1,1,none⟩) (Nat.le_succ _) _
end Go.Proofs.YtfpgjkbjbbgciaaGreatDoor
