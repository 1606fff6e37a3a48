import Derived.Test.YtfpgjkbjbbgciaaGreatDoorMf13
import Derived.Test.YtfpgjkbjbbgciaaGreatDoorChecked
import Derived.Test.YtfpgjkbjbbgciaaGreatDoorRows
import Derived.Lib.LaidIn
import Derived.Lib.LaidU8T
import Derived.PinnedBridge
import Derived.Stop.LaidErr
import Derived.Deep.DeepHandedRow
import Derived.Deep.DeepWitnessRowRef
import Derived.ProofKit
import Derived.Shelf.Vars
import Derived.SizedLaws
set_option maxRecDepth 100000
set_option maxHeartbeats 8000000
namespace Go.Proofs.YtfpgjkbjbbgciaaGreatDoor
open Go.RowKit Sp
theorem zqE (a b : Int) : wrap64 (a + b) = zcl 0 a b:=by simp [zcl,w64,wrap64]
theorem zqF (a b : Int) : wrap64 (a - b) = zcl 1 a b:=by simp [zcl,w64,wrap64]
theorem zqG (a b : Int) : wrap64 (a * b) = zcl 2 a b:=by simp [zcl,w64,wrap64]
abbrev i64s (l : List Int) : List Value:=l.map (Value.int .i64)
theorem zbv (w : World) (b o j : Nat) (v u : Value) (hu : w.cell? ⟨b,o,none⟩ = some u) : (w.setCell ⟨b,o,none⟩ v).cell? ⟨b,j,none⟩ = if j = o then some v else w.cell? ⟨b,j,none⟩:=by
 by_cases h : j = o
 ·subst h; rw [if_pos rfl]; exact World.cell?_setCell_same w _ _ hu
 ·rw [if_neg h,World.cell?_setCell_other]; simp
theorem zcN (w : World) (b o j : Nat) (v : Value) (h : w.frozen? ⟨b,j,none⟩ = false) : (w.setCell ⟨b,o,none⟩ v).frozen? ⟨b,j,none⟩ = false:=by simpa using h
end Go.Proofs.YtfpgjkbjbbgciaaGreatDoor
namespace Go.Proofs.YtfpgjkbjbbgciaaGreatDoor
open Go.ChangeShapes Go.WideShapes Go.ChangeAt Go.RowKit Sp
open Go.ChangeMaps (open_string shut_string)
theorem Tryz.own : ownKnob Tryz.prog.godebug = none:=by kernel_rfl
theorem gES : Tryz.prog.globalNamed "strconv.ErrSyntax" = some 3:=by kernel_rfl
theorem gER : Tryz.prog.globalNamed "strconv.ErrRange" = some 4:=by kernel_rfl
theorem zri : (Tryz.prog.globals[3]?).map (·.type) = some 246:=by kernel_rfl
theorem zrj : (Tryz.prog.globals[4]?).map (·.type) = some 246:=by kernel_rfl
theorem star : "*errors.errorString" = "*" ++ "errors.errorString":=by decide
theorem zqt (u : TypeId) (h : Tryz.prog.typeName? 3 u = some "*errors.errorString") : u = 267 :=
 typeName_ptr_named (nm := "errors.errorString") (by rw [← star]; kernel_rfl) (by kernel_rfl) (by decide) u (by rw [← star]; exact h)
theorem zkU : Tryz.prog.cellsOf 269 = 1:=by kernel_rfl
theorem zqu : Tryz.prog.cellsOf 9 = 1:=by kernel_rfl
theorem zjX {W : World} (hL0 : laidMetH Tryz.prog Rows.checksUptoRow.laid W) (hsh : W.ShapedOpen Tryz.prog) : LibW W:=by
 have hL : laidMet Tryz.prog Rows.checksUptoRow.laid W:=hL0
 have hacc:=Lib.laidMet.reads hL (.tail _ (.tail _ (.tail _ (.head _))))
 have hfst:=Lib.laidMet.reads hL (.tail _ (.tail _ (.tail _ (.tail _ (.tail _ (.tail _ (.head _)))))))
 obtain ⟨a0,s0,hv0,-,-,-⟩:=laid_sentinel hL.tail.tail.tail.tail gER zrj Tryz.underlying246 zqt Tryz.underlying267 Tryz.underlying269 rfl rfl Tryz.underlying9 zkU zqu
 obtain ⟨a1,s1,hv1,-,-,-⟩:=laid_sentinel hL.tail.tail.tail.tail.tail gES zri Tryz.underlying246 zqt Tryz.underlying267 Tryz.underlying269 rfl rfl Tryz.underlying9 zkU zqu
 have hpf : Rows.laid_unicode_utf8_first = Lib.firstData:=Pinned.utf8First_eq
 have hpa : Rows.laid_unicode_utf8_acceptRanges = (Lib.acceptData : DataW Unit):=by kernel_rfl
 rw [hpf] at hfst
 rw [hpa] at hacc
 have htabs : Lib.Utf8Tabs 1 2 W :=
  utf8Tabs_of_reads (ρ:=Tryz.lays197_ren) { Tryz.lays197 with } ⟨by kernel_rfl,by kernel_rfl,by kernel_rfl,by kernel_rfl,by kernel_rfl,by kernel_rfl,by kernel_rfl⟩ hfst hacc
 have hmost : ∃ m,W.cell? ⟨0,0,none⟩ = some (.int .i64 m):=cell_of_shapedOpen_int (g:=0) (t:=3) (zero:=#[.int .i64 0]) hsh (of_decide_eq_true (by kernel_rfl)) (by kernel_rfl) rfl (by kernel_rfl) (by kernel_rfl) Tryz.underlying3
 have hlast:=Lib.laidMet.reads hL (.tail _ (.head _))
 refine ⟨htabs,hmost,⟨_,_,hv1⟩,⟨_,_,hv0⟩,?_⟩
 obtain ⟨g,ty,cs,fuel,pp,hg,_,hvar,_⟩:=hlast
 obtain rfl : g = 7:=Option.some.inj (hg.symm.trans (show Tryz.prog.globalNamed "math/bits.deBruijn64tab" = some 7 by kernel_rfl))
 unfold World.var? at hvar
 rw [hg] at hvar
 cases hh : W.heap[7]? with
 | none => simp [hh] at hvar
 | some o => exact (Array.getElem?_eq_some_iff.1 hh).1
end Go.Proofs.YtfpgjkbjbbgciaaGreatDoor
namespace Go.Proofs.YtfpgjkbjbbgciaaGreatDoor
open Sp
def zcn (names labs : List ByteArray) (k : Key) : Bool :=
 (zaz k.word && !labs.any (fun y => eqW y k.nm)) || (zaQ k.word && !names.any (fun y => eqW y k.nm))
def za1 (names labs : List ByteArray) (b : List Key) : Option Int:=(b.find? (zcn names labs)).map Key.line
def zbI (names : List ByteArray) : List Fn → Option Int
 | [] => none
 | f :: r => match za1 names (labsOf f.body) f.body with | some l => some l | none => zbI names r
def endK : List Fn → Option Int
 | [] => none
 | f :: r => if zlw f.body = true then endK r else some f.line
def za5 : List Fn → List Key → Option Int
 | _,[] => none
 | F,k :: r => if bad0 F k = true then some k.line else za5 (addK F k) r
def zcO (e : Int) (o : Option Int) (c : Int × Int) : Int × Int:=match o with | some l => (e,l) | none => c
theorem zqJ (L : List Said) (hw : WfAll L) (i : Nat) (c : Int × Int) : pass L 2 i c = zcO 5 (endK (za3 L i)) c:=by
 by_cases h : i < L.length
 ·have hb : badB L 2 i = (if L[i].kind = 102 then !zed L (i + 1) false else false):=by
   simp [badB,zct,List.getElem?_eq_getElem h]
  by_cases h1 : L[i].kind = 102
  ·rw [if_pos h1,znf L hw (i + 1) false] at hb
   change badB L 2 i = !zlw (zah L (i + 1)) at hb
   rw [zbn L i h h1]
   cases he : zlw (zah L (i + 1)) with
   | true =>
    rw [zbF L 2 i c h (by rw [hb,he]; rfl),zqJ L hw (i + 1) c]
    simp [endK,he]
   | false =>
    rw [zef L 2 i c h (by rw [hb,he]; rfl)]
    simp [endK,he,zcO]
  ·rw [if_neg h1] at hb
   rw [zbF L 2 i c h hb,zbh L i h h1]
   exact zqJ L hw (i + 1) c
 ·rw [zee L 2 i c h,zbL L i h]; rfl
termination_by L.length - i
def NmOk (L : List Said) : Prop:=∀ q ∈ L,q.kind = 105 → (zaz (q.word 0) = true ∨ zaQ (q.word 0) = true) → zc0 q = q.last
theorem zfY (x : ByteArray) (h : zaz x = true) : zaQ x = false:=by
 unfold zaz isW at h
 unfold zaQ isW
 simp only [Bool.or_eq_true,beq_iff_eq] at h
 rcases h with (h | h) | h <;> rw [h] <;> decide
theorem zhU : zaz ⟨#[]⟩ = false:=by simp [zaz,isW,ByteArray.toList_eq]
theorem zjz : zaQ ⟨#[]⟩ = false:=by simp [zaQ,isW,ByteArray.toList_eq]
theorem zqK (L : List Said) (_hw : WfAll L) (hn : NmOk L) (names labs : List ByteArray) (i o : Nat) (h : i < L.length) (ho : zdH L i = (o : Int))
  (hN : ∀ x,names.any (fun y => eqW y x) = decide (0 ≤ zba L x 0)) (hL : ∀ x,labs.any (fun y => eqW y x) = decide (0 ≤ zaI L x (o + 1))) :
  badB L 1 i = zcn names labs (keyQ L[i] ((i : Int) + 1)):=by
 have e : badB L 1 i = zb2 L i:=by simp [badB]
 rw [e]
 unfold zb2
 rw [List.getElem?_eq_getElem h]
 dsimp only
 by_cases h5 : L[i].kind = 105
 ·rw [if_pos h5]
  have hlab : zf6 L i L[i].last = zaI L L[i].last (o + 1):=by
   unfold zf6
   rw [ho]
   congr 1
  have ew : zdS L[i] = L[i].word 0:=by simp [zdS,h5]
  unfold zcn keyQ
  dsimp only
  rw [ew,hlab,hN,hL]
  by_cases h1 : zaz (L[i].word 0) = true
  ·rw [if_pos h1,hn _ (List.getElem_mem h) h5 (.inl h1),h1,zfY _ h1]
   simp [← Int.not_le]
  ·rw [if_neg h1]
   by_cases h2 : zaQ (L[i].word 0) = true
   ·rw [if_pos h2,hn _ (List.getElem_mem h) h5 (.inr h2),h2]
    simp [h1,← Int.not_le]
   ·rw [if_neg h2]
    simp [h1,h2]
 ·rw [if_neg h5]
  have ew : zdS L[i] = ⟨#[]⟩:=by simp [zdS,h5]
  unfold zcn keyQ
  dsimp only
  rw [ew,zhU,zjz]
  rfl
theorem zcX (names labs : List ByteArray) (k : Key) (b : List Key) : za1 names labs (k :: b) = if zcn names labs k = true then some k.line else za1 names labs b:=by
 unfold za1
 rw [List.find?_cons]
 cases zcn names labs k <;> rfl
theorem zpg (L : List Said) (hw : WfAll L) (hn : NmOk L) (names : List ByteArray) (hN : ∀ x,names.any (fun y => eqW y x) = decide (0 ≤ zba L x 0)) (c : Int × Int) (i o : Nat) (ho : zdH L i = (o : Int)) (labs : List ByteArray)
  (hL : ∀ x,labs.any (fun y => eqW y x) = decide (0 ≤ zaI L x (o + 1))) :
  pass L 1 (i + 1) c = zcO 4 (match za1 names labs (zah L (i + 1)) with | some l => some l | none => zbI names (za3 L (i + 1))) c:=by
 by_cases h : i + 1 < L.length
 ·by_cases h1 : L[i + 1].kind = 102
  ·have ho':=zec L (i + 1) h h1
   have hb : badB L 1 (i + 1) = false:=by simp [badB,zb2,List.getElem?_eq_getElem h,h1]
   rw [zbF L 1 (i + 1) c h hb,zbK L (i + 1) h h1,zbn L (i + 1) h h1,zpg L hw hn names hN c (i + 1) (i + 1) ho' (labsOf (zah L (i + 1 + 1))) (fun x => zer L (i + 1 + 1) x)]
   rfl
  ·have ho' : zdH L (i + 1) = (o : Int):=(zc5 L i h h1).trans ho
   have hb:=zqK L hw hn names labs (i + 1) o h ho' hN hL
   rw [zbh L (i + 1) h h1]
   by_cases h0 : L[i + 1].kind = 0
   ·have hb : badB L 1 (i + 1) = false:=by simp [badB,zb2,List.getElem?_eq_getElem h,h0]
    rw [zbF L 1 (i + 1) c h hb,zbw L (i + 1) h h0]
    exact zpg L hw hn names hN c (i + 1) o ho' labs hL
   ·rw [zaX L (i + 1) h h0 h1,zcX]
    cases hk : zcn names labs (keyQ L[i + 1] (((i + 1 : Nat) : Int) + 1)) with
    | true => rw [zef L 1 (i + 1) c h (hb.trans hk)]; rfl
    | false =>
     rw [zbF L 1 (i + 1) c h (hb.trans hk)]
     exact zpg L hw hn names hN c (i + 1) o ho' labs hL
 ·rw [zee L 1 (i + 1) c h,zbC L _ h,zbL L _ h]; rfl
termination_by L.length - i
end Go.Proofs.YtfpgjkbjbbgciaaGreatDoor
namespace Go.Proofs.YtfpgjkbjbbgciaaGreatDoor
open Go.RowKit Sp
def zcz (s : ByteArray) (R : Int × Int) : Prop:=∀ w,LibW w → Calls Tryz.prog 44 #[.string s] w fun e w' =>
 Below w.heap.size w w' ∧ (R = (0,0) ∧ (∃ v,e = .returned v) ∨ ¬ R = (0,0) ∧ e = zap R.1 R.2)
theorem zdQ (w : World) (n : Nat) : Below w.heap.size w (w.drewN n):=⟨rfl,rfl,rfl,Nat.le_refl _,fun _ _ => rfl⟩
theorem zpc (x : Int) : wrap64 x = w64 x:=by simp [w64,wrap64]
theorem zpn {w : World} {B g c : Nat} {I : List Int} {x : Int} (h : w.ownsRow B 3 1 (.slice (some ⟨g,0,none⟩) (I.length + 1) c) (I.length + 1) (i64s (I ++ [x]))) : w.ownsRow B 3 1 (.slice (some ⟨g,0,none⟩) I.length c) I.length (i64s I):=by
 refine ⟨by simp,?_⟩
 rcases h.2 with ⟨h',_⟩ | ⟨g',c',cur,h',hb,hh,hn,hm,hs,ht⟩
 ·simp at h'
 ·simp only [Value.slice.injEq,Option.some.injEq,Addr.mk.injEq,true_and,and_true] at h'
  obtain ⟨rfl,rfl⟩:=h'
  refine .inr ⟨g,c,cur,rfl,hb,hh,by omega,hm,hs,?_⟩
  have:=congrArg (List.take I.length) ht
  rw [List.take_take] at this
  simpa using this
theorem zlW (n : Int) (w : World) (h : n < 0 ∨ 100000 < n) : Calls Tryz.prog 51 #[.int .i64 n] w fun e w' => e = zap 7 0 ∧ w' = w:=by
 by_cases h0 : n < 0
 ·go_enter Tryz.func51,Tryz.ntmps51
  go_wp2_with (first | (go_at_call 79; refine (zaj _ _ _).mono ?_; rintro e wx ⟨rfl,hww⟩; have h2:=hww.symm; subst h2))
  exact ⟨rfl,rfl,rfl⟩
 ·have h1 : 100000 < n:=by omega
  go_enter Tryz.func51,Tryz.ntmps51
  go_wp2_with (first | (go_at_call 79; refine (zaj _ _ _).mono ?_; rintro e wx ⟨rfl,hww⟩; have h2:=hww.symm; subst h2))
  exact ⟨rfl,rfl,rfl⟩
theorem zjO (n : Int) (w : World) (h0 : 0 ≤ n) (h1 : n ≤ 100000) : Calls Tryz.prog 51 #[.int .i64 n] w fun e w' => e = .returned (.tuple #[]) ∧ w' = w:=by
 go_enter Tryz.func51,Tryz.ntmps51
 go_wp2
 go_end0
 exact ⟨rfl,rfl⟩
end Go.Proofs.YtfpgjkbjbbgciaaGreatDoor
namespace Go.Proofs.YtfpgjkbjbbgciaaGreatDoor.Sp
end Go.Proofs.YtfpgjkbjbbgciaaGreatDoor.Sp
namespace Go.Proofs.YtfpgjkbjbbgciaaGreatDoor
end Go.Proofs.YtfpgjkbjbbgciaaGreatDoor
namespace Go.Proofs.YtfpgjkbjbbgciaaGreatDoor
open Go.RowKit Sp
end Go.Proofs.YtfpgjkbjbbgciaaGreatDoor
namespace Go.Proofs.YtfpgjkbjbbgciaaGreatDoor.Sp
structure Suf (r : List UInt8) : Prop where
 none : zaH r [] = []
 flush : ∀ now,zaH r now = zcu now
 valid : ∀ l : List UInt8,(∀ c ∈ l,c.toNat < 128) → zar (ba (l ++ r)) 0 = true
 line : ∀ c ∈ r,¬ c = 10
theorem zr6 {r : List UInt8} (h : ∀ now,zaH r now = zcu now ++ zaH r []) (h0 : zaH r [] = []) (hv : ∀ l : List UInt8,(∀ c ∈ l,c.toNat < 128) → zar (ba (l ++ r)) 0 = true) (hl : ∀ c ∈ r,¬ c = 10) : Suf r :=
 ⟨h0,fun now => by rw [h now,h0,List.append_nil],hv,hl⟩
theorem zm5 {r : List UInt8} (hr : ∀ c ∈ r,c.toNat < 128) : ∀ l : List UInt8,(∀ c ∈ l,c.toNat < 128) → zar (ba (l ++ r)) 0 = true:=fun l hl =>
 zjk _ fun c hc => by
  rcases List.mem_append.1 hc with e | e
  ·exact hl c e
  ·exact hr c e
theorem zm6 : Suf []:=zr6 zlf rfl (zm5 (fun c hc => by cases hc)) (fun c hc => by cases hc)
structure Wd (x : List UInt8) : Prop where
 ne : ¬ x = []
 ok : ∀ c ∈ x,33 ≤ c.toNat ∧ c.toNat < 127 ∧ ¬ c.toNat = 59
theorem Wd.clean {x : List UInt8} (h : Wd x) : zq3 x:=fun c hc => by
 obtain ⟨h1,h2,h3⟩:=h.ok c hc
 refine ⟨fun e => ?_,fun e => ?_⟩
 ·rw [e] at h3; exact h3 rfl
 ·rcases e with e | e <;> rw [e] at h1 <;> revert h1 <;> decide
theorem zlh (b r : List UInt8) (h : ∀ c ∈ b,c = 32 ∨ c = 9) : zaH (b ++ r) [] = zaH r []:=by
 induction b with
 | nil => rfl
 | cons c t ih => rw [List.cons_append,zjj c _ (h c List.mem_cons_self),ih (fun x hx => h x (List.mem_cons_of_mem _ hx))]
theorem zoG {b s : List UInt8} (hb : ∀ c ∈ b,c = 32 ∨ c = 9) {ws : List (List UInt8)} (hw : ∀ x ∈ ws,Wd x) (hs : Suf s) : say (ba (b ++ zbG ws ++ s)) = sayW (ws.map ba):=by
 have h1 : zs4 (ba (b ++ zbG ws ++ s)) = ws.map ba:=by
  rw [zoD,List.append_assoc,zlh b _ hb,zji ws s (fun x hx => ⟨(hw x hx).ne,(hw x hx).clean⟩) (fun now => by rw [hs.flush,hs.none,List.append_nil]),hs.none,List.append_nil]
 have h2 : zar (ba (b ++ zbG ws ++ s)) 0 = true:=hs.valid _ fun c hc => by
  rcases List.mem_append.1 hc with e | e
  ·rcases hb c e with e | e <;> rw [e] <;> decide
  ·exact zfK ws (fun c => c.toNat < 128) (fun x hx c hc => by have:=(hw x hx).ok c hc; omega) (by decide) c e
 unfold say
 rw [if_pos h2,h1]
theorem zm7 {b s : List UInt8} (hb : ∀ c ∈ b,c = 32 ∨ c = 9) {ws : List (List UInt8)} (hw : ∀ x ∈ ws,Wd x) (hs : Suf s) : ∀ c ∈ b ++ zbG ws ++ s,¬ c = 10:=by
 intro c hc
 rcases List.mem_append.1 hc with e | e
 ·rcases List.mem_append.1 e with e | e
  ·rcases hb c e with e | e <;> rw [e] <;> decide
  ·exact zfK ws (fun c => ¬ c = 10) (fun x hx c hc e => by have:=(hw x hx).ok c hc; rw [e] at this; revert this; decide) (by decide) c e
 ·exact hs.line c e
theorem zq5 (x : List UInt8) : sayW ([[102,117,110,99],x].map ba) = ⟨102,[ba [102,117,110,99],ba x],zau (ba x)⟩:=by
 have : zcR (ba [102,117,110,99]) = true:=by unfold zcR isW; rw [zfI]; rfl
 simp only [List.map_cons,List.map_nil,sayW,this,if_true]
 rfl
theorem zkp (x : List UInt8) (c : UInt8) : zdF (ba (x ++ [c])) = (c.toNat : Int):=by
 unfold zdF
 rw [zjd,zbV,List.length_append]; simp
theorem zoH (x : List UInt8) : sayW ([x ++ [58]].map ba) = ⟨108,[ba x],zau (ba x)⟩:=by
 have h1 : zcR (ba (x ++ [58])) = false:=by
  unfold zcR isW; rw [zfI]
  rw [beq_eq_false_iff_ne]
  intro h
  have:=congrArg List.getLast? h
  simp at this
 have h2 : (ba (x ++ [58])).extract 0 ((ba (x ++ [58])).size - 1) = ba x:=by
  rw [← zm2 ((ba (x ++ [58])).extract 0 _)]
  congr 1
  rw [ByteArray.data_extract,Array.toList_extract,zbV,zfH]
  simp [List.extract_eq_take_drop]
 simp only [List.map_cons,List.map_nil,sayW,h1,h2,zkp]
 simp
theorem zq6 (x : List UInt8) (r : List (List UInt8)) (sh : List UInt8) (h1 : ¬ x = [102,117,110,99]) (hl : ∀ y,¬ x = y ++ [58]) (hx : ¬ x = []) (hs : zaa (ba x) = sh) (h63 : ¬ sh = [63]) (hn : r.length = sh.length) : sayW ((x :: r).map ba) = ⟨105,(x :: r).map ba,zav sh (r.map ba)⟩:=by
 have e1 : zcR (ba x) = false:=by unfold zcR isW; rw [zfI,beq_eq_false_iff_ne]; exact h1
 have e2 : ¬ zdF (ba x) = 58:=by
  intro h
  have:=List.dropLast_concat_getLast hx
  rw [← this,zkp] at h
  have h3 : x.getLast hx = 58:=(zoC (n:=58) (by omega)).1 h
  rw [h3] at this
  exact hl _ this.symm
 have e3 : ¬ (zaa (ba x) = [63] ∨ ¬ ((x :: r).map ba).length = (zaa (ba x)).length + 1):=by
  rw [hs]; simp [h63,hn]
 show (if zcR (ba x) = true then _ else if _ then _ else _) = _
 rw [if_neg (by rw [e1]; decide),if_neg (fun h => e2 h.2)]
 show (⟨105,_,if (zaa (ba x) = [63] ∨ ¬ ((x :: r).map ba).length = (zaa (ba x)).length + 1) then false else zav (zaa (ba x)) (r.map ba)⟩ : Said) = _
 rw [if_neg e3,hs]
end Go.Proofs.YtfpgjkbjbbgciaaGreatDoor.Sp
