import Derived.Test.YtfpgjkbjbbgciaaGreatDoorMf49
import Derived.Test.YtfpgjkbjbbgciaaGreatDoorMf52
set_option maxRecDepth 100000
set_option maxHeartbeats 8000000
namespace Go.Proofs.YtfpgjkbjbbgciaaGreatDoor
open Go.RowKit Sp
theorem zs2 : zsb:=fun B w b px cv code S k V M hd hh hl hb hk hc => by
 refine zsl B w b px cv code S k V M hd ?_ ?_ ?_ hk ?_
 ·unfold zg4
  simp only [hh]
  decide
 ·rw [hl]; exact Nat.zero_le _
 ·rw [hb]; exact Nat.zero_le _
 ·rw [hc]; exact Nat.le_refl _
theorem zrv : zox:=fun _B _w _b _px _cv _code _S _k _V M hh hl hk => ziS M 0 (by decide) (hh 0) hl (by omega) (fun _W _k2 _V2 M2 => zh5 M2 0 (by decide) (hh 0) hl)
theorem zkj {w : World} {cv : Value} {code : List Int} (hc : SlB w w.heap.size cv code) (hl : code.length ≤ 9223372036854775807) (hnum : ∀ x ∈ code,i64 x) : Calls Tryz.prog 31 #[cv] w (zkc w):=zmp zs2 zrv hc hl hnum
end Go.Proofs.YtfpgjkbjbbgciaaGreatDoor
namespace Go.Proofs.YtfpgjkbjbbgciaaGreatDoor
open Go.ChangeShapes Go.WideShapes Go.ChangeAt Go.RowKit Sp
theorem zkk {H : Type} {enc : TypeId × Value → H} {W : World} {base : Nat} {v : Value} {d : DataW H} {p : List MemPlace} (hval : Value.okWide Tryz.prog W .any base 59 v) (h : DataW.Trod enc Tryz.prog W 0 (fun _ => true) true 59 v d p) :
  ∃ (ao : Option Addr) (icap : Nat) (inp : List Int),v = .slice ao inp.length icap ∧ SlB W W.heap.size (.slice ao inp.length icap) inp ∧ inp.length ≤ Rows.uptoBulk d ∧ (∀ x ∈ inp,i64 x) ∧ inp.length ≤ 9223372036854775807 ∧
   ∀ W',Below W.heap.size W W' → DataW.Trod enc Tryz.prog W' 0 (fun b => decide (b < W.heap.size)) true 59 v d p:=by
 obtain ⟨a0,len0,cap0,rfl⟩:=okWide_slice Tryz.underlying59 hval
 obtain ⟨fuel,hf⟩:=h
 have hc : Tryz.prog.cellsOf 3 = 1:=by kernel_rfl
 rcases open_ints Tryz.underlying59 Tryz.underlying3 hc hf with ⟨hcs,hx⟩ | ⟨a,len,cap,zs,hcs,_,hle,hmax,hall,hx,hcell,hwf⟩
 ·simp [Value.cells] at hcs
  obtain ⟨rfl,rfl,rfl⟩:=hcs
  simp only [Prod.mk.injEq] at hx
  obtain ⟨rfl,rfl⟩:=hx
  refine ⟨none,0,[],rfl,⟨none,0,rfl,Nat.le_refl _,fun h => by simp at h⟩,Nat.zero_le _,(fun x hx => (by cases hx)),Nat.zero_le _,fun W' _ => ⟨1,?_⟩⟩
  simp [DataW.trod,Value.cells,Tryz.underlying59]
 ·simp [Value.cells] at hcs
  obtain ⟨rfl,rfl,rfl⟩:=hcs
  simp only [Prod.mk.injEq] at hx
  obtain ⟨rfl,rfl⟩:=hx
  simp only [if_true] at hall
  have hlt : (zs.take len0).length = len0:=by rw [List.length_take]; omega
  refine ⟨some a,cap0,zs.take len0,by rw [hlt],⟨some a,cap0,rfl,by omega,fun hp => ?_⟩,?_,fun x hx => ?_,by rw [hlt]; exact Nat.le_trans hle (Nat.le_trans hmax (by decide)),fun W' hb => ⟨2,?_⟩⟩
  ·obtain ⟨b,off,rfl,hat⟩:=ints_at hcell (by omega)
   have hbl : b < W.heap.size:=World.block_lt_of_cell? W _ (hat 0 (by omega))
   refine ⟨b,off,rfl,hbl,hbl,fun j hj => ?_⟩
   rw [hat j (by omega)]
   simp [List.getD,show j < zs.length by omega]
  ·have:=zhc (lits (H:=H) .i64 (zs.take len0)) (lits .i64 (zs.drop len0))
   have hll : (lits (H:=H) .i64 (zs.take len0)).length = (zs.take len0).length:=by simp [lits]
   rw [hll] at this
   exact Nat.le_trans (Nat.le_add_right _ _) this
  ·have:=hwf x (List.mem_of_mem_take hx)
   simp only [Lit.wf,Bool.and_eq_true,decide_eq_true_eq] at this
   exact this
  ·have hz : zs.length = (if decide (a.block < W.heap.size) = true then cap0 else len0):=by
    by_cases h0 : 0 < zs.length
    ·have : a.block < W.heap.size:=by
      have:=World.block_lt_of_cell? W _ (hcell 0 h0)
      simpa [Addr.add] using this
     rw [if_pos (by simpa using this)]; exact hall
    ·split <;> omega
   have:=shut_ints (enc:=enc) (P:=Tryz.prog) (w:=W') (base:=0) (spare:=fun b => decide (b < W.heap.size)) (held:=true) 0 Tryz.underlying59 Tryz.underlying3 hc (Nat.zero_le _) hle hmax hz (fun i hi => still hb (hcell i hi)) hwf
   simpa [Value.cells] using this
theorem ziX {H : Type} {enc : TypeId × Value → H} {P : Program} {w : World} {base : Nat} {spare : Nat → Bool} {held : Bool} {t t' t'' t3 : TypeId} {args : Array Value} {ds : List (DataW H)} {ps : List MemPlace} (h : DataW.TrodAll enc P w base spare held [t,t',t'',t3] args.toList ds ps) :
  ∃ v v' v'' v3 d d' d'' d3 p p' p'' p3,args = #[v,v',v'',v3] ∧ ds = [d,d',d'',d3] ∧ ps = p ++ (p' ++ (p'' ++ p3)) ∧ DataW.Trod enc P w base spare held t v d p ∧ DataW.Trod enc P w base spare held t' v' d' p' ∧ DataW.Trod enc P w base spare held t'' v'' d'' p'' ∧ DataW.Trod enc P w base spare held t3 v3 d3 p3:=by
 obtain ⟨v,vs,d,ds1,p,q,hargs,rfl,rfl,hd,hrest⟩:=trodAll_cons h
 obtain ⟨v',vs1,d',ds2,p',q1,rfl,rfl,rfl,hd',hrest1⟩:=trodAll_cons hrest
 obtain ⟨v'',vs2,d'',ds3,p'',q2,rfl,rfl,rfl,hd'',hrest2⟩:=trodAll_cons hrest1
 obtain ⟨v3,vs3,d3,ds4,p3,q3,rfl,rfl,rfl,hd3,hrest3⟩:=trodAll_cons hrest2
 obtain ⟨rfl,rfl,rfl⟩:=trodAll_nil hrest3
 exact ⟨v,v',v'',v3,d,d',d'',d3,p,p',p'',p3,by cases args; simp_all,rfl,by simp,hd,hd',hd'',hd3⟩
theorem zkl {H : Type} {enc : TypeId × Value → H} {P : Program} {w : World} {base : Nat} {spare : Nat → Bool} {held : Bool} {t t' t'' t3 : TypeId} {v v' v'' v3 : Value} {d d' d'' d3 : DataW H} {p p' p'' p3 : List MemPlace} (h : DataW.Trod enc P w base spare held t v d p) (h' : DataW.Trod enc P w base spare held t' v' d' p')
  (h'' : DataW.Trod enc P w base spare held t'' v'' d'' p'') (h3 : DataW.Trod enc P w base spare held t3 v3 d3 p3) : DataW.TrodAll enc P w base spare held [t,t',t'',t3] [v,v',v'',v3] [d,d',d'',d3] (p ++ (p' ++ (p'' ++ p3))) :=
 ⟨p,_,h,trodAll_mk3 h' h'' h3,rfl⟩
end Go.Proofs.YtfpgjkbjbbgciaaGreatDoor
namespace Go.Proofs.YtfpgjkbjbbgciaaGreatDoor.Sp
theorem zsG (c : UInt8) (r now : List UInt8) (h : c = 32 ∨ c = 9) : zaH (c :: r) now = zcu now ++ zaH (c :: r) []:=by
 have h59 : ¬ c = 59:=by rcases h with rfl | rfl <;> decide
 simp only [zaH,if_neg h59,if_pos h]
 simp [zcu]
theorem zsR (r now : List UInt8) : zaH (59 :: r) now = zcu now ++ zaH (59 :: r) []:=by simp [zaH,zcu]
theorem zsW : Suf [32]:=zr6 (fun now => zsG 32 [] now (.inl rfl)) (by decide) (zm5 (by decide)) (by decide)
theorem zsX : Suf [9,59,59]:=zr6 (fun now => zsG 9 _ now (.inr rfl)) (by decide) (zm5 (by decide)) (by decide)
theorem zsY : Suf [59,32,206,177,58]:=by
 refine zr6 (fun now => zsR _ now) (by decide) (fun l hl => ?_) (by decide)
 have hz : (ba (l ++ [59,32,206,177,58])).size = l.length + 5:=by rw [zbV,List.length_append]; rfl
 have b : ∀ j,j < 5 → bt (ba (l ++ [59,32,206,177,58])) (l.length + j) = (((([59,32,206,177,58] : List UInt8)[j]?.getD 0).toNat : Nat) : Int):=fun j hj => by
  rw [zjd,List.getElem?_append_right (by omega),show l.length + j - l.length = j by omega]
 rw [zm3 _ 0 (l.length + 2) (by omega) (fun j _ hj => ?_)]
 ·have hc : chr (ba (l ++ [59,32,206,177,58])) (0 + (l.length + 2)) = (2,945):=by
   rw [Nat.zero_add]
   unfold chr
   rw [b 2 (by omega)]
   simp only [zc3,show l.length + 2 + 1 = l.length + 3 by omega,b 3 (by omega)]
   rw [hz]
   have : l.length + 3 < l.length + 5:=by omega
   simp [zcs]
  have hn : chrN (ba (l ++ [59,32,206,177,58])) (0 + (l.length + 2)) = 2:=by unfold chrN; rw [hc]; rfl
  rw [zeY _ _ (by omega) (by rw [hc]; decide),hn,zm3 _ _ 1 (by omega) (fun j h1 h2 => ?_),zf4 _ _ (by omega)]
  rw [show j = l.length + 4 by omega,b 4 (by omega)]; decide
 ·by_cases h1 : j < l.length
  ·rw [zjd,List.getElem?_append_left h1,List.getElem?_eq_getElem h1]
   have:=hl l[j] (List.getElem_mem _)
   simp only [Option.getD_some]; omega
  ·rcases (by omega : j = l.length + 0 ∨ j = l.length + 1) with e | e
   ·rw [e,b 0 (by omega)]; decide
   ·rw [e,b 1 (by omega)]; decide
end Go.Proofs.YtfpgjkbjbbgciaaGreatDoor.Sp
namespace Go.Proofs.YtfpgjkbjbbgciaaGreatDoor
open Go.RowKit Sp
theorem ztl (s : ByteArray) (h : zcz s (0,0)) (w : World) (hw : LibW w) (p : Addr) (hp : w.cell? p = some (.string s)) :
  Calls Tryz.prog 43 #[.pointer (some p)] w fun e w' => e = .returned (.tuple #[]) ∧ Below w.heap.size w w':=by
 have hc:=(h w hw).mono (R':=fun e w' => (∃ v,e = .returned v) ∧ Below w.heap.size w w') (by
  rintro e w' ⟨hb,⟨_,h⟩ | ⟨h,_⟩⟩
  ·exact ⟨h,hb⟩
  ·exact absurd rfl h)
 go_enter Tryz.func43,Tryz.ntmps43
 go_wp2_with (go_at_call 44; refine hc.mono ?_; rintro e w1 ⟨⟨v,rfl⟩,hb⟩)
 go_end0
 exact ⟨rfl,hb⟩
theorem ztm (s : ByteArray) (R : Int × Int) (hR : ¬ R = (0,0)) (h : zcz s R) (w : World) (hw : LibW w) (p : Addr) (hp : w.cell? p = some (.string s)) :
  Calls Tryz.prog 43 #[.pointer (some p)] w fun e w' => e = zap R.1 R.2 ∧ Below w.heap.size w w':=by
 have hc:=(h w hw).mono (R':=fun e w' => e = zap R.1 R.2 ∧ Below w.heap.size w w') (by
  rintro e w' ⟨hb,⟨h,_⟩ | ⟨_,h⟩⟩
  ·exact absurd h hR
  ·exact ⟨h,hb⟩)
 go_enter Tryz.func43,Tryz.ntmps43
 go_wp2_with (go_at_call 44; refine hc.mono ?_; rintro e w1 ⟨rfl,hb⟩)
 exact ⟨rfl,rfl,hb⟩
theorem zsS (s : ByteArray) (h : zcz s (0,0)) (w : World) (hw : LibW w) (p : Addr) (hp : w.cell? p = some (.string s)) :
  Calls Tryz.prog 42 #[.func (.func 43) #[] #[.pointer (some p)]] w fun e w' => e = .returned (.tuple #[.int .i64 0,.int .i64 0]) ∧ Below w.heap.size w w':=by
 have hmf : ∀ (fn : Go.Fn) (first cap : Array Value) (w : World),(Instr.makeFunc fn first cap).run Tryz.prog w = .ok (.func fn first cap) w:=fun _ _ _ _ => rfl
 have hplt:=World.block_lt_of_cell? w p hp
 have hw2 : LibW ((w.alloc (.cells #[.int .i64 0] 22)).alloc (.cells #[.int .i64 0] 3)):=hw.below (((Below.refl _ _).alloc (Nat.le_refl _) _).alloc (by simp) _)
 have hp2 : ((w.alloc (.cells #[.int .i64 0] 22)).alloc (.cells #[.int .i64 0] 3)).cell? p = some (.string s):=by
  rw [World.cell?_alloc_lt _ _ p (by simp; omega),World.cell?_alloc_lt _ _ p hplt]; exact hp
 have hcall:=ztl s h _ hw2 p hp2
 go_enter_defers Tryz.func42,Tryz.ntmps42
 go_wp2_with (go_at_call 43; refine hcall.mono ?_; rintro e w1 ⟨rfl,hb⟩; obtain ⟨hc,hf⟩:=zhk hb)
 have z0 : w1.cell? ⟨w.heap.size,0,none⟩ = some (.int .i64 0):=by rw [hc _ _ (by simp; omega)]; simp
 have z1 : w1.cell? ⟨w.heap.size + 1,0,none⟩ = some (.int .i64 0):=by rw [hc _ _ (by simp)]; simp
 have y0 : ((w1.setCell ⟨w.heap.size,0,none⟩ (.int .i64 0)).setCell ⟨w.heap.size + 1,0,none⟩ (.int .i64 0)).cell? ⟨w.heap.size,0,none⟩ = some (.int .i64 0):=by
  rw [World.cell?_setCell_other]
  ·exact World.cell?_setCell_same w1 _ _ z0
  ·simp
 have y1 : ((w1.setCell ⟨w.heap.size,0,none⟩ (.int .i64 0)).setCell ⟨w.heap.size + 1,0,none⟩ (.int .i64 0)).cell? ⟨w.heap.size + 1,0,none⟩ = some (.int .i64 0):=by
  refine World.cell?_setCell_same (u:=.int .i64 0) _ _ _ ?_
  rw [World.cell?_setCell_other]
  ·exact z1
  ·simp
 have hbw:=((zqA _ _ _ hb).setCell (p:=⟨w.heap.size,0,none⟩) (Nat.le_refl _) (.int .i64 0)).setCell (p:=⟨w.heap.size + 1,0,none⟩) (Nat.le_succ _) (.int .i64 0)
 generalize (w1.setCell ⟨w.heap.size,0,none⟩ (.int .i64 0)).setCell ⟨w.heap.size + 1,0,none⟩ (.int .i64 0) = X at y0 y1 hbw ⊢
 refine leaves_cons (f:=64) (args:=#[.pointer (some ⟨w.heap.size,0,none⟩),.pointer (some ⟨w.heap.size + 1,0,none⟩)]) (by simp) (by simp [go_sem]) ?_
 refine (zll w.heap.size _).mono ?_
 rintro e u' w'' ⟨rfl,rfl,rfl⟩
 exact ⟨.tuple #[.int .i64 0,.int .i64 0],by simp [results,Tryz.results42,go_sem,y0,y1],rfl,hbw⟩
theorem zsT (s : ByteArray) (R : Int × Int) (hR : ¬ R = (0,0)) (h : zcz s R) (w : World) (hw : LibW w) (p : Addr) (hp : w.cell? p = some (.string s)) :
  Calls Tryz.prog 42 #[.func (.func 43) #[] #[.pointer (some p)]] w fun e w' => e = .returned (.tuple #[.int .i64 R.1,.int .i64 R.2]) ∧ Below w.heap.size w w':=by
 have hmf : ∀ (fn : Go.Fn) (first cap : Array Value) (w : World),(Instr.makeFunc fn first cap).run Tryz.prog w = .ok (.func fn first cap) w:=fun _ _ _ _ => rfl
 have hplt:=World.block_lt_of_cell? w p hp
 have hw2 : LibW ((w.alloc (.cells #[.int .i64 0] 22)).alloc (.cells #[.int .i64 0] 3)):=hw.below (((Below.refl _ _).alloc (Nat.le_refl _) _).alloc (by simp) _)
 have hp2 : ((w.alloc (.cells #[.int .i64 0] 22)).alloc (.cells #[.int .i64 0] 3)).cell? p = some (.string s):=by
  rw [World.cell?_alloc_lt _ _ p (by simp; omega),World.cell?_alloc_lt _ _ p hplt]; exact hp
 have hcall:=ztm s R hR h _ hw2 p hp2
 go_enter_defers Tryz.func42,Tryz.ntmps42
 go_wp2_with (go_at_call 43; refine hcall.mono ?_; rintro e w1 ⟨rfl,hb⟩; obtain ⟨hc,hf⟩:=zhk hb)
 have z0 : w1.cell? ⟨w.heap.size,0,none⟩ = some (.int .i64 0):=by rw [hc _ _ (by simp; omega)]; simp
 have z1 : w1.cell? ⟨w.heap.size + 1,0,none⟩ = some (.int .i64 0):=by rw [hc _ _ (by simp)]; simp
 have f0 : w1.frozen? ⟨w.heap.size,0,none⟩ = false:=by rw [hf _ _ (by simp; omega)]; simp
 have f1 : w1.frozen? ⟨w.heap.size + 1,0,none⟩ = false:=by rw [hf _ _ (by simp)]; simp
 refine leaves_cons (f:=64) (args:=#[.pointer (some ⟨w.heap.size,0,none⟩),.pointer (some ⟨w.heap.size + 1,0,none⟩)]) (by simp) (by simp [go_sem]) ?_
 refine (zhj w.heap.size 0 0 R.1 R.2 _ z0 z1 f0 f1).mono ?_
 rintro e u' w'' ⟨rfl,rfl,hb2,y0,y1⟩
 exact ⟨.tuple #[.int .i64 R.1,.int .i64 R.2],by simp [results,Tryz.results42,go_sem,y0,y1],rfl,(zqA _ _ _ hb).trans hb2⟩
theorem zsQ (s : ByteArray) (R : Int × Int) (h : zcz s R) (w : World) (hw : LibW w) (p : Addr) (hp : w.cell? p = some (.string s)) :
  Calls Tryz.prog 42 #[.func (.func 43) #[] #[.pointer (some p)]] w fun e w' => e = .returned (.tuple #[.int .i64 R.1,.int .i64 R.2]) ∧ Below w.heap.size w w':=by
 by_cases hR : R = (0,0)
 ·subst hR; exact zsS s h w hw p hp
 ·exact zsT s R hR h w hw p hp
theorem zsV (s : ByteArray) (R : Int × Int) (h : zcz s R) (w : World) (hw : LibW w) :
  Calls Tryz.prog 15 #[.string s] w fun e w' => e = .returned (.tuple #[.int .i64 R.1,.int .i64 R.2]) ∧ Below w.heap.size w w':=by
 have hmf : ∀ (fn : Go.Fn) (first cap : Array Value) (w : World),(Instr.makeFunc fn first cap).run Tryz.prog w = .ok (.func fn first cap) w:=fun _ _ _ _ => rfl
 have hw2 : LibW (w.alloc (.cells #[.string s] 9)):=hw.below ((Below.refl _ _).alloc (Nat.le_refl _) _)
 have hcall:=zsQ s R h (w.alloc (.cells #[.string s] 9)) hw2 ⟨w.heap.size,0,none⟩ (by simp)
 go_enter Tryz.func15,Tryz.ntmps15
 go_wp2_with (go_at_call 42; refine hcall.mono ?_; rintro e w1 ⟨rfl,hb⟩)
 go_ret2
 exact ⟨rfl,((Below.refl _ _).alloc (Nat.le_refl _) _).trans (hb.mono (by simp))⟩
theorem zsE (s : ByteArray) (w : World) (hw : LibW w) (hs : s.size ≤ 4611686018427387904) (hR : zd1 s = if 4000 < s.size ∨ 300 < (lines s).length then (6,0) else (0,0)) :
  Calls Tryz.prog 32 #[.string s] w fun e w' => e = .returned (.bool true) ∧ Below w.heap.size w w':=by
 have hck:=zsV s (zd1 s) (znA s (by omega)) w hw
 have hf:=fun W => zqc s W hs
 unfold zrk at hf
 by_cases h : 4000 < s.size ∨ 300 < (lines s).length
 ·rw [hR,if_pos h] at hck
  rw [decide_eq_false (fun x => x h)] at hf
  clear h hR
  go_enter Tryz.func32,Tryz.ntmps32
  go_wp2_with (first
   | (go_at_call 15; (with_reducible refine hck.mono ?_); rintro e w1 ⟨rfl,hb1⟩)
   | (go_at_call 33; (with_reducible refine (hf _).mono ?_); rintro e w2 ⟨rfl,rfl⟩))
  go_ret
  exact ⟨rfl,hb1⟩
 ·rw [hR,if_neg h] at hck
  rw [decide_eq_true h] at hf
  clear h hR
  go_enter Tryz.func32,Tryz.ntmps32
  go_wp2_with (first
   | (go_at_call 15; (with_reducible refine hck.mono ?_); rintro e w1 ⟨rfl,hb1⟩)
   | (go_at_call 33; (with_reducible refine (hf _).mono ?_); rintro e w2 ⟨rfl,rfl⟩))
  go_ret
  exact ⟨rfl,hb1⟩
def IsP (p : List UInt8) : Prop:=p = [] ∨ p = [32] ∨ p = [9]
def IsQ (q : List UInt8) : Prop:=q = [] ∨ q = [32] ∨ q = [59,32,206,177,58] ∨ q = [9,59,59]
theorem IsP.blank {p : List UInt8} (h : IsP p) : ∀ c ∈ p,c = 32 ∨ c = 9:=by
 rcases h with rfl | rfl | rfl
 ·intro c hc; cases hc
 ·intro c hc; exact .inl (List.mem_singleton.1 hc)
 ·intro c hc; exact .inr (List.mem_singleton.1 hc)
theorem IsQ.suf {q : List UInt8} (h : IsQ q) : Suf q:=by
 rcases h with rfl | rfl | rfl | rfl
 ·exact zm6
 ·exact zsW
 ·exact zsY
 ·exact zsX
theorem IsP.len {p : List UInt8} (h : IsP p) : p.length ≤ 1:=by rcases h with rfl | rfl | rfl <;> decide
theorem IsQ.len {q : List UInt8} (h : IsQ q) : q.length ≤ 5:=by rcases h with rfl | rfl | rfl | rfl <;> decide
inductive Deco : List ByteArray → List (List UInt8) → Prop
 | nil : Deco [] []
 | snoc {A : List ByteArray} {D : List (List UInt8)} (x : ByteArray) {p q : List UInt8} (h : Deco A D) (hp : IsP p) (hq : IsQ q) : Deco (A ++ [x]) (D ++ [p ++ x.data.toList ++ q])
def LnB (y : ByteArray) : Prop:=∃ l : Ln,l.Ok ∧ y = ba l.bytes
theorem Deco.all {A : List ByteArray} {D : List (List UInt8)} (h : Deco A D) (hA : ∀ y ∈ A,LnB y) : (D.map ba).map say = A.map say ∧ (∀ l ∈ D,∀ c ∈ l,¬ c = 10) ∧ D.length = A.length:=by
 induction h with
 | nil => exact ⟨rfl,fun l hl => by (cases hl),rfl⟩
 | @snoc A D x p q h hp hq ih =>
  obtain ⟨i1,i2,i3⟩:=ih (fun y hy => hA y (List.mem_append_left _ hy))
  obtain ⟨l,hl,rfl⟩:=hA x (List.mem_append_right _ (List.mem_singleton.2 rfl))
  refine ⟨?_,fun l' hl' => ?_,by rw [List.length_append,List.length_append,i3]; rfl⟩
  ·rw [List.map_append,List.map_append,List.map_append,i1]
   refine congrArg _ ?_
   show [say (ba (p ++ l.bytes ++ q))] = [say (ba l.bytes)]
   rw [l.say hl hp.blank hq.suf,l.say0 hl]
  ·rcases List.mem_append.1 hl' with e | e
   ·exact i2 l' e
   ·rw [List.mem_singleton.1 e]
    exact l.no10 hl hp.blank hq.suf
theorem zsN {s : ByteArray} (hs : ∀ y ∈ lines s,LnB y) {A : List ByteArray} {D : List (List UInt8)} {x : ByteArray} {p q : List UInt8} (h : Deco A D) (hp : IsP p) (hq : IsQ q) (hl : lines s = A ++ [x]) :
  (lines (ba (zck D ++ (p ++ x.data.toList ++ q)))).map say = (lines s).map say ∧ (lines (ba (zck D ++ (p ++ x.data.toList ++ q)))).length = (lines s).length:=by
 rw [hl] at hs
 obtain ⟨h1,h2,h3⟩:=(Deco.snoc x h hp hq).all hs
 have e : lines (ba (zck D ++ (p ++ x.data.toList ++ q))) = (D ++ [p ++ x.data.toList ++ q]).map ba:=by
  rw [zoB,zqe (fun l hl => h2 l (List.mem_append_left _ hl)) _ (h2 _ (List.mem_append_right _ (List.mem_singleton.2 rfl)))]
 rw [e,h1,hl,List.length_map,h3]
 exact ⟨rfl,rfl⟩
theorem Wrote.lnb {G : List (List Ln)} (h : Wrote G) (hl : G.length ≤ 1000000) : ∀ y ∈ lines (ba (zdh G)),LnB y:=by
 have hok:=h.ok hl
 have:=zqe (ls:=(lnsT G).map Ln.bytes) (fun l hl c hc => by
  obtain ⟨x,hx,rfl⟩:=List.mem_map.1 hl
  exact x.no10' (hok x (List.mem_append_left _ hx)) c hc) [] (fun c hc => by cases hc)
 rw [List.append_nil] at this
 unfold zdh
 rw [zoB,this]
 intro y hy
 obtain ⟨z,hz,rfl⟩:=List.mem_map.1 hy
 rcases List.mem_append.1 hz with e | e
 ·obtain ⟨l,hl2,rfl⟩:=List.mem_map.1 e
  exact ⟨l,hok l (List.mem_append_left _ hl2),rfl⟩
 ·rw [List.mem_singleton.1 e]
  exact ⟨zd3,hok _ (List.mem_append_right _ (List.mem_singleton.2 rfl)),rfl⟩
theorem Wrote.spelled {G : List (List Ln)} (h : Wrote G) (h0 : ¬ G = []) (hl : G.length ≤ 1000000) {o : ByteArray} (ho : (lines o).map say = (lines (ba (zdh G))).map say) : zd1 o = if 4000 < o.size ∨ 300 < (Sp.lines o).length then (6,0) else (0,0) :=
 zm8 _ (by rw [ho,h.lines hl]; exact h.prog h0 hl)
def SpGo (s : ByteArray) (k f : Nat) (o : ByteArray) : Prop:=∃ (A : List ByteArray) (D : List (List UInt8)),Deco A D ∧ lines s = A ++ zbl s f k ∧ f ≤ k ∧ k ≤ s.size ∧ o = ba (zck D) ∧ f ≤ o.size ∧ o.size ≤ 7 * f
def ztg (s o : ByteArray) : Prop:=∃ (A : List ByteArray) (D : List (List UInt8)) (x : ByteArray) (p q : List UInt8),Deco A D ∧ IsP p ∧ IsQ q ∧ lines s = A ++ [x] ∧ o = ba (zck D ++ (p ++ x.data.toList ++ q)) ∧ s.size ≤ o.size ∧ o.size ≤ 7 * s.size + 6
theorem SpGo.start (s : ByteArray) : SpGo s 0 0 ⟨#[]⟩:=⟨[],[],.nil,rfl,Nat.le_refl _,Nat.zero_le _,rfl,Nat.zero_le _,Nat.le_refl _⟩
theorem SpGo.on {s o : ByteArray} {k f : Nat} (h : SpGo s k f o) (hk : k < s.size) (hb : ¬ bt s k = 10) : SpGo s (k + 1) f o:=by
 obtain ⟨A,D,h1,h2,h3,h4,h5⟩:=h
 rw [ze5 s f k hk hb] at h2
 exact ⟨A,D,h1,h2,by omega,by omega,h5⟩
theorem zsZ (s : ByteArray) (f k : Nat) (hf : f ≤ k) (hk : k ≤ s.size) : (s.extract f k).data.toList.length = k - f:=by
 show (s.extract f k).size = k - f
 rw [ByteArray.size_extract]
 omega
theorem zta (a b c d : List UInt8) : ba a ++ ba b ++ ba c ++ ba d = ba (a ++ (b ++ c ++ d)):=by
 rw [zcP,zcP,zcP]
 simp
theorem SpGo.cut {s o : ByteArray} {k f : Nat} (h : SpGo s k f o) (hk : k < s.size) (hb : bt s k = 10) {p q : List UInt8} (hp : IsP p) (hq : IsQ q) : SpGo s (k + 1) (k + 1) (o ++ ba p ++ s.extract f k ++ ba q ++ (⟨#[10]⟩ : ByteArray)):=by
 obtain ⟨A,D,h1,h2,h3,h4,rfl,h6,h7⟩:=h
 rw [zdE s f k hk hb] at h2
 have e : ba (zck D) ++ ba p ++ s.extract f k ++ ba q ++ (⟨#[10]⟩ : ByteArray) = ba (zck (D ++ [p ++ (s.extract f k).data.toList ++ q])):=by
  rw [zmm,← zm2 (s.extract f k),zta,zfH,show (⟨#[10]⟩ : ByteArray) = ba [10] from rfl,zcP]
 have l1:=hp.len
 have l2:=hq.len
 have l3:=zsZ s f k h3 h4
 have z : (ba (zck (D ++ [p ++ (s.extract f k).data.toList ++ q]))).size = (ba (zck D)).size + (p.length + (k - f) + q.length) + 1:=by
  rw [zmm,zbV,zbV]
  simp only [List.length_append,List.length_singleton,l3]
 refine ⟨A ++ [s.extract f k],D ++ [p ++ (s.extract f k).data.toList ++ q],h1.snoc _ hp hq,by rw [h2]; simp,Nat.le_refl _,by omega,e,?_,?_⟩
 ·rw [e,z]; omega
 ·rw [e,z]; omega
theorem SpGo.last {s o : ByteArray} {f : Nat} (h : SpGo s s.size f o) {p q : List UInt8} (hp : IsP p) (hq : IsQ q) : ztg s (o ++ ba p ++ s.extract f s.size ++ ba q):=by
 obtain ⟨A,D,h1,h2,h3,h4,rfl,h6,h7⟩:=h
 rw [zdD s f s.size (by omega)] at h2
 have e : ba (zck D) ++ ba p ++ s.extract f s.size ++ ba q = ba (zck D ++ (p ++ (s.extract f s.size).data.toList ++ q)):=by
  rw [← zm2 (s.extract f s.size),zta,zfH]
 have l1:=hp.len
 have l2:=hq.len
 have l3:=zsZ s f s.size h3 h4
 have z : (ba (zck D ++ (p ++ (s.extract f s.size).data.toList ++ q))).size = (ba (zck D)).size + (p.length + (s.size - f) + q.length):=by
  rw [zbV,zbV]
  simp only [List.length_append,l3]
 refine ⟨A,D,s.extract f s.size,p,q,h1,hp,hq,h2,e,?_,?_⟩
 ·rw [e,z]; omega
 ·rw [e,z]; omega
def preB (t : Nat) : ByteArray:=if t = 0 then ⟨#[]⟩ else if t = 1 then ⟨#[32]⟩ else ⟨#[9]⟩
def sufB (t : Nat) : ByteArray:=if t = 0 then ⟨#[]⟩ else if t = 1 then ⟨#[32]⟩ else if t = 2 then ⟨#[59,32,206,177,58]⟩ else ⟨#[9,59,59]⟩
theorem ztb (t : Nat) : ∃ p,IsP p ∧ preB t = ba p:=by
 unfold preB
 split
 ·exact ⟨[],.inl rfl,rfl⟩
 ·split
  ·exact ⟨[32],.inr (.inl rfl),rfl⟩
  ·exact ⟨[9],.inr (.inr rfl),rfl⟩
theorem ztc (t : Nat) : ∃ q,IsQ q ∧ sufB t = ba q:=by
 unfold sufB
 split
 ·exact ⟨[],.inl rfl,rfl⟩
 ·split
  ·exact ⟨[32],.inr (.inl rfl),rfl⟩
  ·split
   ·exact ⟨[59,32,206,177,58],.inr (.inr (.inl rfl)),rfl⟩
   ·exact ⟨[9,59,59],.inr (.inr (.inr rfl)),rfl⟩
theorem zsH (t : Nat) : (preB t).size ≤ 1:=by
 obtain ⟨p,h,e⟩:=ztb t
 rw [e]; exact h.len
theorem zsI (t : Nat) : (sufB t).size ≤ 5:=by
 obtain ⟨p,h,e⟩:=ztc t
 rw [e]; exact h.len
end Go.Proofs.YtfpgjkbjbbgciaaGreatDoor
namespace Go.Proofs.YtfpgjkbjbbgciaaGreatDoor
open Go.RowKit Sp
theorem ztd {P : Program} {ops : Array Oper} {Q : Exit → Act → World → Prop} {md : Region.Mode} (I : Array Bool → Act → World → Prop)
  (hstep : ∀ (listed : Array Bool) (i : Nat) (a : Act) (w : World),I listed a w → i ∈ Region.ready md ops listed → wpOp P ops Q i (fun a' w' => I (listed.setIfInBounds i true) a' w') a w)
  (hend : ∀ (listed : Array Bool) (a : Act) (w : World),I listed a w → Region.ready md ops listed = [] → Q .normal a w) :
  ∀ (fuel : Nat) (listed : Array Bool) (a : Act) (w : World),listed.toList.count false ≤ fuel → I listed a w → wpAny P md ops Q fuel listed a w:=by
 intro fuel
 induction fuel with
 | zero =>
  intro listed a w hc hI
  have hr : Region.ready md ops listed = []:=by
   refine List.eq_nil_iff_forall_not_mem.2 fun i hi => ?_
   have h0:=(mem_ready.1 hi).1
   rcases Nat.lt_or_ge i listed.size with h | h
   ·have hm : false ∈ listed.toList:=by
     have : listed.toList[i]'(by simpa using h) = false:=by simpa [h] using h0
     rw [← this]
     exact List.getElem_mem _
    have:=List.count_pos_iff.2 hm
    omega
   ·simp [Array.getElem?_eq_none h] at h0
  exact ⟨hr,hend _ _ _ hI hr⟩
 | succ fuel ih =>
  intro listed a w hc hI
  refine ⟨fun h => hend _ _ _ hI h,fun i hi => wpOp_mono (fun a' w' h' => ih _ a' w' ?_ h') (hstep listed i a w hI hi)⟩
  have h0:=(mem_ready.1 hi).1
  rcases Nat.lt_or_ge i listed.size with h | h
  ·have hf : listed.toList[i]'(by simpa using h) = false:=by simpa [h] using h0
   rw [Array.toList_setIfInBounds,List.count_set (by simpa using h),hf]
   have hm : false ∈ listed.toList:=by
    rw [← hf]
    exact List.getElem_mem _
   have:=List.count_pos_iff.2 hm
   show listed.toList.count false - 1 + 0 ≤ fuel
   omega
  ·simp [Array.getElem?_eq_none h] at h0
def Ds (w1 : World) (wv : Value) (ways : List Int) (W : World) : Prop:=(∃ kd,DiM w1.heap.size W w1.heap.size wv ways kd) ∧ Below w1.heap.size w1 W
theorem DiM.alloc2 {B : Nat} {w : World} {px : Nat} {cv : Value} {code : List Int} {k : Nat} (h : DiM B w px cv code k) (hB : B ≤ w.heap.size) (x : Obj) : DiM B (w.alloc x) px cv code k :=
 h.block ((Below.refl _ _).alloc hB _) (((Below.refl w.heap.size w).alloc (Nat.le_refl _) x).block _ h.lt)
theorem Ds.alloc {w1 W : World} {wv : Value} {ways : List Int} (h : Ds w1 wv ways W) (x : Obj) : Ds w1 wv ways (W.alloc x):=by
 obtain ⟨⟨kd,D⟩,hb⟩:=h
 exact ⟨⟨kd,D.alloc2 hb.size x⟩,hb.alloc hb.size _⟩
theorem Ds.drew {w1 W : World} {wv : Value} {ways : List Int} (h : Ds w1 wv ways W) : Ds w1 wv ways W.drew:=by
 obtain ⟨⟨kd,D⟩,hb⟩:=h
 exact ⟨⟨kd,⟨D.c0,D.row,D.c1,D.le,D.fz,D.len,D.num,D.hB,D.kx⟩⟩,hb.drew⟩
theorem Ds.lt {w1 W : World} {wv : Value} {ways : List Int} (h : Ds w1 wv ways W) : w1.heap.size < W.heap.size:=by
 obtain ⟨⟨kd,D⟩,_⟩:=h
 exact D.lt
theorem Ds.next {w1 W : World} {wv : Value} {ways : List Int} (h : Ds w1 wv ways W) (n : Int) (hn : 0 < n) :
  Calls Tryz.prog 41 #[.pointer (some ⟨w1.heap.size,0,none⟩),.int .i64 n] W fun e w' => ∃ c : Nat,e = .returned (.int .i64 (c : Int)) ∧ (c : Int) < n ∧ Ds w1 wv ways w' ∧ W.grownBy w' (some w1.heap.size):=by
 obtain ⟨⟨kd,D⟩,hb⟩:=h
 refine (zh4 D hb.size n hn).mono ?_
 rintro e w' ⟨c,h1,h2,h3,h4,h5⟩
 exact ⟨c,h1,h2,⟨h3,hb.trans h4⟩,h5⟩
abbrev preO : Obj:=.cells #[.string ⟨#[]⟩,.string ⟨#[32]⟩,.string ⟨#[9]⟩] 9
abbrev sufO : Obj:=.cells #[.string ⟨#[]⟩,.string ⟨#[32]⟩,.string ⟨#[59,32,206,177,58]⟩,.string ⟨#[9,59,59]⟩] 9
theorem zth {w : World} {q i : Nat} (h : w.heap[q]? = some preO) (hi : (i : Int) < 3) : w.cell? ⟨q,i,none⟩ = some (.string (preB i)):=by
 have hi2 : i = 0 ∨ i = 1 ∨ i = 2:=by omega
 rw [cell_of_row w q i _ _ _ h]
 rcases hi2 with rfl | rfl | rfl <;> rfl
theorem zti {w : World} {q i : Nat} (h : w.heap[q]? = some sufO) (hi : (i : Int) < 4) : w.cell? ⟨q,i,none⟩ = some (.string (sufB i)):=by
 have hi2 : i = 0 ∨ i = 1 ∨ i = 2 ∨ i = 3:=by omega
 rw [cell_of_row w q i _ _ _ h]
 rcases hi2 with rfl | rfl | rfl | rfl <;> rfl
theorem zsJ {W w2 : World} {px g : Nat} {O : Obj} (g2 : W.grownBy w2 (some px)) (hq : W.heap[g]? = some O) (hne : ¬ g = px) : w2.heap[g]? = some O :=
 (g2.block g (by
   rcases Nat.lt_or_ge g W.heap.size with h | h
   ·exact h
   ·rw [Array.getElem?_eq_none h] at hq; cases hq) (fun e => hne (by have:=Option.some.inj e; omega))).trans hq
theorem zsP {W : World} {g : Nat} {O : Obj} (hq : W.heap[g]? = some O) (x : Obj) : (W.alloc x).heap[g]? = some O :=
 (((Below.refl W.heap.size W).alloc (Nat.le_refl _) x).block g (by
   rcases Nat.lt_or_ge g W.heap.size with h | h
   ·exact h
   ·rw [Array.getElem?_eq_none h] at hq; cases hq)).trans hq
def expV (o L : ByteArray) (px g1 g2 t u : Nat) : Nat → Value
 | 0 => .string o
 | 1 => .slice (some ⟨g1,0,none⟩) 3 3
 | 2 => .pointer (some ⟨px,0,none⟩)
 | 3 => .int .i64 (t : Int)
 | 4 => .pointer (some ⟨g1,t,none⟩)
 | 5 => .string (preB t)
 | 6 => .string (o ++ preB t)
 | 7 => .string L
 | 8 => .string (o ++ preB t ++ L)
 | 9 => .slice (some ⟨g2,0,none⟩) 4 4
 | 10 => .pointer (some ⟨px,0,none⟩)
 | 11 => .int .i64 (u : Int)
 | 12 => .pointer (some ⟨g2,u,none⟩)
 | 13 => .string (sufB u)
 | 14 => .string (o ++ preB t ++ L ++ sufB u)
 | 15 => .string (o ++ preB t ++ L ++ sufB u)
 | _ => undef
def zsA : List (Nat × Nat):=[(4,1),(4,3),(5,4),(6,0),(6,5),(8,6),(8,7),(11,3),(12,9),(12,11),(13,12),(14,8),(14,13),(15,14)]
def updX (f : Nat → Value) (r : Nat) (v : Value) : Nat → Value:=fun i => if i = r then v else f i
structure RgF (w1 : World) (wv : Value) (ways : List Int) (o L : ByteArray) (d : Nat → Bool) (X : Nat → Value) (g1 g2 t u : Nat) (w : World) : Prop where
 ds : Ds w1 wv ways w
 t3 : (t : Int) < 3
 u4 : (u : Int) < 4
 p1 : d 1 = true → w.heap[g1]? = some preO ∧ ¬ g1 = w1.heap.size
 p2 : d 9 = true → w.heap[g2]? = some sufO ∧ ¬ g2 = w1.heap.size
 val : ∀ j,d j = true → j < 16 → X j = expV o L w1.heap.size g1 g2 t u j
 x15 : d 15 = false → X 15 = .string o
 cl : ∀ j k,(j,k) ∈ zsA → d j = true → d k = true
variable {w1 : World} {wv : Value} {ways : List Int} {o L : ByteArray} {d : Nat → Bool} {X : Nat → Value} {g1 g2 t u : Nat} {w : World}
theorem zsD (f : Nat → Value) (r : Nat) (v : Value) : updX f r v r = v:=if_pos rfl
theorem zsB {f : Nat → Value} {r j : Nat} (v : Value) (h : ¬ j = r) : updX f r v j = f j:=if_neg h
theorem zsF (f : Nat → Bool) (r : Nat) (v : Bool) : updH f r v r = v:=if_pos rfl
theorem zs7 {f : Nat → Bool} {r j : Nat} (v : Bool) (h : ¬ j = r) : updH f r v j = f j:=if_neg h
theorem RgF.cl2 (h : RgF w1 wv ways o L d X g1 g2 t u w) (i : Nat) (hi : ∀ k,(i,k) ∈ zsA → d k = true) : ∀ j k,(j,k) ∈ zsA → updH d i true j = true → updH d i true k = true:=by
 intro j k hjk hj
 by_cases hk : k = i
 ·subst hk; exact zsF _ _ _
 ·rw [zs7 _ hk]
  by_cases hji : j = i
  ·subst hji; exact hi k hjk
  ·rw [zs7 _ hji] at hj
   exact h.cl j k hjk hj
theorem RgF.put (h : RgF w1 wv ways o L d X g1 g2 t u w) (i : Nat) (hi : ∀ k,(i,k) ∈ zsA → d k = true) (h1 : ¬ i = 1) (h9 : ¬ i = 9) {v : Value} (hv : v = expV o L w1.heap.size g1 g2 t u i) : RgF w1 wv ways o L (updH d i true) (updX X i v) g1 g2 t u w:=by
 refine ⟨h.ds,h.t3,h.u4,fun e => h.p1 ?_,fun e => h.p2 ?_,fun j hj hl => ?_,fun e => ?_,h.cl2 i hi⟩
 ·rwa [zs7 _ (fun x => h1 x.symm)] at e
 ·rwa [zs7 _ (fun x => h9 x.symm)] at e
 ·by_cases hji : j = i
  ·subst hji; rw [zsD,hv]
  ·rw [zsB _ hji]
   rw [zs7 _ hji] at hj
   exact h.val j hj hl
 ·by_cases hi15 : (15 : Nat) = i
  ·subst hi15; rw [zsF] at e; cases e
  ·rw [zsB _ hi15]
   rw [zs7 _ hi15] at e
   exact h.x15 e
theorem RgF.no (h : RgF w1 wv ways o L d X g1 g2 t u w) {j k : Nat} (hjk : (j,k) ∈ zsA) (hk : d k = false) : d j = false:=by
 cases e : d j with
 | false => rfl
 | true => rw [h.cl j k hjk e] at hk; cases hk
theorem RgF.alloc1 (h : RgF w1 wv ways o L d X g1 g2 t u w) (hd : d 1 = false) : RgF w1 wv ways o L (updH d 1 true) (updX X 1 (.slice (some ⟨w.heap.size,0,none⟩) 3 3)) w.heap.size g2 t u (w.alloc preO):=by
 have n4:=h.no (j:=4) (k:=1) (by decide) hd
 refine ⟨h.ds.alloc _,h.t3,h.u4,fun _ => ⟨heap_alloc_new w preO,Nat.ne_of_gt h.ds.lt⟩,fun e => ?_,fun j hj hl => ?_,fun e => ?_,h.cl2 1 (fun k hk => by simp [zsA] at hk)⟩
 ·rw [zs7 _ (by decide)] at e
  exact ⟨zsP (h.p2 e).1 _,(h.p2 e).2⟩
 ·by_cases h1 : j = 1
  ·subst h1; rw [zsD]; rfl
  ·rw [zsB _ h1]
   rw [zs7 _ h1] at hj
   have h4 : ¬ j = 4:=fun e => by rw [e,n4] at hj; cases hj
   rw [h.val j hj hl]
   have : j = 0 ∨ j = 2 ∨ j = 3 ∨ j = 5 ∨ j = 6 ∨ j = 7 ∨ j = 8 ∨ j = 9 ∨ j = 10 ∨ j = 11 ∨ j = 12 ∨ j = 13 ∨ j = 14 ∨ j = 15:=by omega
   rcases this with rfl | rfl | rfl | rfl | rfl | rfl | rfl | rfl | rfl | rfl | rfl | rfl | rfl | rfl <;> rfl
 ·rw [zsB _ (by decide)]
  rw [zs7 _ (by decide)] at e
  exact h.x15 e
theorem RgF.alloc2 (h : RgF w1 wv ways o L d X g1 g2 t u w) (hd : d 9 = false) : RgF w1 wv ways o L (updH d 9 true) (updX X 9 (.slice (some ⟨w.heap.size,0,none⟩) 4 4)) g1 w.heap.size t u (w.alloc sufO):=by
 have n12:=h.no (j:=12) (k:=9) (by decide) hd
 refine ⟨h.ds.alloc _,h.t3,h.u4,fun e => ?_,fun _ => ⟨heap_alloc_new w sufO,Nat.ne_of_gt h.ds.lt⟩,fun j hj hl => ?_,fun e => ?_,h.cl2 9 (fun k hk => by simp [zsA] at hk)⟩
 ·rw [zs7 _ (by decide)] at e
  exact ⟨zsP (h.p1 e).1 _,(h.p1 e).2⟩
 ·by_cases h1 : j = 9
  ·subst h1; rw [zsD]; rfl
  ·rw [zsB _ h1]
   rw [zs7 _ h1] at hj
   have h4 : ¬ j = 12:=fun e => by rw [e,n12] at hj; cases hj
   rw [h.val j hj hl]
   have : j = 0 ∨ j = 1 ∨ j = 2 ∨ j = 3 ∨ j = 4 ∨ j = 5 ∨ j = 6 ∨ j = 7 ∨ j = 8 ∨ j = 10 ∨ j = 11 ∨ j = 13 ∨ j = 14 ∨ j = 15:=by omega
   rcases this with rfl | rfl | rfl | rfl | rfl | rfl | rfl | rfl | rfl | rfl | rfl | rfl | rfl | rfl <;> rfl
 ·rw [zsB _ (by decide)]
  rw [zs7 _ (by decide)] at e
  exact h.x15 e
theorem RgF.call1 (h : RgF w1 wv ways o L d X g1 g2 t u w) (hd : d 3 = false) (_hp : d 2 = true) {c : Nat} (hc : (c : Int) < 3) {w' : World} (hD : Ds w1 wv ways w') (hg : w.grownBy w' (some w1.heap.size)) : RgF w1 wv ways o L (updH d 3 true) (updX X 3 (.int .i64 (c : Int))) g1 g2 c u w':=by
 have n4:=h.no (j:=4) (k:=3) (by decide) hd
 have n5:=h.no (j:=5) (k:=4) (by decide) n4
 have n6:=h.no (j:=6) (k:=5) (by decide) n5
 have n8:=h.no (j:=8) (k:=6) (by decide) n6
 have n14:=h.no (j:=14) (k:=8) (by decide) n8
 have n15:=h.no (j:=15) (k:=14) (by decide) n14
 refine ⟨hD,hc,h.u4,fun e => ?_,fun e => ?_,fun j hj hl => ?_,fun e => ?_,h.cl2 3 (fun k hk => by simp [zsA] at hk)⟩
 ·rw [zs7 _ (by decide)] at e
  exact ⟨zsJ hg (h.p1 e).1 (h.p1 e).2,(h.p1 e).2⟩
 ·rw [zs7 _ (by decide)] at e
  exact ⟨zsJ hg (h.p2 e).1 (h.p2 e).2,(h.p2 e).2⟩
 ·by_cases h1 : j = 3
  ·subst h1; rw [zsD]; rfl
  ·rw [zsB _ h1]
   rw [zs7 _ h1] at hj
   have k4 : ¬ j = 4:=fun e => by rw [e,n4] at hj; cases hj
   have k5 : ¬ j = 5:=fun e => by rw [e,n5] at hj; cases hj
   have k6 : ¬ j = 6:=fun e => by rw [e,n6] at hj; cases hj
   have k8 : ¬ j = 8:=fun e => by rw [e,n8] at hj; cases hj
   have k14 : ¬ j = 14:=fun e => by rw [e,n14] at hj; cases hj
   have k15 : ¬ j = 15:=fun e => by rw [e,n15] at hj; cases hj
   rw [h.val j hj hl]
   have : j = 0 ∨ j = 1 ∨ j = 2 ∨ j = 7 ∨ j = 9 ∨ j = 10 ∨ j = 11 ∨ j = 12 ∨ j = 13:=by omega
   rcases this with rfl | rfl | rfl | rfl | rfl | rfl | rfl | rfl | rfl <;> rfl
 ·rw [zsB _ (by decide)]
  rw [zs7 _ (by decide)] at e
  exact h.x15 e
theorem RgF.call2 (h : RgF w1 wv ways o L d X g1 g2 t u w) (hd : d 11 = false) (hp : d 3 = true) {c : Nat} (hc : (c : Int) < 4) {w' : World} (hD : Ds w1 wv ways w') (hg : w.grownBy w' (some w1.heap.size)) : RgF w1 wv ways o L (updH d 11 true) (updX X 11 (.int .i64 (c : Int))) g1 g2 t c w':=by
 have n12:=h.no (j:=12) (k:=11) (by decide) hd
 have n13:=h.no (j:=13) (k:=12) (by decide) n12
 have n14:=h.no (j:=14) (k:=13) (by decide) n13
 have n15:=h.no (j:=15) (k:=14) (by decide) n14
 refine ⟨hD,h.t3,hc,fun e => ?_,fun e => ?_,fun j hj hl => ?_,fun e => ?_,h.cl2 11 (fun k hk => by have : k = 3:=(by simpa [zsA] using hk); rw [this]; exact hp)⟩
 ·rw [zs7 _ (by decide)] at e
  exact ⟨zsJ hg (h.p1 e).1 (h.p1 e).2,(h.p1 e).2⟩
 ·rw [zs7 _ (by decide)] at e
  exact ⟨zsJ hg (h.p2 e).1 (h.p2 e).2,(h.p2 e).2⟩
 ·by_cases h1 : j = 11
  ·subst h1; rw [zsD]; rfl
  ·rw [zsB _ h1]
   rw [zs7 _ h1] at hj
   have k12 : ¬ j = 12:=fun e => by rw [e,n12] at hj; cases hj
   have k13 : ¬ j = 13:=fun e => by rw [e,n13] at hj; cases hj
   have k14 : ¬ j = 14:=fun e => by rw [e,n14] at hj; cases hj
   have k15 : ¬ j = 15:=fun e => by rw [e,n15] at hj; cases hj
   rw [h.val j hj hl]
   have : j = 0 ∨ j = 1 ∨ j = 2 ∨ j = 3 ∨ j = 4 ∨ j = 5 ∨ j = 6 ∨ j = 7 ∨ j = 8 ∨ j = 9 ∨ j = 10:=by omega
   rcases this with rfl | rfl | rfl | rfl | rfl | rfl | rfl | rfl | rfl | rfl | rfl <;> rfl
 ·rw [zsB _ (by decide)]
  rw [zs7 _ (by decide)] at e
  exact h.x15 e
theorem zs5 (listed : Array Bool) {i : Nat} (h : i < listed.size) : (fun j => (listed.setIfInBounds i true).getD j false) = updH (fun j => listed.getD j false) i true:=by
 funext j
 by_cases hj : j = i
 ·subst hj
  rw [zsF]
  simp [h]
 ·rw [zs7 _ hj]
  exact getD_set_ne false (fun e => hj e.symm)
end Go.Proofs.YtfpgjkbjbbgciaaGreatDoor
namespace Go.Proofs.YtfpgjkbjbbgciaaGreatDoor
open Go.RowKit Sp
attribute [local go_sem ↓] Go.wp_at_zero Go.wp_at_succ
theorem zs9 {P : Program} {ops : Array Oper} {Q : Exit → Act → World → Prop} {i : Nat} {oi : Oper} {K : Act → World → Prop} {a : Act} {w w2 : World} {v : Value} (hoi : ops[i]? = some oi) (hg : oi.guard = none) (hrun : (execOp a.eval oi).run P w = .ok (.value v) w2) (hK : K (a.put oi.dst v) w2) : wpOp P ops Q i K a w:=by
 unfold wpOp
 simp only [hoi]
 rw [if_pos (by simp [Region.wanted,hg])]
 left
 unfold Oper.wp
 rw [hrun]
 exact hK
theorem zsL {P : Program} {ops : Array Oper} {Q : Exit → Act → World → Prop} {i : Nat} {oi : Oper} {K : Act → World → Prop} {a : Act} {w : World} {f : FuncId} {av : Array Value} {R : Ending → World → Prop} (hoi : ops[i]? = some oi) (hg : oi.guard = none) (hrun : (execOp a.eval oi).run P w = .ok (.enter f av) w) (hC : Calls P f av w R) (hK : ∀ e w2,R e w2 → ∃ v,e = .returned v ∧ K (a.put oi.dst v) w2) : wpOp P ops Q i K a w:=by
 unfold wpOp
 simp only [hoi]
 rw [if_pos (by simp [Region.wanted,hg])]
 left
 unfold Oper.wp
 rw [hrun]
 refine hC.mono fun e w2 h => ?_
 obtain ⟨v,rfl,hk⟩:=hK e w2 h
 exact hk
theorem zs6 {ops : Array Oper} {md : Region.Mode} {listed : Array Bool} {i : Nat} (hr : i ∈ Region.ready md ops listed) {oi : Oper} (hoi : ops[i]? = some oi) {e : Edge} (he : e ∈ oi.after) (hb : Region.binds md e = true) : listed.getD e.on false = true:=by
 obtain ⟨_,o,ho,h⟩:=mem_ready.1 hr
 rw [hoi] at ho
 cases ho
 exact h e he hb
theorem zs8 {ops : Array Oper} {md : Region.Mode} {listed : Array Bool} (hr : Region.ready md ops listed = []) (hs : listed.size = ops.size) {i : Nat} {oi : Oper} (hoi : ops[i]? = some oi) (hall : ∀ e ∈ oi.after,Region.binds md e = true → listed.getD e.on false = true) : listed.getD i false = true:=by
 cases hx : listed.getD i false with
 | true => rfl
 | false =>
  have hlt : i < listed.size:=by
   have:=(Array.getElem?_eq_some_iff.1 hoi).1
   omega
  have : i ∈ Region.ready md ops listed:=mem_ready.2 ⟨by simpa [hlt] using hx,oi,hoi,hall⟩
  rw [hr] at this
  cases this
def RgI (cv iv : Value) (wo : Option Addr) (wcap : Nat) (ways : List Int) (n : Int) (s : ByteArray) (x y z : Int) (w1 : World) (o L : ByteArray) (k : Nat) (listed : Array Bool) (a' : Act) (w' : World) : Prop:=listed.size = 16 ∧ ∃ (X : Nat → Value) (g1 g2 t u : Nat) (x42 x43 x44 x45 x46 x47 x48 x49 x50 x51 x52 x53 x54 x55 x56 x57 x58 x59 x60 x61 x62 x63 x79 x80 x81 x82 x83 x84 : Value),a' = ⟨List.toArray (cv :: .slice wo ways.length wcap :: iv :: .int .i64 n :: undef :: undef :: undef :: undef :: .bool false :: .string s :: .int .i64 x :: .int .i64 y :: .int .i64 z :: .pointer (some ⟨w1.heap.size,0,none⟩) :: X 15 :: .int .i64 ((k : Int) + 1) :: .int .i64 (k : Int) :: .string L :: undef :: undef :: undef :: undef :: undef :: undef :: undef :: undef :: undef :: undef :: undef :: undef :: undef :: undef :: .tuple #[.string s,.int .i64 x,.int .i64 y,.int .i64 z] :: cv :: .tuple #[.string s,.int .i64 x,.int .i64 y,.int .i64 z] :: .string s :: .int .i64 x :: .int .i64 y :: .int .i64 z :: .slice wo ways.length wcap :: .agg #[.slice wo ways.length wcap,.int .i64 0] :: .pointer (some ⟨w1.heap.size,0,none⟩) :: x42 :: x43 :: x44 :: x45 :: x46 :: x47 :: x48 :: x49 :: x50 :: x51 :: x52 :: x53 :: x54 :: x55 :: x56 :: x57 :: x58 :: x59 :: x60 :: x61 :: x62 :: x63 :: X 0 :: X 1 :: X 2 :: X 3 :: X 4 :: X 5 :: X 6 :: X 7 :: X 8 :: X 9 :: X 10 :: X 11 :: X 12 :: X 13 :: X 14 :: x79 :: x80 :: x81 :: x82 :: x83 :: x84 :: undef :: undef :: undef :: undef :: undef :: undef :: undef :: undef :: undef :: undef :: undef :: undef :: undef :: undef :: undef :: undef :: undef :: undef :: undef :: undef :: undef :: undef :: undef :: undef :: undef :: undef :: undef :: undef :: undef :: undef :: undef :: undef :: undef :: undef :: undef :: undef :: undef :: undef :: undef :: undef :: undef :: undef :: undef :: undef :: undef :: undef :: undef :: undef :: undef :: undef :: undef :: undef :: undef :: undef :: undef :: undef :: undef :: undef :: undef :: undef :: undef :: undef :: undef :: []),[]⟩ ∧ RgF w1 (.slice wo ways.length wcap) ways o L (fun j => listed.getD j false) X g1 g2 t u w'
def ztu (w1 : World) (s : ByteArray) (wv : Value) (ways : List Int) (t14 t15 t16 : Value) (wr : World) : Prop:=∃ (o : ByteArray) (f k kd : Nat),t14 = .string o ∧ t15 = .int .i64 (f : Int) ∧ t16 = .int .i64 (k : Int) ∧ (SpGo s k f o ∨ (k = s.size + 1 ∧ ztg s o)) ∧ DiM w1.heap.size wr w1.heap.size wv ways kd ∧ Below w1.heap.size w1 wr
theorem hid1 {p : Prop} (h : p) : Hid p:=h
def ztj : ByteArray:=⟨#[102,117,110,99,32,102,10,119,114,105,116,101,32,114,48,10,98,97,99,107]⟩
def zsC : Mc:=runS (zbW ((lines ztj).map say)) 5 (zb9 ((lines ztj).map say) [])
theorem zte : zd1 ztj = (0,0):=by kernel_rfl
theorem zsK : zsC.steps = 2 ∧ zsC.fin = 2:=⟨by kernel_rfl,by kernel_rfl⟩
theorem zsM (W : World) (hW : LibW W) : Calls Tryz.prog 18 #[.string ⟨#[102,117,110,99,32,102,10,119,114,105,116,101,32,114,48,10,98,97,99,107]⟩,.slice none 0 0,.int .i64 5] W (zdc W ⟨zsC,zsC.line,0,0⟩):=by
 have:=zme ztj W hW none 0 5 [] (by decide) ⟨none,0,rfl,Nat.le_refl _,fun h => by simp at h⟩ (Nat.zero_le _)
 unfold zew at this
 rw [if_neg (by simp [zte]),if_neg (by omega)] at this
 exact this
theorem ztv (cv wv iv : Value) (ways inp : List Int) (n : Int) (a : Nat) (ha : a < 4000) (w : World) (hw : LibW w)
  (hcnt : Calls Tryz.prog 31 #[cv] w (zkc w)) (hwv : SlB w w.heap.size wv ways) (hwl : ways.length ≤ 9223372036854775807) (hwn : ∀ x ∈ ways,i64 x)
  (hp : ∀ W,Calls Tryz.prog 37 #[.int .i64 n,.int .i64 4000] W fun e w' => e = .returned (.int .i64 (a : Int)) ∧ w' = W)
  (htr : ∀ (s : ByteArray) (W : World) (k : Int),LibW W → Below w.heap.size w W → s.size ≤ 100000000 → Calls Tryz.prog 18 #[.string s,iv,.int .i64 k] W (zdc W (zew s inp k))) :
  Calls Tryz.prog 14 #[cv,wv,iv,.int .i64 n] w fun e w' => e = .returned (.bool true) ∧ Below w.heap.size w w':=by
 go_enter Tryz.func14,Tryz.ntmps14
 go_wp2_with (first
  | (go_at_call 31; (with_reducible refine hcnt.mono ?_); rintro e w1 ⟨G,x,y,z,rfl,hG,hG0,hGl,hGs,hb1⟩; refine Hid.out ?_))
 unfold Hid
 have hR:=hG.read hG0 (by omega)
 have hln:=Wrote.lnb hG (by omega)
 have hsp : ∀ o,(lines o).map say = (lines (ba (zdh G))).map say → zd1 o = if 4000 < o.size ∨ 300 < (lines o).length then (6,0) else (0,0):=fun o ho => Wrote.spelled hG hG0 (by omega) ho
 generalize ba (zdh G) = s at hGs hR hln hsp ⊢
 have D0:=DiM.new (hwv.mono hb1) hwl hwn
 obtain ⟨wo,wcap,hwe,_,_⟩:=hwv
 subst hwe
 clear hG hG0 hGl hcnt
 go_wp2_with fail
 go_loopw [14,15,16] (fun t14 t15 t16 wr => ztu w1 s (.slice wo ways.length wcap) ways t14 t15 t16 wr) (fun _ _ t16 _ => s.size + 1 - (intOf t16).toNat)
 case atStart => exact ⟨⟨#[]⟩,0,0,0,rfl,rfl,rfl,.inl (SpGo.start s),D0,(Below.refl _ _).alloc (Nat.le_refl _) _⟩
 case round =>
  clear D0
  obtain ⟨o,f,k,kd,rfl,rfl,rfl,hS,D,hb⟩:=hrel
  by_cases hk : k ≤ s.size
  ·have hS2 : SpGo s k f o:=by
    rcases hS with h | ⟨h,_⟩
    ·exact h
    ·omega
   clear hS
   have hfk : f ≤ k:=by obtain ⟨_,_,_,_,h,_⟩:=hS2; exact h
   have hoz : o.size ≤ 7 * f:=by obtain ⟨_,_,_,_,_,_,_,_,h⟩:=hS2; exact h
   have hHS : Hid (SpGo s k f o):=hS2
   clear hS2
   have hkI : (k : Int) ≤ (s.size : Int):=by omega
   have hk0 : (0 : Int) ≤ (k : Int):=by omega
   have hf0 : (0 : Int) ≤ (f : Int):=by omega
   have hfI : (f : Int) ≤ (k : Int):=by omega
   have hLz : (s.extract f k).size ≤ 5400000:=by rw [ByteArray.size_extract]; omega
   have hD : Ds w1 (.slice wo ways.length wcap) ways wr:=⟨⟨kd,D⟩,hb⟩
   have hn0 : ¬ wr.heap.size = w1.heap.size:=Nat.ne_of_gt hD.lt
   have hn1 : ¬ wr.heap.size + 1 = w1.heap.size:=Nat.ne_of_gt (Nat.lt_succ_of_lt hD.lt)
   refine wp_seq_k fun K1 h1 => ?_
   have h1b:=hid1 h1
   clear h1
   go_wp2_with fail
   refine (Hid.out2 h1b) _ _ ?_
   clear h1b K1
   refine wp_seq_k fun K2 h2 => ?_
   refine wp_block ?_
   refine wp_seq_k fun K3 h3 => ?_
   have join : (k < s.size → bt s k = 10) → ∀ (x48 x49 x50 x51 x52 x53 x54 x55 x56 x57 : Value),K3 ⟨List.toArray (cv :: .slice wo ways.length wcap :: iv :: .int .i64 n :: undef :: undef :: undef :: undef :: .bool false :: .string s :: .int .i64 x :: .int .i64 y :: .int .i64 z :: .pointer (some ⟨w1.heap.size,0,none⟩) :: .string o :: .int .i64 (f : Int) :: .int .i64 (k : Int) :: u17 :: undef :: undef :: undef :: undef :: undef :: undef :: undef :: undef :: undef :: undef :: undef :: undef :: undef :: undef :: .tuple #[.string s,.int .i64 x,.int .i64 y,.int .i64 z] :: cv :: .tuple #[.string s,.int .i64 x,.int .i64 y,.int .i64 z] :: .string s :: .int .i64 x :: .int .i64 y :: .int .i64 z :: .slice wo ways.length wcap :: .agg #[.slice wo ways.length wcap,.int .i64 0] :: .pointer (some ⟨w1.heap.size,0,none⟩) :: .int .i64 (k : Int) :: .string s :: .int .i64 (s.size : Int) :: .bool true :: u46 :: u47 :: x48 :: x49 :: x50 :: x51 :: x52 :: x53 :: x54 :: x55 :: x56 :: x57 :: u58 :: u59 :: u60 :: u61 :: u62 :: u63 :: u64 :: u65 :: u66 :: u67 :: u68 :: u69 :: u70 :: u71 :: u72 :: u73 :: u74 :: u75 :: u76 :: u77 :: u78 :: u79 :: u80 :: u81 :: u82 :: u83 :: u84 :: undef :: undef :: undef :: undef :: undef :: undef :: undef :: undef :: undef :: undef :: undef :: undef :: undef :: undef :: undef :: undef :: undef :: undef :: undef :: undef :: undef :: undef :: undef :: undef :: undef :: undef :: undef :: undef :: undef :: undef :: undef :: undef :: undef :: undef :: undef :: undef :: undef :: undef :: undef :: undef :: undef :: undef :: undef :: undef :: undef :: undef :: undef :: undef :: undef :: undef :: undef :: undef :: undef :: undef :: undef :: undef :: undef :: undef :: undef :: undef :: undef :: undef :: undef :: []),[]⟩ wr:=by
    intro hcase x48 x49 x50 x51 x52 x53 x54 x55 x56 x57
    refine h3 _ _ ?_
    clear h3 K3
    go_wp2_with fail
    generalize hLe : s.extract f k = L at hLz ⊢
    refine zqz (fun a' W => ∃ (t u : Nat) (x42 x43 x44 x45 x46 x47 x48 x49 x50 x51 x52 x53 x54 x55 x56 x57 x58 x59 x60 x61 x62 x63 x64 x65 x66 x67 x68 x69 x70 x71 x72 x73 x74 x75 x76 x77 x78 x79 x80 x81 x82 x83 x84 : Value),a' = ⟨List.toArray (cv :: .slice wo ways.length wcap :: iv :: .int .i64 n :: undef :: undef :: undef :: undef :: .bool false :: .string s :: .int .i64 x :: .int .i64 y :: .int .i64 z :: .pointer (some ⟨w1.heap.size,0,none⟩) :: .string (o ++ preB t ++ L ++ sufB u) :: .int .i64 ((k : Int) + 1) :: .int .i64 (k : Int) :: .string L :: undef :: undef :: undef :: undef :: undef :: undef :: undef :: undef :: undef :: undef :: undef :: undef :: undef :: undef :: .tuple #[.string s,.int .i64 x,.int .i64 y,.int .i64 z] :: cv :: .tuple #[.string s,.int .i64 x,.int .i64 y,.int .i64 z] :: .string s :: .int .i64 x :: .int .i64 y :: .int .i64 z :: .slice wo ways.length wcap :: .agg #[.slice wo ways.length wcap,.int .i64 0] :: .pointer (some ⟨w1.heap.size,0,none⟩) :: x42 :: x43 :: x44 :: x45 :: x46 :: x47 :: x48 :: x49 :: x50 :: x51 :: x52 :: x53 :: x54 :: x55 :: x56 :: x57 :: x58 :: x59 :: x60 :: x61 :: x62 :: x63 :: x64 :: x65 :: x66 :: x67 :: x68 :: x69 :: x70 :: x71 :: x72 :: x73 :: x74 :: x75 :: x76 :: x77 :: x78 :: x79 :: x80 :: x81 :: x82 :: x83 :: x84 :: undef :: undef :: undef :: undef :: undef :: undef :: undef :: undef :: undef :: undef :: undef :: undef :: undef :: undef :: undef :: undef :: undef :: undef :: undef :: undef :: undef :: undef :: undef :: undef :: undef :: undef :: undef :: undef :: undef :: undef :: undef :: undef :: undef :: undef :: undef :: undef :: undef :: undef :: undef :: undef :: undef :: undef :: undef :: undef :: undef :: undef :: undef :: undef :: undef :: undef :: undef :: undef :: undef :: undef :: undef :: undef :: undef :: undef :: undef :: undef :: undef :: undef :: undef :: []),[]⟩ ∧ Ds w1 (.slice wo ways.length wcap) ways W) ?_ ?_
    rotate_left
    ·clear hp htr hsp hln hR hwl hHS hw hb1 hcase h2
     refine wp_region_any (by kernel_rfl) ?_
     refine ztd (RgI cv iv wo wcap ways n s x y z w1 o L k) ?_ ?_ _ _ _ _ (by decide) ?_
     ·rintro listed i a2 w2 ⟨hsz,X,g1,g2,t,u,x42,x43,x44,x45,x46,x47,x48,x49,x50,x51,x52,x53,x54,x55,x56,x57,x58,x59,x60,x61,x62,x63,x79,x80,x81,x82,x83,x84,rfl,hF⟩ hr
      have hun:=(mem_ready.1 hr).1
      have hi16 : i < 16:=by
       obtain ⟨_,oi,hoi,_⟩:=mem_ready.1 hr
       exact (Array.getElem?_eq_some_iff.1 hoi).1
      have hdi : (fun j => listed.getD j false) i = false:=by
       have : i < listed.size:=by omega
       simpa [this] using hun
      have hi : i = 0 ∨ i = 1 ∨ i = 2 ∨ i = 3 ∨ i = 4 ∨ i = 5 ∨ i = 6 ∨ i = 7 ∨ i = 8 ∨ i = 9 ∨ i = 10 ∨ i = 11 ∨ i = 12 ∨ i = 13 ∨ i = 14 ∨ i = 15:=by omega
      rcases hi with rfl | rfl | rfl | rfl | rfl | rfl | rfl | rfl | rfl | rfl | rfl | rfl | rfl | rfl | rfl | rfl
      ·have z6:=hF.no (j:=6) (k:=0) (by decide) hdi
       have z8:=hF.no (j:=8) (k:=6) (by decide) z6
       have z14:=hF.no (j:=14) (k:=8) (by decide) z8
       have z15:=hF.no (j:=15) (k:=14) (by decide) z14
       have e15:=hF.x15 z15
       refine zs9 (v:=X 15) (w2:=w2) rfl rfl rfl ?_
       refine ⟨by simpa using hsz,updX X 0 (X 15),g1,g2,t,u,_,_,_,_,_,_,_,_,_,_,_,_,_,_,_,_,_,_,_,_,_,_,_,_,_,_,_,_,rfl,?_⟩
       rw [zs5 listed (by omega)]
       exact hF.put 0 (fun j hj => by simp [zsA] at hj) (by decide) (by decide) e15
      ·refine zs9 (v:=.slice (some ⟨w2.heap.size,0,none⟩) 3 3) (w2:=w2.alloc preO) rfl rfl (by go_simp) ?_
       refine ⟨by simpa using hsz,updX X 1 (.slice (some ⟨w2.heap.size,0,none⟩) 3 3),w2.heap.size,g2,t,u,_,_,_,_,_,_,_,_,_,_,_,_,_,_,_,_,_,_,_,_,_,_,_,_,_,_,_,_,rfl,?_⟩
       rw [zs5 listed (by omega)]
       exact hF.alloc1 hdi
      ·refine zs9 (v:=.pointer (some ⟨w1.heap.size,0,none⟩)) (w2:=w2) rfl rfl rfl ?_
       refine ⟨by simpa using hsz,updX X 2 (.pointer (some ⟨w1.heap.size,0,none⟩)),g1,g2,t,u,_,_,_,_,_,_,_,_,_,_,_,_,_,_,_,_,_,_,_,_,_,_,_,_,_,_,_,_,rfl,?_⟩
       rw [zs5 listed (by omega)]
       exact hF.put 2 (fun j hj => by simp [zsA] at hj) (by decide) (by decide) rfl
      ·have q2 : listed.getD 2 false = true:=zs6 hr (oi:=_) rfl (e:=⟨2,.data⟩) (by simp) rfl
       have e2 : X 2 = .pointer (some ⟨w1.heap.size,0,none⟩):=hF.val 2 q2 (by decide)
       refine zsL (f:=41) (av:=#[.pointer (some ⟨w1.heap.size,0,none⟩),.int .i64 3]) rfl rfl (by go_simp) (hF.ds.next 3 (by omega)) ?_
       rintro e w3 ⟨c,rfl,hc,hD3,hg3⟩
       refine ⟨_,rfl,?_⟩
       refine ⟨by simpa using hsz,updX X 3 (.int .i64 (c : Int)),g1,g2,c,u,_,_,_,_,_,_,_,_,_,_,_,_,_,_,_,_,_,_,_,_,_,_,_,_,_,_,_,_,rfl,?_⟩
       rw [zs5 listed (by omega)]
       exact hF.call1 hdi q2 hc hD3 hg3
      ·have q1 : listed.getD 1 false = true:=zs6 hr (oi:=_) rfl (e:=⟨1,.data⟩) (by simp) rfl
       have q3 : listed.getD 3 false = true:=zs6 hr (oi:=_) rfl (e:=⟨3,.data⟩) (by simp) rfl
       have e1 : X 1 = .slice (some ⟨g1,0,none⟩) 3 3:=hF.val 1 q1 (by decide)
       have e3 : X 3 = .int .i64 (t : Int):=hF.val 3 q3 (by decide)
       have hb0 : (0 : Int) ≤ (t : Int):=by omega
       have hb1 : (t : Int) < 3:=hF.t3
       refine zs9 (v:=.pointer (some ⟨g1,t,none⟩)) (w2:=w2) rfl rfl (by go_simp) ?_
       refine ⟨by simpa using hsz,updX X 4 (.pointer (some ⟨g1,t,none⟩)),g1,g2,t,u,_,_,_,_,_,_,_,_,_,_,_,_,_,_,_,_,_,_,_,_,_,_,_,_,_,_,_,_,rfl,?_⟩
       rw [zs5 listed (by omega)]
       exact hF.put 4 (fun j hj => by simp [zsA] at hj; rcases hj with rfl | rfl <;> first | exact q1 | exact q3) (by decide) (by decide) rfl
      ·have q4 : listed.getD 4 false = true:=zs6 hr (oi:=_) rfl (e:=⟨4,.data⟩) (by simp) rfl
       have e4 : X 4 = .pointer (some ⟨g1,t,none⟩):=hF.val 4 q4 (by decide)
       have q1 : listed.getD 1 false = true:=hF.cl 4 1 (by decide) q4
       have hc:=zth (hF.p1 q1).1 hF.t3
       refine zs9 (v:=.string (preB t)) (w2:=w2) rfl rfl (by go_simp) ?_
       refine ⟨by simpa using hsz,updX X 5 (.string (preB t)),g1,g2,t,u,_,_,_,_,_,_,_,_,_,_,_,_,_,_,_,_,_,_,_,_,_,_,_,_,_,_,_,_,rfl,?_⟩
       rw [zs5 listed (by omega)]
       exact hF.put 5 (fun j hj => by simp [zsA] at hj; subst hj <;> first | exact q4) (by decide) (by decide) rfl
      ·have q0 : listed.getD 0 false = true:=zs6 hr (oi:=_) rfl (e:=⟨0,.data⟩) (by simp) rfl
       have q5 : listed.getD 5 false = true:=zs6 hr (oi:=_) rfl (e:=⟨5,.data⟩) (by simp) rfl
       have e0 : X 0 = .string o:=hF.val 0 q0 (by decide)
       have e5 : X 5 = .string (preB t):=hF.val 5 q5 (by decide)
       have s1:=zsH t
       have s2:=zsI u
       have hz : ¬ 9223372036854775807 < o.size + (preB t).size:=by omega
       refine zs9 (v:=.string (o ++ preB t)) (w2:=w2) rfl rfl (by go_simp) ?_
       refine ⟨by simpa using hsz,updX X 6 (.string (o ++ preB t)),g1,g2,t,u,_,_,_,_,_,_,_,_,_,_,_,_,_,_,_,_,_,_,_,_,_,_,_,_,_,_,_,_,rfl,?_⟩
       rw [zs5 listed (by omega)]
       exact hF.put 6 (fun j hj => by simp [zsA] at hj; rcases hj with rfl | rfl <;> first | exact q0 | exact q5) (by decide) (by decide) rfl
      ·refine zs9 (v:=.string L) (w2:=w2) rfl rfl rfl ?_
       refine ⟨by simpa using hsz,updX X 7 (.string L),g1,g2,t,u,_,_,_,_,_,_,_,_,_,_,_,_,_,_,_,_,_,_,_,_,_,_,_,_,_,_,_,_,rfl,?_⟩
       rw [zs5 listed (by omega)]
       exact hF.put 7 (fun j hj => by simp [zsA] at hj) (by decide) (by decide) rfl
      ·have q6 : listed.getD 6 false = true:=zs6 hr (oi:=_) rfl (e:=⟨6,.data⟩) (by simp) rfl
       have q7 : listed.getD 7 false = true:=zs6 hr (oi:=_) rfl (e:=⟨7,.data⟩) (by simp) rfl
       have e6 : X 6 = .string (o ++ preB t):=hF.val 6 q6 (by decide)
       have e7 : X 7 = .string L:=hF.val 7 q7 (by decide)
       have s1:=zsH t
       have s2:=zsI u
       have hz : ¬ 9223372036854775807 < o.size + (preB t).size + L.size:=by omega
       refine zs9 (v:=.string (o ++ preB t ++ L)) (w2:=w2) rfl rfl (by go_simp) ?_
       refine ⟨by simpa using hsz,updX X 8 (.string (o ++ preB t ++ L)),g1,g2,t,u,_,_,_,_,_,_,_,_,_,_,_,_,_,_,_,_,_,_,_,_,_,_,_,_,_,_,_,_,rfl,?_⟩
       rw [zs5 listed (by omega)]
       exact hF.put 8 (fun j hj => by simp [zsA] at hj; rcases hj with rfl | rfl <;> first | exact q6 | exact q7) (by decide) (by decide) rfl
      ·refine zs9 (v:=.slice (some ⟨w2.heap.size,0,none⟩) 4 4) (w2:=w2.alloc sufO) rfl rfl (by go_simp) ?_
       refine ⟨by simpa using hsz,updX X 9 (.slice (some ⟨w2.heap.size,0,none⟩) 4 4),g1,w2.heap.size,t,u,_,_,_,_,_,_,_,_,_,_,_,_,_,_,_,_,_,_,_,_,_,_,_,_,_,_,_,_,rfl,?_⟩
       rw [zs5 listed (by omega)]
       exact hF.alloc2 hdi
      ·refine zs9 (v:=.pointer (some ⟨w1.heap.size,0,none⟩)) (w2:=w2) rfl rfl rfl ?_
       refine ⟨by simpa using hsz,updX X 10 (.pointer (some ⟨w1.heap.size,0,none⟩)),g1,g2,t,u,_,_,_,_,_,_,_,_,_,_,_,_,_,_,_,_,_,_,_,_,_,_,_,_,_,_,_,_,rfl,?_⟩
       rw [zs5 listed (by omega)]
       exact hF.put 10 (fun j hj => by simp [zsA] at hj) (by decide) (by decide) rfl
      ·have q10 : listed.getD 10 false = true:=zs6 hr (oi:=_) rfl (e:=⟨10,.data⟩) (by simp) rfl
       have e10 : X 10 = .pointer (some ⟨w1.heap.size,0,none⟩):=hF.val 10 q10 (by decide)
       have q3 : listed.getD 3 false = true:=zs6 hr (oi:=_) rfl (e:=⟨3,.chain⟩) (by simp) rfl
       refine zsL (f:=41) (av:=#[.pointer (some ⟨w1.heap.size,0,none⟩),.int .i64 4]) rfl rfl (by go_simp) (hF.ds.next 4 (by omega)) ?_
       rintro e w3 ⟨c,rfl,hc,hD3,hg3⟩
       refine ⟨_,rfl,?_⟩
       refine ⟨by simpa using hsz,updX X 11 (.int .i64 (c : Int)),g1,g2,t,c,_,_,_,_,_,_,_,_,_,_,_,_,_,_,_,_,_,_,_,_,_,_,_,_,_,_,_,_,rfl,?_⟩
       rw [zs5 listed (by omega)]
       exact hF.call2 hdi q3 hc hD3 hg3
      ·have q9 : listed.getD 9 false = true:=zs6 hr (oi:=_) rfl (e:=⟨9,.data⟩) (by simp) rfl
       have q11 : listed.getD 11 false = true:=zs6 hr (oi:=_) rfl (e:=⟨11,.data⟩) (by simp) rfl
       have e9 : X 9 = .slice (some ⟨g2,0,none⟩) 4 4:=hF.val 9 q9 (by decide)
       have e11 : X 11 = .int .i64 (u : Int):=hF.val 11 q11 (by decide)
       have hb0 : (0 : Int) ≤ (u : Int):=by omega
       have hb1 : (u : Int) < 4:=hF.u4
       refine zs9 (v:=.pointer (some ⟨g2,u,none⟩)) (w2:=w2) rfl rfl (by go_simp) ?_
       refine ⟨by simpa using hsz,updX X 12 (.pointer (some ⟨g2,u,none⟩)),g1,g2,t,u,_,_,_,_,_,_,_,_,_,_,_,_,_,_,_,_,_,_,_,_,_,_,_,_,_,_,_,_,rfl,?_⟩
       rw [zs5 listed (by omega)]
       exact hF.put 12 (fun j hj => by simp [zsA] at hj; rcases hj with rfl | rfl <;> first | exact q9 | exact q11) (by decide) (by decide) rfl
      ·have q12 : listed.getD 12 false = true:=zs6 hr (oi:=_) rfl (e:=⟨12,.data⟩) (by simp) rfl
       have e12 : X 12 = .pointer (some ⟨g2,u,none⟩):=hF.val 12 q12 (by decide)
       have q9 : listed.getD 9 false = true:=hF.cl 12 9 (by decide) q12
       have hc:=zti (hF.p2 q9).1 hF.u4
       refine zs9 (v:=.string (sufB u)) (w2:=w2) rfl rfl (by go_simp) ?_
       refine ⟨by simpa using hsz,updX X 13 (.string (sufB u)),g1,g2,t,u,_,_,_,_,_,_,_,_,_,_,_,_,_,_,_,_,_,_,_,_,_,_,_,_,_,_,_,_,rfl,?_⟩
       rw [zs5 listed (by omega)]
       exact hF.put 13 (fun j hj => by simp [zsA] at hj; subst hj <;> first | exact q12) (by decide) (by decide) rfl
      ·have q8 : listed.getD 8 false = true:=zs6 hr (oi:=_) rfl (e:=⟨8,.data⟩) (by simp) rfl
       have q13 : listed.getD 13 false = true:=zs6 hr (oi:=_) rfl (e:=⟨13,.data⟩) (by simp) rfl
       have e8 : X 8 = .string (o ++ preB t ++ L):=hF.val 8 q8 (by decide)
       have e13 : X 13 = .string (sufB u):=hF.val 13 q13 (by decide)
       have s1:=zsH t
       have s2:=zsI u
       have hz : ¬ 9223372036854775807 < o.size + (preB t).size + L.size + (sufB u).size:=by omega
       refine zs9 (v:=.string (o ++ preB t ++ L ++ sufB u)) (w2:=w2) rfl rfl (by go_simp) ?_
       refine ⟨by simpa using hsz,updX X 14 (.string (o ++ preB t ++ L ++ sufB u)),g1,g2,t,u,_,_,_,_,_,_,_,_,_,_,_,_,_,_,_,_,_,_,_,_,_,_,_,_,_,_,_,_,rfl,?_⟩
       rw [zs5 listed (by omega)]
       exact hF.put 14 (fun j hj => by simp [zsA] at hj; rcases hj with rfl | rfl <;> first | exact q8 | exact q13) (by decide) (by decide) rfl
      ·have q14 : listed.getD 14 false = true:=zs6 hr (oi:=_) rfl (e:=⟨14,.data⟩) (by simp) rfl
       have e14 : X 14 = .string (o ++ preB t ++ L ++ sufB u):=hF.val 14 q14 (by decide)
       refine zs9 (v:=X 14) (w2:=w2) rfl rfl rfl ?_
       refine ⟨by simpa using hsz,updX X 15 (X 14),g1,g2,t,u,_,_,_,_,_,_,_,_,_,_,_,_,_,_,_,_,_,_,_,_,_,_,_,_,_,_,_,_,rfl,?_⟩
       rw [zs5 listed (by omega)]
       exact hF.put 15 (fun j hj => by simp [zsA] at hj; subst hj <;> first | exact q14) (by decide) (by decide) e14
     ·rintro listed a2 w2 ⟨hsz,X,g1,g2,t,u,x42,x43,x44,x45,x46,x47,x48,x49,x50,x51,x52,x53,x54,x55,x56,x57,x58,x59,x60,x61,x62,x63,x79,x80,x81,x82,x83,x84,rfl,hF⟩ hr
      have d0 : listed.getD 0 false = true:=zs8 hr hsz (oi:=_) rfl (fun e he _ => by simp at he)
      have d1 : listed.getD 1 false = true:=zs8 hr hsz (oi:=_) rfl (fun e he _ => by simp at he)
      have d2 : listed.getD 2 false = true:=zs8 hr hsz (oi:=_) rfl (fun e he _ => by simp at he)
      have d3 : listed.getD 3 false = true:=zs8 hr hsz (oi:=_) rfl (fun e he _ => by simp at he; (repeat' (rcases he with he | he)) <;> first | exact d2)
      have d4 : listed.getD 4 false = true:=zs8 hr hsz (oi:=_) rfl (fun e he _ => by simp at he; (repeat' (rcases he with he | he)) <;> first | exact d1 | exact d3)
      have d5 : listed.getD 5 false = true:=zs8 hr hsz (oi:=_) rfl (fun e he _ => by simp at he; (repeat' (rcases he with he | he)) <;> first | exact d4)
      have d6 : listed.getD 6 false = true:=zs8 hr hsz (oi:=_) rfl (fun e he _ => by simp at he; (repeat' (rcases he with he | he)) <;> first | exact d0 | exact d5)
      have d7 : listed.getD 7 false = true:=zs8 hr hsz (oi:=_) rfl (fun e he _ => by simp at he)
      have d8 : listed.getD 8 false = true:=zs8 hr hsz (oi:=_) rfl (fun e he _ => by simp at he; (repeat' (rcases he with he | he)) <;> first | exact d6 | exact d7)
      have d9 : listed.getD 9 false = true:=zs8 hr hsz (oi:=_) rfl (fun e he _ => by simp at he)
      have d10 : listed.getD 10 false = true:=zs8 hr hsz (oi:=_) rfl (fun e he _ => by simp at he)
      have d11 : listed.getD 11 false = true:=zs8 hr hsz (oi:=_) rfl (fun e he _ => by simp at he; (repeat' (rcases he with he | he)) <;> first | exact d10 | exact d3)
      have d12 : listed.getD 12 false = true:=zs8 hr hsz (oi:=_) rfl (fun e he _ => by simp at he; (repeat' (rcases he with he | he)) <;> first | exact d9 | exact d11)
      have d13 : listed.getD 13 false = true:=zs8 hr hsz (oi:=_) rfl (fun e he _ => by simp at he; (repeat' (rcases he with he | he)) <;> first | exact d12)
      have d14 : listed.getD 14 false = true:=zs8 hr hsz (oi:=_) rfl (fun e he _ => by simp at he; (repeat' (rcases he with he | he)) <;> first | exact d8 | exact d13)
      have d15 : listed.getD 15 false = true:=zs8 hr hsz (oi:=_) rfl (fun e he _ => by simp at he; (repeat' (rcases he with he | he)) <;> first | exact d0 | exact d1 | exact d2 | exact d3 | exact d4 | exact d5 | exact d6 | exact d7 | exact d8 | exact d9 | exact d10 | exact d11 | exact d12 | exact d13 | exact d14)
      have e15:=hF.val 15 d15 (by decide)
      rw [e15]
      unfold PCut
      exact ⟨t,u,x42,x43,x44,x45,x46,x47,x48,x49,x50,x51,x52,x53,x54,x55,x56,x57,x58,x59,x60,x61,x62,x63,X 0,X 1,X 2,X 3,X 4,X 5,X 6,X 7,X 8,X 9,X 10,X 11,X 12,X 13,X 14,x79,x80,x81,x82,x83,x84,rfl,hF.ds⟩
     ·refine ⟨by simp,fun j => match j with | 0 => u64 | 1 => u65 | 2 => u66 | 3 => u67 | 4 => u68 | 5 => u69 | 6 => u70 | 7 => u71 | 8 => u72 | 9 => u73 | 10 => u74 | 11 => u75 | 12 => u76 | 13 => u77 | 14 => u78 | 15 => .string o | _ => undef,0,0,0,0,_,_,_,_,_,_,_,_,_,_,_,_,_,_,_,_,_,_,_,_,_,_,_,_,_,_,_,_,rfl,?_⟩
      have hfa : ∀ j,(Array.replicate 16 false).getD j false = false:=fun j => by simp [Array.getD]
      refine ⟨hD.drew,by omega,by omega,fun e => ?_,fun e => ?_,fun j e => ?_,fun _ => rfl,fun j k _ e => ?_⟩
      all_goals exact absurd ((hfa _).symm.trans e) (by decide)
    rintro a' W ⟨t,u,x42,x43,x44,x45,x46,x47,x48,x49,x50,x51,x52,x53,x54,x55,x56,x57,x58,x59,x60,x61,x62,x63,x64,x65,x66,x67,x68,x69,x70,x71,x72,x73,x74,x75,x76,x77,x78,x79,x80,x81,x82,x83,x84,rfl,hDW⟩
    clear hD hn0 hn1
    have hz3 : ¬ 9223372036854775807 < o.size + (preB t).size + L.size + (sufB u).size + 1:=by
     have:=zsH t
     have:=zsI u
     omega
    obtain ⟨⟨kd2,D2⟩,hb2⟩:=hDW
    by_cases hlt : k < s.size
    ·have hltI : (k : Int) < (s.size : Int):=by omega
     have hcut : SpGo s (k + 1) (k + 1) (o ++ preB t ++ L ++ sufB u ++ (⟨#[10]⟩ : ByteArray)):=by
      obtain ⟨p,hp2,ep⟩:=ztb t
      obtain ⟨q,hq2,eq⟩:=ztc u
      rw [ep,eq,← hLe]
      exact (Hid.out2 hHS).cut hlt (hcase hlt) hp2 hq2
     go_wp2
     go_roundw
     case rel => exact ⟨_,k + 1,k + 1,kd2,rfl,by go_num,by go_num,.inl hcut,D2,hb2⟩
     case measure => simp [intOf]; omega
    ·have hltI : ¬ (k : Int) < (s.size : Int):=by omega
     have hke : k = s.size:=by omega
     have hend : ztg s (o ++ preB t ++ L ++ sufB u):=by
      obtain ⟨p,hp2,ep⟩:=ztb t
      obtain ⟨q,hq2,eq⟩:=ztc u
      rw [ep,eq,← hLe,hke]
      exact SpGo.last (by rw [← hke]; exact Hid.out2 hHS) hp2 hq2
     go_wp2
     go_roundw
     case rel => exact ⟨_,k + 1,k + 1,kd2,rfl,by go_num,by go_num,.inr ⟨by omega,hend⟩,D2,hb2⟩
     case measure => simp [intOf]; omega
   have joinH:=hid1 join
   clear join h3
   by_cases hlt : k < s.size
   ·have hltI : (k : Int) < (s.size : Int):=by omega
    have hc0 : 0 ≤ (s[k].toNat : Int):=by omega
    have hc1 : (s[k].toNat : Int) ≤ 255:=by have:=s[k].toNat_lt; omega
    have HE : Hid ((s[k].toNat : Int) = bt s k):=zr2 s k hlt
    by_cases h10 : ((s[k].toNat : Int) == 10) = true
    ·have hb10 : bt s k = 10:=by have:=HE.out; simp at h10; omega
     go_wp2_with fail
     exact (Hid.out2 joinH) (fun _ => hb10) _ _ _ _ _ _ _ _ _ _
    ·have h10' : ((s[k].toNat : Int) == 10) = false:=by simpa using h10
     clear joinH
     go_wp2
     go_roundw
     case rel => exact ⟨o,f,k + 1,kd,rfl,rfl,by go_num,.inl ((Hid.out2 hHS).on hlt (by have:=HE.out; simp at h10'; omega)),D,hb⟩
     case measure => simp [intOf]; omega
   ·have hltI : ¬ (k : Int) < (s.size : Int):=by omega
    go_wp2_with fail
    exact (Hid.out2 joinH) (fun h => absurd h hlt) _ _ _ _ _ _ _ _ _ _
  ·have hS2 : ztg s o:=by
    rcases hS with h | ⟨_,h⟩
    ·obtain ⟨_,_,_,_,_,h,_⟩:=h
     omega
    ·exact h
   clear hS D
   obtain ⟨Al,Dl,xl,pl,ql,hDe,hP,hQ,hll,ho,hs1,hs2⟩:=hS2
   obtain ⟨hsame,hlen⟩:=zsN hln hDe hP hQ hll
   rw [← ho] at hsame hlen
   have hRo:=hsp o hsame
   clear ho hDe hP hQ hll Al Dl xl pl ql hln hsp
   have hB:=hb1.trans (hb.mono hb1.size)
   have hk1:=zsE s wr (hw.below hB) (by omega) hR
   have hf:=fun W => zqc o W (by omega)
   unfold zrk at hf
   have hkI : ¬ (k : Int) ≤ (s.size : Int):=by omega
   by_cases hlong : 4000 < o.size ∨ 300 < (lines o).length
   ·rw [decide_eq_false (fun x => x hlong)] at hf
    have hk2 : ∀ W,LibW W → Calls Tryz.prog 32 #[.string o] W fun e w' => e = .returned (.bool true) ∧ Below W.heap.size W w':=fun W hW => zsE o W hW (by omega) hRo
    clear hsame hlen hRo hR hlong
    go_wp2_with (first
     | (go_at_call 32; first
         | ((with_reducible refine hk1.mono ?_); rintro e w4 ⟨rfl,hb4⟩; have hB4:=hB.trans (hb4.mono hB.size); have hk3:=hk2 w4 (hw.below hB4))
         | ((with_reducible refine hk3.mono ?_); rintro e w5 ⟨rfl,hb5⟩; have hB5:=hB4.trans (hb5.mono hB4.size)))
     | (go_at_call 33; (with_reducible refine (hf _).mono ?_); rintro e wz ⟨rfl,hwz⟩; subst hwz)
     | (go_at_call 18; refine Hid.out ?_))
    unfold Hid
    refine (zsM wz (hw.below hB5)).mono ?_
    rintro e w6 ⟨oo,no,co,rfl,_,hb6⟩
    dsimp only
    have hB6:=hB5.trans (hb6.mono hB5.size)
    have hln6:=zaK zsC (.slice oo no co) zsC.line
    have h16:=zbi zsC oo no co zsC.line
    have hr7:=zf2 (w:=w6) hln6
    have S7:=StIn.new hr7
    have hB7:=hB6.trans ((zbr w6 (zai zsC (.slice oo no co) zsC.line)).mono hB6.size)
    generalize zai zsC (.slice oo no co) zsC.line = ds at hln6 h16 hr7 S7 hB7
    have hi:=zby ds hln6
    have ht7:=zcx (W1:=w6) rfl ds hln6
    generalize hw7 : zeb w6 ds = w7 at hr7 S7 hB7
    unfold zeb at hw7
    have s0:=S7.c0
    have s29:=S7.c29
    rw [zsK.1] at s0
    rw [zsK.2] at s29
    clear hr7 S7 hk1 hk2 hk3 hf hp htr
    go_wp2_with (first
     | (refine wpList_store_mid rfl 34 _ _ rfl w6.heap.size 0 ds.toArray rfl rfl ht7 hi h16 ?_; rw [hw7]))
    go_ret
    exact ⟨rfl,hB7⟩
   ·rw [decide_eq_true hlong] at hf
    have hk2 : ∀ W,LibW W → Calls Tryz.prog 32 #[.string o] W fun e w' => e = .returned (.bool true) ∧ Below W.heap.size W w':=fun W hW => zsE o W hW (by omega) hRo
    rw [if_neg hlong] at hRo
    rw [if_neg (by omega)] at hR
    obtain ⟨F,hF⟩:=zjW s hR
    have K:=zqa hF inp a 0
    have hS : zew s inp (a : Int) = ⟨runS (zbW ((lines s).map say)) a (zb9 ((lines s).map say) inp),(runS (zbW ((lines s).map say)) a (zb9 ((lines s).map say) inp)).line,0,0⟩:=by
     unfold zew
     rw [if_neg (by simp [hR]),if_neg (by omega),Int.toNat_natCast]
    have hT : zew o inp (a : Int) = ⟨runS (zbW ((lines s).map say)) a (zb9 ((lines s).map say) inp),(runS (zbW ((lines s).map say)) a (zb9 ((lines s).map say) inp)).line,0,0⟩:=by
     unfold zew
     rw [if_neg (by simp [hRo]),if_neg (by omega),Int.toNat_natCast,hsame]
    rw [Nat.add_zero] at K
    generalize runS (zbW ((lines s).map say)) a (zb9 ((lines s).map say) inp) = M at K hS hT
    have hout : M.out.length ≤ 1048577:=by
     have:=K.few
     omega
    have htS : ∀ W,LibW W → Below w.heap.size w W → Calls Tryz.prog 18 #[.string s,iv,.int .i64 (a : Int)] W (zdc W ⟨M,M.line,0,0⟩):=fun W hW hB => by rw [← hS]; exact htr s W _ hW hB (by omega)
    have htO : ∀ W,LibW W → Below w.heap.size w W → Calls Tryz.prog 18 #[.string o,iv,.int .i64 (a : Int)] W (zdc W ⟨M,M.line,0,0⟩):=fun W hW hB => by rw [← hT]; exact htr o W _ hW hB (by omega)
    clear hsame hlen hRo hR hlong hF F K hS hT htr
    go_wp2_with (first
     | (go_at_call 32; first
         | ((with_reducible refine hk1.mono ?_); rintro e w4 ⟨rfl,hb4⟩; have hB4:=hB.trans (hb4.mono hB.size); have hk3:=hk2 w4 (hw.below hB4))
         | ((with_reducible refine hk3.mono ?_); rintro e w5 ⟨rfl,hb5⟩; have hB5:=hB4.trans (hb5.mono hB4.size)))
     | (go_at_call 33; (with_reducible refine (hf _).mono ?_); rintro e wz ⟨rfl,hwz⟩; subst hwz)
     | (go_at_call 18; refine Hid.out ?_))
    unfold Hid
    refine (zsM wz (hw.below hB5)).mono ?_
    rintro e w6 ⟨oo,no,co,rfl,_,hb6⟩
    dsimp only
    have hB6:=hB5.trans (hb6.mono hB5.size)
    have hln6:=zaK zsC (.slice oo no co) zsC.line
    have h16:=zbi zsC oo no co zsC.line
    have hr7:=zf2 (w:=w6) hln6
    have S7:=StIn.new hr7
    have hB7:=hB6.trans ((zbr w6 (zai zsC (.slice oo no co) zsC.line)).mono hB6.size)
    generalize zai zsC (.slice oo no co) zsC.line = ds at hln6 h16 hr7 S7 hB7
    have hi:=zby ds hln6
    have ht7:=zcx (W1:=w6) rfl ds hln6
    generalize hw7 : zeb w6 ds = w7 at hr7 S7 hB7
    unfold zeb at hw7
    have s0:=S7.c0
    have s29:=S7.c29
    rw [zsK.1] at s0
    rw [zsK.2] at s29
    have ht8:=htS w7 (hw.below hB7) hB7
    clear hr7 S7 hk1 hk2 hk3 hf
    go_wp2_with (first
     | (refine wpList_store_mid rfl 34 _ _ rfl w6.heap.size 0 ds.toArray rfl rfl ht7 hi h16 ?_; rw [hw7])
     | (go_at_call 37; (with_reducible refine (hp _).mono ?_); rintro e wx ⟨rfl,hwx⟩; subst hwx)
     | (go_at_call 18; refine Hid.out ?_))
    unfold Hid
    refine ht8.mono ?_
    rintro e w8 ⟨o1,n1,c1,rfl,hrow8,hb8⟩
    dsimp only at hrow8 ⊢
    have hB8:=hB7.trans (hb8.mono hB7.size)
    have hln8:=zaK M (.slice o1 n1 c1) M.line
    have h18:=zbi M o1 n1 c1 M.line
    have hr9:=zf2 (w:=w8) hln8
    have N9:=(SlN.of_row (_n:=0) hrow8).below (zbr w8 (zai M (.slice o1 n1 c1) M.line))
    have hB9:=hB8.trans ((zbr w8 (zai M (.slice o1 n1 c1) M.line)).mono hB8.size)
    have z9:=zmq w8 (zai M (.slice o1 n1 c1) M.line)
    generalize hds8 : zai M (.slice o1 n1 c1) M.line = ds8 at hln8 h18 hr9 N9 hB9 z9
    have hi8:=zby ds8 hln8
    have ht9:=zcx (W1:=w8) rfl ds8 hln8
    have ht10:=htO (zeb w8 ds8) (hw.below hB9) hB9
    generalize hw9 : zeb w8 ds8 = w9 at hr9 N9 hB9 ht10 z9
    unfold zeb at hw9
    clear ht8 htS htO hrow8 s0 s29 hp
    go_wp2_with (first
     | (refine wpList_store_mid rfl 34 _ _ rfl w8.heap.size 0 ds8.toArray rfl rfl ht9 hi8 h18 ?_; rw [hw9])
     | (go_at_call 18; refine Hid.out ?_))
    unfold Hid
    refine ht10.mono ?_
    rintro e w10 ⟨o2,n2,c2,rfl,hrow10,hb10⟩
    dsimp only at hrow10 ⊢
    have hB10:=hB9.trans (hb10.mono hB9.size)
    have hln10:=zaK M (.slice o2 n2 c2) M.line
    have h110:=zbi M o2 n2 c2 M.line
    have hr11:=zf2 (w:=w10) hln10
    have hb11:=hb10.trans ((zbr w10 (zai M (.slice o2 n2 c2) M.line)).mono hb10.size)
    have N11:=(SlN.of_row (_n:=0) hrow10).below (zbr w10 (zai M (.slice o2 n2 c2) M.line))
    have hB11:=hB10.trans ((zbr w10 (zai M (.slice o2 n2 c2) M.line)).mono hB10.size)
    have hss:=zkd _ M o1 o2 n1 n2 c1 c2 M.line (N9.below hb11) N11 hout
    have R9:=zcL hr9 hb11 (by rw [z9]; omega)
    generalize hds10 : zai M (.slice o2 n2 c2) M.line = ds10 at hln10 h110 hr11 hb11 N11 hB11 hss R9
    rw [hds8] at hss
    have hi10:=zby ds10 hln10
    have ht11:=zcx (W1:=w10) rfl ds10 hln10
    generalize hw11 : zeb w10 ds10 = w11 at hr11 hB11 hss R9
    unfold zeb at hw11
    have hid8 : (Tryz.prog.info? 34).map (·.size) = some ds8.length:=by rw [hln8]; exact Tryz.info34
    have hid10 : (Tryz.prog.info? 34).map (·.size) = some ds10.length:=by rw [hln10]; exact Tryz.info34
    have hu34 : Tryz.prog.underlying 34 = some (.struct _):=Tryz.underlying34
    clear ht10 hrow10 N9 N11 hds8 hds10 hr9 hb11
    go_wp2_with (first
     | (refine wpList_store_mid rfl 34 _ _ rfl w10.heap.size 0 ds10.toArray rfl rfl ht11 hi10 h110 ?_; rw [hw11])
     | (refine wpList_load_mid rfl 34 _ rfl w8.heap.size 0 rfl ds8 _ R9 hu34 rfl hid8 ?_)
     | (refine wpList_load_mid rfl 34 _ rfl w10.heap.size 0 rfl ds10 _ hr11 hu34 rfl hid10 ?_)
     | (go_at_call 35; refine Hid.out ?_))
    unfold Hid
    refine hss.mono ?_
    rintro e w12 ⟨rfl,hb12⟩
    dsimp only
    go_wp2
    go_ret
    exact ⟨rfl,hB11.trans (hb12.mono hB11.size)⟩
end Go.Proofs.YtfpgjkbjbbgciaaGreatDoor
namespace Go.Proofs.YtfpgjkbjbbgciaaGreatDoor
open Go.RowKit Sp
theorem ztf (n : Int) (hn : i64 n) (w : World) (hw : LibW w) {cv : Value} {code : List Int} (hc : SlB w w.heap.size cv code) (hl : code.length ≤ 9223372036854775807) (hnum : ∀ x ∈ code,i64 x) {wv : Value} {ways : List Int} (hwv : SlB w w.heap.size wv ways) (hwl : ways.length ≤ 9223372036854775807) (hwn : ∀ x ∈ ways,i64 x) {ao : Option Addr} {icap : Nat} {inp : List Int} (hiv : SlB w w.heap.size (.slice ao inp.length icap) inp) (hin : inp.length ≤ 9223372036854775807) :
  Calls Tryz.prog 14 #[cv,wv,.slice ao inp.length icap,.int .i64 n] w fun e w' => e = .returned (.bool true) ∧ Below w.heap.size w w':=by
 have a0 : 0 ≤ zeQ n 4000:=Int.emod_nonneg _ (by omega)
 have a1 : zeQ n 4000 < 4000:=Int.emod_lt_of_pos _ (by omega)
 have hp:=fun W => zfz n 4000 W (by omega) hn
 obtain ⟨a,ha⟩:=Int.eq_ofNat_of_zero_le a0
 rw [ha] at hp a1
 exact ztv cv wv (.slice ao inp.length icap) ways inp n a (by omega) w hw (zkj hc hl hnum) hwv hwl hwn hp (fun s W k hW hB hs => zme s W hW ao icap k inp (by omega) (hiv.mono hB) hin)
end Go.Proofs.YtfpgjkbjbbgciaaGreatDoor
namespace Go.Proofs.YtfpgjkbjbbgciaaGreatDoor
open Go.ChangeShapes Go.WideShapes Go.ChangeAt Go.RowKit Sp
theorem zsU (H : Type) (enc : TypeId × Value → H) (W : World) (base : Nat) (args : Array Value) (ds gs : List (DataW H)) (before : List MemPlace)
  (hval : ∀ (j : Nat) t v,Tryz.f14.params[j]? = some t → args[j]? = some v → Value.okWide Tryz.prog W .any base t v)
  (hW : DataW.Whole enc Tryz.prog Tryz.f14.params.toList Rows.spelledSpec.vars false W args.toList ds gs before) (hL : laidMetH Tryz.prog Rows.spelledRow.laid W) (hsh : W.ShapedOpen Tryz.prog) :
  Calls Tryz.prog 14 args W fun e W' => ∃ v,e = .returned v ∧ Rows.spelledSpec.post enc Tryz.prog Tryz.f14 false true false false W args v W':=by
 have hW':=hW
 obtain ⟨p,q,hA0,hV,rfl,hfz,hnd⟩:=hW
 have hA : DataW.TrodAll enc Tryz.prog W 0 (fun _ => true) true Tryz.f14.params.toList args.toList ds p:=hA0
 rw [Tryz.params14] at hA hval
 obtain ⟨v0,v1,v2,v3,d0,d1,d2,d3,p0,p1,p2,p3,rfl,rfl,rfl,h0,h1,h2,h3⟩:=ziX hA
 obtain ⟨rfl,rfl⟩:=trodVars_none hV
 obtain ⟨co,ccap,code,rfl,hcv,_,c64,cmx,cback⟩:=zkk (hval 0 59 v0 rfl rfl) h0
 obtain ⟨wo,wcap,ways,rfl,hwv,_,w64,wmx,wback⟩:=zkk (hval 1 59 v1 rfl rfl) h1
 obtain ⟨ao,icap,inp,rfl,hiv,_,i64',imx,iback⟩:=zjY (hval 2 29 v2 rfl rfl) h2
 obtain ⟨n,rfl,rfl,rfl,wn⟩:=open_int Tryz.underlying3 (hval 3 3 v3 rfl rfl) h3
 clear hA0
 simp only [List.append_nil] at hW'
 refine (ztf n (wf_i64 wn) W (zjX hL hsh) hcv cmx c64 hwv wmx w64 hiv imx).mono fun e W' ⟨he,hb⟩ => ?_
 subst he
 refine ⟨_,rfl,_,_,_,[],p0 ++ (p1 ++ p2),[],hW',?_,?_,?_,hb.frame _,fun h => by cases h⟩
 ·exact trodAll_mk1 (shut_bool Tryz.underlying4 _)
 ·have:=zkl (cback W' hb) (wback W' hb) (iback W' hb) (shut_int Tryz.underlying3 wn)
  simp only [List.append_nil] at this
  exact this
 ·rfl
theorem zsO (os : Os) {H : Type} (enc : TypeId × Value → H) :
  (OpenSpec.ofChange Rows.spelledSpec).preRow enc Tryz.prog Tryz.f14 Rows.spelledRow.domain false Rows.spelledRow.laid ((laidWorld os).forCall (fun _ _ => 0) ⟨#[],#[.slice none 0 0,.slice none 0 0,.slice none 0 0,.int .i64 0],[]⟩).memory #[.slice none 0 0,.slice none 0 0,.slice none 0 0,.int .i64 0] :=
 OpenSpec.preRow_of_B rfl 8 (by kernel_rfl) (by kernel_rfl) (zpZ os _)
theorem ztk (os : Os) (started : os.Started) (H : Type) (enc : TypeId × Value → H) (F : Stop.Interp) :
  ReturnsInHanded {} Tryz.checked os 14 .any ((OpenSpec.ofChange Rows.spelledSpec).preRow enc Tryz.prog Tryz.f14 Rows.spelledRow.domain false Rows.spelledRow.laid) (((OpenSpec.ofChange Rows.spelledSpec).at F).post enc Tryz.prog Tryz.f14 false true false false):=by
 refine returnsInHanded_of_row (C:=Tryz.checked) (s:=OpenSpec.ofChange Rows.spelledSpec) Tryz.own started (by kernel_rfl) Tryz.func14
  (witness_row_atRef (enc:=enc) (C:=Tryz.checked) false (laidWorld os) #[.slice none 0 0,.slice none 0 0,.slice none 0 0,.int .i64 0] rfl (by kernel_rfl) (by kernel_rfl) (by kernel_rfl) (zsO os enc)) ?_
 intro W base args ds gs before hval hW x1 x2 x3 hL x4 x5
 exact zsU H enc W base args ds gs before hval hW hL x4
theorem ztn : (Rows.spelledRow.inPlace == Tryz.pinned.checked.prog.inPlace 14) = true:=by kernel_rfl
theorem zto : (Rows.spelledRow.unfollowed == Tryz.pinned.checked.prog.unfollowed 14) = true:=by kernel_rfl
theorem ztp : (Rows.spelledRow.recurses == Tryz.pinned.checked.prog.recurses 14) = true:=by kernel_rfl
theorem ztq : (Rows.spelledRow.named == Tryz.pinned.checked.prog.varsNamed 14) = true:=by kernel_rfl
theorem ztr : joinedFacts Tryz.pinned.checked.prog 14 Tryz.f14 (OpenSpec.ofChange Rows.spelledSpec).bare Rows.spelledRow = true:=by
 unfold joinedFacts
 rw [ztn,zto,ztp,ztq]
 kernel_rfl
theorem ztt : Rows.SpelledSaid :=
 OpenClaim.holds_of_cond 14 Tryz.f14 rfl rfl rfl rfl rfl rfl rfl ⟨rfl,rfl,rfl,rfl,rfl⟩ rfl rfl rfl rfl rfl (by kernel_rfl) Tryz.func14 ztr
  (of_decide_eq_true (by kernel_rfl)) (by unfold Func.isWrapper; first | (rw [if_pos (by decide +kernel)]; kernel_rfl) | (rw [if_neg (by decide +kernel)]; exact ⟨rfl,rfl⟩))
  (fun os started H enc _ F => by rw [OpenClaim.pre_eq_preRow]; exact ztk os started H enc F)
theorem zts (f : FuncId) (fn : Func) (hf : Tryz.pinned.checked.prog.funcNamed "bounded/boundedkeep.Spelled" = some f) (hfn : Tryz.pinned.checked.prog.funcs[f]? = some fn) :
  true = Tryz.pinned.checked.prog.looks [] ∧ ∀ (j : Nat) t,fn.params[j]? = some t → Tryz.pinned.checked.prog.wantsStandIn t = false:=by
 obtain rfl : f = 14:=Option.some.inj ((show Tryz.prog.funcNamed "bounded/boundedkeep.Spelled" = some 14 by kernel_rfl).symm.trans hf) |>.symm
 obtain rfl : fn = Tryz.f14:=(Option.some.inj (Tryz.func14.symm.trans hfn)).symm
 refine ⟨by kernel_rfl,fun j t ht => ?_⟩
 rw [Tryz.params14] at ht
 have hm : t = 59 ∨ t = 29 ∨ t = 3:=by simpa using Array.mem_of_getElem? ht
 rcases hm with rfl | rfl | rfl
 ·exact (show Tryz.prog.wantsStandIn 59 = false by kernel_rfl)
 ·exact (show Tryz.prog.wantsStandIn 29 = false by kernel_rfl)
 ·exact (show Tryz.prog.wantsStandIn 3 = false by kernel_rfl)
theorem spcard : Rows.SpelledCardSaid :=
 Claim7.holds_tied_plain_at .later [] _ _ _ _ ztt (fun _ h => by cases h) (by kernel_rfl) (fun _ h => by cases h) spelled_row_tie rfl ⟨rfl,rfl⟩ (by kernel_rfl) rfl zts (by kernel_rfl)
end Go.Proofs.YtfpgjkbjbbgciaaGreatDoor
