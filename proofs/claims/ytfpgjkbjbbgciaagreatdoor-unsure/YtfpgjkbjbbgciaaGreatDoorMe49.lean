import Derived.Test.YtfpgjkbjbbgciaaGreatDoorMe47
import Derived.Test.YtfpgjkbjbbgciaaGreatDoorMe48
set_option maxRecDepth 100000
set_option maxHeartbeats 8000000
namespace Go.Proofs.YtfpgjkbjbbgciaaGreatDoor
open Go.RowKit Sp
abbrev RnW (w : World) (s : ByteArray) (iv : Value) : World:=((w.alloc (.cells #[.string s] 9)).alloc (.cells #[iv] 29)).alloc Z34
theorem znS (w : World) (s : ByteArray) (iv : Value) : (RnW w s iv).heap.size = w.heap.size + 1 + 1 + 1:=by simp
theorem zia (w : World) (s : ByteArray) (iv : Value) : Below w.heap.size w (RnW w s iv):=(((Below.refl _ _).alloc (Nat.le_refl _) _).alloc (by simp) _).alloc (by simp; omega) _
theorem zsv (w : World) (s : ByteArray) (iv : Value) : RnIn (RnW w s iv) w.heap.size (w.heap.size + 1) (w.heap.size + 1 + 1) s iv:=by
 have b1 : Below (w.alloc (.cells #[.string s] 9)).heap.size (w.alloc (.cells #[.string s] 9)) (RnW w s iv):=((Below.refl _ _).alloc (Nat.le_refl _) _).alloc (by simp) _
 have b2 : Below ((w.alloc (.cells #[.string s] 9)).alloc (.cells #[iv] 29)).heap.size ((w.alloc (.cells #[.string s] 9)).alloc (.cells #[iv] 29)) (RnW w s iv):=(Below.refl _ _).alloc (Nat.le_refl _) _
 have c1:=World.cell?_alloc_new (w:=w) #[.string s] 9 0
 have c2:=World.cell?_alloc_new (w:=w.alloc (.cells #[.string s] 9)) #[iv] 29 0
 rw [show (w.alloc (.cells #[.string s] 9)).heap.size = w.heap.size + 1 by simp] at c2
 refine ⟨zap b1 c1,zap b2 c2,?_,by omega⟩
 have:=zdX ((w.alloc (.cells #[.string s] 9)).alloc (.cells #[iv] 29))
 rwa [show ((w.alloc (.cells #[.string s] 9)).alloc (.cells #[iv] 29)).heap.size = w.heap.size + 1 + 1 by simp] at this
theorem zuz (w : World) (s : ByteArray) (iv : Value) : (RnW w s iv).rangeAt (w.heap.size + 1 + 1) 0 (zak zbE (.slice none 0 0) 0):=by
 rw [zw4]
 have:=zdu ((w.alloc (.cells #[.string s] 9)).alloc (.cells #[iv] 29)) [.int .i64 0,.int .i64 0,.int .i64 0,.int .i64 0,.int .i64 0,.int .i64 0,.int .i64 0,.int .i64 0,.int .i64 0,.int .i64 0,.int .i64 0,.int .i64 0,.int .i64 0,.int .i64 0,.int .i64 0,.int .i64 0,.int .i64 0,.int .i64 0,.int .i64 0,.int .i64 0,.int .i64 0,.int .i64 0,.int .i64 0,.int .i64 0,.int .i64 0,.slice none 0 0,.int .i64 0,.int .i64 0,.int .i64 0,.int .i64 0] 34
 rwa [show ((w.alloc (.cells #[.string s] 9)).alloc (.cells #[iv] 29)).heap.size = w.heap.size + 1 + 1 by simp] at this
theorem RnIn.below {w w' : World} {pt pi pr : Nat} {s : ByteArray} {iv : Value} (T : RnIn w pt pi pr s iv) (hb : Below w.heap.size w w') : RnIn w' pt pi pr s iv:=by
 obtain ⟨t1,t3,t4,t5⟩:=T
 refine ⟨zap hb t1,zap hb t3,zas t4 hb ?_,t5⟩
 obtain ⟨u,hu⟩:=Option.isSome_iff_exists.1 (t4 0 (by omega)).1
 exact World.block_lt_of_cell? w _ hu
theorem zf7 (w : World) (s : ByteArray) (ao : Option Addr) (m icap : Nat) (er ln : Int)
  (hcall : Calls Tryz.prog 57 (znR w.heap.size (w.heap.size + 1) (w.heap.size + 1 + 1)) (OutW (RnW w s (.slice ao m icap))) fun e w' => e = zah er ln ∧ Below (OutW (RnW w s (.slice ao m icap))).heap.size (OutW (RnW w s (.slice ao m icap))) w') :
  Calls Tryz.prog 25 #[.string s,.slice ao m icap] w (zbz w ⟨zbE,0,er,ln⟩):=by
 have hmf : ∀ (fn : Go.Fn) (first cap : Array Value) (w : World),(Instr.makeFunc fn first cap).run Tryz.prog w = .ok (.func fn first cap) w:=fun _ _ _ _ => rfl
 have hout:=zcV 57 _ (RnW w s (.slice ao m icap)) er ln (fun W => by kernel_rfl) hcall
 have hz:=zuz w s (.slice ao m icap)
 have hsz:=znS w s (.slice ao m icap)
 have hbw:=zia w s (.slice ao m icap)
 have hth:=(zsv w s (.slice ao m icap)).state
 go_enter Tryz.func25,Tryz.ntmps25
 go_wp2_with (first | (go_at_call 42; refine hout.mono ?_; rintro e w5 ⟨rfl,hb5⟩; refine Hid.out ?_))
 unfold Hid
 have hr:=zeT hz hb5 (by rw [hsz]; omega)
 have hth5:=zas hth hb5 (by rw [hsz]; omega)
 have hb05 : Below w.heap.size w w5:=hbw.trans (hb5.mono hbw.size)
 have hl:=zaE zbE (.slice none 0 0) 0
 have h1:=zaO zbE none 0 0 0
 generalize hds : zak zbE (.slice none 0 0) 0 = ds at hr hl h1
 have hi:=zaU ds hl
 have hid : (Tryz.prog.info? 34).map (·.size) = some ds.length:=by rw [hl]; exact Tryz.info34
 have hu34 : Tryz.prog.underlying 34 = some (.struct _):=Tryz.underlying34
 have ht : w5.there (w.heap.size + 1 + 1) 0 ds.toArray.size:=by rw [show ds.toArray.size = 30 by simp [hl]]; exact hth5
 clear hz hout
 repeat (first
  | (refine wpList_load_mid rfl 34 _ rfl (w.heap.size + 1 + 1) 0 rfl ds _ hr hu34 rfl hid ?_)
  | (refine wpList_store_mid rfl 34 _ _ rfl (w.heap.size + 1 + 1) 0 ds.toArray rfl rfl ht hi h1 ?_)
  | go_values | go_skip | go_guarded | go_step | go_upon | go_back)
 exact zfv (T:=⟨zbE,0,er,ln⟩) (w.heap.size + 1 + 1) (by omega) Tryz.results25 ds hds ht hb05 (World.ownsRow_nil _ _ _ _) (by simp [Value.ownBlock]) rfl rfl rfl rfl
theorem zu0 (w : World) (s : ByteArray) (ao : Option Addr) (m icap : Nat) (FIN : Mc)
  (hcall : Calls Tryz.prog 57 (znR w.heap.size (w.heap.size + 1) (w.heap.size + 1 + 1)) (OutW (RnW w s (.slice ao m icap))) fun e w' => e = .returned (.tuple #[]) ∧ zkF (OutW (RnW w s (.slice ao m icap))) (w.heap.size + 1 + 1) FIN FIN.line w') :
  Calls Tryz.prog 25 #[.string s,.slice ao m icap] w (zbz w ⟨FIN,FIN.line,0,0⟩):=by
 have hmf : ∀ (fn : Go.Fn) (first cap : Array Value) (w : World),(Instr.makeFunc fn first cap).run Tryz.prog w = .ok (.func fn first cap) w:=fun _ _ _ _ => rfl
 have hsz:=znS w s (.slice ao m icap)
 have hout:=zeS 57 _ (RnW w s (.slice ao m icap)) _ (fun W => by kernel_rfl) hcall (fun w1 h => ziI (by rw [hsz]; omega) h)
 have hbw:=zia w s (.slice ao m icap)
 have hth:=(zsv w s (.slice ao m icap)).state
 have hbo:=zcP (RnW w s (.slice ao m icap))
 have hso : (OutW (RnW w s (.slice ao m icap))).heap.size = w.heap.size + 1 + 1 + 1 + 1 + 1:=by simp
 go_enter Tryz.func25,Tryz.ntmps25
 go_wp2_with (first | (go_at_call 42; refine hout.mono ?_; rintro e w5 ⟨rfl,w1,hq,hw5⟩; have HW5 : Hid _:=hw5; clear hw5; refine Hid.out ?_))
 have hw5:=HW5.out
 clear HW5
 unfold Hid
 obtain ⟨wz,oo,no,co,rfl,hbz,hrow⟩:=hq
 have hl:=zaE FIN (.slice oo no co) FIN.line
 have h1:=zaO FIN oo no co FIN.line
 generalize hds : zak FIN (.slice oo no co) FIN.line = ds at hw5 hl h1
 have hthz:=zas (zas hth hbo (by rw [hsz]; omega)) hbz (by rw [hso]; omega)
 have hrz:=World.rangeAt_setCells_same wz (w.heap.size + 1 + 1) 0 ds (by rw [hl]; exact hthz)
 have hthz2:=World.there_setCells hthz (w.heap.size + 1 + 1) 0 ds
 have hbz2 : Below w.heap.size w (wz.setCells (w.heap.size + 1 + 1) 0 ds):=zam ds 0 (hbw.trans ((hbo.mono hbw.size).trans (hbz.mono (by rw [hso]; omega)))) (by omega)
 have hrow2 : (wz.setCells (w.heap.size + 1 + 1) 0 ds).ownsRow (OutW (RnW w s (.slice ao m icap))).heap.size 2 1 (.slice oo no co) FIN.out.length (i64s FIN.out):=zaq hrow (fun q hq => za8 ds wz _ _ _ (by have:=(hrow.lt q hq).1; omega))
 generalize wz.setCells (w.heap.size + 1 + 1) 0 ds = X at hw5 hrz hthz2 hbz2 hrow2
 have eb : ∀ b,¬ b = (RnW w s (.slice ao m icap)).heap.size → ¬ b = (RnW w s (.slice ao m icap)).heap.size + 1 → w5.heap[b]? = X.heap[b]?:=fun b n0 n1 => by
  rw [hw5,Below.heap_setCell _ _ _ _ (by exact n1),Below.heap_setCell _ _ _ _ (by exact n0)]
 have hr:=zh2 hrz (eb _ (by omega) (by omega))
 have hth5:=zh3 hthz2 (eb _ (by omega) (by omega))
 have hb05 : Below w.heap.size w w5:=by
  rw [hw5]
  exact (hbz2.setCell (p:=⟨(RnW w s (.slice ao m icap)).heap.size,0,none⟩) (by show w.heap.size ≤ (RnW w s (.slice ao m icap)).heap.size; omega) _).setCell (p:=⟨(RnW w s (.slice ao m icap)).heap.size + 1,0,none⟩) (by show w.heap.size ≤ (RnW w s (.slice ao m icap)).heap.size + 1; omega) _
 have hrow5 : w5.ownsRow (OutW (RnW w s (.slice ao m icap))).heap.size 2 1 (.slice oo no co) FIN.out.length (i64s FIN.out):=zaq hrow2 (fun q hq => eb q (by have:=(hrow2.lt q hq).1; omega) (by have:=(hrow2.lt q hq).1; omega))
 have hi:=zaU ds hl
 have hid : (Tryz.prog.info? 34).map (·.size) = some ds.length:=by rw [hl]; exact Tryz.info34
 have hu34 : Tryz.prog.underlying 34 = some (.struct _):=Tryz.underlying34
 have ht : w5.there (w.heap.size + 1 + 1) 0 ds.toArray.size:=by rw [show ds.toArray.size = 30 by simp [hl]]; exact hth5
 clear hout hw5 eb hrz hthz2 hrow2 hbz2 hrow hbz hthz
 repeat (first
  | (refine wpList_load_mid rfl 34 _ rfl (w.heap.size + 1 + 1) 0 rfl ds _ hr hu34 rfl hid ?_)
  | (refine wpList_store_mid rfl 34 _ _ rfl (w.heap.size + 1 + 1) 0 ds.toArray rfl rfl ht hi h1 ?_)
  | go_values | go_skip | go_guarded | go_step | go_upon | go_back)
 exact zfv (T:=⟨FIN,FIN.line,0,0⟩) (w.heap.size + 1 + 1) (by omega) Tryz.results25 ds hds ht hb05 (zb5 hrow5 (by omega)) (fun q hq => by have:=(hrow5.lt q hq).1; omega) rfl rfl rfl rfl
def RunS (s : ByteArray) (inp : List Int) (T : Told) : Prop:=(¬ zbk s = (0,0) ∧ T = ⟨zbE,0,(zbk s).1,(zbk s).2⟩) ∨ (zbk s = (0,0) ∧ VerdL ((lines s).map say) none ∧ T = ⟨zbE,0,8,0⟩) ∨ (zbk s = (0,0) ∧ ∃ bs bf,VerdL ((lines s).map say) (some (bs,bf)) ∧ T = ⟨ranL ((lines s).map say) inp bs,(ranL ((lines s).map say) inp bs).line,0,0⟩)
theorem zls (s : ByteArray) (w : World) (hw : LibW w) (hs : s.size ≤ 9223372036854775807) (ao : Option Addr) (icap : Nat) (inp : List Int) (hiv : SlB w w.heap.size (.slice ao inp.length icap) inp) (hin : inp.length ≤ 9223372036854775807) : Calls Tryz.prog 25 #[.string s,.slice ao inp.length icap] w fun e w' => ∃ T,RunS s inp T ∧ zbz w T e w':=by
 have hbw:=zia w s (.slice ao inp.length icap)
 have hbo:=zcP (RnW w s (.slice ao inp.length icap))
 have hb2 : Below w.heap.size w (OutW (RnW w s (.slice ao inp.length icap))):=hbw.trans (hbo.mono hbw.size)
 have hw2:=hw.below hb2
 have hT:=(zsv w s (.slice ao inp.length icap)).below hbo
 by_cases hR : zbk s = (0,0)
 ·have hv:=zsu _ hw2 _ _ _ s ao icap inp hT _ (zgE s hR) (hiv.mono hb2) hin
  by_cases hn : VerdL ((lines s).map say) none
  ·refine (zf7 w s ao inp.length icap 8 0 (hv.mono ?_)).mono fun e w' h => ⟨_,.inr (.inl ⟨hR,hn,rfl⟩),h⟩
   rintro e w' (⟨rfl,_,hb⟩ | ⟨bs,bf,_,hv2,_⟩)
   ·exact ⟨rfl,hb⟩
   ·have:=hn.unique hv2; cases this
  ·by_cases hy : ∃ b,VerdL ((lines s).map say) (some b)
   ·obtain ⟨⟨bs,bf⟩,hy⟩:=hy
    refine (zu0 w s ao inp.length icap (ranL ((lines s).map say) inp bs) (hv.mono ?_)).mono fun e w' h => ⟨_,.inr (.inr ⟨hR,bs,bf,hy,rfl⟩),h⟩
    rintro e w' (⟨_,hv2,_⟩ | ⟨bs2,bf2,rfl,hv2,hp⟩)
    ·exact absurd hv2 hn
    ·have:=hy.unique hv2
     cases this
     exact ⟨rfl,hp⟩
   ·exfalso
    obtain ⟨F,R⟩:=zda s hR
    obtain ⟨v,hv2⟩:=zdG R
    cases v with
    | none => exact hn hv2
    | some b => exact hy ⟨b,hv2⟩
 ·have hv:=zuy _ hw2 _ _ _ s _ hT (zbk s) hR (zfu s hs)
  exact (zf7 w s ao inp.length icap _ _ hv).mono fun e w' h => ⟨_,.inl ⟨hR,rfl⟩,h⟩
theorem RunS.out {s : ByteArray} {inp : List Int} {T : Told} {er ln : Int} (h : RunS s inp T) (hv : (¬ zbk s = (0,0) ∧ zbk s = (er,ln)) ∨ (zbk s = (0,0) ∧ VerdL ((lines s).map say) none ∧ er = 8 ∧ ln = 0)) : T = ⟨zbE,0,er,ln⟩:=by
 rcases h with ⟨n,rfl⟩ | ⟨r,v,rfl⟩ | ⟨r,bs,bf,v,rfl⟩ <;> rcases hv with ⟨n',e⟩ | ⟨r',v',e1,e2⟩
 ·rw [e]
 ·exact absurd r' n
 ·exact absurd r n'
 ·rw [e1,e2]
 ·exact absurd r n'
 ·have:=v.unique v'; cases this
theorem RunS.inn {s : ByteArray} {inp : List Int} {T : Told} {bs bf : Int} (h : RunS s inp T) (hR : zbk s = (0,0)) (hv : VerdL ((lines s).map say) (some (bs,bf))) : T = ⟨ranL ((lines s).map say) inp bs,(ranL ((lines s).map say) inp bs).line,0,0⟩:=by
 rcases h with ⟨n,rfl⟩ | ⟨r,v,rfl⟩ | ⟨r,bs',bf',v,rfl⟩
 ·exact absurd hR n
 ·have:=v.unique hv; cases this
 ·have:=v.unique hv; cases this; rfl
theorem zu1 (L : List Said) (inp : List Int) (bs : Int) (h : bs ≤ 100000) : (ranL L inp bs).out.length ≤ 1048577:=by
 have:=ztL L bs.toNat (zbl L inp)
 have e : (zbl L inp).out.length = 0:=rfl
 show (runS _ _ _).out.length ≤ _
 omega
theorem zsw {s : ByteArray} {bs bf er ln : Int} (h : VerS s bs bf er ln) (b : Bool) (hb : b = decide (er = 0 ∧ ln = 0)) (w : World) (hw : LibW w) (hs : s.size ≤ 9223372036854775807) : Calls Tryz.prog 34 #[.string s] w fun e w' => e = .returned (.tuple #[.agg #[.int .i64 bs,.int .i64 bf],.bool b]) ∧ Below w.heap.size w w':=by
 have hb0 : Below w.heap.size w (w.alloc (.cells #[.int .i64 0,.int .i64 0] 42)):=(Below.refl _ _).alloc (Nat.le_refl _) _
 have hs0 : (w.alloc (.cells #[.int .i64 0,.int .i64 0] 42)).heap.size = w.heap.size + 1:=by simp
 have r0:=World.cell?_alloc_new (w:=w) #[.int .i64 0,.int .i64 0] 42 0
 have r1:=World.cell?_alloc_new (w:=w) #[.int .i64 0,.int .i64 0] 42 1
 have rz:=fun j => zjA w #[.int .i64 0,.int .i64 0] 42 j
 have hver:=ziY h (w.alloc (.cells #[.int .i64 0,.int .i64 0] 42)) (hw.below hb0) hs
 have hx : ∀ w1 : World,Below (w.alloc (.cells #[.int .i64 0,.int .i64 0] 42)).heap.size (w.alloc (.cells #[.int .i64 0,.int .i64 0] 42)) w1 → w1.cell? ⟨w.heap.size,0,none⟩ = some (.int .i64 0) ∧ w1.cell? ⟨w.heap.size,1,none⟩ = some (.int .i64 0) ∧ w1.frozen? ⟨w.heap.size,0,none⟩ = false ∧ w1.frozen? ⟨w.heap.size,1,none⟩ = false ∧ w.heap.size < w1.heap.size ∧ ¬ w.heap.size = w1.heap.size ∧ Below w.heap.size w ((w1.alloc (.cells #[.int .i64 bs,.int .i64 bf] 42))):=fun w1 hb1 => by
  have e:=hb1.block w.heap.size (by rw [hs0]; omega)
  have hlt:=hb1.size
  rw [hs0] at hlt
  refine ⟨(World.cell?_of_block (a:=⟨w.heap.size,0,none⟩) e).trans r0,(World.cell?_of_block (a:=⟨w.heap.size,1,none⟩) e).trans r1,(World.frozen?_of_block (a:=⟨w.heap.size,0,none⟩) e).trans (rz 0),(World.frozen?_of_block (a:=⟨w.heap.size,1,none⟩) e).trans (rz 1),by omega,by omega,?_⟩
  exact (hb0.trans (hb1.mono (by omega))).alloc (by omega) _
 have HX : Hid _:=hx
 have hb00:=hb0
 clear hx hb0 hs0 r0 r1 rz
 have hfin : ∀ w1 : World,Below (w.alloc (.cells #[.int .i64 0,.int .i64 0] 42)).heap.size (w.alloc (.cells #[.int .i64 0,.int .i64 0] 42)) w1 → ∀ W,W = ((w1.setCell ⟨w.heap.size,0,none⟩ (.int .i64 bs)).setCell ⟨w.heap.size,1,none⟩ (.int .i64 bf)).alloc (.cells #[.int .i64 bs,.int .i64 bf] 42) → W.cell? ⟨w.heap.size,0,none⟩ = some (.int .i64 bs) ∧ W.cell? ⟨w.heap.size,1,none⟩ = some (.int .i64 bf) ∧ Below w.heap.size w W:=fun w1 hb1 W hW => by
  obtain ⟨c0,c1,z0,z1,lt1,ne1,hB⟩:=HX.out w1 hb1
  have b0 : (w1.setCell ⟨w.heap.size,0,none⟩ (.int .i64 bs)).cell? ⟨w.heap.size,0,none⟩ = some (.int .i64 bs):=World.cell?_setCell_same _ _ _ c0
  have b1 : (w1.setCell ⟨w.heap.size,0,none⟩ (.int .i64 bs)).cell? ⟨w.heap.size,1,none⟩ = some (.int .i64 0):=by rw [za1 _ w.heap.size 0 1 _ _ c0,if_neg (by omega)]; exact c1
  have d0 : ((w1.setCell ⟨w.heap.size,0,none⟩ (.int .i64 bs)).setCell ⟨w.heap.size,1,none⟩ (.int .i64 bf)).cell? ⟨w.heap.size,0,none⟩ = some (.int .i64 bs):=by rw [za1 _ w.heap.size 1 0 _ _ b1,if_neg (by omega)]; exact b0
  have d1 : ((w1.setCell ⟨w.heap.size,0,none⟩ (.int .i64 bs)).setCell ⟨w.heap.size,1,none⟩ (.int .i64 bf)).cell? ⟨w.heap.size,1,none⟩ = some (.int .i64 bf):=World.cell?_setCell_same _ _ _ b1
  rw [hW]
  refine ⟨by rw [World.cell?_alloc_some _ _ _ (by rw [d0]; rfl)]; exact d0,by rw [World.cell?_alloc_some _ _ _ (by rw [d1]; rfl)]; exact d1,?_⟩
  have hb01 : Below w.heap.size w w1:=hb00.trans (hb1.mono (by simp))
  have hb02:=(hb01.setCell (p:=⟨w.heap.size,0,none⟩) (Nat.le_refl _) (.int .i64 bs)).setCell (p:=⟨w.heap.size,1,none⟩) (Nat.le_refl _) (.int .i64 bf)
  exact hb02.alloc hb02.size _
 have HF : Hid _:=hfin
 clear hfin hb00
 by_cases h1 : er = 0
 ·by_cases h2 : ln = 0
  ·go_enter Tryz.func34,Tryz.ntmps34
   go_wp2_with (first | (go_at_call 26; (with_reducible refine hver.mono ?_); rintro e w1 ⟨rfl,hb1⟩; obtain ⟨c0,c1,z0,z1,lt1,ne1,hB⟩:=HX.out w1 hb1))
   obtain ⟨k0,k1,hB2⟩:=HF.out w1 hb1 _ rfl
   refine bodyPost_ret (v:=.tuple #[.agg #[.int .i64 bs,.int .i64 bf],.bool b]) ?_ rfl ⟨rfl,hB2⟩
   rw [show b = true by rw [hb]; simp [h1,h2]]
   simp [results,Tryz.results34,go_sem,k0,k1]
  ·go_enter Tryz.func34,Tryz.ntmps34
   go_wp2_with (first | (go_at_call 26; (with_reducible refine hver.mono ?_); rintro e w1 ⟨rfl,hb1⟩; obtain ⟨c0,c1,z0,z1,lt1,ne1,hB⟩:=HX.out w1 hb1))
   obtain ⟨k0,k1,hB2⟩:=HF.out w1 hb1 _ rfl
   refine bodyPost_ret (v:=.tuple #[.agg #[.int .i64 bs,.int .i64 bf],.bool b]) ?_ rfl ⟨rfl,hB2⟩
   rw [show b = false by rw [hb]; simp [h2]]
   simp [results,Tryz.results34,go_sem,k0,k1,h2]
 ·go_enter Tryz.func34,Tryz.ntmps34
  go_wp2_with (first | (go_at_call 26; (with_reducible refine hver.mono ?_); rintro e w1 ⟨rfl,hb1⟩; obtain ⟨c0,c1,z0,z1,lt1,ne1,hB⟩:=HX.out w1 hb1))
  obtain ⟨k0,k1,hB2⟩:=HF.out w1 hb1 _ rfl
  refine bodyPost_ret (v:=.tuple #[.agg #[.int .i64 bs,.int .i64 bf],.bool b]) ?_ rfl ⟨rfl,hB2⟩
  rw [show b = false by rw [hb]; simp [h1]]
  simp [results,Tryz.results34,go_sem,k0,k1]
theorem zpM {FIN : Mc} (h : ranL ((lines zei).map say) [] 1 = FIN) : FIN.steps = 1 ∧ FIN.fin = 2:=by
 subst h
 exact ⟨by kernel_rfl,by kernel_rfl⟩
theorem zde (m : Mc) (ov : Value) (line : Int) : (zak m ov line)[0]? = some (.int .i64 m.steps):=by simp [zak]
theorem zib (w : World) (hw : LibW w) : Calls Tryz.prog 30 #[] w fun e w' => e = .returned (.bool true) ∧ Below w.heap.size w w':=by
 have hV : VerS zei 1 1 0 0:=.inr (.inr ⟨zgd,zhY,rfl,rfl⟩)
 have hsz : zei.size ≤ 9223372036854775807:=by show 11 ≤ 9223372036854775807; omega
 have hlet : Calls Tryz.prog 34 #[.string ⟨#[102,117,110,99,32,102,10,98,97,99,107]⟩] w fun e w' => e = .returned (.tuple #[.agg #[.int .i64 1,.int .i64 1],.bool true]) ∧ Below w.heap.size w w':=zsw hV true (by decide) w hw hsz
 have hrun : ∀ W,LibW W → Calls Tryz.prog 25 #[.string ⟨#[102,117,110,99,32,102,10,98,97,99,107]⟩,.slice none 0 0] W (zbz W ⟨ranL ((lines zei).map say) [] 1,(ranL ((lines zei).map say) [] 1).line,0,0⟩):=fun W hW => (zls zei W hW hsz none 0 [] ⟨none,0,rfl,Nat.le_refl _,fun h => absurd h (Nat.lt_irrefl 0)⟩ (Nat.zero_le _)).mono fun e w' ⟨T,hT,hp⟩ => by rw [hT.inn zgd zhY] at hp; exact hp
 obtain ⟨q1,q2⟩:=zpM rfl
 generalize ranL ((lines zei).map say) [] 1 = FIN at hrun q1 q2
 clear hV
 go_enter Tryz.func30,Tryz.ntmps30
 go_wp2_with (first
  | (go_at_call 34; (with_reducible refine hlet.mono ?_); rintro e w1 ⟨rfl,hb1⟩; have hal : Below w1.heap.size w1 (w1.alloc (.cells #[.int .i64 1,.int .i64 1] 42)):=(Below.refl _ _).alloc (Nat.le_refl _) _; have hB1:=hb1.trans (hal.mono hb1.size); have hr1:=hrun _ (hw.below hB1))
  | (go_at_call 25; refine Hid.out ?_))
 unfold Hid
 refine hr1.mono ?_
 rintro e w2 ⟨oo,no,co,rfl,_,hb2⟩
 dsimp only
 have q5 : (w1.alloc (.cells #[.int .i64 1,.int .i64 1] 42)).cell? ⟨w1.heap.size,0,none⟩ = some (.int .i64 1):=World.cell?_alloc_new (w:=w1) #[.int .i64 1,.int .i64 1] 42 0
 have q6 : (w1.alloc (.cells #[.int .i64 1,.int .i64 1] 42)).cell? ⟨w1.heap.size,1,none⟩ = some (.int .i64 1):=World.cell?_alloc_new (w:=w1) #[.int .i64 1,.int .i64 1] 42 1
 have hs2 : (w1.alloc (.cells #[.int .i64 1,.int .i64 1] 42)).heap.size = w1.heap.size + 1:=by simp
 have q52:=zap hb2 q5
 have q62:=zap hb2 q6
 have hB2:=hB1.trans (hb2.mono hB1.size)
 have hlt : w1.heap.size < w2.heap.size:=Nat.lt_of_lt_of_le (by rw [hs2]; omega) hb2.size
 have hln:=zaE FIN (.slice oo no co) FIN.line
 have h1:=zaO FIN oo no co FIN.line
 have h0:=zde FIN (.slice oo no co) FIN.line
 have h29:=zd0 FIN (.slice oo no co) FIN.line
 rw [q1] at h0
 rw [q2] at h29
 generalize zak FIN (.slice oo no co) FIN.line = ds at hln h1 h0 h29
 have hi:=zaU ds hln
 have ht3:=zcN (W1:=w2) rfl ds hln
 have hB3 : Below w2.heap.size w2 ((w2.alloc Z34).setCells w2.heap.size 0 ds.toArray.toList):=zam _ 0 ((Below.refl w2.heap.size w2).alloc (Nat.le_refl _) _) (Nat.le_refl _)
 have hr3 : ((w2.alloc Z34).setCells w2.heap.size 0 ds.toArray.toList).rangeAt w2.heap.size 0 ds:=by rw [show ds.toArray.toList = ds by simp]; exact World.rangeAt_setCells_same _ _ _ _ (by rw [show ds.length = ds.toArray.size by simp]; exact ht3)
 have c0:=hr3 0 _ h0
 have c29:=hr3 29 _ h29
 rw [Nat.zero_add] at c0 c29
 have q53:=zap hB3 q52
 have q63:=zap hB3 q62
 have hB4:=hB2.trans (hB3.mono hB2.size)
 generalize hw3 : (w2.alloc Z34).setCells w2.heap.size 0 ds.toArray.toList = w3 at hB3 hr3 c0 c29 q53 q63 hB4
 clear hr3 h0 h29 q52 q62 q5 q6 hr1 hrun hlet hal
 go_wp2_with (first | (refine wpList_store_mid rfl 34 _ _ rfl w2.heap.size 0 ds.toArray rfl rfl ht3 hi h1 ?_; rw [hw3]))
 go_ret
 exact ⟨rfl,hB4⟩
end Go.Proofs.YtfpgjkbjbbgciaaGreatDoor
