import Derived.Test.YtfpgjkbjbbgciaaGreatDoorMf37
import Derived.Test.YtfpgjkbjbbgciaaGreatDoorMf41
set_option maxRecDepth 100000
set_option maxHeartbeats 8000000
namespace Go.Proofs.YtfpgjkbjbbgciaaGreatDoor
open Go.RowKit Sp
structure TrIn (w : World) (pt ps pi pr : Nat) (s : ByteArray) (iv : Value) (n : Int) : Prop where
 text : w.cell? ⟨pt,0,none⟩ = some (.string s)
 steps : w.cell? ⟨ps,0,none⟩ = some (.int .i64 n)
 inp : w.cell? ⟨pi,0,none⟩ = some iv
 state : w.there pr 0 30
 ne : ¬ ps = pr ∧ ¬ pi = pr
abbrev ziB (pt ps pi pr : Nat) : Array Value:=#[.pointer (some ⟨pt,0,none⟩),.pointer (some ⟨ps,0,none⟩),.pointer (some ⟨pi,0,none⟩),.pointer (some ⟨pr,0,none⟩)]
theorem zpO (w : World) (hw : LibW w) (pt ps pi pr : Nat) (s : ByteArray) (iv : Value) (n : Int) (T : TrIn w pt ps pi pr s iv n) (R : Int × Int) (hR : ¬ R = (0,0)) (h : zcz s R) :
  Calls Tryz.prog 50 (ziB pt ps pi pr) w fun e w' => e = zap R.1 R.2 ∧ Below w.heap.size w w':=by
 have hc:=(h w hw).mono (R':=fun e w' => e = zap R.1 R.2 ∧ Below w.heap.size w w') (by
  rintro e w' ⟨hb,⟨h,_⟩ | ⟨_,h⟩⟩
  ·exact absurd h hR
  ·exact ⟨h,hb⟩)
 obtain ⟨t1,t2,t3,t4,t5⟩:=T
 go_enter Tryz.func50,Tryz.ntmps50
 go_wp2_with (go_at_call 44; refine hc.mono ?_; rintro e w1 ⟨rfl,hb⟩)
 exact ⟨rfl,rfl,hb⟩
def zjS (s : ByteArray) (L : List Said) : Prop:=∀ w,LibW w → Calls Tryz.prog 44 #[.string s] w fun e w' => Below w.heap.size w w' ∧ ∃ pm ao m cap F,e = .returned (.agg #[.slice ao m cap,.map (some pm)]) ∧ PIn w.heap.size w' pm (.slice ao m cap) F ∧ Right L F ∧ F.length ≤ 300 ∧ (∀ f ∈ F,f.its.length ≤ 300 ∧ ∀ i ∈ f.its,ItOk i)
theorem znU (w : World) (hw : LibW w) (pt ps pi pr : Nat) (s : ByteArray) (iv : Value) (n : Int) (T : TrIn w pt ps pi pr s iv n) (L : List Said) (h : zjS s L) (hn : n < 0 ∨ 100000 < n) :
  Calls Tryz.prog 50 (ziB pt ps pi pr) w fun e w' => e = zap 7 0 ∧ Below w.heap.size w w':=by
 have hc:=h w hw
 have hst:=fun W => zlW n W hn
 obtain ⟨t1,t2,t3,t4,t5⟩:=T
 have hlt : ps < w.heap.size:=World.block_lt_of_cell? w _ t2
 clear hn
 go_enter Tryz.func50,Tryz.ntmps50
 go_wp2_with (first | (go_at_call 44; refine hc.mono ?_; rintro e w1 ⟨hb,pm,ao,m,cap,F,rfl,_⟩; have t2':=(hb.cell (p:=⟨ps,0,none⟩) hlt).trans t2; have hlt1 : ps < w1.heap.size:=Nat.lt_of_lt_of_le hlt hb.size; have hne1 : ¬ ps = w1.heap.size:=Nat.ne_of_lt hlt1; have hne2 : ¬ w1.heap.size = ps:=Nat.ne_of_gt hlt1) | (go_at_call 51; refine (hst _).mono ?_; rintro e w2 ⟨rfl,hww⟩; have h2:=hww.symm; subst h2))
 exact ⟨rfl,rfl,hb.alloc hb.size _⟩
theorem zgZ {W W' : World} {pb pi ps pr : Nat} {v0 v1 v2 v3 : Value} (hb : Below W.heap.size W W') (h : W.cell? ⟨pb,0,none⟩ = some v0 ∧ W.cell? ⟨pb,1,none⟩ = some v1 ∧ W.cell? ⟨pi,0,none⟩ = some v2 ∧ W.cell? ⟨ps,0,none⟩ = some v3 ∧ W.there pr 0 30) :
  W'.cell? ⟨pb,0,none⟩ = some v0 ∧ W'.cell? ⟨pb,1,none⟩ = some v1 ∧ W'.cell? ⟨pi,0,none⟩ = some v2 ∧ W'.cell? ⟨ps,0,none⟩ = some v3 ∧ W'.there pr 0 30:=by
 obtain ⟨h0,h1,h2,h3,h4⟩:=h
 refine ⟨still hb h0,still hb h1,still hb h2,still hb h3,zaw h4 hb ?_⟩
 obtain ⟨u,hu⟩:=Option.isSome_iff_exists.1 (h4 0 (by omega)).1
 exact World.block_lt_of_cell? W _ hu
theorem zpP {W : World} {pb pi ps pr : Nat} {v0 v1 v2 v3 : Value} (ds : List Value) (n0 : ¬ pb = pr) (n1 : ¬ pi = pr) (n2 : ¬ ps = pr) (h : W.cell? ⟨pb,0,none⟩ = some v0 ∧ W.cell? ⟨pb,1,none⟩ = some v1 ∧ W.cell? ⟨pi,0,none⟩ = some v2 ∧ W.cell? ⟨ps,0,none⟩ = some v3 ∧ W.there pr 0 30) :
  (W.setCells pr 0 ds).cell? ⟨pb,0,none⟩ = some v0 ∧ (W.setCells pr 0 ds).cell? ⟨pb,1,none⟩ = some v1 ∧ (W.setCells pr 0 ds).cell? ⟨pi,0,none⟩ = some v2 ∧ (W.setCells pr 0 ds).cell? ⟨ps,0,none⟩ = some v3 ∧ (W.setCells pr 0 ds).there pr 0 30:=by
 obtain ⟨h0,h1,h2,h3,h4⟩:=h
 refine ⟨?_,?_,?_,?_,World.there_setCells h4 _ _ _⟩
 ·rw [World.cell?_of_block (w:=W) (za0 ds W pr 0 pb n0)]; exact h0
 ·rw [World.cell?_of_block (w:=W) (za0 ds W pr 0 pb n0)]; exact h1
 ·rw [World.cell?_of_block (w:=W) (za0 ds W pr 0 pi n1)]; exact h2
 ·rw [World.cell?_of_block (w:=W) (za0 ds W pr 0 ps n2)]; exact h3
theorem znV (ds : List Value) (w : World) (b : Nat) (ht : w.there b 0 ds.length) (h1 : ds.toArray.all (·.oneCell') = true) : (storeCells ⟨b,0,none⟩ ds).run Tryz.prog w = .ok () (w.setCells b 0 ds):=by
 have:=run_storeCells_cells (P:=Tryz.prog) b 0 ds 0 w (fun j hj => by simpa using (ht j hj).1) (fun j hj => by simpa using (ht j hj).2) (fun v hv => (Array.all_eq_true_iff_forall_mem.1 h1) v (by simpa using hv))
 simpa using this
def znW (w : World) (pr : Nat) (m : Mc) (line : Int) (w' : World) : Prop:=∃ w1 ao no co,w' = w1.setCells pr 0 (zai m (.slice ao no co) line) ∧ Below w.heap.size w w1 ∧ w1.ownsRow w.heap.size 2 1 (.slice ao no co) m.out.length (i64s m.out)
theorem zpQ (w : World) (hw : LibW w) (pt ps pi pr : Nat) (s : ByteArray) (ao : Option Addr) (icap n : Nat) (inp : List Int) (T : TrIn w pt ps pi pr s (.slice ao inp.length icap) (n : Int)) (L : List Said) (h : zjS s L) (hn : n ≤ 100000)
  (hiv : SlB w w.heap.size (.slice ao inp.length icap) inp) (hin : inp.length ≤ 9223372036854775807) (FIN : Mc) (hF : runS (zbW L) n (zb9 L inp) = FIN) :
  Calls Tryz.prog 50 (ziB pt ps pi pr) w fun e w' => e = .returned (.tuple #[]) ∧ znW w pr FIN FIN.line w':=by
 have hc:=h w hw
 have hst:=fun W => zjO (n : Int) W (by omega) (by omega)
 obtain ⟨t1,t2,t3,t4,t5⟩:=T
 have hlt : ps < w.heap.size:=World.block_lt_of_cell? w _ t2
 have hlti : pi < w.heap.size:=World.block_lt_of_cell? w _ t3
 go_enter Tryz.func50,Tryz.ntmps50
 go_wp2_with (first | (go_at_call 44; refine hc.mono ?_; rintro e w1 ⟨hb,pm,vo,m,cap,F,rfl,hP,hR,hFn,hFi⟩; have t2':=(hb.cell (p:=⟨ps,0,none⟩) hlt).trans t2; have hlt1 : ps < w1.heap.size:=Nat.lt_of_lt_of_le hlt hb.size; have hne1 : ¬ ps = w1.heap.size:=Nat.ne_of_lt hlt1; have hne2 : ¬ w1.heap.size = ps:=Nat.ne_of_gt hlt1) | (go_at_call 51; refine (hst _).mono ?_; rintro e w2 ⟨rfl,hww⟩; have h2:=hww.symm; subst h2))
 have hb1 : Below w.heap.size w (w1.alloc (.cells #[.slice vo m cap,.map (some pm)] 83)):=hb.alloc hb.size _
 have hP1:=hP.alloc (.cells #[.slice vo m cap,.map (some pm)] 83)
 have hsz1 : (w1.alloc (.cells #[.slice vo m cap,.map (some pm)] 83)).heap.size = w1.heap.size + 1:=by simp
 have hprl : pr < w.heap.size:=by
  obtain ⟨u,hu⟩:=Option.isSome_iff_exists.1 (t4 0 (by omega)).1
  exact World.block_lt_of_cell? w _ hu
 have H1 : (w1.alloc (.cells #[.slice vo m cap,.map (some pm)] 83)).cell? ⟨w1.heap.size,0,none⟩ = some (.slice vo m cap) ∧ (w1.alloc (.cells #[.slice vo m cap,.map (some pm)] 83)).cell? ⟨w1.heap.size,1,none⟩ = some (.map (some pm)) ∧ (w1.alloc (.cells #[.slice vo m cap,.map (some pm)] 83)).cell? ⟨pi,0,none⟩ = some (.slice ao inp.length icap) ∧ (w1.alloc (.cells #[.slice vo m cap,.map (some pm)] 83)).cell? ⟨ps,0,none⟩ = some (.int .i64 (n : Int)) ∧ (w1.alloc (.cells #[.slice vo m cap,.map (some pm)] 83)).there pr 0 30 :=
  ⟨World.cell?_alloc_new (w:=w1) #[.slice vo m cap,.map (some pm)] 83 0,World.cell?_alloc_new (w:=w1) #[.slice vo m cap,.map (some pm)] 83 1,still hb1 t3,still hb1 t2,zaw t4 hb1 hprl⟩
 have hnb : ¬ w1.heap.size = pr:=by have:=hb.size; omega
 generalize w1.alloc (.cells #[.slice vo m cap,.map (some pm)] 83) = W1 at hb1 hP1 hsz1 H1
 have hiv1:=hiv.mono hb1
 have hcof:=zre hR W1.drew w.heap.size pm _ (hP1.below ((Below.refl _ _).drew)) hFn hFi
 obtain ⟨hsim,hinv⟩:=zjP hR.sim hR.codeOk n (zeM hR.codeOk inp)
 rw [← hR.begin,hF] at hsim
 generalize hFC : runS (zcI (zaq F)) n (zbH inp) = FC at hsim hinv
 have hline:=zkA hR.sim hinv
 rw [← hsim] at hline
 have hout : FC.out = FIN.out:=by rw [hsim]; rfl
 have hstl : ∀ ov,zai FC ov (zeL (zaq F) FC) = zai FIN ov FIN.line:=fun ov => by rw [hline,hsim]; rfl
 have hu34 : Tryz.prog.underlying 34 = some (.struct _):=Tryz.underlying34
 clear hc hst t2' hP
 go_region_held3 (fun W => W.cell? ⟨w1.heap.size,0,none⟩ = some (.slice vo m cap) ∧ W.cell? ⟨w1.heap.size,1,none⟩ = some (.map (some pm)) ∧ W.cell? ⟨pi,0,none⟩ = some (.slice ao inp.length icap) ∧ W.cell? ⟨ps,0,none⟩ = some (.int .i64 (n : Int)) ∧ W.there pr 0 30)
  (first
    | exact H1
    | exact H5
    | exact H6
    | exact H7)
  (first
    | (go_at_call 52; refine hcof.mono ?_; rintro e w5 ⟨g,cap2,rfl,hg,hgl,hC,hb5⟩; have H5:=zgZ hb5 H1)
    | (go_at_call 53; refine (zp5 w5 g cap2 n icap ao (zaq F) inp hR.codeOk hC hgl (SlB.mono (w:=W1.drew) hiv1 hb5) hin hn FC hFC).mono ?_; rintro e w6 ⟨oo,no,co,rfl,hrow,hb6⟩; have H6:=zgZ hb6 H5; rw [hstl]; have hl:=zaK FIN (.slice oo no co) FIN.line; have h1:=zbi FIN oo no co FIN.line; generalize hds : zai FIN (.slice oo no co) FIN.line = ds at hl h1; have H7:=zpP ds hnb t5.2 t5.1 H6; have hi : (Tryz.prog.info? 34).map (·.size) = some ds.length:=(by rw [hl]; exact Tryz.info34); have hsto:=znV ds w6 pr (by rw [hl]; exact H6.2.2.2.2) h1)
    | (simp only [hsto]; simp only [Oper.upon]))
 have hb15 : Below w.heap.size w w5:=hb1.drew.trans (hb5.mono hb1.drew.size)
 have hb16:=hb15.trans (hb6.mono hb15.size)
 rw [hout] at hrow
 go_end0
 exact ⟨rfl,w6,oo,no,co,by rw [hds],hb16,zbu hrow hb15.size⟩
theorem ziC {fn : Func} {a b c : Tmp} {w X : World} {T : Told} {ao : Option Addr} {no co : Nat} {act : Act} (pr : Nat) (hpr : w.heap.size ≤ pr) (hr3 : fn.results = #[.cell a 34,.tmp b,.tmp c]) (ds : List Value) (hds : zai T.m (.slice ao no co) T.at_ = ds) (ht : X.there pr 0 ds.toArray.size) (hb : Below w.heap.size w X) (how : X.ownsRow w.heap.size 2 1 (.slice ao no co) T.m.out.length (i64s T.m.out))
  (hne : ∀ q,(Value.slice ao no co).ownBlock = some q → ¬ q = pr)
  (hp : act.tmps.getD a undef = .pointer (some ⟨pr,0,none⟩)) (h1 : act.tmps.getD b undef = .int .i64 T.err) (h2 : act.tmps.getD c undef = .int .i64 T.line) (hd : act.defers = []) :
  bodyPost Tryz.prog fn (zdc w T) .ret act (X.setCells pr 0 ds):=by
 have hl : ds.length = 30:=by rw [← hds]; exact zaK _ _ _
 have hu34 : Tryz.prog.underlying 34 = some (.struct _):=Tryz.underlying34
 have hr:=World.rangeAt_setCells_same X pr 0 ds (by rw [show ds.length = ds.toArray.size by simp]; exact ht)
 have hres:=run_loadVar_mid (X.setCells pr 0 ds) pr 0 34 ds _ hr hu34 rfl (by rw [hl]; exact Tryz.info34)
 have hr2:=zhr hr3 act.tmps ⟨pr,0,none⟩ hp hres
 rw [h1,h2] at hr2
 refine bodyPost_ret hr2 hd ⟨ao,no,co,by rw [hds],?_,za6 ds 0 hb hpr⟩
 exact zad how (fun q hq => za0 ds X _ _ _ (hne q hq))
abbrev TrW (w : World) (s : ByteArray) (iv : Value) (n : Int) : World:=(((w.alloc (.cells #[.string s] 9)).alloc (.cells #[iv] 29)).alloc (.cells #[.int .i64 n] 3)).alloc Z34
theorem zkR (w : World) (s : ByteArray) (iv : Value) (n : Int) : (TrW w s iv n).heap.size = w.heap.size + 1 + 1 + 1 + 1:=by simp
theorem zgo (w : World) (s : ByteArray) (iv : Value) (n : Int) : Below w.heap.size w (TrW w s iv n):=((((Below.refl _ _).alloc (Nat.le_refl _) _).alloc (by simp) _).alloc (by simp; omega) _).alloc (by simp; omega) _
theorem znX (w : World) (s : ByteArray) (iv : Value) (n : Int) : TrIn (TrW w s iv n) w.heap.size (w.heap.size + 1 + 1) (w.heap.size + 1) (w.heap.size + 1 + 1 + 1) s iv n:=by
 have b1 : Below (w.alloc (.cells #[.string s] 9)).heap.size (w.alloc (.cells #[.string s] 9)) (TrW w s iv n):=(((Below.refl _ _).alloc (Nat.le_refl _) _).alloc (by simp) _).alloc (by simp) _
 have b2 : Below ((w.alloc (.cells #[.string s] 9)).alloc (.cells #[iv] 29)).heap.size ((w.alloc (.cells #[.string s] 9)).alloc (.cells #[iv] 29)) (TrW w s iv n):=((Below.refl _ _).alloc (Nat.le_refl _) _).alloc (by simp) _
 have b3 : Below (((w.alloc (.cells #[.string s] 9)).alloc (.cells #[iv] 29)).alloc (.cells #[.int .i64 n] 3)).heap.size (((w.alloc (.cells #[.string s] 9)).alloc (.cells #[iv] 29)).alloc (.cells #[.int .i64 n] 3)) (TrW w s iv n):=(Below.refl _ _).alloc (Nat.le_refl _) _
 have c1:=World.cell?_alloc_new (w:=w) #[.string s] 9 0
 have c2:=World.cell?_alloc_new (w:=w.alloc (.cells #[.string s] 9)) #[iv] 29 0
 have c3:=World.cell?_alloc_new (w:=(w.alloc (.cells #[.string s] 9)).alloc (.cells #[iv] 29)) #[.int .i64 n] 3 0
 rw [show (w.alloc (.cells #[.string s] 9)).heap.size = w.heap.size + 1 by simp] at c2
 rw [show ((w.alloc (.cells #[.string s] 9)).alloc (.cells #[iv] 29)).heap.size = w.heap.size + 1 + 1 by simp] at c3
 refine ⟨still b1 c1,still b3 c3,still b2 c2,?_,by omega,by omega⟩
 have:=zeu (((w.alloc (.cells #[.string s] 9)).alloc (.cells #[iv] 29)).alloc (.cells #[.int .i64 n] 3))
 rwa [show (((w.alloc (.cells #[.string s] 9)).alloc (.cells #[iv] 29)).alloc (.cells #[.int .i64 n] 3)).heap.size = w.heap.size + 1 + 1 + 1 by simp] at this
theorem zpR (w : World) (s : ByteArray) (iv : Value) (n : Int) : (TrW w s iv n).rangeAt (w.heap.size + 1 + 1 + 1) 0 (zai zbD (.slice none 0 0) 0):=by
 rw [zsp]
 have:=zex (((w.alloc (.cells #[.string s] 9)).alloc (.cells #[iv] 29)).alloc (.cells #[.int .i64 n] 3)) [.int .i64 0,.int .i64 0,.int .i64 0,.int .i64 0,.int .i64 0,.int .i64 0,.int .i64 0,.int .i64 0,.int .i64 0,.int .i64 0,.int .i64 0,.int .i64 0,.int .i64 0,.int .i64 0,.int .i64 0,.int .i64 0,.int .i64 0,.int .i64 0,.int .i64 0,.int .i64 0,.int .i64 0,.int .i64 0,.int .i64 0,.int .i64 0,.int .i64 0,.slice none 0 0,.int .i64 0,.int .i64 0,.int .i64 0,.int .i64 0] 34
 rwa [show (((w.alloc (.cells #[.string s] 9)).alloc (.cells #[iv] 29)).alloc (.cells #[.int .i64 n] 3)).heap.size = w.heap.size + 1 + 1 + 1 by simp] at this
theorem zha (w : World) : Below w.heap.size w (OutW w):=((Below.refl _ _).alloc (Nat.le_refl _) _).alloc (by simp) _
theorem TrIn.below {w w' : World} {pt ps pi pr : Nat} {s : ByteArray} {iv : Value} {n : Int} (T : TrIn w pt ps pi pr s iv n) (hb : Below w.heap.size w w') : TrIn w' pt ps pi pr s iv n:=by
 obtain ⟨t1,t2,t3,t4,t5⟩:=T
 refine ⟨still hb t1,still hb t2,still hb t3,zaw t4 hb ?_,t5⟩
 obtain ⟨u,hu⟩:=Option.isSome_iff_exists.1 (t4 0 (by omega)).1
 exact World.block_lt_of_cell? w _ hu
theorem zcL {w w' : World} {B b o : Nat} {cs : List Value} (h : w.rangeAt b o cs) (hb : Below B w w') (hB : b < B) : w'.rangeAt b o cs:=fun j u hj => (hb.cell (p:=⟨b,o + j,none⟩) hB).trans (h j u hj)
theorem zd9 (w : World) (s : ByteArray) (ao : Option Addr) (m icap : Nat) (n er ln : Int)
  (hcall : Calls Tryz.prog 50 (ziB w.heap.size (w.heap.size + 1 + 1) (w.heap.size + 1) (w.heap.size + 1 + 1 + 1)) (OutW (TrW w s (.slice ao m icap) n)) fun e w' => e = zap er ln ∧ Below (OutW (TrW w s (.slice ao m icap) n)).heap.size (OutW (TrW w s (.slice ao m icap) n)) w') :
  Calls Tryz.prog 18 #[.string s,.slice ao m icap,.int .i64 n] w (zdc w ⟨zbD,0,er,ln⟩):=by
 have hmf : ∀ (fn : Go.Fn) (first cap : Array Value) (w : World),(Instr.makeFunc fn first cap).run Tryz.prog w = .ok (.func fn first cap) w:=fun _ _ _ _ => rfl
 have hout:=zfS 50 _ (TrW w s (.slice ao m icap) n) er ln (fun W => by kernel_rfl) hcall
 have hz:=zpR w s (.slice ao m icap) n
 have hsz:=zkR w s (.slice ao m icap) n
 have hbw:=zgo w s (.slice ao m icap) n
 have hth:=(znX w s (.slice ao m icap) n).state
 go_enter Tryz.func18,Tryz.ntmps18
 go_wp2_with (first | (go_at_call 42; refine hout.mono ?_; rintro e w5 ⟨rfl,hb5⟩; refine Hid.out ?_))
 unfold Hid
 have hr:=zcL hz hb5 (by rw [hsz]; omega)
 have hth5:=zaw hth hb5 (by rw [hsz]; omega)
 have hb05 : Below w.heap.size w w5:=hbw.trans (hb5.mono hbw.size)
 have hl:=zaK zbD (.slice none 0 0) 0
 have h1:=zbi zbD none 0 0 0
 generalize hds : zai zbD (.slice none 0 0) 0 = ds at hr hl h1
 have hi:=zby ds hl
 have hid : (Tryz.prog.info? 34).map (·.size) = some ds.length:=by rw [hl]; exact Tryz.info34
 have hu34 : Tryz.prog.underlying 34 = some (.struct _):=Tryz.underlying34
 have ht : w5.there (w.heap.size + 1 + 1 + 1) 0 ds.toArray.size:=by rw [show ds.toArray.size = 30 by simp [hl]]; exact hth5
 clear hz hout
 repeat (first
  | (refine wpList_load_mid rfl 34 _ rfl (w.heap.size + 1 + 1 + 1) 0 rfl ds _ hr hu34 rfl hid ?_)
  | (refine wpList_store_mid rfl 34 _ _ rfl (w.heap.size + 1 + 1 + 1) 0 ds.toArray rfl rfl ht hi h1 ?_)
  | go_values | go_skip | go_guarded | go_step | go_upon | go_back)
 exact ziC (T:=⟨zbD,0,er,ln⟩) (w.heap.size + 1 + 1 + 1) (by omega) Tryz.results18 ds hds ht hb05 (World.ownsRow_nil _ _ _ _) (by simp [Value.ownBlock]) rfl rfl rfl rfl
theorem zjT {w w' : World} {b o : Nat} {cs : List Value} (h : w.rangeAt b o cs) (e : w'.heap[b]? = w.heap[b]?) : w'.rangeAt b o cs:=fun j u hj => (World.cell?_of_block (w:=w) (a:=⟨b,o + j,none⟩) e).trans (h j u hj)
theorem zjU {w w' : World} {b o n : Nat} (h : w.there b o n) (e : w'.heap[b]? = w.heap[b]?) : w'.there b o n:=fun j hj => by
 obtain ⟨h1,h2⟩:=h j hj
 exact ⟨by rw [World.cell?_of_block (w:=w) (a:=⟨b,o + j,none⟩) e]; exact h1,by rw [World.frozen?_of_block (w:=w) (a:=⟨b,o + j,none⟩) e]; exact h2⟩
theorem zmd {W w1 : World} {pr : Nat} {m : Mc} {line : Int} (hpr : pr < W.heap.size) (h : znW (OutW W) pr m line w1) :
  w1.cell? ⟨W.heap.size,0,none⟩ = some (.int .i64 0) ∧ w1.cell? ⟨W.heap.size + 1,0,none⟩ = some (.int .i64 0) ∧ w1.frozen? ⟨W.heap.size,0,none⟩ = false ∧ w1.frozen? ⟨W.heap.size + 1,0,none⟩ = false:=by
 obtain ⟨wz,ao,no,co,rfl,hb,_⟩:=h
 have hs : (OutW W).heap.size = W.heap.size + 1 + 1:=by simp
 have e0 : (wz.setCells pr 0 (zai m (.slice ao no co) line)).heap[W.heap.size]? = (OutW W).heap[W.heap.size]?:=(za0 _ wz pr 0 _ (by omega)).trans (hb.block _ (by omega))
 have e1 : (wz.setCells pr 0 (zai m (.slice ao no co) line)).heap[W.heap.size + 1]? = (OutW W).heap[W.heap.size + 1]?:=(za0 _ wz pr 0 _ (by omega)).trans (hb.block _ (by omega))
 refine ⟨?_,?_,?_,?_⟩
 ·rw [World.cell?_of_block (w:=OutW W) (a:=⟨W.heap.size,0,none⟩) e0]; simp [OutW]
 ·rw [World.cell?_of_block (w:=OutW W) (a:=⟨W.heap.size + 1,0,none⟩) e1]; simp [OutW]
 ·rw [World.frozen?_of_block (w:=OutW W) (a:=⟨W.heap.size,0,none⟩) e0]; simp [OutW]
 ·rw [World.frozen?_of_block (w:=OutW W) (a:=⟨W.heap.size + 1,0,none⟩) e1]; simp [OutW]
theorem znY (w : World) (s : ByteArray) (ao : Option Addr) (m icap : Nat) (n : Int) (FIN : Mc)
  (hcall : Calls Tryz.prog 50 (ziB w.heap.size (w.heap.size + 1 + 1) (w.heap.size + 1) (w.heap.size + 1 + 1 + 1)) (OutW (TrW w s (.slice ao m icap) n)) fun e w' => e = .returned (.tuple #[]) ∧ znW (OutW (TrW w s (.slice ao m icap) n)) (w.heap.size + 1 + 1 + 1) FIN FIN.line w') :
  Calls Tryz.prog 18 #[.string s,.slice ao m icap,.int .i64 n] w (zdc w ⟨FIN,FIN.line,0,0⟩):=by
 have hmf : ∀ (fn : Go.Fn) (first cap : Array Value) (w : World),(Instr.makeFunc fn first cap).run Tryz.prog w = .ok (.func fn first cap) w:=fun _ _ _ _ => rfl
 have hsz:=zkR w s (.slice ao m icap) n
 have hout:=zjt 50 _ (TrW w s (.slice ao m icap) n) _ (fun W => by kernel_rfl) hcall (fun w1 h => zmd (by rw [hsz]; omega) h)
 have hbw:=zgo w s (.slice ao m icap) n
 have hth:=(znX w s (.slice ao m icap) n).state
 have hbo:=zha (TrW w s (.slice ao m icap) n)
 have hso : (OutW (TrW w s (.slice ao m icap) n)).heap.size = w.heap.size + 1 + 1 + 1 + 1 + 1 + 1:=by simp
 go_enter Tryz.func18,Tryz.ntmps18
 go_wp2_with (first | (go_at_call 42; refine hout.mono ?_; rintro e w5 ⟨rfl,w1,hq,hw5⟩; have HW5 : Hid _:=hw5; clear hw5; refine Hid.out ?_))
 have hw5:=HW5.out
 clear HW5
 unfold Hid
 obtain ⟨wz,oo,no,co,rfl,hbz,hrow⟩:=hq
 have hl:=zaK FIN (.slice oo no co) FIN.line
 have h1:=zbi FIN oo no co FIN.line
 generalize hds : zai FIN (.slice oo no co) FIN.line = ds at hw5 hl h1
 have hthz:=zaw (zaw hth hbo (by rw [hsz]; omega)) hbz (by rw [hso]; omega)
 have hrz:=World.rangeAt_setCells_same wz (w.heap.size + 1 + 1 + 1) 0 ds (by rw [hl]; exact hthz)
 have hthz2:=World.there_setCells hthz (w.heap.size + 1 + 1 + 1) 0 ds
 have hbz2 : Below w.heap.size w (wz.setCells (w.heap.size + 1 + 1 + 1) 0 ds):=za6 ds 0 (hbw.trans ((hbo.mono hbw.size).trans (hbz.mono (by rw [hso]; omega)))) (by omega)
 have hrow2 : (wz.setCells (w.heap.size + 1 + 1 + 1) 0 ds).ownsRow (OutW (TrW w s (.slice ao m icap) n)).heap.size 2 1 (.slice oo no co) FIN.out.length (i64s FIN.out):=zad hrow (fun q hq => za0 ds wz _ _ _ (by have:=(hrow.lt q hq).1; omega))
 generalize wz.setCells (w.heap.size + 1 + 1 + 1) 0 ds = X at hw5 hrz hthz2 hbz2 hrow2
 have eb : ∀ b,¬ b = (TrW w s (.slice ao m icap) n).heap.size → ¬ b = (TrW w s (.slice ao m icap) n).heap.size + 1 → w5.heap[b]? = X.heap[b]?:=fun b n0 n1 => by
  rw [hw5,Below.heap_setCell _ _ _ _ (by exact n1),Below.heap_setCell _ _ _ _ (by exact n0)]
 have hr:=zjT hrz (eb _ (by omega) (by omega))
 have hth5:=zjU hthz2 (eb _ (by omega) (by omega))
 have hb05 : Below w.heap.size w w5:=by
  rw [hw5]
  exact (hbz2.setCell (p:=⟨(TrW w s (.slice ao m icap) n).heap.size,0,none⟩) (by show w.heap.size ≤ (TrW w s (.slice ao m icap) n).heap.size; omega) _).setCell (p:=⟨(TrW w s (.slice ao m icap) n).heap.size + 1,0,none⟩) (by show w.heap.size ≤ (TrW w s (.slice ao m icap) n).heap.size + 1; omega) _
 have hrow5 : w5.ownsRow (OutW (TrW w s (.slice ao m icap) n)).heap.size 2 1 (.slice oo no co) FIN.out.length (i64s FIN.out):=zad hrow2 (fun q hq => eb q (by have:=(hrow2.lt q hq).1; omega) (by have:=(hrow2.lt q hq).1; omega))
 have hi:=zby ds hl
 have hid : (Tryz.prog.info? 34).map (·.size) = some ds.length:=by rw [hl]; exact Tryz.info34
 have hu34 : Tryz.prog.underlying 34 = some (.struct _):=Tryz.underlying34
 have ht : w5.there (w.heap.size + 1 + 1 + 1) 0 ds.toArray.size:=by rw [show ds.toArray.size = 30 by simp [hl]]; exact hth5
 clear hout hw5 eb hrz hthz2 hrow2 hbz2 hrow hbz hthz
 repeat (first
  | (refine wpList_load_mid rfl 34 _ rfl (w.heap.size + 1 + 1 + 1) 0 rfl ds _ hr hu34 rfl hid ?_)
  | (refine wpList_store_mid rfl 34 _ _ rfl (w.heap.size + 1 + 1 + 1) 0 ds.toArray rfl rfl ht hi h1 ?_)
  | go_values | go_skip | go_guarded | go_step | go_upon | go_back)
 exact ziC (T:=⟨FIN,FIN.line,0,0⟩) (w.heap.size + 1 + 1 + 1) (by omega) Tryz.results18 ds hds ht hb05 (zbu hrow5 (by omega)) (fun q hq => by have:=(hrow5.lt q hq).1; omega) rfl rfl rfl rfl
theorem zdY {e : Int} {o : Option Int} {c : Int × Int} (h : zcO e o c = (0,0)) (he : ¬ e = 0) : o = none ∧ c = (0,0):=by
 cases o with
 | none => exact ⟨rfl,h⟩
 | some l => exact absurd (congrArg Prod.fst h) he
theorem zhy (A : List ByteArray) (i j : Nat) (hj : j < A.length) (hij : i ≤ j) (hb : (say A[j]).ok = false) : ¬ zbs A i = (0,0):=by
 have hi : i < A.length:=by omega
 cases hc : (say A[i]).ok with
 | false => rw [zeh A i hi hc]; exact fun e => absurd (congrArg Prod.fst e) (show ¬ (1 : Int) = 0 by decide)
 | true =>
  rw [zeg A i hi hc]
  have hne : ¬ i = j:=fun e => by subst e; rw [hb] at hc; cases hc
  exact zhy A (i + 1) j hj (by omega) hb
termination_by A.length - i
theorem zkT (s : ByteArray) (h : zd1 s = (0,0)) : zjS s ((lines s).map say):=by
 have hgood:=znr s h
 unfold zd1 at h
 by_cases hf : 4000 < s.size ∨ 300 < (lines s).length
 ·rw [if_pos hf] at h; exact absurd (congrArg Prod.fst h) (by decide)
 ·rw [if_neg hf] at h
  have h4 : s.size ≤ 4000:=by omega
  have h3 : (lines s).length ≤ 300:=by omega
  by_cases hok : ∀ x ∈ lines s,(say x).ok = true
  ·rw [zdt _ hok 0,zds _ hok] at h
   have S : Sts s (za8 (lines s) (lines s).length):=⟨h4,h3,hok,rfl⟩
   have hka:=zho (lines s)
   generalize za8 (lines s) (lines s).length = K at S h hka
   cases K with
   | nil => exact absurd (congrArg Prod.fst h) (by decide)
   | cons k r =>
    unfold sayK at h
    dsimp only at h
    by_cases h0 : k.sort = 0
    ·rw [if_pos h0] at h
     obtain ⟨ht,h⟩:=zdY h (by decide)
     obtain ⟨hm,h⟩:=zdY h (by decide)
     obtain ⟨he,_⟩:=zdY h (by decide)
     intro w hw
     refine (zgS s k r S h0 ht _ rfl hm he w hw).mono ?_
     rintro e w' ⟨hb,pm,ao,n,cap,F,rfl,hP,hG,hF0,hFn,hFi⟩
     refine ⟨hb,pm,ao,n,cap,F,rfl,hP,⟨hgood,zgm _ 0 k r hka.symm h0,?_,hF0⟩,hFn,hFi⟩
     rw [hG.out]; exact zjR _ 0 k r hka.symm h0
    ·rw [if_neg h0] at h
     exact absurd (congrArg Prod.fst h) (show ¬ (2 : Int) = 0 by decide)
  ·exfalso
   have : ∃ x ∈ lines s,¬ (say x).ok = true:=by
    refine Classical.byContradiction fun hn => hok fun x hx => ?_
    refine Classical.byContradiction fun hx' => hn ⟨x,hx,hx'⟩
   obtain ⟨x,hx,hb⟩:=this
   obtain ⟨j,hj,rfl⟩:=List.mem_iff_getElem.1 hx
   exact zhy (lines s) 0 j hj (by omega) (by simpa using hb) h
theorem zme (s : ByteArray) (w : World) (hw : LibW w) (ao : Option Addr) (icap : Nat) (n : Int) (inp : List Int) (hs : s.size ≤ 9223372036854775807) (hiv : SlB w w.heap.size (.slice ao inp.length icap) inp) (hin : inp.length ≤ 9223372036854775807) :
  Calls Tryz.prog 18 #[.string s,.slice ao inp.length icap,.int .i64 n] w (zdc w (zew s inp n)):=by
 have hbw:=zgo w s (.slice ao inp.length icap) n
 have hbo:=zha (TrW w s (.slice ao inp.length icap) n)
 have hb2 : Below w.heap.size w (OutW (TrW w s (.slice ao inp.length icap) n)):=hbw.trans (hbo.mono hbw.size)
 have hw2:=hw.below hb2
 have T:=(znX w s (.slice ao inp.length icap) n).below hbo
 unfold zew
 by_cases hR : zd1 s = (0,0)
 ·rw [if_neg (by simpa using hR)]
  by_cases h0 : n < 0 ∨ 100000 < n
  ·rw [if_pos h0]
   exact zd9 w s ao _ icap n 7 0 (znU _ hw2 _ _ _ _ s _ n T _ (zkT s hR) h0)
  ·rw [if_neg h0]
   obtain ⟨k,rfl⟩:=Int.eq_ofNat_of_zero_le (show 0 ≤ n by omega)
   exact znY w s ao _ icap _ _ (zpQ _ hw2 _ _ _ _ s ao icap k inp T _ (zkT s hR) (by omega) (hiv.mono hb2) hin _ rfl)
 ·rw [if_pos hR]
  exact zd9 w s ao _ icap n _ _ (zpO _ hw2 _ _ _ _ s _ n T (zd1 s) hR (znA s hs))
theorem SlN.below {w w' : World} {v : Value} {l : List Int} (h : SlN w v l) (hb : Below w.heap.size w w') : SlN w' v l:=by
 obtain ⟨ao,cap,h1,h3⟩:=h
 exact ⟨ao,cap,h1,fun hp => by obtain ⟨g,o,a,d⟩:=h3 hp; exact ⟨g,o,a,fun j hj => still hb (d j hj)⟩⟩
section
end
end Go.Proofs.YtfpgjkbjbbgciaaGreatDoor
namespace Go.Proofs.YtfpgjkbjbbgciaaGreatDoor
open Go.ChangeShapes Go.WideShapes Go.ChangeAt Go.RowKit Sp
open Go.ChangeMaps (open_string shut_string)
theorem zhc {H : Type} (l r : List (DataW H)) : l.length + r.length ≤ Rows.uptoBulk (.slice l r):=by
 have key : ∀ l : List (DataW H),l.length ≤ Rows.uptoBulkAll l:=by
  intro l
  induction l with
  | nil => simp
  | cons d l ih =>
   have : 1 ≤ Rows.uptoBulk d:=by
    cases d with
    | lit l => cases l <;> simp [Rows.uptoBulk]
    | _ => simp [Rows.uptoBulk]
   simp only [Rows.uptoBulkAll,List.length_cons]
   omega
 have h1:=key l
 have h2:=key r
 simp only [Rows.uptoBulk]
 omega
end Go.Proofs.YtfpgjkbjbbgciaaGreatDoor
namespace Go.Proofs.YtfpgjkbjbbgciaaGreatDoor
open Go.RowKit Sp
end Go.Proofs.YtfpgjkbjbbgciaaGreatDoor
namespace Go.Proofs.YtfpgjkbjbbgciaaGreatDoor
open Go.ChangeShapes Go.WideShapes Go.ChangeAt Go.RowKit Sp
end Go.Proofs.YtfpgjkbjbbgciaaGreatDoor
namespace Go.Proofs.YtfpgjkbjbbgciaaGreatDoor
open Go.RowKit Sp
section
end
end Go.Proofs.YtfpgjkbjbbgciaaGreatDoor
namespace Go.Proofs.YtfpgjkbjbbgciaaGreatDoor
open Go.ChangeShapes Go.WideShapes Go.ChangeAt Go.RowKit Sp
theorem wf_i64 {n : Int} (h : (Lit.int .i64 n).wf = true) : i64 n:=by
 simp only [Lit.wf,Bool.and_eq_true,decide_eq_true_eq] at h
 exact h
end Go.Proofs.YtfpgjkbjbbgciaaGreatDoor
namespace Go.Proofs.YtfpgjkbjbbgciaaGreatDoor
open Go.ChangeShapes Go.WideShapes Go.ChangeAt Go.RowKit Sp
open Go.ChangeMaps (open_string shut_string)
theorem zjY {H : Type} {enc : TypeId × Value → H} {W : World} {base : Nat} {v : Value} {d : DataW H} {p : List MemPlace} (hval : Value.okWide Tryz.prog W .any base 29 v) (h : DataW.Trod enc Tryz.prog W 0 (fun _ => true) true 29 v d p) :
  ∃ (ao : Option Addr) (icap : Nat) (inp : List Int),v = .slice ao inp.length icap ∧ SlB W W.heap.size (.slice ao inp.length icap) inp ∧ inp.length ≤ Rows.uptoBulk d ∧ (∀ x ∈ inp,i64 x) ∧ inp.length ≤ 9223372036854775807 ∧
   ∀ W',Below W.heap.size W W' → DataW.Trod enc Tryz.prog W' 0 (fun b => decide (b < W.heap.size)) true 29 v d p:=by
 obtain ⟨a0,len0,cap0,rfl⟩:=okWide_slice Tryz.underlying29 hval
 obtain ⟨fuel,hf⟩:=h
 have hc : Tryz.prog.cellsOf 2 = 1:=by kernel_rfl
 rcases open_ints Tryz.underlying29 Tryz.underlying2 hc hf with ⟨hcs,hx⟩ | ⟨a,len,cap,zs,hcs,_,hle,hmax,hall,hx,hcell,hwf⟩
 ·simp [Value.cells] at hcs
  obtain ⟨rfl,rfl,rfl⟩:=hcs
  simp only [Prod.mk.injEq] at hx
  obtain ⟨rfl,rfl⟩:=hx
  refine ⟨none,0,[],rfl,⟨none,0,rfl,Nat.le_refl _,fun h => by simp at h⟩,Nat.zero_le _,(fun x hx => (by cases hx)),Nat.zero_le _,fun W' _ => ⟨1,?_⟩⟩
  simp [DataW.trod,Value.cells,Tryz.underlying29]
 ·simp [Value.cells] at hcs
  obtain ⟨rfl,rfl,rfl⟩:=hcs
  simp only [Prod.mk.injEq] at hx
  obtain ⟨rfl,rfl⟩:=hx
  simp only [if_true] at hall
  have hlt : (zs.take len0).length = len0:=by rw [List.length_take]; omega
  refine ⟨some a,cap0,zs.take len0,by rw [hlt],⟨some a,cap0,rfl,by omega,fun hp => ?_⟩,?_,fun x hx => ?_,by rw [hlt]; exact Nat.le_trans hle (Nat.le_trans hmax (by decide)),fun W' hb => ⟨2,?_⟩⟩
  ·obtain ⟨b,off,rfl,hat⟩:=ints_at hcell (by omega)
   have hbl : b < W.heap.size:=World.block_lt_of_cell? W _ (hat 0 (by omega))
   refine ⟨b,off,rfl,hbl,hbl,fun j hj => ?_⟩
   rw [hat j (by omega)]
   simp [List.getD,show j < zs.length by omega]
  ·have:=zhc (lits (H:=H) .i64 (zs.take len0)) (lits .i64 (zs.drop len0))
   have hll : (lits (H:=H) .i64 (zs.take len0)).length = (zs.take len0).length:=by simp [lits]
   rw [hll] at this
   exact Nat.le_trans (Nat.le_add_right _ _) this
  ·have:=hwf x (List.mem_of_mem_take hx)
   simp only [Lit.wf,Bool.and_eq_true,decide_eq_true_eq] at this
   exact this
  ·have hz : zs.length = (if decide (a.block < W.heap.size) = true then cap0 else len0):=by
    by_cases h0 : 0 < zs.length
    ·have : a.block < W.heap.size:=by
      have:=World.block_lt_of_cell? W _ (hcell 0 h0)
      simpa [Addr.add] using this
     rw [if_pos (by simpa using this)]; exact hall
    ·split <;> omega
   have:=shut_ints (enc:=enc) (P:=Tryz.prog) (w:=W') (base:=0) (spare:=fun b => decide (b < W.heap.size)) (held:=true) 0 Tryz.underlying29 Tryz.underlying2 hc (Nat.zero_le _) hle hmax hz (fun i hi => still hb (hcell i hi)) hwf
   simpa [Value.cells] using this
end Go.Proofs.YtfpgjkbjbbgciaaGreatDoor
namespace Go.Proofs.YtfpgjkbjbbgciaaGreatDoor
open Go.RowKit Sp
def toIt (k : Key) : It:=⟨k.sort,k.line,k.word,k.nm,k.a,k.b,k.c,k.n⟩
def zrh (f : Fn) : FnM:=⟨f.name,f.line,f.body.map toIt,undef,0⟩
theorem zpV (l : List Fn) : (l.map zrh).map FnM.fn = l:=by
 rw [List.map_map]
 have : (FnM.fn ∘ zrh) = id:=funext fun f => by
  show (⟨f.name,f.line,(f.body.map toIt).map It.key⟩ : Fn) = f
  rw [List.map_map,show (It.key ∘ toIt) = id from funext fun k => rfl,List.map_id]
 rw [this,List.map_id]
theorem zpW (F : List Fn) (k : Key) : F.length ≤ (addK F k).length:=by
 unfold addK
 split
 ·rw [List.length_append]; omega
 ·cases h : F.getLast? with
  | none => exact Nat.le_refl _
  | some f =>
   have : F ≠ []:=fun e => by rw [e] at h; cases h
   simp only [List.length_append,List.length_dropLast,List.length_singleton]
   have:=List.length_pos_iff.2 this
   omega
theorem zg3 (K : List Key) (F : List Fn) : F.length ≤ (K.foldl addK F).length:=by
 induction K generalizing F with
 | nil => exact Nat.le_refl _
 | cons k r ih => exact Nat.le_trans (zpW F k) (ih _)
theorem zjW (s : ByteArray) (h : zd1 s = (0,0)) : ∃ F,Right ((lines s).map say) F:=by
 have hgood:=znr s h
 unfold zd1 at h
 by_cases hf : 4000 < s.size ∨ 300 < (lines s).length
 ·rw [if_pos hf] at h; exact absurd (congrArg Prod.fst h) (by decide)
 ·rw [if_neg hf] at h
  by_cases hok : ∀ x ∈ lines s,(say x).ok = true
  ·rw [zdt _ hok 0,zds _ hok] at h
   have hka:=zho (lines s)
   generalize za8 (lines s) (lines s).length = K at h hka
   cases K with
   | nil => exact absurd (congrArg Prod.fst h) (by decide)
   | cons k r =>
    unfold sayK at h
    dsimp only at h
    by_cases h0 : k.sort = 0
    ·have hfn:=zjR _ 0 k r hka.symm h0
     refine ⟨(za3 ((lines s).map say) 0).map zrh,hgood,zgm _ 0 k r hka.symm h0,zpV _,?_⟩
     rw [List.length_map,← hfn]
     have h1 : 0 < (addK [] k).length:=by unfold addK; rw [if_pos h0]; simp
     exact Nat.lt_of_lt_of_le h1 (zg3 r _)
    ·rw [if_neg h0] at h
     exact absurd (congrArg Prod.fst h) (show ¬ (2 : Int) = 0 by decide)
  ·exfalso
   have : ∃ x ∈ lines s,¬ (say x).ok = true:=by
    refine Classical.byContradiction fun hn => hok fun x hx => ?_
    refine Classical.byContradiction fun hx' => hn ⟨x,hx,hx'⟩
   obtain ⟨x,hx,hb⟩:=this
   obtain ⟨j,hj,rfl⟩:=List.mem_iff_getElem.1 hx
   exact zhy (lines s) 0 j hj (by omega) (by simpa using hb) h
theorem zkV (f : Mc → Mc) (a b : Nat) (m : Mc) : runS f (a + b) m = runS f b (runS f a m):=by
 induction a generalizing m with
 | zero => rw [Nat.zero_add]; rfl
 | succ a ih =>
  by_cases h : m.fin = 0
  ·rw [show a + 1 + b = a + b + 1 by omega,zcm _ _ _ h,zcm _ _ _ h,ih]
  ·rw [zbb _ _ _ h,zbb _ _ _ h,zbb _ _ _ h]
structure Later (m m' : Mc) : Prop where
 out : ∃ t,m'.out = m.out ++ t
 peak : m.peak ≤ m'.peak
 steps : m.steps ≤ m'.steps
theorem Later.refl (m : Mc) : Later m m:=⟨⟨[],by simp⟩,Int.le_refl _,Int.le_refl _⟩
theorem Later.trans {a b c : Mc} (h : Later a b) (h2 : Later b c) : Later a c:=by
 obtain ⟨t,ht⟩:=h.out
 obtain ⟨u,hu⟩:=h2.out
 exact ⟨⟨t ++ u,by rw [hu,ht,List.append_assoc]⟩,Int.le_trans h.peak h2.peak,Int.le_trans h.steps h2.steps⟩
theorem za4 {m m1 : Mc} (z : Int) (h : Later m m1) : Later m (m1.goes z):=⟨h.out,h.peak,by show m.steps ≤ m1.steps + 1; have:=h.steps; omega⟩
theorem zmf (i : Ins) (next : Int) (m : Mc) : Later m (exec i next m):=by
 have same : ∀ m1 : Mc,m1.out = m.out → m1.peak = m.peak → m1.steps = m.steps → Later m m1:=fun m1 h1 h2 h3 => ⟨⟨[],by rw [h1]; simp⟩,by rw [h2]; exact Int.le_refl _,by rw [h3]; exact Int.le_refl _⟩
 cases i with
 | set r k => exact za4 _ (same _ rfl rfl rfl)
 | mov r s => exact za4 _ (same _ rfl rfl rfl)
 | alu o r s t => exact za4 _ (same _ rfl rfl rfl)
 | inc r k => exact za4 _ (same _ rfl rfl rfl)
 | load r s =>
  unfold exec
  dsimp only
  split
  ·exact same _ rfl rfl rfl
  ·exact za4 _ (same _ rfl rfl rfl)
 | store r s =>
  unfold exec
  dsimp only
  split
  ·exact same _ rfl rfl rfl
  ·exact za4 _ (same _ rfl rfl rfl)
 | read r => exact za4 _ (same _ rfl rfl rfl)
 | write r => exact za4 _ ⟨⟨[m.regs r],rfl⟩,Int.le_refl _,Int.le_refl _⟩
 | jump to => exact za4 _ (Later.refl m)
 | less r s to => exact za4 _ (Later.refl m)
 | same r s to => exact za4 _ (Later.refl m)
 | call to =>
  unfold exec
  dsimp only
  split
  ·exact same _ rfl rfl rfl
  ·exact za4 _ ⟨⟨[],by simp⟩,by show m.peak ≤ max m.peak (m.frames + 1); omega,Int.le_refl _⟩
 | back =>
  unfold exec
  dsimp only
  split
  ·exact za4 _ (same _ rfl rfl rfl)
  ·exact za4 _ (same _ rfl rfl rfl)
 | stop => exact za4 _ (same _ rfl rfl rfl)
theorem zjZ (L : List Said) (m : Mc) : Later m (zbW L m):=by
 unfold zbW
 split
 ·exact Later.refl m
 ·exact zmf _ _ _
theorem zoc (L : List Said) (n : Nat) (m : Mc) : Later m (runS (zbW L) n m):=by
 induction n generalizing m with
 | zero => exact Later.refl m
 | succ n ih =>
  by_cases h : m.fin = 0
  ·rw [zcm _ _ _ h]
   exact (zjZ L m).trans (ih _)
  ·rw [zbb _ _ _ h]; exact Later.refl m
theorem ziF {C : List (Ins × Int)} (K : CodeOk C) (n : Nat) : ∀ {m : Mc},InvD C.length m → (runS (zcI C) n m).steps ≤ m.steps + n ∧ ((runS (zcI C) n m).fin = 0 → (runS (zcI C) n m).steps = m.steps + n):=by
 induction n with
 | zero => intro m I; exact ⟨by show m.steps ≤ m.steps + (0 : Nat); omega,fun _ => by show m.steps = m.steps + (0 : Nat); omega⟩
 | succ n ih =>
  intro m I
  by_cases h : m.fin = 0
  ·rw [zcm _ _ _ h]
   obtain ⟨p,hp,hlt⟩:=I.at_
   rw [zfw hp hlt]
   have I2:=I.step h hp (K.leads p hlt)
   obtain ⟨g1,g2⟩:=ih I2
   obtain ⟨F,_⟩:=zgi C[p].1 m h
   rcases F with ⟨_,e⟩ | ⟨hf,e⟩
   ·exact ⟨by omega,fun h0 => by have:=g2 h0; omega⟩
   ·rw [zbb _ _ _ (by omega)]
    exact ⟨by omega,fun h0 => by omega⟩
  ·rw [zbb _ _ _ h]
   exact ⟨by omega,fun h0 => absurd h0 h⟩
structure StepsOk (S T : Mc) (a b : Nat) : Prop where
 s : 0 ≤ S.steps ∧ S.steps ≤ a
 t : 0 ≤ T.steps ∧ T.steps ≤ (a : Int) + b
 out : ∃ t,T.out = S.out ++ t
 peak : S.peak ≤ T.peak
 still : ¬ S.fin = 0 → T = S
 on : S.fin = 0 → S.steps = a ∧ 0 < S.line ∧ S.steps ≤ T.steps
 few : T.out.length ≤ 100000 ∨ 100000 < a + b
theorem zqa {L : List Said} {F : List FnM} (R : Right L F) (inp : List Int) (a b : Nat) : StepsOk (runS (zbW L) a (zb9 L inp)) (runS (zbW L) (a + b) (zb9 L inp)) a b:=by
 have hbg:=R.begin inp
 have hI:=zeM R.codeOk inp
 obtain ⟨e1,I1⟩:=zjP R.sim R.codeOk a hI
 obtain ⟨e2,I2⟩:=zjP R.sim R.codeOk (a + b) hI
 have l1:=zoc L b (runS (zbW L) a (zb9 L inp))
 rw [← zkV] at l1
 obtain ⟨s1,s2⟩:=ziF R.codeOk a hI
 obtain ⟨t1,t2⟩:=ziF R.codeOk (a + b) hI
 have hst : ∀ h : ¬ (runS (zbW L) a (zb9 L inp)).fin = 0,runS (zbW L) (a + b) (zb9 L inp) = runS (zbW L) a (zb9 L inp):=fun h => by rw [zkV,zbb _ _ _ h]
 have hl1:=zkA R.sim I1
 rw [hbg] at l1 hst ⊢
 rw [e1,e2] at l1 hst ⊢
 have z : (zbH inp).steps = 0:=rfl
 rw [z] at s1 s2 t1 t2
 refine ⟨⟨I1.steps,?_⟩,⟨I2.steps,?_⟩,l1.out,l1.peak,hst,fun h => ⟨?_,?_,l1.steps⟩,?_⟩
 ·show (runS (zcI (zaq F)) a (zbH inp)).steps ≤ _; omega
 ·show (runS (zcI (zaq F)) (a + b) (zbH inp)).steps ≤ _; omega
 ·have:=s2 h
  show (runS (zcI (zaq F)) a (zbH inp)).steps = _; omega
 ·rw [hl1]
  have h0 : (runS (zcI (zaq F)) a (zbH inp)).fin = 0:=h
  unfold zeL
  rw [if_neg (by omega)]
  obtain ⟨p,hp,hlt⟩:=I1.at_
  rw [hp,Int.toNat_natCast,List.getElem?_eq_getElem hlt]
  obtain ⟨k,_,_,_,h2,_⟩:=R.sim.line p hlt
  show 0 < (zaq F)[p].2
  omega
 ·have:=I2.out
  by_cases hh : a + b ≤ 100000
  ·left
   show (runS (zcI (zaq F)) (a + b) (zbH inp)).out.length ≤ 100000
   omega
  ·right; omega
end Go.Proofs.YtfpgjkbjbbgciaaGreatDoor
