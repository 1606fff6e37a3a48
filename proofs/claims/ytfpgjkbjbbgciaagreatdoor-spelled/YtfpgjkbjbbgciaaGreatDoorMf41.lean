import Derived.Test.YtfpgjkbjbbgciaaGreatDoorMf25
import Derived.Test.YtfpgjkbjbbgciaaGreatDoorMf40
set_option maxRecDepth 100000
set_option maxHeartbeats 8000000
namespace Go.Proofs.YtfpgjkbjbbgciaaGreatDoor
open Go.RowKit Sp
def zaL (C : List (Ins × Int)) : List Value:=C.flatMap (fun q => [.iface (insT q.1) (.agg (insA q.1)),.int .i64 q.2])
theorem zg2 (C : List (Ins × Int)) (q : Ins × Int) : zaL (C ++ [q]) = zaL C ++ [.iface (insT q.1) (.agg (insA q.1)),.int .i64 q.2]:=by simp [zaL]
theorem zfk (C : List (Ins × Int)) (k : Nat) (h : k < C.length) : (zaL C)[k * 2]? = some (.iface (insT C[k].1) (.agg (insA C[k].1))) ∧ (zaL C)[k * 2 + 1]? = some (.int .i64 C[k].2):=by
 induction C generalizing k with
 | nil => simp at h
 | cons i l ih =>
  have e : zaL (i :: l) = .iface (insT i.1) (.agg (insA i.1)) :: .int .i64 i.2 :: zaL l:=by simp [zaL]
  rw [e]
  cases k with
  | zero => exact ⟨rfl,rfl⟩
  | succ k =>
   have:=ih k (by simpa using h)
   rw [show (k + 1) * 2 = k * 2 + 1 + 1 by omega]
   simpa using this
theorem znT {w : World} {B : Nat} {v : Value} {C : List (Ins × Int)} (h : w.ownsRow B 140 2 v C.length (zaL C)) (hp : 0 < C.length) :
  ∃ g cap,v = .slice (some ⟨g,0,none⟩) C.length cap ∧ B ≤ g ∧ g < w.heap.size ∧ CodeIn w g C:=by
 obtain ⟨g,cap,rfl,hb,hlt⟩:=h.form hp
 refine ⟨g,cap,rfl,hb,hlt,fun j hj => ⟨?_,?_⟩⟩
 ·rw [World.ownsRow.cellAt h (j * 2) (by omega),(zfk C j hj).1]
 ·rw [World.ownsRow.cellAt h (j * 2 + 1) (by omega),(zfk C j hj).2]
theorem zpM {α : Type} (C : List α) (p : Nat) (q : α) (h : C[p]? = some q) : C.take (p + 1) = C.take p ++ [q]:=by
 rw [List.take_add_one,h]; rfl
theorem Tryz.info140 : (Tryz.prog.info? 140).map (fun i => (i.zero,i.size,i.bytes)) = some (some (.agg #[.nilIface,.int .i64 0]),2,24):=by kernel_rfl
theorem Tryz.under93 : Tryz.prog.underlying 93 = some (.slice 140):=by kernel_rfl
def zrT (w : World) (C : List (Ins × Int)) : Ending → World → Prop:=fun e w' => ∃ g cap,e = .returned (.slice (some ⟨g,0,none⟩) C.length cap) ∧ w.heap.size ≤ g ∧ g < w'.heap.size ∧ CodeIn w' g C ∧ Below w.heap.size w w'
theorem zrd {w : World} {B bg cap : Nat} {F : List FnM} (h : w.ownsRow B 3 1 (.slice (some ⟨bg,0,none⟩) F.length cap) F.length (i64s (begF F))) (k : Nat) (hk : k < F.length) : w.cell? ⟨bg,k,none⟩ = some (.int .i64 (lenF (F.take k) : Int)):=by
 rw [World.ownsRow.cellAt h k (by omega)]
 simp [begF,hk]
theorem zfl {W W' : World} {pb sb : Nat} {v0 v1 v2 v3 v4 v5 v6 v7 v8 v9 v10 : Value} (hb : Below W.heap.size W W') (h : W.cell? ⟨pb,0,none⟩ = some (v0) ∧ W.cell? ⟨pb,1,none⟩ = some (v1) ∧ W.cell? ⟨pb,2,none⟩ = some (v2) ∧ W.cell? ⟨sb,0,none⟩ = some (v3) ∧ W.cell? ⟨sb,1,none⟩ = some (v4) ∧ W.cell? ⟨sb,2,none⟩ = some (v5) ∧ W.cell? ⟨sb,3,none⟩ = some (v6) ∧ W.cell? ⟨sb,4,none⟩ = some (v7) ∧ W.cell? ⟨sb,5,none⟩ = some (v8) ∧ W.cell? ⟨sb,6,none⟩ = some (v9) ∧ W.cell? ⟨sb,7,none⟩ = some (v10)) :
  W'.cell? ⟨pb,0,none⟩ = some (v0) ∧ W'.cell? ⟨pb,1,none⟩ = some (v1) ∧ W'.cell? ⟨pb,2,none⟩ = some (v2) ∧ W'.cell? ⟨sb,0,none⟩ = some (v3) ∧ W'.cell? ⟨sb,1,none⟩ = some (v4) ∧ W'.cell? ⟨sb,2,none⟩ = some (v5) ∧ W'.cell? ⟨sb,3,none⟩ = some (v6) ∧ W'.cell? ⟨sb,4,none⟩ = some (v7) ∧ W'.cell? ⟨sb,5,none⟩ = some (v8) ∧ W'.cell? ⟨sb,6,none⟩ = some (v9) ∧ W'.cell? ⟨sb,7,none⟩ = some (v10):=by
 obtain ⟨h0,h1,h2,h3,h4,h5,h6,h7,h8,h9,h10⟩:=h
 exact ⟨still hb h0,still hb h1,still hb h2,still hb h3,still hb h4,still hb h5,still hb h6,still hb h7,still hb h8,still hb h9,still hb h10⟩
theorem far {w w' : World} {row : Option Nat} (hg : w.grownBy w' row) {p : Addr} {v : Value} (hne : some p.block ≠ row) (h : w.cell? p = some v) : w'.cell? p = some v:=(hg.cell_far p (World.block_lt_of_cell? w p h) hne).trans h
theorem ziA {W W' : World} {pb sb : Nat} {v0 v1 v2 v3 v4 v5 v6 v7 v8 v9 v10 : Value} {row : Option Nat} (hg : W.grownBy W' row) (n1 : some pb ≠ row) (n2 : some sb ≠ row) (h : W.cell? ⟨pb,0,none⟩ = some (v0) ∧ W.cell? ⟨pb,1,none⟩ = some (v1) ∧ W.cell? ⟨pb,2,none⟩ = some (v2) ∧ W.cell? ⟨sb,0,none⟩ = some (v3) ∧ W.cell? ⟨sb,1,none⟩ = some (v4) ∧ W.cell? ⟨sb,2,none⟩ = some (v5) ∧ W.cell? ⟨sb,3,none⟩ = some (v6) ∧ W.cell? ⟨sb,4,none⟩ = some (v7) ∧ W.cell? ⟨sb,5,none⟩ = some (v8) ∧ W.cell? ⟨sb,6,none⟩ = some (v9) ∧ W.cell? ⟨sb,7,none⟩ = some (v10)) :
  W'.cell? ⟨pb,0,none⟩ = some (v0) ∧ W'.cell? ⟨pb,1,none⟩ = some (v1) ∧ W'.cell? ⟨pb,2,none⟩ = some (v2) ∧ W'.cell? ⟨sb,0,none⟩ = some (v3) ∧ W'.cell? ⟨sb,1,none⟩ = some (v4) ∧ W'.cell? ⟨sb,2,none⟩ = some (v5) ∧ W'.cell? ⟨sb,3,none⟩ = some (v6) ∧ W'.cell? ⟨sb,4,none⟩ = some (v7) ∧ W'.cell? ⟨sb,5,none⟩ = some (v8) ∧ W'.cell? ⟨sb,6,none⟩ = some (v9) ∧ W'.cell? ⟨sb,7,none⟩ = some (v10):=by
 obtain ⟨h0,h1,h2,h3,h4,h5,h6,h7,h8,h9,h10⟩:=h
 exact ⟨far hg n1 h0,far hg n1 h1,far hg n1 h2,far hg n2 h3,far hg n2 h4,far hg n2 h5,far hg n2 h6,far hg n2 h7,far hg n2 h8,far hg n2 h9,far hg n2 h10⟩
theorem zpN (a b : Value) (ha : a.oneCell' = true) (hb : b.oneCell' = true) : ∀ u ∈ [a,b],u.oneCell' = true:=by
 intro u hu
 simp at hu
 rcases hu with rfl | rfl
 ·exact ha
 ·exact hb
theorem zre {L : List Said} {F : List FnM} (R : Right L F) (w : World) (B pm : Nat) (v : Value) (h : PIn B w pm v F) (hn : F.length ≤ 300) (hb : ∀ f ∈ F,f.its.length ≤ 300 ∧ ∀ i ∈ f.its,ItOk i) :
  Calls Tryz.prog 52 #[.agg #[v,.map (some pm)]] w (zrT w (zaq F)):=by
 have hF:=R.some_
 have K:=R.codeOk
 have hlenC:=zeO F
 have ht : lenF F ≤ 300:=by have:=K.few; omega
 obtain ⟨fg,capf,rfl,hfg,hcap,hcells⟩:=h.fns hF
 have hcall:=zlY (w.alloc (.cells #[.slice (some ⟨fg,0,none⟩) F.length capf,.map (some pm)] 83)) B pm _ F (h.alloc _) hF hn (fun f hf => (hb f hf).1) ht
 have hsz1 : (w.alloc (.cells #[.slice (some ⟨fg,0,none⟩) F.length capf,.map (some pm)] 83)).heap.size = w.heap.size + 1:=by simp
 have hbox0 : (w.alloc (.cells #[.slice (some ⟨fg,0,none⟩) F.length capf,.map (some pm)] 83)).cell? ⟨w.heap.size,0,none⟩ = some (.slice (some ⟨fg,0,none⟩) F.length capf):=World.cell?_alloc_new (w:=w) #[.slice (some ⟨fg,0,none⟩) F.length capf,.map (some pm)] 83 0
 go_enter Tryz.func52,Tryz.ntmps52
 go_wp2_with (first | (go_at_call 80; refine hcall.mono ?_; rintro e w1 ⟨bs,rfl,hrow,hb1⟩; obtain ⟨bg,cb,rfl,hbg,hbgl⟩:=hrow.form hF; have hc0:=(hb1.cell (p:=⟨w.heap.size,0,none⟩) (by rw [hsz1]; exact Nat.lt_succ_self _)).trans hbox0; have hlt1 : w.heap.size < w1.heap.size:=Nat.lt_of_lt_of_le (by rw [hsz1]; exact Nat.lt_succ_self _) hb1.size; have hne1 : ¬ w.heap.size = w1.heap.size:=Nat.ne_of_lt hlt1; have hne2 : ¬ w1.heap.size = w.heap.size:=Nat.ne_of_gt hlt1))
 have hB01 : Below w.heap.size w w1:=((Below.refl _ _).alloc (Nat.le_refl _) _).trans (hb1.mono (by rw [hsz1]; omega))
 have hB02 : Below w.heap.size w (w1.alloc (.cells #[.slice (some ⟨fg,0,none⟩) F.length capf,.map (some pm),.slice (some ⟨bg,0,none⟩) F.length cb] 128)):=hB01.alloc hB01.size _
 have hM2 : PlIn (w1.alloc (.cells #[.slice (some ⟨fg,0,none⟩) F.length capf,.map (some pm),.slice (some ⟨bg,0,none⟩) F.length cb] 128)) F fg pm bg:=by
  have hP:=h.below hB02
  exact ⟨hP.labels,hP.places,fun k hk => zrd (hrow.alloc _) k hk,fun k hk => (hB02.cell (p:=⟨fg,k * 4 + 3,none⟩) hfg).trans (hcells k hk).2.2.2⟩
 have p0 : (w1.alloc (.cells #[.slice (some ⟨fg,0,none⟩) F.length capf,.map (some pm),.slice (some ⟨bg,0,none⟩) F.length cb] 128)).cell? ⟨w1.heap.size,0,none⟩ = some (.slice (some ⟨fg,0,none⟩) F.length capf):=World.cell?_alloc_new (w:=w1) #[.slice (some ⟨fg,0,none⟩) F.length capf,.map (some pm),.slice (some ⟨bg,0,none⟩) F.length cb] 128 0
 have p1 : (w1.alloc (.cells #[.slice (some ⟨fg,0,none⟩) F.length capf,.map (some pm),.slice (some ⟨bg,0,none⟩) F.length cb] 128)).cell? ⟨w1.heap.size,1,none⟩ = some (.map (some pm)):=World.cell?_alloc_new (w:=w1) #[.slice (some ⟨fg,0,none⟩) F.length capf,.map (some pm),.slice (some ⟨bg,0,none⟩) F.length cb] 128 1
 have p2 : (w1.alloc (.cells #[.slice (some ⟨fg,0,none⟩) F.length capf,.map (some pm),.slice (some ⟨bg,0,none⟩) F.length cb] 128)).cell? ⟨w1.heap.size,2,none⟩ = some (.slice (some ⟨bg,0,none⟩) F.length cb):=World.cell?_alloc_new (w:=w1) #[.slice (some ⟨fg,0,none⟩) F.length capf,.map (some pm),.slice (some ⟨bg,0,none⟩) F.length cb] 128 2
 have hsz2 : (w1.alloc (.cells #[.slice (some ⟨fg,0,none⟩) F.length capf,.map (some pm),.slice (some ⟨bg,0,none⟩) F.length cb] 128)).heap.size = w1.heap.size + 1:=by simp
 generalize w1.alloc (.cells #[.slice (some ⟨fg,0,none⟩) F.length capf,.map (some pm),.slice (some ⟨bg,0,none⟩) F.length cb] 128) = W2 at hB02 hM2 p0 p1 p2 hsz2
 clear hcall hbox0 hc0 hrow
 obtain ⟨i0,hi0,hz0,hz1,hz2⟩:=info_parts Tryz.info140
 go_loopw [14,3] (fun ti tc wr => ∃ (k : Nat) (cv : Value),k ≤ F.length ∧ ti = .int .i64 (k : Int) ∧ tc = cv ∧ wr.ownsRow (w1.heap.size + 1) 140 2 cv (lenF (F.take k)) (zaL ((zaq F).take (lenF (F.take k)))) ∧ Below (w1.heap.size + 1) W2 wr) (fun ti _ _ => F.length - (intOf ti).toNat)
 case atStart => exact ⟨0,_,by omega,rfl,rfl,World.ownsRow_nil _ _ _ _,Below.refl _ _⟩
 case round =>
  obtain ⟨k,cv,hk,rfl,rfl,hown,hbw⟩:=hrel
  by_cases hlt : k < F.length
  ·obtain ⟨c0,c1,c2,c3⟩:=hcells k hlt
   have hmem:=List.getElem_mem hlt
   have hbo:=h.bodies F[k] hmem
   have hFk : F[k]? = some F[k]:=List.getElem?_eq_getElem hlt
   have HT : Hid (lenF (F.take (k + 1)) = lenF (F.take k) + (zaf F[k].its).length):=ziu F k hlt
   have hTle : lenF (F.take k) + (zaf F[k].its).length ≤ 300:=by have:=zi9 F (k + 1); have:=HT.out; omega
   have HP : Hid (∀ m it,(zaf F[k].its)[m]? = some it → (zaq F)[lenF (F.take k) + m]? = some (insM F k it,it.line)):=fun m it hm => by
    have:=zhw F 0 F k F[k] hFk m it hm
    rw [Nat.zero_add] at this; exact this
   have HI : Hid (∀ m it,(zaf F[k].its)[m]? = some it → ∀ W,PlIn W F fg pm bg → Calls Tryz.prog 81 #[zgn fg capf pm bg cb F.length,stm it.sort it.line it.word it.a it.b it.c it.n it.nm,.int .i64 (k : Int)] W fun e w' => e = .returned (.iface (insT (insM F k it)) (.agg (insA (insM F k it)))) ∧ Below W.heap.size W w'):=fun m it hm W M => by
    refine zmc R W capf cb M hn hFk hm ?_
    have : it ∈ F[k].its:=(List.mem_filter.1 (List.mem_of_getElem? hm)).1
    exact ((hb F[k] hmem).2 it this).1
   have hww : Below w.heap.size w wr:=hB02.trans (hbw.mono (by omega))
   have z : ∀ j,wr.cell? ⟨fg,j,none⟩ = w.cell? ⟨fg,j,none⟩:=fun j => hww.cell (p:=⟨fg,j,none⟩) hfg
   rw [← z] at c0 c1 c2 c3
   clear z
   generalize F[k] = f at c0 c1 c2 c3 hbo HT hTle HP HI
   have hk4 : k * 4 ≤ 1200:=by omega
   obtain ⟨name,line,its0,bv,m⟩:=f
   simp only at c0 c1 c2 c3 hbo hTle
   have HT2 : Hid (lenF (F.take (k + 1)) = lenF (F.take k) + (zaf its0).length):=HT.out
   have HP2 : Hid (∀ m it,(zaf its0)[m]? = some it → (zaq F)[lenF (F.take k) + m]? = some (insM F k it,it.line)):=HP.out
   have HI2 : Hid (∀ m it,(zaf its0)[m]? = some it → ∀ W,PlIn W F fg pm bg → Calls Tryz.prog 81 #[zgn fg capf pm bg cb F.length,stm it.sort it.line it.word it.a it.b it.c it.n it.nm,.int .i64 (k : Int)] W fun e w' => e = .returned (.iface (insT (insM F k it)) (.agg (insA (insM F k it)))) ∧ Below W.heap.size W w'):=HI.out
   clear HT HP HI
   generalize zaf its0 = its at hbo hTle HT2 HP2 HI2
   generalize lenF (F.take k) = T at hown hTle HT2 HP2
   obtain ⟨ao,capb,rfl⟩:=za9 hbo
   have hnxo : Below (w1.heap.size + 1) W2 (wr.alloc (.cells #[.string name,.int .i64 line,.slice ao its.length capb,.map (some m)] 131)):=hbw.alloc (by have:=hbw.size; omega) _
   have howno:=hown.alloc (.cells #[.string name,.int .i64 line,.slice ao its.length capb,.map (some m)] 131)
   go_wp2
   generalize wr.alloc (.cells #[.string name,.int .i64 line,.slice ao its.length capb,.map (some m)] 131) = W3 at hnxo howno
   clear c0 c1 c2 c3 hown hbw hww
   go_loopw [22,3] (fun tj tc wi => ∃ (j : Nat) (cv : Value),j ≤ its.length ∧ tj = .int .i64 (j : Int) ∧ tc = cv ∧ wi.ownsRow (w1.heap.size + 1) 140 2 cv (T + j) (zaL ((zaq F).take (T + j))) ∧ Below (w1.heap.size + 1) W2 wi) (fun tj _ _ => its.length - (intOf tj).toNat)
   case atStart => exact ⟨0,_,by omega,rfl,rfl,howno,hnxo⟩
   case round =>
    obtain ⟨j,cv2,hj,rfl,hcv,hownj,hbj⟩:=hrel
    have hcv2:=hcv.symm
    subst hcv2
    clear hcv
    have hsj:=hbj.size
    by_cases hjl : j < its.length
    ·obtain ⟨sg,capb',hbv,_,hbg',hst⟩:=zeG hbo (by omega)
     have hs:=hst j hjl
     have hit : its[j]? = some its[j]:=List.getElem?_eq_getElem hjl
     have hins:=HI2.out j _ hit
     have HTK : Hid ((zaq F).take (T + j + 1) = (zaq F).take (T + j) ++ [(insM F k its[j],its[j].line)]):=zpM _ _ _ (HP2.out j _ hit)
     generalize its[j] = i at hs hins HTK
     generalize insM F k i = ins at hins HTK
     obtain ⟨d0,d1,d2,d3,d4,d5,d6,d7⟩:=hs
     have hww : Below w.heap.size w wr:=hB02.trans (hbj.mono (by omega))
     have z : ∀ j,wr.cell? ⟨sg,j,none⟩ = w.cell? ⟨sg,j,none⟩:=fun j => hww.cell (p:=⟨sg,j,none⟩) hbg'
     rw [← z] at d0 d1 d2 d3 d4 d5 d6 d7
     clear z hst hit
     simp only [Value.slice.injEq,true_and] at hbv
     obtain ⟨rfl,rfl⟩:=hbv
     have hj8 : j * 8 ≤ 2400:=by omega
     have hX : Below wr.heap.size wr (wr.alloc (.cells #[.int .i64 i.sort,.int .i64 i.line,.string i.word,.int .i64 i.a,.int .i64 i.b,.int .i64 i.c,.int .i64 i.n,.string i.nm] 135)):=(Below.refl _ _).alloc (Nat.le_refl _) _
     have hsz4 : (wr.alloc (.cells #[.int .i64 i.sort,.int .i64 i.line,.string i.word,.int .i64 i.a,.int .i64 i.b,.int .i64 i.c,.int .i64 i.n,.string i.nm] 135)).heap.size = wr.heap.size + 1:=by simp
     have q : ∀ o,(wr.alloc (.cells #[.int .i64 i.sort,.int .i64 i.line,.string i.word,.int .i64 i.a,.int .i64 i.b,.int .i64 i.c,.int .i64 i.n,.string i.nm] 135)).cell? ⟨w1.heap.size,o,none⟩ = W2.cell? ⟨w1.heap.size,o,none⟩:=fun o => (hX.cell (p:=⟨w1.heap.size,o,none⟩) (by show w1.heap.size < _; omega)).trans (hbj.cell (p:=⟨w1.heap.size,o,none⟩) (by show w1.heap.size < _; omega))
     have H4 : (wr.alloc (.cells #[.int .i64 i.sort,.int .i64 i.line,.string i.word,.int .i64 i.a,.int .i64 i.b,.int .i64 i.c,.int .i64 i.n,.string i.nm] 135)).cell? ⟨w1.heap.size,0,none⟩ = some (.slice (some ⟨fg,0,none⟩) F.length capf) ∧ (wr.alloc (.cells #[.int .i64 i.sort,.int .i64 i.line,.string i.word,.int .i64 i.a,.int .i64 i.b,.int .i64 i.c,.int .i64 i.n,.string i.nm] 135)).cell? ⟨w1.heap.size,1,none⟩ = some (.map (some pm)) ∧ (wr.alloc (.cells #[.int .i64 i.sort,.int .i64 i.line,.string i.word,.int .i64 i.a,.int .i64 i.b,.int .i64 i.c,.int .i64 i.n,.string i.nm] 135)).cell? ⟨w1.heap.size,2,none⟩ = some (.slice (some ⟨bg,0,none⟩) F.length cb) ∧ (wr.alloc (.cells #[.int .i64 i.sort,.int .i64 i.line,.string i.word,.int .i64 i.a,.int .i64 i.b,.int .i64 i.c,.int .i64 i.n,.string i.nm] 135)).cell? ⟨wr.heap.size,0,none⟩ = some (.int .i64 i.sort) ∧ (wr.alloc (.cells #[.int .i64 i.sort,.int .i64 i.line,.string i.word,.int .i64 i.a,.int .i64 i.b,.int .i64 i.c,.int .i64 i.n,.string i.nm] 135)).cell? ⟨wr.heap.size,1,none⟩ = some (.int .i64 i.line) ∧ (wr.alloc (.cells #[.int .i64 i.sort,.int .i64 i.line,.string i.word,.int .i64 i.a,.int .i64 i.b,.int .i64 i.c,.int .i64 i.n,.string i.nm] 135)).cell? ⟨wr.heap.size,2,none⟩ = some (.string i.word) ∧ (wr.alloc (.cells #[.int .i64 i.sort,.int .i64 i.line,.string i.word,.int .i64 i.a,.int .i64 i.b,.int .i64 i.c,.int .i64 i.n,.string i.nm] 135)).cell? ⟨wr.heap.size,3,none⟩ = some (.int .i64 i.a) ∧ (wr.alloc (.cells #[.int .i64 i.sort,.int .i64 i.line,.string i.word,.int .i64 i.a,.int .i64 i.b,.int .i64 i.c,.int .i64 i.n,.string i.nm] 135)).cell? ⟨wr.heap.size,4,none⟩ = some (.int .i64 i.b) ∧ (wr.alloc (.cells #[.int .i64 i.sort,.int .i64 i.line,.string i.word,.int .i64 i.a,.int .i64 i.b,.int .i64 i.c,.int .i64 i.n,.string i.nm] 135)).cell? ⟨wr.heap.size,5,none⟩ = some (.int .i64 i.c) ∧ (wr.alloc (.cells #[.int .i64 i.sort,.int .i64 i.line,.string i.word,.int .i64 i.a,.int .i64 i.b,.int .i64 i.c,.int .i64 i.n,.string i.nm] 135)).cell? ⟨wr.heap.size,6,none⟩ = some (.int .i64 i.n) ∧ (wr.alloc (.cells #[.int .i64 i.sort,.int .i64 i.line,.string i.word,.int .i64 i.a,.int .i64 i.b,.int .i64 i.c,.int .i64 i.n,.string i.nm] 135)).cell? ⟨wr.heap.size,7,none⟩ = some (.string i.nm) :=
      ⟨(q 0).trans p0,(q 1).trans p1,(q 2).trans p2,World.cell?_alloc_new (w:=wr) #[.int .i64 i.sort,.int .i64 i.line,.string i.word,.int .i64 i.a,.int .i64 i.b,.int .i64 i.c,.int .i64 i.n,.string i.nm] 135 0,World.cell?_alloc_new (w:=wr) #[.int .i64 i.sort,.int .i64 i.line,.string i.word,.int .i64 i.a,.int .i64 i.b,.int .i64 i.c,.int .i64 i.n,.string i.nm] 135 1,World.cell?_alloc_new (w:=wr) #[.int .i64 i.sort,.int .i64 i.line,.string i.word,.int .i64 i.a,.int .i64 i.b,.int .i64 i.c,.int .i64 i.n,.string i.nm] 135 2,World.cell?_alloc_new (w:=wr) #[.int .i64 i.sort,.int .i64 i.line,.string i.word,.int .i64 i.a,.int .i64 i.b,.int .i64 i.c,.int .i64 i.n,.string i.nm] 135 3,World.cell?_alloc_new (w:=wr) #[.int .i64 i.sort,.int .i64 i.line,.string i.word,.int .i64 i.a,.int .i64 i.b,.int .i64 i.c,.int .i64 i.n,.string i.nm] 135 4,World.cell?_alloc_new (w:=wr) #[.int .i64 i.sort,.int .i64 i.line,.string i.word,.int .i64 i.a,.int .i64 i.b,.int .i64 i.c,.int .i64 i.n,.string i.nm] 135 5,World.cell?_alloc_new (w:=wr) #[.int .i64 i.sort,.int .i64 i.line,.string i.word,.int .i64 i.a,.int .i64 i.b,.int .i64 i.c,.int .i64 i.n,.string i.nm] 135 6,World.cell?_alloc_new (w:=wr) #[.int .i64 i.sort,.int .i64 i.line,.string i.word,.int .i64 i.a,.int .i64 i.b,.int .i64 i.c,.int .i64 i.n,.string i.nm] 135 7⟩
     clear q
     have hown4:=hownj.alloc (.cells #[.int .i64 i.sort,.int .i64 i.line,.string i.word,.int .i64 i.a,.int .i64 i.b,.int .i64 i.c,.int .i64 i.n,.string i.nm] 135)
     have hB4 : Below (w1.heap.size + 1) W2 (wr.alloc (.cells #[.int .i64 i.sort,.int .i64 i.line,.string i.word,.int .i64 i.a,.int .i64 i.b,.int .i64 i.c,.int .i64 i.n,.string i.nm] 135)):=hbj.alloc (by omega) _
     have M4:=hM2.below hB4 (by omega)
     have hlow:=fun g (hg : cv2.ownBlock = some g) => hownj.lt g hg
     have hn1 : some w1.heap.size ≠ cv2.ownBlock:=fun e => by have:=(hlow _ e.symm).1; omega
     have hn2 : some wr.heap.size ≠ cv2.ownBlock:=fun e => by have:=(hlow _ e.symm).2; omega
     go_wp2_with fail
     generalize wr.alloc (.cells #[.int .i64 i.sort,.int .i64 i.line,.string i.word,.int .i64 i.a,.int .i64 i.b,.int .i64 i.c,.int .i64 i.n,.string i.nm] 135) = W4 at hX hsz4 H4 hown4 hB4 M4
     have hcall:=hins W4.drew (M4.below ((Below.refl _ _).drew) (Nat.le_refl _))
     clear d0 d1 d2 d3 d4 d5 d6 d7 hins hownj
     go_region_held3 (fun W => W.cell? ⟨w1.heap.size,0,none⟩ = some (.slice (some ⟨fg,0,none⟩) F.length capf) ∧ W.cell? ⟨w1.heap.size,1,none⟩ = some (.map (some pm)) ∧ W.cell? ⟨w1.heap.size,2,none⟩ = some (.slice (some ⟨bg,0,none⟩) F.length cb) ∧ W.cell? ⟨wr.heap.size,0,none⟩ = some (.int .i64 i.sort) ∧ W.cell? ⟨wr.heap.size,1,none⟩ = some (.int .i64 i.line) ∧ W.cell? ⟨wr.heap.size,2,none⟩ = some (.string i.word) ∧ W.cell? ⟨wr.heap.size,3,none⟩ = some (.int .i64 i.a) ∧ W.cell? ⟨wr.heap.size,4,none⟩ = some (.int .i64 i.b) ∧ W.cell? ⟨wr.heap.size,5,none⟩ = some (.int .i64 i.c) ∧ W.cell? ⟨wr.heap.size,6,none⟩ = some (.int .i64 i.n) ∧ W.cell? ⟨wr.heap.size,7,none⟩ = some (.string i.nm))
      (first
        | exact H4
        | exact H6
        | exact H5
        | exact H7)
      (first
        | (go_at_call 81; refine hcall.mono ?_; rintro e w5 ⟨rfl,hb5⟩; have H5:=zfl hb5 H4; have H6:=zfl ((Below.refl w5.heap.size w5).alloc (Nat.le_refl _) (.cells #[.iface (insT ins) (.agg (insA ins)),.int .i64 i.line] 140)) H5; have hs5 : W4.heap.size ≤ w5.heap.size:=hb5.size; have hown5:=zaS (w:=W4.drew) hown4 hb5 (Nat.le_refl _))
        | (refine step_append_lies _ (by rfl) _ _ _ (by rfl) (w1.heap.size + 1) 140 i0 _ 2 24 Tryz.under93 hi0 hz0 hz1 hz2 rfl (by omega) cv2 (T + j) (zaL ((zaq F).take (T + j))) (by rfl) (hown5.alloc _)
            ⟨w5.heap.size,0,none⟩ 1 1 [.iface (insT ins) (.agg (insA ins)),.int .i64 i.line] (by rfl) (by rfl) (World.news_of_block (cs:=#[.iface (insT ins) (.agg (insA ins)),.int .i64 i.line]) (t:=140) (fr:=(0,0)) (heap_alloc_new w5 _)) (zpN _ _ rfl rfl)
            (by omega) (by unfold maxLen; omega) (by omega) (by simp; omega) (w5.heap.size + 1) (by simp) ?_; intro g cap w6 hown6 hgrow hat hltg; have H7:=ziA hgrow hn1 hn2 H6))
     have hb45 : Below (w1.heap.size + 1) W2 w5:=hB4.drew.trans (hb5.mono (by show w1.heap.size + 1 ≤ W4.heap.size; omega))
     have hB6 : Below (w1.heap.size + 1) W2 w6:=(hb45.alloc (by omega) _).grown hgrow (by simp; omega) (fun g hg => (hlow g hg).1)
     have hown7 : w6.ownsRow (w1.heap.size + 1) 140 2 (.slice (some ⟨g,0,none⟩) (T + j + 1) cap) (T + j + 1) (zaL ((zaq F).take (T + j + 1))):=by
      rw [HTK.out,zg2]; exact hown6
     clear hown6 hgrow hown5 hown4 H4 H5 H6 H7 hcall hb5 M4
     go_wp2
     go_roundw
     case rel => exact ⟨j + 1,_,by omega,by go_num,rfl,hown7,hB6⟩
     case measure => simp [intOf]; omega
    ·have hje : j = its.length:=by omega
     subst hje
     have hown7 : wr.ownsRow (w1.heap.size + 1) 140 2 cv2 (lenF (F.take (k + 1))) (zaL ((zaq F).take (lenF (F.take (k + 1))))):=by
      rw [HT2.out]; exact hownj
     clear hownj
     go_wp2
     go_roundw
     case rel => exact ⟨k + 1,_,by omega,by go_num,rfl,hown7,hbj⟩
     case measure => simp [intOf]; omega
  ·have hke : k = F.length:=by omega
   subst hke
   rw [List.take_length,← hlenC,List.take_length] at hown
   obtain ⟨g,cap,rfl,hg,hgl,hC⟩:=znT hown K.some_
   have hww : Below w.heap.size w wr:=hB02.trans (hbw.mono (by omega))
   clear hown
   go_wp2
   go_ret
   exact ⟨g,cap,rfl,by omega,hgl,hC,hww⟩
end Go.Proofs.YtfpgjkbjbbgciaaGreatDoor
