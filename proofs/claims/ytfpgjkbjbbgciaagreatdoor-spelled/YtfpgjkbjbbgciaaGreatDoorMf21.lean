import Derived.Test.YtfpgjkbjbbgciaaGreatDoorMf16
import Derived.Test.YtfpgjkbjbbgciaaGreatDoorMf19
import Derived.Test.YtfpgjkbjbbgciaaGreatDoorMf20
set_option maxRecDepth 100000
set_option maxHeartbeats 8000000
namespace Go.Proofs.YtfpgjkbjbbgciaaGreatDoor
open Go.RowKit Sp
def zk2 (w : World) (names : List ByteArray) (F : List Fn) : Ending → World → Prop:=fun e w' =>
 Below w.heap.size w w' ∧ ((∃ l,zbI names F = some l ∧ e = zap 4 l) ∨ (zbI names F = none ∧ e = .returned (.tuple #[])))
theorem zl6 (names : List ByteArray) (F : List Fn) (k : Nat) (h : k < F.length) : zbI names (F.drop k) = match za1 names (labsOf F[k].body) F[k].body with | some l => some l | none => zbI names (F.drop (k + 1)):=by
 rw [List.drop_eq_getElem_cons h]
 rfl
theorem zhq (names labs : List ByteArray) (b : List Key) (k : Nat) (h : k < b.length) : za1 names labs (b.drop k) = if zcn names labs b[k] = true then some b[k].line else za1 names labs (b.drop (k + 1)):=by
 rw [List.drop_eq_getElem_cons h,zcX]
theorem zl7 (i : It) (l : List It) : zaf (i :: l) = if i.sort = 1 then zaf l else i :: zaf l:=by
 by_cases h : i.sort = 1 <;> simp [zaf,h]
theorem zgO : zaz ⟨#[]⟩ = false ∧ zaQ ⟨#[]⟩ = false:=⟨by kernel_rfl,by kernel_rfl⟩
theorem zpp (names labs : List ByteArray) (l : List It) (h : ∀ i ∈ l,ItOk i) : za1 names labs (l.map It.key) = za1 names labs ((zaf l).map It.key):=by
 induction l with
 | nil => rfl
 | cons i l ih =>
  have ih:=ih (fun j hj => h j (by simp [hj]))
  rw [zl7]
  by_cases hs : i.sort = 1
  ·rw [if_pos hs,← ih,List.map_cons,zcX]
   have hw : i.key.word = ⟨#[]⟩:=(h i (by simp)).2 hs
   rw [if_neg]
   unfold zcn
   rw [hw,zgO.1,zgO.2]
   simp
  ·rw [if_neg hs,List.map_cons,List.map_cons,zcX,zcX,ih]
theorem zeK {X W : World} (hb : Below X.heap.size X W) {p : Addr} {u : Value} (h : X.cell? p = some u) : W.cell? p = some u:=(hb.cell (World.block_lt_of_cell? X p h)).trans h
structure Sees (W : World) (rb pb sb m pm : Nat) (i : It) (labs names : List (ByteArray × Nat)) : Prop where
 cm : W.cell? ⟨rb,3,none⟩ = some (.map (some m))
 cp : W.cell? ⟨pb,1,none⟩ = some (.map (some pm))
 c0 : W.cell? ⟨sb,0,none⟩ = some (.int .i64 i.sort)
 c1 : W.cell? ⟨sb,1,none⟩ = some (.int .i64 i.line)
 c2 : W.cell? ⟨sb,2,none⟩ = some (.string i.word)
 c3 : W.cell? ⟨sb,3,none⟩ = some (.int .i64 i.a)
 c4 : W.cell? ⟨sb,4,none⟩ = some (.int .i64 i.b)
 c5 : W.cell? ⟨sb,5,none⟩ = some (.int .i64 i.c)
 c6 : W.cell? ⟨sb,6,none⟩ = some (.int .i64 i.n)
 c7 : W.cell? ⟨sb,7,none⟩ = some (.string i.nm)
 ml : MapIs W m labs
 mp : MapIs W pm names
theorem Sees.below {X W : World} {rb pb sb m pm : Nat} {i : It} {labs names : List (ByteArray × Nat)} (h : Sees X rb pb sb m pm i labs names) (hb : Below X.heap.size X W) : Sees W rb pb sb m pm i labs names :=
 ⟨zeK hb h.cm,zeK hb h.cp,zeK hb h.c0,zeK hb h.c1,zeK hb h.c2,zeK hb h.c3,zeK hb h.c4,zeK hb h.c5,zeK hb h.c6,zeK hb h.c7,h.ml.below hb h.ml.lt,h.mp.below hb h.mp.lt⟩
theorem Sees.made (w : World) (rb pb m pm : Nat) (i : It) (labs names : List (ByteArray × Nat)) (cm : w.cell? ⟨rb,3,none⟩ = some (.map (some m))) (cp : w.cell? ⟨pb,1,none⟩ = some (.map (some pm))) (ml : MapIs w m labs) (mp : MapIs w pm names) :
  Sees (w.alloc (.cells #[.int .i64 i.sort,.int .i64 i.line,.string i.word,.int .i64 i.a,.int .i64 i.b,.int .i64 i.c,.int .i64 i.n,.string i.nm] 135)) rb pb w.heap.size m pm i labs names:=by
 have hb : Below w.heap.size w (w.alloc (.cells #[.int .i64 i.sort,.int .i64 i.line,.string i.word,.int .i64 i.a,.int .i64 i.b,.int .i64 i.c,.int .i64 i.n,.string i.nm] 135)):=(Below.refl _ _).alloc (Nat.le_refl _) _
 have h:=World.cell?_alloc_new (w:=w) #[.int .i64 i.sort,.int .i64 i.line,.string i.word,.int .i64 i.a,.int .i64 i.b,.int .i64 i.c,.int .i64 i.n,.string i.nm] 135
 exact ⟨zeK hb cm,zeK hb cp,h 0,h 1,h 2,h 3,h 4,h 5,h 6,h 7,ml.alloc _,mp.alloc _⟩
theorem zgP (w : World) (B pm : Nat) (v : Value) (F : List FnM) (h : PIn B w pm v F) (hF : 0 < F.length) (hn : F.length ≤ 300) (hb : ∀ f ∈ F,f.its.length ≤ 300 ∧ ∀ i ∈ f.its,ItOk i) :
  Calls Tryz.prog 69 #[.agg #[v,.map (some pm)]] w (zk2 w (F.map FnM.name) (F.map FnM.fn)):=by
 obtain ⟨fg,cap,rfl,hfg,hcap,hcells⟩:=h.fns hF
 have hMP:=h.places
 have hN0:=zb3 0 F
 rw [← hN0]
 clear hN0
 change Calls Tryz.prog 69 #[.agg #[.slice (some ⟨fg,0,none⟩) F.length cap,.map (some pm)]] w (zk2 w (zaT (zaR F)) (F.map FnM.fn))
 generalize zaR F = nameE at hMP ⊢
 generalize hN : zaT nameE = names
 have HN : Hid (zaT nameE = names):=hN
 clear hN
 have hW1 : Below w.heap.size w (w.alloc (.cells #[.slice (some ⟨fg,0,none⟩) F.length cap,.map (some pm)] 83)):=(Below.refl _ _).alloc (Nat.le_refl _) _
 have hZ1 : (w.alloc (.cells #[.slice (some ⟨fg,0,none⟩) F.length cap,.map (some pm)] 83)).heap.size = w.heap.size + 1:=by simp
 have hC1 : (w.alloc (.cells #[.slice (some ⟨fg,0,none⟩) F.length cap,.map (some pm)] 83)).cell? ⟨w.heap.size,1,none⟩ = some (.map (some pm)):=World.cell?_alloc_new (w:=w) #[.slice (some ⟨fg,0,none⟩) F.length cap,.map (some pm)] 83 1
 go_enter Tryz.func69,Tryz.ntmps69
 go_wp2
 generalize w.alloc (.cells #[.slice (some ⟨fg,0,none⟩) F.length cap,.map (some pm)] 83) = W1 at hW1 hZ1 hC1
 go_loopw [9] (fun ti wr => ∃ (k : Nat),k ≤ F.length ∧ ti = .int .i64 (k : Int) ∧ Below (w.heap.size + 1) W1 wr ∧ zbI names (F.map FnM.fn) = zbI names ((F.map FnM.fn).drop k)) (fun ti _ => F.length - (intOf ti).toNat)
 case atStart => exact ⟨0,by omega,rfl,Below.refl _ _,rfl⟩
 case round =>
  obtain ⟨wo,hwo⟩ : ∃ wo,wo = wr:=⟨wr,rfl⟩
  subst hwo
  obtain ⟨k,hk,rfl,hnx,hE⟩:=hrel
  have HE : Hid (zbI names (F.map FnM.fn) = zbI names ((F.map FnM.fn).drop k)):=hE
  clear hE
  have hszr:=hnx.size
  have hbw : Below w.heap.size w wo:=hW1.trans (hnx.mono (by omega))
  by_cases hlt : k < F.length
  ·obtain ⟨c0,c1,c2,c3⟩:=hcells k hlt
   have hmem:=List.getElem_mem hlt
   have HD : Hid (zbI names (F.map FnM.fn) = match za1 names (zaT (zb1 F[k].its)) ((zaf F[k].its).map It.key) with | some l => some l | none => zbI names ((F.map FnM.fn).drop (k + 1))):=by
    unfold Hid; rw [HE.out,zl6 _ _ k (by simpa using hlt),← zpp _ _ _ (hb F[k] hmem).2,zc1]; simp [FnM.fn]
   have hbo:=h.bodies F[k] hmem
   have hla:=h.labels F[k] hmem
   have hbl:=Nat.le_trans (zc7 F[k].its) (hb F[k] hmem).1
   have hnm : ∀ i ∈ zaf F[k].its,i.nm.size ≤ 1048576:=fun i hi => ((hb F[k] hmem).2 i ((List.mem_filter.1 hi).1)).1
   generalize F[k] = f at c0 c1 c2 c3 hmem HD hbo hbl hla hnm
   have z : ∀ j,wo.cell? ⟨fg,j,none⟩ = w.cell? ⟨fg,j,none⟩:=fun j => hbw.cell (p:=⟨fg,j,none⟩) hfg
   rw [← z] at c0 c1 c2 c3
   clear z HE
   have hk4 : k * 4 ≤ 1200:=by omega
   obtain ⟨name,line,its0,bv,m⟩:=f
   simp only at c0 c1 c2 c3 hbo hbl HD hla hnm
   generalize zb1 its0 = labE at HD hla
   generalize zaf its0 = its at HD hbo hbl hnm
   obtain ⟨ao,capb,rfl⟩:=za9 hbo
   generalize hlb : zaT labE = labs at HD
   have HLB : Hid (zaT labE = labs):=hlb
   clear hlb
   have hcp : wo.cell? ⟨w.heap.size,1,none⟩ = some (.map (some pm)):=(hnx.cell (by simp)).trans hC1
   have hW2 : Below wo.heap.size wo (wo.alloc (.cells #[.string name,.int .i64 line,.slice ao its.length capb,.map (some m)] 131)):=(Below.refl _ _).alloc (Nat.le_refl _) _
   have hZ2 : (wo.alloc (.cells #[.string name,.int .i64 line,.slice ao its.length capb,.map (some m)] 131)).heap.size = wo.heap.size + 1:=by simp
   have hC2 : (wo.alloc (.cells #[.string name,.int .i64 line,.slice ao its.length capb,.map (some m)] 131)).cell? ⟨wo.heap.size,3,none⟩ = some (.map (some m)):=World.cell?_alloc_new (w:=wo) #[.string name,.int .i64 line,.slice ao its.length capb,.map (some m)] 131 3
   go_wp2
   generalize wo.alloc (.cells #[.string name,.int .i64 line,.slice ao its.length capb,.map (some m)] 131) = W2 at hW2 hZ2 hC2
   go_loopw [16] (fun tj wi => ∃ (j : Nat),j ≤ its.length ∧ tj = .int .i64 (j : Int) ∧ Below (wo.heap.size + 1) W2 wi ∧ za1 names labs (its.map It.key) = za1 names labs ((its.map It.key).drop j)) (fun tj _ => its.length - (intOf tj).toNat)
   case atStart => exact ⟨0,by omega,rfl,Below.refl _ _,rfl⟩
   case round =>
    obtain ⟨j,hj,rfl,hny,hI⟩:=hrel
    have HI : Hid (za1 names labs (its.map It.key) = za1 names labs ((its.map It.key).drop j)):=hI
    clear hI
    have hszi:=hny.size
    have hbi : Below wo.heap.size wo wr:=hW2.trans (hny.mono (by omega))
    have hbww : Below w.heap.size w wr:=hbw.trans (hbi.mono hbw.size)
    by_cases hjl : j < its.length
    ·obtain ⟨bg,capb',hbv,_,hbg,hst⟩:=zeG hbo (by omega)
     have hs:=hst j hjl
     have hnk:=hnm its[j] (List.getElem_mem hjl)
     have HB : Hid (za1 names labs (its.map It.key) = if zcn names labs its[j].key = true then some its[j].line else za1 names labs ((its.map It.key).drop (j + 1))):=by
      unfold Hid; rw [HI.out,zhq _ _ _ j (by simpa using hjl)]; simp only [List.getElem_map]; rfl
     generalize its[j] = i at hs hnk HB
     obtain ⟨d0,d1,d2,d3,d4,d5,d6,d7⟩:=hs
     have z : ∀ j,wr.cell? ⟨bg,j,none⟩ = w.cell? ⟨bg,j,none⟩:=fun j => hbww.cell (p:=⟨bg,j,none⟩) hbg
     rw [← z] at d0 d1 d2 d3 d4 d5 d6 d7
     simp only [Value.slice.injEq,true_and] at hbv
     obtain ⟨rfl,rfl⟩:=hbv
     have hj8 : j * 8 ≤ 2400:=by omega
     have hML:=hla.below hbww hla.lt
     have hMPi:=hMP.below hbww hMP.lt
     have hcm : wr.cell? ⟨wo.heap.size,3,none⟩ = some (.map (some m)):=(hny.cell (by simp)).trans hC2
     have hcpi : wr.cell? ⟨w.heap.size,1,none⟩ = some (.map (some pm)):=zeK hbi hcp
     have S:=Sees.made wr wo.heap.size w.heap.size m pm i labE nameE hcm hcpi hML hMPi
     have hX0 : Below wr.heap.size wr (wr.alloc (.cells #[.int .i64 i.sort,.int .i64 i.line,.string i.word,.int .i64 i.a,.int .i64 i.b,.int .i64 i.c,.int .i64 i.n,.string i.nm] 135)):=(Below.refl _ _).alloc (Nat.le_refl _) _
     clear z hst hcp HI hML hMPi hcm hcpi
     have g36:=fun W => zhZ i.sort i.line i.word i.a i.b i.c i.n i.nm W
     have g38:=fun W => zj0 i.sort i.line i.word i.a i.b i.c i.n i.nm W
     cases hal : zaz i.word with
     | true =>
      have haf:=zfY _ hal
      rw [hal] at g36
      rw [haf] at g38
      cases hany : labs.any (fun y => eqW y i.nm) with
      | true =>
       have HX : Hid (za1 names labs (its.map It.key) = za1 names labs ((its.map It.key).drop (j + 1))):=by
        unfold Hid; rw [HB.out]; simp [zcn,It.key,hal,haf,hany]
       clear HB
       go_wp2_with (first
        | (go_at_call 102; refine (g36 _).mono ?_; rintro e w3 ⟨rfl,hb3⟩; have S3:=S.below hb3; obtain ⟨m3,p3,a0,a1,a2,a3,a4,a5,a6,a7,ml3,mp3⟩:=S3)
        | (go_at_call 103; refine (zgH w3 m labE ml3 i.sort i.line i.word i.a i.b i.c i.n i.nm hnk (by rw [HLB.out]; exact hany)).mono ?_; rintro e w4 ⟨rfl,hb4⟩; have hb34:=hb3.trans (hb4.mono hb3.size); have S4:=S.below hb34; obtain ⟨m4,p4,b0,b1,b2,b3,b4,b5,b6,b7,ml4,mp4⟩:=S4)
        | (go_at_call 104; refine (g38 _).mono ?_; rintro e w5 ⟨rfl,hb5⟩))
       have hb9 : Below (wo.heap.size + 1) wr w5:=(zaA _ _ (hb34.trans (hb5.mono hb34.size))).mono (by omega)
       clear hb3 hb4 hb34 hb5
       go_roundw
       case rel => exact ⟨j + 1,by omega,by go_num,hny.trans hb9,HX.out⟩
       case measure => simp [intOf]; omega
      | false =>
       have HX : Hid (zbI names (F.map FnM.fn) = some i.line):=by
        unfold Hid; rw [HD.out,HB.out]; simp [zcn,It.key,hal,haf,hany]
       clear HB
       go_wp2_with (first
        | (go_at_call 102; refine (g36 _).mono ?_; rintro e w3 ⟨rfl,hb3⟩; have S3:=S.below hb3; obtain ⟨m3,p3,a0,a1,a2,a3,a4,a5,a6,a7,ml3,mp3⟩:=S3)
        | (go_at_call 103; refine (zhY w3 m labE ml3 i.sort i.line i.word i.a i.b i.c i.n i.nm hnk (by rw [HLB.out]; exact hany)).mono ?_; rintro e w4 ⟨rfl,hb4⟩; have hb34:=hb3.trans (hb4.mono hb3.size)))
       exact ⟨rfl,hbww.trans ((zaA _ _ hb34).mono hbww.size),.inl ⟨_,HX.out,rfl⟩⟩
     | false =>
      rw [hal] at g36
      cases haf : zaQ i.word with
      | true =>
       rw [haf] at g38
       cases hany : names.any (fun y => eqW y i.nm) with
       | true =>
        have HX : Hid (za1 names labs (its.map It.key) = za1 names labs ((its.map It.key).drop (j + 1))):=by
         unfold Hid; rw [HB.out]; simp [zcn,It.key,hal,haf,hany]
        clear HB
        go_wp2_with (first
         | (go_at_call 102; refine (g36 _).mono ?_; rintro e w3 ⟨rfl,hb3⟩; have S3:=S.below hb3; obtain ⟨m3,p3,a0,a1,a2,a3,a4,a5,a6,a7,ml3,mp3⟩:=S3)
         | (go_at_call 104; refine (g38 _).mono ?_; rintro e w4 ⟨rfl,hb4⟩; have hb34:=hb3.trans (hb4.mono hb3.size); have S4:=S.below hb34; obtain ⟨m4,p4,b0,b1,b2,b3,b4,b5,b6,b7,ml4,mp4⟩:=S4)
         | (go_at_call 103; refine (zgH w4 pm nameE mp4 i.sort i.line i.word i.a i.b i.c i.n i.nm hnk (by rw [HN.out]; exact hany)).mono ?_; rintro e w5 ⟨rfl,hb5⟩))
        have hb9 : Below (wo.heap.size + 1) wr w5:=(zaA _ _ (hb34.trans (hb5.mono hb34.size))).mono (by omega)
        clear hb3 hb4 hb34 hb5
        go_roundw
        case rel => exact ⟨j + 1,by omega,by go_num,hny.trans hb9,HX.out⟩
        case measure => simp [intOf]; omega
       | false =>
        have HX : Hid (zbI names (F.map FnM.fn) = some i.line):=by
         unfold Hid; rw [HD.out,HB.out]; simp [zcn,It.key,hal,haf,hany]
        clear HB
        go_wp2_with (first
         | (go_at_call 102; refine (g36 _).mono ?_; rintro e w3 ⟨rfl,hb3⟩; have S3:=S.below hb3; obtain ⟨m3,p3,a0,a1,a2,a3,a4,a5,a6,a7,ml3,mp3⟩:=S3)
         | (go_at_call 104; refine (g38 _).mono ?_; rintro e w4 ⟨rfl,hb4⟩; have hb34:=hb3.trans (hb4.mono hb3.size); have S4:=S.below hb34; obtain ⟨m4,p4,b0,b1,b2,b3,b4,b5,b6,b7,ml4,mp4⟩:=S4)
         | (go_at_call 103; refine (zhY w4 pm nameE mp4 i.sort i.line i.word i.a i.b i.c i.n i.nm hnk (by rw [HN.out]; exact hany)).mono ?_; rintro e w5 ⟨rfl,hb5⟩))
        exact ⟨rfl,hbww.trans ((zaA _ _ (hb34.trans (hb5.mono hb34.size))).mono hbww.size),.inl ⟨_,HX.out,rfl⟩⟩
      | false =>
       rw [haf] at g38
       have HX : Hid (za1 names labs (its.map It.key) = za1 names labs ((its.map It.key).drop (j + 1))):=by
        unfold Hid; rw [HB.out]; simp [zcn,It.key,hal,haf]
       clear HB
       go_wp2_with (first
        | (go_at_call 102; refine (g36 _).mono ?_; rintro e w3 ⟨rfl,hb3⟩; have S3:=S.below hb3; obtain ⟨m3,p3,a0,a1,a2,a3,a4,a5,a6,a7,ml3,mp3⟩:=S3)
        | (go_at_call 104; refine (g38 _).mono ?_; rintro e w4 ⟨rfl,hb4⟩; have hb34:=hb3.trans (hb4.mono hb3.size); have S4:=S.below hb34; obtain ⟨m4,p4,b0,b1,b2,b3,b4,b5,b6,b7,ml4,mp4⟩:=S4))
       have hb9 : Below (wo.heap.size + 1) wr w4:=(zaA _ _ hb34).mono (by omega)
       clear hb3 hb4 hb34
       go_roundw
       case rel => exact ⟨j + 1,by omega,by go_num,hny.trans hb9,HX.out⟩
       case measure => simp [intOf]; omega
    ·have HX : Hid (zbI names (F.map FnM.fn) = zbI names ((F.map FnM.fn).drop (k + 1))):=by
      unfold Hid; rw [HD.out,HI.out,List.drop_of_length_le (by simp; omega)]; rfl
     have hb9 : Below (w.heap.size + 1) W1 wr:=hnx.trans (hbi.mono (by omega))
     go_wp2
     go_roundw
     case rel => exact ⟨k + 1,by omega,by go_num,hb9,HX.out⟩
     case measure => simp [intOf]; omega
  ·have HX : Hid (k = F.length):=by unfold Hid; omega
   go_wp2
   go_end0
   refine ⟨hbw,.inr ⟨?_,rfl⟩⟩
   rw [HE.out,HX.out,List.drop_of_length_le (by simp)]; rfl
theorem zl8 (A : List ByteArray) (n : Nat) : (za8 A n).length ≤ n:=by
 induction n with
 | zero => simp [za8]
 | succ n ih =>
  unfold za8
  rw [List.length_append]
  split
  ·simp; omega
  ·split <;> simp <;> omega
theorem zl9 (A : List ByteArray) (n : Nat) (k : Key) (h : k ∈ za8 A n) : ∃ x ∈ A,∃ l,k = keyQ (say x) l:=by
 induction n with
 | zero => simp [za8] at h
 | succ n ih =>
  unfold za8 at h
  rw [List.mem_append] at h
  rcases h with h | h
  ·exact ih h
  ·split at h
   ·simp at h
   ·rename_i x hx
    split at h
    ·simp at h
    ·simp at h
     exact ⟨x,List.mem_of_getElem? hx,_,h⟩
theorem zgc (l : List ByteArray) (n k : Nat) (h : ∀ y ∈ l,y.size ≤ n) : (l[k]?.getD ⟨#[]⟩).size ≤ n:=by
 cases hk : l[k]? with
 | none => exact Nat.zero_le _
 | some y => exact h y (List.mem_of_getElem? hk)
theorem zlA (sh : List UInt8) (r : List ByteArray) (n k : Nat) (h : ∀ y ∈ r,y.size ≤ n) : (zlr sh r k).size ≤ n:=by
 induction k with
 | zero => exact Nat.zero_le _
 | succ k ih =>
  unfold zlr
  split
  ·exact zgc r n k h
  ·exact ih
theorem zik (x : ByteArray) : ∀ y ∈ (say x).kept,y.size ≤ x.size:=by
 unfold say
 split
 ·have hw : ∀ y ∈ zs4 x,y.size ≤ x.size:=fun y hy => (zf5 x y hy).2
  generalize zs4 x = l at hw
  unfold sayW
  split
  ·simp
  ·rename_i a r
   split
   ·exact hw
   ·split
    ·intro y hy
     simp at hy
     subst hy
     rw [ByteArray.size_extract]
     have:=hw a (by simp)
     omega
    ·exact hw
 ·simp
theorem zlB (x : ByteArray) : (zc0 (say x)).size ≤ x.size:=by
 have h:=zik x
 unfold zc0
 split
 ·exact zgc _ _ 1 h
 ·split
  ·exact zgc _ _ 0 h
  ·exact zlA _ _ _ _ (fun y hy => h y (List.mem_of_mem_tail hy))
theorem zqR (K : List Key) : ¬ (sayK K).1 = 1:=by
 unfold sayK
 cases K with
 | nil => decide
 | cons k r =>
  dsimp only
  split
  ·unfold zcO
   split
   ·exact (by decide : ¬ (3 : Int) = 1)
   ·split
    ·exact (by decide : ¬ (4 : Int) = 1)
    ·split
     ·exact (by decide : ¬ (5 : Int) = 1)
     ·exact (by decide : ¬ (0 : Int) = 1)
  ·exact (by decide : ¬ (2 : Int) = 1)
theorem zdt (A : List ByteArray) (h : ∀ x ∈ A,(say x).ok = true) (i : Nat) : zbs A i = zaV (A.map say) 0:=by
 by_cases hi : i < A.length
 ·rw [zeg A i hi (h _ (List.getElem_mem hi))]
  exact zdt A h (i + 1)
 ·exact zfB A i hi
termination_by A.length - i
abbrev Z33 : Obj:=.cells #[.slice none 0 0,.map none] 83
theorem zqS (s : ByteArray) (w : World) (hw : LibW w) (h4 : s.size ≤ 4000) (h3 : (lines s).length ≤ 300) (hno : ¬ ∀ x ∈ lines s,(say x).ok = true) :
  Calls Tryz.prog 66 #[.string s] w fun e w' => Below w.heap.size w w' ∧ ¬ zbs (lines s) 0 = (0,0) ∧ e = zap (zbs (lines s) 0).1 (zbs (lines s) 0).2:=by
 refine (zky s w hw h4 h3).mono ?_
 rintro e w' ⟨hb,⟨i,h1,h2⟩ | ⟨_,h,_⟩⟩
 ·rw [h1]
  exact ⟨hb,by simp,h2⟩
 ·exact absurd h hno
theorem zpq (s : ByteArray) (w : World) (hw : LibW w) (h4 : s.size ≤ 4000) (h3 : (lines s).length ≤ 300) (hok : ∀ x ∈ lines s,(say x).ok = true) :
  Calls Tryz.prog 66 #[.string s] w fun e w' => Below w.heap.size w w' ∧ ∃ v its,e = .returned v ∧ w'.ownsRow w.heap.size 135 8 v its.length (zam its) ∧ its.map It.key = za8 (lines s) (lines s).length ∧ its.length ≤ 300 ∧ ∀ i ∈ its,ItOk i:=by
 refine (zky s w hw h4 h3).mono ?_
 rintro e w' ⟨hb,⟨i,h1,h2⟩ | ⟨_,h,v,its,h5,h6,h7⟩⟩
 ·exfalso
  have h:=zdt (lines s) hok 0
  rw [h1,zds _ hok] at h
  have:=zqR (za8 (lines s) (lines s).length)
  rw [← h] at this
  exact this rfl
 ·refine ⟨hb,v,its,h5,h6,h7,?_,?_⟩
  ·have:=zl8 (lines s) (lines s).length
   rw [← h7] at this
   simp at this
   omega
  ·intro i hi
   have hk : i.key ∈ za8 (lines s) (lines s).length:=by rw [← h7]; exact List.mem_map_of_mem hi
   obtain ⟨x,hx,l,hl⟩:=zl9 _ _ _ hk
   have e1 : i.nm = zc0 (say x):=by have:=congrArg Key.nm hl; exact this
   refine ⟨?_,fun hs => ?_⟩
   ·rw [e1]
    have:=zlB x
    have:=zdK s x hx
    omega
   ·have e2 : i.word = zdS (say x):=by have:=congrArg Key.word hl; exact this
    have e3 : i.sort = zdR (say x):=by have:=congrArg Key.sort hl; exact this
    rw [e2]
    rw [hs] at e3
    unfold zdS
    rw [if_neg]
    intro h5
    unfold zdR at e3
    rw [h5] at e3
    simp at e3
theorem znq (s : ByteArray) (hs : s.size ≤ 9223372036854775807) (h : 4000 < s.size ∨ 300 < (lines s).length) : zcz s (6,0):=by
 intro w hw
 have hcall:=zna s (w.alloc Z33) hs h
 clear h
 go_enter Tryz.func44,Tryz.ntmps44
 go_wp2_with (first | (go_at_call 65; refine hcall.mono ?_; rintro e w1 ⟨rfl,hww⟩; subst hww))
 exact ⟨rfl,(Below.refl _ _).alloc (Nat.le_refl _) _,.inr ⟨by simp,rfl⟩⟩
theorem zpr (s : ByteArray) (h4 : s.size ≤ 4000) (h3 : (lines s).length ≤ 300) (hno : ¬ ∀ x ∈ lines s,(say x).ok = true) : zcz s (zbs (lines s) 0):=by
 intro w hw
 have hw1 : LibW (w.alloc Z33):=hw.below ((Below.refl _ _).alloc (Nat.le_refl _) _)
 have hcall:=zbJ s (w.alloc Z33) h4 h3
 have hcall2:=zqS s (w.alloc Z33) hw1 h4 h3 hno
 clear hno
 generalize zbs (lines s) 0 = R at hcall2 ⊢
 go_enter Tryz.func44,Tryz.ntmps44
 go_wp2_with (first
  | (go_at_call 65; refine hcall.mono ?_; rintro e w1 ⟨rfl,hww⟩; subst hww)
  | (go_at_call 66; refine hcall2.mono ?_; rintro e w2 ⟨hb2,hR,rfl⟩))
 exact ⟨rfl,zaA _ _ hb2,.inr ⟨hR,rfl⟩⟩
structure Sts (s : ByteArray) (K : List Key) : Prop where
 h4 : s.size ≤ 4000
 h3 : (lines s).length ≤ 300
 ok : ∀ x ∈ lines s,(say x).ok = true
 keys : za8 (lines s) (lines s).length = K
theorem Sts.call {s : ByteArray} {K : List Key} (h : Sts s K) (w : World) (hw : LibW w) :
  Calls Tryz.prog 66 #[.string s] w fun e w' => Below w.heap.size w w' ∧ ∃ v its,e = .returned v ∧ w'.ownsRow w.heap.size 135 8 v its.length (zam its) ∧ its.map It.key = K ∧ its.length ≤ 300 ∧ ∀ i ∈ its,ItOk i:=by
 have:=zpq s w hw h.h4 h.h3 h.ok
 rw [h.keys] at this
 exact this
theorem zk3 {its : List It} {k : Key} {r : List Key} (h : its.map It.key = k :: r) : ∃ i t,its = i :: t ∧ i.key = k:=by
 cases its with
 | nil => simp at h
 | cons i t => simp at h; exact ⟨i,t,rfl,h.1⟩
theorem zlC (s : ByteArray) (h : Sts s []) : zcz s (2,0):=by
 intro w hw
 have hw1 : LibW (w.alloc Z33):=hw.below ((Below.refl _ _).alloc (Nat.le_refl _) _)
 have hcall:=zbJ s (w.alloc Z33) h.h4 h.h3
 have hcall2:=h.call (w.alloc Z33) hw1
 clear h
 go_enter Tryz.func44,Tryz.ntmps44
 go_wp2_with (first
  | (go_at_call 65; refine hcall.mono ?_; rintro e w1 ⟨rfl,hww⟩; subst hww)
  | (go_at_call 66; refine hcall2.mono ?_; rintro e w2 ⟨hb2,v,its,rfl,hown,hk,hl,hnm⟩; obtain rfl : its = []:=by simpa using hk)
  | (go_at_call 67; refine (zj2 w2 _ v hown).mono ?_; rintro e w3 ⟨rfl,hww⟩; subst hww))
 exact ⟨rfl,zaA _ _ hb2,.inr ⟨by simp,rfl⟩⟩
theorem zj9 (s : ByteArray) (k : Key) (r : List Key) (h : Sts s (k :: r)) (hs : ¬ k.sort = 0) : zcz s (2,k.line):=by
 intro w hw
 have hw1 : LibW (w.alloc Z33):=hw.below ((Below.refl _ _).alloc (Nat.le_refl _) _)
 have hcall:=zbJ s (w.alloc Z33) h.h4 h.h3
 have hcall2:=(h.call (w.alloc Z33) hw1).mono (R':=fun e w' => Below (w.alloc Z33).heap.size (w.alloc Z33) w' ∧ ∃ v i t,e = .returned v ∧ w'.ownsRow (w.alloc Z33).heap.size 135 8 v (i :: t).length (zam (i :: t)) ∧ t.length ≤ 4096 ∧ ¬ i.sort = 0 ∧ i.line = k.line) (by
  rintro e w' ⟨hb,v,its,h1,h2,h3,h4,h5⟩
  obtain ⟨i,t,rfl,rfl⟩:=zk3 h3
  exact ⟨hb,v,i,t,h1,h2,by simp at h4; omega,hs,rfl⟩)
 clear h hs
 go_enter Tryz.func44,Tryz.ntmps44
 go_wp2_with (first
  | (go_at_call 65; refine hcall.mono ?_; rintro e w1 ⟨rfl,hww⟩; subst hww)
  | (go_at_call 66; refine hcall2.mono ?_; rintro e w2 ⟨hb2,v,i,t,rfl,hown,hl,hns,hline⟩)
  | (go_at_call 67; refine (zl0 w2 _ v i t hown hl hns).mono ?_; rintro e w3 ⟨rfl,hww⟩; subst hww))
 exact ⟨rfl,zaA _ _ hb2,.inr ⟨by simp,by simp⟩⟩
theorem Sts.begins {s : ByteArray} {k : Key} {r : List Key} (h : Sts s (k :: r)) (hs : k.sort = 0) (w : World) (hw : LibW w) :
  Calls Tryz.prog 66 #[.string s] w fun e w' => Below w.heap.size w w' ∧ ∃ v i t,e = .returned v ∧ w'.ownsRow w.heap.size 135 8 v (i :: t).length (zam (i :: t)) ∧ (i :: t).map It.key = k :: r ∧ (i :: t).length ≤ 300 ∧ (∀ j ∈ i :: t,ItOk j) ∧ Hid (i.sort = 0):=by
 refine (h.call w hw).mono ?_
 rintro e w' ⟨hb,v,its,h1,h2,h3,h4,h5⟩
 obtain ⟨i,t,rfl,rfl⟩:=zk3 h3
 exact ⟨hb,v,i,t,h1,h2,h3,h4,h5,hs⟩
theorem zfu (w : World) (B : Nat) (v : Value) (i : It) (t : List It) (h : w.ownsRow B 135 8 v (i :: t).length (zam (i :: t))) (hl : (i :: t).length ≤ 300) (hs : Hid (i.sort = 0)) :
  Calls Tryz.prog 67 #[v] w fun e w' => e = .returned (.tuple #[]) ∧ w' = w:=zj3 w B v i t h (by simp at hl; omega) hs.out
theorem zqT (w : World) (B : Nat) (v : Value) (i : It) (t : List It) (K : List Key) (h : w.ownsRow B 135 8 v (i :: t).length (zam (i :: t))) (hk : (i :: t).map It.key = K) (hl : (i :: t).length ≤ 300) (hnm : ∀ j ∈ i :: t,ItOk j) (hs : Hid (i.sort = 0)) (l : Int) (htw : Hid (za5 [] K = some l)) :
  Calls Tryz.prog 68 #[v] w fun e w' => Below w.heap.size w w' ∧ e = zap 3 l:=by
 have:=zig w B v (i :: t) h hl hnm (by simp) hs
 rw [hk] at this
 refine this.mono ?_
 rintro e w' ⟨hb,⟨l',h1,h2⟩ | ⟨h1,_⟩⟩
 ·rw [htw.out] at h1
  cases h1
  exact ⟨hb,h2⟩
 ·rw [htw.out] at h1; cases h1
theorem zjA (w : World) (B : Nat) (v : Value) (i : It) (t : List It) (K : List Key) (h : w.ownsRow B 135 8 v (i :: t).length (zam (i :: t))) (hk : (i :: t).map It.key = K) (hl : (i :: t).length ≤ 300) (hnm : ∀ j ∈ i :: t,ItOk j) (hs : Hid (i.sort = 0)) (htw : Hid (za5 [] K = none)) (G : List Fn) (hG : Hid (K.foldl addK [] = G)) (hG0 : 0 < G.length) :
  Calls Tryz.prog 68 #[v] w fun e w' => Below w.heap.size w w' ∧ ∃ pm ao n cap F,e = .returned (.agg #[.slice ao n cap,.map (some pm)]) ∧ PIn w.heap.size w' pm (.slice ao n cap) F ∧ Hid (F.map FnM.fn = G) ∧ 0 < F.length ∧ F.length ≤ 300 ∧ (∀ f ∈ F,f.its.length ≤ 300 ∧ ∀ i ∈ f.its,ItOk i):=by
 have:=zig w B v (i :: t) h hl hnm (by simp) hs
 rw [hk] at this
 have hKl : K.length ≤ 300:=by rw [← hk]; simpa using hl
 refine this.mono ?_
 rintro e w' ⟨hb,⟨l',h1,h2⟩ | ⟨_,pm,v',F,h1,h2,h3,h4,h5⟩⟩
 ·rw [htw.out] at h1; cases h1
 ·rw [hG.out] at h3
  have hFG : F.length = G.length:=by rw [← h3]; simp
  obtain ⟨ao,cap,rfl⟩:=za9 h2.row
  exact ⟨hb,pm,ao,_,cap,F,h1,h2,h3,by omega,by omega,fun f hf => ⟨by have:=(h5 f hf).1; omega,(h5 f hf).2⟩⟩
theorem zjB (s : ByteArray) (k : Key) (r : List Key) (h : Sts s (k :: r)) (hs : k.sort = 0) (l : Int) (ht : za5 [] (k :: r) = some l) : zcz s (3,l):=by
 intro w hw
 have hw1 : LibW (w.alloc Z33):=hw.below ((Below.refl _ _).alloc (Nat.le_refl _) _)
 have hcall:=zbJ s (w.alloc Z33) h.h4 h.h3
 have hcall2:=h.begins hs (w.alloc Z33) hw1
 have HT : Hid (za5 [] (k :: r) = some l):=ht
 clear h hs ht
 generalize k :: r = K at hcall2 HT
 go_enter Tryz.func44,Tryz.ntmps44
 go_wp2_with (first
  | (go_at_call 65; refine hcall.mono ?_; rintro e w1 ⟨rfl,hww⟩; subst hww)
  | (go_at_call 66; refine hcall2.mono ?_; rintro e w2 ⟨hb2,v,i,t,rfl,hown,hk,hl,hnm,hns⟩)
  | (go_at_call 67; refine (zfu w2 _ v i t hown hl hns).mono ?_; rintro e w3 ⟨rfl,hww⟩; have h2:=hww.symm; subst h2)
  | (go_at_call 68; refine (zqT _ _ v i t K hown hk hl hnm hns l HT).mono ?_; rintro e w4 ⟨hb4,rfl⟩))
 exact ⟨rfl,(zaA _ _ hb2).trans (hb4.mono (zaA _ _ hb2).size),.inr ⟨by simp,rfl⟩⟩
end Go.Proofs.YtfpgjkbjbbgciaaGreatDoor
namespace Go.Proofs.YtfpgjkbjbbgciaaGreatDoor
open Sp
structure Good (L : List Said) : Prop where
 wf : ∀ k (h : k < L.length),Wf L[k]
 form : ∀ k (h : k < L.length),L[k].kind = 105 → Form L[k].kept
 size : ∀ k (h : k < L.length),∀ x ∈ L[k].kept,x.size ≤ 4000
 head : ∃ i,∃ h : i < L.length,L[i].kind = 102 ∧ ∀ j (h' : j < L.length),j < i → L[j].kind = 0
 twice : ∀ k,k < L.length → zd5 L k = false
 miss : ∀ k,k < L.length → zb2 L k = false
 endl : ∀ k,k < L.length → zct L k = false
 few : L.length ≤ 300
theorem zet (L : List Said) (q j : Nat) (c : Int × Int) (h : pass L q j c = (0,0)) : c = (0,0) ∧ ∀ k,j ≤ k → k < L.length → badB L q k = false:=by
 by_cases hj : j < L.length
 ·cases hb : badB L q j with
  | true =>
   rw [zef L q j c hj hb] at h
   have:=congrArg Prod.fst h
   simp at this
   omega
  | false =>
   rw [zbF L q j c hj hb] at h
   obtain ⟨h1,h2⟩:=zet L q (j + 1) c h
   refine ⟨h1,fun k hk hl => ?_⟩
   by_cases e : k = j
   ·subst e; exact hb
   ·exact h2 k (by omega) hl
 ·rw [zee L q j c hj] at h
  exact ⟨h,fun k hk hl => by omega⟩
termination_by L.length - j
theorem zgQ (L : List Said) (i : Nat) (h : zaV L i = (0,0)) : (∃ j,∃ hj : j < L.length,i ≤ j ∧ L[j].kind = 102 ∧ ∀ k (hk : k < L.length),i ≤ k → k < j → L[k].kind = 0) ∧ tail L 0 = (0,0):=by
 by_cases hi : i < L.length
 ·by_cases h0 : L[i].kind = 0
  ·rw [zg7 L i hi h0] at h
   obtain ⟨⟨j,hj,h1,h2,h3⟩,h4⟩:=zgQ L (i + 1) h
   refine ⟨⟨j,hj,by omega,h2,fun k hk ha hb => ?_⟩,h4⟩
   by_cases e : k = i
   ·subst e; exact h0
   ·exact h3 k hk (by omega) hb
  ·by_cases h2 : L[i].kind = 102
   ·rw [zfA L i hi h0 h2] at h
    exact ⟨⟨i,hi,Nat.le_refl _,h2,fun k hk ha hb => by omega⟩,h⟩
   ·rw [zhB L i hi h0 h2] at h
    have:=congrArg Prod.fst h
    simp at this
 ·rw [zf9 L i hi] at h
  have:=congrArg Prod.fst h
  simp at this
termination_by L.length - i
theorem znr (s : ByteArray) (h : zd1 s = (0,0)) : Good ((lines s).map say):=by
 unfold zd1 at h
 split at h
 ·have:=congrArg Prod.fst h; simp at this
 ·rename_i hfar
  have hok : ∀ x ∈ lines s,(say x).ok = true:=by
   by_cases hok : ∀ x ∈ lines s,(say x).ok = true
   ·exact hok
   ·exfalso
    have key : ∀ i,(∃ j,∃ hj : j < (lines s).length,i ≤ j ∧ (say (lines s)[j]).ok = false) → ¬ zbs (lines s) i = (0,0):=by
     intro i
     intro ⟨j,hj,hij,hb⟩
     have hil : i ≤ j:=hij
     clear hij
     induction hd : j - i generalizing i with
     | zero =>
      obtain rfl : j = i:=by omega
      rw [zeh _ j hj hb]
      intro e
      have:=congrArg Prod.fst e
      simp at this
     | succ d ih =>
      cases hi : (say ((lines s)[i]'(by omega))).ok with
      | false =>
       rw [zeh _ i (by omega) hi]
       intro e
       have:=congrArg Prod.fst e
       simp at this
      | true =>
       rw [zeg _ i (by omega) hi]
       exact ih (i + 1) (by omega) (by omega)
    have : ∃ x ∈ lines s,¬ (say x).ok = true:=by
     refine Classical.byContradiction fun hn => hok fun x hx => ?_
     refine Classical.byContradiction fun hx' => hn ⟨x,hx,hx'⟩
    obtain ⟨x,hx,hb⟩:=this
    obtain ⟨j,hj,rfl⟩:=List.mem_iff_getElem.1 hx
    exact key 0 ⟨j,hj,by omega,by simpa using hb⟩ h
  rw [zdt _ hok 0] at h
  obtain ⟨⟨i,hi,_,h2,h3⟩,ht⟩:=zgQ _ 0 h
  have e0 : tail ((lines s).map say) 0 = pass ((lines s).map say) 0 0 (pass ((lines s).map say) 1 0 (pass ((lines s).map say) 2 0 (0,0))):=rfl
  rw [e0] at ht
  obtain ⟨t1,p0⟩:=zet _ _ _ _ ht
  obtain ⟨t2,p1⟩:=zet _ _ _ _ t1
  obtain ⟨_,p2⟩:=zet _ _ _ _ t2
  refine ⟨fun k hk => ?_,fun k hk h5 => ?_,fun k hk x hx => ?_,⟨i,hi,h2,fun j hj hji => h3 j hj (by omega) hji⟩,fun k hk => p0 k (by omega) hk,fun k hk => p1 k (by omega) hk,fun k hk => p2 k (by omega) hk,by simp; omega⟩
  ·rw [List.getElem_map]; exact zqo _ (hok _ (List.getElem_mem _))
  ·rw [List.getElem_map] at h5 ⊢; exact zqV _ (hok _ (List.getElem_mem _)) h5
  ·rw [List.getElem_map] at hx
   have h4:=zik _ x hx
   have h5:=zdK s ((lines s)[k]'(by simpa using hk)) (List.getElem_mem _)
   omega
def zda (L : List Said) (z : Int) : Prop:=∃ j : Nat,z = (j : Int) ∧ ∃ h : j < L.length,L[j].kind = 105
theorem zfv (L : List Said) (k : Nat) (h : zed L k false = true) : zda L (zan L k):=by
 by_cases hk : k < L.length
 ·by_cases h2 : L[k].kind = 102
  ·rw [ziZ L k _ hk h2] at h; cases h
  ·by_cases h5 : L[k].kind = 105
   ·rw [zfa L k hk h5]; exact ⟨k,rfl,hk,h5⟩
   ·rw [zdN L k hk h2 h5]
    rw [zdn L k _ hk h2,if_neg h5] at h
    refine zfv L (k + 1) ?_
    split at h <;> exact h
 ·rw [zf8 L k _ hk] at h; cases h
termination_by L.length - k
theorem Good.live {L : List Said} (G : Good L) (k : Nat) (hk : k < L.length) (h1 : ¬ L[k].kind = 0) (h2 : ¬ L[k].kind = 102) : ∃ e,zed L k e = true:=by
 obtain ⟨i,hi,h3,h4⟩:=G.head
 have hik : i < k:=by
  by_cases e : k = i
  ·subst e; exact absurd h3 h2
  ·by_cases e2 : k < i
   ·exact absurd (h4 k hk e2) h1
   ·omega
 have begin_ : ∀ j (hj : j < L.length),L[j].kind = 102 → zed L (j + 1) false = true:=fun j hj h => by
  have:=G.endl j hj
  rw [zhK L j hj (by simp [h])] at this
  simpa using this
 have key : ∀ d j,j = i + 1 + d → j ≤ L.length → ∃ e,zed L j e = true:=by
  intro d
  induction d with
  | zero => intro j hj _; subst hj; exact ⟨false,begin_ i hi h3⟩
  | succ d ih =>
   intro j hj hl
   obtain ⟨e,he⟩:=ih (j - 1) (by omega) (by omega)
   have hj1 : j - 1 < L.length:=by omega
   obtain ⟨p,rfl⟩ : ∃ p,j = p + 1:=⟨j - 1,by omega⟩
   simp only [Nat.add_sub_cancel] at he hj1
   by_cases hf : L[p].kind = 102
   ·exact ⟨false,begin_ p hj1 hf⟩
   ·rw [zdn L p e hj1 hf] at he; exact ⟨_,he⟩
 exact key (k - i - 1) k (by omega) (by omega)
theorem Good.lab {L : List Said} (G : Good L) (j : Nat) (hj : j < L.length) (h8 : L[j].kind = 108) : zda L (zan L j):=by
 obtain ⟨e,he⟩:=G.live j hj (by omega) (by omega)
 rw [zdn L j e hj (by omega),if_pos h8] at he
 rw [zdN L j hj (by omega) (by omega)]
 exact zfv L _ he
theorem Good.fn {L : List Said} (G : Good L) (j : Nat) (hj : j < L.length) (h2 : L[j].kind = 102) : zda L (zan L (j + 1)):=by
 have:=G.endl j hj
 rw [zhK L j hj (by simp [h2])] at this
 exact zfv L _ (by simpa using this)
theorem Good.next {L : List Said} (G : Good L) (k : Nat) (hk : k < L.length) (h5 : L[k].kind = 105) (he : ends (L[k].word 0) = false) : zda L (zan L (k + 1)):=by
 obtain ⟨e,h⟩:=G.live k hk (by omega) (by omega)
 rw [zdn L k e hk (by omega),if_neg (by omega),if_pos h5,he] at h
 exact zfv L _ h
end Go.Proofs.YtfpgjkbjbbgciaaGreatDoor
