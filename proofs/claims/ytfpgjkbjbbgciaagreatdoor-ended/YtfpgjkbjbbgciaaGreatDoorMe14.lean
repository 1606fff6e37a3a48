import Derived.Test.YtfpgjkbjbbgciaaGreatDoorMe11
import Derived.Test.YtfpgjkbjbbgciaaGreatDoorMe13
set_option maxRecDepth 100000
set_option maxHeartbeats 8000000
namespace Go.Proofs.YtfpgjkbjbbgciaaGreatDoor
open Go.RowKit Sp
def znj (w : World) (names : List ByteArray) (F : List Fn) : Ending → World → Prop:=fun e w' =>
 Below w.heap.size w w' ∧ ((∃ l,zcy names F = some l ∧ e = zah 4 l) ∨ (zcy names F = none ∧ e = .returned (.tuple #[])))
theorem zox (names : List ByteArray) (F : List Fn) (k : Nat) (h : k < F.length) : zcy names (F.drop k) = match zaH names (zbK F[k].body) F[k].body with | some l => some l | none => zcy names (F.drop (k + 1)):=by
 rw [List.drop_eq_getElem_cons h]
 rfl
theorem zjm (names labs : List ByteArray) (b : List Key) (k : Nat) (h : k < b.length) : zaH names labs (b.drop k) = if zcS names labs b[k] = true then some b[k].line else zaH names labs (b.drop (k + 1)):=by
 rw [List.drop_eq_getElem_cons h,zdS]
theorem zoy (i : It) (l : List It) : zaj (i :: l) = if i.sort = 1 then zaj l else i :: zaj l:=by
 by_cases h : i.sort = 1 <;> simp [zaj,h]
theorem zi6 : zbp ⟨#[]⟩ = false ∧ zcl ⟨#[]⟩ = false:=⟨by kernel_rfl,by kernel_rfl⟩
theorem ztj (names labs : List ByteArray) (l : List It) (h : ∀ i ∈ l,ItOk i) : zaH names labs (l.map It.key) = zaH names labs ((zaj l).map It.key):=by
 induction l with
 | nil => rfl
 | cons i l ih =>
  have ih:=ih (fun j hj => h j (by simp [hj]))
  rw [zoy]
  by_cases hs : i.sort = 1
  ·rw [if_pos hs,← ih,List.map_cons,zdS]
   have hw : i.key.word = ⟨#[]⟩:=(h i (by simp)).2 hs
   rw [if_neg]
   unfold zcS
   rw [hw,zi6.1,zi6.2]
   simp
  ·rw [if_neg hs,List.map_cons,List.map_cons,zdS,zdS,ih]
theorem zfP {X W : World} (hb : Below X.heap.size X W) {p : Addr} {u : Value} (h : X.cell? p = some u) : W.cell? p = some u:=(hb.cell (World.block_lt_of_cell? X p h)).trans h
structure Sees (W : World) (rb pb sb m pm : Nat) (i : It) (labs names : List (ByteArray × Nat)) : Prop where
 cm : W.cell? ⟨rb,3,none⟩ = some (.map (some m))
 cp : W.cell? ⟨pb,1,none⟩ = some (.map (some pm))
 c0 : W.cell? ⟨sb,0,none⟩ = some (.int .i64 i.sort)
 c1 : W.cell? ⟨sb,1,none⟩ = some (.int .i64 i.line)
 c2 : W.cell? ⟨sb,2,none⟩ = some (.string i.word)
 c3 : W.cell? ⟨sb,3,none⟩ = some (.int .i64 i.a)
 c4 : W.cell? ⟨sb,4,none⟩ = some (.int .i64 i.b)
 c5 : W.cell? ⟨sb,5,none⟩ = some (.int .i64 i.c)
 c6 : W.cell? ⟨sb,6,none⟩ = some (.int .i64 i.n)
 c7 : W.cell? ⟨sb,7,none⟩ = some (.string i.nm)
 ml : MapIs W m labs
 mp : MapIs W pm names
theorem Sees.below {X W : World} {rb pb sb m pm : Nat} {i : It} {labs names : List (ByteArray × Nat)} (h : Sees X rb pb sb m pm i labs names) (hb : Below X.heap.size X W) : Sees W rb pb sb m pm i labs names :=
 ⟨zfP hb h.cm,zfP hb h.cp,zfP hb h.c0,zfP hb h.c1,zfP hb h.c2,zfP hb h.c3,zfP hb h.c4,zfP hb h.c5,zfP hb h.c6,zfP hb h.c7,h.ml.below hb h.ml.lt,h.mp.below hb h.mp.lt⟩
theorem Sees.made (w : World) (rb pb m pm : Nat) (i : It) (labs names : List (ByteArray × Nat)) (cm : w.cell? ⟨rb,3,none⟩ = some (.map (some m))) (cp : w.cell? ⟨pb,1,none⟩ = some (.map (some pm))) (ml : MapIs w m labs) (mp : MapIs w pm names) :
  Sees (w.alloc (.cells #[.int .i64 i.sort,.int .i64 i.line,.string i.word,.int .i64 i.a,.int .i64 i.b,.int .i64 i.c,.int .i64 i.n,.string i.nm] 135)) rb pb w.heap.size m pm i labs names:=by
 have hb : Below w.heap.size w (w.alloc (.cells #[.int .i64 i.sort,.int .i64 i.line,.string i.word,.int .i64 i.a,.int .i64 i.b,.int .i64 i.c,.int .i64 i.n,.string i.nm] 135)):=(Below.refl _ _).alloc (Nat.le_refl _) _
 have h:=World.cell?_alloc_new (w:=w) #[.int .i64 i.sort,.int .i64 i.line,.string i.word,.int .i64 i.a,.int .i64 i.b,.int .i64 i.c,.int .i64 i.n,.string i.nm] 135
 exact ⟨zfP hb cm,zfP hb cp,h 0,h 1,h 2,h 3,h 4,h 5,h 6,h 7,ml.alloc _,mp.alloc _⟩
theorem zi7 (w : World) (B pm : Nat) (v : Value) (F : List FnM) (h : PIn B w pm v F) (hF : 0 < F.length) (hn : F.length ≤ 300) (hb : ∀ f ∈ F,f.its.length ≤ 300 ∧ ∀ i ∈ f.its,ItOk i) :
  Calls Tryz.prog 69 #[.agg #[v,.map (some pm)]] w (znj w (F.map FnM.name) (F.map FnM.fn)):=by
 obtain ⟨fg,cap,rfl,hfg,hcap,hcells⟩:=h.fns hF
 have hMP:=h.places
 have hN0:=zcf 0 F
 rw [← hN0]
 clear hN0
 change Calls Tryz.prog 69 #[.agg #[.slice (some ⟨fg,0,none⟩) F.length cap,.map (some pm)]] w (znj w (zby (zbh F)) (F.map FnM.fn))
 generalize zbh F = nameE at hMP ⊢
 generalize hN : zby nameE = names
 have HN : Hid (zby nameE = names):=hN
 clear hN
 have hW1 : Below w.heap.size w (w.alloc (.cells #[.slice (some ⟨fg,0,none⟩) F.length cap,.map (some pm)] 83)):=(Below.refl _ _).alloc (Nat.le_refl _) _
 have hZ1 : (w.alloc (.cells #[.slice (some ⟨fg,0,none⟩) F.length cap,.map (some pm)] 83)).heap.size = w.heap.size + 1:=by simp
 have hC1 : (w.alloc (.cells #[.slice (some ⟨fg,0,none⟩) F.length cap,.map (some pm)] 83)).cell? ⟨w.heap.size,1,none⟩ = some (.map (some pm)):=World.cell?_alloc_new (w:=w) #[.slice (some ⟨fg,0,none⟩) F.length cap,.map (some pm)] 83 1
 go_enter Tryz.func69,Tryz.ntmps69
 go_wp2
 generalize w.alloc (.cells #[.slice (some ⟨fg,0,none⟩) F.length cap,.map (some pm)] 83) = W1 at hW1 hZ1 hC1
 go_loopw [9] (fun ti wr => ∃ (k : Nat),k ≤ F.length ∧ ti = .int .i64 (k : Int) ∧ Below (w.heap.size + 1) W1 wr ∧ zcy names (F.map FnM.fn) = zcy names ((F.map FnM.fn).drop k)) (fun ti _ => F.length - (intOf ti).toNat)
 case atStart => exact ⟨0,by omega,rfl,Below.refl _ _,rfl⟩
 case round =>
  obtain ⟨wo,hwo⟩ : ∃ wo,wo = wr:=⟨wr,rfl⟩
  subst hwo
  obtain ⟨k,hk,rfl,hnx,hE⟩:=hrel
  have HE : Hid (zcy names (F.map FnM.fn) = zcy names ((F.map FnM.fn).drop k)):=hE
  clear hE
  have hszr:=hnx.size
  have hbw : Below w.heap.size w wo:=hW1.trans (hnx.mono (by omega))
  by_cases hlt : k < F.length
  ·obtain ⟨c0,c1,c2,c3⟩:=hcells k hlt
   have hmem:=List.getElem_mem hlt
   have HD : Hid (zcy names (F.map FnM.fn) = match zaH names (zby (zcc F[k].its)) ((zaj F[k].its).map It.key) with | some l => some l | none => zcy names ((F.map FnM.fn).drop (k + 1))):=by
    unfold Hid; rw [HE.out,zox _ _ k (by simpa using hlt),← ztj _ _ _ (hb F[k] hmem).2,zdj]; simp [FnM.fn]
   have hbo:=h.bodies F[k] hmem
   have hla:=h.labels F[k] hmem
   have hbl:=Nat.le_trans (zds F[k].its) (hb F[k] hmem).1
   have hnm : ∀ i ∈ zaj F[k].its,i.nm.size ≤ 1048576:=fun i hi => ((hb F[k] hmem).2 i ((List.mem_filter.1 hi).1)).1
   generalize F[k] = f at c0 c1 c2 c3 hmem HD hbo hbl hla hnm
   have z : ∀ j,wo.cell? ⟨fg,j,none⟩ = w.cell? ⟨fg,j,none⟩:=fun j => hbw.cell (p:=⟨fg,j,none⟩) hfg
   rw [← z] at c0 c1 c2 c3
   clear z HE
   have hk4 : k * 4 ≤ 1200:=by omega
   obtain ⟨name,line,its0,bv,m⟩:=f
   simp only at c0 c1 c2 c3 hbo hbl HD hla hnm
   generalize zcc its0 = labE at HD hla
   generalize zaj its0 = its at HD hbo hbl hnm
   obtain ⟨ao,capb,rfl⟩:=zb8 hbo
   generalize hlb : zby labE = labs at HD
   have HLB : Hid (zby labE = labs):=hlb
   clear hlb
   have hcp : wo.cell? ⟨w.heap.size,1,none⟩ = some (.map (some pm)):=(hnx.cell (by simp)).trans hC1
   have hW2 : Below wo.heap.size wo (wo.alloc (.cells #[.string name,.int .i64 line,.slice ao its.length capb,.map (some m)] 131)):=(Below.refl _ _).alloc (Nat.le_refl _) _
   have hZ2 : (wo.alloc (.cells #[.string name,.int .i64 line,.slice ao its.length capb,.map (some m)] 131)).heap.size = wo.heap.size + 1:=by simp
   have hC2 : (wo.alloc (.cells #[.string name,.int .i64 line,.slice ao its.length capb,.map (some m)] 131)).cell? ⟨wo.heap.size,3,none⟩ = some (.map (some m)):=World.cell?_alloc_new (w:=wo) #[.string name,.int .i64 line,.slice ao its.length capb,.map (some m)] 131 3
   go_wp2
   generalize wo.alloc (.cells #[.string name,.int .i64 line,.slice ao its.length capb,.map (some m)] 131) = W2 at hW2 hZ2 hC2
   go_loopw [16] (fun tj wi => ∃ (j : Nat),j ≤ its.length ∧ tj = .int .i64 (j : Int) ∧ Below (wo.heap.size + 1) W2 wi ∧ zaH names labs (its.map It.key) = zaH names labs ((its.map It.key).drop j)) (fun tj _ => its.length - (intOf tj).toNat)
   case atStart => exact ⟨0,by omega,rfl,Below.refl _ _,rfl⟩
   case round =>
    obtain ⟨j,hj,rfl,hny,hI⟩:=hrel
    have HI : Hid (zaH names labs (its.map It.key) = zaH names labs ((its.map It.key).drop j)):=hI
    clear hI
    have hszi:=hny.size
    have hbi : Below wo.heap.size wo wr:=hW2.trans (hny.mono (by omega))
    have hbww : Below w.heap.size w wr:=hbw.trans (hbi.mono hbw.size)
    by_cases hjl : j < its.length
    ·obtain ⟨bg,capb',hbv,_,hbg,hst⟩:=zfM hbo (by omega)
     have hs:=hst j hjl
     have hnk:=hnm its[j] (List.getElem_mem hjl)
     have HB : Hid (zaH names labs (its.map It.key) = if zcS names labs its[j].key = true then some its[j].line else zaH names labs ((its.map It.key).drop (j + 1))):=by
      unfold Hid; rw [HI.out,zjm _ _ _ j (by simpa using hjl)]; simp only [List.getElem_map]; rfl
     generalize its[j] = i at hs hnk HB
     obtain ⟨d0,d1,d2,d3,d4,d5,d6,d7⟩:=hs
     have z : ∀ j,wr.cell? ⟨bg,j,none⟩ = w.cell? ⟨bg,j,none⟩:=fun j => hbww.cell (p:=⟨bg,j,none⟩) hbg
     rw [← z] at d0 d1 d2 d3 d4 d5 d6 d7
     simp only [Value.slice.injEq,true_and] at hbv
     obtain ⟨rfl,rfl⟩:=hbv
     have hj8 : j * 8 ≤ 2400:=by omega
     have hML:=hla.below hbww hla.lt
     have hMPi:=hMP.below hbww hMP.lt
     have hcm : wr.cell? ⟨wo.heap.size,3,none⟩ = some (.map (some m)):=(hny.cell (by simp)).trans hC2
     have hcpi : wr.cell? ⟨w.heap.size,1,none⟩ = some (.map (some pm)):=zfP hbi hcp
     have S:=Sees.made wr wo.heap.size w.heap.size m pm i labE nameE hcm hcpi hML hMPi
     have hX0 : Below wr.heap.size wr (wr.alloc (.cells #[.int .i64 i.sort,.int .i64 i.line,.string i.word,.int .i64 i.a,.int .i64 i.b,.int .i64 i.c,.int .i64 i.n,.string i.nm] 135)):=(Below.refl _ _).alloc (Nat.le_refl _) _
     clear z hst hcp HI hML hMPi hcm hcpi
     have g36:=fun W => zkc i.sort i.line i.word i.a i.b i.c i.n i.nm W
     have g38:=fun W => zlF i.sort i.line i.word i.a i.b i.c i.n i.nm W
     cases hal : zbp i.word with
     | true =>
      have haf:=zhh _ hal
      rw [hal] at g36
      rw [haf] at g38
      cases hany : labs.any (fun y => eqW y i.nm) with
      | true =>
       have HX : Hid (zaH names labs (its.map It.key) = zaH names labs ((its.map It.key).drop (j + 1))):=by
        unfold Hid; rw [HB.out]; simp [zcS,It.key,hal,haf,hany]
       clear HB
       go_wp2_with (first
        | (go_at_call 102; refine (g36 _).mono ?_; rintro e w3 ⟨rfl,hb3⟩; have S3:=S.below hb3; obtain ⟨m3,p3,a0,a1,a2,a3,a4,a5,a6,a7,ml3,mp3⟩:=S3)
        | (go_at_call 103; refine (ziy w3 m labE ml3 i.sort i.line i.word i.a i.b i.c i.n i.nm hnk (by rw [HLB.out]; exact hany)).mono ?_; rintro e w4 ⟨rfl,hb4⟩; have hb34:=hb3.trans (hb4.mono hb3.size); have S4:=S.below hb34; obtain ⟨m4,p4,b0,b1,b2,b3,b4,b5,b6,b7,ml4,mp4⟩:=S4)
        | (go_at_call 104; refine (g38 _).mono ?_; rintro e w5 ⟨rfl,hb5⟩))
       have hb9 : Below (wo.heap.size + 1) wr w5:=(zaX _ _ (hb34.trans (hb5.mono hb34.size))).mono (by omega)
       clear hb3 hb4 hb34 hb5
       go_roundw
       case rel => exact ⟨j + 1,by omega,by go_num,hny.trans hb9,HX.out⟩
       case measure => simp [intOf]; omega
      | false =>
       have HX : Hid (zcy names (F.map FnM.fn) = some i.line):=by
        unfold Hid; rw [HD.out,HB.out]; simp [zcS,It.key,hal,haf,hany]
       clear HB
       go_wp2_with (first
        | (go_at_call 102; refine (g36 _).mono ?_; rintro e w3 ⟨rfl,hb3⟩; have S3:=S.below hb3; obtain ⟨m3,p3,a0,a1,a2,a3,a4,a5,a6,a7,ml3,mp3⟩:=S3)
        | (go_at_call 103; refine (zka w3 m labE ml3 i.sort i.line i.word i.a i.b i.c i.n i.nm hnk (by rw [HLB.out]; exact hany)).mono ?_; rintro e w4 ⟨rfl,hb4⟩; have hb34:=hb3.trans (hb4.mono hb3.size)))
       exact ⟨rfl,hbww.trans ((zaX _ _ hb34).mono hbww.size),.inl ⟨_,HX.out,rfl⟩⟩
     | false =>
      rw [hal] at g36
      cases haf : zcl i.word with
      | true =>
       rw [haf] at g38
       cases hany : names.any (fun y => eqW y i.nm) with
       | true =>
        have HX : Hid (zaH names labs (its.map It.key) = zaH names labs ((its.map It.key).drop (j + 1))):=by
         unfold Hid; rw [HB.out]; simp [zcS,It.key,hal,haf,hany]
        clear HB
        go_wp2_with (first
         | (go_at_call 102; refine (g36 _).mono ?_; rintro e w3 ⟨rfl,hb3⟩; have S3:=S.below hb3; obtain ⟨m3,p3,a0,a1,a2,a3,a4,a5,a6,a7,ml3,mp3⟩:=S3)
         | (go_at_call 104; refine (g38 _).mono ?_; rintro e w4 ⟨rfl,hb4⟩; have hb34:=hb3.trans (hb4.mono hb3.size); have S4:=S.below hb34; obtain ⟨m4,p4,b0,b1,b2,b3,b4,b5,b6,b7,ml4,mp4⟩:=S4)
         | (go_at_call 103; refine (ziy w4 pm nameE mp4 i.sort i.line i.word i.a i.b i.c i.n i.nm hnk (by rw [HN.out]; exact hany)).mono ?_; rintro e w5 ⟨rfl,hb5⟩))
        have hb9 : Below (wo.heap.size + 1) wr w5:=(zaX _ _ (hb34.trans (hb5.mono hb34.size))).mono (by omega)
        clear hb3 hb4 hb34 hb5
        go_roundw
        case rel => exact ⟨j + 1,by omega,by go_num,hny.trans hb9,HX.out⟩
        case measure => simp [intOf]; omega
       | false =>
        have HX : Hid (zcy names (F.map FnM.fn) = some i.line):=by
         unfold Hid; rw [HD.out,HB.out]; simp [zcS,It.key,hal,haf,hany]
        clear HB
        go_wp2_with (first
         | (go_at_call 102; refine (g36 _).mono ?_; rintro e w3 ⟨rfl,hb3⟩; have S3:=S.below hb3; obtain ⟨m3,p3,a0,a1,a2,a3,a4,a5,a6,a7,ml3,mp3⟩:=S3)
         | (go_at_call 104; refine (g38 _).mono ?_; rintro e w4 ⟨rfl,hb4⟩; have hb34:=hb3.trans (hb4.mono hb3.size); have S4:=S.below hb34; obtain ⟨m4,p4,b0,b1,b2,b3,b4,b5,b6,b7,ml4,mp4⟩:=S4)
         | (go_at_call 103; refine (zka w4 pm nameE mp4 i.sort i.line i.word i.a i.b i.c i.n i.nm hnk (by rw [HN.out]; exact hany)).mono ?_; rintro e w5 ⟨rfl,hb5⟩))
        exact ⟨rfl,hbww.trans ((zaX _ _ (hb34.trans (hb5.mono hb34.size))).mono hbww.size),.inl ⟨_,HX.out,rfl⟩⟩
      | false =>
       rw [haf] at g38
       have HX : Hid (zaH names labs (its.map It.key) = zaH names labs ((its.map It.key).drop (j + 1))):=by
        unfold Hid; rw [HB.out]; simp [zcS,It.key,hal,haf]
       clear HB
       go_wp2_with (first
        | (go_at_call 102; refine (g36 _).mono ?_; rintro e w3 ⟨rfl,hb3⟩; have S3:=S.below hb3; obtain ⟨m3,p3,a0,a1,a2,a3,a4,a5,a6,a7,ml3,mp3⟩:=S3)
        | (go_at_call 104; refine (g38 _).mono ?_; rintro e w4 ⟨rfl,hb4⟩; have hb34:=hb3.trans (hb4.mono hb3.size); have S4:=S.below hb34; obtain ⟨m4,p4,b0,b1,b2,b3,b4,b5,b6,b7,ml4,mp4⟩:=S4))
       have hb9 : Below (wo.heap.size + 1) wr w4:=(zaX _ _ hb34).mono (by omega)
       clear hb3 hb4 hb34
       go_roundw
       case rel => exact ⟨j + 1,by omega,by go_num,hny.trans hb9,HX.out⟩
       case measure => simp [intOf]; omega
    ·have HX : Hid (zcy names (F.map FnM.fn) = zcy names ((F.map FnM.fn).drop (k + 1))):=by
      unfold Hid; rw [HD.out,HI.out,List.drop_of_length_le (by simp; omega)]; rfl
     have hb9 : Below (w.heap.size + 1) W1 wr:=hnx.trans (hbi.mono (by omega))
     go_wp2
     go_roundw
     case rel => exact ⟨k + 1,by omega,by go_num,hb9,HX.out⟩
     case measure => simp [intOf]; omega
  ·have HX : Hid (k = F.length):=by unfold Hid; omega
   go_wp2
   go_end0
   refine ⟨hbw,.inr ⟨?_,rfl⟩⟩
   rw [HE.out,HX.out,List.drop_of_length_le (by simp)]; rfl
end Go.Proofs.YtfpgjkbjbbgciaaGreatDoor
