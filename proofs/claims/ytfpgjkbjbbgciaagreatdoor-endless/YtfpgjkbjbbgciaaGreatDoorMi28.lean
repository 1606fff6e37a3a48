import Derived.Test.YtfpgjkbjbbgciaaGreatDoorMi25
import Derived.Test.YtfpgjkbjbbgciaaGreatDoorMi27
set_option maxRecDepth 100000
set_option maxHeartbeats 8000000
namespace Go.Proofs.YtfpgjkbjbbgciaaGreatDoor
section
open Go.RowKit Sp Go.WideMaps Go.Maps
theorem zsJ{E:List (ByteArray × Nat)}(hpw:E.Pairwise (fun a b=>eqW a.1 b.1=false)){left:Lit→Bool}{x:ByteArray}{p n:Nat}(hf:zbB E x=some p)(hp:¬p=n)(h:∀ q∈E,left (.string q.1.data.toList)=false→¬q.2=n):
  ∀ q∈E,(left (.string q.1.data.toList)&&!(Lit.string q.1.data.toList).sameKey (.string x.data.toList))=false→¬q.2=n:=by
 intro q hq hl
 rw [Bool.and_eq_false_iff] at hl
 rcases hl with hl|hl
 ·exact h q hq hl
 ·have e:q.1.data.toList=x.data.toList:=by
   have:=WideAt.sameKey_eq (show(Lit.string q.1.data.toList).sameKey (.string x.data.toList)=true by simpa using hl)
   simpa using this
  rw [zqx E hpw x p hf q hq ((zea _ _).2 e)]
  exact hp
theorem zsK(w:World)(B m:Nat)(name:ByteArray)(line:Int)(bv:Value)(E:List (ByteArray × Nat))(its:List It)(hM:MapIs w m E)(hbo:w.ownsRow B 135 8 bv its.length (zav its))(hn:its.length≤300):
  Calls Tryz.prog 105 #[.agg #[.string name,.int .i64 line,bv,.map (some m)]] w fun e w'=>e=.returned (.bool (E.all (fun p=>!decide (p.2=its.length))&&zec its))∧Below w.heap.size w w':=by
 obtain⟨D,hown,hD,hhas,hat0,hpw⟩:=hM
 have hlt:=hown.lt
 obtain⟨ao,capb,rfl⟩:=zbb hbo
 have hne:¬w.heap.size=m:=by omega
 have hbox:(w.alloc (.cells #[.string name,.int .i64 line,.slice ao its.length capb,.map (some m)] 131)).cell? ⟨w.heap.size,2,none⟩=some (.slice ao its.length capb):=World.cell?_alloc_new (w:=w) #[.string name,.int .i64 line,.slice ao its.length capb,.map (some m)] 131 2
 have hb0:Below w.heap.size w (w.alloc (.cells #[.string name,.int .i64 line,.slice ao its.length capb,.map (some m)] 131)):=(Below.refl _ _).alloc (Nat.le_refl _) _
 have hsz0:(w.alloc (.cells #[.string name,.int .i64 line,.slice ao its.length capb,.map (some m)] 131)).heap.size=w.heap.size+1:=by simp
 go_enter Tryz.func105,Tryz.ntmps105
 go_wp2_with(first
  | (at_range;refine wpList_range_own _ rfl _ 81 rfl 9 3 lawS Tryz.under81 _ m E.length _ rfl (hown.alloc _) ?_;intro w0 hrg0 hg0 hs0))
 rw [hsz0] at hrg0 hs0 ⊢
 generalize w.alloc (.cells #[.string name,.int .i64 line,.slice ao its.length capb,.map (some m)] 131)=W1 at hbox hb0 hsz0 hg0
 have hbx:w0.cell? ⟨w.heap.size,2,none⟩=some (.slice ao its.length capb):=(hg0.cell_far _ (by simp;omega) (by simp)).trans hbox
 have hb1:Below w.heap.size w w0:=hb0.trans (((Below.refl w.heap.size W1).grown hg0 (by omega) (fun j hj=>by cases hj)))
 go_frame
 go_loopw [4] (fun _ wr=>∃(left:Lit→Bool) (cnt:Nat),wr.ranges Tryz.prog 9 (plainElem Tryz.prog 3) m (w.heap.size+1) E.length D left cnt∧w0.grownBy wr (some (w.heap.size+1))∧(∀ p∈E,left (.string p.1.data.toList)=false→¬p.2=its.length))
  (fun _ wr=>wr.rangeLeft m (w.heap.size+1))
 case atStart =>
  refine⟨_,_,hrg0,⟨rfl,rfl,rfl,Nat.le_refl _,fun _ _ _=>rfl⟩,fun p hp hl=>?_⟩
  rw [hhas p.1,List.any_eq_false] at hl
  have:=hl p.1 (List.mem_map_of_mem hp)
  rw [(zea _ _).2 rfl] at this
  simp at this
 case round =>
  obtain⟨left,cnt,hrg,hgw,hno⟩:=hrel
  have hbr:wr.cell? ⟨w.heap.size,2,none⟩=some (.slice ao its.length capb):=(hgw.cell_far _ (by simp;omega) (by simp)).trans hbx
  have hbw:Below w.heap.size w wr:=hb1.trans ((Below.refl w.heap.size w0).grown hgw (by omega) (fun j hj=>by cases hj;omega))
  go_wp2_with(first
   | (at_next;refine wpList_next_ranges _ rfl _ rfl 9 lawS (plainElem Tryz.prog 3) Value.string (Value.int .i64) (fun key kl hk=>by obtain⟨x,hx,_⟩:=string_of_keyOf Tryz.underlying9 hk;exact⟨x,hx⟩) (fun v y hv=>by obtain⟨c,rfl,_⟩:=plainElem_int_inv Tryz.underlying3 hv;exact⟨c,rfl⟩) m (w.heap.size+1) E.length _ _ _ rfl hrg ?_ ?_))
  ·intro _ hl0
   have HA:Hid (E.all (fun p=>!decide (p.2=its.length))=true):=zn0 E _ (fun p hp=>hno p hp (hl0 _))
   clear hl0 hno hrg hgw hhas hat0 hpw hown hD
   rcases List.eq_nil_or_concat its with rfl|⟨I,i,hI⟩
   ·simp only [List.length_nil] at hbr
    go_wp2
    go_ret
    exact⟨by simp [zec],hbw⟩
   ·rw [List.concat_eq_append] at hI
    subst hI
    obtain⟨bg,capb',hbv,_,hbg,hst⟩:=zg2 hbo (by simp)
    simp only [Value.slice.injEq,true_and] at hbv
    obtain⟨rfl,rfl⟩:=hbv
    have hs:=hst I.length (by simp)
    have hil:(I++[i]).length=I.length+1:=by simp
    rw [hil] at hbr hn
    simp only [List.getElem_append_right (Nat.le_refl _),Nat.sub_self,List.getElem_cons_zero] at hs
    obtain⟨d0,d1,d2,d3,d4,d5,d6,d7⟩:=hs
    have z:∀ j,wr.cell? ⟨bg,j,none⟩=w.cell? ⟨bg,j,none⟩:=fun j=>hbw.cell (p:=⟨bg,j,none⟩) hbg
    rw [←z] at d0 d1 d2 d3 d4 d5 d6 d7
    have hwrap:IntKind.i64.wrap (I.length:Int)=(I.length:Int):=zdD _ (by omega) (by omega)
    have hf3:(0:Int)<(I.length:Int)+1:=by omega
    have hf4:(0:Int)≤(I.length:Int):=by omega
    have hf5:(I.length:Int)<(I.length:Int)+1:=by omega
    have hcall:=fun W=>zqe i.sort i.line i.word i.a i.b i.c i.n i.nm W
    have HL:Hid (zec (I++[i])=ends i.word):=zfX I i
    clear z hst hbo hil
    go_wp2_with(first|(go_at_call 132;refine(hcall _).mono ?_;rintro e w2 ⟨rfl,hb2⟩))
    go_ret
    refine⟨?_,hbw.trans (hb2.mono hbw.size)⟩
    rw [HA.out,HL.out];simp
  ·intro x c kl yd yp w1 cnt1 hkey hlk hv hat hrg1 hlt1 hg1 hs1 hen
   obtain⟨x',ex,rfl,_⟩:=string_of_keyOf Tryz.underlying9 hkey
   cases ex
   obtain⟨c',ec,ey,_⟩:=plainElem_int_inv Tryz.underlying3 hv
   cases ec
   have hh:=has_true_of_atKey hat
   rw [hhas x] at hh
   obtain⟨p,hp⟩:=zpU E x hh
   have hc:c=(p:Int):=by
    have h1:=hat0 x p (.lit (.int .i64 0)) hp
    rw [hat] at h1
    cases ey
    simpa using h1
   subst hc
   clear hs1
   have hb11:w1.cell? ⟨w.heap.size,2,none⟩=some (.slice ao its.length capb):=(hg1.cell_far _ (by simp;have:=hbw.size;have:=hg0.size;have:=hgw.size;omega) (by simp)).trans hbr
   by_cases hpn:p=its.length
   ·have hpn':((p:Int) == (its.length:Int))=true:=by simp;omega
    obtain⟨q,hq,hq2,_⟩:=zsI E x p hp
    have HA:Hid (E.all (fun p=>!decide (p.2=its.length))=false):=zn1 E _ q hq (hq2.trans hpn)
    have hb12:Below w.heap.size w w1:=hbw.trans ((Below.refl w.heap.size wr).grown hg1 hbw.size (fun j hj=>by cases hj;omega))
    clear hno hrg hrg1 hgw hhas hat0 hpw hown hD hat
    go_wp2
    go_ret
    exact⟨by rw [HA.out];rfl,hb12⟩
   ·have hpn':((p:Int) == (its.length:Int))=false:=by simp;omega
    go_wp2
    go_roundw
    case rel=>exact⟨_,cnt1,hrg1,hgw.andThen hg1 (fun j hj=>by cases hj;exact Or.inr rfl),zsJ hpw hp hpn hno⟩
    case measure=>rw [hrg1.left_eq,hrg.left_eq];exact hlt1
theorem zl4(w:World)(B pm:Nat)(v:Value)(F:List FnM)(h:PIn B w pm v F)(hF:0<F.length)(hn:F.length≤300)(hb:∀ f∈F,f.its.length≤300∧∀ i∈f.its,ItOk i):
  Calls Tryz.prog 70 #[.agg #[v,.map (some pm)]] w (zxZ w (F.map FnM.fn)):=by
 obtain⟨fg,cap,rfl,hfg,hcap,hcells⟩:=h.fns hF
 go_enter Tryz.func70,Tryz.ntmps70
 go_wp2
 go_loopw [7] (fun ti wr=>∃(k:Nat),k≤F.length∧ti=.int .i64 (k:Int)∧Below w.heap.size w wr∧endK (F.map FnM.fn)=endK ((F.map FnM.fn).drop k)) (fun ti _=>F.length-(intOf ti).toNat)
 case atStart=>exact⟨0,by omega,rfl,(Below.refl _ _).alloc (Nat.le_refl _) _,rfl⟩
 case round =>
  obtain⟨k,hk,rfl,hbw,hE⟩:=hrel
  have HE:Hid (endK (F.map FnM.fn)=endK ((F.map FnM.fn).drop k)):=hE
  clear hE
  have hszr:=hbw.size
  by_cases hlt:k<F.length
  ·obtain⟨c0,c1,c2,c3⟩:=hcells k hlt
   have hmem:=List.getElem_mem hlt
   have HD:Hid (endK (F.map FnM.fn)=if zsH F[k].its=true then endK ((F.map FnM.fn).drop (k+1)) else some F[k].line):=by
    unfold Hid;rw [HE.out,zsG _ k (by simpa using hlt),zvH _ (hb F[k] hmem).2];simp [FnM.fn]
   have hbo:=(h.bodies F[k] hmem)
   have hla:=(h.labels F[k] hmem)
   have hbl:=Nat.le_trans (zdJ F[k].its) (hb F[k] hmem).1
   generalize F[k]=f at c0 c1 c2 c3 hmem HD hbo hbl hla
   have z:∀ j,wr.cell? ⟨fg,j,none⟩=w.cell? ⟨fg,j,none⟩:=fun j=>hbw.cell (p:=⟨fg,j,none⟩) hfg
   rw [←z] at c0 c1 c2 c3
   clear z
   have hk4:k*4≤1200:=by omega
   obtain⟨name,line,its,bv,m⟩:=f
   simp only at c0 c1 c2 c3 hbo hbl HD hla
   have hbo2:=zaj (w':=wr) hbo (fun g hg=>hbw.block g (hbo.lt g hg).2)
   have hla2:=hla.below hbw hla.lt
   obtain⟨ao,capb,rfl⟩:=zbb hbo
   have hcall:=zsK (wr.alloc (.cells #[.string name,.int .i64 line,.slice ao (zal its).length capb,.map (some m)] 131)) B m name line _ _ _ (hla2.alloc _) (hbo2.alloc _) hbl
   have hM:Hid (((zcm its).all (fun p=>!decide (p.2=(zal its).length))&&zec (zal its))=zsH its):=rfl
   rw [hM.out] at hcall
   clear hbo hbo2 hla hla2 hM
   cases hend:zsH its with
   | false =>
    rw [hend] at HD hcall
    go_wp2_with(first|(go_at_call 105;refine hcall.mono ?_;rintro e w2 ⟨rfl,hb2⟩;have hq1:=(zoN hb2).1)|(go_at_call 79;refine(zay _ _ _).mono ?_;rintro e wx ⟨rfl,hww⟩;subst hww))
    exact⟨rfl,hbw.trans ((zaZ _ _ hb2).mono (by omega)),.inl ⟨_,HD.out,rfl⟩⟩
   | true =>
    rw [hend] at HD hcall
    go_wp2_with(first|(go_at_call 105;refine hcall.mono ?_;rintro e w2 ⟨rfl,hb2⟩;have hq1:=(zoN hb2).1))
    have hb12:=hbw.trans ((zaZ _ _ hb2).mono (by omega))
    clear hb2
    go_roundw
    case rel=>exact⟨k+1,by omega,by go_num,hb12,HD.out⟩
    case measure=>simp [intOf];omega
  ·have HX:Hid (k=F.length):=by unfold Hid;omega
   go_wp2
   go_end0
   refine⟨hbw,.inr ⟨?_,rfl⟩⟩
   rw [HE.out,HX.out,List.drop_of_length_le (by simp)];rfl
end
section
open Go.RowKit Sp
theorem zoP{F:List FnM}{G:List Fn}(hG:Hid (F.map FnM.fn=G)):F.map FnM.name=G.map Fn.name:=by
 rw [←hG.out,zkq]
theorem PIn.alloc{B:Nat}{w:World}{pm:Nat}{v:Value}{F:List FnM}(h:PIn B w pm v F)(o:Obj):PIn B (w.alloc o) pm v F:=h.of_blocks fun _b _ hb=>Below.heap_alloc _ _ _ hb
theorem PIn.below{B:Nat}{w w':World}{pm:Nat}{v:Value}{F:List FnM}(h:PIn B w pm v F)(hb:Below w.heap.size w w'):PIn B w' pm v F:=h.of_blocks fun b _ hl=>hb.block b hl
theorem zzZ{B:Nat}{w:World}{pm:Nat}{v:Value}{F:List FnM}{G:List Fn}(h:PIn B w pm v F)(hG:Hid (F.map FnM.fn=G))(hF:0<F.length)(hn:F.length≤300)(hb:∀ f∈F,f.its.length≤300∧∀ i∈f.its,ItOk i)(l:Int)(hm:Hid (zcA (G.map Fn.name) G=some l)):
  Calls Tryz.prog 69 #[.agg #[v,.map (some pm)]] w fun e w'=>e=zak 4 l∧Below w.heap.size w w':=by
 have:=zjE w B pm v F h hF hn hb
 rw [zoP hG,hG.out] at this
 refine this.mono ?_
 rintro e w' ⟨hbb,⟨l',h1,h2⟩|⟨h1,_⟩⟩
 ·rw [hm.out] at h1;cases h1;exact⟨h2,hbb⟩
 ·rw [hm.out] at h1;cases h1
theorem zxs{B:Nat}{w:World}{pm:Nat}{v:Value}{F:List FnM}{G:List Fn}(h:PIn B w pm v F)(hG:Hid (F.map FnM.fn=G))(hF:0<F.length)(hn:F.length≤300)(hb:∀ f∈F,f.its.length≤300∧∀ i∈f.its,ItOk i)(hm:Hid (zcA (G.map Fn.name) G=none)):
  Calls Tryz.prog 69 #[.agg #[v,.map (some pm)]] w fun e w'=>e=.returned (.tuple #[])∧Below w.heap.size w w':=by
 have:=zjE w B pm v F h hF hn hb
 rw [zoP hG,hG.out] at this
 refine this.mono ?_
 rintro e w' ⟨hbb,⟨l',h1,h2⟩|⟨_,h1⟩⟩
 ·rw [hm.out] at h1;cases h1
 ·exact⟨h1,hbb⟩
theorem zzy{B:Nat}{w:World}{pm:Nat}{v:Value}{F:List FnM}{G:List Fn}(h:PIn B w pm v F)(hG:Hid (F.map FnM.fn=G))(hF:0<F.length)(hn:F.length≤300)(hb:∀ f∈F,f.its.length≤300∧∀ i∈f.its,ItOk i)(l:Int)(hm:Hid (endK G=some l)):
  Calls Tryz.prog 70 #[.agg #[v,.map (some pm)]] w fun e w'=>e=zak 5 l∧Below w.heap.size w w':=by
 have:=zl4 w B pm v F h hF hn hb
 rw [hG.out] at this
 refine this.mono ?_
 rintro e w' ⟨hbb,⟨l',h1,h2⟩|⟨h1,_⟩⟩
 ·rw [hm.out] at h1;cases h1;exact⟨h2,hbb⟩
 ·rw [hm.out] at h1;cases h1
theorem zya{B:Nat}{w:World}{pm:Nat}{v:Value}{F:List FnM}{G:List Fn}(h:PIn B w pm v F)(hG:Hid (F.map FnM.fn=G))(hF:0<F.length)(hn:F.length≤300)(hb:∀ f∈F,f.its.length≤300∧∀ i∈f.its,ItOk i)(hm:Hid (endK G=none)):
  Calls Tryz.prog 70 #[.agg #[v,.map (some pm)]] w fun e w'=>e=.returned (.tuple #[])∧Below w.heap.size w w':=by
 have:=zl4 w B pm v F h hF hn hb
 rw [hG.out] at this
 refine this.mono ?_
 rintro e w' ⟨hbb,⟨l',h1,h2⟩|⟨_,h1⟩⟩
 ·rw [hm.out] at h1;cases h1
 ·exact⟨h1,hbb⟩
theorem zvJ(F:List Fn)(k:Key)(h:0<F.length):0<(addK F k).length:=by
 unfold addK
 split
 ·simp
 ·split
  ·exact h
  ·simp
theorem zvK(K:List Key)(F:List Fn)(h:0<F.length):0<(K.foldl addK F).length:=by
 induction K generalizing F with
 | nil=>exact h
 | cons k r ih=>exact ih _ (zvJ F k h)
theorem zg5(k:Key)(r:List Key)(hs:k.sort=0):0<((k :: r).foldl addK []).length:=by
 rw [List.foldl_cons,zcw _ _ hs]
 exact zvK r _ (by simp)
theorem zoQ{w w':World}{a b:Value}(hb:Below (w.alloc (.cells #[a,b] 83)).heap.size (w.alloc (.cells #[a,b] 83)) w'):
  w'.cell? ⟨w.heap.size,0,none⟩=some a∧w'.cell? ⟨w.heap.size,1,none⟩=some b∧w'.frozen? ⟨w.heap.size,0,none⟩=false∧w'.frozen? ⟨w.heap.size,1,none⟩=false:=by
 have hh:w'.heap[w.heap.size]?=some (.cells #[a,b] 83 (0,0)):=(hb.block _ (by simp)).trans (heap_alloc_new w _)
 exact⟨by rw [cell_of_row w' _ 0 _ _ _ hh];rfl,by rw [cell_of_row w' _ 1 _ _ _ hh];rfl,frozen_of_row w' _ 0 _ _ hh,frozen_of_row w' _ 1 _ _ hh⟩
theorem zq0(s:ByteArray)(k:Key)(r:List Key)(h:Sts s (k :: r))(hs:k.sort=0)(ht:zaR [] (k :: r)=none)(G:List Fn)(hG:(k :: r).foldl addK []=G)(l:Int)(hm:zcA (G.map Fn.name) G=some l):zbQ s (4,l):=by
 intro w hw
 have hw1:LibW (w.alloc Z33):=hw.below ((Below.refl _ _).alloc (Nat.le_refl _) _)
 have hcall:=zcG s (w.alloc Z33) h.h4 h.h3
 have hcall2:=h.begins hs (w.alloc Z33) hw1
 have HT:Hid (zaR [] (k :: r)=none):=ht
 have HG:Hid ((k :: r).foldl addK []=G):=hG
 have HM:Hid (zcA (G.map Fn.name) G=some l):=hm
 have hG0:0<G.length:=by rw [←hG];exact zg5 k r hs
 clear h hs ht hG hm
 generalize k :: r=K at hcall2 HT HG
 go_enter Tryz.func44,Tryz.ntmps44
 go_wp2_with(first
  | (go_at_call 65;refine hcall.mono ?_;rintro e w1 ⟨rfl,hww⟩;subst hww)
  | (go_at_call 66;refine hcall2.mono ?_;rintro e w2 ⟨hb2,v,i,t,rfl,hown,hk,hl,hnm,hns⟩)
  | (go_at_call 67;refine(zhw w2 _ v i t hown hl hns).mono ?_;rintro e w3 ⟨rfl,hww⟩;have h2:=hww.symm;subst h2)
  | (go_at_call 68;refine(znt _ _ v i t K hown hk hl hnm hns HT G HG hG0).mono ?_;rintro e w4 ⟨hb4,pm,ao,n,cap,F,rfl,hpin,hFG,hF0,hFn,hFi⟩)
  | (go_at_call 69;refine(zzZ (hpin.alloc _) hFG hF0 hFn hFi l HM).mono ?_;rintro e w5 ⟨rfl,hb5⟩))
 exact⟨rfl,((zaZ _ _ hb2).trans (hb4.mono (zaZ _ _ hb2).size)).trans ((zaZ _ _ hb5).mono ((zaZ _ _ hb2).trans (hb4.mono (zaZ _ _ hb2).size)).size),.inr ⟨by simp,rfl⟩⟩
theorem zsL(s:ByteArray)(k:Key)(r:List Key)(h:Sts s (k :: r))(hs:k.sort=0)(ht:zaR [] (k :: r)=none)(G:List Fn)(hG:(k :: r).foldl addK []=G)(hm:zcA (G.map Fn.name) G=none)(l:Int)(he:endK G=some l):zbQ s (5,l):=by
 intro w hw
 have hw1:LibW (w.alloc Z33):=hw.below ((Below.refl _ _).alloc (Nat.le_refl _) _)
 have hcall:=zcG s (w.alloc Z33) h.h4 h.h3
 have hcall2:=h.begins hs (w.alloc Z33) hw1
 have HT:Hid (zaR [] (k :: r)=none):=ht
 have HG:Hid ((k :: r).foldl addK []=G):=hG
 have HM:Hid (zcA (G.map Fn.name) G=none):=hm
 have HE:Hid (endK G=some l):=he
 have hG0:0<G.length:=by rw [←hG];exact zg5 k r hs
 clear h hs ht hG hm he
 generalize k :: r=K at hcall2 HT HG
 go_enter Tryz.func44,Tryz.ntmps44
 go_wp2_with(first
  | (go_at_call 65;refine hcall.mono ?_;rintro e w1 ⟨rfl,hww⟩;subst hww)
  | (go_at_call 66;refine hcall2.mono ?_;rintro e w2 ⟨hb2,v,i,t,rfl,hown,hk,hl,hnm,hns⟩)
  | (go_at_call 67;refine(zhw w2 _ v i t hown hl hns).mono ?_;rintro e w3 ⟨rfl,hww⟩;have h2:=hww.symm;subst h2)
  | (go_at_call 68;refine(znt _ _ v i t K hown hk hl hnm hns HT G HG hG0).mono ?_;rintro e w4 ⟨hb4,pm,ao,n,cap,F,rfl,hpin,hFG,hF0,hFn,hFi⟩)
  | (go_at_call 69;refine(zxs (hpin.alloc _) hFG hF0 hFn hFi HM).mono ?_;rintro e w5 ⟨rfl,hb5⟩;obtain⟨t0,t1,_,_⟩:=zoQ hb5)
  | (go_at_call 70;refine(zzy ((hpin.alloc _).below hb5) hFG hF0 hFn hFi l HE).mono ?_;rintro e w6 ⟨rfl,hb6⟩))
 exact⟨rfl,((zaZ _ _ hb2).trans (hb4.mono (zaZ _ _ hb2).size)).trans ((zaZ _ _ (hb5.trans (hb6.mono hb5.size))).mono ((zaZ _ _ hb2).trans (hb4.mono (zaZ _ _ hb2).size)).size),.inr ⟨by simp,rfl⟩⟩
theorem zjF(s:ByteArray)(k:Key)(r:List Key)(h:Sts s (k :: r))(hs:k.sort=0)(ht:zaR [] (k :: r)=none)(G:List Fn)(hG:(k :: r).foldl addK []=G)(hm:zcA (G.map Fn.name) G=none)(he:endK G=none)(w:World)(hw:LibW w):
  Calls Tryz.prog 44 #[.string s] w fun e w'=>Below w.heap.size w w'∧∃ pm ao n cap F,e=.returned (.agg #[.slice ao n cap,.map (some pm)])∧PIn w.heap.size w' pm (.slice ao n cap) F∧Hid (F.map FnM.fn=G)∧0<F.length∧F.length≤300∧(∀ f∈F,f.its.length≤300∧∀ i∈f.its,ItOk i):=by
 have hw1:LibW (w.alloc Z33):=hw.below ((Below.refl _ _).alloc (Nat.le_refl _) _)
 have hcall:=zcG s (w.alloc Z33) h.h4 h.h3
 have hcall2:=h.begins hs (w.alloc Z33) hw1
 have HT:Hid (zaR [] (k :: r)=none):=ht
 have HG:Hid ((k :: r).foldl addK []=G):=hG
 have HM:Hid (zcA (G.map Fn.name) G=none):=hm
 have HE:Hid (endK G=none):=he
 have hG0:0<G.length:=by rw [←hG];exact zg5 k r hs
 clear h hs ht hG hm he
 generalize k :: r=K at hcall2 HT HG
 go_enter Tryz.func44,Tryz.ntmps44
 go_wp2_with(first
  | (go_at_call 65;refine hcall.mono ?_;rintro e w1 ⟨rfl,hww⟩;subst hww)
  | (go_at_call 66;refine hcall2.mono ?_;rintro e w2 ⟨hb2,v,i,t,rfl,hown,hk,hl,hnm,hns⟩)
  | (go_at_call 67;refine(zhw w2 _ v i t hown hl hns).mono ?_;rintro e w3 ⟨rfl,hww⟩;have h2:=hww.symm;subst h2)
  | (go_at_call 68;refine(znt _ _ v i t K hown hk hl hnm hns HT G HG hG0).mono ?_;rintro e w4 ⟨hb4,pm,ao,n,cap,F,rfl,hpin,hFG,hF0,hFn,hFi⟩)
  | (go_at_call 69;refine(zxs (hpin.alloc _) hFG hF0 hFn hFi HM).mono ?_;rintro e w5 ⟨rfl,hb5⟩;obtain⟨t0,t1,_,_⟩:=zoQ hb5)
  | (go_at_call 70;refine(zya ((hpin.alloc _).below hb5) hFG hF0 hFn hFi HE).mono ?_;rintro e w6 ⟨rfl,hb6⟩;have hb56:=hb5.trans (hb6.mono hb5.size);have hbz:=zaZ _ _ hb56;have hz:=(hb2.trans (hb4.mono hb2.size)).trans (hbz.mono (hb2.trans (hb4.mono hb2.size)).size);obtain⟨s0,s1,_,_⟩:=zoQ hb56;obtain⟨r0,r1,f0,f1⟩:=zoQ hz))
 have q0:=World.cell?_setCell_same (w6.setCell ⟨w.heap.size,0,none⟩ (.slice ao n cap)) ⟨w.heap.size,1,none⟩ (.map (some pm)) (u:=.map none) (by rw [World.cell?_setCell_other];exact r1;simp)
 have q1:((w6.setCell ⟨w.heap.size,0,none⟩ (.slice ao n cap)).setCell ⟨w.heap.size,1,none⟩ (.map (some pm))).cell? ⟨w.heap.size,0,none⟩=some (.slice ao n cap):=by
  rw [World.cell?_setCell_other]
  ·exact World.cell?_setCell_same w6 _ _ r0
  ·simp
 refine bodyPost_ret (v:=.agg #[.slice ao n cap,.map (some pm)]) (by simp [results,Tryz.results44,go_sem,q0,q1]) rfl ⟨?_,pm,ao,n,cap,F,rfl,?_,hFG,hF0,hFn,hFi⟩
 ·exact((zaZ _ _ hz).setCell (p:=⟨w.heap.size,0,none⟩) (Nat.le_refl _) _).setCell (p:=⟨w.heap.size,1,none⟩) (Nat.le_refl _) _
 ·have hw4:(w.alloc Z33).heap.size≤w2.heap.size:=hb2.size
  have hz3:(w.alloc Z33).heap.size=w.heap.size+1:=by simp
  have p6:=((hpin.alloc (.cells #[.slice ao n cap,.map (some pm)] 83)).below hb56)
  exact(p6.of_blocks (w':=((w6.setCell ⟨w.heap.size,0,none⟩ (.slice ao n cap)).setCell ⟨w.heap.size,1,none⟩ (.map (some pm)))) (fun b hb _=>by rw [Below.heap_setCell _ _ _ _ (by show ¬b=w.heap.size;omega),Below.heap_setCell _ _ _ _ (by show ¬b=w.heap.size;omega)])).mono (by omega)
theorem zvL(s:ByteArray)(k:Key)(r:List Key)(h:Sts s (k :: r))(hs:k.sort=0)(ht:zaR [] (k :: r)=none)(G:List Fn)(hG:(k :: r).foldl addK []=G)(hm:zcA (G.map Fn.name) G=none)(he:endK G=none):zbQ s (0,0):=by
 intro w hw
 refine(zjF s k r h hs ht G hG hm he w hw).mono ?_
 rintro e w' ⟨hb,pm,ao,n,cap,F,rfl,_⟩
 exact⟨hb,.inl ⟨rfl,_,rfl⟩⟩
theorem ziq(s:ByteArray)(hs:s.size≤9223372036854775807):zbQ s (zcg s):=by
 unfold zcg
 by_cases h:4000<s.size∨300<(lines s).length
 ·rw [if_pos h];exact zs1 s hs h
 ·rw [if_neg h]
  have h4:s.size≤4000:=by omega
  have h3:(lines s).length≤300:=by omega
  by_cases hok:∀ x∈lines s,(say x).ok=true
  ·rw [zeP _ hok 0,zeO _ hok]
   have S:Sts s (zaU (lines s) (lines s).length):=⟨h4,h3,hok,rfl⟩
   generalize zaU (lines s) (lines s).length=K at S
   cases K with
   | nil=>exact zqm s S
   | cons k r =>
    unfold sayK
    dsimp only
    by_cases h0:k.sort=0
    ·rw [if_pos h0]
     cases ht:zaR [] (k :: r) with
     | some l=>exact znu s k r S h0 l ht
     | none =>
      generalize hG:(k :: r).foldl addK []=G
      cases hm:zcA (G.map Fn.name) G with
      | some l=>exact zq0 s k r S h0 ht G hG l hm
      | none =>
       cases he:endK G with
       | some l=>exact zsL s k r S h0 ht G hG hm l he
       | none=>exact zvL s k r S h0 ht G hG hm he
    ·rw [if_neg h0]
     exact zns s k r S h0
  ·exact zv6 s h4 h3 hok
end
end Go.Proofs.YtfpgjkbjbbgciaaGreatDoor
