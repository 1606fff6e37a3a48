import Derived.Test.YtfpgjkbjbbgciaaGreatDoorMd11
set_option maxRecDepth 100000
set_option maxHeartbeats 8000000
namespace Go.Proofs.YtfpgjkbjbbgciaaGreatDoor
open Go.RowKit Sp
theorem znX(s:ByteArray)(w:World)(hw:LibW w)(h4:s.size≤4000)(h3:(lines s).length≤300):
  Calls Tryz.prog 66 #[.string s] w (zwF w (lines s)):=by
 obtain⟨i0,hi,hz0,hz1,hz2⟩:=info_parts Tryz.info135
 obtain⟨mm,hmm⟩:=hw.most
 have hcall:=Tryz.strings_Split s ⟨#[10]⟩ mm w (by omega) hmm (by decide)
 rw [zh9,(zfr s).2] at hcall
 have hsz:=zdZ s
 have hlow:=hw.low
 generalize lines s=A at h3 hsz hcall ⊢
 have hw1:LibW (w.alloc (.cells (A.map Value.string).toArray 9)):=hw.below ((Below.refl _ _).alloc (Nat.le_refl _) _)
 have hcell1:∀ k (h:k<A.length),(w.alloc (.cells (A.map Value.string).toArray 9)).cell? ⟨w.heap.size,k,none⟩=some (.string A[k]):=by
  intro k h
  rw [World.cell?_alloc_new]
  simp [h]
 have hb1:Below w.heap.size w (w.alloc (.cells (A.map Value.string).toArray 9)):=(Below.refl _ _).alloc (Nat.le_refl _) _
 have hz1w:(w.alloc (.cells (A.map Value.string).toArray 9)).heap.size=w.heap.size+1:=by simp
 go_enter Tryz.func66,Tryz.ntmps66
 go_wp2_with(go_at_call 97;refine hcall.mono ?_;rintro e wx ⟨rfl,hww⟩;subst hww)
 clear hcall
 generalize w.alloc (.cells (A.map Value.string).toArray 9)=W1 at hw1 hcell1 hb1 hz1w
 go_loopw [3,10] (fun v ti wr=>∃(k:Nat) (its:List It),k≤A.length∧its.length≤k∧ti=.int .i64 (k:Int)∧wr.ownsRow (w.heap.size+1) 135 8 v its.length (za0 its)∧its.map It.key=zbe A k∧Below (w.heap.size+1) W1 wr∧zbG A 0=zbG A k∧(∀ j (h:j<A.length),j<k→(say A[j]).ok=true)) (fun _ ti _=>A.length-(intOf ti).toNat)
 case atStart=>exact⟨0,[],by omega,by simp,rfl,World.ownsRow_nil _ _ _ _,rfl,Below.refl _ _,rfl,fun j _ h=>by omega⟩
 case round =>
  obtain⟨k,its,hk,hits,rfl,hown,hkeys,hnx,hR,hoks⟩:=hrel
  have HR:Hid (zbG A 0=zbG A k):=hR
  have HK:Hid (its.map It.key=zbe A k):=hkeys
  have HOK:Hid (∀ j (h:j<A.length),j<k→(say A[j]).ok=true):=hoks
  clear hR hkeys hoks
  have hszr:=hnx.size
  have hbw:Below w.heap.size w wr:=hb1.trans (hnx.mono (by omega))
  have hwr:=hw.below hbw
  by_cases hlt:k<A.length
  ·have hck:=(hnx.cell (p:=⟨w.heap.size,k,none⟩) (by simp)).trans (hcell1 k hlt)
   have hAs:A[k].size≤1048576:=by have:=hsz A[k] (List.getElem_mem hlt);omega
   have HBAD:Hid ((say A[k]).ok=false→zbG A 0=(1,(k:Int)+1)):=fun h=>HR.out.trans (zdI A k hlt h)
   have HON:Hid ((say A[k]).ok=true→zbG A 0=zbG A (k+1)):=fun h=>HR.out.trans (zeP A k hlt h)
   have HOK1:Hid ((say A[k]).ok=true→∀ j (h:j<A.length),j<k+1→(say A[j]).ok=true):=fun h j hj hjk=>by
    by_cases e:j=k
    ·subst e;exact h
    ·exact HOK.out j hj (by omega)
   cases hv:zao A[k] 0 with
   | false =>
    have HB:=HBAD.out (zfs _ hv)
    have HB2:Hid (zbG A 0=(1,(k:Int)+1)):=HB
    clear HB
    go_wp2_with(go_at_call 98;refine(zpw A[k] _ wr hwr hAs hv).mono ?_;rintro e w2 ⟨rfl,hb2⟩)
    exact⟨rfl,hbw.trans (hb2.mono hbw.size),.inl ⟨k,HB2.out,rfl⟩⟩
   | true =>
    cases hl:words A[k] with
    | nil =>
     have hsay:=zrW _ hv hl
     have HN:Hid (zbG A 0=zbG A (k+1)∧zbe A (k+1)=zbe A k∧∀ j (h:j<A.length),j<k+1→(say A[j]).ok=true) :=
      ⟨HON.out (by rw [hsay]),zhA A k hlt (by rw [hsay]),HOK1.out (by rw [hsay])⟩
     have HL:Hid (words A[k]=[]):=hl
     clear hsay hl
     go_wp2_with(go_at_call 98;refine(zmA A[k] _ wr hwr hAs hv HL).mono ?_;rintro e w2 ⟨ao,cap,rfl,hb2⟩)
     have hown2:=zbk hown hb2 (Nat.le_refl _)
     have hb12:=hnx.trans (hb2.mono (by omega))
     clear hb2
     go_roundw
     case rel=>exact⟨k+1,its,by omega,by omega,by go_num,hown2,by rw [HN.out.2.1];exact HK.out,hb12,HN.out.1,HN.out.2.2⟩
     case measure=>simp [intOf];omega
    | cons x r =>
     have hws:=zfl A[k]
     have hwl:=zk2 A[k]
     rw [hl] at hws hwl
     have hws2:∀ y∈(x :: r:List ByteArray),1≤y.size∧y.size≤1048576:=fun y hy=>by have:=hws y hy;omega
     have hrn:r.length≤1048576:=by simp at hwl;omega
     have hsay:=zhB _ hv
     rw [hl] at hsay
     have hkd:=zrX x r
     have HADD:Hid (zbe A (k+1)=zbe A k++[keyQ (say A[k]) ((k:Int)+1)]):=ziV A k hlt (by rw [hsay];exact hkd)
     rw [hsay] at HBAD HON HOK1 HADD
     have HL:Hid (words A[k]=x :: r):=hl
     generalize hq:sayW (x :: r)=q at HBAD HON HOK1 HADD
     have HQ:Hid (sayW (x :: r)=q):=hq
     clear hq hsay hkd hl hws hwl
     cases hok:q.ok with
     | false =>
      have HB2:Hid (zbG A 0=(1,(k:Int)+1)):=HBAD.out hok
      go_wp2_with(first
       | (go_at_call 98;refine(zhC A[k] _ wr hwr hAs hv _ HL (by simp)).mono ?_;rintro e w2 ⟨g,cap,rfl,hg,hwi,hb2⟩;have hw2:=hwr.below hb2)
       | (go_at_call 99;refine(zkI w2 hw2 g cap x r _ hwi hws2 hrn q HQ hok).mono ?_;rintro e w3 ⟨rfl,hb3⟩))
      exact⟨rfl,(hbw.trans (hb2.mono hbw.size)).trans (hb3.mono (by have:=hbw.size;have:=hb2.size;omega)),.inl ⟨k,HB2.out,rfl⟩⟩
     | true =>
      have HN:Hid (zbG A 0=zbG A (k+1)∧∀ j (h:j<A.length),j<k+1→(say A[j]).ok=true):=⟨HON.out hok,HOK1.out hok⟩
      go_wp2_with(first
       | (go_at_call 98;refine(zhC A[k] _ wr hwr hAs hv _ HL (by simp)).mono ?_;rintro e w2 ⟨g,cap,rfl,hg,hwi,hb2⟩;have hw2:=hwr.below hb2;have hown2:=zbk hown hb2 (Nat.le_refl _);have hs2:=hb2.size)
       | (go_at_call 99;refine(zrY w2 hw2 g cap x r _ hwi hws2 hrn q HQ hok).mono ?_;rintro e w3 ⟨rfl,hb3⟩;have hown3:=zbk hown2 hb3 (Nat.le_refl _);have hs3:=hb3.size)
       | (at_builtin;refine wpList_append_own _ rfl _ _ 116 rfl (w.heap.size+1) 135 i0 (.agg #[.int .i64 0,.int .i64 0,.string ByteArray.empty,.int .i64 0,.int .i64 0,.int .i64 0,.int .i64 0,.string ByteArray.empty]) 8 80 Tryz.under116 hi hz0 hz1 hz2 rfl (by decide) _ _ _ rfl (hown3.alloc _) ⟨w3.heap.size,0,none⟩ 1 1 (It.cells ⟨zfq q,(k:Int)+1,zew q,zd9 q,(opQ q).a,(opQ q).b,(opQ q).c,(opQ q).n⟩) rfl rfl (zm9 _ _ _ _ _ _ _ _ _ _) (zkH _) (by unfold maxLen;omega) (by omega) (by simp;omega) ?_))
      intro v' w4 hown4 hgrow _
      have hb4:Below (w.heap.size+1) W1 w4:=(((hnx.trans (hb2.mono (by omega))).trans (hb3.mono (by omega))).alloc (by omega) _).grown hgrow (by simp;omega) (fun j hj=>(hown3.lt j hj).1)
      clear hgrow hown3 hown2 hwi hw2
      go_wp2
      go_roundw
      case rel=>exact⟨k+1,its++[⟨zfq q,(k:Int)+1,zew q,zd9 q,(opQ q).a,(opQ q).b,(opQ q).c,(opQ q).n⟩],by omega,by simp;omega,by go_num,by rw [zfK];simpa using hown4,by rw [List.map_append,HK.out,HADD.out];rfl,hb4,HN.out.1,HN.out.2⟩
      case measure=>simp [intOf];omega
  ·have HE:Hid (zbG A 0=zbn (A.map say) 0):=HR.out.trans (zfG A k hlt)
   have HKA:Hid (k=A.length):=by unfold Hid;omega
   go_wp2
   go_ret
   refine⟨hbw,.inr ⟨HE.out,fun x hx=>?_,_,its,rfl,zb7 hown (by omega),by rw [HK.out,HKA.out]⟩⟩
   obtain⟨j,hj,rfl⟩:=List.mem_iff_getElem.1 hx
   exact HOK.out j hj (by have:=HKA.out;omega)
theorem zmE(sort line:Int)(word:ByteArray)(a b c n:Int)(nm:ByteArray)(w:World):
  Calls Tryz.prog 104 #[stm sort line word a b c n nm] w fun e w'=>e=.returned (.bool (zcs word))∧Below w.heap.size w w':=by
 cases h:(word.toList == [99,97,108,108]) with
 | true =>
  have e:zcs word=true:=h
  rw [e]
  have hw:=zaw word _ h
  subst hw
  clear h e
  go_enter Tryz.func104,Tryz.ntmps104
  go_wp2
  go_ret
  exact⟨rfl,(Below.refl _ _).alloc (Nat.le_refl _) _⟩
 | false =>
  have e:zcs word=false:=h
  rw [e]
  clear e
  go_enter Tryz.func104,Tryz.ntmps104
  go_wp2
  go_ret
  exact⟨rfl,(Below.refl _ _).alloc (Nat.le_refl _) _⟩
theorem zkR(sort line:Int)(word:ByteArray)(a b c n:Int)(nm:ByteArray)(w:World):
  Calls Tryz.prog 102 #[stm sort line word a b c n nm] w fun e w'=>e=.returned (.bool (zaF word))∧Below w.heap.size w w':=by
 have e:zaF word=(word.toList == [106,117,109,112]||word.toList == [108,101,115,115]||word.toList == [115,97,109,101]):=rfl
 rw [e]
 clear e
 cases h1:(word.toList == [106,117,109,112]) with
 | true =>
  have hw:=zaw word _ h1
  subst hw
  clear h1
  go_enter Tryz.func102,Tryz.ntmps102
  go_wp2
  go_ret
  exact⟨rfl,(Below.refl _ _).alloc (Nat.le_refl _) _⟩
 | false =>
  cases h2:(word.toList == [108,101,115,115]) with
  | true =>
   have hw:=zaw word _ h2
   subst hw
   clear h1 h2
   go_enter Tryz.func102,Tryz.ntmps102
   go_wp2
   go_ret
   exact⟨rfl,(Below.refl _ _).alloc (Nat.le_refl _) _⟩
  | false =>
   cases h3:(word.toList == [115,97,109,101]) with
   | true =>
    have hw:=zaw word _ h3
    subst hw
    clear h1 h2 h3
    go_enter Tryz.func102,Tryz.ntmps102
    go_wp2
    go_ret
    exact⟨rfl,(Below.refl _ _).alloc (Nat.le_refl _) _⟩
   | false =>
    go_enter Tryz.func102,Tryz.ntmps102
    go_wp2
    go_ret
    exact⟨rfl,(Below.refl _ _).alloc (Nat.le_refl _) _⟩
theorem zp1(sort line:Int)(word:ByteArray)(a b c n:Int)(nm:ByteArray)(w:World):
  Calls Tryz.prog 132 #[stm sort line word a b c n nm] w fun e w'=>e=.returned (.bool (ends word))∧Below w.heap.size w w':=by
 have e:ends word=(word.toList == [106,117,109,112]||word.toList == [98,97,99,107]||word.toList == [115,116,111,112]):=rfl
 rw [e]
 clear e
 cases h1:(word.toList == [106,117,109,112]) with
 | true =>
  have hw:=zaw word _ h1
  subst hw
  clear h1
  go_enter Tryz.func132,Tryz.ntmps132
  go_wp2
  go_ret
  exact⟨rfl,(Below.refl _ _).alloc (Nat.le_refl _) _⟩
 | false =>
  cases h2:(word.toList == [98,97,99,107]) with
  | true =>
   have hw:=zaw word _ h2
   subst hw
   clear h1 h2
   go_enter Tryz.func132,Tryz.ntmps132
   go_wp2
   go_ret
   exact⟨rfl,(Below.refl _ _).alloc (Nat.le_refl _) _⟩
  | false =>
   cases h3:(word.toList == [115,116,111,112]) with
   | true =>
    have hw:=zaw word _ h3
    subst hw
    clear h1 h2 h3
    go_enter Tryz.func132,Tryz.ntmps132
    go_wp2
    go_ret
    exact⟨rfl,(Below.refl _ _).alloc (Nat.le_refl _) _⟩
   | false =>
    go_enter Tryz.func132,Tryz.ntmps132
    go_wp2
    go_ret
    exact⟨rfl,(Below.refl _ _).alloc (Nat.le_refl _) _⟩
theorem zmF(l:List It)(k:Nat)(h:k<l.length)(j:Nat)(hj:j<8):(za0 l)[k*8+j]?=l[k].cells[j]?:=by
 induction l generalizing k with
 | nil=>simp at h
 | cons i l ih =>
  have e:za0 (i :: l)=i.cells++za0 l:=by simp [za0]
  rw [e]
  cases k with
  | zero =>
   rw [List.getElem?_append_left (by simp;omega)]
   simp
  | succ k =>
   rw [List.getElem?_append_right (by simp;omega)]
   have:=ih k (by simpa using h)
   simp only [List.getElem_cons_succ]
   rw [←this]
   congr 1
   simp;omega
theorem zgr{w:World}{B:Nat}{v:Value}{its:List It}(h:w.ownsRow B 135 8 v its.length (za0 its))(hp:0<its.length):
  ∃ g cap,v=.slice (some ⟨g,0,none⟩) its.length cap∧B≤g∧g<w.heap.size∧∀ k (hk:k<its.length),
   w.cell? ⟨g,k*8,none⟩=some (.int .i64 its[k].sort)∧w.cell? ⟨g,k*8+1,none⟩=some (.int .i64 its[k].line)∧w.cell? ⟨g,k*8+2,none⟩=some (.string its[k].word) ∧
   w.cell? ⟨g,k*8+3,none⟩=some (.int .i64 its[k].a)∧w.cell? ⟨g,k*8+4,none⟩=some (.int .i64 its[k].b)∧w.cell? ⟨g,k*8+5,none⟩=some (.int .i64 its[k].c) ∧
   w.cell? ⟨g,k*8+6,none⟩=some (.int .i64 its[k].n)∧w.cell? ⟨g,k*8+7,none⟩=some (.string its[k].nm):=by
 obtain⟨g,cap,rfl,hb,hlt⟩:=h.form hp
 refine⟨g,cap,rfl,hb,hlt,fun k hk=>?_⟩
 have H:∀ j,j<8→w.cell? ⟨g,k*8+j,none⟩=its[k].cells[j]?:=fun j hj=>by
  rw [World.ownsRow.cellAt h (k*8+j) (by omega),zmF its k hk j hj]
 exact⟨H 0 (by omega),H 1 (by omega),H 2 (by omega),H 3 (by omega),H 4 (by omega),H 5 (by omega),H 6 (by omega),H 7 (by omega)⟩
theorem zmG(w:World)(B:Nat)(v:Value)(h:w.ownsRow B 135 8 v 0 (za0 [])):
  Calls Tryz.prog 67 #[v] w fun e w'=>e=zaj 2 0∧w'=w:=by
 have hv:∃ ao cap,v=.slice ao 0 cap:=by
  rcases h.2 with ⟨hv,_⟩|⟨g,cap,cur,hv,_⟩
  ·exact⟨none,0,hv⟩
  ·exact⟨_,cap,hv⟩
 obtain⟨ao,cap,rfl⟩:=hv
 go_enter Tryz.func67,Tryz.ntmps67
 go_wp2_with(go_at_call 79;refine(za3 _ _ _).mono ?_;rintro e wx ⟨rfl,hww⟩;subst hww)
 exact⟨rfl,rfl,rfl⟩
theorem zp2(w:World)(B:Nat)(v:Value)(i:It)(r:List It)(h:w.ownsRow B 135 8 v (i :: r).length (za0 (i :: r)))(hn:r.length≤4096)(hs:¬i.sort=0):
  Calls Tryz.prog 67 #[v] w fun e w'=>e=zaj 2 i.line∧w'=w:=by
 obtain⟨g,cap,rfl,_,_,hc⟩:=zgr h (by simp)
 obtain⟨h0,h1,_⟩:=hc 0 (by simp)
 simp only [List.getElem_cons_zero,Nat.zero_mul,Nat.zero_add] at h0 h1
 have hlen:(i :: r).length=r.length+1:=by simp
 rw [hlen]
 have hs':(i.sort == 0)=false:=by simpa using hs
 clear hc hlen h
 go_enter Tryz.func67,Tryz.ntmps67
 go_wp2_with(go_at_call 79;refine(za3 _ _ _).mono ?_;rintro e wx ⟨rfl,hww⟩;subst hww)
 all_goals exact⟨rfl,rfl,rfl⟩
theorem zmH(w:World)(B:Nat)(v:Value)(i:It)(r:List It)(h:w.ownsRow B 135 8 v (i :: r).length (za0 (i :: r)))(hn:r.length≤4096)(hs:i.sort=0):
  Calls Tryz.prog 67 #[v] w fun e w'=>e=.returned (.tuple #[])∧w'=w:=by
 obtain⟨g,cap,rfl,_,_,hc⟩:=zgr h (by simp)
 obtain⟨h0,h1,_⟩:=hc 0 (by simp)
 simp only [List.getElem_cons_zero,Nat.zero_mul,Nat.zero_add] at h0 h1
 have hlen:(i :: r).length=r.length+1:=by simp
 rw [hlen]
 rw [hs] at h0
 clear hc hlen h
 go_enter Tryz.func67,Tryz.ntmps67
 go_wp2
 go_end0
 exact⟨rfl,rfl⟩
end Go.Proofs.YtfpgjkbjbbgciaaGreatDoor
namespace Go.Proofs.YtfpgjkbjbbgciaaGreatDoor
open Sp
def zdw(names labs:List ByteArray)(k:Key):Bool :=
 (zaF k.word&&!labs.any (fun y=>eqW y k.nm))||(zcs k.word&&!names.any (fun y=>eqW y k.nm))
def zaM(names labs:List ByteArray)(b:List Key):Option Int:=(b.find? (zdw names labs)).map Key.line
def zcM(names:List ByteArray):List Fn→Option Int
 | []=>none
 | f :: r=>match zaM names (zcb f.body) f.body with|some l=>some l|none=>zcM names r
def endK:List Fn→Option Int
 | []=>none
 | f :: r=>if zpy f.body=true then endK r else some f.line
def zbb:List Fn→List Key→Option Int
 | _,[]=>none
 | F,k :: r=>if bad0 F k=true then some k.line else zbb (addK F k) r
def zep(e:Int)(o:Option Int)(c:Int × Int):Int × Int:=match o with|some l=>(e,l)|none=>c
theorem zwG(L:List Said)(hw:WfAll L)(i:Nat)(c:Int × Int):pass L 2 i c=zep 5 (endK (zaX L i)) c:=by
 by_cases h:i<L.length
 ·have hb:badB L 2 i=(if L[i].kind=102 then !zdW L (i+1) false else false):=by
   simp [badB,zbm,List.getElem?_eq_getElem h]
  by_cases h1:L[i].kind=102
  ·rw [if_pos h1,zsa L hw (i+1) false] at hb
   change badB L 2 i=!zpy (zam L (i+1)) at hb
   rw [zci L i h h1]
   cases he:zpy (zam L (i+1)) with
   | true =>
    rw [zcg L 2 i c h (by rw [hb,he];rfl),zwG L hw (i+1) c]
    simp [endK,he]
   | false =>
    rw [zdp L 2 i c h (by rw [hb,he];rfl)]
    simp [endK,he,zep]
  ·rw [if_neg h1] at hb
   rw [zcg L 2 i c h hb,zbT L i h h1]
   exact zwG L hw (i+1) c
 ·rw [zd5 L 2 i c h,zcV L i h];rfl
termination_by L.length-i
def NmOk(L:List Said):Prop:=∀ q∈L,q.kind=105→(zaF (q.word 0)=true∨zcs (q.word 0)=true)→zd9 q=q.last
theorem zhE(x:ByteArray)(h:zaF x=true):zcs x=false:=by
 unfold zaF isW at h
 unfold zcs isW
 simp only [Bool.or_eq_true,beq_iff_eq] at h
 rcases h with (h|h)|h <;> rw [h] <;> decide
theorem zkK:zaF ⟨#[]⟩=false:=by simp [zaF,isW,ByteArray.toList_eq]
theorem zmD:zcs ⟨#[]⟩=false:=by simp [zcs,isW,ByteArray.toList_eq]
theorem zwH(L:List Said)(_hw:WfAll L)(hn:NmOk L)(names labs:List ByteArray)(i o:Nat)(h:i<L.length)(ho:zcm L i=(o:Int))
  (hN:∀ x,names.any (fun y=>eqW y x)=decide (0≤zaJ L x 0)) (hL:∀ x,labs.any (fun y=>eqW y x)=decide (0≤zaU L x (o+1))) :
  badB L 1 i=zdw names labs (keyQ L[i] ((i:Int)+1)):=by
 have e:badB L 1 i=zaG L i:=by simp [badB]
 rw [e]
 unfold zaG
 rw [List.getElem?_eq_getElem h]
 dsimp only
 by_cases h5:L[i].kind=105
 ·rw [if_pos h5]
  have hlab:zbZ L i L[i].last=zaU L L[i].last (o+1):=by
   unfold zbZ
   rw [ho]
   congr 1
  have ew:zew L[i]=L[i].word 0:=by simp [zew,h5]
  unfold zdw keyQ
  dsimp only
  rw [ew,hlab,hN,hL]
  by_cases h1:zaF (L[i].word 0)=true
  ·rw [if_pos h1,hn _ (List.getElem_mem h) h5 (.inl h1),h1,zhE _ h1]
   simp [←Int.not_le]
  ·rw [if_neg h1]
   by_cases h2:zcs (L[i].word 0)=true
   ·rw [if_pos h2,hn _ (List.getElem_mem h) h5 (.inr h2),h2]
    simp [h1,←Int.not_le]
   ·rw [if_neg h2]
    simp [h1,h2]
 ·rw [if_neg h5]
  have ew:zew L[i]=⟨#[]⟩:=by simp [zew,h5]
  unfold zdw keyQ
  dsimp only
  rw [ew,zkK,zmD]
  rfl
theorem zez(names labs:List ByteArray)(k:Key)(b:List Key):zaM names labs (k :: b)=if zdw names labs k=true then some k.line else zaM names labs b:=by
 unfold zaM
 rw [List.find?_cons]
 cases zdw names labs k <;> rfl
theorem zuE(L:List Said)(hw:WfAll L)(hn:NmOk L)(names:List ByteArray)(hN:∀ x,names.any (fun y=>eqW y x)=decide (0≤zaJ L x 0))(c:Int × Int)(i o:Nat)(ho:zcm L i=(o:Int))(labs:List ByteArray)
  (hL:∀ x,labs.any (fun y=>eqW y x)=decide (0≤zaU L x (o+1))) :
  pass L 1 (i+1) c=zep 4 (match zaM names labs (zam L (i+1)) with|some l=>some l|none=>zcM names (zaX L (i+1))) c:=by
 by_cases h:i+1<L.length
 ·by_cases h1:L[i+1].kind=102
  ·have ho':=zfC L (i+1) h h1
   have hb:badB L 1 (i+1)=false:=by simp [badB,zaG,List.getElem?_eq_getElem h,h1]
   rw [zcg L 1 (i+1) c h hb,zcU L (i+1) h h1,zci L (i+1) h h1,zuE L hw hn names hN c (i+1) (i+1) ho' (zcb (zam L (i+1+1))) (fun x=>zfN L (i+1+1) x)]
   rfl
  ·have ho':zcm L (i+1)=(o:Int):=(zdH L i h h1).trans ho
   have hb:=zwH L hw hn names labs (i+1) o h ho' hN hL
   rw [zbT L (i+1) h h1]
   by_cases h0:L[i+1].kind=0
   ·have hb:badB L 1 (i+1)=false:=by simp [badB,zaG,List.getElem?_eq_getElem h,h0]
    rw [zcg L 1 (i+1) c h hb,zcn L (i+1) h h0]
    exact zuE L hw hn names hN c (i+1) o ho' labs hL
   ·rw [zbK L (i+1) h h0 h1,zez]
    cases hk:zdw names labs (keyQ L[i+1] (((i+1:Nat):Int)+1)) with
    | true=>rw [zdp L 1 (i+1) c h (hb.trans hk)];rfl
    | false =>
     rw [zcg L 1 (i+1) c h (hb.trans hk)]
     exact zuE L hw hn names hN c (i+1) o ho' labs hL
 ·rw [zd5 L 1 (i+1) c h,zc7 L _ h,zcV L _ h];rfl
termination_by L.length-i
end Go.Proofs.YtfpgjkbjbbgciaaGreatDoor
namespace Go.Proofs.YtfpgjkbjbbgciaaGreatDoor
open Go.RowKit Sp
attribute [local go_sem ↓] Go.wp_at_zero Go.wp_at_succ
theorem Tryz.info2:(Tryz.prog.info? 2).map (fun i=>(i.zero,i.size,i.bytes))=some (some (.int .i64 0),1,8):=by kernel_rfl
theorem Tryz.info3:(Tryz.prog.info? 3).map (fun i=>(i.zero,i.size,i.bytes))=some (some (.int .i64 0),1,8):=by kernel_rfl
theorem Tryz.under29:Tryz.prog.underlying 29=some (.slice 2):=by kernel_rfl
theorem Tryz.under59:Tryz.prog.underlying 59=some (.slice 3):=by kernel_rfl
theorem zpM(w:World)(b wb cap r B:Nat)(lv bv iv ov:Value)(m:Mc)(x1:ByteArray)(h:RefM w b lv bv iv ov m)(hw:WdIn w wb [⟨#[119,114,105,116,101]⟩,x1])(_hne:¬wb=b)(hr:r<8)(hreg:reg x1=(r:Int))(hx1:x1.size≤1048576)
  (hown:w.ownsRow B 2 1 ov m.out.length (i64s m.out)) (hno:ov.ownBlock≠some b) (hB:B≤w.heap.size) (hlen:m.out.length≤100000) :
  Calls Tryz.prog 90 #[.pointer (some ⟨b,0,none⟩),.slice (some ⟨wb,0,none⟩) 2 cap] w fun e w'=>e=.returned (.tuple #[]) ∧
   ∃ g c w1,w'=w1.setCell ⟨b,29,none⟩ (.slice (some ⟨g,0,none⟩) (m.out.length+1) c)∧w.grownBy w1 ov.ownBlock∧w1.ownsRow B 2 1 (.slice (some ⟨g,0,none⟩) (m.out.length+1) c) (m.out.length+1) (i64s (m.out++[m.regs r]))∧(ov.ownBlock=some g∨w.heap.size≤g):=by
 have c0:=hw 0 (by simp)
 have c1:=hw 1 (by simp)
 simp only [List.getElem_cons_zero,List.getElem_cons_succ] at c0 c1
 have hcr:=h.cR r hr
 have hr0:(0:Int)≤(r:Int):=by omega
 have hr8:(r:Int)<8:=by omega
 have g1:=zap x1 r hreg hx1
 have hc:=h.cO
 have hf:=h.fz 29
 have lg:=h.lt
 obtain⟨i0,hi0,hz0,hz1,hz2⟩:=info_parts Tryz.info2
 have hlt:∀ b,ov.ownBlock=some b→b<w.heap.size:=fun b hb=>(hown.lt b hb).2
 have hne2:some b≠ov.ownBlock:=fun e=>hno e.symm
 have hne4:¬w.heap.size=b:=by omega
 have hne5:¬b=w.heap.size:=by omega
 go_enter Tryz.func90,Tryz.ntmps90
 go_wp2_with(first|(go_at_call 75;refine(g1 _).mono ?_;rintro e wx ⟨rfl,hww⟩;have hw2:=hww.symm;subst hw2))
 go_region_law
  ((refine step_append_lies _ (by rfl) _ _ _ (by rfl) B 2 i0 _ 1 8 Tryz.under29 hi0 hz0 hz1 hz2 rfl (by omega) ov m.out.length (i64s m.out) (by rfl) ((hown.alloc _).drew)
     ⟨w.heap.size,0,none⟩ 1 1 [.int .i64 (m.regs r)] (by rfl) (by rfl) (World.news_of_block (cs:=#[.int .i64 (m.regs r)]) (t:=2) (fr:=(0,0)) (zjN w _ _)) (by simp [Value.oneCell'])
     (by omega) (by unfold maxLen;omega) (by omega) (by simp;omega) (w.heap.size+1) (by simp) ?_;intro g c w1 hown1 hgrow hat hltg;have hfz:w1.frozen? ⟨b,29,none⟩=false:=(hgrow.frozen_far _ (by simp;omega) hne2).trans ((zgs w _ _ lg).trans hf);have hcz:w1.cell? ⟨b,29,none⟩=some ov:=(hgrow.cell_far _ (by simp;omega) hne2).trans ((zfO w _ _ lg).trans hc)))
 all_goals go_wp2
 all_goals go_end0
 all_goals exact⟨rfl,g,c,w1,rfl,zfP hgrow,by simpa [i64s] using hown1,by rcases hat with h|h;exact .inl h;exact .inr (by omega)⟩
end Go.Proofs.YtfpgjkbjbbgciaaGreatDoor
namespace Go.Proofs.YtfpgjkbjbbgciaaGreatDoor
open Sp
theorem zlf(L:List Said)(k:Nat)(q:Said)(x1:ByteArray)(h:q.kept=[⟨#[106,117,109,112]⟩,x1]):insQ L k q=.jump (zeq L k x1):=by
 obtain⟨kd,kp,ok⟩:=q
 cases h
 kernel_rfl
theorem zlg(L:List Said)(k:Nat)(q:Said)(x1 x2 x3:ByteArray)(h:q.kept=[⟨#[108,101,115,115]⟩,x1,x2,x3]):insQ L k q=.less (regN x1) (regN x2) (zeq L k x3):=by
 obtain⟨kd,kp,ok⟩:=q
 cases h
 kernel_rfl
theorem zlh(L:List Said)(k:Nat)(q:Said)(x1 x2 x3:ByteArray)(h:q.kept=[⟨#[115,97,109,101]⟩,x1,x2,x3]):insQ L k q=.same (regN x1) (regN x2) (zeq L k x3):=by
 obtain⟨kd,kp,ok⟩:=q
 cases h
 kernel_rfl
theorem zli(L:List Said)(k:Nat)(q:Said)(x1:ByteArray)(h:q.kept=[⟨#[99,97,108,108]⟩,x1]):insQ L k q=.call (fnTo L x1):=by
 obtain⟨kd,kp,ok⟩:=q
 cases h
 kernel_rfl
theorem zlj(L:List Said)(k:Nat)(q:Said)(h:q.kept=[⟨#[98,97,99,107]⟩]):insQ L k q=.back:=by
 obtain⟨kd,kp,ok⟩:=q
 cases h
 kernel_rfl
theorem zlk(L:List Said)(k:Nat)(q:Said)(h:q.kept=[⟨#[115,116,111,112]⟩]):insQ L k q=.stop:=by
 obtain⟨kd,kp,ok⟩:=q
 cases h
 kernel_rfl
theorem zog(L:List Said)(k:Nat)(q:Said)(x1 x2:ByteArray)(h:q.kept=[⟨#[115,101,116]⟩,x1,x2]):insQ L k q=.set (regN x1) (zaE x2).1:=by
 obtain⟨kd,kp,ok⟩:=q
 cases h
 kernel_rfl
theorem zoh(L:List Said)(k:Nat)(q:Said)(x1 x2:ByteArray)(h:q.kept=[⟨#[109,111,118]⟩,x1,x2]):insQ L k q=.mov (regN x1) (regN x2):=by
 obtain⟨kd,kp,ok⟩:=q
 cases h
 kernel_rfl
theorem zoi(L:List Said)(k:Nat)(q:Said)(x1 x2 x3:ByteArray)(h:q.kept=[⟨#[97,100,100]⟩,x1,x2,x3]):insQ L k q=.alu 0 (regN x1) (regN x2) (regN x3):=by
 obtain⟨kd,kp,ok⟩:=q
 cases h
 kernel_rfl
theorem zoj(L:List Said)(k:Nat)(q:Said)(x1 x2 x3:ByteArray)(h:q.kept=[⟨#[115,117,98]⟩,x1,x2,x3]):insQ L k q=.alu 1 (regN x1) (regN x2) (regN x3):=by
 obtain⟨kd,kp,ok⟩:=q
 cases h
 kernel_rfl
theorem zok(L:List Said)(k:Nat)(q:Said)(x1 x2 x3:ByteArray)(h:q.kept=[⟨#[109,117,108]⟩,x1,x2,x3]):insQ L k q=.alu 2 (regN x1) (regN x2) (regN x3):=by
 obtain⟨kd,kp,ok⟩:=q
 cases h
 kernel_rfl
theorem zol(L:List Said)(k:Nat)(q:Said)(x1 x2:ByteArray)(h:q.kept=[⟨#[105,110,99]⟩,x1,x2]):insQ L k q=.inc (regN x1) (zaE x2).1:=by
 obtain⟨kd,kp,ok⟩:=q
 cases h
 kernel_rfl
theorem zll(L:List Said)(k:Nat)(q:Said)(x1 x2:ByteArray)(h:q.kept=[⟨#[108,111,97,100]⟩,x1,x2]):insQ L k q=.load (regN x1) (regN x2):=by
 obtain⟨kd,kp,ok⟩:=q
 cases h
 kernel_rfl
theorem zjh(L:List Said)(k:Nat)(q:Said)(x1 x2:ByteArray)(h:q.kept=[⟨#[115,116,111,114,101]⟩,x1,x2]):insQ L k q=.store (regN x1) (regN x2):=by
 obtain⟨kd,kp,ok⟩:=q
 cases h
 kernel_rfl
theorem zlm(L:List Said)(k:Nat)(q:Said)(x1:ByteArray)(h:q.kept=[⟨#[114,101,97,100]⟩,x1]):insQ L k q=.read (regN x1):=by
 obtain⟨kd,kp,ok⟩:=q
 cases h
 kernel_rfl
theorem zji(L:List Said)(k:Nat)(q:Said)(x1:ByteArray)(h:q.kept=[⟨#[119,114,105,116,101]⟩,x1]):insQ L k q=.write (regN x1):=by
 obtain⟨kd,kp,ok⟩:=q
 cases h
 kernel_rfl
theorem zhF(L:List Said)(x:ByteArray)(k:Nat)(hk:k<L.length)(hx:isFn L[k] x=true)(i:Nat)(hi:i≤k):decide (zaJ L x i<k)=true↔∃ j,∃ h:j<L.length,i≤j∧j<k∧isFn L[j] x=true:=by
 by_cases hik:i=k
 ·subst hik
  rw [zds L x i hk hx]
  simp
  intro j h1 h2 h3;omega
 ·have h:i<L.length:=by omega
  by_cases hf:isFn L[i] x=true
  ·rw [zds L x i h hf]
   constructor
   ·intro _;exact⟨i,h,Nat.le_refl _,by omega,hf⟩
   ·intro _;simp;omega
  ·rw [zdf L x i h (by simpa using hf),zhF L x k hk hx (i+1) (by omega)]
   constructor
   ·rintro⟨j,hj,h1,h2,h3⟩;exact⟨j,hj,by omega,h2,h3⟩
   ·rintro⟨j,hj,h1,h2,h3⟩
    refine⟨j,hj,?_,h2,h3⟩
    rcases Nat.lt_or_eq_of_le h1 with h1|h1
    ·omega
    ·subst h1;exact absurd h3 hf
termination_by k-i
theorem ziW(L:List Said)(x:ByteArray)(k:Nat)(hk:k<L.length)(hx:zcR L[k] x=true)(hk1:¬L[k].kind=102)(i:Nat)(hi:i≤k)(hno:∀ j,∀ h:j<L.length,i≤j→j<k→¬L[j].kind=102):decide (zaU L x i<k)=true↔∃ j,∃ h:j<L.length,i≤j∧j<k∧zcR L[j] x=true:=by
 by_cases hik:i=k
 ·subst hik
  rw [zcS L x i hk hk1 hx]
  simp
  intro j h1 h2 h3;omega
 ·have h:i<L.length:=by omega
  have h1:=hno i h (Nat.le_refl _) (by omega)
  by_cases hf:zcR L[i] x=true
  ·rw [zcS L x i h h1 hf]
   constructor
   ·intro _;exact⟨i,h,Nat.le_refl _,by omega,hf⟩
   ·intro _;simp;omega
  ·rw [zbS L x i h h1 (by simpa using hf),ziW L x k hk hx hk1 (i+1) (by omega) (fun j h a b=>hno j h (by omega) b)]
   constructor
   ·rintro⟨j,hj,h1,h2,h3⟩;exact⟨j,hj,by omega,h2,h3⟩
   ·rintro⟨j,hj,h1,h2,h3⟩
    refine⟨j,hj,?_,h2,h3⟩
    rcases Nat.lt_or_eq_of_le h1 with h1|h1
    ·omega
    ·subst h1;exact absurd h3 hf
termination_by k-i
structure Inv(L:List Said)(j o:Nat)(F:List Fn)(f:Fn):Prop where
 own:zcm L j=(o:Int)
 le:o≤j
 names:∀ x,((F++[f]).map Fn.name).any (fun y=>eqW y x)=true↔∃ i,∃ h:i<L.length,i<j+1∧isFn L[i] x=true
 labs:∀ x,(zcb f.body).any (fun y=>eqW y x)=true↔∃ i,∃ h:i<L.length,o+1≤i∧i<j+1∧zcR L[i] x=true
 nof:∀ i,∀ h:i<L.length,o+1≤i→i<j+1→¬L[i].kind=102
theorem zkL(b:List Key)(k:Key)(x:ByteArray):(zcb (b++[k])).any (fun y=>eqW y x)=((zcb b).any (fun y=>eqW y x)||(decide (k.sort=1)&&eqW k.nm x)):=by
 unfold zcb
 rw [List.filter_append,List.map_append,List.any_append]
 by_cases h:k.sort=1 <;> simp [h]
theorem Inv.more{L:List Said}{j o:Nat}{F:List Fn}{f:Fn}(I:Inv L j o F f)(h:j+1<L.length)(h1:¬L[j+1].kind=102)(b':List Key)
  (hb:∀ x,(zcb b').any (fun y=>eqW y x)=((zcb f.body).any (fun y=>eqW y x)||zcR L[j+1] x)):Inv L (j+1) o F ⟨f.name,f.line,b'⟩:=by
 refine⟨(zdH L j h h1).trans I.own,by have:=I.le;omega,?_,?_,?_⟩
 ·intro x
  have:=I.names x
  simp only [List.map_append,List.map_cons,List.map_nil] at this ⊢
  rw [this]
  constructor
  ·rintro⟨i,hi,h2,h3⟩;exact⟨i,hi,by omega,h3⟩
  ·rintro⟨i,hi,h2,h3⟩
   refine⟨i,hi,?_,h3⟩
   by_cases e:i=j+1
   ·subst e;simp [isFn,h1] at h3
   ·omega
 ·intro x
  rw [hb,Bool.or_eq_true,I.labs x]
  have:=I.le
  constructor
  ·rintro(⟨i,hi,h2,h3,h4⟩|h4)
   ·exact⟨i,hi,h2,by omega,h4⟩
   ·exact⟨j+1,h,by omega,by omega,h4⟩
  ·rintro⟨i,hi,h2,h3,h4⟩
   by_cases e:i=j+1
   ·subst e;exact .inr h4
   ·exact .inl ⟨i,hi,h2,by omega,h4⟩
 ·intro i hi h2 h3
  by_cases e:i=j+1
  ·subst e;exact h1
  ·exact I.nof i hi h2 (by omega)
theorem Inv.next{L:List Said}{j o:Nat}{F:List Fn}{f:Fn}(I:Inv L j o F f)(h:j+1<L.length)(h1:L[j+1].kind=102)(l:Int):Inv L (j+1) (j+1) (F++[f]) ⟨L[j+1].word 1,l,[]⟩:=by
 refine⟨zfC L (j+1) h h1,Nat.le_refl _,?_,?_,?_⟩
 ·intro x
  rw [List.map_append,List.any_append,Bool.or_eq_true,I.names x]
  constructor
  ·rintro(⟨i,hi,h2,h3⟩|h3)
   ·exact⟨i,hi,by omega,h3⟩
   ·exact⟨j+1,h,by omega,by simpa [isFn,h1] using h3⟩
  ·rintro⟨i,hi,h2,h3⟩
   by_cases e:i=j+1
   ·subst e;exact .inr (by simpa [isFn,h1] using h3)
   ·exact .inl ⟨i,hi,by omega,h3⟩
 ·intro x
  simp [zcb]
  intro i hi h2 h3;omega
 ·intro i hi h2 h3;omega
theorem zsb(L:List Said)(hw:WfAll L)(c:Int × Int)(j o:Nat)(F:List Fn)(f:Fn)(I:Inv L j o F f):pass L 0 (j+1) c=zep 3 (zbb (F++[f]) (zbo L (j+1))) c:=by
 by_cases h:j+1<L.length
 ·by_cases h0:L[j+1].kind=0
  ·have hb:badB L 0 (j+1)=false:=by simp [badB,zcF,List.getElem?_eq_getElem h,h0]
   rw [zcg L 0 (j+1) c h hb,zdt L (j+1) h h0]
   exact zsb L hw c (j+1) o F f (I.more h (by omega) f.body (by intro x;simp [zcR,h0]))
  ·rw [zb3 L (j+1) h h0]
   by_cases h1:L[j+1].kind=102
   ·have hb:badB L 0 (j+1)=bad0 (F++[f]) (keyQ L[j+1] (((j+1:Nat):Int)+1)):=by
     have e:badB L 0 (j+1)=decide (zaJ L (L[j+1].word 1) 0<((j+1:Nat):Int)):=by simp [badB,zcF,List.getElem?_eq_getElem h,h1]
     rw [e,Bool.eq_iff_iff,zhF L _ (j+1) h (by simp [isFn,h1,eqW]) 0 (Nat.zero_le _)]
     have e2:bad0 (F++[f]) (keyQ L[j+1] (((j+1:Nat):Int)+1))=((F++[f]).map Fn.name).any (fun y=>eqW y (L[j+1].word 1)):=by
      unfold bad0 keyQ
      dsimp only
      rw [if_pos (zex _ h1),zgp _ h1]
     rw [e2,I.names]
     constructor
     ·rintro⟨i,hi,_,h2,h3⟩;exact⟨i,hi,h2,h3⟩
     ·rintro⟨i,hi,h2,h3⟩;exact⟨i,hi,Nat.zero_le _,h2,h3⟩
    unfold zbb
    cases hk:bad0 (F++[f]) (keyQ L[j+1] (((j+1:Nat):Int)+1)) with
    | true=>rw [zdp L 0 (j+1) c h (hb.trans hk)];rfl
    | false =>
     rw [zcg L 0 (j+1) c h (hb.trans hk),zc6 _ _ (zex _ h1)]
     have hI:=I.next h h1 (((j+1:Nat):Int)+1)
     rw [zsb L hw c (j+1) _ _ _ hI]
     simp [keyQ,zgp _ h1]
   ·by_cases h2:L[j+1].kind=108
    ·have hb:badB L 0 (j+1)=bad0 (F++[f]) (keyQ L[j+1] (((j+1:Nat):Int)+1)):=by
      have ho:zcm L (j+1)=(o:Int):=(zdH L j h h1).trans I.own
      have e:badB L 0 (j+1)=decide (zaU L (L[j+1].word 0) (o+1)<((j+1:Nat):Int)):=by
       simp only [badB,zcF,List.getElem?_eq_getElem h,h2,zbZ,ho]
       rfl
      have hle:=I.le
      rw [e,Bool.eq_iff_iff,ziW L _ (j+1) h (by simp [zcR,h2,eqW]) h1 (o+1) (by omega) I.nof]
      have e2:bad0 (F++[f]) (keyQ L[j+1] (((j+1:Nat):Int)+1))=(zcb f.body).any (fun y=>eqW y (L[j+1].word 0)):=by
       unfold bad0 keyQ
       dsimp only
       rw [if_neg (zfu _ h1),if_pos (zft _ h2),zjL _ h2]
       simp
      rw [e2,I.labs]
     unfold zbb
     cases hk:bad0 (F++[f]) (keyQ L[j+1] (((j+1:Nat):Int)+1)) with
     | true=>rw [zdp L 0 (j+1) c h (hb.trans hk)];rfl
     | false =>
      rw [zcg L 0 (j+1) c h (hb.trans hk),zfL _ _ _ (zfu _ h1)]
      have hI:=I.more h h1 (f.body++[keyQ L[j+1] (((j+1:Nat):Int)+1)]) (by
       intro x
       rw [zkL]
       simp [keyQ,zft _ h2,zjL _ h2,zcR,h2])
      rw [zsb L hw c (j+1) _ _ _ hI]
      rfl
    ·have hb:badB L 0 (j+1)=false:=by simp [badB,zcF,List.getElem?_eq_getElem h,h1,h2]
     have hk:bad0 (F++[f]) (keyQ L[j+1] (((j+1:Nat):Int)+1))=false:=by
      simp [bad0,keyQ,zey _ h1 h2]
     unfold zbb
     rw [hk,zcg L 0 (j+1) c h hb,zfL _ _ _ (zfu _ h1)]
     have hI:=I.more h h1 (f.body++[keyQ L[j+1] (((j+1:Nat):Int)+1)]) (by
      intro x
      rw [zkL]
      simp [keyQ,zey _ h1 h2,zcR,h2])
     rw [zsb L hw c (j+1) _ _ _ hI]
     rfl
 ·rw [zd5 L 0 (j+1) c h,zdg L _ h];rfl
termination_by L.length-j
def sayK(K:List Key):Int × Int :=
 match K with
 | []=>(2,0)
 | k :: _=>if k.sort=0 then zep 3 (zbb [] K) (zep 4 (zcM ((K.foldl addK []).map Fn.name) (K.foldl addK [])) (zep 5 (endK (K.foldl addK [])) (0,0))) else(2,k.line)
theorem zsc(L:List Said)(q i:Nat)(c:Int × Int)(h:i<L.length)(h0:L[i].kind=0):pass L q i c=pass L q (i+1) c:=by
 refine zcg L q i c h ?_
 unfold badB
 split
 ·simp [zcF,List.getElem?_eq_getElem h,h0]
 ·split
  ·simp [zaG,List.getElem?_eq_getElem h,h0]
  ·simp [zbm,List.getElem?_eq_getElem h,h0]
theorem zgq(L:List Said)(q p:Nat)(c:Int × Int)(hp:p≤L.length)(hz:∀ j,∀ h:j<L.length,j<p→L[j].kind=0):pass L q 0 c=pass L q p c:=by
 induction p with
 | zero=>rfl
 | succ p ih=>rw [ih (by omega) (fun j h h'=>hz j h (by omega)),zsc L q p c (by omega) (hz p (by omega) (by omega))]
theorem zsd(L:List Said)(p:Nat)(hp:p≤L.length)(hz:∀ j,∀ h:j<L.length,j<p→L[j].kind=0):zaX L 0=zaX L p:=by
 induction p with
 | zero=>rfl
 | succ p ih=>rw [ih (by omega) (fun j h h'=>hz j h (by omega)),zbT L p (by omega) (by rw [hz p (by omega) (by omega)];decide)]
theorem zkM(L:List Said)(hw:WfAll L)(hn:NmOk L)(i:Nat)(hi:i≤L.length)(hz:∀ j,∀ h:j<L.length,j<i→L[j].kind=0):zbn L i=sayK (zbo L i):=by
 by_cases h:i<L.length
 ·by_cases h0:L[i].kind=0
  ·rw [zeO L i h h0,zdt L i h h0]
   refine zkM L hw hn (i+1) h (fun j hj h'=>?_)
   by_cases e:j=i
   ·subst e;exact h0
   ·exact hz j hj (by omega)
  ·by_cases h1:L[i].kind=102
   ·rw [zfE L i h h0 h1]
    have hF:(zbo L i).foldl addK []=zaX L i:=by
     rw [zb3 L i h h0,List.foldl_cons,zc6 _ _ (zex _ h1),zfM,zci L i h h1]
     simp [keyQ,zgp _ h1]
    have hN:∀ x,((zaX L i).map Fn.name).any (fun y=>eqW y x)=decide (0≤zaJ L x 0):=by
     intro x;rw [←zsd L i hi hz];exact zmC L 0 x
    have ho:=zfC L i h h1
    have p1:∀ c,pass L 1 0 c=zep 4 (zcM ((zaX L i).map Fn.name) (zaX L i)) c:=by
     intro c
     have hb:badB L 1 i=false:=by simp [badB,zaG,List.getElem?_eq_getElem h,h1]
     rw [zgq L 1 i c hi hz,zcg L 1 i c h hb,zuE L hw hn _ hN c i i ho (zcb (zam L (i+1))) (fun x=>zfN L (i+1) x)]
     conv=>rhs;rw [zci L i h h1]
     rw [zci L i h h1]
     rfl
    have p2:∀ c,pass L 2 0 c=zep 5 (endK (zaX L i)) c:=by
     intro c;rw [zgq L 2 i c hi hz,zwG L hw i c]
    have I:Inv L i i [] ⟨L[i].word 1,(i:Int)+1,[]⟩:=by
     refine⟨ho,Nat.le_refl _,?_,?_,?_⟩
     ·intro x
      constructor
      ·intro h3;exact⟨i,h,by omega,by simpa [isFn,h1] using h3⟩
      ·rintro⟨j,hj,h2,h3⟩
       by_cases e:j=i
       ·subst e;simpa [isFn,h1] using h3
       ·have:=hz j hj (by omega)
        simp [isFn,this] at h3
     ·intro x
      simp [zcb]
      intro j hj h2 h3;omega
     ·intro j hj h2 h3;omega
    have p0:∀ c,pass L 0 0 c=zep 3 (zbb [] (zbo L i)) c:=by
     intro c
     have hb:badB L 0 i=false:=by
      have e:badB L 0 i=decide (zaJ L (L[i].word 1) 0<(i:Int)):=by simp [badB,zcF,List.getElem?_eq_getElem h,h1]
      rw [e,Bool.eq_false_iff]
      intro h2
      obtain⟨j,hj,_,h3,h4⟩:=(zhF L _ i h (by simp [isFn,h1,eqW]) 0 (Nat.zero_le _)).1 h2
      have:=hz j hj h3
      simp [isFn,this] at h4
     rw [zgq L 0 i c hi hz,zcg L 0 i c h hb,zsb L hw c i i [] _ I,zb3 L i h h0]
     conv=>rhs;unfold zbb
     rw [zc6 _ _ (zex _ h1)]
     simp [bad0,keyQ,zex _ h1,zgp _ h1]
    have ht:tail L 0=pass L 0 0 (pass L 1 0 (pass L 2 0 (0,0))):=rfl
    rw [ht,p0,p1,p2]
    unfold sayK
    rw [hF]
    conv=>rhs;rw [zb3 L i h h0]
    dsimp only
    rw [if_pos (show(keyQ L[i] ((i:Int)+1)).sort=0 from zex _ h1),←zb3 L i h h0]
   ·rw [zfF L i h h0 h1,zb3 L i h h0]
    unfold sayK
    dsimp only
    rw [if_neg (show ¬(keyQ L[i] ((i:Int)+1)).sort=0 from zfu _ h1)]
    rfl
 ·rw [zdX L i h,zdg L i h];rfl
termination_by L.length-i
theorem zyB(s:ByteArray)(h:(say s).ok=true)(h5:(say s).kind=105)(ha:zaF ((say s).word 0)=true∨zcs ((say s).word 0)=true):zd9 (say s)=(say s).last:=by
 have hv:zao s 0=true:=by
  cases hv:zao s 0 with
  | true=>rfl
  | false=>rw [zfs s hv] at h;cases h
 rw [zhB s hv] at h h5 ha ⊢
 generalize words s=l at h h5 ha ⊢
 cases l with
 | nil=>simp [sayW] at h5
 | cons x r =>
  have e:sayW (x :: r)=⟨105,x :: r,if zaa x=[63]∨¬(x :: r).length=(zaa x).length+1 then false else zaT (zaa x) r⟩:=by
   unfold sayW at h5 ⊢
   dsimp only at h5 ⊢
   split at h5
   ·simp at h5
   ·rename_i hf
    rw [if_neg hf]
    split at h5
    ·simp at h5
    ·rename_i hg
     rw [if_neg hg]
  rw [e] at h ha ⊢
  have hx:(⟨105,x :: r,if zaa x=[63]∨¬(x :: r).length=(zaa x).length+1 then false else zaT (zaa x) r⟩:Said).word 0=x:=rfl
  rw [hx] at ha
  have hl:(x :: r).length=(zaa x).length+1:=by
   by_cases hc:zaa x=[63]∨¬(x :: r).length=(zaa x).length+1
   ·simp only [if_pos hc] at h;cases h
   ·rcases Classical.em ((x :: r).length=(zaa x).length+1) with h'|h'
    ·exact h'
    ·exact absurd (.inr h') hc
  have hsh:zaa x=[78]∨zaa x=[82,82,78]:=by
   unfold zaF zcs isW at ha
   simp only [Bool.or_eq_true,beq_iff_eq] at ha
   unfold zaa isW
   rcases ha with ((ha|ha)|ha)|ha <;> rw [ha] <;> decide
  unfold zd9 Said.last
  rw [if_neg (show ¬(105:Int)=102 by decide),if_neg (show ¬(105:Int)=108 by decide),hx]
  rcases hsh with hs|hs
  ·rw [hs] at hl ⊢
   match r,hl with
   | [a],_=>rfl
  ·rw [hs] at hl ⊢
   match r,hl with
   | [a,b,c],_=>rfl
theorem zeR(A:List ByteArray)(hok:∀ x∈A,(say x).ok=true):zbn (A.map say) 0=sayK (zbe A A.length):=by
 rw [zjM A]
 refine zkM _ ?_ ?_ 0 (Nat.zero_le _) (fun j h h'=>absurd h' (Nat.not_lt_zero _))
 ·intro q hq
  obtain⟨x,hx,rfl⟩:=List.mem_map.1 hq
  exact zrC x (hok x hx)
 ·intro q hq
  obtain⟨x,hx,rfl⟩:=List.mem_map.1 hq
  exact zyB x (hok x hx)
end Go.Proofs.YtfpgjkbjbbgciaaGreatDoor
