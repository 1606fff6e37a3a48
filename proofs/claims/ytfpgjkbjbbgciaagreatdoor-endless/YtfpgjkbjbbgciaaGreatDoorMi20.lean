import Derived.Test.YtfpgjkbjbbgciaaGreatDoorMi17
import Derived.Test.YtfpgjkbjbbgciaaGreatDoorMi19
set_option maxRecDepth 100000
set_option maxHeartbeats 8000000
namespace Go.Proofs.YtfpgjkbjbbgciaaGreatDoor
section
open Sp
def zdn(names labs:List ByteArray)(k:Key):Bool :=
 (zaE k.word&&!labs.any (fun y=>eqW y k.nm))||(zbt k.word&&!names.any (fun y=>eqW y k.nm))
def zaH(names labs:List ByteArray)(b:List Key):Option Int:=(b.find? (zdn names labs)).map Key.line
def zcA(names:List ByteArray):List Fn→Option Int
 | []=>none
 | f :: r=>match zaH names (labsOf f.body) f.body with|some l=>some l|none=>zcA names r
def endK:List Fn→Option Int
 | []=>none
 | f :: r=>if zqd f.body=true then endK r else some f.line
def zaR:List Fn→List Key→Option Int
 | _,[]=>none
 | F,k :: r=>if bad0 F k=true then some k.line else zaR (addK F k) r
def zem(e:Int)(o:Option Int)(c:Int × Int):Int × Int:=match o with|some l=>(e,l)|none=>c
theorem zxQ(L:List Said)(hw:WfAll L)(i:Nat)(c:Int × Int):pass L 2 i c=zem 5 (endK (zaP L i)) c:=by
 by_cases h:i<L.length
 ·have hb:badB L 2 i=(if L[i].kind=102 then !zfM L (i+1) false else false):=by
   simp [badB,zdy,List.getElem?_eq_getElem h]
  by_cases h1:L[i].kind=102
  ·rw [if_pos h1,zsu L hw (i+1) false] at hb
   change badB L 2 i=!zqd (zan L (i+1)) at hb
   rw [zbR L i h h1]
   cases he:zqd (zan L (i+1)) with
   | true =>
    rw [zc3 L 2 i c h (by rw [hb,he];rfl),zxQ L hw (i+1) c]
    simp [endK,he]
   | false =>
    rw [zfO L 2 i c h (by rw [hb,he];rfl)]
    simp [endK,he,zem]
  ·rw [if_neg h1] at hb
   rw [zc3 L 2 i c h hb,zbH L i h h1]
   exact zxQ L hw (i+1) c
 ·rw [zfN L 2 i c h,zcJ L i h];rfl
termination_by L.length-i
def NmOk(L:List Said):Prop:=∀ q∈L,q.kind=105→(zaE (q.word 0)=true∨zbt (q.word 0)=true)→zd5 q=q.last
theorem zij(x:ByteArray)(h:zaE x=true):zbt x=false:=by
 unfold zaE isW at h
 unfold zbt isW
 simp only [Bool.or_eq_true,beq_iff_eq] at h
 rcases h with (h|h)|h <;> rw [h] <;> decide
theorem zlq:zaE ⟨#[]⟩=false:=by simp [zaE,isW,ByteArray.toList_eq]
theorem znm:zbt ⟨#[]⟩=false:=by simp [zbt,isW,ByteArray.toList_eq]
theorem zxR(L:List Said)(_hw:WfAll L)(hn:NmOk L)(names labs:List ByteArray)(i o:Nat)(h:i<L.length)(ho:zdS L i=(o:Int))
  (hN:∀ x,names.any (fun y=>eqW y x)=decide (0≤zb3 L x 0)) (hL:∀ x,labs.any (fun y=>eqW y x)=decide (0≤zaY L x (o+1))) :
  badB L 1 i=zdn names labs (keyQ L[i] ((i:Int)+1)):=by
 have e:badB L 1 i=zco L i:=by simp [badB]
 rw [e]
 unfold zco
 rw [List.getElem?_eq_getElem h]
 dsimp only
 by_cases h5:L[i].kind=105
 ·rw [if_pos h5]
  have hlab:zes L i L[i].last=zaY L L[i].last (o+1):=by
   unfold zes
   rw [ho]
   congr 1
  have ew:zew L[i]=L[i].word 0:=by simp [zew,h5]
  unfold zdn keyQ
  dsimp only
  rw [ew,hlab,hN,hL]
  by_cases h1:zaE (L[i].word 0)=true
  ·rw [if_pos h1,hn _ (List.getElem_mem h) h5 (.inl h1),h1,zij _ h1]
   simp [←Int.not_le]
  ·rw [if_neg h1]
   by_cases h2:zbt (L[i].word 0)=true
   ·rw [if_pos h2,hn _ (List.getElem_mem h) h5 (.inr h2),h2]
    simp [h1,←Int.not_le]
   ·rw [if_neg h2]
    simp [h1,h2]
 ·rw [if_neg h5]
  have ew:zew L[i]=⟨#[]⟩:=by simp [zew,h5]
  unfold zdn keyQ
  dsimp only
  rw [ew,zlq,znm]
  rfl
theorem zez(names labs:List ByteArray)(k:Key)(b:List Key):zaH names labs (k :: b)=if zdn names labs k=true then some k.line else zaH names labs b:=by
 unfold zaH
 rw [List.find?_cons]
 cases zdn names labs k <;> rfl
theorem zv1(L:List Said)(hw:WfAll L)(hn:NmOk L)(names:List ByteArray)(hN:∀ x,names.any (fun y=>eqW y x)=decide (0≤zb3 L x 0))(c:Int × Int)(i o:Nat)(ho:zdS L i=(o:Int))(labs:List ByteArray)
  (hL:∀ x,labs.any (fun y=>eqW y x)=decide (0≤zaY L x (o+1))) :
  pass L 1 (i+1) c=zem 4 (match zaH names labs (zan L (i+1)) with|some l=>some l|none=>zcA names (zaP L (i+1))) c:=by
 by_cases h:i+1<L.length
 ·by_cases h1:L[i+1].kind=102
  ·have ho':=zfL L (i+1) h h1
   have hb:badB L 1 (i+1)=false:=by simp [badB,zco,List.getElem?_eq_getElem h,h1]
   rw [zc3 L 1 (i+1) c h hb,zcI L (i+1) h h1,zbR L (i+1) h h1,zv1 L hw hn names hN c (i+1) (i+1) ho' (labsOf (zan L (i+1+1))) (fun x=>zfV L (i+1+1) x)]
   rfl
  ·have ho':zdS L (i+1)=(o:Int):=(zdH L i h h1).trans ho
   have hb:=zxR L hw hn names labs (i+1) o h ho' hN hL
   rw [zbH L (i+1) h h1]
   by_cases h0:L[i+1].kind=0
   ·have hb:badB L 1 (i+1)=false:=by simp [badB,zco,List.getElem?_eq_getElem h,h0]
    rw [zc3 L 1 (i+1) c h hb,zbY L (i+1) h h0]
    exact zv1 L hw hn names hN c (i+1) o ho' labs hL
   ·rw [zb7 L (i+1) h h0 h1,zez]
    cases hk:zdn names labs (keyQ L[i+1] (((i+1:Nat):Int)+1)) with
    | true=>rw [zfO L 1 (i+1) c h (hb.trans hk)];rfl
    | false =>
     rw [zc3 L 1 (i+1) c h (hb.trans hk)]
     exact zv1 L hw hn names hN c (i+1) o ho' labs hL
 ·rw [zfN L 1 (i+1) c h,zcx L _ h,zcJ L _ h];rfl
termination_by L.length-i
end
section
open Go.RowKit Sp
theorem zlP(w:World)(cs:Array Value)(t:TypeId)(b c:Obj)(j:Nat):(((w.alloc (.cells cs t)).alloc b).alloc c).cell? ⟨w.heap.size,j,none⟩=cs[j]?:=by
 have e:=(box2 (w:=w.alloc (.cells cs t)) (a:=b) (b:=c)).block w.heap.size (by simp)
 exact(World.cell?_of_block (w:=w.alloc (.cells cs t)) (a:=⟨w.heap.size,j,none⟩) e).trans (World.cell?_alloc_new _ _ _ j)
theorem ztq(b:Nat)(l h:Int)(h0:0≤l)(h1:l≤15)(h2:l≤h)(h3:h≤16):∀ W,(Instr.sliceAt 215 (.pointer (some ⟨b,16,none⟩)) (some (.int .i64 l)) (some (.int .i64 h)) none).run Tryz.prog W=.ok (.slice (some ⟨b,16+l.toNat*2,none⟩) (h.toNat-l.toNat) (16-l.toNat)) W:=by
 intro W
 have e1:Tryz.prog.arrayLen 215=16:=by kernel_rfl
 have e2:Tryz.prog.elem 215=213:=by kernel_rfl
 have eu:Tryz.prog.underlying 215=some (.array (Tryz.prog.arrayLen 215) (Tryz.prog.elem 215)):=by rw [e1,e2];kernel_rfl
 have e3:(sizeOf (Tryz.prog.elem 215)).run Tryz.prog W=.ok 2 W:=by rw [e2];kernel_rfl
 rw [run_sliceAt_array_lh W 215 ⟨b,16,none⟩ eu .i64 .i64 l h h0 h2 (by rw [e1];exact h3),e3]
 show Result.ok (slicedAt ⟨b,16,none⟩ l.toNat h.toNat (Tryz.prog.arrayLen 215) 2) W=_
 unfold slicedAt
 rw [e1,if_neg (by omega)]
 simp [Addr.add]
theorem zee{w:World}{b:Nat}{bv:Value}{k:Kn}(h:KnM w b bv k)(r:Rg)(hr:r.Ok)(h0:0≤r.lo)(h1:r.hi≤15):Calls Tryz.prog 255 #[.pointer (some ⟨b,0,none⟩),rv r] w fun e w'=>e=.returned (.slice (some ⟨b,16+r.lo.toNat*2,none⟩) ((r.hi+1).toNat-r.lo.toNat) (16-r.lo.toNat))∧Below w.heap.size w w':=by
 unfold Rg.Ok i64 at hr
 have hw:r.within ⟨0,15⟩=true:=by unfold Rg.within;simp;omega
 have hlt:=h.lt
 have b1:r.lo≤r.hi+1:=by omega
 have b2:r.hi+1≤16:=by omega
 have b3:IntKind.i64.wrap (r.hi+1)=r.hi+1:=zdD _ (by omega) (by omega)
 go_enter Tryz.func255,Tryz.ntmps255
 go_wp2
 have H1:(((w.alloc (.cells #[.int .i64 r.lo,.int .i64 r.hi] 213)).alloc (.cells #[.int .i64 r.lo,.int .i64 r.hi] 213)).alloc (.cells #[.int .i64 0,.int .i64 15] 213)).cell? ⟨w.heap.size,0,none⟩=some (.int .i64 r.lo)∧(((w.alloc (.cells #[.int .i64 r.lo,.int .i64 r.hi] 213)).alloc (.cells #[.int .i64 r.lo,.int .i64 r.hi] 213)).alloc (.cells #[.int .i64 0,.int .i64 15] 213)).cell? ⟨w.heap.size,1,none⟩=some (.int .i64 r.hi):=⟨zlP _ _ _ _ _ 0,zlP _ _ _ _ _ 1⟩
 have hs:=ztq b r.lo (r.hi+1) h0 (by omega) b1 b2
 go_region_held3 (fun W=>W.cell? ⟨w.heap.size,0,none⟩=some (.int .i64 r.lo)∧W.cell? ⟨w.heap.size,1,none⟩=some (.int .i64 r.hi))
  (first|exact H1|go_keep)
  (fail)
 all_goals go_wp2
 go_ret
 exact⟨rfl,zaA.drew⟩
theorem zcX{w w2:World}{b:Nat}{bv:Value}{k:Kn}{e:Ending}{w':World}(hg:w.grownBy w2 (some b))(h:zaQ w2 b bv k e w'):zaQ w b bv k e w':=by
 obtain⟨g,e1,hg1,hc,hk,hgr⟩:=h
 exact⟨g,e1,Nat.le_trans hg.size hg1,hc,hk,zae hg hgr⟩
theorem za1{w wx:World}{cs:Array Value}{t:TypeId}(hbx:Below (w.alloc (.cells cs t)).heap.size (w.alloc (.cells cs t)) wx)(j:Nat):wx.cell? ⟨w.heap.size,j,none⟩=cs[j]? :=
 (World.cell?_of_block (a:=⟨w.heap.size,j,none⟩) (hbx.block w.heap.size (by simp))).trans (World.cell?_alloc_new _ _ _ j)
theorem zeA{w wx w':World}{o:Obj}{b i j:Nat}{u v bv:Value}{k:Kn}{e:Ending}(hX:Below (w.alloc o).heap.size (w.alloc o) wx)(h:zaQ ((wx.setCell ⟨b,i,none⟩ u).setCell ⟨b,j,none⟩ v) b bv k e w'):zaQ w b bv k e w' :=
 zcX (zae (zah (box1.trans (hX.mono (by simp)))) (zah (Below.refl _ _))) h
theorem zt7{w:World}{b:Nat}{bv:Value}{k:Kn}(h:KnM w b bv k)(r:Nat)(hr:r<8)(n:Int)(h0:0≤k.steps)(h1:k.steps≤100000)(n0:0≤k.next)(n1:k.next≤100000):
  Calls Tryz.prog 224 #[.agg #[.int .i64 (r:Int),.int .i64 n],.pointer (some ⟨b,0,none⟩)] w (zaQ w b bv ({ k with regs:=updR k.regs r (only n) }.goTo (k.next+1))):=by
 have hlt:=h.lt
 have r0:(0:Int)≤(r:Int):=by omega
 have r1:(r:Int)<8:=by omega
 have HB:∀ W,Below (w.alloc (.cells #[.int .i64 (r:Int),.int .i64 n] 167)).heap.size (w.alloc (.cells #[.int .i64 (r:Int),.int .i64 n] 167)) W→KnM W b bv k:=fun W hW=>(h.alloc _).below hW (by simp;omega)
 go_enter Tryz.func224,Tryz.ntmps224
 go_wp2
 go_region_with(first
  | (go_at_call 226;(with_reducible refine(zh2 n _).mono ?_);rintro e wx0 ⟨rfl,hbx0⟩;have hX0:Below (w.alloc (.cells #[.int .i64 (r:Int),.int .i64 n] 167)).heap.size (w.alloc (.cells #[.int .i64 (r:Int),.int .i64 n] 167)) wx0:=(Below.refl _ _).drew.trans hbx0;have hK0:=HB _ hX0;have c0:=(hK0.cR r hr).1;have c1:=(hK0.cR r hr).2;have z0:=hK0.fz (r*2);have z1:=hK0.fz (r*2+1);have v0:wx0.cell? ⟨w.heap.size,0,none⟩=some (.int .i64 (r:Int)):=za1 hX0 0;have v1:wx0.cell? ⟨w.heap.size,1,none⟩=some (.int .i64 n):=za1 hX0 1;have hKK:=hK0.putR r hr (only n)))
 all_goals go_wp2_with(go_at_call 227;(with_reducible refine(zcb hKK h0 h1 n0 n1).mono ?_);intro e w6 hw6;have hw7:=zeA hX0 hw6;clear hw6;obtain⟨g,rfl,hg,hc,hk,hgr⟩:=hw7)
 all_goals go_ret
 all_goals exact⟨g,rfl,hg,hc,hk,hgr⟩
theorem zoI(s:ByteArray)(w:World)(hw:LibW w)(h4:s.size≤4000)(h3:(lines s).length≤300):
  Calls Tryz.prog 66 #[.string s] w (zxJ w (lines s)):=by
 obtain⟨i0,hi,hz0,hz1,hz2⟩:=info_parts Tryz.info135
 obtain⟨mm,hmm⟩:=hw.most
 have hcall:=Tryz.strings_Split s ⟨#[10]⟩ mm w (by omega) hmm (by decide)
 rw [zic,(zdZ s).2] at hcall
 have hsz:=zfx s
 have hlow:=hw.low
 generalize lines s=A at h3 hsz hcall ⊢
 have hw1:LibW (w.alloc (.cells (A.map Value.string).toArray 9)):=hw.below ((Below.refl _ _).alloc (Nat.le_refl _) _)
 have hcell1:∀ k (h:k<A.length),(w.alloc (.cells (A.map Value.string).toArray 9)).cell? ⟨w.heap.size,k,none⟩=some (.string A[k]):=by
  intro k h
  rw [World.cell?_alloc_new]
  simp [h]
 have hb1:Below w.heap.size w (w.alloc (.cells (A.map Value.string).toArray 9)):=(Below.refl _ _).alloc (Nat.le_refl _) _
 have hz1w:(w.alloc (.cells (A.map Value.string).toArray 9)).heap.size=w.heap.size+1:=by simp
 go_enter Tryz.func66,Tryz.ntmps66
 go_wp2_with(go_at_call 97;refine hcall.mono ?_;rintro e wx ⟨rfl,hww⟩;subst hww)
 clear hcall
 generalize w.alloc (.cells (A.map Value.string).toArray 9)=W1 at hw1 hcell1 hb1 hz1w
 go_loopw [3,10] (fun v ti wr=>∃(k:Nat) (its:List It),k≤A.length∧its.length≤k∧ti=.int .i64 (k:Int)∧wr.ownsRow (w.heap.size+1) 135 8 v its.length (zav its)∧its.map It.key=zaU A k∧Below (w.heap.size+1) W1 wr∧zbW A 0=zbW A k∧(∀ j (h:j<A.length),j<k→(say A[j]).ok=true)) (fun _ ti _=>A.length-(intOf ti).toNat)
 case atStart=>exact⟨0,[],by omega,by simp,rfl,World.ownsRow_nil _ _ _ _,rfl,Below.refl _ _,rfl,fun j _ h=>by omega⟩
 case round =>
  obtain⟨k,its,hk,hits,rfl,hown,hkeys,hnx,hR,hoks⟩:=hrel
  have HR:Hid (zbW A 0=zbW A k):=hR
  have HK:Hid (its.map It.key=zaU A k):=hkeys
  have HOK:Hid (∀ j (h:j<A.length),j<k→(say A[j]).ok=true):=hoks
  clear hR hkeys hoks
  have hszr:=hnx.size
  have hbw:Below w.heap.size w wr:=hb1.trans (hnx.mono (by omega))
  have hwr:=hw.below hbw
  by_cases hlt:k<A.length
  ·have hck:=(hnx.cell (p:=⟨w.heap.size,k,none⟩) (by simp)).trans (hcell1 k hlt)
   have hAs:A[k].size≤1048576:=by have:=hsz A[k] (List.getElem_mem hlt);omega
   have HBAD:Hid ((say A[k]).ok=false→zbW A 0=(1,(k:Int)+1)):=fun h=>HR.out.trans (zfQ A k hlt h)
   have HON:Hid ((say A[k]).ok=true→zbW A 0=zbW A (k+1)):=fun h=>HR.out.trans (zfP A k hlt h)
   have HOK1:Hid ((say A[k]).ok=true→∀ j (h:j<A.length),j<k+1→(say A[j]).ok=true):=fun h j hj hjk=>by
    by_cases e:j=k
    ·subst e;exact h
    ·exact HOK.out j hj (by omega)
   cases hv:za0 A[k] 0 with
   | false =>
    have HB:=HBAD.out (zfy _ hv)
    have HB2:Hid (zbW A 0=(1,(k:Int)+1)):=HB
    clear HB
    go_wp2_with(go_at_call 98;refine(zpS A[k] _ wr hwr hAs hv).mono ?_;rintro e w2 ⟨rfl,hb2⟩)
    exact⟨rfl,hbw.trans (hb2.mono hbw.size),.inl ⟨k,HB2.out,rfl⟩⟩
   | true =>
    cases hl:zbv A[k] with
    | nil =>
     have hsay:=zsn _ hv hl
     have HN:Hid (zbW A 0=zbW A (k+1)∧zaU A (k+1)=zaU A k∧∀ j (h:j<A.length),j<k+1→(say A[j]).ok=true) :=
      ⟨HON.out (by rw [hsay]),zid A k hlt (by rw [hsay]),HOK1.out (by rw [hsay])⟩
     have HL:Hid (zbv A[k]=[]):=hl
     clear hsay hl
     go_wp2_with(go_at_call 98;refine(zne A[k] _ wr hwr hAs hv HL).mono ?_;rintro e w2 ⟨ao,cap,rfl,hb2⟩)
     have hown2:=zbw hown hb2 (Nat.le_refl _)
     have hb12:=hnx.trans (hb2.mono (by omega))
     clear hb2
     go_roundw
     case rel=>exact⟨k+1,its,by omega,by omega,by go_num,hown2,by rw [HN.out.2.1];exact HK.out,hb12,HN.out.1,HN.out.2.2⟩
     case measure=>simp [intOf];omega
    | cons x r =>
     have hws:=zhG A[k]
     have hwl:=zsi A[k]
     rw [hl] at hws hwl
     have hws2:∀ y∈(x :: r:List ByteArray),1≤y.size∧y.size≤1048576:=fun y hy=>by have:=hws y hy;omega
     have hrn:r.length≤1048576:=by simp at hwl;omega
     have hsay:=zie _ hv
     rw [hl] at hsay
     have hkd:=zso x r
     have HADD:Hid (zaU A (k+1)=zaU A k++[keyQ (say A[k]) ((k:Int)+1)]):=zj3 A k hlt (by rw [hsay];exact hkd)
     rw [hsay] at HBAD HON HOK1 HADD
     have HL:Hid (zbv A[k]=x :: r):=hl
     generalize hq:sayW (x :: r)=q at HBAD HON HOK1 HADD
     have HQ:Hid (sayW (x :: r)=q):=hq
     clear hq hsay hkd hl hws hwl
     cases hok:q.ok with
     | false =>
      have HB2:Hid (zbW A 0=(1,(k:Int)+1)):=HBAD.out hok
      go_wp2_with(first
       | (go_at_call 98;refine(zif A[k] _ wr hwr hAs hv _ HL (by simp)).mono ?_;rintro e w2 ⟨g,cap,rfl,hg,hwi,hb2⟩;have hw2:=hwr.below hb2)
       | (go_at_call 99;refine(zle w2 hw2 g cap x r _ hwi hws2 hrn q HQ hok).mono ?_;rintro e w3 ⟨rfl,hb3⟩))
      exact⟨rfl,(hbw.trans (hb2.mono hbw.size)).trans (hb3.mono (by have:=hbw.size;have:=hb2.size;omega)),.inl ⟨k,HB2.out,rfl⟩⟩
     | true =>
      have HN:Hid (zbW A 0=zbW A (k+1)∧∀ j (h:j<A.length),j<k+1→(say A[j]).ok=true):=⟨HON.out hok,HOK1.out hok⟩
      go_wp2_with(first
       | (go_at_call 98;refine(zif A[k] _ wr hwr hAs hv _ HL (by simp)).mono ?_;rintro e w2 ⟨g,cap,rfl,hg,hwi,hb2⟩;have hw2:=hwr.below hb2;have hown2:=zbw hown hb2 (Nat.le_refl _);have hs2:=hb2.size)
       | (go_at_call 99;refine(zsp w2 hw2 g cap x r _ hwi hws2 hrn q HQ hok).mono ?_;rintro e w3 ⟨rfl,hb3⟩;have hown3:=zbw hown2 hb3 (Nat.le_refl _);have hs3:=hb3.size)
       | (at_builtin;refine wpList_append_own _ rfl _ _ 116 rfl (w.heap.size+1) 135 i0 (.agg #[.int .i64 0,.int .i64 0,.string ByteArray.empty,.int .i64 0,.int .i64 0,.int .i64 0,.int .i64 0,.string ByteArray.empty]) 8 80 Tryz.under116 hi hz0 hz1 hz2 rfl (by decide) _ _ _ rfl (hown3.alloc _) ⟨w3.heap.size,0,none⟩ 1 1 (It.cells ⟨zfv q,(k:Int)+1,zew q,zd5 q,(opQ q).a,(opQ q).b,(opQ q).c,(opQ q).n⟩) rfl rfl (znd _ _ _ _ _ _ _ _ _ _) (zld _) (by unfold maxLen;omega) (by omega) (by simp;omega) ?_))
      intro v' w4 hown4 hgrow _
      have hb4:Below (w.heap.size+1) W1 w4:=(((hnx.trans (hb2.mono (by omega))).trans (hb3.mono (by omega))).alloc (by omega) _).grown hgrow (by simp;omega) (fun j hj=>(hown3.lt j hj).1)
      clear hgrow hown3 hown2 hwi hw2
      go_wp2
      go_roundw
      case rel=>exact⟨k+1,its++[⟨zfv q,(k:Int)+1,zew q,zd5 q,(opQ q).a,(opQ q).b,(opQ q).c,(opQ q).n⟩],by omega,by simp;omega,by go_num,by rw [zfR];simpa using hown4,by rw [List.map_append,HK.out,HADD.out];rfl,hb4,HN.out.1,HN.out.2⟩
      case measure=>simp [intOf];omega
  ·have HE:Hid (zbW A 0=zb6 (A.map say) 0):=HR.out.trans (zia A k hlt)
   have HKA:Hid (k=A.length):=by unfold Hid;omega
   go_wp2
   go_ret
   refine⟨hbw,.inr ⟨HE.out,fun x hx=>?_,_,its,rfl,zbV hown (by omega),by rw [HK.out,HKA.out]⟩⟩
   obtain⟨j,hj,rfl⟩:=List.mem_iff_getElem.1 hx
   exact HOK.out j hj (by have:=HKA.out;omega)
structure LdM(w wr:World)(b F:Nat)(bv:Value)(k:Kn)(f:Rg):Prop where
 kn:KnM wr b bv k
 lo:wr.cell? ⟨F,0,none⟩=some (.int .i64 f.lo)
 hi:wr.cell? ⟨F,1,none⟩=some (.int .i64 f.hi)
 fF:∀ j,wr.frozen? ⟨F,j,none⟩=false
 r0:∃ x,wr.cell? ⟨w.heap.size+1,0,none⟩=some x
 r1:∃ x,wr.cell? ⟨w.heap.size+1,1,none⟩=some x
 rz:∀ j,wr.frozen? ⟨w.heap.size+1,j,none⟩=false
 low:Below w.heap.size w wr
 ltF:F<wr.heap.size
 ne1:b<F
 ne2:w.heap.size+1<F
theorem LdM.below{w wr wy:World}{b F:Nat}{bv:Value}{k:Kn}{f:Rg}(L:LdM w wr b F bv k f)(hb:Below wr.heap.size wr wy):LdM w wy b F bv k f:=by
 have c:∀ q j,q<wr.heap.size→wy.cell? ⟨q,j,none⟩=wr.cell? ⟨q,j,none⟩:=fun q j hq=>World.cell?_of_block (w:=wr) (a:=⟨q,j,none⟩) (hb.block q hq)
 have z:∀ q j,q<wr.heap.size→wy.frozen? ⟨q,j,none⟩=wr.frozen? ⟨q,j,none⟩:=fun q j hq=>World.frozen?_of_block (w:=wr) (a:=⟨q,j,none⟩) (hb.block q hq)
 have hF:=L.ltF
 have h2:=L.ne2
 have hs:=hb.size
 obtain⟨x0,e0⟩:=L.r0
 obtain⟨x1,e1⟩:=L.r1
 have hl:w.heap.size≤wr.heap.size:=L.low.size
 exact⟨L.kn.below hb L.kn.lt,(c _ _ hF).trans L.lo,(c _ _ hF).trans L.hi,fun j=>(z _ _ hF).trans (L.fF j),⟨x0,(c _ _ (by omega)).trans e0⟩,⟨x1,(c _ _ (by omega)).trans e1⟩,fun j=>(z _ _ (by omega)).trans (L.rz j),L.low.trans (hb.mono hl),by omega,L.ne1,h2⟩
theorem LdM.store{w wr:World}{b F:Nat}{bv:Value}{k:Kn}{f:Rg}(L:LdM w wr b F bv k f)(g:Rg):LdM w ((wr.setCell ⟨F,0,none⟩ (.int .i64 g.lo)).setCell ⟨F,1,none⟩ (.int .i64 g.hi)) b F bv k g:=by
 have hb:Below F wr ((wr.setCell ⟨F,0,none⟩ (.int .i64 g.lo)).setCell ⟨F,1,none⟩ (.int .i64 g.hi)):=zat (Below.refl F wr) (Nat.le_refl _)
 have c:∀ q j,q<F→((wr.setCell ⟨F,0,none⟩ (.int .i64 g.lo)).setCell ⟨F,1,none⟩ (.int .i64 g.hi)).cell? ⟨q,j,none⟩=wr.cell? ⟨q,j,none⟩:=fun q j hq=>World.cell?_of_block (w:=wr) (a:=⟨q,j,none⟩) (hb.block q hq)
 have hF:=L.ltF
 have h2:=L.ne2
 obtain⟨x0,e0⟩:=L.r0
 obtain⟨x1,e1⟩:=L.r1
 exact⟨L.kn.below hb L.ne1,(zap L.lo L.hi).1,(zap L.lo L.hi).2,fun j=>zcE _ _ _ j _ (zcE _ _ _ j _ (L.fF j)),⟨x0,(c _ _ (by omega)).trans e0⟩,⟨x1,(c _ _ (by omega)).trans e1⟩,fun j=>(World.frozen?_of_block (w:=wr) (a:=⟨w.heap.size+1,j,none⟩) (hb.block _ (by omega))).trans (L.rz j),L.low.trans (hb.mono (by omega)),by rw [World.size_setCell,World.size_setCell];exact hF,L.ne1,h2⟩
theorem zqX{w:World}{b:Nat}{bv:Value}{k:Kn}(h:KnM w b bv k)(a n:Nat)(hn:a<15)(ha:a+n≤15):Calls Tryz.prog 254 #[.pointer (some ⟨b,0,none⟩),rv ⟨(a:Int),((a:Int)+(n:Int))⟩] w fun e w'=>e=.returned (rv (zch k.cells a n))∧Below w.heap.size w w':=by
 have hlt:=h.lt
 have hT:∀(W:World),KnM W b bv k→Calls Tryz.prog 255 #[.pointer (some ⟨b,0,none⟩),rv ⟨(a:Int),((a:Int)+(n:Int))⟩] W fun e w'=>e=.returned (.slice (some ⟨b,16+a*2,none⟩) (n+1) (16-a))∧Below W.heap.size W w':=fun W hW=>by
  have t:=zee hW ⟨(a:Int),((a:Int)+(n:Int))⟩ ⟨⟨by show _≤(a:Int);omega,by show(a:Int)≤_;omega⟩,⟨by show _≤((a:Int)+(n:Int));omega,by show((a:Int)+(n:Int))≤_;omega⟩,by show(a:Int)≤((a:Int)+(n:Int));omega⟩ (by show(0:Int)≤(a:Int);omega) (by show((a:Int)+(n:Int))≤15;omega)
  have e1:((a:Int)+(n:Int)+1).toNat=a+n+1:=by omega
  have e2:((a:Nat):Int).toNat=a:=by omega
  have e3:a+n+1-a=n+1:=by omega
  simp only [e1,e2,e3] at t
  exact t
 have m1:¬(16-a=1):=by omega
 go_enter Tryz.func254,Tryz.ntmps254
 go_wp2_with(go_at_call 255;(with_reducible refine(hT _ ((h.alloc _).alloc _)).mono ?_);rintro e wx ⟨rfl,hbx⟩;have hK:KnM wx b bv k:=((h.alloc _).alloc _).below hbx (by simp;omega);have c0:=(hK.cC a (by omega)).1;have c1:=(hK.cC a (by omega)).2)
 have L0:LdM w (wx.alloc (.cells #[.int .i64 (k.cells a).lo,.int .i64 (k.cells a).hi] 213)) b wx.heap.size bv k (k.cells a):=by
  have hs:=hbx.size
  have e2:((w.alloc (.cells #[.int .i64 (a:Int),.int .i64 ((a:Int)+(n:Int))] 213)).alloc (.cells #[.int .i64 0,.int .i64 0] 213)).heap.size=w.heap.size+1+1:=by simp
  rw [e2] at hs hbx
  have hb2:Below (w.heap.size+1+1) _ (wx.alloc (.cells #[.int .i64 (k.cells a).lo,.int .i64 (k.cells a).hi] 213)):=hbx.alloc hs _
  have cc:∀ j,(wx.alloc (.cells #[.int .i64 (k.cells a).lo,.int .i64 (k.cells a).hi] 213)).cell? ⟨w.heap.size+1,j,none⟩=(#[.int .i64 0,.int .i64 0]:Array Value)[j]?:=fun j=>by
   have e:=World.cell?_of_block (a:=⟨w.heap.size+1,j,none⟩) (hb2.block (w.heap.size+1) (by omega))
   rw [e]
   have:=World.cell?_alloc_new (w:=w.alloc (.cells #[.int .i64 (a:Int),.int .i64 ((a:Int)+(n:Int))] 213)) #[.int .i64 0,.int .i64 0] 213 j
   rw [World.size_alloc] at this
   exact this
  refine⟨hK.alloc _,World.cell?_alloc_new _ _ _ 0,World.cell?_alloc_new _ _ _ 1,fun j=>World.frozen?_alloc_at _ _ _ _ (by simp),⟨_,cc 0⟩,⟨_,cc 1⟩,fun j=>?_,box2.trans (hb2.mono (by omega)),by simp,by omega,by omega⟩
  have e:=World.frozen?_of_block (a:=⟨w.heap.size+1,j,none⟩) (hb2.block (w.heap.size+1) (by omega))
  rw [e]
  exact World.frozen?_alloc_at _ _ _ _ (by simp)
 clear hbx hK c0 c1 hT
 go_loopw [18] (fun ti wr=>∃ j:Nat,j≤n∧ti=.int .i64 (j:Int)∧LdM w wr b wx.heap.size bv k (zch k.cells a j)) (fun ti _=>n-(intOf ti).toNat)
 case atStart=>exact⟨0,by omega,rfl,L0⟩
 case round =>
  obtain⟨j,hj,rfl,L⟩:=hrel
  by_cases hjn:j<n
  ·have cl:=L.kn.cC (a+(j+1)) (by omega)
   rw [show 16+(a+(j+1))*2=16+a*2+2+j*2 by omega] at cl
   obtain⟨d0,d1⟩:=cl
   have hj0:(0:Int)≤(j:Int):=by omega
   have hj1:(j:Int)<(n:Int):=by omega
   have HO:Hid (zch k.cells a (j+1)=(zch k.cells a j).or (k.cells (a+(j+1)))):=rfl
   generalize k.cells (a+(j+1))=c at d0 d1 HO
   generalize zch k.cells a j=f at L HO
   have LA:=L.below (box1 (a:=.cells #[.int .i64 c.lo,.int .i64 c.hi] 213))
   have f0:=LA.lo
   have f1:=LA.hi
   have z0:=LA.fF 0
   have z1:=LA.fF 1
   go_wp2_with(go_at_call 156;(with_reducible refine(zpl f c _).mono ?_);rintro e wy ⟨rfl,hby⟩;have LB:=LA.below hby;have g0:=LB.lo;have g1:=LB.hi;have y0:=LB.fF 0;have y1:=LB.fF 1)
   exact⟨⟨j+1,by omega,by go_num,by rw [HO.out];exact LB.store _⟩,by simp [intOf];omega⟩
  ·obtain rfl:j=n:=by omega
   have f0:=L.lo
   have f1:=L.hi
   obtain⟨x0,s0⟩:=L.r0
   obtain⟨x1,s1⟩:=L.r1
   have y0:=L.rz 0
   have y1:=L.rz 1
   have hl:=L.low
   clear L L0
   go_wp2
   exact zb0 (r:=zch k.cells a j) Tryz.results254 rfl rfl (zap s0 s1).1 (zap s0 s1).2 ⟨rfl,zat hl (by omega)⟩
end
end Go.Proofs.YtfpgjkbjbbgciaaGreatDoor
