import Derived.Test.YtfpgjkbjbbgciaaGreatDoorMi52
set_option maxRecDepth 100000
set_option maxHeartbeats 8000000
namespace Go.Proofs.YtfpgjkbjbbgciaaGreatDoor
section
open Go.RowKit Sp
theorem RunS.inn{s:ByteArray}{inp:List Int}{T:Told}{bs bf:Int}(h:RunS s inp T)(hR:zcg s=(0,0))(hv:VerdL ((lines s).map say) (some (bs,bf))):T=⟨ranL ((lines s).map say) inp bs,(ranL ((lines s).map say) inp bs).line,0,0⟩:=by
 rcases h with ⟨n,rfl⟩|⟨r,v,rfl⟩|⟨r,bs',bf',v,rfl⟩
 ·exact absurd hR n
 ·have:=v.unique hv;cases this
 ·have:=v.unique hv;cases this;rfl
theorem zy8{s:ByteArray}{bs bf er ln:Int}(h:VerS s bs bf er ln)(b:Bool)(hb:b=decide (er=0∧ln=0))(w:World)(hw:LibW w)(hs:s.size≤9223372036854775807):Calls Tryz.prog 34 #[.string s] w fun e w'=>e=.returned (.tuple #[.agg #[.int .i64 bs,.int .i64 bf],.bool b])∧Below w.heap.size w w':=by
 have hb0:Below w.heap.size w (w.alloc (.cells #[.int .i64 0,.int .i64 0] 42)):=(Below.refl _ _).alloc (Nat.le_refl _) _
 have hs0:(w.alloc (.cells #[.int .i64 0,.int .i64 0] 42)).heap.size=w.heap.size+1:=by simp
 have r0:=World.cell?_alloc_new (w:=w) #[.int .i64 0,.int .i64 0] 42 0
 have r1:=World.cell?_alloc_new (w:=w) #[.int .i64 0,.int .i64 0] 42 1
 have rz:=fun j=>zkB w #[.int .i64 0,.int .i64 0] 42 j
 have hver:=zgG h (w.alloc (.cells #[.int .i64 0,.int .i64 0] 42)) (hw.below hb0) hs
 have hx:∀ w1:World,Below (w.alloc (.cells #[.int .i64 0,.int .i64 0] 42)).heap.size (w.alloc (.cells #[.int .i64 0,.int .i64 0] 42)) w1→w1.cell? ⟨w.heap.size,0,none⟩=some (.int .i64 0)∧w1.cell? ⟨w.heap.size,1,none⟩=some (.int .i64 0)∧w1.frozen? ⟨w.heap.size,0,none⟩=false∧w1.frozen? ⟨w.heap.size,1,none⟩=false∧w.heap.size<w1.heap.size∧¬w.heap.size=w1.heap.size∧Below w.heap.size w ((w1.alloc (.cells #[.int .i64 bs,.int .i64 bf] 42))):=fun w1 hb1=>by
  have e:=hb1.block w.heap.size (by rw [hs0];omega)
  have hlt:=hb1.size
  rw [hs0] at hlt
  refine⟨(World.cell?_of_block (a:=⟨w.heap.size,0,none⟩) e).trans r0,(World.cell?_of_block (a:=⟨w.heap.size,1,none⟩) e).trans r1,(World.frozen?_of_block (a:=⟨w.heap.size,0,none⟩) e).trans (rz 0),(World.frozen?_of_block (a:=⟨w.heap.size,1,none⟩) e).trans (rz 1),by omega,by omega,?_⟩
  exact(hb0.trans (hb1.mono (by omega))).alloc (by omega) _
 have HX:Hid _:=hx
 have hb00:=hb0
 clear hx hb0 hs0 r0 r1 rz
 have hfin:∀ w1:World,Below (w.alloc (.cells #[.int .i64 0,.int .i64 0] 42)).heap.size (w.alloc (.cells #[.int .i64 0,.int .i64 0] 42)) w1→∀ W,W=((w1.setCell ⟨w.heap.size,0,none⟩ (.int .i64 bs)).setCell ⟨w.heap.size,1,none⟩ (.int .i64 bf)).alloc (.cells #[.int .i64 bs,.int .i64 bf] 42)→W.cell? ⟨w.heap.size,0,none⟩=some (.int .i64 bs)∧W.cell? ⟨w.heap.size,1,none⟩=some (.int .i64 bf)∧Below w.heap.size w W:=fun w1 hb1 W hW=>by
  obtain⟨c0,c1,z0,z1,lt1,ne1,hB⟩:=HX.out w1 hb1
  have b0:(w1.setCell ⟨w.heap.size,0,none⟩ (.int .i64 bs)).cell? ⟨w.heap.size,0,none⟩=some (.int .i64 bs):=World.cell?_setCell_same _ _ _ c0
  have b1:(w1.setCell ⟨w.heap.size,0,none⟩ (.int .i64 bs)).cell? ⟨w.heap.size,1,none⟩=some (.int .i64 0):=by rw [zaq _ w.heap.size 0 1 _ _ c0,if_neg (by omega)];exact c1
  have d0:((w1.setCell ⟨w.heap.size,0,none⟩ (.int .i64 bs)).setCell ⟨w.heap.size,1,none⟩ (.int .i64 bf)).cell? ⟨w.heap.size,0,none⟩=some (.int .i64 bs):=by rw [zaq _ w.heap.size 1 0 _ _ b1,if_neg (by omega)];exact b0
  have d1:((w1.setCell ⟨w.heap.size,0,none⟩ (.int .i64 bs)).setCell ⟨w.heap.size,1,none⟩ (.int .i64 bf)).cell? ⟨w.heap.size,1,none⟩=some (.int .i64 bf):=World.cell?_setCell_same _ _ _ b1
  rw [hW]
  refine⟨by rw [World.cell?_alloc_some _ _ _ (by rw [d0];rfl)];exact d0,by rw [World.cell?_alloc_some _ _ _ (by rw [d1];rfl)];exact d1,?_⟩
  have hb01:Below w.heap.size w w1:=hb00.trans (hb1.mono (by simp))
  have hb02:=(hb01.setCell (p:=⟨w.heap.size,0,none⟩) (Nat.le_refl _) (.int .i64 bs)).setCell (p:=⟨w.heap.size,1,none⟩) (Nat.le_refl _) (.int .i64 bf)
  exact hb02.alloc hb02.size _
 have HF:Hid _:=hfin
 clear hfin hb00
 by_cases h1:er=0
 ·by_cases h2:ln=0
  ·go_enter Tryz.func34,Tryz.ntmps34
   go_wp2_with(first|(go_at_call 26;(with_reducible refine hver.mono ?_);rintro e w1 ⟨rfl,hb1⟩;obtain⟨c0,c1,z0,z1,lt1,ne1,hB⟩:=HX.out w1 hb1))
   obtain⟨k0,k1,hB2⟩:=HF.out w1 hb1 _ rfl
   refine bodyPost_ret (v:=.tuple #[.agg #[.int .i64 bs,.int .i64 bf],.bool b]) ?_ rfl ⟨rfl,hB2⟩
   rw [show b=true by rw [hb];simp [h1,h2]]
   simp [results,Tryz.results34,go_sem,k0,k1]
  ·go_enter Tryz.func34,Tryz.ntmps34
   go_wp2_with(first|(go_at_call 26;(with_reducible refine hver.mono ?_);rintro e w1 ⟨rfl,hb1⟩;obtain⟨c0,c1,z0,z1,lt1,ne1,hB⟩:=HX.out w1 hb1))
   obtain⟨k0,k1,hB2⟩:=HF.out w1 hb1 _ rfl
   refine bodyPost_ret (v:=.tuple #[.agg #[.int .i64 bs,.int .i64 bf],.bool b]) ?_ rfl ⟨rfl,hB2⟩
   rw [show b=false by rw [hb];simp [h2]]
   simp [results,Tryz.results34,go_sem,k0,k1,h2]
 ·go_enter Tryz.func34,Tryz.ntmps34
  go_wp2_with(first|(go_at_call 26;(with_reducible refine hver.mono ?_);rintro e w1 ⟨rfl,hb1⟩;obtain⟨c0,c1,z0,z1,lt1,ne1,hB⟩:=HX.out w1 hb1))
  obtain⟨k0,k1,hB2⟩:=HF.out w1 hb1 _ rfl
  refine bodyPost_ret (v:=.tuple #[.agg #[.int .i64 bs,.int .i64 bf],.bool b]) ?_ rfl ⟨rfl,hB2⟩
  rw [show b=false by rw [hb];simp [h1]]
  simp [results,Tryz.results34,go_sem,k0,k1]
theorem zr0{FIN:Mc}(h:ranL ((lines zeC).map say) [] 1=FIN):FIN.steps=1∧FIN.fin=2:=by
 subst h
 exact⟨by kernel_rfl,by kernel_rfl⟩
theorem zmw(m:Mc)(ov:Value)(line:Int):(zaV m ov line)[0]?=some (.int .i64 m.steps):=by simp [zaV]
theorem zuj(w:World)(hw:LibW w):Calls Tryz.prog 30 #[] w fun e w'=>e=.returned (.bool true)∧Below w.heap.size w w':=by
 have hV:VerS zeC 1 1 0 0:=.inr (.inr ⟨zgH,ziS,rfl,rfl⟩)
 have hsz:zeC.size≤9223372036854775807:=by show 11≤9223372036854775807;omega
 have hlet:Calls Tryz.prog 34 #[.string ⟨#[102,117,110,99,32,102,10,98,97,99,107]⟩] w fun e w'=>e=.returned (.tuple #[.agg #[.int .i64 1,.int .i64 1],.bool true])∧Below w.heap.size w w':=zy8 hV true (by decide) w hw hsz
 have hrun:∀ W,LibW W→Calls Tryz.prog 25 #[.string ⟨#[102,117,110,99,32,102,10,98,97,99,107]⟩,.slice none 0 0] W (ze2 W ⟨ranL ((lines zeC).map say) [] 1,(ranL ((lines zeC).map say) [] 1).line,0,0⟩):=fun W hW=>(zui zeC W hW hsz none 0 [] ⟨none,0,rfl,Nat.le_refl _,fun h=>absurd h (Nat.lt_irrefl 0)⟩ (Nat.zero_le _)).mono fun e w' ⟨T,hT,hp⟩=>by rw [hT.inn zgH ziS] at hp;exact hp
 obtain⟨q1,q2⟩:=zr0 rfl
 generalize ranL ((lines zeC).map say) [] 1=FIN at hrun q1 q2
 clear hV
 go_enter Tryz.func30,Tryz.ntmps30
 go_wp2_with(first
  | (go_at_call 34;(with_reducible refine hlet.mono ?_);rintro e w1 ⟨rfl,hb1⟩;have hal:Below w1.heap.size w1 (w1.alloc (.cells #[.int .i64 1,.int .i64 1] 42)):=(Below.refl _ _).alloc (Nat.le_refl _) _;have hB1:=hb1.trans (hal.mono hb1.size);have hr1:=hrun _ (hw.below hB1))
  | (go_at_call 25;refine Hid.out ?_))
 unfold Hid
 refine hr1.mono ?_
 rintro e w2 ⟨oo,no,co,rfl,_,hb2⟩
 dsimp only
 have q5:(w1.alloc (.cells #[.int .i64 1,.int .i64 1] 42)).cell? ⟨w1.heap.size,0,none⟩=some (.int .i64 1):=World.cell?_alloc_new (w:=w1) #[.int .i64 1,.int .i64 1] 42 0
 have q6:(w1.alloc (.cells #[.int .i64 1,.int .i64 1] 42)).cell? ⟨w1.heap.size,1,none⟩=some (.int .i64 1):=World.cell?_alloc_new (w:=w1) #[.int .i64 1,.int .i64 1] 42 1
 have hs2:(w1.alloc (.cells #[.int .i64 1,.int .i64 1] 42)).heap.size=w1.heap.size+1:=by simp
 have q52:=za3 hb2 q5
 have q62:=za3 hb2 q6
 have hB2:=hB1.trans (hb2.mono hB1.size)
 have hlt:w1.heap.size<w2.heap.size:=Nat.lt_of_lt_of_le (by rw [hs2];omega) hb2.size
 have hln:=zbX FIN (.slice oo no co) FIN.line
 have h1:=zcH FIN oo no co FIN.line
 have h0:=zmw FIN (.slice oo no co) FIN.line
 have h29:=zrz FIN (.slice oo no co) FIN.line
 rw [q1] at h0
 rw [q2] at h29
 generalize zaV FIN (.slice oo no co) FIN.line=ds at hln h1 h0 h29
 have hi:=zcK ds hln
 have ht3:=zhv (W1:=w2) rfl ds hln
 have hB3:Below w2.heap.size w2 ((w2.alloc Z34).setCells w2.heap.size 0 ds.toArray.toList):=zaF _ 0 ((Below.refl w2.heap.size w2).alloc (Nat.le_refl _) _) (Nat.le_refl _)
 have hr3:((w2.alloc Z34).setCells w2.heap.size 0 ds.toArray.toList).rangeAt w2.heap.size 0 ds:=by rw [show ds.toArray.toList=ds by simp];exact World.rangeAt_setCells_same _ _ _ _ (by rw [show ds.length=ds.toArray.size by simp];exact ht3)
 have c0:=hr3 0 _ h0
 have c29:=hr3 29 _ h29
 rw [Nat.zero_add] at c0 c29
 have q53:=za3 hB3 q52
 have q63:=za3 hB3 q62
 have hB4:=hB2.trans (hB3.mono hB2.size)
 generalize hw3:(w2.alloc Z34).setCells w2.heap.size 0 ds.toArray.toList=w3 at hB3 hr3 c0 c29 q53 q63 hB4
 clear hr3 h0 h29 q52 q62 q5 q6 hr1 hrun hlet hal
 go_wp2_with(first|(refine wpList_store_mid rfl 34 _ _ rfl w2.heap.size 0 ds.toArray rfl rfl ht3 hi h1 ?_;rw [hw3]))
 go_ret
 exact⟨rfl,hB4⟩
def zmN(a0 a1 a2 a3 a4 a5 a6:ByteArray)(t:Nat):ByteArray:=if t=0 then a0 else if t=1 then a1 else if t=2 then a2 else if t=3 then a3 else if t=4 then a4 else if t=5 then a5 else a6
theorem zxl(a0 a1 a2 a3 a4 a5 a6:ByteArray)(t:Nat)(h:t<[Value.string a0,.string a1,.string a2,.string a3,.string a4,.string a5,.string a6].length):[Value.string a0,.string a1,.string a2,.string a3,.string a4,.string a5,.string a6][t]=.string (zmN a0 a1 a2 a3 a4 a5 a6 t):=by
 have h7:t<7:=h
 have:t=0∨t=1∨t=2∨t=3∨t=4∨t=5∨t=6:=by omega
 rcases this with rfl|rfl|rfl|rfl|rfl|rfl|rfl <;> rfl
def oddB(t:Nat)(D:List UInt8):List UInt8:=zcB ((oddL t D).map Ln.bytes)
theorem zxm(t:Nat)(ht:t<7)(d1 d2:List UInt8)(D1 D2:ByteArray)(h1:D1=ba d1)(h2:D2=ba d2):zmN (⟨#[9,115,101,116,32,114,48,32,48,10,9,115,101,116,32,114,49,32,51,10,97,58,10,9,108,101,115,115,32,114,48,32,114,49,32,98,10,9,106,117,109,112,32,99,10,98,58,10,9,105,110,99,32,114,48,32,48,10,9,106,117,109,112,32,97,10,99,58,10]⟩:ByteArray) (⟨#[97,58,10,9,106,117,109,112,32,97,10,98,58,10]⟩:ByteArray) ((⟨#[9,115,101,116,32,114,48,32]⟩:ByteArray)++D1++(⟨#[10,9,108,111,97,100,32,114,49,32,114,48,10]⟩:ByteArray)) ((⟨#[9,115,101,116,32,114,48,32]⟩:ByteArray)++D2++(⟨#[10,9,115,116,111,114,101,32,114,48,32,114,49,10]⟩:ByteArray)) (⟨#[9,99,97,108,108,32,109,97,105,110,10]⟩:ByteArray) (⟨#[9,115,101,116,32,114,48,32,49,10,9,115,101,116,32,114,49,32,48,10,97,58,10,9,108,101,115,115,32,114,49,32,114,48,32,98,10,9,106,117,109,112,32,99,10,98,58,10,9,114,101,97,100,32,114,48,10,9,97,100,100,32,114,48,32,114,48,32,114,49,10,9,115,101,116,32,114,48,32,49,10,9,106,117,109,112,32,97,10,99,58,10]⟩:ByteArray) (⟨#[9,115,101,116,32,114,48,32,48,10,9,115,101,116,32,114,49,32,57,50,50,51,51,55,50,48,51,54,56,53,52,55,55,53,56,48,55,10,97,58,10,9,108,101,115,115,32,114,48,32,114,49,32,98,10,9,106,117,109,112,32,99,10,98,58,10,9,105,110,99,32,114,48,32,49,10,9,106,117,109,112,32,97,10,99,58,10]⟩:ByteArray) t=ba (oddB t (if t=3 then d2 else d1)):=by
 subst h1 h2
 have:t=0∨t=1∨t=2∨t=3∨t=4∨t=5∨t=6:=by omega
 rcases this with rfl|rfl|rfl|rfl|rfl|rfl|rfl
 ·show zmN _ _ _ _ _ _ _ 0=ba (oddB 0 d1)
  kernel_rfl
 ·show zmN _ _ _ _ _ _ _ 1=ba (oddB 1 d1)
  kernel_rfl
 ·show((⟨#[9,115,101,116,32,114,48,32]⟩:ByteArray)++ba d1++(⟨#[10,9,108,111,97,100,32,114,49,32,114,48,10]⟩:ByteArray))=ba (oddB 2 d1)
  rw [show(⟨#[9,115,101,116,32,114,48,32]⟩:ByteArray)=ba [9,115,101,116,32,114,48,32] from rfl,show(⟨#[10,9,108,111,97,100,32,114,49,32,114,48,10]⟩:ByteArray)=ba [10,9,108,111,97,100,32,114,49,32,114,48,10] from rfl,zc8,zc8]
  refine congrArg ba ?_
  simp [oddB,oddL,zcB,zcj,Ln.bytes,Ln.blank]
 ·show((⟨#[9,115,101,116,32,114,48,32]⟩:ByteArray)++ba d2++(⟨#[10,9,115,116,111,114,101,32,114,48,32,114,49,10]⟩:ByteArray))=ba (oddB 3 d2)
  rw [show(⟨#[9,115,101,116,32,114,48,32]⟩:ByteArray)=ba [9,115,101,116,32,114,48,32] from rfl,show(⟨#[10,9,115,116,111,114,101,32,114,48,32,114,49,10]⟩:ByteArray)=ba [10,9,115,116,111,114,101,32,114,48,32,114,49,10] from rfl,zc8,zc8]
  refine congrArg ba ?_
  simp [oddB,oddL,zcB,zcj,Ln.bytes,Ln.blank]
 ·show zmN _ _ _ _ _ _ _ 4=ba (oddB 4 d1)
  kernel_rfl
 ·show zmN _ _ _ _ _ _ _ 5=ba (oddB 5 d1)
  kernel_rfl
 ·show zmN _ _ _ _ _ _ _ 6=ba (oddB 6 d1)
  kernel_rfl
theorem zxn(t:Nat)(ht:t<7)(d:List UInt8)(hd:d.length≤21):(ba (oddB t d)).size≤300:=by
 have:t=0∨t=1∨t=2∨t=3∨t=4∨t=5∨t=6:=by omega
 rcases this with rfl|rfl|rfl|rfl|rfl|rfl|rfl <;> (rw [zcN];simp [oddB,oddL,zcB,zcj,Ln.bytes,Ln.blank];try omega)
theorem zxo(t:Nat)(n:Int)(G:List (List Ln)):(⟨#[102,117,110,99,32,109,97,105,110,10]⟩:ByteArray)++ba (oddB t (digL n))++(⟨#[9,115,116,111,112,10]⟩:ByteArray)++ba (zfg G)=endT t n G:=by
 rw [show(⟨#[102,117,110,99,32,109,97,105,110,10]⟩:ByteArray)=ba [102,117,110,99,32,109,97,105,110,10] from rfl,show(⟨#[9,115,116,111,112,10]⟩:ByteArray)=ba [9,115,116,111,112,10] from rfl,zc8,zc8,zc8]
 unfold endT
 refine congrArg ba ?_
 unfold endL zfg oddB
 simp [zgI,ziX,zcj,Ln.bytes,Ln.blank,zuR,zxg,zhs]
theorem zzU(t:Nat)(ht:t<7)(n:Int)(h0:-9223372036854775808≤n)(h1:n≤9223372036854775807)(hn:t=2∨t=3→n<0∨15<n){G:List (List Ln)}(h:Wrote G)(hG:¬G=[])(hl:G.length≤1000000)(hR:zcg (endT t n G)=(0,0)):VerdL ((lines (endT t n G)).map say) none:=by
 obtain⟨F,R⟩:=zei _ hR
 obtain⟨v,hv⟩:=zfC R
 cases v with
 | none=>exact hv
 | some b =>
  exfalso
  have hb:=VerdL.bound (bs:=b.1) (bf:=b.2) hv
  have he:=VerdL.ends (bs:=b.1) (bf:=b.2) hv [] (fun x hx=>by cases hx) 100000 (by omega)
  have hx:=zzT t ht (ba (digL n)) (zaO (fsT G)) (fun ht=>by rw [zp2 n h0 h1];exact hn ht)
  rw [zmK t n h0 h1 h hG hl] at he
  rcases he.1 with e|e
  ·exact hx.1 e
  ·exact hx.2 e
theorem zAf(cv:Value)(which k:Int)(w:World)(hw:LibW w)(t:Nat)(ht:t<7)(p:Int)(p0:0≤p)(p1:p<1000000)(D1 D2 O:ByteArray)(hD1:D1.size≤21)(hD2:D2.size≤21)(hOs:O.size≤300)
  (hO:zmN (⟨#[9,115,101,116,32,114,48,32,48,10,9,115,101,116,32,114,49,32,51,10,97,58,10,9,108,101,115,115,32,114,48,32,114,49,32,98,10,9,106,117,109,112,32,99,10,98,58,10,9,105,110,99,32,114,48,32,48,10,9,106,117,109,112,32,97,10,99,58,10]⟩:ByteArray) (⟨#[97,58,10,9,106,117,109,112,32,97,10,98,58,10]⟩:ByteArray) ((⟨#[9,115,101,116,32,114,48,32]⟩:ByteArray)++D1++(⟨#[10,9,108,111,97,100,32,114,49,32,114,48,10]⟩:ByteArray)) ((⟨#[9,115,101,116,32,114,48,32]⟩:ByteArray)++D2++(⟨#[10,9,115,116,111,114,101,32,114,48,32,114,49,10]⟩:ByteArray)) (⟨#[9,99,97,108,108,32,109,97,105,110,10]⟩:ByteArray) (⟨#[9,115,101,116,32,114,48,32,49,10,9,115,101,116,32,114,49,32,48,10,97,58,10,9,108,101,115,115,32,114,49,32,114,48,32,98,10,9,106,117,109,112,32,99,10,98,58,10,9,114,101,97,100,32,114,48,10,9,97,100,100,32,114,48,32,114,48,32,114,49,10,9,115,101,116,32,114,48,32,49,10,9,106,117,109,112,32,97,10,99,58,10]⟩:ByteArray) (⟨#[9,115,101,116,32,114,48,32,48,10,9,115,101,116,32,114,49,32,57,50,50,51,51,55,50,48,51,54,56,53,52,55,55,53,56,48,55,10,97,58,10,9,108,101,115,115,32,114,48,32,114,49,32,98,10,9,106,117,109,112,32,99,10,98,58,10,9,105,110,99,32,114,48,32,49,10,9,106,117,109,112,32,97,10,99,58,10]⟩:ByteArray) t=O)
  (TX:List (List Ln)→ByteArray) (hTX:∀ G,(⟨#[102,117,110,99,32,109,97,105,110,10]⟩:ByteArray)++O++(⟨#[9,115,116,111,112,10]⟩:ByteArray)++ba (zfg G)=TX G)
  (hcnt:∀ W,Below w.heap.size w W→Calls Tryz.prog 31 #[cv] W (zot W))
  (hp1:∀ W,Calls Tryz.prog 37 #[.int .i64 k,.int .i64 1000000] W fun e w'=>e=.returned (.int .i64 p)∧w'=W)
  (hp2:∀ W,Calls Tryz.prog 37 #[.int .i64 which,.int .i64 7] W fun e w'=>e=.returned (.int .i64 (t:Int))∧w'=W)
  (hd1:∀ W,Calls Tryz.prog 36 #[.int .i64 (16+p)] W fun e w'=>e=.returned (.string D1)∧Below W.heap.size W w')
  (hd2:∀ W,Calls Tryz.prog 36 #[.int .i64 (-1-p)] W fun e w'=>e=.returned (.string D2)∧Below W.heap.size W w')
  (hread:∀ G,Wrote G→¬G=[]→G.length≤18→zcg (TX G)=if 4000<(TX G).size∨300<(lines (TX G)).length then(6,0) else(0,0))
  (hno:∀ G,Wrote G→¬G=[]→G.length≤18→zcg (TX G)=(0,0)→VerdL ((lines (TX G)).map say) none) :
  Calls Tryz.prog 10 #[cv,.int .i64 which,.int .i64 k] w fun e w'=>e=.returned (.bool true)∧Below w.heap.size w w':=by
 have haw:=zuj w hw
 go_enter Tryz.func10,Tryz.ntmps10
 go_wp2_with(first
  | (go_at_call 30;(with_reducible refine haw.mono ?_);rintro e w1 ⟨rfl,hb1⟩;have hcn:=hcnt w1 hb1)
  | (go_at_call 31;(with_reducible refine hcn.mono ?_);rintro e w2 ⟨G,a,b,c,rfl,hG,hG0,hGl,hGs,hb2⟩;have hb2:=hb1.trans (hb2.mono hb1.size);have hT:=hTX G;have hR:=hread G hG hG0 hGl;have hN:=hno G hG hG0 hGl;have hsz:(TX G).size≤5500000:=(by rw [←hT];simp only [ByteArray.size_append];show 10+O.size+6+(ba (zfg G)).size≤5500000;omega);generalize TX G=TXT at hT hR hN hsz;clear hTX hread hno hcnt hcn;generalize ba (zfg G)=s at hGs hT ⊢)
  | (go_at_call 37;(first|(with_reducible refine(hp1 _).mono ?_)|(with_reducible refine(hp2 _).mono ?_));rintro e wx ⟨rfl,hwx⟩;subst hwx)
  | (go_at_call 36;(first|(with_reducible refine(hd1 _).mono ?_)|(with_reducible refine(hd2 _).mono ?_));rintro e wy ⟨rfl,hby⟩;have hb2:=hb2.trans (hby.mono hb2.size))
  | (rw [zxl,hO])
  | (go_at_call 26;refine Hid.out ?_))
 unfold Hid
 try rw [hT]
 have hX:∀ x,Below w.heap.size w (wy.alloc x):=fun x=>hb2.alloc hb2.size x
 have hck:∀ W,LibW W→Calls Tryz.prog 32 #[.string TXT] W fun e w'=>e=.returned (.bool true)∧Below W.heap.size W w':=fun W hW=>zop TXT W hW (by omega) hR
 have hf:=fun W=>zp3 TXT W (by omega)
 unfold zwP at hf
 have done:∀(er:Int) (W:World),Below w.heap.size w W→LibW W→(∀ W,LibW W→Calls Tryz.prog 26 #[.string TXT] W (ziR W 0 0 er 0))→Calls Tryz.prog 26 #[.string TXT] W (fun e w'=>e=.returned (.tuple #[.agg #[.int .i64 0,.int .i64 0],.int .i64 er,.int .i64 0])∧Below w.heap.size w w'):=fun er W hB hW h=>(h W hW).mono fun e w' hh=>⟨hh.1,hB.trans (hh.2.mono hB.size)⟩
 by_cases hlong:4000<TXT.size∨300<(lines TXT).length
 ·rw [if_pos hlong] at hR
  rw [decide_eq_false (fun x=>x hlong)] at hf
  have hvf:∀ W,LibW W→Calls Tryz.prog 26 #[.string TXT] W (ziR W 0 0 6 0):=(fun W hW=>zgG (.inl ⟨by rw [hR];decide,hR,rfl,rfl⟩) W hW (by omega))
  refine(done 6 _ (hX _) (hw.below (hX _)) hvf).mono ?_
  rintro e w4 ⟨rfl,hB4⟩
  dsimp only
  clear hvf hX done hN haw hp1 hp2 hd1 hd2 hlong hO
  go_wp2_with(first
   | (go_at_call 32;(try rw [hT]);refine Hid.out ?_))
  unfold Hid
  have hB5:∀ x,Below w.heap.size w (w4.alloc x):=fun x=>hB4.alloc hB4.size x
  refine(hck _ (hw.below (hB5 _))).mono ?_
  rintro e w5 ⟨rfl,hb5⟩
  dsimp only
  have hB6:=(hB5 _).trans (hb5.mono (hB5 _).size)
  clear hck
  go_wp2_with(first
   | (go_at_call 33;(try rw [hT]);(with_reducible refine(hf _).mono ?_);rintro e wz ⟨rfl,hwz⟩;subst hwz))
  go_ret
  exact⟨rfl,hB6⟩
 ·rw [if_neg hlong] at hR
  rw [decide_eq_true hlong] at hf
  have hvf:∀ W,LibW W→Calls Tryz.prog 26 #[.string TXT] W (ziR W 0 0 8 0):=(fun W hW=>zgG (.inr (.inl ⟨hR,hN hR,rfl,rfl,rfl,rfl⟩)) W hW (by omega))
  refine(done 8 _ (hX _) (hw.below (hX _)) hvf).mono ?_
  rintro e w4 ⟨rfl,hB4⟩
  dsimp only
  clear hvf hX done hN haw hp1 hp2 hd1 hd2 hlong hO
  go_wp2_with(first
   | (go_at_call 32;(try rw [hT]);refine Hid.out ?_))
  unfold Hid
  have hB5:∀ x,Below w.heap.size w (w4.alloc x):=fun x=>hB4.alloc hB4.size x
  refine(hck _ (hw.below (hB5 _))).mono ?_
  rintro e w5 ⟨rfl,hb5⟩
  dsimp only
  have hB6:=(hB5 _).trans (hb5.mono (hB5 _).size)
  clear hck
  go_wp2_with(first
   | (go_at_call 33;(try rw [hT]);(with_reducible refine(hf _).mono ?_);rintro e wz ⟨rfl,hwz⟩;subst hwz))
  go_ret
  exact⟨rfl,hB6⟩
theorem zjk(n:Int)(h:i64 n):(digL n).length≤21:=by
 obtain⟨h1,h2⟩:=h
 have z1:(decL n.natAbs).length≤20:=zdO n.natAbs (by omega)
 unfold digL
 split
 ·rw [List.length_cons];omega
 ·omega
theorem zuY(which k:Int)(hwh:i64 which)(hk:i64 k)(w:World)(hw:LibW w){cv:Value}{code:List Int}(hc:SlB w w.heap.size cv code)(hl:code.length≤9223372036854775807)(hnum:∀ x∈code,i64 x):
  Calls Tryz.prog 10 #[cv,.int .i64 which,.int .i64 k] w fun e w'=>e=.returned (.bool true)∧Below w.heap.size w w':=by
 have a0:0≤zgk which 7:=Int.emod_nonneg _ (by omega)
 have a1:zgk which 7<7:=Int.emod_lt_of_pos _ (by omega)
 have b0:0≤zgk k 1000000:=Int.emod_nonneg _ (by omega)
 have b1:zgk k 1000000<1000000:=Int.emod_lt_of_pos _ (by omega)
 have hp1:=fun W=>zh9 k 1000000 W (by omega) hk
 have hp2:=fun W=>zh9 which 7 W (by omega) hwh
 obtain⟨t,ht⟩:=Int.eq_ofNat_of_zero_le a0
 rw [ht] at hp2 a1
 generalize zgk k 1000000=p at hp1 b0 b1
 have j1:i64 (16+p):=⟨by omega,by omega⟩
 have j2:i64 (-1-p):=⟨by omega,by omega⟩
 have ht7:t<7:=by omega
 have hn0:-9223372036854775808≤(if t=3 then -1-p else 16+p):=by split <;> omega
 have hn1:(if t=3 then -1-p else 16+p)≤9223372036854775807:=by split <;> omega
 have hn2:t=2∨t=3→(if t=3 then -1-p else 16+p)<0∨15<(if t=3 then -1-p else 16+p):=fun _=>by split <;> omega
 have hdig:(if t=3 then digL (-1-p) else digL (16+p))=digL (if t=3 then -1-p else 16+p):=by split <;> rfl
 have hO:=zxm t ht7 (digL (16+p)) (digL (-1-p)) (ba (digL (16+p))) (ba (digL (-1-p))) rfl rfl
 rw [hdig] at hO
 generalize (if t=3 then -1-p else 16+p)=n at hn0 hn1 hn2 hO
 exact zAf cv which k w hw t ht7 p b0 b1 (ba (digL (16+p))) (ba (digL (-1-p))) (ba (oddB t (digL n))) (zjk _ j1) (zjk _ j2) (zxn t ht7 _ (zjk n ⟨hn0,hn1⟩)) hO
  (endT t n) (zxo t n) (fun W hB=>zoz (hc.mono hB) hl hnum) hp1 hp2 (fun W=>zdP _ j1 W) (fun W=>zdP _ j2 W)
  (fun G hG hG0 hGl=>zxk t n hn0 hn1 hG hG0 (by omega)) (fun G hG hG0 hGl hR=>zzU t ht7 n hn0 hn1 hn2 hG hG0 (by omega) hR)
end
section
open Go.ChangeShapes Go.WideShapes Go.ChangeAt Go.RowKit Sp
theorem zrL(H:Type)(enc:TypeId × Value→H)(W:World)(base:Nat)(args:Array Value)(ds gs:List (DataW H))(before:List MemPlace)
  (hval:∀(j:Nat) t v,Tryz.f10.params[j]?=some t→args[j]?=some v→Value.okWide Tryz.prog W .any base t v)
  (hW:DataW.Whole enc Tryz.prog Tryz.f10.params.toList Rows.endlessSpec.vars false W args.toList ds gs before) (hL:laidMetH Tryz.prog Rows.endlessRow.laid W) (hsh:W.ShapedOpen Tryz.prog) :
  Calls Tryz.prog 10 args W fun e W'=>∃ v,e=.returned v∧Rows.endlessSpec.post enc Tryz.prog Tryz.f10 false true false false W args v W':=by
 have hW':=hW
 obtain⟨p,q,hA0,hV,rfl,hfz,hnd⟩:=hW
 have hA:DataW.TrodAll enc Tryz.prog W 0 (fun _=>true) true Tryz.f10.params.toList args.toList ds p:=hA0
 rw [Tryz.params10] at hA hval
 obtain⟨v0,v1,v2,d0,d1,d2,p0,p1,p2,rfl,rfl,rfl,h0,h1,h2⟩:=trodAll_three hA
 obtain⟨rfl,rfl⟩:=trodVars_none hV
 obtain⟨co,ccap,code,rfl,hcv,_,c64,cmx,cback⟩:=zo0 (hval 0 59 v0 rfl rfl) h0
 obtain⟨n,rfl,rfl,rfl,wn⟩:=open_int Tryz.underlying3 (hval 1 3 v1 rfl rfl) h1
 obtain⟨k,rfl,rfl,rfl,wk⟩:=open_int Tryz.underlying3 (hval 2 3 v2 rfl rfl) h2
 clear hA0
 simp only [List.append_nil] at hW'
 refine(zuY n k (wf_i64 wn) (wf_i64 wk) W (zn8 hL hsh) hcv cmx c64).mono fun e W' ⟨he,hb⟩=>?_
 subst he
 refine⟨_,rfl,_,_,_,[],p0,[],hW',?_,?_,?_,hb.frame _,fun h=>by cases h⟩
 ·exact trodAll_mk1 (shut_bool Tryz.underlying4 _)
 ·have:=trodAll_mk3 (cback W' hb) (shut_int Tryz.underlying3 wn) (shut_int Tryz.underlying3 wk)
  simp only [List.append_nil] at this
  exact this
 ·rfl
theorem zkP(os:Os){H:Type}(enc:TypeId × Value→H):
  (OpenSpec.ofChange Rows.endlessSpec).preRow enc Tryz.prog Tryz.f10 Rows.endlessRow.domain false Rows.endlessRow.laid ((laidWorld os).forCall (fun _ _=>0) ⟨#[],#[.slice none 0 0,.int .i64 0,.int .i64 0],[]⟩).memory #[.slice none 0 0,.int .i64 0,.int .i64 0] :=
 OpenSpec.preRow_of_B rfl 8 (by kernel_rfl) (by kernel_rfl) (zwE os _)
theorem zxp(os:Os)(started:os.Started)(H:Type)(enc:TypeId × Value→H)(F:Stop.Interp):
  ReturnsInHanded {} Tryz.checked os 10 .any ((OpenSpec.ofChange Rows.endlessSpec).preRow enc Tryz.prog Tryz.f10 Rows.endlessRow.domain false Rows.endlessRow.laid) (((OpenSpec.ofChange Rows.endlessSpec).at F).post enc Tryz.prog Tryz.f10 false true false false):=by
 refine returnsInHanded_of_row (C:=Tryz.checked) (s:=OpenSpec.ofChange Rows.endlessSpec) Tryz.own started (by kernel_rfl) Tryz.func10
  (witness_row_atRef (enc:=enc) (C:=Tryz.checked) false (laidWorld os) #[.slice none 0 0,.int .i64 0,.int .i64 0] rfl (by kernel_rfl) (by kernel_rfl) (by kernel_rfl) (zkP os enc)) ?_
 intro W base args ds gs before hval hW x1 x2 x3 hL x4 x5
 exact zrL H enc W base args ds gs before hval hW hL x4
theorem zyZ:(Rows.endlessRow.inPlace == Tryz.pinned.checked.prog.inPlace 10)=true:=by kernel_rfl
theorem zza:(Rows.endlessRow.unfollowed == Tryz.pinned.checked.prog.unfollowed 10)=true:=by kernel_rfl
theorem zzb:(Rows.endlessRow.recurses == Tryz.pinned.checked.prog.recurses 10)=true:=by kernel_rfl
theorem zzc:(Rows.endlessRow.named == Tryz.pinned.checked.prog.varsNamed 10)=true:=by kernel_rfl
theorem zzd:joinedFacts Tryz.pinned.checked.prog 10 Tryz.f10 (OpenSpec.ofChange Rows.endlessSpec).bare Rows.endlessRow=true:=by
 unfold joinedFacts
 rw [zyZ,zza,zzb,zzc]
 kernel_rfl
theorem zzV:Rows.EndlessSaid :=
 OpenClaim.holds_of_cond 10 Tryz.f10 rfl rfl rfl rfl rfl rfl rfl ⟨rfl,rfl,rfl,rfl,rfl⟩ rfl rfl rfl rfl rfl (by kernel_rfl) Tryz.func10 zzd
  (of_decide_eq_true (by kernel_rfl)) (by unfold Func.isWrapper;first|(rw [if_pos (by decide +kernel)];kernel_rfl)|(rw [if_neg (by decide +kernel)];exact⟨rfl,rfl⟩))
  (fun os started H enc _ F=>by rw [OpenClaim.pre_eq_preRow];exact zxp os started H enc F)
theorem zze (f:FuncId) (fn:Func) (hf:Tryz.pinned.checked.prog.funcNamed "bounded/boundedkeep.Endless" = some f) (hfn:Tryz.pinned.checked.prog.funcs[f]?=some fn) :
  true=Tryz.pinned.checked.prog.looks []∧∀(j:Nat) t,fn.params[j]?=some t→Tryz.pinned.checked.prog.wantsStandIn t=false:=by
 obtain rfl:f=10:=Option.some.inj ((show Tryz.prog.funcNamed "bounded/boundedkeep.Endless" = some 10 by kernel_rfl).symm.trans hf) |>.symm
 obtain rfl:fn=Tryz.f10:=(Option.some.inj (Tryz.func10.symm.trans hfn)).symm
 refine⟨by kernel_rfl,fun j t ht=>?_⟩
 rw [Tryz.params10] at ht
 have hm:t=59∨t=3:=by simpa using Array.mem_of_getElem? ht
 rcases hm with rfl|rfl
 ·exact(show Tryz.prog.wantsStandIn 59=false by kernel_rfl)
 ·exact(show Tryz.prog.wantsStandIn 3=false by kernel_rfl)
theorem edcard:Rows.EndlessCardSaid :=
 Claim7.holds_tied_plain_at .later [] _ _ _ _ zzV (fun _ h=>by cases h) (by kernel_rfl) (fun _ h=>by cases h) endless_row_tie rfl ⟨rfl,rfl⟩ (by kernel_rfl) rfl zze (by kernel_rfl)
end
end Go.Proofs.YtfpgjkbjbbgciaaGreatDoor
