import Derived.Test.YtfpgjkbjbbgciaaGreatDoorMd52
set_option maxRecDepth 100000
set_option maxHeartbeats 8000000
namespace Go.Proofs.YtfpgjkbjbbgciaaGreatDoor
open Go.RowKit Sp
def zmq:ByteArray:=⟨#[102,117,110,99,32,102,10,98,97,99,107]⟩
def zj9:List Said:=(lines zmq).map say
theorem zjA:zbw zmq=(0,0):=by kernel_rfl
theorem zrc:zj9.length=2:=by kernel_rfl
theorem zwc:(zj9[0]?).map (·.kind)=some 102:=by kernel_rfl
theorem zwd:(zj9[1]?).map zew=some ⟨#[98,97,99,107]⟩:=by kernel_rfl
theorem zrd:cnt zj9 1=0:=by kernel_rfl
theorem zre{F:List FnM}(R:Right zj9 F):∃ ln,zat F=[(.back,ln)]:=by
 have key:∀ p (hp:p<(zat F).length),p=0∧(zat F)[p].1=.back:=fun p hp=>by
  rw [zdN] at hp
  obtain⟨k,f,m,it,hk,hm,rfl⟩:=zkg F p hp
  have h1:=zfU F 0 F k f hk m it hm
  rw [Nat.zero_add] at h1
  have h2:(zat F)[lenF (F.take k)+m]?=some (insM F k it,it.line):=h1
  obtain⟨j,hj,h5,hkey,hc,_⟩:=R.it_at hk hm
  have hj2:j=1:=by
   have hl:=zrc
   have h0:¬j=0:=fun e=>by
    subst e
    have:=zwc
    rw [List.getElem?_eq_getElem hj] at this
    simp only [Option.map_some,Option.some.injEq] at this
    omega
   omega
  subst hj2
  have hw:it.word=zew zj9[1]:=congrArg Key.word hkey
  have hb:=zwd
  rw [List.getElem?_eq_getElem hj,Option.map_some,Option.some.injEq] at hb
  refine⟨by rw [hc];exact zrd,?_⟩
  rw [(List.getElem?_eq_some_iff.1 h2).2]
  show insX it.word it.a it.b it.c it.n _ _=.back
  rw [hw,hb]
  exact zhY _ _ _ _ _ _
 have hs:=R.codeOk.some_
 have hl:(zat F).length=1:=by
  by_cases h:1<(zat F).length
  ·have:=(key 1 h).1;omega
  ·omega
 obtain⟨q,hq⟩:=List.length_eq_one_iff.1 hl
 have:=(key 0 hs).2
 simp only [hq] at this
 refine⟨q.2,?_⟩
 rw [hq]
 have e:q.1=.back:=by simpa using this
 rw [←e]
theorem zrf{ln:Int}:Verd [(.back,ln)] (some (1,1)):=by
 have ht:TakeD [kn0] kn0 []:=⟨.one (List.Perm.refl _) (fun y hy=>by cases hy),fun y hy=>by cases hy⟩
 refine⟨⟨[],1,rsk0.see kn0,1,1⟩,.step .zero ⟨kn0,[],[],0,by simp,by show 0<500000;omega,by show 1≤1000;omega,ht,by show ¬(0:Int)=100000;omega,?_,rfl,rfl,List.Perm.refl _,rfl,rfl,rfl⟩,rfl,rfl,rfl⟩
 show rsk0.endless kn0=some (rsk0.see kn0)
 exact if_pos rfl
theorem znH:VerdL ((lines zmq).map say) (some (1,1)):=by
 obtain⟨F,R⟩:=zen zmq zjA
 obtain⟨ln,e⟩:=zre R
 exact⟨F,R,by rw [e];exact zrf⟩
theorem zwe(w:World)(hw:LibW w):Calls Tryz.prog 22 #[] w fun e w'=>e=.returned (.bool true)∧Below w.heap.size w w':=by
 have hv:=zi4 w hw (s:=zmq) (by show 11≤1048576;omega) zjA znH (by omega) (by omega) (by omega) (by omega)
 have hv2:Calls Tryz.prog 23 #[.string ⟨#[102,117,110,99,32,102,10,98,97,99,107]⟩] w fun e w'=>∃ v,e=.returned (.tuple #[.agg #[.int .i64 1,.int .i64 1],v,.bool true,.bool true])∧Below w.heap.size w w':=hv.mono fun e w' ⟨v,h1,h2,_⟩=>⟨v,h1,h2⟩
 clear hv
 go_enter Tryz.func22,Tryz.ntmps22
 go_wp2_with(go_at_call 23;(with_reducible refine hv2.mono ?_);rintro e w1 ⟨v,rfl,hb1⟩)
 go_ret
 exact⟨rfl,hb1.alloc hb1.size _⟩
theorem RunS.out{s:ByteArray}{inp:List Int}{T:Told}{er ln:Int}(h:RunS s inp T)(hv:(¬zbw s=(0,0)∧zbw s=(er,ln))∨(zbw s=(0,0)∧VerdL ((lines s).map say) none∧er=8∧ln=0)):T=⟨zdj,0,er,ln⟩:=by
 rcases h with ⟨n,rfl⟩|⟨r,v,rfl⟩|⟨r,bs,bf,v,rfl⟩ <;> rcases hv with ⟨n',e⟩|⟨r',v',e1,e2⟩
 ·rw [e]
 ·exact absurd r' n
 ·exact absurd r n'
 ·rw [e1,e2]
 ·exact absurd r n'
 ·have:=v.unique v';cases this
theorem RunS.inn{s:ByteArray}{inp:List Int}{T:Told}{bs bf:Int}(h:RunS s inp T)(hR:zbw s=(0,0))(hv:VerdL ((lines s).map say) (some (bs,bf))):T=⟨ranL ((lines s).map say) inp bs,(ranL ((lines s).map say) inp bs).line,0,0⟩:=by
 rcases h with ⟨n,rfl⟩|⟨r,v,rfl⟩|⟨r,bs',bf',v,rfl⟩
 ·exact absurd hR n
 ·have:=v.unique hv;cases this
 ·have:=v.unique hv;cases this;rfl
theorem zwi(L:List Said)(inp:List Int)(bs:Int)(h:bs≤100000):(ranL L inp bs).out.length≤1048577:=by
 have:=zv1 L bs.toNat (ze4 L inp)
 have e:(ze4 L inp).out.length=0:=rfl
 show(runS _ _ _).out.length≤_
 omega
theorem rlaw(s:ByteArray)(w:World)(hw:LibW w)(ao:Option Addr)(icap:Nat)(inp:List Int)(hiv:SlB w w.heap.size (.slice ao inp.length icap) inp)(hin:inp.length≤1048576)(T:Told)(hout:T.m.out.length≤1048577)(bs bf:Int)(v0:Option Nat)(inB:Bool)(L:List Said)
  (hver:∀ W,LibW W→Calls Tryz.prog 23 #[.string s] W (zoS W bs bf v0 inB L))
  (hrun:∀ W ao icap,LibW W→SlB W W.heap.size (.slice ao inp.length icap) inp→Calls Tryz.prog 25 #[.string s,.slice ao inp.length icap] W (ze6 W T))
  (hvf:∀ W,LibW W→Calls Tryz.prog 26 #[.string s] W (zmo W bs bf T.err T.line))
  (hcase:(inB=false∧T.m=zdj∧T.at_=0)∨(inB=true∧v0=some 0∧T.at_=T.m.line∧∀ W g cap,LinesIn W g L→SlB W W.heap.size (.slice ao inp.length icap) inp→Calls Tryz.prog 24 #[.slice (some ⟨g,0,none⟩) L.length cap,.slice ao inp.length icap,.int .i64 bs] W (zgy W T.m))) :
  Calls Tryz.prog 6 #[.string s,.slice ao inp.length icap] w fun e w'=>e=.returned (.bool true)∧Below w.heap.size w w':=by
 have hv1:=hver w hw
 go_enter Tryz.func6,Tryz.ntmps6
 go_wp2_with(first
  | (go_at_call 23;(with_reducible refine hv1.mono ?_);rintro e w1 ⟨v,rfl,hb1,hL1⟩;have hal:Below w1.heap.size w1 (w1.alloc (.cells #[.int .i64 bs,.int .i64 bf] 42)):=(Below.refl _ _).alloc (Nat.le_refl _) _;have hB1:=hb1.trans (hal.mono hb1.size);have hl1:=zon _ _ inp (hiv.slN.below hB1) hin)
  | (go_at_call 17;refine Hid.out ?_))
 unfold Hid
 have c1:(w1.alloc (.cells #[.int .i64 bs,.int .i64 bf] 42)).cell? ⟨w1.heap.size,0,none⟩=some (.int .i64 bs):=World.cell?_alloc_new (w:=w1) #[.int .i64 bs,.int .i64 bf] 42 0
 have hs1:(w1.alloc (.cells #[.int .i64 bs,.int .i64 bf] 42)).heap.size=w1.heap.size+1:=by simp
 generalize hW1:w1.alloc (.cells #[.int .i64 bs,.int .i64 bf] 42)=W1 at hal hB1 hl1 c1 hs1
 clear hW1
 refine hl1.mono ?_
 rintro e w2 ⟨u,rfl,hrow1,hb2⟩
 dsimp only
 obtain⟨g,cap,rfl,hg,hgl,hcap⟩:=zxo hrow1 (by omega)
 have hcap2:inp.length≤cap:=by omega
 have hB2:=hB1.trans (hb2.mono hB1.size)
 have hr2:=hrun w2 _ cap (hw.below hB2) (zqm hrow1 hgl hcap)
 go_wp2_with(first
  | (go_at_call 25;refine hr2.mono ?_;rintro e w3 ⟨oo,no,co,rfl,hrow3,hb3⟩;dsimp only;refine Hid.out ?_))
 unfold Hid
 have hl3:=zaS T.m (.slice oo no co) T.at_
 have h13:=zbg T.m oo no co T.at_
 have hN3:=SlN.of_row (_n:=0) hrow3
 generalize hds:zav T.m (.slice oo no co) T.at_=ds at hl3 h13
 have hi3:=zbU ds hl3
 have hid3:(Tryz.prog.info? 34).map (·.size)=some ds.length:=by rw [hl3];exact Tryz.info34
 have ht3:=zdq (W1:=w3) rfl ds hl3
 have hB4:Below w3.heap.size w3 ((w3.alloc Z34).setCells w3.heap.size 0 ds.toArray.toList):=zar _ 0 ((Below.refl w3.heap.size w3).alloc (Nat.le_refl _) _) (Nat.le_refl _)
 have hr4:((w3.alloc Z34).setCells w3.heap.size 0 ds.toArray.toList).rangeAt w3.heap.size 0 ds:=by rw [show ds.toArray.toList=ds by simp];exact World.rangeAt_setCells_same _ _ _ _ (by rw [show ds.length=ds.toArray.size by simp];exact ht3)
 have hs4:((w3.alloc Z34).setCells w3.heap.size 0 ds.toArray.toList).heap.size=w3.heap.size+1:=by rw [zfS];simp
 have hB3:=hB2.trans (hb3.mono hB2.size)
 have hbw4:=hB3.trans (hB4.mono hB3.size)
 have hlent:=zon _ _ inp (hiv.slN.below hbw4) hin
 have hN1:=((SlN.of_row (_n:=0) (by simpa using hrow1):SlN w2 (.slice (some ⟨g,0,none⟩) (inp.length+1) cap) (inp++[-77])).below hb3).below hB4
 have hN4:=hN3.below hB4
 have h24:=hb2.trans ((hb3.mono hb2.size).trans (hB4.mono (Nat.le_trans hb2.size hb3.size)))
 generalize hw4:(w3.alloc Z34).setCells w3.heap.size 0 ds.toArray.toList=w4 at hB4 hr4 hs4 hbw4 hlent hN1 hN4 h24
 clear hl1 hrow1 hr2 hv1
 repeat(first
  | (refine wpList_store_mid rfl 34 _ _ rfl w3.heap.size 0 ds.toArray rfl rfl ht3 hi3 h13 ?_;rw [hw4])
  | (go_at_call 17;refine hlent.mono ?_;rintro e w5 ⟨u2,rfl,hrow5,hb5⟩;dsimp only)
  | (go_at_call 19;refine(zgM w5 _ _ (inp++[-77]) (hN1.below hb5) (SlN.of_row (_n:=0) (by simpa using hrow5)) (by simp;omega)).mono ?_;rintro e w6 ⟨rfl,k6,hw6⟩;dsimp only;refine Hid.out ?_)
  | go_values|go_skip|go_guarded|go_step|go_upon|go_back)
 unfold Hid
 have hb56:Below w5.heap.size w5 w6:=by rw [hw6];exact zaN _ k6
 have hb46:Below w4.heap.size w4 w6:=hb5.trans (hb56.mono hb5.size)
 have hbw6:Below w.heap.size w w6:=hbw4.trans (hb46.mono hbw4.size)
 have h26:=h24.trans (hb46.mono h24.size)
 have hvf6:=hvf w6 (hw.below hbw6)
 clear hw6 hlent hN1 hrow3 ht3 hi3 hrun hvf hver hrow5
 go_wp2_with(first
  | (go_at_call 26;refine hvf6.mono ?_;rintro e w7 ⟨rfl,hb7⟩)
  | (go_at_call 22;refine Hid.out ?_))
 unfold Hid
 have hal7:Below w7.heap.size w7 (w7.alloc (.cells #[.int .i64 bs,.int .i64 bf] 42)):=(Below.refl _ _).alloc (Nat.le_refl _) _
 have hb67:=hb7.trans (hal7.mono hb7.size)
 have hbw7:=hbw6.trans (hb67.mono hbw6.size)
 have hlets:=zwe _ (hw.below hbw7)
 generalize hW7:w7.alloc (.cells #[.int .i64 bs,.int .i64 bf] 42)=W7 at hal7 hb67 hbw7 hlets
 clear hW7
 refine hlets.mono ?_
 rintro e w8 ⟨rfl,hb8⟩
 dsimp only
 have hb68:=hb67.trans (hb8.mono hb67.size)
 have hbw8:=hbw6.trans (hb68.mono hbw6.size)
 have hb48:=hb46.trans (hb68.mono hb46.size)
 have h28:=h26.trans (hb68.mono h26.size)
 have hr8:=zfx hr4 hb48 (by omega)
 have hN8:=hN4.below hb48
 have c8:=zaC h28 c1
 have hu34:Tryz.prog.underlying 34=some (.struct _):=Tryz.underlying34
 clear hlets hvf6
 rcases hcase with ⟨rfl,hz1,hz2⟩|⟨rfl,hv0,hln,htr⟩
 ·go_wp2_with(first
   | (refine wpList_load_mid rfl 34 _ rfl w3.heap.size 0 rfl ds _ hr8 hu34 rfl hid3 ?_)
   | (go_at_call 21;refine Hid.out ?_))
  unfold Hid
  have hss:=zjm w8 T.m oo none no 0 co 0 T.at_ hN8 (by rw [hz1];exact⟨none,0,rfl,fun h=>absurd h (Nat.lt_irrefl 0)⟩) hout
  rw [hds,show zav T.m (.slice none 0 0) T.at_=zav zdj (.slice none 0 0) 0 by rw [hz1,hz2],zyl] at hss
  refine hss.mono ?_
  rintro e w9 ⟨rfl,hb9⟩
  dsimp only
  clear hss
  go_wp2
  go_ret
  exact⟨rfl,hbw8.trans (hb9.mono hbw8.size)⟩
 ·obtain⟨g1,cap1,rfl,hLn,_⟩:=hL1 hv0
  have ht8:=htr w8 g1 cap1 (hLn.below (hal.trans (h28.mono hal.size))) (hiv.mono hbw8)
  go_wp2_with(first
   | (go_at_call 24;refine Hid.out ?_))
  unfold Hid
  refine ht8.mono ?_
  rintro e w9 ⟨o2,n2,c2,rfl,hrow9,hb9⟩
  dsimp only
  rw [←hln]
  have hl6:=zaS T.m (.slice o2 n2 c2) T.at_
  have h16:=zbg T.m o2 n2 c2 T.at_
  have hN9:=SlN.of_row (_n:=0) hrow9
  generalize hds2:zav T.m (.slice o2 n2 c2) T.at_=ds2 at hl6 h16
  have hi6:=zbU ds2 hl6
  have hid6:(Tryz.prog.info? 34).map (·.size)=some ds2.length:=by rw [hl6];exact Tryz.info34
  have ht6:=zdq (W1:=w9) rfl ds2 hl6
  have hB10:Below w9.heap.size w9 ((w9.alloc Z34).setCells w9.heap.size 0 ds2.toArray.toList):=zar _ 0 ((Below.refl w9.heap.size w9).alloc (Nat.le_refl _) _) (Nat.le_refl _)
  have hr10b:((w9.alloc Z34).setCells w9.heap.size 0 ds2.toArray.toList).rangeAt w9.heap.size 0 ds2:=by rw [show ds2.toArray.toList=ds2 by simp];exact World.rangeAt_setCells_same _ _ _ _ (by rw [show ds2.length=ds2.toArray.size by simp];exact ht6)
  have hb810:=hb9.trans (hB10.mono hb9.size)
  have hr10:=zfx hr8 hb810 (by have:=hb48.size;omega)
  have hss:=zjm _ T.m oo o2 no n2 co c2 T.at_ (hN8.below hb810) (hN9.below hB10) hout
  rw [hds,hds2] at hss
  have hbw10:=hbw8.trans (hb810.mono hbw8.size)
  generalize hw10:(w9.alloc Z34).setCells w9.heap.size 0 ds2.toArray.toList=w10 at hB10 hr10 hr10b hb810 hss hbw10
  clear ht8 htr
  repeat(first
   | (refine wpList_store_mid rfl 34 _ _ rfl w9.heap.size 0 ds2.toArray rfl rfl ht6 hi6 h16 ?_;rw [hw10])
   | (refine wpList_load_mid rfl 34 _ rfl w3.heap.size 0 rfl ds _ hr10 hu34 rfl hid3 ?_)
   | (refine wpList_load_mid rfl 34 _ rfl w9.heap.size 0 rfl ds2 _ hr10b hu34 rfl hid6 ?_)
   | (go_at_call 21;refine hss.mono ?_;rintro e w11 ⟨rfl,hb11⟩;dsimp only)
   | go_values|go_skip|go_guarded|go_step|go_upon|go_back)
  go_ret
  exact⟨rfl,hbw10.trans (hb11.mono hbw10.size)⟩
theorem zwj(s:ByteArray)(w:World)(hw:LibW w)(ao:Option Addr)(icap:Nat)(inp:List Int)(hs:s.size≤1048576)(hiv:SlB w w.heap.size (.slice ao inp.length icap) inp)(hin:inp.length≤1048576):
  Calls Tryz.prog 6 #[.string s,.slice ao inp.length icap] w fun e w'=>e=.returned (.bool true)∧Below w.heap.size w w':=by
 obtain⟨bs,bf,er,ln,hv⟩:=zrb s
 have hvf:=fun W (hW:LibW W)=>zfd hv W hW (Nat.le_trans hs (by decide))
 have hrun:=fun W ao icap (hW:LibW W) (h:SlB W W.heap.size (.slice ao inp.length icap) inp)=>ztX s W hW (Nat.le_trans hs (by decide)) ao icap inp h (Nat.le_trans hin (by decide))
 rcases hv with ⟨hn,hr,rfl,rfl⟩|⟨hR,hv,rfl,rfl,rfl,rfl⟩|⟨hR,hv,rfl,rfl⟩
 ·refine rlaw s w hw ao icap inp hiv hin ⟨zdj,0,er,ln⟩ (by simp [zdj]) 0 0 none false ((lines s).map say) (fun W hW=>zmp W hW hs hn) (fun W a c hW h=>(hrun W a c hW h).mono ?_) hvf (.inl ⟨rfl,rfl,rfl⟩)
  rintro e w' ⟨T,hT,hp⟩
  rw [hT.out (.inl ⟨hn,hr⟩)] at hp
  exact hp
 ·refine rlaw s w hw ao icap inp hiv hin ⟨zdj,0,8,0⟩ (by simp [zdj]) 0 0 none false ((lines s).map say) (fun W hW=>znG W hW hs hR hv) (fun W a c hW h=>(hrun W a c hW h).mono ?_) hvf (.inl ⟨rfl,rfl,rfl⟩)
  rintro e w' ⟨T,hT,hp⟩
  rw [hT.out (.inr ⟨hR,hv,rfl,rfl⟩)] at hp
  exact hp
 ·obtain⟨b1,b2,f1,f2⟩:=hv.bound
  refine rlaw s w hw ao icap inp hiv hin ⟨ranL ((lines s).map say) inp bs,(ranL ((lines s).map say) inp bs).line,0,0⟩ (zwi _ _ _ b2) bs bf (some 0) true ((lines s).map say) (fun W hW=>zi4 W hW hs hR hv b1 b2 f1 f2) (fun W a c hW h=>(hrun W a c hW h).mono ?_) hvf (.inr ⟨rfl,rfl,rfl,fun W g cap hL h=>?_⟩)
  ·rintro e w' ⟨T,hT,hp⟩
   rw [hT.inn hR hv] at hp
   exact hp
  ·have:=zpZ W g cap bs.toNat icap ao ((lines s).map say) inp (zmQ s hR) hL h hin (by omega)
   rwa [show((bs.toNat:Nat):Int)=bs by omega] at this
end Go.Proofs.YtfpgjkbjbbgciaaGreatDoor
namespace Go.Proofs.YtfpgjkbjbbgciaaGreatDoor
open Go.ChangeShapes Go.WideShapes Go.ChangeAt Go.RowKit Sp
open Go.ChangeMaps (open_string shut_string)
theorem ztY(H:Type)(enc:TypeId × Value→H)(W:World)(base:Nat)(args:Array Value)(ds gs:List (DataW H))(before:List MemPlace)
  (hval:∀(j:Nat) t v,Tryz.f6.params[j]?=some t→args[j]?=some v→Value.okWide Tryz.prog W .any base t v)
  (hW:DataW.Whole enc Tryz.prog Tryz.f6.params.toList Rows.runsSpec.vars false W args.toList ds gs before) (hbulk:Rows.uptoSmall H (ds++gs)=true) (hL:laidMetH Tryz.prog Rows.runsUptoRow.laid W) (hsh:W.ShapedOpen Tryz.prog) :
  Calls Tryz.prog 6 args W fun e W'=>∃ v,e=.returned v∧Rows.runsSpec.post enc Tryz.prog Tryz.f6 false true false false W args v W':=by
 have hW':=hW
 obtain⟨p,q,hA0,hV,rfl,hfz,hnd⟩:=hW
 have hA:DataW.TrodAll enc Tryz.prog W 0 (fun _=>true) true Tryz.f6.params.toList args.toList ds p:=hA0
 rw [Tryz.params6] at hA hval
 obtain⟨v0,v1,d0,d1,p0,p1,rfl,rfl,rfl,h0,h1⟩:=trodAll_two hA
 obtain⟨rfl,rfl⟩:=trodVars_none hV
 obtain⟨s,rfl,rfl,rfl,ws⟩:=open_string Tryz.underlying9 (hval 0 9 v0 rfl rfl) h0
 obtain⟨ao,icap,inp,rfl,hiv,hbk,_,_,hback⟩:=znI (hval 1 29 v1 rfl rfl) h1
 have hsz:s.size≤1048576∧inp.length≤1048576:=by
  have h:=of_decide_eq_true hbulk
  simp only [List.append_nil,Rows.uptoBulkAll,Rows.uptoBulk,Array.length_toList] at h
  have e:s.size=s.data.size:=rfl
  omega
 clear hA0
 simp only [List.append_nil] at hW'
 refine(zwj s W (znj hL hsh) ao icap inp hsz.1 hiv hsz.2).mono fun e W' ⟨he,hb⟩=>?_
 subst he
 refine⟨_,rfl,_,_,_,[],[]++p1,[],hW',?_,?_,?_,hb.frame _,fun h=>by cases h⟩
 ·exact trodAll_mk1 (shut_bool Tryz.underlying4 _)
 ·exact trodAll_mk2 (shut_string Tryz.underlying9 ws) (hback W' hb)
 ·rfl
theorem zmr(os:Os){H:Type}(enc:TypeId × Value→H):
  (Rows.OpenSpec.upto Rows.runsSpec).preRow enc Tryz.prog Tryz.f6 Rows.runsUptoRow.domain false Rows.runsUptoRow.laid ((laidWorld os).forCall (fun _ _=>0) ⟨#[],#[.string ⟨#[]⟩,.slice none 0 0],[]⟩).memory #[.string ⟨#[]⟩,.slice none 0 0]:=by
 have hw:(DataW.whole enc Tryz.prog ((laidWorld os).forCall (fun _ _=>0) ⟨#[],#[.string ⟨#[]⟩,.slice none 0 0],[]⟩).memory Tryz.f6.params.toList Rows.runsSpec.vars false #[Value.string ⟨#[]⟩,.slice none 0 0].toList 8).map (fun x=>(x.1,x.2.1)) =
   some ([.lit (.string []),.nil],[]):=by kernel_rfl
 obtain⟨⟨x1,x2,x3⟩,hx,hx1⟩:=Option.map_eq_some_iff.1 hw
 simp only [Prod.mk.injEq] at hx1
 obtain⟨rfl,rfl⟩:=hx1
 exact OpenSpec.preRow_of_cond 8 hx (by kernel_rfl) (fun k hk=>by cases hk;kernel_rfl) (by kernel_rfl) (zuO os _)
theorem znJ(os:Os)(started:os.Started)(H:Type)(enc:TypeId × Value→H)(F:Stop.Interp):
  ReturnsInHanded {} Tryz.checked os 6 .any ((Rows.OpenSpec.upto Rows.runsSpec).preRow enc Tryz.prog Tryz.f6 Rows.runsUptoRow.domain false Rows.runsUptoRow.laid) (((Rows.OpenSpec.upto Rows.runsSpec).at F).post enc Tryz.prog Tryz.f6 false true false false):=by
 refine returnsInHanded_of_row (C:=Tryz.checked) (s:=Rows.OpenSpec.upto Rows.runsSpec) Tryz.own started (by kernel_rfl) Tryz.func6
  (witness_row_atRef (enc:=enc) (C:=Tryz.checked) false (laidWorld os) #[.string ⟨#[]⟩,.slice none 0 0] rfl (by kernel_rfl) (by kernel_rfl) (by kernel_rfl) (zmr os enc)) ?_
 intro W base args ds gs before hval hW x1 x2 x3 hL x4 x5
 exact ztY H enc W base args ds gs before hval hW (x2 _ rfl) hL x4
theorem zy0:(Rows.runsUptoRow.inPlace == Tryz.pinned.checked.prog.inPlace 6)=true:=by kernel_rfl
theorem zy1:(Rows.runsUptoRow.unfollowed == Tryz.pinned.checked.prog.unfollowed 6)=true:=by kernel_rfl
theorem zy2:(Rows.runsUptoRow.recurses == Tryz.pinned.checked.prog.recurses 6)=true:=by kernel_rfl
theorem zy3:(Rows.runsUptoRow.named == Tryz.pinned.checked.prog.varsNamed 6)=true:=by kernel_rfl
theorem zy4:joinedFacts Tryz.pinned.checked.prog 6 Tryz.f6 (Rows.OpenSpec.upto Rows.runsSpec).bare Rows.runsUptoRow=true:=by
 unfold joinedFacts
 rw [zy0,zy1,zy2,zy3]
 kernel_rfl
theorem ztZ:Rows.RunsUptoSaid :=
 OpenClaim.holds_of_cond 6 Tryz.f6 rfl rfl rfl rfl rfl rfl rfl ⟨rfl,rfl,rfl,rfl,rfl⟩ rfl rfl rfl rfl rfl (by kernel_rfl) Tryz.func6 zy4
  (of_decide_eq_true (by kernel_rfl)) (by unfold Func.isWrapper;first|(rw [if_pos (by decide +kernel)];kernel_rfl)|(rw [if_neg (by decide +kernel)];exact⟨rfl,rfl⟩))
  (fun os started H enc _ F=>by rw [OpenClaim.pre_eq_preRow];exact znJ os started H enc F)
theorem zy5 (f:FuncId) (fn:Func) (hf:Tryz.pinned.checked.prog.funcNamed "bounded/boundedlaw.Runs" = some f) (hfn:Tryz.pinned.checked.prog.funcs[f]?=some fn) :
  true=Tryz.pinned.checked.prog.looks []∧∀(j:Nat) t,fn.params[j]?=some t→Tryz.pinned.checked.prog.wantsStandIn t=false:=by
 obtain rfl:f=6:=Option.some.inj ((show Tryz.prog.funcNamed "bounded/boundedlaw.Runs" = some 6 by kernel_rfl).symm.trans hf) |>.symm
 obtain rfl:fn=Tryz.f6:=(Option.some.inj (Tryz.func6.symm.trans hfn)).symm
 refine⟨by kernel_rfl,fun j t ht=>?_⟩
 rw [Tryz.params6] at ht
 have hm:t=9∨t=29:=by simpa using Array.mem_of_getElem? ht
 rcases hm with rfl|rfl
 ·exact(show Tryz.prog.wantsStandIn 9=false by kernel_rfl)
 ·exact(show Tryz.prog.wantsStandIn 29=false by kernel_rfl)
theorem rcardUpto:Rows.RunsUptoCardSaid :=
 Claim7.holds_tied_plain_at .later [] _ _ _ _ ztZ (fun _ h=>by cases h) (by kernel_rfl) (fun _ h=>by cases h) runsUpto_row_tie rfl ⟨rfl,rfl⟩ (by kernel_rfl) rfl zy5 (by kernel_rfl)
end Go.Proofs.YtfpgjkbjbbgciaaGreatDoor
