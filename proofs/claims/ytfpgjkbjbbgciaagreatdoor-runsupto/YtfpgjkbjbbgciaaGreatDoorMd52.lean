import Derived.Test.YtfpgjkbjbbgciaaGreatDoorMd50
import Derived.Test.YtfpgjkbjbbgciaaGreatDoorMd51
set_option maxRecDepth 100000
set_option maxHeartbeats 8000000
namespace Go.Proofs.YtfpgjkbjbbgciaaGreatDoor
open Go.RowKit Sp
theorem znE(W:List Kn)(h:W≠[]):∃ k ys,(k :: ys).Perm W∧∀ y∈ys,keyK k≤keyK y:=by
 induction W with
 | nil=>exact absurd rfl h
 | cons a r ih =>
  by_cases hr:r=[]
  ·subst hr
   exact⟨a,[],List.Perm.refl _,fun y hy=>by cases hy⟩
  ·obtain⟨k,ys,hp,hl⟩:=ih hr
   by_cases hle:keyK a≤keyK k
   ·refine⟨a,r,List.Perm.refl _,fun y hy=>?_⟩
    rcases List.mem_cons.1 (hp.mem_iff.2 hy) with e|e
    ·rw [e];exact hle
    ·have:=hl y e;omega
   ·refine⟨k,a :: ys,(List.Perm.swap a k ys).trans (List.Perm.cons a hp),fun y hy=>?_⟩
    rcases List.mem_cons.1 hy with e|e
    ·rw [e];omega
    ·exact hl y e
theorem zqZ{W:List Kn}(n:Nat){k:Kn}{ys:List Kn}(h:TakeR W k ys)(hn:ys.length≤n):∃ k' ys',TakeD W k' ys':=by
 induction n generalizing k ys with
 | zero =>
  have e:ys=[]:=List.length_eq_zero_iff.1 (by omega)
  exact⟨k,ys,h,fun y hy=>by rw [e] at hy;cases hy⟩
 | succ n ih =>
  by_cases hm:∃ y∈ys,Meet y k
  ·obtain⟨y,hy,hm⟩:=hm
   obtain⟨a,b,rfl⟩:=List.append_of_mem hy
   refine ih (.more h (List.perm_middle (l₁:=a) (a:=y) (l₂:=b)).symm hm) ?_
   simp only [List.length_append,List.length_cons] at hn ⊢
   omega
  ·exact⟨k,ys,h,fun y hy hM=>hm ⟨y,hy,hM⟩⟩
theorem zra{C:List (Ins × Int)}(S:CodeSure C)(n:Nat){G:Gs}(h:Reach C G)(hn:500000-G.looks≤n):∃ v,Verd C v:=by
 induction n generalizing G with
 | zero =>
  by_cases hW:G.W=[]
  ·exact⟨some (G.bs,G.bf),G,h,hW,rfl,rfl⟩
  ·exact⟨none,G,h,hW,.inl (by omega)⟩
 | succ n ih =>
  by_cases hW:G.W=[]
  ·exact⟨some (G.bs,G.bf),G,h,hW,rfl,rfl⟩
  ·by_cases h1:500000≤G.looks
   ·exact⟨none,G,h,hW,.inl h1⟩
   ·by_cases h2:1000<G.W.length
    ·exact⟨none,G,h,hW,.inr (.inl h2)⟩
    ·obtain⟨k0,ys0,hp0,hl0⟩:=znE G.W hW
     obtain⟨k,ys,ht⟩:=zqZ ys0.length (.one hp0 hl0) (Nat.le_refl _)
     have ok:=(h.t S).ok
     obtain⟨K,_,_,_⟩:=ht.1.kn S.ok.few ok.kn
     obtain⟨p,hpn,hpl⟩:=K.next
     by_cases h3:k.steps=100000
     ·exact⟨none,G,h,hW,.inr (.inr ⟨k,ys,ht,.inl h3⟩)⟩
     ·cases hR:G.R.endless k with
      | none=>exact⟨none,G,h,hW,.inr (.inr ⟨k,ys,ht,.inr (.inl hR)⟩)⟩
      | some R' =>
       cases hL:za1 C[p].1 k with
       | none=>exact⟨none,G,h,hW,.inr (.inr ⟨k,ys,ht,.inr (.inr ⟨p,hpl,hpn,hL⟩)⟩)⟩
       | some ks =>
        exact ih (G:=⟨ys++ks,G.looks+1,R',k.steps+1,max G.bf ((k.behind.length:Int)+1)⟩) (.step h ⟨k,ys,ks,p,hpl,by omega,by omega,ht,h3,hR,hpn,hL,List.Perm.refl _,rfl,rfl,rfl⟩) (by show 500000-(G.looks+1)≤n;omega)
theorem zf7{L:List Said}{F:List FnM}(R:Right L F):∃ v,VerdL L v:=by
 obtain⟨v,hv⟩:=zra R.sure 500000 (.zero) (by omega)
 exact⟨v,F,R,hv⟩
def toIt(k:Key):It:=⟨k.sort,k.line,k.word,k.nm,k.a,k.b,k.c,k.n⟩
def zxJ(f:Fn):FnM:=⟨f.name,f.line,f.body.map toIt,undef,0⟩
theorem zwa(l:List Fn):(l.map zxJ).map FnM.fn=l:=by
 rw [List.map_map]
 have:(FnM.fn∘zxJ)=id:=funext fun f=>by
  show(⟨f.name,f.line,(f.body.map toIt).map It.key⟩:Fn)=f
  rw [List.map_map,show(It.key∘toIt)=id from funext fun k=>rfl,List.map_id]
 rw [this,List.map_id]
theorem zwb(F:List Fn)(k:Key):F.length≤(addK F k).length:=by
 unfold addK
 split
 ·rw [List.length_append];omega
 ·cases h:F.getLast? with
  | none=>exact Nat.le_refl _
  | some f =>
   have:F≠[]:=fun e=>by rw [e] at h;cases h
   simp only [List.length_append,List.length_dropLast,List.length_singleton]
   have:=List.length_pos_iff.2 this
   omega
theorem ziJ(K:List Key)(F:List Fn):F.length≤(K.foldl addK F).length:=by
 induction K generalizing F with
 | nil=>exact Nat.le_refl _
 | cons k r ih=>exact Nat.le_trans (zwb F k) (ih _)
theorem zen(s:ByteArray)(h:zbw s=(0,0)):∃ F,Right ((lines s).map say) F:=by
 have hgood:=zmQ s h
 unfold zbw at h
 by_cases hf:4000<s.size∨300<(lines s).length
 ·rw [if_pos hf] at h;exact absurd (congrArg Prod.fst h) (by decide)
 ·rw [if_neg hf] at h
  by_cases hok:∀ x∈lines s,(say x).ok=true
  ·rw [zeS _ hok 0,zeR _ hok] at h
   have hka:=zjM (lines s)
   generalize zbe (lines s) (lines s).length=K at h hka
   cases K with
   | nil=>exact absurd (congrArg Prod.fst h) (by decide)
   | cons k r =>
    unfold sayK at h
    dsimp only at h
    by_cases h0:k.sort=0
    ·have hfn:=znf _ 0 k r hka.symm h0
     refine⟨(zaX ((lines s).map say) 0).map zxJ,hgood,zhX _ 0 k r hka.symm h0,zwa _,?_⟩
     rw [List.length_map,←hfn]
     have h1:0<(addK [] k).length:=by unfold addK;rw [if_pos h0];simp
     exact Nat.lt_of_lt_of_le h1 (ziJ r _)
    ·rw [if_neg h0] at h
     exact absurd (congrArg Prod.fst h) (show ¬(2:Int)=0 by decide)
  ·exfalso
   have:∃ x∈lines s,¬(say x).ok=true:=by
    refine Classical.byContradiction fun hn=>hok fun x hx=>?_
    refine Classical.byContradiction fun hx'=>hn ⟨x,hx,hx'⟩
   obtain⟨x,hx,hb⟩:=this
   obtain⟨j,hj,rfl⟩:=List.mem_iff_getElem.1 hx
   exact zkh (lines s) 0 j hj (by omega) (by simpa using hb) h
def VerS(s:ByteArray)(bs bf er ln:Int):Prop:=(¬zbw s=(0,0)∧zbw s=(er,ln)∧bs=0∧bf=0)∨(zbw s=(0,0)∧VerdL ((lines s).map say) none∧bs=0∧bf=0∧er=8∧ln=0)∨(zbw s=(0,0)∧VerdL ((lines s).map say) (some (bs,bf))∧er=0∧ln=0)
theorem VerS.unique{s:ByteArray}{a b c d a' b' c' d':Int}(h:VerS s a b c d)(h':VerS s a' b' c' d'):a=a'∧b=b'∧c=c'∧d=d':=by
 rcases h with ⟨n,r,e1,e2⟩|⟨r,v,e1,e2,e3,e4⟩|⟨r,v,e3,e4⟩ <;> rcases h' with ⟨n',r',e1',e2'⟩|⟨r',v',e1',e2',e3',e4'⟩|⟨r',v',e3',e4'⟩
 ·rw [r] at r';cases r';exact⟨by omega,by omega,rfl,rfl⟩
 ·exact absurd r' n
 ·exact absurd r' n
 ·exact absurd r n'
 ·exact⟨by omega,by omega,by omega,by omega⟩
 ·have:=v.unique v';cases this
 ·exact absurd r n'
 ·have:=v.unique v';cases this
 ·have:=v.unique v';cases this;exact⟨rfl,rfl,by omega,by omega⟩
theorem znF(s:ByteArray)(w:World)(hw:LibW w)(hs:s.size≤9223372036854775807):Calls Tryz.prog 26 #[.string s] w fun e w'=>∃ bs bf er ln,VerS s bs bf er ln∧zmo w bs bf er ln e w':=by
 have hbw:=zi2 w s
 have hbo:=zeY (VfW w s)
 have hb2:Below w.heap.size w (OutW (VfW w s)):=hbw.trans (hbo.mono hbw.size)
 have hw2:=hw.below hb2
 have hsz:=zkw w s
 obtain⟨t1,d0,d1,z⟩:=ztT w s
 have t1':(OutW (VfW w s)).cell? ⟨w.heap.size,0,none⟩=some (.string s):=(World.cell?_of_block (a:=⟨w.heap.size,0,none⟩) (hbo.block _ (by show w.heap.size<_;rw [hsz];omega))).trans t1
 have d0':(OutW (VfW w s)).cell? ⟨w.heap.size+1,0,none⟩=some (.int .i64 0):=(World.cell?_of_block (a:=⟨w.heap.size+1,0,none⟩) (hbo.block _ (by show w.heap.size+1<_;rw [hsz];omega))).trans d0
 have d1':(OutW (VfW w s)).cell? ⟨w.heap.size+1,1,none⟩=some (.int .i64 0):=(World.cell?_of_block (a:=⟨w.heap.size+1,1,none⟩) (hbo.block _ (by show w.heap.size+1<_;rw [hsz];omega))).trans d1
 have z':∀ j,(OutW (VfW w s)).frozen? ⟨w.heap.size+1,j,none⟩=false:=fun j=>(World.frozen?_of_block (a:=⟨w.heap.size+1,j,none⟩) (hbo.block _ (by show w.heap.size+1<_;rw [hsz];omega))).trans (z j)
 by_cases hR:zbw s=(0,0)
 ·have hv:=ztS _ hw2 w.heap.size (w.heap.size+1) s t1' _ (zoA s hR) d0' d1' z'
  by_cases hn:VerdL ((lines s).map say) none
  ·refine(zeG w s 8 0 (hv.mono ?_)).mono fun e w' h=>⟨0,0,8,0,.inr (.inl ⟨hR,hn,rfl,rfl,rfl,rfl⟩),h⟩
   rintro e w' (⟨rfl,_,hb⟩|⟨bs,bf,_,hv2,_⟩)
   ·exact⟨rfl,hb⟩
   ·have:=hn.unique hv2;cases this
  ·by_cases hy:∃ b,VerdL ((lines s).map say) (some b)
   ·obtain⟨⟨bs,bf⟩,hy⟩:=hy
    refine(zqY w s bs bf (hv.mono ?_)).mono fun e w' h=>⟨bs,bf,0,0,.inr (.inr ⟨hR,hy,rfl,rfl⟩),h⟩
    rintro e w' (⟨_,hv2,_⟩|⟨bs2,bf2,rfl,hv2,w1,hb,rfl⟩)
    ·exact absurd hv2 hn
    ·have:=hy.unique hv2
     cases this
     exact⟨rfl,w1,hb,rfl⟩
   ·exfalso
    obtain⟨F,R⟩:=zen s hR
    obtain⟨v,hv2⟩:=zf7 R
    cases v with
    | none=>exact hn hv2
    | some b=>exact hy ⟨b,hv2⟩
 ·have hv:=zvZ _ hw2 w.heap.size (w.heap.size+1) s t1' (zbw s) hR (zlw s hs)
  exact(zeG w s _ _ hv).mono fun e w' h=>⟨0,0,(zbw s).1,(zbw s).2,.inl ⟨hR,rfl,rfl,rfl⟩,h⟩
abbrev RnW(w:World)(s:ByteArray)(iv:Value):World:=((w.alloc (.cells #[.string s] 9)).alloc (.cells #[iv] 29)).alloc Z34
theorem zoU(w:World)(s:ByteArray)(iv:Value):(RnW w s iv).heap.size=w.heap.size+1+1+1:=by simp
theorem zi5(w:World)(s:ByteArray)(iv:Value):Below w.heap.size w (RnW w s iv):=(((Below.refl _ _).alloc (Nat.le_refl _) _).alloc (by simp) _).alloc (by simp;omega) _
theorem ztW(w:World)(s:ByteArray)(iv:Value):RnIn (RnW w s iv) w.heap.size (w.heap.size+1) (w.heap.size+1+1) s iv:=by
 have b1:Below (w.alloc (.cells #[.string s] 9)).heap.size (w.alloc (.cells #[.string s] 9)) (RnW w s iv):=((Below.refl _ _).alloc (Nat.le_refl _) _).alloc (by simp) _
 have b2:Below ((w.alloc (.cells #[.string s] 9)).alloc (.cells #[iv] 29)).heap.size ((w.alloc (.cells #[.string s] 9)).alloc (.cells #[iv] 29)) (RnW w s iv):=(Below.refl _ _).alloc (Nat.le_refl _) _
 have c1:=World.cell?_alloc_new (w:=w) #[.string s] 9 0
 have c2:=World.cell?_alloc_new (w:=w.alloc (.cells #[.string s] 9)) #[iv] 29 0
 rw [show(w.alloc (.cells #[.string s] 9)).heap.size=w.heap.size+1 by simp] at c2
 refine⟨zaC b1 c1,zaC b2 c2,?_,by omega⟩
 have:=zdi ((w.alloc (.cells #[.string s] 9)).alloc (.cells #[iv] 29))
 rwa [show((w.alloc (.cells #[.string s] 9)).alloc (.cells #[iv] 29)).heap.size=w.heap.size+1+1 by simp] at this
theorem zwg(w:World)(s:ByteArray)(iv:Value):(RnW w s iv).rangeAt (w.heap.size+1+1) 0 (zav zdj (.slice none 0 0) 0):=by
 rw [zyl]
 have:=ze7 ((w.alloc (.cells #[.string s] 9)).alloc (.cells #[iv] 29)) [.int .i64 0,.int .i64 0,.int .i64 0,.int .i64 0,.int .i64 0,.int .i64 0,.int .i64 0,.int .i64 0,.int .i64 0,.int .i64 0,.int .i64 0,.int .i64 0,.int .i64 0,.int .i64 0,.int .i64 0,.int .i64 0,.int .i64 0,.int .i64 0,.int .i64 0,.int .i64 0,.int .i64 0,.int .i64 0,.int .i64 0,.int .i64 0,.int .i64 0,.slice none 0 0,.int .i64 0,.int .i64 0,.int .i64 0,.int .i64 0] 34
 rwa [show((w.alloc (.cells #[.string s] 9)).alloc (.cells #[iv] 29)).heap.size=w.heap.size+1+1 by simp] at this
theorem RnIn.below{w w':World}{pt pi pr:Nat}{s:ByteArray}{iv:Value}(T:RnIn w pt pi pr s iv)(hb:Below w.heap.size w w'):RnIn w' pt pi pr s iv:=by
 obtain⟨t1,t3,t4,t5⟩:=T
 refine⟨zaC hb t1,zaC hb t3,zaA t4 hb ?_,t5⟩
 obtain⟨u,hu⟩:=Option.isSome_iff_exists.1 (t4 0 (by omega)).1
 exact World.block_lt_of_cell? w _ hu
theorem zgh(w:World)(s:ByteArray)(ao:Option Addr)(m icap:Nat)(er ln:Int)
  (hcall:Calls Tryz.prog 57 (zoT w.heap.size (w.heap.size+1) (w.heap.size+1+1)) (OutW (RnW w s (.slice ao m icap))) fun e w'=>e=zaj er ln∧Below (OutW (RnW w s (.slice ao m icap))).heap.size (OutW (RnW w s (.slice ao m icap))) w') :
  Calls Tryz.prog 25 #[.string s,.slice ao m icap] w (ze6 w ⟨zdj,0,er,ln⟩):=by
 have hmf:∀(fn:Go.Fn) (first cap:Array Value) (w:World),(Instr.makeFunc fn first cap).run Tryz.prog w=.ok (.func fn first cap) w:=fun _ _ _ _=>rfl
 have hout:=ze2 57 _ (RnW w s (.slice ao m icap)) er ln (fun W=>by kernel_rfl) hcall
 have hz:=zwg w s (.slice ao m icap)
 have hsz:=zoU w s (.slice ao m icap)
 have hbw:=zi5 w s (.slice ao m icap)
 have hth:=(ztW w s (.slice ao m icap)).state
 go_enter Tryz.func25,Tryz.ntmps25
 go_wp2_with(first|(go_at_call 42;refine hout.mono ?_;rintro e w5 ⟨rfl,hb5⟩;refine Hid.out ?_))
 unfold Hid
 have hr:=zfx hz hb5 (by rw [hsz];omega)
 have hth5:=zaA hth hb5 (by rw [hsz];omega)
 have hb05:Below w.heap.size w w5:=hbw.trans (hb5.mono hbw.size)
 have hl:=zaS zdj (.slice none 0 0) 0
 have h1:=zbg zdj none 0 0 0
 generalize hds:zav zdj (.slice none 0 0) 0=ds at hr hl h1
 have hi:=zbU ds hl
 have hid:(Tryz.prog.info? 34).map (·.size)=some ds.length:=by rw [hl];exact Tryz.info34
 have hu34:Tryz.prog.underlying 34=some (.struct _):=Tryz.underlying34
 have ht:w5.there (w.heap.size+1+1) 0 ds.toArray.size:=by rw [show ds.toArray.size=30 by simp [hl]];exact hth5
 clear hz hout
 repeat(first
  | (refine wpList_load_mid rfl 34 _ rfl (w.heap.size+1+1) 0 rfl ds _ hr hu34 rfl hid ?_)
  | (refine wpList_store_mid rfl 34 _ _ rfl (w.heap.size+1+1) 0 ds.toArray rfl rfl ht hi h1 ?_)
  | go_values|go_skip|go_guarded|go_step|go_upon|go_back)
 exact zlD (T:=⟨zdj,0,er,ln⟩) (w.heap.size+1+1) (by omega) Tryz.results25 ds hds ht hb05 (World.ownsRow_nil _ _ _ _) (by simp [Value.ownBlock]) rfl rfl rfl rfl
theorem zwh(w:World)(s:ByteArray)(ao:Option Addr)(m icap:Nat)(FIN:Mc)
  (hcall:Calls Tryz.prog 57 (zoT w.heap.size (w.heap.size+1) (w.heap.size+1+1)) (OutW (RnW w s (.slice ao m icap))) fun e w'=>e=.returned (.tuple #[])∧zsV (OutW (RnW w s (.slice ao m icap))) (w.heap.size+1+1) FIN FIN.line w') :
  Calls Tryz.prog 25 #[.string s,.slice ao m icap] w (ze6 w ⟨FIN,FIN.line,0,0⟩):=by
 have hmf:∀(fn:Go.Fn) (first cap:Array Value) (w:World),(Instr.makeFunc fn first cap).run Tryz.prog w=.ok (.func fn first cap) w:=fun _ _ _ _=>rfl
 have hsz:=zoU w s (.slice ao m icap)
 have hout:=zhJ 57 _ (RnW w s (.slice ao m icap)) _ (fun W=>by kernel_rfl) hcall (fun w1 h=>zql (by rw [hsz];omega) h)
 have hbw:=zi5 w s (.slice ao m icap)
 have hth:=(ztW w s (.slice ao m icap)).state
 have hbo:=zeY (RnW w s (.slice ao m icap))
 have hso:(OutW (RnW w s (.slice ao m icap))).heap.size=w.heap.size+1+1+1+1+1:=by simp
 go_enter Tryz.func25,Tryz.ntmps25
 go_wp2_with(first|(go_at_call 42;refine hout.mono ?_;rintro e w5 ⟨rfl,w1,hq,hw5⟩;have HW5:Hid _:=hw5;clear hw5;refine Hid.out ?_))
 have hw5:=HW5.out
 clear HW5
 unfold Hid
 obtain⟨wz,oo,no,co,rfl,hbz,hrow⟩:=hq
 have hl:=zaS FIN (.slice oo no co) FIN.line
 have h1:=zbg FIN oo no co FIN.line
 generalize hds:zav FIN (.slice oo no co) FIN.line=ds at hw5 hl h1
 have hthz:=zaA (zaA hth hbo (by rw [hsz];omega)) hbz (by rw [hso];omega)
 have hrz:=World.rangeAt_setCells_same wz (w.heap.size+1+1) 0 ds (by rw [hl];exact hthz)
 have hthz2:=World.there_setCells hthz (w.heap.size+1+1) 0 ds
 have hbz2:Below w.heap.size w (wz.setCells (w.heap.size+1+1) 0 ds):=zar ds 0 (hbw.trans ((hbo.mono hbw.size).trans (hbz.mono (by rw [hso];omega)))) (by omega)
 have hrow2:(wz.setCells (w.heap.size+1+1) 0 ds).ownsRow (OutW (RnW w s (.slice ao m icap))).heap.size 2 1 (.slice oo no co) FIN.out.length (i64s FIN.out):=zas hrow (fun q hq=>zb4 ds wz _ _ _ (by have:=(hrow.lt q hq).1;omega))
 generalize wz.setCells (w.heap.size+1+1) 0 ds=X at hw5 hrz hthz2 hbz2 hrow2
 have eb:∀ b,¬b=(RnW w s (.slice ao m icap)).heap.size→¬b=(RnW w s (.slice ao m icap)).heap.size+1→w5.heap[b]?=X.heap[b]?:=fun b n0 n1=>by
  rw [hw5,Below.heap_setCell _ _ _ _ (by exact n1),Below.heap_setCell _ _ _ _ (by exact n0)]
 have hr:=znh hrz (eb _ (by omega) (by omega))
 have hth5:=zni hthz2 (eb _ (by omega) (by omega))
 have hb05:Below w.heap.size w w5:=by
  rw [hw5]
  exact(hbz2.setCell (p:=⟨(RnW w s (.slice ao m icap)).heap.size,0,none⟩) (by show w.heap.size≤(RnW w s (.slice ao m icap)).heap.size;omega) _).setCell (p:=⟨(RnW w s (.slice ao m icap)).heap.size+1,0,none⟩) (by show w.heap.size≤(RnW w s (.slice ao m icap)).heap.size+1;omega) _
 have hrow5:w5.ownsRow (OutW (RnW w s (.slice ao m icap))).heap.size 2 1 (.slice oo no co) FIN.out.length (i64s FIN.out):=zas hrow2 (fun q hq=>eb q (by have:=(hrow2.lt q hq).1;omega) (by have:=(hrow2.lt q hq).1;omega))
 have hi:=zbU ds hl
 have hid:(Tryz.prog.info? 34).map (·.size)=some ds.length:=by rw [hl];exact Tryz.info34
 have hu34:Tryz.prog.underlying 34=some (.struct _):=Tryz.underlying34
 have ht:w5.there (w.heap.size+1+1) 0 ds.toArray.size:=by rw [show ds.toArray.size=30 by simp [hl]];exact hth5
 clear hout hw5 eb hrz hthz2 hrow2 hbz2 hrow hbz hthz
 repeat(first
  | (refine wpList_load_mid rfl 34 _ rfl (w.heap.size+1+1) 0 rfl ds _ hr hu34 rfl hid ?_)
  | (refine wpList_store_mid rfl 34 _ _ rfl (w.heap.size+1+1) 0 ds.toArray rfl rfl ht hi h1 ?_)
  | go_values|go_skip|go_guarded|go_step|go_upon|go_back)
 exact zlD (T:=⟨FIN,FIN.line,0,0⟩) (w.heap.size+1+1) (by omega) Tryz.results25 ds hds ht hb05 (zb7 hrow5 (by omega)) (fun q hq=>by have:=(hrow5.lt q hq).1;omega) rfl rfl rfl rfl
def RunS(s:ByteArray)(inp:List Int)(T:Told):Prop:=(¬zbw s=(0,0)∧T=⟨zdj,0,(zbw s).1,(zbw s).2⟩)∨(zbw s=(0,0)∧VerdL ((lines s).map say) none∧T=⟨zdj,0,8,0⟩)∨(zbw s=(0,0)∧∃ bs bf,VerdL ((lines s).map say) (some (bs,bf))∧T=⟨ranL ((lines s).map say) inp bs,(ranL ((lines s).map say) inp bs).line,0,0⟩)
theorem ztX(s:ByteArray)(w:World)(hw:LibW w)(hs:s.size≤9223372036854775807)(ao:Option Addr)(icap:Nat)(inp:List Int)(hiv:SlB w w.heap.size (.slice ao inp.length icap) inp)(hin:inp.length≤9223372036854775807):Calls Tryz.prog 25 #[.string s,.slice ao inp.length icap] w fun e w'=>∃ T,RunS s inp T∧ze6 w T e w':=by
 have hbw:=zi5 w s (.slice ao inp.length icap)
 have hbo:=zeY (RnW w s (.slice ao inp.length icap))
 have hb2:Below w.heap.size w (OutW (RnW w s (.slice ao inp.length icap))):=hbw.trans (hbo.mono hbw.size)
 have hw2:=hw.below hb2
 have hT:=(ztW w s (.slice ao inp.length icap)).below hbo
 by_cases hR:zbw s=(0,0)
 ·have hv:=ztV _ hw2 _ _ _ s ao icap inp hT _ (zoA s hR) (hiv.mono hb2) hin
  by_cases hn:VerdL ((lines s).map say) none
  ·refine(zgh w s ao inp.length icap 8 0 (hv.mono ?_)).mono fun e w' h=>⟨_,.inr (.inl ⟨hR,hn,rfl⟩),h⟩
   rintro e w' (⟨rfl,_,hb⟩|⟨bs,bf,_,hv2,_⟩)
   ·exact⟨rfl,hb⟩
   ·have:=hn.unique hv2;cases this
  ·by_cases hy:∃ b,VerdL ((lines s).map say) (some b)
   ·obtain⟨⟨bs,bf⟩,hy⟩:=hy
    refine(zwh w s ao inp.length icap (ranL ((lines s).map say) inp bs) (hv.mono ?_)).mono fun e w' h=>⟨_,.inr (.inr ⟨hR,bs,bf,hy,rfl⟩),h⟩
    rintro e w' (⟨_,hv2,_⟩|⟨bs2,bf2,rfl,hv2,hp⟩)
    ·exact absurd hv2 hn
    ·have:=hy.unique hv2
     cases this
     exact⟨rfl,hp⟩
   ·exfalso
    obtain⟨F,R⟩:=zen s hR
    obtain⟨v,hv2⟩:=zf7 R
    cases v with
    | none=>exact hn hv2
    | some b=>exact hy ⟨b,hv2⟩
 ·have hv:=zwf _ hw2 _ _ _ s _ hT (zbw s) hR (zlw s hs)
  exact(zgh w s ao inp.length icap _ _ hv).mono fun e w' h=>⟨_,.inl ⟨hR,rfl⟩,h⟩
theorem zrb(s:ByteArray):∃ bs bf er ln,VerS s bs bf er ln:=by
 by_cases hR:zbw s=(0,0)
 ·obtain⟨F,R⟩:=zen s hR
  obtain⟨v,hv⟩:=zf7 R
  cases v with
  | none=>exact⟨0,0,8,0,.inr (.inl ⟨hR,hv,rfl,rfl,rfl,rfl⟩)⟩
  | some b=>exact⟨b.1,b.2,0,0,.inr (.inr ⟨hR,hv,rfl,rfl⟩)⟩
 ·exact⟨0,0,(zbw s).1,(zbw s).2,.inl ⟨hR,rfl,rfl,rfl⟩⟩
theorem zfd{s:ByteArray}{bs bf er ln:Int}(h:VerS s bs bf er ln)(w:World)(hw:LibW w)(hs:s.size≤9223372036854775807):Calls Tryz.prog 26 #[.string s] w (zmo w bs bf er ln):=by
 refine(znF s w hw hs).mono ?_
 rintro e w' ⟨a,b,c,d,h',hp⟩
 obtain⟨rfl,rfl,rfl,rfl⟩:=h.unique h'
 exact hp
theorem zi3{w:World}{g q o:Nat}{x:Int}{v:Value}{L:List Said}(h:LinesIn w g L)(hq:w.cell? ⟨q,0,none⟩=some (.int .i64 x))(hg:¬g=q):LinesIn (w.setCell ⟨q,o,none⟩ v) g L:=by
 have e:∀ b j,¬b=q→(w.setCell ⟨q,o,none⟩ v).cell? ⟨b,j,none⟩=w.cell? ⟨b,j,none⟩:=fun b j hb=>World.cell?_of_block (a:=⟨b,j,none⟩) (Below.heap_setCell w _ _ b hb)
 refine⟨fun i hi=>(e _ _ hg).trans (h.kind i hi),fun i hi hp=>?_,h.wf⟩
 obtain⟨b,c,h1,h2⟩:=h.words i hi hp
 have hb:¬b=q:=fun eb=>by
  have:=h2 0 hp
  rw [eb,hq] at this
  cases this
 exact⟨b,c,(e _ _ hg).trans h1,fun j hj=>(e _ _ hb).trans (h2 j hj)⟩
theorem zkx{w w1 w2:World}{ob:Obj}(h1:Below w.heap.size w w1)(h2:Below (w1.alloc ob).heap.size (w1.alloc ob) w2):Below w.heap.size w w2:=by
 have hs:=h1.size
 exact(h1.alloc hs ob).trans (h2.mono (by simp;omega))
def zoS(w:World)(bs bf:Int)(v0:Option Nat)(inB:Bool)(L:List Said):Ending→World→Prop:=fun e w'=>∃ v,e=.returned (.tuple #[.agg #[.int .i64 bs,.int .i64 bf],v,.bool inB,.bool true])∧Below w.heap.size w w'∧(v0=some 0→∃ g cap,v=.slice (some ⟨g,0,none⟩) L.length cap∧LinesIn w' g L∧w.heap.size≤g)
theorem zmp{s:ByteArray}(w:World)(hw:LibW w)(hs:s.size≤1048576)(hR:¬zbw s=(0,0)):Calls Tryz.prog 23 #[.string s] w (zoS w 0 0 none false ((lines s).map say)):=by
 have hb0:Below w.heap.size w (w.alloc (.cells #[.int .i64 0,.int .i64 0] 42)):=(Below.refl _ _).alloc (Nat.le_refl _) _
 have hs0:(w.alloc (.cells #[.int .i64 0,.int .i64 0] 42)).heap.size=w.heap.size+1:=by simp
 have r0:=World.cell?_alloc_new (w:=w) #[.int .i64 0,.int .i64 0] 42 0
 have r1:=World.cell?_alloc_new (w:=w) #[.int .i64 0,.int .i64 0] 42 1
 have rz:=fun j=>zgg w #[.int .i64 0,.int .i64 0] 42 j
 obtain⟨er,ln,hRe⟩:∃ er ln,zbw s=(er,ln):=⟨_,_,rfl⟩
 have hver:=zfd (.inl ⟨hR,hRe,rfl,rfl⟩) (w.alloc (.cells #[.int .i64 0,.int .i64 0] 42)) (hw.below hb0) (Nat.le_trans hs (by decide))
 have hne:=zxi hR
 have hread:=fun W=>zjQ s W hs
 rw [hRe] at hne
 have hread2:∀ W:World,Calls Tryz.prog 16 #[.string s] W (zee W ((lines s).map say) (er,ln)):=fun W=>by have:=hread W;rw [hRe] at this;exact this
 simp only at hne
 clear hR hread hRe
 go_enter Tryz.func23,Tryz.ntmps23
 go_wp2_with(first
  | (go_at_call 26;(with_reducible refine hver.mono ?_);rintro e w1 ⟨rfl,hb1⟩;obtain⟨hc1,hf1⟩:=zdU hb1;have hz1:w.heap.size<w1.heap.size:=Nat.lt_of_lt_of_le (by rw [hs0];exact Nat.lt_succ_self _) hb1.size)
  | (go_at_call 16;(with_reducible refine(hread2 _).mono ?_);rintro e w2 ⟨v,rfl,hb2,hv2⟩;obtain⟨hc2,hf2⟩:=zdU hb2;have hz2:w1.heap.size<w2.heap.size:=Nat.lt_of_lt_of_le (by simp) hb2.size))
 have hB:Below w.heap.size w w2:=zkx (hb0.trans (hb1.mono (by omega))) hb2
 have hsz2:w.heap.size<w2.heap.size:=by omega
 have k0:w2.cell? ⟨w.heap.size,0,none⟩=some (.int .i64 0):=by rw [hc2 _ _ (by simp;omega),World.cell?_of_block (w:=w1) (a:=⟨w.heap.size,0,none⟩) (Below.heap_alloc _ _ _ hz1),hc1 _ _ (by rw [hs0];omega)];exact r0
 have k1:w2.cell? ⟨w.heap.size,1,none⟩=some (.int .i64 0):=by rw [hc2 _ _ (by simp;omega),World.cell?_of_block (w:=w1) (a:=⟨w.heap.size,1,none⟩) (Below.heap_alloc _ _ _ hz1),hc1 _ _ (by rw [hs0];omega)];exact r1
 refine bodyPost_ret (v:=.tuple #[.agg #[.int .i64 0,.int .i64 0],.slice none 0 0,.bool false,.bool true]) (by simp [results,Tryz.results23,go_sem,k0,k1]) rfl ⟨_,rfl,?_,?_⟩
 ·exact(hB.setCell (p:=⟨w.heap.size,0,none⟩) (Nat.le_refl _) _).setCell (p:=⟨w.heap.size,1,none⟩) (Nat.le_refl _) _
 ·intro h;cases h
theorem znG{s:ByteArray}(w:World)(hw:LibW w)(hs:s.size≤1048576)(hR:zbw s=(0,0))(hv:VerdL ((lines s).map say) none):Calls Tryz.prog 23 #[.string s] w (zoS w 0 0 none false ((lines s).map say)):=by
 have hb0:Below w.heap.size w (w.alloc (.cells #[.int .i64 0,.int .i64 0] 42)):=(Below.refl _ _).alloc (Nat.le_refl _) _
 have hs0:(w.alloc (.cells #[.int .i64 0,.int .i64 0] 42)).heap.size=w.heap.size+1:=by simp
 have r0:=World.cell?_alloc_new (w:=w) #[.int .i64 0,.int .i64 0] 42 0
 have r1:=World.cell?_alloc_new (w:=w) #[.int .i64 0,.int .i64 0] 42 1
 have rz:=fun j=>zgg w #[.int .i64 0,.int .i64 0] 42 j
 have hver:=zfd (.inr (.inl ⟨hR,hv,rfl,rfl,rfl,rfl⟩)) (w.alloc (.cells #[.int .i64 0,.int .i64 0] 42)) (hw.below hb0) (Nat.le_trans hs (by decide))
 have hread:=fun W=>zjQ s W hs
 have hread2:∀ W:World,Calls Tryz.prog 16 #[.string s] W (zee W ((lines s).map say) (0,0)):=fun W=>by have:=hread W;rw [hR] at this;exact this
 clear hread
 generalize (lines s).map say=L at hread2 hv ⊢
 go_enter Tryz.func23,Tryz.ntmps23
 go_wp2_with(first
  | (go_at_call 26;(with_reducible refine hver.mono ?_);rintro e w1 ⟨rfl,hb1⟩;obtain⟨hc1,hf1⟩:=zdU hb1;have hz1:w.heap.size<w1.heap.size:=Nat.lt_of_lt_of_le (by rw [hs0];exact Nat.lt_succ_self _) hb1.size)
  | (go_at_call 16;(with_reducible refine(hread2 _).mono ?_);rintro e w2 ⟨v,rfl,hb2,hv2⟩;obtain⟨hc2,hf2⟩:=zdU hb2;have hz2:w1.heap.size<w2.heap.size:=Nat.lt_of_lt_of_le (by simp) hb2.size))
 have hB:Below w.heap.size w w2:=zkx (hb0.trans (hb1.mono (by omega))) hb2
 have hsz2:w.heap.size<w2.heap.size:=by omega
 have k0:w2.cell? ⟨w.heap.size,0,none⟩=some (.int .i64 0):=by rw [hc2 _ _ (by simp;omega),World.cell?_of_block (w:=w1) (a:=⟨w.heap.size,0,none⟩) (Below.heap_alloc _ _ _ hz1),hc1 _ _ (by rw [hs0];omega)];exact r0
 have k1:w2.cell? ⟨w.heap.size,1,none⟩=some (.int .i64 0):=by rw [hc2 _ _ (by simp;omega),World.cell?_of_block (w:=w1) (a:=⟨w.heap.size,1,none⟩) (Below.heap_alloc _ _ _ hz1),hc1 _ _ (by rw [hs0];omega)];exact r1
 refine bodyPost_ret (v:=.tuple #[.agg #[.int .i64 0,.int .i64 0],v,.bool false,.bool true]) (by simp [results,Tryz.results23,go_sem,k0,k1]) rfl ⟨_,rfl,?_,?_⟩
 ·exact(hB.setCell (p:=⟨w.heap.size,0,none⟩) (Nat.le_refl _) _).setCell (p:=⟨w.heap.size,1,none⟩) (Nat.le_refl _) _
 ·intro h;cases h
theorem zi4{s:ByteArray}{bs bf:Int}(w:World)(hw:LibW w)(hs:s.size≤1048576)(hR:zbw s=(0,0))(hv:VerdL ((lines s).map say) (some (bs,bf)))(b1:1≤bs)(b2:bs≤100000)(f1:1≤bf)(f2:bf≤16):Calls Tryz.prog 23 #[.string s] w (zoS w bs bf (some 0) true ((lines s).map say)):=by
 have hb0:Below w.heap.size w (w.alloc (.cells #[.int .i64 0,.int .i64 0] 42)):=(Below.refl _ _).alloc (Nat.le_refl _) _
 have hs0:(w.alloc (.cells #[.int .i64 0,.int .i64 0] 42)).heap.size=w.heap.size+1:=by simp
 have r0:=World.cell?_alloc_new (w:=w) #[.int .i64 0,.int .i64 0] 42 0
 have r1:=World.cell?_alloc_new (w:=w) #[.int .i64 0,.int .i64 0] 42 1
 have rz:=fun j=>zgg w #[.int .i64 0,.int .i64 0] 42 j
 have hver:=zfd (.inr (.inr ⟨hR,hv,rfl,rfl⟩)) (w.alloc (.cells #[.int .i64 0,.int .i64 0] 42)) (hw.below hb0) (Nat.le_trans hs (by decide))
 have hread:=fun W=>zjQ s W hs
 have hread2:∀ W:World,Calls Tryz.prog 16 #[.string s] W (zee W ((lines s).map say) (0,0)):=fun W=>by have:=hread W;rw [hR] at this;exact this
 clear hread
 generalize (lines s).map say=L at hread2 hv ⊢
 have hnb:(bs == 0)=false:=by simpa using (by omega:¬bs=0)
 go_enter Tryz.func23,Tryz.ntmps23
 go_wp2_with(first
  | (go_at_call 26;(with_reducible refine hver.mono ?_);rintro e w1 ⟨rfl,hb1⟩;obtain⟨hc1,hf1⟩:=zdU hb1;have hz1:w.heap.size<w1.heap.size:=Nat.lt_of_lt_of_le (by rw [hs0];exact Nat.lt_succ_self _) hb1.size)
  | (go_at_call 16;(with_reducible refine(hread2 _).mono ?_);rintro e w2 ⟨v,rfl,hb2,hv2⟩;obtain⟨hc2,hf2⟩:=zdU hb2;have hz2:w1.heap.size<w2.heap.size:=Nat.lt_of_lt_of_le (by simp) hb2.size))
 have HF:∀ W,Below w2.heap.size w2 W→W.cell? ⟨w1.heap.size,0,none⟩=some (.int .i64 bs)∧W.cell? ⟨w1.heap.size,1,none⟩=some (.int .i64 bf):=fun W hW=>by
  have e:∀ j,W.cell? ⟨w1.heap.size,j,none⟩=(w1.alloc (.cells #[.int .i64 bs,.int .i64 bf] 42)).cell? ⟨w1.heap.size,j,none⟩:=fun j=>(World.cell?_of_block (a:=⟨w1.heap.size,j,none⟩) (hW.block _ hz2)).trans (hc2 _ _ (by simp))
  rw [e,e,World.cell?_alloc_new,World.cell?_alloc_new]
  exact⟨rfl,rfl⟩
 have k0:w2.cell? ⟨w.heap.size,0,none⟩=some (.int .i64 0):=by rw [hc2 _ _ (by simp;omega),World.cell?_of_block (w:=w1) (a:=⟨w.heap.size,0,none⟩) (Below.heap_alloc _ _ _ hz1),hc1 _ _ (by rw [hs0];omega)];exact r0
 have k1:w2.cell? ⟨w.heap.size,1,none⟩=some (.int .i64 0):=by rw [hc2 _ _ (by simp;omega),World.cell?_of_block (w:=w1) (a:=⟨w.heap.size,1,none⟩) (Below.heap_alloc _ _ _ hz1),hc1 _ _ (by rw [hs0];omega)];exact r1
 have kz:∀ j,w2.frozen? ⟨w.heap.size,j,none⟩=false:=fun j=>by rw [hf2 _ _ (by simp;omega),World.frozen?_of_block (w:=w1) (a:=⟨w.heap.size,j,none⟩) (Below.heap_alloc _ _ _ hz1),hf1 _ _ (by rw [hs0];omega)];exact rz j
 have hB:Below w.heap.size w w2:=zkx (hb0.trans (hb1.mono (by omega))) hb2
 have hsz2:w.heap.size<w2.heap.size:=by omega
 have HL:Hid (∃ g cap,v=.slice (some ⟨g,0,none⟩) L.length cap∧w1.heap.size<g∧LinesIn w2 g L):=by
  obtain⟨g,cap,a,b,c⟩:=hv2 trivial
  exact⟨g,cap,a,by simp at b;omega,c⟩
 clear hc1 hf1 hc2 hf2 r0 r1 rz hver hread2 hb0 hb1 hb2 hs0 hv2 hv
 have m0:w2.drew.cell? ⟨w.heap.size,0,none⟩=some (.int .i64 0):=k0
 have m1:w2.drew.cell? ⟨w.heap.size,1,none⟩=some (.int .i64 0):=k1
 have y0:w2.drew.frozen? ⟨w.heap.size,0,none⟩=false:=kz 0
 have y1:w2.drew.frozen? ⟨w.heap.size,1,none⟩=false:=kz 1
 have HS1:w2.drew.cell? ⟨w1.heap.size,0,none⟩=some (.int .i64 bs)∧w2.drew.cell? ⟨w1.heap.size,1,none⟩=some (.int .i64 bf):=HF _ (Below.refl _ _).drew
 have hne:¬w1.heap.size=w.heap.size:=by omega
 have hne2:¬w.heap.size=w1.heap.size:=by omega
 have HS2:((w2.drew.setCell ⟨w.heap.size,0,none⟩ (.int .i64 bs)).setCell ⟨w.heap.size,1,none⟩ (.int .i64 bf)).cell? ⟨w1.heap.size,0,none⟩=some (.int .i64 bs)∧((w2.drew.setCell ⟨w.heap.size,0,none⟩ (.int .i64 bs)).setCell ⟨w.heap.size,1,none⟩ (.int .i64 bf)).cell? ⟨w1.heap.size,1,none⟩=some (.int .i64 bf):=by
  have e:∀ j,((w2.drew.setCell ⟨w.heap.size,0,none⟩ (.int .i64 bs)).setCell ⟨w.heap.size,1,none⟩ (.int .i64 bf)).cell? ⟨w1.heap.size,j,none⟩=w2.drew.cell? ⟨w1.heap.size,j,none⟩:=fun j=>World.cell?_of_block (a:=⟨w1.heap.size,j,none⟩) ((Below.heap_setCell _ _ _ _ hne).trans (Below.heap_setCell _ _ _ _ hne))
  rw [e,e];exact HS1
 have hBW:Below w.heap.size w w2.drew:=hB.trans (Below.refl _ _).drew
 have hW:Below w2.heap.size w2 w2.drew:=(Below.refl _ _).drew
 have kz0:=kz 0
 have kz1:=kz 1
 clear HF kz hB
 go_region_held3 (fun W=>W.cell? ⟨w1.heap.size,0,none⟩=some (.int .i64 bs)∧W.cell? ⟨w1.heap.size,1,none⟩=some (.int .i64 bf))
  (first
    | exact HS1
    | exact HS2)
  (first
    | fail)
 go_wp2
 refine bodyPost_ret (v:=.tuple #[.agg #[.int .i64 bs,.int .i64 bf],v,.bool true,.bool true]) (by simp [results,Tryz.results23,go_sem,k0,k1]) rfl ⟨_,rfl,?_,fun _=>?_⟩
 ·exact(hBW.setCell (p:=⟨w.heap.size,0,none⟩) (Nat.le_refl _) _).setCell (p:=⟨w.heap.size,1,none⟩) (Nat.le_refl _) _
 ·obtain⟨g,cap,a,b,c⟩:=HL.out
  have hgne:¬g=w.heap.size:=by omega
  have c2:=zi3 (o:=0) (v:=.int .i64 bs) (c.below hW) m0 hgne
  exact⟨g,cap,a,zi3 c2 (World.cell?_setCell_same _ _ _ m0) hgne,by omega⟩
end Go.Proofs.YtfpgjkbjbbgciaaGreatDoor
