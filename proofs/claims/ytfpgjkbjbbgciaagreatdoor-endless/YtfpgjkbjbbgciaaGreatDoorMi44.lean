import Derived.Test.YtfpgjkbjbbgciaaGreatDoorMi39
import Derived.Test.YtfpgjkbjbbgciaaGreatDoorMi43
set_option maxRecDepth 100000
set_option maxHeartbeats 8000000
namespace Go.Proofs.YtfpgjkbjbbgciaaGreatDoor
section
open Go.RowKit Sp
def newL(iv:Value):List Value:=List.replicate 24 (.int .i64 0)++[iv,.slice none 0 0,.int .i64 0,.slice none 0 0,.int .i64 0,.int .i64 1,.int .i64 0]
theorem zvD(ao:Option Addr)(n c:Nat):Tryz.prog.built 195 [(2,.slice ao n c),(7,.int .i64 1)]=some (newL (.slice ao n c)).toArray:=by kernel_rfl
theorem zqr(iv:Value):(newL iv)[24]?=some iv∧(newL iv)[25]?=some (.slice none 0 0)∧(newL iv)[26]?=some (.int .i64 0)∧(newL iv)[27]?=some (.slice none 0 0)∧(newL iv)[28]?=some (.int .i64 0)∧(newL iv)[29]?=some (.int .i64 1)∧(newL iv)[30]?=some (.int .i64 0):=⟨rfl,rfl,rfl,rfl,rfl,rfl,rfl⟩
theorem zl3(iv:Value)(i:Nat)(h:i<24):(newL iv)[i]?=some (.int .i64 0):=by
 unfold newL
 rw [List.getElem?_append_left (by simpa using h),List.getElem?_replicate,if_pos h]
theorem zxY(w:World)(iv:Value)(inp:List Int):MchM (w.alloc (.cells (newL iv).toArray 195)) w.heap.size (.slice none 0 0) iv (.slice none 0 0) (zbl inp):=by
 have hr:=zio w (newL iv) 195
 have hx:∀ j v,(newL iv)[j]?=some v→(w.alloc (.cells (newL iv).toArray 195)).cell? ⟨w.heap.size,j,none⟩=some v:=fun j v hv=>by have:=hr j v hv;rwa [Nat.zero_add] at this
 obtain⟨c1,c2,c3,c4,c5,c6,c7⟩:=zqr iv
 exact⟨fun i hi=>hx i _ (zl3 iv i (by omega)),fun i hi=>hx (8+i) _ (zl3 iv _ (by omega)),hx _ _ c1,hx _ _ c2,hx _ _ c3,hx _ _ c4,hx _ _ c5,hx _ _ c6,hx _ _ c7,fun o=>by simp⟩
theorem zvE(w:World)(ao:Option Addr)(icap:Nat)(inp:List Int)(hiv:SlB w w.heap.size (.slice ao inp.length icap) inp):
  Calls Tryz.prog 82 #[.slice ao inp.length icap] w fun e w'=>e=.returned (.pointer (some ⟨w.heap.size,0,none⟩))∧(∃ bv iv ov,MchAt w' w.heap.size (zbl inp) bv iv ov)∧Below w.heap.size w w':=by
 have hb:=zvD ao inp.length icap
 have hm:=zxY w (.slice ao inp.length icap) inp
 generalize hds:newL (.slice ao inp.length icap)=ds at hb hm
 go_enter Tryz.func82,Tryz.ntmps82
 go_wp2_with(first
  | (refine wpList_build rfl 195 _ rfl ?_ ?_
     ·simp [Act.eval,hb]
     simp only [List.map_toArray,List.map_cons,List.map_nil,Act.eval]
     refine Hid.out ?_))
 unfold Hid
 erw [hb]
 simp only [Option.getD_some,Act.put,List.setIfInBounds_toArray,List.set_cons_succ,List.set_cons_zero]
 go_wp2_with(first|(refine Go.Great.wpList_boxTo rfl 195 _ rfl _ rfl w.heap.size rfl ds.toArray rfl ?_))
 go_ret
 have hB:Below w.heap.size w (w.alloc (.cells ds.toArray 195)):=(Below.refl _ _).alloc (Nat.le_refl _) _
 exact⟨rfl,⟨_,_,_,hm,World.ownsRow_nil _ _ _ _,World.ownsRow_nil _ _ _ _,hiv.below hB⟩,hB⟩
theorem zf3{e:Int}{o:Option Int}{c:Int × Int}(h:zem e o c=(0,0))(he:¬e=0):o=none∧c=(0,0):=by
 cases o with
 | none=>exact⟨rfl,h⟩
 | some l=>exact absurd (congrArg Prod.fst h) he
theorem zkx(A:List ByteArray)(i j:Nat)(hj:j<A.length)(hij:i≤j)(hb:(say A[j]).ok=false):¬zbW A i=(0,0):=by
 have hi:i<A.length:=by omega
 cases hc:(say A[i]).ok with
 | false=>rw [zfQ A i hi hc];exact fun e=>absurd (congrArg Prod.fst e) (show ¬(1:Int)=0 by decide)
 | true =>
  rw [zfP A i hi hc]
  have hne:¬i=j:=fun e=>by subst e;rw [hb] at hc;cases hc
  exact zkx A (i+1) j hj (by omega) hb
termination_by A.length-i
theorem zpi(s:ByteArray)(h:zcg s=(0,0)):zn4 s ((lines s).map say):=by
 have hgood:=zs2 s h
 unfold zcg at h
 by_cases hf:4000<s.size∨300<(lines s).length
 ·rw [if_pos hf] at h;exact absurd (congrArg Prod.fst h) (by decide)
 ·rw [if_neg hf] at h
  have h4:s.size≤4000:=by omega
  have h3:(lines s).length≤300:=by omega
  by_cases hok:∀ x∈lines s,(say x).ok=true
  ·rw [zeP _ hok 0,zeO _ hok] at h
   have S:Sts s (zaU (lines s) (lines s).length):=⟨h4,h3,hok,rfl⟩
   have hka:=zkp (lines s)
   generalize zaU (lines s) (lines s).length=K at S h hka
   cases K with
   | nil=>exact absurd (congrArg Prod.fst h) (by decide)
   | cons k r =>
    unfold sayK at h
    dsimp only at h
    by_cases h0:k.sort=0
    ·rw [if_pos h0] at h
     obtain⟨ht,h⟩:=zf3 h (by decide)
     obtain⟨hm,h⟩:=zf3 h (by decide)
     obtain⟨he,_⟩:=zf3 h (by decide)
     intro w hw
     refine(zjF s k r S h0 ht _ rfl hm he w hw).mono ?_
     rintro e w' ⟨hb,pm,ao,n,cap,F,rfl,hP,hG,hF0,hFn,hFi⟩
     refine⟨hb,pm,ao,n,cap,F,rfl,hP,⟨hgood,ziu _ 0 k r hka.symm h0,?_,hF0⟩,hFn,hFi⟩
     rw [hG.out];exact zn3 _ 0 k r hka.symm h0
    ·rw [if_neg h0] at h
     exact absurd (congrArg Prod.fst h) (show ¬(2:Int)=0 by decide)
  ·exfalso
   have:∃ x∈lines s,¬(say x).ok=true:=by
    refine Classical.byContradiction fun hn=>hok fun x hx=>?_
    refine Classical.byContradiction fun hx'=>hn ⟨x,hx,hx'⟩
   obtain⟨x,hx,hb⟩:=this
   obtain⟨j,hj,rfl⟩:=List.mem_iff_getElem.1 hx
   exact zkx (lines s) 0 j hj (by omega) (by simpa using hb) h
end
section
open Sp
theorem It.key_inj{a b:It}(h:a.key=b.key):a=b:=by
 cases a;cases b
 simp only [It.key,Key.mk.injEq] at h
 obtain⟨h1,h2,h3,h4,h5,h6,h7,h8⟩:=h
 subst h1;subst h2;subst h3;subst h4;subst h5;subst h6;subst h7;subst h8;rfl
theorem zy3{a b:List It}(h:a.map It.key=b.map It.key):a=b:=by
 induction a generalizing b with
 | nil=>cases b with
  | nil=>rfl
  | cons y t=>simp at h
 | cons x r ih=>cases b with
  | nil=>simp at h
  | cons y t =>
   rw [List.map_cons,List.map_cons,List.cons.injEq] at h
   rw [It.key_inj h.1,ih h.2]
def FnM.bare(f:FnM):FnM:=⟨f.name,f.line,f.its,undef,0⟩
theorem zw7{F G:List FnM}(h:F.map FnM.fn=G.map FnM.fn):F.map FnM.bare=G.map FnM.bare:=by
 induction F generalizing G with
 | nil=>cases G with
  | nil=>rfl
  | cons y t=>simp at h
 | cons f r ih=>cases G with
  | nil=>simp at h
  | cons g t =>
   rw [List.map_cons,List.map_cons,List.cons.injEq] at h
   rw [List.map_cons,List.map_cons,ih h.2]
   have h1:=h.1
   simp only [FnM.fn,Fn.mk.injEq] at h1
   obtain⟨a,b,c⟩:=h1
   have:f.bare=g.bare:=by unfold FnM.bare;rw [a,b,zy3 c]
   rw [this]
theorem zmu(F:List FnM):lenF (F.map FnM.bare)=lenF F:=by
 unfold lenF
 rw [List.map_map]
 rfl
theorem zob(n:Nat)(F:List FnM):zaM n (F.map FnM.bare)=zaM n F:=by
 induction F generalizing n with
 | nil=>rfl
 | cons f r ih=>rw [List.map_cons,zaM,zaM,ih];rfl
theorem zub(F:List FnM)(k:Nat)(x:ByteArray):labM (F.map FnM.bare) k x=labM F k x:=by
 unfold labM
 rw [←List.map_take,zmu,List.getElem?_map]
 cases F[k]? <;> rfl
theorem zw8(F:List FnM)(x:ByteArray):fnM (F.map FnM.bare) x=fnM F x:=by
 unfold fnM
 rw [show zbj (F.map FnM.bare)=zbj F from zob 0 F,←List.map_take,zmu]
theorem zkA(F:List FnM)(k:Nat)(R:List FnM):zc4 (F.map FnM.bare) k (R.map FnM.bare)=zc4 F k R:=by
 induction R generalizing k with
 | nil=>rfl
 | cons f r ih =>
  rw [List.map_cons,zc4,zc4,ih]
  congr 1
  unfold zeR insM
  simp only [zub,zw8]
  rfl
theorem ziP(F:List FnM):zao (F.map FnM.bare)=zao F:=zkA F 0 F
theorem zoc{L:List Said}{F G:List FnM}(h:Right L F)(h':Right L G):zao F=zao G:=by
 rw [←ziP F,←ziP G,zw7 (h.fns.trans h'.fns.symm)]
theorem zmv(s:ByteArray)(i:Nat)(n u:Int)(h0:least≤n)(h1:n≤0)(h:zfe s i n=some u):least≤u∧u≤0:=by
 by_cases hi:i<s.size
 ·by_cases hb:zdF n (bt s i-48)=true
  ·rw [zkS s i n hi hb] at h;cases h
  ·rw [zjv s i n hi hb] at h
   obtain⟨a,b,_,_⟩:=zuZ n _ hb h0 h1
   exact zmv s (i+1) _ u a b h
 ·rw [zkR s i n hi] at h;cases h;exact⟨h0,h1⟩
termination_by s.size-i
theorem zuc(s:ByteArray):i64 (zbc s).1:=by
 have key:∀ m i,i64 (zdc m (zfe s i 0)).1:=fun m i=>by
  cases h:zfe s i 0 with
  | none=>show i64 0;unfold i64;omega
  | some u =>
   obtain⟨a,b⟩:=zmv s i 0 u (by unfold least;omega) (Int.le_refl _) h
   unfold least at a
   show i64 (if m=true then(u,true) else(if u=least then least else -u,decide (least<u))).1
   cases m with
   | true=>show i64 u;unfold i64;omega
   | false =>
    show i64 (if u=least then least else -u)
    unfold i64 least
    split <;> omega
 unfold zbc
 split
 ·split
  ·show i64 0;unfold i64;omega
  ·exact key _ _
 ·split
  ·show i64 0;unfold i64;omega
  ·exact key _ _
theorem zrr(s:ByteArray):i64 (zcD s):=by
 unfold zcD
 split
 ·exact zuc s
 ·unfold i64;omega
theorem zy4(sh:List UInt8)(r:List ByteArray)(k:Nat):i64 (opK sh r k).n:=by
 induction k with
 | zero=>show i64 0;unfold i64;omega
 | succ k ih =>
  show i64 ((opK sh r k).take k _ _).n
  unfold Opd.take
  repeat' split
  all_goals first|exact ih|exact zrr _
theorem zy5(q:Said):i64 (opQ q).n:=by
 unfold opQ
 split
 ·exact zy4 _ _ _
 ·show i64 0;unfold i64;omega
theorem zy6(w:ByteArray)(a b c n l f:Int)(h:i64 n):zk0 (insX w a b c n l f):=by
 have key:∀(b:Bool) (x y:Ins),zk0 x→zk0 y→zk0 (if b=true then x else y):=fun b x y hx hy=>by
  cases b
  ·exact hy
  ·exact hx
 unfold insX
 repeat' (refine key _ _ _ ?_ ?_)
 all_goals first|exact h|trivial
theorem Right.sure{L:List Said}{F:List FnM}(R:Right L F):CodeSure (zao F):=by
 refine⟨R.codeOk,fun j hj=>?_⟩
 rw [zdK] at hj
 obtain⟨k,f,m,it,hk,hm,rfl⟩:=zkw F j hj
 have h1:=zfY F 0 F k f hk m it hm
 rw [Nat.zero_add] at h1
 have h2:(zao F)[lenF (F.take k)+m]?=some (insM F k it,it.line):=h1
 rw [(List.getElem?_eq_some_iff.1 h2).2]
 obtain⟨j2,hj2,_,hkey,_⟩:=R.it_at hk hm
 have hn:it.n=(opQ L[j2]).n:=congrArg Key.n hkey
 show zk0 (insX it.word it.a it.b it.c it.n _ _)
 exact zy6 _ _ _ _ _ _ _ (by rw [hn];exact zy5 _)
end
section
open Go.RowKit Sp
theorem zsC (v:Value) (w:World):(method 422 171 v "Do").run Tryz.prog w=.ok (232,v) w:=by kernel_rfl
theorem zqs(args:Array Value)(w:World):(callFunc 232 args).run Tryz.prog w=.ok (.enter 232 args) w:=by kernel_rfl
theorem zsD (v:Value) (w:World):(method 422 172 v "Do").run Tryz.prog w=.ok (239,v) w:=by kernel_rfl
theorem zqt(args:Array Value)(w:World):(callFunc 239 args).run Tryz.prog w=.ok (.enter 239 args) w:=by kernel_rfl
theorem zsE (v:Value) (w:World):(method 422 173 v "Do").run Tryz.prog w=.ok (243,v) w:=by kernel_rfl
theorem zqu(args:Array Value)(w:World):(callFunc 243 args).run Tryz.prog w=.ok (.enter 243 args) w:=by kernel_rfl
theorem zvF (i:Ins) (hi:zhn i) (w:World):(method 422 (insT i) (.agg (insA i)) "Do").run Tryz.prog w=.ok (insF i,.agg (insA i)) w:=by
 cases i with
 | alu o r s t =>
  have ho:=hi.1
  clear hi
  rcases(by omega:o=0∨o=1∨o=2) with rfl|rfl|rfl
  ·exact zsC _ w
  ·exact zsD _ w
  ·exact zsE _ w
 | _=>kernel_rfl
theorem zsF(i:Ins)(hi:zhn i)(args:Array Value)(w:World):(callFunc (insF i) args).run Tryz.prog w=.ok (.enter (insF i) args) w:=by
 cases i with
 | alu o r s t =>
  have ho:=hi.1
  clear hi
  rcases(by omega:o=0∨o=1∨o=2) with rfl|rfl|rfl
  ·exact zqs args w
  ·exact zqt args w
  ·exact zqu args w
 | _=>kernel_rfl
def stepsC(w:World)(b:Nat):Nat:=match w.cell? ⟨b,28,none⟩ with|some (.int _ s)=>s.toNat|_=>0
theorem MchM.stepsC{w:World}{b:Nat}{bv iv ov:Value}{m:Mc}(h:MchM w b bv iv ov m):Go.Proofs.YtfpgjkbjbbgciaaGreatDoor.stepsC w b=m.steps.toNat:=by unfold Go.Proofs.YtfpgjkbjbbgciaaGreatDoor.stepsC;rw [h.cS]
def finC(w:World)(b:Nat):Nat:=match w.cell? ⟨b,30,none⟩ with|some (.int _ s)=>(if s=0 then 1 else 0)|_=>0
theorem MchM.finC{w:World}{b:Nat}{bv iv ov:Value}{m:Mc}(h:MchM w b bv iv ov m):Go.Proofs.YtfpgjkbjbbgciaaGreatDoor.finC w b=if m.fin=0 then 1 else 0:=by unfold Go.Proofs.YtfpgjkbjbbgciaaGreatDoor.finC;rw [h.cE]
structure CRun(C:List (Ins × Int))(n g b:Nat)(w0 wr:World)(FIN m:Mc)(bv iv ov:Value):Prop where
 mch:MchAt wr b m bv iv ov
 inv:InvD C.length m
 st1:m.steps≤(n:Int)
 inp:m.inp.length≤9223372036854775807
 run:FIN=runS (zc0 C) (n-m.steps.toNat) m
 low:Below w0.heap.size w0 wr
theorem CRun.step{C:List (Ins × Int)}{n g b k:Nat}{w0 wr w':World}{FIN m:Mc}{bv iv ov bv' iv' ov':Value}(Z:CRun C n g b w0 wr FIN m bv iv ov)(K:CodeOk C)(h0:m.fin=0)(hlt:m.steps<(n:Int))(hk:m.at'=(k:Int))(hkl:k<C.length)(hb:w0.heap.size≤b)(M2:MchAt w' b (zaN C[k].1 m) bv' iv' ov')(hB:Below b wr w'):
  CRun C n g b w0 w' FIN (zaN C[k].1 m) bv' iv' ov'∧(n-(zaN C[k].1 m).steps.toNat)*2+(if(zaN C[k].1 m).fin=0 then 1 else 0)<(n-m.steps.toNat)*2+(if m.fin=0 then 1 else 0):=by
 have q0:=Z.inv.steps
 obtain⟨hF,hi⟩:=zip C[k].1 m h0
 have hinp:=Z.inp
 have hrun:FIN=runS (zc0 C) (n-m.steps.toNat-1) (zaN C[k].1 m):=by
  rw [Z.run,show n-m.steps.toNat=(n-m.steps.toNat-1)+1 by omega,zbO _ _ _ h0,zhy hk hkl]
  rfl
 rw [if_pos h0]
 rcases hF with ⟨hf,hs⟩|⟨hf,hs⟩
 ·refine⟨⟨M2,Z.inv.step h0 hk (K.leads k hkl),by omega,by omega,?_,Z.low.trans (hB.mono hb)⟩,by rw [hs];split <;> omega⟩
  rw [hrun,hs]
  congr 1
  omega
 ·refine⟨⟨M2,Z.inv.step h0 hk (K.leads k hkl),by omega,by omega,?_,Z.low.trans (hB.mono hb)⟩,by rw [hs,if_neg (by omega)];omega⟩
  rw [hrun,zcl _ _ _ (by omega),zcl _ _ _ (by omega)]
theorem MchM.below{w w':World}{b B:Nat}{bv iv ov:Value}{m:Mc}(h:MchM w b bv iv ov m)(hb:Below B w w')(hB:b<B):MchM w' b bv iv ov m:=h.of_block (hb.block b hB)
def zoM(w:World)(C:List (Ins × Int))(FIN:Mc):Ending→World→Prop:=fun e w'=>∃ ao no co,e=.returned (.agg (zaV FIN (.slice ao no co) (zho C FIN)).toArray)∧w'.ownsRow w.heap.size 2 1 (.slice ao no co) FIN.out.length (i64s FIN.out)∧Below w.heap.size w w'
theorem zkr{w w7:World}{C:List (Ins × Int)}{FIN:Mc}{ao:Option Addr}{no co:Nat}{act:Act}(ds:List Value)(hds:zaV FIN (.slice ao no co) (zho C FIN)=ds)(ht:w7.there w.heap.size 0 ds.toArray.size)(hb:Below w.heap.size w w7)(how:w7.ownsRow (w.heap.size+1) 2 1 (.slice ao no co) FIN.out.length (i64s FIN.out))
  (hp:act.tmps.getD 6 undef=.pointer (some ⟨w.heap.size,0,none⟩)) (hd:act.defers=[]) :
  bodyPost Tryz.prog Tryz.f53 (zoM w C FIN) .ret act (w7.setCells w.heap.size 0 ds):=by
 have hl:ds.length=30:=by rw [←hds];exact zbX _ _ _
 have hu34:Tryz.prog.underlying 34=some (.struct _):=Tryz.underlying34
 have hr:=World.rangeAt_setCells_same w7 w.heap.size 0 ds (by rw [show ds.length=ds.toArray.size by simp];exact ht)
 have hres:=run_loadVar_mid (w7.setCells w.heap.size 0 ds) w.heap.size 0 34 ds _ hr hu34 rfl (by rw [hl];exact Tryz.info34)
 refine bodyPost_ret (v:=.agg ds.toArray) (zdf Tryz.results53 _ ⟨w.heap.size,0,none⟩ hp hres) hd ⟨ao,no,co,by rw [hds],?_,zaF ds 0 hb (Nat.le_refl _)⟩
 have ho2:(w7.setCells w.heap.size 0 ds).ownsRow (w.heap.size+1) 2 1 (.slice ao no co) FIN.out.length (i64s FIN.out):=zaj how (fun q hq=>zbG ds w7 _ _ _ (by have:=(how.lt q hq).1;omega))
 exact zbV ho2 (by omega)
theorem zvG(w:World)(g cap n icap:Nat)(ao:Option Addr)(C:List (Ins × Int))(inp:List Int)(K:CodeOk C)(hC:CodeIn w g C)(hg:g<w.heap.size)(hiv:SlB w w.heap.size (.slice ao inp.length icap) inp)(hin:inp.length≤9223372036854775807)(hn:n≤100000)(FIN:Mc)(hF:runS (zc0 C) n (zbl inp)=FIN):
  Calls Tryz.prog 53 #[.slice (some ⟨g,0,none⟩) C.length cap,.slice ao inp.length icap,.int .i64 (n:Int)] w (zoM w C FIN):=by
 have hb1:Below w.heap.size w (w.alloc Z34):=(Below.refl _ _).alloc (Nat.le_refl _) _
 have hs1:(w.alloc Z34).heap.size=w.heap.size+1:=by simp
 have ht1:=zfS w
 have hnew:=zvE (w.alloc Z34) ao icap inp (hiv.mono hb1)
 have hI:=zeQ K inp
 have HF:Hid (FIN=runS (zc0 C) n (zbl inp)):=hF.symm
 clear hF
 have f1:(zbl inp).steps=0:=rfl
 have f2:(zbl inp).inp=inp:=rfl
 have hf:=K.few
 generalize zbl inp=m0 at hnew hI HF f1 f2
 rw [hs1] at hnew
 have hC1:=hC.below hb1 hg
 clear hiv hC
 go_enter Tryz.func53,Tryz.ntmps53
 go_wp2_with(first|(go_at_call 82;refine hnew.mono ?_;rintro e W2 ⟨rfl,⟨bv0,iv0,ov0,hM0⟩,hb2⟩))
 clear hnew
 generalize w.alloc Z34=W1 at hb1 hs1 ht1 hb2 hC1
 go_loopw [11] (fun _ wr=>∃(m:Mc) (bv iv ov:Value),CRun C n g (w.heap.size+1) W1 wr FIN m bv iv ov) (fun _ wr=>(n-stepsC wr (w.heap.size+1))*2+finC wr (w.heap.size+1))
 case atStart=>exact⟨m0,_,_,_,⟨hM0,hI,by omega,by rw [f2];exact hin,by rw [f1];exact HF.out,by rw [hs1];exact hb2⟩⟩
 case round =>
  obtain⟨m,bv,iv,ov,Z⟩:=hrel
  have cS:=Z.mch.mem.cS
  clear hM0 hb2 HF hI f1 f2
  have q0:=Z.inv.steps
  have g1:=zrY wr (w.heap.size+1) bv iv ov m Z.mch.mem
  have g2:=zpK wr (w.heap.size+1) bv iv ov m Z.mch.mem
  by_cases hgo:m.fin=0∧m.steps<(n:Int)
  ·obtain⟨h0,hlt⟩:=hgo
   obtain⟨k,hk,hkl⟩:=Z.inv.at_
   have g3:=zhR wr (w.heap.size+1) bv iv ov m Z.mch.mem
   rw [hk] at g3
   rw [show(m.fin == 0)=true by simp [h0]] at g1
   obtain⟨hcell,_⟩:=(hC1.below Z.low (by omega)) k hkl
   have hdo:=zzv C[k].1 (K.ok k hkl) Z.mch (Z.inv.inv hf h0) h0 (by omega) Z.inp
   have hmeth:=zvF C[k].1 (K.ok k hkl)
   have hcf:=zsF C[k].1 (K.ok k hkl)
   generalize hins:C[k].1=i at hcell hdo hmeth hcf
   generalize insF i=F at hdo hmeth hcf
   have hk0:(0:Int)≤(k:Int):=by omega
   have hk1:(k:Int)<(C.length:Int):=by omega
   go_wp2_with(first|(go_at_call 83;refine g1.mono ?_;rintro e wx ⟨rfl,hww⟩;have hw2:=hww.symm;subst hw2)|(go_at_call 84;refine g2.mono ?_;rintro e wx ⟨rfl,hww⟩;have hw2:=hww.symm;subst hw2)|(go_at_call 85;refine g3.mono ?_;rintro e wx ⟨rfl,hww⟩;have hw2:=hww.symm;subst hw2))
   refine hdo.mono ?_
   rintro e w3 ⟨rfl,bv',iv',ov',M2,hB⟩
   dsimp only
   rw [←hins] at M2
   obtain⟨Z2,hms⟩:=Z.step K h0 hlt hk hkl (by omega) M2 hB
   have q1:=Z2.mch.mem.stepsC
   have q2:=Z.mch.mem.stepsC
   have q3:=Z2.mch.mem.finC
   have q4:=Z.mch.mem.finC
   go_wp2
   go_roundw
   case rel=>exact⟨_,bv',iv',ov',Z2⟩
   case measure=>rw [q1,q2,q3,q4];exact hms
  ·have hF:FIN=m:=by
    by_cases h0:m.fin=0
    ·rw [Z.run,show n-m.steps.toNat=0 by have:=Z.st1;omega];rfl
    ·rw [Z.run,zcl _ _ _ h0]
   subst hF
   have M3:=Z.mch
   obtain⟨ao',co',rfl⟩:=zbb M3.out
   have hst:=zqq wr (w.heap.size+1) bv iv ao' _ co' FIN M3 Z.inv.frames Z.inv.few
   generalize hno:FIN.out.length=no' at hst
   have hl:=zbX FIN (.slice ao' no' co') 0
   have h1:=zcH FIN ao' no' co' 0
   obtain⟨ln,hlnq⟩:∃ ln,zho C FIN=ln:=⟨_,rfl⟩
   have HLN:Hid (zho C FIN=ln):=hlnq
   clear hlnq
   have hset:=zqa FIN (.slice ao' no' co') 0 (ln)
   generalize hds:zaV FIN (.slice ao' no' co') 0=ds at hst hl h1 hset
   have hi:=zcK ds hl
   have hout:=M3.out
   rw [hno] at hout
   have hl2':=zbX FIN (.slice ao' no' co') (ln)
   have h12:=zcH FIN ao' no' co' (ln)
   generalize hds2:zaV FIN (.slice ao' no' co') (ln)=ds2 at hset hl2' h12
   have hi2:=zcK ds2 hl2'
   have hid2:(Tryz.prog.info? 34).map (·.size)=some ds2.length:=by rw [hl2'];exact Tryz.info34
   have hu34:Tryz.prog.underlying 34=some (.struct _):=Tryz.underlying34
   obtain⟨k,hk,hkl⟩:=Z.inv.at_
   have hk0:(0:Int)≤(k:Int):=by omega
   have hk1:(k:Int)<(C.length:Int):=by omega
   by_cases h0:FIN.fin=0
   ·rw [show(FIN.fin == 0)=true by simp [h0]] at g1
    have hlt:decide (FIN.steps<(n:Int))=false:=by simp;omega
    have hfin:decide (FIN.fin=1∨FIN.fin=2)=false:=by simp [h0]
    have HLI:Hid (ln=C[k].2):=by rw [←HLN.out];show zho C FIN=C[k].2;unfold zho;rw [if_neg (by omega),hk,Int.toNat_natCast,List.getElem?_eq_getElem hkl];rfl
    go_wp2_with(first|(go_at_call 83;refine g1.mono ?_;rintro e wx ⟨rfl,hww⟩;have hw2:=hww.symm;subst hw2)|(go_at_call 84;refine g2.mono ?_;rintro e wx ⟨rfl,hww⟩;have hw2:=hww.symm;subst hw2))
    refine hst.mono ?_
    rintro e w4 ⟨rfl,hb4⟩
    dsimp only
    have ht5:=zhv (W1:=w4) rfl ds hl
    have hM4:=M3.mem.below hb4 M3.mem.lt
    have hsz4:=hb4.size
    have hszr:=M3.mem.lt
    have hB5:Below w4.heap.size w4 ((w4.alloc Z34).setCells w4.heap.size 0 ds.toArray.toList):=zaF _ 0 ((Below.refl w4.heap.size w4).alloc (Nat.le_refl _) _) (Nat.le_refl _)
    have hM5:=hM4.below hB5 (by omega)
    have g5:=zdW _ _ _ _ _ _ hM5
    rw [hfin] at g5
    have hr5:((w4.alloc Z34).setCells w4.heap.size 0 ds.toArray.toList).rangeAt w4.heap.size 0 ds:=by rw [show ds.toArray.toList=ds by simp];exact World.rangeAt_setCells_same _ _ _ _ (by rw [show ds.length=ds.toArray.size by simp];exact ht5)
    have hlow5:Below w.heap.size w ((w4.alloc Z34).setCells w4.heap.size 0 ds.toArray.toList):=(hb1.trans (Z.low.mono (by omega))).trans ((hb4.mono (by omega)).trans (hB5.mono (by omega)))
    have hthere5:((w4.alloc Z34).setCells w4.heap.size 0 ds.toArray.toList).there w.heap.size 0 30:=za9 (za9 (za9 ht1 Z.low (by omega)) hb4 (by omega)) hB5 (by omega)
    have how4:=zbw hout hb4 (Nat.le_refl _)
    have how4':=zbw how4 hB5 (Nat.le_refl _)
    have how5:((w4.alloc Z34).setCells w4.heap.size 0 ds.toArray.toList).ownsRow (w.heap.size+1) 2 1 (.slice ao' no' co') FIN.out.length (i64s FIN.out):=by rw [hno];exact zbV how4' (by omega)
    have hC5:=((hC1.below Z.low (by omega)).below hb4 (by omega)).below hB5 (by omega)
    go_wp2_with(first|(refine wpList_store_mid rfl 34 _ _ rfl w4.heap.size 0 ds.toArray rfl rfl ht5 hi h1 ?_)|(go_at_call 87;refine g5.mono ?_;rintro e wx ⟨rfl,hww⟩;have hw2:=hww.symm;subst hw2;refine Hid.out ?_))
    unfold Hid
    have h28:ds[28]?=some (.int .i64 0):=by rw [←hds];exact zlo _ _ _
    have hc28:=hr5 28 _ h28
    have hln:=hC5 k hkl
    have hl2:=hln.2
    rw [←HLI.out] at hl2
    have g6:=zhR _ _ _ _ _ _ hM5
    rw [hk] at g6
    have hf28:((w4.alloc Z34).setCells w4.heap.size 0 ds.toArray.toList).frozen? ⟨w4.heap.size,28,none⟩=false:=(World.there_setCells ht5 _ _ _ 28 (by simp [hl])).2
    have hr6:=zlp (n:=28) (v:=.int .i64 (ln)) hr5 hc28
    rw [hset] at hr6
    have ht6:(((w4.alloc Z34).setCells w4.heap.size 0 ds.toArray.toList).setCell ⟨w4.heap.size,0+28,none⟩ (.int .i64 (ln))).there w.heap.size 0 ds2.toArray.size:=by rw [show ds2.toArray.size=30 by simp [hl2']];exact zih hthere5 _ _
    have how6:(((w4.alloc Z34).setCells w4.heap.size 0 ds.toArray.toList).setCell ⟨w4.heap.size,0+28,none⟩ (.int .i64 (ln))).ownsRow (w.heap.size+1) 2 1 (.slice ao' no' co') FIN.out.length (i64s FIN.out):=zaj how5 (fun q hq=>Below.heap_setCell _ _ _ _ (fun e=>by have h9:=(hout.lt q hq).2;simp only at e;omega))
    have hlow6:=hlow5.setCell (p:=⟨w4.heap.size,0+28,none⟩) (by show w.heap.size≤w4.heap.size;omega) (.int .i64 (ln))
    clear hln hC5
    simp only [Nat.zero_add] at hr6 ht6 how6 hlow6 hf28 hc28 hl2 g6
    repeat(first
     | (go_at_call 85;refine g6.mono ?_;rintro e wx ⟨rfl,rfl⟩;dsimp only)
     | (refine wpList_load_mid rfl 34 _ rfl w4.heap.size 0 rfl ds2 _ hr6 hu34 rfl hid2 ?_)
     | (refine wpList_store_mid rfl 34 _ _ rfl w.heap.size 0 ds2.toArray rfl rfl ht6 hi2 h12 ?_)
     | go_values|go_skip|go_guarded|go_step|go_upon|go_back)
    exact zkr ds2 (by rw [HLN.out];exact hds2) ht6 hlow6 how6 rfl rfl
   ·rw [show(FIN.fin == 0)=false by simp [h0]] at g1
    by_cases hff:FIN.fin=1∨FIN.fin=2
    ·have hfin:decide (FIN.fin=1∨FIN.fin=2)=true:=by simpa using hff
     have hln0:ln=0:=by rw [←HLN.out];unfold zho;rw [if_pos hff]
     subst hln0
     have hdd:ds=ds2:=by rw [←hds2,←hds]
     subst hdd
     go_wp2_with(first|(go_at_call 83;refine g1.mono ?_;rintro e wx ⟨rfl,hww⟩;have hw2:=hww.symm;subst hw2)|(go_at_call 84;refine g2.mono ?_;rintro e wx ⟨rfl,hww⟩;have hw2:=hww.symm;subst hw2))
     refine hst.mono ?_
     rintro e w4 ⟨rfl,hb4⟩
     dsimp only
     have ht5:=zhv (W1:=w4) rfl ds hl
     have hM4:=M3.mem.below hb4 M3.mem.lt
     have hsz4:=hb4.size
     have hszr:=M3.mem.lt
     have hB5:Below w4.heap.size w4 ((w4.alloc Z34).setCells w4.heap.size 0 ds.toArray.toList):=zaF _ 0 ((Below.refl w4.heap.size w4).alloc (Nat.le_refl _) _) (Nat.le_refl _)
     have hM5:=hM4.below hB5 (by omega)
     have g5:=zdW _ _ _ _ _ _ hM5
     rw [hfin] at g5
     have hr5:((w4.alloc Z34).setCells w4.heap.size 0 ds.toArray.toList).rangeAt w4.heap.size 0 ds:=by rw [show ds.toArray.toList=ds by simp];exact World.rangeAt_setCells_same _ _ _ _ (by rw [show ds.length=ds.toArray.size by simp];exact ht5)
     have hlow5:Below w.heap.size w ((w4.alloc Z34).setCells w4.heap.size 0 ds.toArray.toList):=(hb1.trans (Z.low.mono (by omega))).trans ((hb4.mono (by omega)).trans (hB5.mono (by omega)))
     have hthere5:((w4.alloc Z34).setCells w4.heap.size 0 ds.toArray.toList).there w.heap.size 0 30:=za9 (za9 (za9 ht1 Z.low (by omega)) hb4 (by omega)) hB5 (by omega)
     have how4:=zbw hout hb4 (Nat.le_refl _)
     have how4':=zbw how4 hB5 (Nat.le_refl _)
     have how5:((w4.alloc Z34).setCells w4.heap.size 0 ds.toArray.toList).ownsRow (w.heap.size+1) 2 1 (.slice ao' no' co') FIN.out.length (i64s FIN.out):=by rw [hno];exact zbV how4' (by omega)
     have hC5:=((hC1.below Z.low (by omega)).below hb4 (by omega)).below hB5 (by omega)
     go_wp2_with(first|(refine wpList_store_mid rfl 34 _ _ rfl w4.heap.size 0 ds.toArray rfl rfl ht5 hi h1 ?_)|(go_at_call 87;refine g5.mono ?_;rintro e wx ⟨rfl,hww⟩;have hw2:=hww.symm;subst hw2;refine Hid.out ?_))
     unfold Hid
     have ht6:((w4.alloc Z34).setCells w4.heap.size 0 ds.toArray.toList).there w.heap.size 0 ds.toArray.size:=by rw [show ds.toArray.size=30 by simp [hl2']];exact hthere5
     simp only at hr5 ht6 how5 hlow5
     repeat(first
      | (refine wpList_load_mid rfl 34 _ rfl w4.heap.size 0 rfl ds _ hr5 hu34 rfl hid2 ?_)
      | (refine wpList_store_mid rfl 34 _ _ rfl w.heap.size 0 ds.toArray rfl rfl ht6 hi2 h12 ?_)
      | go_values|go_skip|go_guarded|go_step|go_upon|go_back)
     exact zkr ds (by rw [HLN.out];exact hds) ht6 hlow5 how5 rfl rfl
    ·have hfin:decide (FIN.fin=1∨FIN.fin=2)=false:=by simpa using hff
     have HLI:Hid (ln=C[k].2):=by rw [←HLN.out];show zho C FIN=C[k].2;unfold zho;rw [if_neg hff,hk,Int.toNat_natCast,List.getElem?_eq_getElem hkl];rfl
     go_wp2_with(first|(go_at_call 83;refine g1.mono ?_;rintro e wx ⟨rfl,hww⟩;have hw2:=hww.symm;subst hw2)|(go_at_call 84;refine g2.mono ?_;rintro e wx ⟨rfl,hww⟩;have hw2:=hww.symm;subst hw2))
     refine hst.mono ?_
     rintro e w4 ⟨rfl,hb4⟩
     dsimp only
     have ht5:=zhv (W1:=w4) rfl ds hl
     have hM4:=M3.mem.below hb4 M3.mem.lt
     have hsz4:=hb4.size
     have hszr:=M3.mem.lt
     have hB5:Below w4.heap.size w4 ((w4.alloc Z34).setCells w4.heap.size 0 ds.toArray.toList):=zaF _ 0 ((Below.refl w4.heap.size w4).alloc (Nat.le_refl _) _) (Nat.le_refl _)
     have hM5:=hM4.below hB5 (by omega)
     have g5:=zdW _ _ _ _ _ _ hM5
     rw [hfin] at g5
     have hr5:((w4.alloc Z34).setCells w4.heap.size 0 ds.toArray.toList).rangeAt w4.heap.size 0 ds:=by rw [show ds.toArray.toList=ds by simp];exact World.rangeAt_setCells_same _ _ _ _ (by rw [show ds.length=ds.toArray.size by simp];exact ht5)
     have hlow5:Below w.heap.size w ((w4.alloc Z34).setCells w4.heap.size 0 ds.toArray.toList):=(hb1.trans (Z.low.mono (by omega))).trans ((hb4.mono (by omega)).trans (hB5.mono (by omega)))
     have hthere5:((w4.alloc Z34).setCells w4.heap.size 0 ds.toArray.toList).there w.heap.size 0 30:=za9 (za9 (za9 ht1 Z.low (by omega)) hb4 (by omega)) hB5 (by omega)
     have how4:=zbw hout hb4 (Nat.le_refl _)
     have how4':=zbw how4 hB5 (Nat.le_refl _)
     have how5:((w4.alloc Z34).setCells w4.heap.size 0 ds.toArray.toList).ownsRow (w.heap.size+1) 2 1 (.slice ao' no' co') FIN.out.length (i64s FIN.out):=by rw [hno];exact zbV how4' (by omega)
     have hC5:=((hC1.below Z.low (by omega)).below hb4 (by omega)).below hB5 (by omega)
     go_wp2_with(first|(refine wpList_store_mid rfl 34 _ _ rfl w4.heap.size 0 ds.toArray rfl rfl ht5 hi h1 ?_)|(go_at_call 87;refine g5.mono ?_;rintro e wx ⟨rfl,hww⟩;have hw2:=hww.symm;subst hw2;refine Hid.out ?_))
     unfold Hid
     have h28:ds[28]?=some (.int .i64 0):=by rw [←hds];exact zlo _ _ _
     have hc28:=hr5 28 _ h28
     have hln:=hC5 k hkl
     have hl2:=hln.2
     rw [←HLI.out] at hl2
     have g6:=zhR _ _ _ _ _ _ hM5
     rw [hk] at g6
     have hf28:((w4.alloc Z34).setCells w4.heap.size 0 ds.toArray.toList).frozen? ⟨w4.heap.size,28,none⟩=false:=(World.there_setCells ht5 _ _ _ 28 (by simp [hl])).2
     have hr6:=zlp (n:=28) (v:=.int .i64 (ln)) hr5 hc28
     rw [hset] at hr6
     have ht6:(((w4.alloc Z34).setCells w4.heap.size 0 ds.toArray.toList).setCell ⟨w4.heap.size,0+28,none⟩ (.int .i64 (ln))).there w.heap.size 0 ds2.toArray.size:=by rw [show ds2.toArray.size=30 by simp [hl2']];exact zih hthere5 _ _
     have how6:(((w4.alloc Z34).setCells w4.heap.size 0 ds.toArray.toList).setCell ⟨w4.heap.size,0+28,none⟩ (.int .i64 (ln))).ownsRow (w.heap.size+1) 2 1 (.slice ao' no' co') FIN.out.length (i64s FIN.out):=zaj how5 (fun q hq=>Below.heap_setCell _ _ _ _ (fun e=>by have h9:=(hout.lt q hq).2;simp only at e;omega))
     have hlow6:=hlow5.setCell (p:=⟨w4.heap.size,0+28,none⟩) (by show w.heap.size≤w4.heap.size;omega) (.int .i64 (ln))
     clear hln hC5
     simp only [Nat.zero_add] at hr6 ht6 how6 hlow6 hf28 hc28 hl2 g6
     repeat(first
      | (go_at_call 85;refine g6.mono ?_;rintro e wx ⟨rfl,rfl⟩;dsimp only)
      | (refine wpList_load_mid rfl 34 _ rfl w4.heap.size 0 rfl ds2 _ hr6 hu34 rfl hid2 ?_)
      | (refine wpList_store_mid rfl 34 _ _ rfl w.heap.size 0 ds2.toArray rfl rfl ht6 hi2 h12 ?_)
      | go_values|go_skip|go_guarded|go_step|go_upon|go_back)
     exact zkr ds2 (by rw [HLN.out];exact hds2) ht6 hlow6 how6 rfl rfl
end
end Go.Proofs.YtfpgjkbjbbgciaaGreatDoor
