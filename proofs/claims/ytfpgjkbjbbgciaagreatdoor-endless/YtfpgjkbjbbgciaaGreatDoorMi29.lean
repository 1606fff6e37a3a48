import Derived.Test.YtfpgjkbjbbgciaaGreatDoorMi23
set_option maxRecDepth 100000
set_option maxHeartbeats 8000000
namespace Go.Proofs.YtfpgjkbjbbgciaaGreatDoor
open Go.RowKit Sp
theorem zgD{w W0 w3:World}(hs0:W0.heap.size=w.heap.size+1+1+1+1)(k0:W0.cell? ⟨w.heap.size+1+1,0,none⟩=some (.int .i64 0)∧W0.cell? ⟨w.heap.size+1+1,1,none⟩=some (.int .i64 0)∧W0.cell? ⟨w.heap.size+1+1+1,0,none⟩=some (.int .i64 0)∧W0.cell? ⟨w.heap.size+1+1+1,1,none⟩=some (.int .i64 0))
  (kz:∀ j,W0.frozen? ⟨w.heap.size+1+1,j,none⟩=false∧W0.frozen? ⟨w.heap.size+1+1+1,j,none⟩=false) (hb:Below W0.heap.size W0 w3) :
  (w3.cell? ⟨w.heap.size+1+1,0,none⟩=some (.int .i64 0)∧w3.cell? ⟨w.heap.size+1+1,1,none⟩=some (.int .i64 0)∧w3.cell? ⟨w.heap.size+1+1+1,0,none⟩=some (.int .i64 0)∧w3.cell? ⟨w.heap.size+1+1+1,1,none⟩=some (.int .i64 0)) ∧
  w3.frozen? ⟨w.heap.size+1+1,0,none⟩=false∧w3.frozen? ⟨w.heap.size+1+1,1,none⟩=false∧w3.frozen? ⟨w.heap.size+1+1+1,0,none⟩=false∧w3.frozen? ⟨w.heap.size+1+1+1,1,none⟩=false:=by
 have z:∀ b j,b<W0.heap.size→w3.frozen? ⟨b,j,none⟩=W0.frozen? ⟨b,j,none⟩:=fun b j h=>World.frozen?_of_block (w:=W0) (a:=⟨b,j,none⟩) (hb.block b h)
 refine⟨zbJ hb k0,?_,?_,?_,?_⟩
 ·rw [z _ _ (by omega)];exact(kz 0).1
 ·rw [z _ _ (by omega)];exact(kz 1).1
 ·rw [z _ _ (by omega)];exact(kz 0).2
 ·rw [z _ _ (by omega)];exact(kz 1).2
theorem zaX{W:World}{b c d:Nat}{x y v0 v1 v2 v3:Value}(n1:¬c=b)(n2:¬d=b)(h:W.cell? ⟨c,0,none⟩=some v0∧W.cell? ⟨c,1,none⟩=some v1∧W.cell? ⟨d,0,none⟩=some v2∧W.cell? ⟨d,1,none⟩=some v3):
  ((W.setCell ⟨b,0,none⟩ x).setCell ⟨b,1,none⟩ y).cell? ⟨c,0,none⟩=some v0∧((W.setCell ⟨b,0,none⟩ x).setCell ⟨b,1,none⟩ y).cell? ⟨c,1,none⟩=some v1∧((W.setCell ⟨b,0,none⟩ x).setCell ⟨b,1,none⟩ y).cell? ⟨d,0,none⟩=some v2∧((W.setCell ⟨b,0,none⟩ x).setCell ⟨b,1,none⟩ y).cell? ⟨d,1,none⟩=some v3:=by
 have e:∀(g o:Nat),¬g=b→((W.setCell ⟨b,0,none⟩ x).setCell ⟨b,1,none⟩ y).cell? ⟨g,o,none⟩=W.cell? ⟨g,o,none⟩:=fun g o hg=>by
  rw [World.cell?_setCell_other,World.cell?_setCell_other]
  all_goals simp
 rw [e c 0 n1,e c 1 n1,e d 0 n2,e d 1 n2]
 exact h
theorem zgE{W:World}{p q:Nat}{x0 x1 y0 y1 u0 u1 v0 v1:Value}(hne:¬p=q)(h:W.cell? ⟨p,0,none⟩=some u0∧W.cell? ⟨p,1,none⟩=some u1∧W.cell? ⟨q,0,none⟩=some v0∧W.cell? ⟨q,1,none⟩=some v1):
  ((((W.setCell ⟨p,0,none⟩ x0).setCell ⟨p,1,none⟩ x1).setCell ⟨q,0,none⟩ y0).setCell ⟨q,1,none⟩ y1).cell? ⟨p,0,none⟩=some x0∧((((W.setCell ⟨p,0,none⟩ x0).setCell ⟨p,1,none⟩ x1).setCell ⟨q,0,none⟩ y0).setCell ⟨q,1,none⟩ y1).cell? ⟨p,1,none⟩=some x1 ∧
  ((((W.setCell ⟨p,0,none⟩ x0).setCell ⟨p,1,none⟩ x1).setCell ⟨q,0,none⟩ y0).setCell ⟨q,1,none⟩ y1).cell? ⟨q,0,none⟩=some y0∧((((W.setCell ⟨p,0,none⟩ x0).setCell ⟨p,1,none⟩ x1).setCell ⟨q,0,none⟩ y0).setCell ⟨q,1,none⟩ y1).cell? ⟨q,1,none⟩=some y1:=by
 obtain⟨a1,a2⟩:=zap (v0:=x0) (v1:=x1) h.1 h.2.1
 have hne':¬q=p:=fun e=>hne e.symm
 have b:=zaX (b:=p) (x:=x0) (y:=x1) hne' hne' ⟨h.2.2.1,h.2.2.2,h.2.2.1,h.2.2.2⟩
 obtain⟨c1,c2⟩:=zap (v0:=y0) (v1:=y1) b.1 b.2.1
 have d:=zaX (b:=q) (x:=y0) (y:=y1) hne hne ⟨a1,a2,a1,a2⟩
 exact⟨d.1,d.2.1,c1,c2⟩
theorem zrd(a b c d:Int)(w:World)(hl:Rg.Ok ⟨a,b⟩)(hr:Rg.Ok ⟨c,d⟩)(hne:¬a=c):Calls Tryz.prog 277 #[rv ⟨a,b⟩,rv ⟨c,d⟩] w (zd7 w ⟨a,b⟩ ⟨c,d⟩ (za8 ⟨a,b⟩ ⟨c,d⟩)):=by
 have hq:za8 ⟨a,b⟩ ⟨c,d⟩=some ((⟨a,b⟩:Rg).without (⟨c,d⟩:Rg),(⟨c,d⟩:Rg).without (⟨a,b⟩:Rg)):=by unfold za8;rw [if_neg (by dsimp only;omega)]
 rw [hq]
 have g1:=fun W=>zcM (⟨a,b⟩:Rg) (⟨c,d⟩:Rg) W hl (by dsimp only;omega)
 have g2:=fun W=>zcM (⟨c,d⟩:Rg) (⟨a,b⟩:Rg) W hr (by dsimp only;omega)
 have H1:=ze8 w (⟨a,b⟩:Rg) (⟨c,d⟩:Rg) (.cells #[.int .i64 0,.int .i64 0] 213) (.cells #[.int .i64 0,.int .i64 0] 213)
 have hs0:((((w.alloc (.cells #[.int .i64 a,.int .i64 b] 213)).alloc (.cells #[.int .i64 c,.int .i64 d] 213)).alloc (.cells #[.int .i64 0,.int .i64 0] 213)).alloc (.cells #[.int .i64 0,.int .i64 0] 213)).heap.size=w.heap.size+1+1+1+1:=by simp
 have hB:Below w.heap.size w ((((w.alloc (.cells #[.int .i64 a,.int .i64 b] 213)).alloc (.cells #[.int .i64 c,.int .i64 d] 213)).alloc (.cells #[.int .i64 0,.int .i64 0] 213)).alloc (.cells #[.int .i64 0,.int .i64 0] 213)):=zb1
 have k0:((((w.alloc (.cells #[.int .i64 a,.int .i64 b] 213)).alloc (.cells #[.int .i64 c,.int .i64 d] 213)).alloc (.cells #[.int .i64 0,.int .i64 0] 213)).alloc (.cells #[.int .i64 0,.int .i64 0] 213)).cell? ⟨w.heap.size+1+1,0,none⟩=some (.int .i64 0)∧((((w.alloc (.cells #[.int .i64 a,.int .i64 b] 213)).alloc (.cells #[.int .i64 c,.int .i64 d] 213)).alloc (.cells #[.int .i64 0,.int .i64 0] 213)).alloc (.cells #[.int .i64 0,.int .i64 0] 213)).cell? ⟨w.heap.size+1+1,1,none⟩=some (.int .i64 0)∧((((w.alloc (.cells #[.int .i64 a,.int .i64 b] 213)).alloc (.cells #[.int .i64 c,.int .i64 d] 213)).alloc (.cells #[.int .i64 0,.int .i64 0] 213)).alloc (.cells #[.int .i64 0,.int .i64 0] 213)).cell? ⟨w.heap.size+1+1+1,0,none⟩=some (.int .i64 0)∧((((w.alloc (.cells #[.int .i64 a,.int .i64 b] 213)).alloc (.cells #[.int .i64 c,.int .i64 d] 213)).alloc (.cells #[.int .i64 0,.int .i64 0] 213)).alloc (.cells #[.int .i64 0,.int .i64 0] 213)).cell? ⟨w.heap.size+1+1+1,1,none⟩=some (.int .i64 0) :=
  ⟨za6 _ _ _ _ _ _ 0,za6 _ _ _ _ _ _ 1,zaz _ _ _ _ _ _ 0,zaz _ _ _ _ _ _ 1⟩
 have kz:∀ j,((((w.alloc (.cells #[.int .i64 a,.int .i64 b] 213)).alloc (.cells #[.int .i64 c,.int .i64 d] 213)).alloc (.cells #[.int .i64 0,.int .i64 0] 213)).alloc (.cells #[.int .i64 0,.int .i64 0] 213)).frozen? ⟨w.heap.size+1+1,j,none⟩=false∧((((w.alloc (.cells #[.int .i64 a,.int .i64 b] 213)).alloc (.cells #[.int .i64 c,.int .i64 d] 213)).alloc (.cells #[.int .i64 0,.int .i64 0] 213)).alloc (.cells #[.int .i64 0,.int .i64 0] 213)).frozen? ⟨w.heap.size+1+1+1,j,none⟩=false:=fun j =>
  ⟨(World.frozen?_alloc_past _ _ _ (by simp)).trans (zeT _ _ _ _ _ j),World.frozen?_alloc_at _ _ _ _ (by simp)⟩
 clear hl hr hq
 generalize (⟨a,b⟩:Rg).without (⟨c,d⟩:Rg)=A at g1
 generalize (⟨c,d⟩:Rg).without (⟨a,b⟩:Rg)=B at g2
 have m1:¬w.heap.size=w.heap.size+1+1:=by omega
 have m2:¬w.heap.size+1=w.heap.size+1+1:=by omega
 have m3:¬w.heap.size=w.heap.size+1+1+1:=by omega
 have m4:¬w.heap.size+1=w.heap.size+1+1+1:=by omega
 have t1:(a == c)=false:=by simpa using hne
 go_enter Tryz.func277,Tryz.ntmps277
 go_wp2_with fail
 generalize (((w.alloc (.cells #[.int .i64 a,.int .i64 b] 213)).alloc (.cells #[.int .i64 c,.int .i64 d] 213)).alloc (.cells #[.int .i64 0,.int .i64 0] 213)).alloc (.cells #[.int .i64 0,.int .i64 0] 213)=W0 at hs0 hB k0 kz H1
 go_region_held3 (fun W=>W.cell? ⟨w.heap.size,0,none⟩=some (.int .i64 a)∧W.cell? ⟨w.heap.size,1,none⟩=some (.int .i64 b)∧W.cell? ⟨w.heap.size+1,0,none⟩=some (.int .i64 c)∧W.cell? ⟨w.heap.size+1,1,none⟩=some (.int .i64 d))
  (first|(with_reducible exact H3)|(with_reducible exact H2)|(with_reducible exact zaX m1 m2 H3)|(with_reducible exact zaX m3 m4 H3)|(with_reducible exact zaX m3 m4 (zaX m1 m2 H3))|(with_reducible exact zaX m1 m2 (zaX m3 m4 H3))|exact H1)
  (first|(go_at_call 278;(with_reducible refine(g1 _).mono ?_);rintro e w2 ⟨rfl,hb2⟩;have H2:=zbJ hb2 H1)|(go_at_call 278;(with_reducible refine(g2 _).mono ?_);rintro e w3 ⟨rfl,hb3⟩;have H3:=zbJ hb3 H2;have hb03:Below W0.heap.size W0 w3:=((Below.refl _ _).drew).trans (hb2.trans (hb3.mono hb2.size));obtain⟨⟨q1,q2,q3,q4⟩,f1,f2,f3,f4⟩:=zgD hs0 k0 kz hb03))
 have hb03:Below W0.heap.size W0 w3:=((Below.refl _ _).drew).trans (hb2.trans (hb3.mono hb2.size))
 have hbw:=hB.trans (hb03.mono hB.size)
 have R:=zgE (x0:=.int .i64 A.lo) (x1:=.int .i64 A.hi) (y0:=.int .i64 B.lo) (y1:=.int .i64 B.hi) (show ¬w.heap.size+1+1=w.heap.size+1+1+1 by omega) ⟨q1,q2,q3,q4⟩
 have hX:Below w.heap.size w ((((w3.setCell ⟨w.heap.size+1+1,0,none⟩ (.int .i64 A.lo)).setCell ⟨w.heap.size+1+1,1,none⟩ (.int .i64 A.hi)).setCell ⟨w.heap.size+1+1+1,0,none⟩ (.int .i64 B.lo)).setCell ⟨w.heap.size+1+1+1,1,none⟩ (.int .i64 B.hi)):=zat (zat hbw (by omega)) (by omega)
 go_wp2
 exact zd8 (l:=A) (r:=B) Tryz.results277 rfl rfl rfl rfl R.1 R.2.1 R.2.2.1 R.2.2.2 ⟨hX,rfl⟩
theorem ln1(op a:List UInt8):ba (⟨true,[op,a]⟩:Ln).bytes=ba [9]++(ba (op++[32])++ba a):=by
 simp only [zc8];refine congrArg ba ?_;simp [Ln.bytes,Ln.blank,zcj]
theorem ln2(op a b:List UInt8):ba (⟨true,[op,a,b]⟩:Ln).bytes=ba [9]++(ba (op++[32])++ba a++ba [32]++ba b):=by
 simp only [zc8];refine congrArg ba ?_;simp [Ln.bytes,Ln.blank,zcj]
theorem ln3(op a b c:List UInt8):ba (⟨true,[op,a,b,c]⟩:Ln).bytes=ba [9]++(ba (op++[32])++ba a++ba [32]++ba b++ba [32]++ba c):=by
 simp only [zc8];refine congrArg ba ?_;simp [Ln.bytes,Ln.blank,zcj]
theorem zkf(n:Int)(h:i64 n):(ba (digL n)).size≤21:=by
 obtain⟨h1,h2⟩:=h
 have z1:=zdO n.natAbs (by omega)
 unfold digL
 split
 ·show(decL n.natAbs).length+1≤21
  have:(decL n.natAbs).length≤20:=z1
  omega
 ·exact Nat.le_trans z1 (by decide)
theorem zp8(n:Int)(h:i64 n):(digL n).length≤21:=zkf n h
theorem zgn(x:List UInt8)(r:List (List UInt8))(sh:List UInt8)(hx:Wd x)(hr:∀ y∈r,Wd y)(h1:¬x=[102,117,110,99])(h2:(x.getLast? == some 58)=false)(h4:zaa (ba x)=sh)(h5:¬sh=[63])(h6:r.length=sh.length)(h7:za7 sh (r.map ba)=true)(ha:zaE (ba x)=false)(hf:zbt (ba x)=false)(hsh:(⟨true,x :: r⟩:Ln).bytes.length≤200):Plain ⟨true,x :: r⟩:=by
 have e:(⟨true,x :: r⟩:Ln).said=⟨105,(x :: r).map ba,true⟩:=zgJ x r sh h1 h2 hx.ne h4 h5 h6 h7
 refine⟨fun y hy=>?_,by rw [e],by rw [e],by rw [e];exact ha,by rw [e];exact hf,hsh⟩
 rcases List.mem_cons.1 hy with q|q
 ·rw [q];exact hx
 ·exact hr y q
theorem zeG{i:Nat}(hi:i<8){a:Int}(h:i64 a):Plain (setL i a) :=
 zgn [115,101,116] [regW i,digL a] [82,75] (zdA (by decide)) (fun y hy=>by
  simp only [List.mem_cons,List.not_mem_nil,or_false] at hy
  rcases hy with rfl|rfl
  ·exact zfk i hi
  ·exact zur a) (by decide) (by decide) (by kernel_rfl) (by decide) rfl (by simp [za7,zeD i hi,zus a h.1 h.2]) (by kernel_rfl) (by kernel_rfl) (by have:=zp8 a h;simp [Ln.bytes,Ln.blank,zcj,regW];omega)
theorem zm7{i:Nat}(hi:i<8){a:Int}(h:i64 a):Plain (incL i a) :=
 zgn [105,110,99] [regW i,digL a] [82,75] (zdA (by decide)) (fun y hy=>by
  simp only [List.mem_cons,List.not_mem_nil,or_false] at hy
  rcases hy with rfl|rfl
  ·exact zfk i hi
  ·exact zur a) (by decide) (by decide) (by kernel_rfl) (by decide) rfl (by simp [za7,zeD i hi,zus a h.1 h.2]) (by kernel_rfl) (by kernel_rfl) (by have:=zp8 a h;simp [Ln.bytes,Ln.blank,zcj,regW];omega)
theorem zjd(x:List UInt8){i j:Nat}(hi:i<8)(hj:j<8)(hx:Wd x)(hxl:x.length≤10)(h1:¬x=[102,117,110,99])(h2:(x.getLast? == some 58)=false)(h4:zaa (ba x)=[82,82])(ha:zaE (ba x)=false)(hf:zbt (ba x)=false):Plain ⟨true,[x,regW i,regW j]⟩ :=
 zgn x [regW i,regW j] [82,82] hx (fun y hy=>by
  simp only [List.mem_cons,List.not_mem_nil,or_false] at hy
  rcases hy with rfl|rfl
  ·exact zfk i hi
  ·exact zfk j hj) h1 h2 h4 (by decide) rfl (by simp [za7,zeD i hi,zeD j hj]) ha hf (by simp [Ln.bytes,Ln.blank,zcj,regW];omega)
theorem zfD(x:List UInt8){i j k:Nat}(hi:i<8)(hj:j<8)(hk:k<8)(hx:Wd x)(hxl:x.length≤10)(h1:¬x=[102,117,110,99])(h2:(x.getLast? == some 58)=false)(h4:zaa (ba x)=[82,82,82])(ha:zaE (ba x)=false)(hf:zbt (ba x)=false):Plain ⟨true,[x,regW i,regW j,regW k]⟩ :=
 zgn x [regW i,regW j,regW k] [82,82,82] hx (fun y hy=>by
  simp only [List.mem_cons,List.not_mem_nil,or_false] at hy
  rcases hy with rfl|rfl|rfl
  ·exact zfk i hi
  ·exact zfk j hj
  ·exact zfk k hk) h1 h2 h4 (by decide) rfl (by simp [za7,zeD i hi,zeD j hj,zeD k hk]) ha hf (by simp [Ln.bytes,Ln.blank,zcj,regW];omega)
theorem zm8(x:List UInt8){i:Nat}(hi:i<8)(hx:Wd x)(hxl:x.length≤10)(h1:¬x=[102,117,110,99])(h2:(x.getLast? == some 58)=false)(h4:zaa (ba x)=[82])(ha:zaE (ba x)=false)(hf:zbt (ba x)=false):Plain ⟨true,[x,regW i]⟩ :=
 zgn x [regW i] [82] hx (fun y hy=>by
  simp only [List.mem_cons,List.not_mem_nil,or_false] at hy
  rw [hy];exact zfk i hi) h1 h2 h4 (by decide) rfl (by simp [za7,zeD i hi]) ha hf (by simp [Ln.bytes,Ln.blank,zcj,regW];omega)
def movL(i j:Nat):Ln:=⟨true,[[109,111,118],regW i,regW j]⟩
def zm9(i j:Nat):Ln:=⟨true,[[108,111,97,100],regW i,regW j]⟩
def zhk(i j:Nat):Ln:=⟨true,[[115,116,111,114,101],regW i,regW j]⟩
def zzF(i:Nat):Ln:=⟨true,[[114,101,97,100],regW i]⟩
def zuA(i:Nat):Ln:=⟨true,[[119,114,105,116,101],regW i]⟩
def aluW(o:Nat):List UInt8:=if o=0 then [97,100,100] else if o=1 then [115,117,98] else [109,117,108]
def aluL(o i j k:Nat):Ln:=⟨true,[aluW o,regW i,regW j,regW k]⟩
theorem zuB{i j:Nat}(hi:i<8)(hj:j<8):Plain (movL i j):=zjd _ hi hj (zdA (by decide)) (by decide) (by decide) (by decide) (by kernel_rfl) (by kernel_rfl) (by kernel_rfl)
theorem zgM{i j:Nat}(hi:i<8)(hj:j<8):Plain (zm9 i j):=zjd _ hi hj (zdA (by decide)) (by decide) (by decide) (by decide) (by kernel_rfl) (by kernel_rfl) (by kernel_rfl)
theorem zfE{i j:Nat}(hi:i<8)(hj:j<8):Plain (zhk i j):=zjd _ hi hj (zdA (by decide)) (by decide) (by decide) (by decide) (by kernel_rfl) (by kernel_rfl) (by kernel_rfl)
theorem zr9{i:Nat}(hi:i<8):Plain (zzF i):=zm8 _ hi (zdA (by decide)) (by decide) (by decide) (by decide) (by kernel_rfl) (by kernel_rfl) (by kernel_rfl)
theorem zje{i:Nat}(hi:i<8):Plain (zuA i):=zm8 _ hi (zdA (by decide)) (by decide) (by decide) (by decide) (by kernel_rfl) (by kernel_rfl) (by kernel_rfl)
theorem zuC(o:Nat){i j k:Nat}(hi:i<8)(hj:j<8)(hk:k<8):Plain (aluL o i j k):=by
 unfold aluL aluW
 split
 ·exact zfD _ hi hj hk (zdA (by decide)) (by decide) (by decide) (by decide) (by kernel_rfl) (by kernel_rfl) (by kernel_rfl)
 ·split
  ·exact zfD _ hi hj hk (zdA (by decide)) (by decide) (by decide) (by decide) (by kernel_rfl) (by kernel_rfl) (by kernel_rfl)
  ·exact zfD _ hi hj hk (zdA (by decide)) (by decide) (by decide) (by decide) (by kernel_rfl) (by kernel_rfl) (by kernel_rfl)
theorem zbo(r:Nat)(h:r<8)(w:World):Calls Tryz.prog 38 #[.int .i64 (r:Int)] w fun e w'=>∃ A:ByteArray,e=.returned (.string A)∧A.size=2∧Hid (A=ba (regW r))∧Below w.heap.size w w' :=
 (zwN r h w).mono fun _e _w' ⟨he,hb⟩=>⟨_,he,rfl,rfl,hb⟩
theorem zfl(n:Int)(h:i64 n)(w:World):Calls Tryz.prog 36 #[.int .i64 n] w fun e w'=>∃ A:ByteArray,e=.returned (.string A)∧A.size≤21∧Hid (A=ba (digL n))∧Below w.heap.size w w' :=
 (zdP n h w).mono fun _e _w' ⟨he,hb⟩=>⟨_,he,zkf n h,rfl,hb⟩
theorem zre(a b d:Int)(w:World)(hl:Rg.Ok ⟨a,b⟩)(hr:Rg.Ok ⟨a,d⟩)(hne:¬b=d):Calls Tryz.prog 277 #[rv ⟨a,b⟩,rv ⟨a,d⟩] w (zd7 w ⟨a,b⟩ ⟨a,d⟩ (za8 ⟨a,b⟩ ⟨a,d⟩)):=by
 have hq:za8 ⟨a,b⟩ ⟨a,d⟩=some ((⟨a,b⟩:Rg).without (⟨a,d⟩:Rg),(⟨a,d⟩:Rg).without (⟨a,b⟩:Rg)):=by unfold za8;rw [if_neg (by dsimp only;omega)]
 rw [hq]
 have g1:=fun W=>zcM (⟨a,b⟩:Rg) (⟨a,d⟩:Rg) W hl (by dsimp only;omega)
 have g2:=fun W=>zcM (⟨a,d⟩:Rg) (⟨a,b⟩:Rg) W hr (by dsimp only;omega)
 have H1:=ze8 w (⟨a,b⟩:Rg) (⟨a,d⟩:Rg) (.cells #[.int .i64 0,.int .i64 0] 213) (.cells #[.int .i64 0,.int .i64 0] 213)
 have hs0:((((w.alloc (.cells #[.int .i64 a,.int .i64 b] 213)).alloc (.cells #[.int .i64 a,.int .i64 d] 213)).alloc (.cells #[.int .i64 0,.int .i64 0] 213)).alloc (.cells #[.int .i64 0,.int .i64 0] 213)).heap.size=w.heap.size+1+1+1+1:=by simp
 have hB:Below w.heap.size w ((((w.alloc (.cells #[.int .i64 a,.int .i64 b] 213)).alloc (.cells #[.int .i64 a,.int .i64 d] 213)).alloc (.cells #[.int .i64 0,.int .i64 0] 213)).alloc (.cells #[.int .i64 0,.int .i64 0] 213)):=zb1
 have k0:((((w.alloc (.cells #[.int .i64 a,.int .i64 b] 213)).alloc (.cells #[.int .i64 a,.int .i64 d] 213)).alloc (.cells #[.int .i64 0,.int .i64 0] 213)).alloc (.cells #[.int .i64 0,.int .i64 0] 213)).cell? ⟨w.heap.size+1+1,0,none⟩=some (.int .i64 0)∧((((w.alloc (.cells #[.int .i64 a,.int .i64 b] 213)).alloc (.cells #[.int .i64 a,.int .i64 d] 213)).alloc (.cells #[.int .i64 0,.int .i64 0] 213)).alloc (.cells #[.int .i64 0,.int .i64 0] 213)).cell? ⟨w.heap.size+1+1,1,none⟩=some (.int .i64 0)∧((((w.alloc (.cells #[.int .i64 a,.int .i64 b] 213)).alloc (.cells #[.int .i64 a,.int .i64 d] 213)).alloc (.cells #[.int .i64 0,.int .i64 0] 213)).alloc (.cells #[.int .i64 0,.int .i64 0] 213)).cell? ⟨w.heap.size+1+1+1,0,none⟩=some (.int .i64 0)∧((((w.alloc (.cells #[.int .i64 a,.int .i64 b] 213)).alloc (.cells #[.int .i64 a,.int .i64 d] 213)).alloc (.cells #[.int .i64 0,.int .i64 0] 213)).alloc (.cells #[.int .i64 0,.int .i64 0] 213)).cell? ⟨w.heap.size+1+1+1,1,none⟩=some (.int .i64 0) :=
  ⟨za6 _ _ _ _ _ _ 0,za6 _ _ _ _ _ _ 1,zaz _ _ _ _ _ _ 0,zaz _ _ _ _ _ _ 1⟩
 have kz:∀ j,((((w.alloc (.cells #[.int .i64 a,.int .i64 b] 213)).alloc (.cells #[.int .i64 a,.int .i64 d] 213)).alloc (.cells #[.int .i64 0,.int .i64 0] 213)).alloc (.cells #[.int .i64 0,.int .i64 0] 213)).frozen? ⟨w.heap.size+1+1,j,none⟩=false∧((((w.alloc (.cells #[.int .i64 a,.int .i64 b] 213)).alloc (.cells #[.int .i64 a,.int .i64 d] 213)).alloc (.cells #[.int .i64 0,.int .i64 0] 213)).alloc (.cells #[.int .i64 0,.int .i64 0] 213)).frozen? ⟨w.heap.size+1+1+1,j,none⟩=false:=fun j =>
  ⟨(World.frozen?_alloc_past _ _ _ (by simp)).trans (zeT _ _ _ _ _ j),World.frozen?_alloc_at _ _ _ _ (by simp)⟩
 clear hl hr hq
 generalize (⟨a,b⟩:Rg).without (⟨a,d⟩:Rg)=A at g1
 generalize (⟨a,d⟩:Rg).without (⟨a,b⟩:Rg)=B at g2
 have m1:¬w.heap.size=w.heap.size+1+1:=by omega
 have m2:¬w.heap.size+1=w.heap.size+1+1:=by omega
 have m3:¬w.heap.size=w.heap.size+1+1+1:=by omega
 have m4:¬w.heap.size+1=w.heap.size+1+1+1:=by omega
 have t1:(b == d)=false:=by simpa using hne
 go_enter Tryz.func277,Tryz.ntmps277
 go_wp2_with fail
 generalize (((w.alloc (.cells #[.int .i64 a,.int .i64 b] 213)).alloc (.cells #[.int .i64 a,.int .i64 d] 213)).alloc (.cells #[.int .i64 0,.int .i64 0] 213)).alloc (.cells #[.int .i64 0,.int .i64 0] 213)=W0 at hs0 hB k0 kz H1
 go_region_held3 (fun W=>W.cell? ⟨w.heap.size,0,none⟩=some (.int .i64 a)∧W.cell? ⟨w.heap.size,1,none⟩=some (.int .i64 b)∧W.cell? ⟨w.heap.size+1,0,none⟩=some (.int .i64 a)∧W.cell? ⟨w.heap.size+1,1,none⟩=some (.int .i64 d))
  (first|(with_reducible exact H3)|(with_reducible exact H2)|(with_reducible exact zaX m1 m2 H3)|(with_reducible exact zaX m3 m4 H3)|(with_reducible exact zaX m3 m4 (zaX m1 m2 H3))|(with_reducible exact zaX m1 m2 (zaX m3 m4 H3))|exact H1)
  (first|(go_at_call 278;(with_reducible refine(g1 _).mono ?_);rintro e w2 ⟨rfl,hb2⟩;have H2:=zbJ hb2 H1)|(go_at_call 278;(with_reducible refine(g2 _).mono ?_);rintro e w3 ⟨rfl,hb3⟩;have H3:=zbJ hb3 H2;have hb03:Below W0.heap.size W0 w3:=((Below.refl _ _).drew).trans (hb2.trans (hb3.mono hb2.size));obtain⟨⟨q1,q2,q3,q4⟩,f1,f2,f3,f4⟩:=zgD hs0 k0 kz hb03))
 have hb03:Below W0.heap.size W0 w3:=((Below.refl _ _).drew).trans (hb2.trans (hb3.mono hb2.size))
 have hbw:=hB.trans (hb03.mono hB.size)
 have R:=zgE (x0:=.int .i64 A.lo) (x1:=.int .i64 A.hi) (y0:=.int .i64 B.lo) (y1:=.int .i64 B.hi) (show ¬w.heap.size+1+1=w.heap.size+1+1+1 by omega) ⟨q1,q2,q3,q4⟩
 have hX:Below w.heap.size w ((((w3.setCell ⟨w.heap.size+1+1,0,none⟩ (.int .i64 A.lo)).setCell ⟨w.heap.size+1+1,1,none⟩ (.int .i64 A.hi)).setCell ⟨w.heap.size+1+1+1,0,none⟩ (.int .i64 B.lo)).setCell ⟨w.heap.size+1+1+1,1,none⟩ (.int .i64 B.hi)):=zat (zat hbw (by omega)) (by omega)
 go_wp2
 exact zd8 (l:=A) (r:=B) Tryz.results277 rfl rfl rfl rfl R.1 R.2.1 R.2.2.1 R.2.2.2 ⟨hX,rfl⟩
theorem zmn(a b:Int)(w:World)(hl:Rg.Ok ⟨a,b⟩)(hne:¬a=b):Calls Tryz.prog 277 #[rv ⟨a,b⟩,rv ⟨a,b⟩] w (zd7 w ⟨a,b⟩ ⟨a,b⟩ (za8 ⟨a,b⟩ ⟨a,b⟩)):=by
 have hq:za8 ⟨a,b⟩ ⟨a,b⟩=some ((⟨a,b⟩:Rg).without (⟨a,b⟩:Rg),(⟨a,b⟩:Rg).without (⟨a,b⟩:Rg)):=by unfold za8;rw [if_neg (by dsimp only;omega)]
 rw [hq]
 have g1:=fun W=>zcM (⟨a,b⟩:Rg) (⟨a,b⟩:Rg) W hl (by dsimp only;omega)
 have g2:=fun W=>zcM (⟨a,b⟩:Rg) (⟨a,b⟩:Rg) W hl (by dsimp only;omega)
 have H1:=ze8 w (⟨a,b⟩:Rg) (⟨a,b⟩:Rg) (.cells #[.int .i64 0,.int .i64 0] 213) (.cells #[.int .i64 0,.int .i64 0] 213)
 have hs0:((((w.alloc (.cells #[.int .i64 a,.int .i64 b] 213)).alloc (.cells #[.int .i64 a,.int .i64 b] 213)).alloc (.cells #[.int .i64 0,.int .i64 0] 213)).alloc (.cells #[.int .i64 0,.int .i64 0] 213)).heap.size=w.heap.size+1+1+1+1:=by simp
 have hB:Below w.heap.size w ((((w.alloc (.cells #[.int .i64 a,.int .i64 b] 213)).alloc (.cells #[.int .i64 a,.int .i64 b] 213)).alloc (.cells #[.int .i64 0,.int .i64 0] 213)).alloc (.cells #[.int .i64 0,.int .i64 0] 213)):=zb1
 have k0:((((w.alloc (.cells #[.int .i64 a,.int .i64 b] 213)).alloc (.cells #[.int .i64 a,.int .i64 b] 213)).alloc (.cells #[.int .i64 0,.int .i64 0] 213)).alloc (.cells #[.int .i64 0,.int .i64 0] 213)).cell? ⟨w.heap.size+1+1,0,none⟩=some (.int .i64 0)∧((((w.alloc (.cells #[.int .i64 a,.int .i64 b] 213)).alloc (.cells #[.int .i64 a,.int .i64 b] 213)).alloc (.cells #[.int .i64 0,.int .i64 0] 213)).alloc (.cells #[.int .i64 0,.int .i64 0] 213)).cell? ⟨w.heap.size+1+1,1,none⟩=some (.int .i64 0)∧((((w.alloc (.cells #[.int .i64 a,.int .i64 b] 213)).alloc (.cells #[.int .i64 a,.int .i64 b] 213)).alloc (.cells #[.int .i64 0,.int .i64 0] 213)).alloc (.cells #[.int .i64 0,.int .i64 0] 213)).cell? ⟨w.heap.size+1+1+1,0,none⟩=some (.int .i64 0)∧((((w.alloc (.cells #[.int .i64 a,.int .i64 b] 213)).alloc (.cells #[.int .i64 a,.int .i64 b] 213)).alloc (.cells #[.int .i64 0,.int .i64 0] 213)).alloc (.cells #[.int .i64 0,.int .i64 0] 213)).cell? ⟨w.heap.size+1+1+1,1,none⟩=some (.int .i64 0) :=
  ⟨za6 _ _ _ _ _ _ 0,za6 _ _ _ _ _ _ 1,zaz _ _ _ _ _ _ 0,zaz _ _ _ _ _ _ 1⟩
 have kz:∀ j,((((w.alloc (.cells #[.int .i64 a,.int .i64 b] 213)).alloc (.cells #[.int .i64 a,.int .i64 b] 213)).alloc (.cells #[.int .i64 0,.int .i64 0] 213)).alloc (.cells #[.int .i64 0,.int .i64 0] 213)).frozen? ⟨w.heap.size+1+1,j,none⟩=false∧((((w.alloc (.cells #[.int .i64 a,.int .i64 b] 213)).alloc (.cells #[.int .i64 a,.int .i64 b] 213)).alloc (.cells #[.int .i64 0,.int .i64 0] 213)).alloc (.cells #[.int .i64 0,.int .i64 0] 213)).frozen? ⟨w.heap.size+1+1+1,j,none⟩=false:=fun j =>
  ⟨(World.frozen?_alloc_past _ _ _ (by simp)).trans (zeT _ _ _ _ _ j),World.frozen?_alloc_at _ _ _ _ (by simp)⟩
 clear hl hq
 generalize (⟨a,b⟩:Rg).without (⟨a,b⟩:Rg)=A at g1 g2
 have m1:¬w.heap.size=w.heap.size+1+1:=by omega
 have m2:¬w.heap.size+1=w.heap.size+1+1:=by omega
 have m3:¬w.heap.size=w.heap.size+1+1+1:=by omega
 have m4:¬w.heap.size+1=w.heap.size+1+1+1:=by omega
 have t1:(a == b)=false:=by simpa using hne
 go_enter Tryz.func277,Tryz.ntmps277
 go_wp2_with fail
 generalize (((w.alloc (.cells #[.int .i64 a,.int .i64 b] 213)).alloc (.cells #[.int .i64 a,.int .i64 b] 213)).alloc (.cells #[.int .i64 0,.int .i64 0] 213)).alloc (.cells #[.int .i64 0,.int .i64 0] 213)=W0 at hs0 hB k0 kz H1
 go_region_held3 (fun W=>W.cell? ⟨w.heap.size,0,none⟩=some (.int .i64 a)∧W.cell? ⟨w.heap.size,1,none⟩=some (.int .i64 b)∧W.cell? ⟨w.heap.size+1,0,none⟩=some (.int .i64 a)∧W.cell? ⟨w.heap.size+1,1,none⟩=some (.int .i64 b))
  (first|(with_reducible exact H3)|(with_reducible exact H2)|(with_reducible exact zaX m1 m2 H3)|(with_reducible exact zaX m3 m4 H3)|(with_reducible exact zaX m3 m4 (zaX m1 m2 H3))|(with_reducible exact zaX m1 m2 (zaX m3 m4 H3))|exact H1)
  (first|(go_at_call 278;(with_reducible refine(g1 _).mono ?_);rintro e w2 ⟨rfl,hb2⟩;have H2:=zbJ hb2 H1)|(go_at_call 278;(with_reducible refine(g2 _).mono ?_);rintro e w3 ⟨rfl,hb3⟩;have H3:=zbJ hb3 H2;have hb03:Below W0.heap.size W0 w3:=((Below.refl _ _).drew).trans (hb2.trans (hb3.mono hb2.size));obtain⟨⟨q1,q2,q3,q4⟩,f1,f2,f3,f4⟩:=zgD hs0 k0 kz hb03))
 have hb03:Below W0.heap.size W0 w3:=((Below.refl _ _).drew).trans (hb2.trans (hb3.mono hb2.size))
 have hbw:=hB.trans (hb03.mono hB.size)
 have R:=zgE (x0:=.int .i64 A.lo) (x1:=.int .i64 A.hi) (y0:=.int .i64 A.lo) (y1:=.int .i64 A.hi) (show ¬w.heap.size+1+1=w.heap.size+1+1+1 by omega) ⟨q1,q2,q3,q4⟩
 have hX:Below w.heap.size w ((((w3.setCell ⟨w.heap.size+1+1,0,none⟩ (.int .i64 A.lo)).setCell ⟨w.heap.size+1+1,1,none⟩ (.int .i64 A.hi)).setCell ⟨w.heap.size+1+1+1,0,none⟩ (.int .i64 A.lo)).setCell ⟨w.heap.size+1+1+1,1,none⟩ (.int .i64 A.hi)):=zat (zat hbw (by omega)) (by omega)
 go_wp2
 exact zd8 (l:=A) (r:=A) Tryz.results277 rfl rfl rfl rfl R.1 R.2.1 R.2.2.1 R.2.2.2 ⟨hX,rfl⟩
theorem znT(x:Int)(w:World):Calls Tryz.prog 277 #[rv ⟨x,x⟩,rv ⟨x,x⟩] w (zd7 w ⟨x,x⟩ ⟨x,x⟩ none):=by
 go_enter Tryz.func277,Tryz.ntmps277
 go_wp2
 go_region
 all_goals go_wp2
 all_goals exact zd8 (l:=⟨x,x⟩) (r:=⟨x,x⟩) Tryz.results277 rfl rfl rfl rfl (za6 _ _ _ _ _ _ 0) (za6 _ _ _ _ _ _ 1) (zaz _ _ _ _ _ _ 0) (zaz _ _ _ _ _ _ 1) ⟨zb1.drew,_,_,rfl⟩
theorem znU(l r:Rg)(w:World)(hl:l.Ok)(hr:r.Ok):Calls Tryz.prog 277 #[rv l,rv r] w (zd7 w l r (za8 l r)):=by
 obtain⟨a,b⟩:=l
 obtain⟨c,d⟩:=r
 by_cases h1:a=c
 ·subst h1
  by_cases h2:b=d
  ·subst h2
   by_cases h3:a=b
   ·subst h3
    rw [show za8 ⟨a,a⟩ ⟨a,a⟩=none from by unfold za8;rw [if_pos ⟨⟨rfl,rfl⟩,rfl⟩]]
    exact znT a w
   ·exact zmn a b w hl h3
  ·exact zre a b d w hl hr h2
 ·exact zrd a b c d w hl hr h1
end Go.Proofs.YtfpgjkbjbbgciaaGreatDoor
