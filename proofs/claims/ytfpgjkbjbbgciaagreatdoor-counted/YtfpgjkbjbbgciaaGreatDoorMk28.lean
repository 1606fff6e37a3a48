import Derived.Test.YtfpgjkbjbbgciaaGreatDoorMk27
set_option maxRecDepth 100000
set_option maxHeartbeats 8000000
namespace Go.Proofs.YtfpgjkbjbbgciaaGreatDoor
open Go.RowKit Sp
theorem znJ{P:Program}{o:Oper}{a:Act}{C:World→Prop}{K:Act→Prop}(t:TypeId)(parts:Array (Nat × Operand))(ho:o.op=.build t parts)(cells:Array Value)(vs:List (Nat × Value))(hv:(parts.map fun(i,x)=>(i,a.eval x))=vs.toArray)(hb:P.built t vs=some cells)
  (h:K (a.put o.dst (.agg cells))):o.quiet P a C K:=by
 refine⟨_,fun w _=>?_,h⟩;unfold Oper.quietAt execOp;simp only [ho,hv,Sem.run_bind,run_build w t _ cells hb,Sem.run_pure,Result.andThen_ok];exact⟨rfl,rfl⟩
theorem znK(s f p e:Int)(ao:Option Addr)(n c:Nat)(x0 x1 x2 x3 x4 x5 x6 x7 y0 y1 y2 y3 y4 y5 y6 y7 y8 y9 y10 y11 y12 y13 y14 y15:Value):
  Tryz.prog.built 34 [(0,.int .i64 s),(1,.agg #[x0,x1,x2,x3,x4,x5,x6,x7]),(2,.agg #[y0,y1,y2,y3,y4,y5,y6,y7,y8,y9,y10,y11,y12,y13,y14,y15]),(3,.slice ao n c),(4,.int .i64 f),(5,.int .i64 p),(7,.int .i64 e)]
   = some #[.int .i64 s,x0,x1,x2,x3,x4,x5,x6,x7,y0,y1,y2,y3,y4,y5,y6,y7,y8,y9,y10,y11,y12,y13,y14,y15,.slice ao n c,.int .i64 f,.int .i64 p,.int .i64 0,.int .i64 e]:=by kernel_rfl
theorem znL(m:Mc)(ao:Option Addr)(n c:Nat):
  Tryz.prog.built 34 [(0,.int .i64 m.steps),(1,.agg ((List.range 8).map (fun i=>Value.int .i64 (m.regs i))).toArray),(2,.agg ((List.range 16).map (fun i=>Value.int .i64 (m.cells i))).toArray),(3,.slice ao n c),(4,.int .i64 m.frames),(5,.int .i64 m.peak),(7,.int .i64 m.fin)]
   = some (zaH m (.slice ao n c) 0).toArray:=by
 rw [show(List.range 8).map (fun i=>Value.int .i64 (m.regs i))=[.int .i64 (m.regs 0),.int .i64 (m.regs 1),.int .i64 (m.regs 2),.int .i64 (m.regs 3),.int .i64 (m.regs 4),.int .i64 (m.regs 5),.int .i64 (m.regs 6),.int .i64 (m.regs 7)] from rfl,
  show(List.range 16).map (fun i=>Value.int .i64 (m.cells i))=[.int .i64 (m.cells 0),.int .i64 (m.cells 1),.int .i64 (m.cells 2),.int .i64 (m.cells 3),.int .i64 (m.cells 4),.int .i64 (m.cells 5),.int .i64 (m.cells 6),.int .i64 (m.cells 7),.int .i64 (m.cells 8),.int .i64 (m.cells 9),.int .i64 (m.cells 10),.int .i64 (m.cells 11),.int .i64 (m.cells 12),.int .i64 (m.cells 13),.int .i64 (m.cells 14),.int .i64 (m.cells 15)] from rfl,znK]
 rfl
theorem znM(w:World)(b:Nat)(bv iv ov:Value)(m:Mc)(M:MchAt w b m bv iv ov)(hfr:m.frames=if m.fin=2 then 0 else(m.backs.length:Int)+1)(hfew:m.backs.length≤15):Calls Tryz.prog 110 #[.pointer (some ⟨b,0,none⟩)] w fun e w'=>e=.returned (.int .i64 m.frames)∧w'=w:=by
 by_cases h:m.fin=2
 ·rw [hfr,if_pos h];exact znv w b bv iv ov m M.mem h
 ·rw [hfr,if_neg h];obtain⟨a,c,rfl⟩:=zba M.backs;exact zeD w b _ c a iv ov m M.mem (by omega) (by simpa using h)
theorem MchAt.drewN{w:World}{b:Nat}{m:Mc}{bv iv ov:Value}(h:MchAt w b m bv iv ov)(n:Nat):MchAt (w.drewN n) b m bv iv ov:=⟨h.mem.drewN n,h.backs,h.out,h.inp⟩
theorem MchAt.alloc{w:World}{b:Nat}{m:Mc}{bv iv ov:Value}(h:MchAt w b m bv iv ov)(x:Obj):MchAt (w.alloc x) b m bv iv ov :=
 (h.same (h.mem.alloc x) (World.grownBy_alloc w x _) rfl rfl rfl).1
theorem zqI(w:World)(b:Nat)(bv iv:Value)(ao:Option Addr)(no co:Nat)(m:Mc)(M:MchAt w b m bv iv (.slice ao no co))(hfr:m.frames=if m.fin=2 then 0 else(m.backs.length:Int)+1)(hfew:m.backs.length≤15):
  Calls Tryz.prog 86 #[.pointer (some ⟨b,0,none⟩)] w fun e w'=>e=.returned (.agg (zaH m (.slice ao no co) 0).toArray)∧Below w.heap.size w w':=by
 have h:=M.alloc Z34;have y:=fun n=>znM ((w.alloc Z34).drewN n) b bv iv _ m (h.drewN n) hfr hfew;have lg:=M.mem.lt;have hne4:¬w.heap.size=b:=by omega
 have hne5:¬b=w.heap.size:=by omega
 have cS:=h.mem.cS;have cO:=h.mem.cO;have cP:=h.mem.cP;have cE:=h.mem.cE;have l:(w.alloc Z34).rangeAt b 0 ((List.range 8).map (fun i=>Value.int .i64 (m.regs i))):=fun j v hv=>by
  have q:=(List.getElem?_eq_some_iff.1 hv).1;simp at q;rw [Nat.zero_add,h.mem.cR j q,←hv];simp [q]
 have k:(w.alloc Z34).rangeAt b 8 ((List.range 16).map (fun i=>Value.int .i64 (m.cells i))):=fun j v hv=>by
  have q:=(List.getElem?_eq_some_iff.1 hv).1;simp at q;rw [h.mem.cC j q,←hv];simp [q]
 have a:=znL m ao no co;have A:=zbF m (.slice ao no co) 0;have z:=zcs m ao no co 0;have d:(Tryz.prog.info? 31).map (·.size)=some ((List.range 8).map (fun i=>Value.int .i64 (m.regs i))).length:=by simp only [List.length_map,List.length_range];exact Tryz.info31
 have f:(Tryz.prog.info? 32).map (·.size)=some ((List.range 16).map (fun i=>Value.int .i64 (m.cells i))).length:=by simp only [List.length_map,List.length_range];exact Tryz.info32
 generalize (List.range 8).map (fun i=>Value.int .i64 (m.regs i))=RS at l a d;generalize (List.range 16).map (fun i=>Value.int .i64 (m.cells i))=CS at k a f;generalize zaH m (.slice ao no co) 0=ds at a A z ⊢;have s:Tryz.prog.underlying 31=some (.array _ _):=Tryz.underlying31;have t:Tryz.prog.underlying 32=some (.array _ _):=Tryz.underlying32;have C:(w.alloc Z34).there w.heap.size 0 30:=zfM w;have p:(Tryz.prog.info? 34).map (·.size)=some ds.toArray.size:=zcv ds A;go_enter Tryz.func86,Tryz.ntmps86;go_wp2_with fail
 refine zan 27 (by kernel_rfl) (by kernel_rfl) ?_;simp only [List.take_succ_cons,List.take_zero,List.drop_succ_cons,List.drop_zero];repeat(first
  | (refine BigFrame.wpQuiet_want rfl ?_;intro K c;refine zeY 31 _ rfl b 0 rfl RS _ l s rfl d ?_;refine c _ ?_;clear c K;simp only [Act.put,List.setIfInBounds_toArray,List.set_cons_succ,List.set_cons_zero])
  | (refine BigFrame.wpQuiet_want rfl ?_;intro K c;refine zeY 32 _ rfl b 8 rfl CS _ k t rfl f ?_;refine c _ ?_;clear c K;simp only [Act.put,List.setIfInBounds_toArray,List.set_cons_succ,List.set_cons_zero])
  | go_big_quiet_step (first|(go_at_call 110;exact Calls.quiet_of_same (y _))))
 refine BigFrame.wpQuiet_want rfl ?_;intro K c;refine znJ 34 _ rfl ds.toArray _ ?_ a ?_
 ·simp [Act.eval]
 refine c _ ?_;clear c K;simp only [Act.put,List.setIfInBounds_toArray,List.set_cons_succ,List.set_cons_zero];refine wpQuiet_nil ?_;rintro _ ⟨x,rfl⟩;have g:((w.alloc Z34).drewN x).there w.heap.size 0 ds.toArray.size:=by rw [show ds.toArray.size=30 by simp [A]];exact C
 have o:Below w.heap.size w ((w.alloc Z34).drewN x):=((Below.refl w.heap.size w).alloc (Nat.le_refl _) _).trans ((zhZ _ x).mono (by simp));generalize (w.alloc Z34).drewN x=W at g o ⊢;repeat(first
  | (refine wpList_store_mid rfl 34 _ _ rfl w.heap.size 0 ds.toArray rfl rfl g p z ?_)
  | go_values|go_skip|go_guarded|go_step|go_upon|go_back)
 have u:Tryz.prog.underlying 34=some (.struct _):=Tryz.underlying34;have B:=World.rangeAt_setCells_same W w.heap.size 0 ds (by rw [show ds.length=ds.toArray.size by simp];exact g);have r:=run_loadVar_mid (W.setCells w.heap.size 0 ds) w.heap.size 0 34 ds _ B u rfl (by rw [A];exact Tryz.info34);exact bodyPost_ret (v:=.agg ds.toArray) (zcX Tryz.results86 _ ⟨w.heap.size,0,none⟩ rfl r) rfl ⟨rfl,za8 ds 0 o (Nat.le_refl _)⟩
theorem ln1(op a:List UInt8):ba (⟨true,[op,a]⟩:Ln).bytes=ba [9]++(ba (op++[32])++ba a):=by
 simp only [zeg];refine congrArg ba ?_;simp [Ln.bytes,Ln.blank,zc8]
theorem ln2(op a b:List UInt8):ba (⟨true,[op,a,b]⟩:Ln).bytes=ba [9]++(ba (op++[32])++ba a++ba [32]++ba b):=by
 simp only [zeg];refine congrArg ba ?_;simp [Ln.bytes,Ln.blank,zc8]
theorem ln3(op a b c:List UInt8):ba (⟨true,[op,a,b,c]⟩:Ln).bytes=ba [9]++(ba (op++[32])++ba a++ba [32]++ba b++ba [32]++ba c):=by
 simp only [zeg];refine congrArg ba ?_;simp [Ln.bytes,Ln.blank,zc8]
theorem zkr(n:Int)(h:i64 n):(ba (digL n)).size≤21:=by
 obtain⟨h1,h2⟩:=h;have a:=zeO n.natAbs (by omega);unfold digL;split
 ·show(decL n.natAbs).length+1≤21;have:(decL n.natAbs).length≤20:=a;omega
 ·exact Nat.le_trans a (by decide)
theorem zpX(n:Int)(h:i64 n):(digL n).length≤21:=zkr n h
theorem zgm(x:List UInt8)(r:List (List UInt8))(sh:List UInt8)(hx:Wd x)(hr:∀ y∈r,Wd y)(h1:¬x=[102,117,110,99])(h2:(x.getLast? == some 58)=false)(h4:zaa (ba x)=sh)(h5:¬sh=[63])(h6:r.length=sh.length)(h7:za1 sh (r.map ba)=true)(ha:zaF (ba x)=false)(hf:zbt (ba x)=false)(hsh:(⟨true,x :: r⟩:Ln).bytes.length≤200):Plain ⟨true,x :: r⟩:=by
 have e:(⟨true,x :: r⟩:Ln).said=⟨105,(x :: r).map ba,true⟩:=zco x r sh h1 h2 hx.ne h4 h5 h6 h7;refine⟨fun y hy=>?_,by rw [e],by rw [e],by rw [e];exact ha,by rw [e];exact hf,hsh⟩;rcases List.mem_cons.1 hy with q|q
 ·rw [q];exact hx
 ·exact hr y q
theorem ze7{i:Nat}(hi:i<8){a:Int}(h:i64 a):Plain (setL i a) :=
 zgm [115,101,116] [regW i,digL a] [82,75] (zf6 (by decide)) (fun y hy=>by
  simp only [List.mem_cons,List.not_mem_nil,or_false] at hy;rcases hy with rfl|rfl
  ·exact zfa i hi
  ·exact zya a) (by decide) (by decide) (by kernel_rfl) (by decide) rfl (by simp [za1,zbo i hi,zpP a h.1 h.2]) (by kernel_rfl) (by kernel_rfl) (by have:=zpX a h;simp [Ln.bytes,Ln.blank,zc8,regW];omega)
theorem zmX{i:Nat}(hi:i<8){a:Int}(h:i64 a):Plain (incL i a) :=
 zgm [105,110,99] [regW i,digL a] [82,75] (zf6 (by decide)) (fun y hy=>by
  simp only [List.mem_cons,List.not_mem_nil,or_false] at hy;rcases hy with rfl|rfl
  ·exact zfa i hi
  ·exact zya a) (by decide) (by decide) (by kernel_rfl) (by decide) rfl (by simp [za1,zbo i hi,zpP a h.1 h.2]) (by kernel_rfl) (by kernel_rfl) (by have:=zpX a h;simp [Ln.bytes,Ln.blank,zc8,regW];omega)
theorem zjv(x:List UInt8){i j:Nat}(hi:i<8)(hj:j<8)(hx:Wd x)(hxl:x.length≤10)(h1:¬x=[102,117,110,99])(h2:(x.getLast? == some 58)=false)(h4:zaa (ba x)=[82,82])(ha:zaF (ba x)=false)(hf:zbt (ba x)=false):Plain ⟨true,[x,regW i,regW j]⟩ :=
 zgm x [regW i,regW j] [82,82] hx (fun y hy=>by
  simp only [List.mem_cons,List.not_mem_nil,or_false] at hy;rcases hy with rfl|rfl
  ·exact zfa i hi
  ·exact zfa j hj) h1 h2 h4 (by decide) rfl (by simp [za1,zbo i hi,zbo j hj]) ha hf (by simp [Ln.bytes,Ln.blank,zc8,regW];omega)
theorem zf7(x:List UInt8){i j k:Nat}(hi:i<8)(hj:j<8)(hk:k<8)(hx:Wd x)(hxl:x.length≤10)(h1:¬x=[102,117,110,99])(h2:(x.getLast? == some 58)=false)(h4:zaa (ba x)=[82,82,82])(ha:zaF (ba x)=false)(hf:zbt (ba x)=false):Plain ⟨true,[x,regW i,regW j,regW k]⟩ :=
 zgm x [regW i,regW j,regW k] [82,82,82] hx (fun y hy=>by
  simp only [List.mem_cons,List.not_mem_nil,or_false] at hy;rcases hy with rfl|rfl|rfl
  ·exact zfa i hi
  ·exact zfa j hj
  ·exact zfa k hk) h1 h2 h4 (by decide) rfl (by simp [za1,zbo i hi,zbo j hj,zbo k hk]) ha hf (by simp [Ln.bytes,Ln.blank,zc8,regW];omega)
theorem zmY(x:List UInt8){i:Nat}(hi:i<8)(hx:Wd x)(hxl:x.length≤10)(h1:¬x=[102,117,110,99])(h2:(x.getLast? == some 58)=false)(h4:zaa (ba x)=[82])(ha:zaF (ba x)=false)(hf:zbt (ba x)=false):Plain ⟨true,[x,regW i]⟩ :=
 zgm x [regW i] [82] hx (fun y hy=>by
  simp only [List.mem_cons,List.not_mem_nil,or_false] at hy;rw [hy];exact zfa i hi) h1 h2 h4 (by decide) rfl (by simp [za1,zbo i hi]) ha hf (by simp [Ln.bytes,Ln.blank,zc8,regW];omega)
def movL(i j:Nat):Ln:=⟨true,[[109,111,118],regW i,regW j]⟩
def zgO(i j:Nat):Ln:=⟨true,[[108,111,97,100],regW i,regW j]⟩
def zdL(i j:Nat):Ln:=⟨true,[[115,116,111,114,101],regW i,regW j]⟩
def zse(i:Nat):Ln:=⟨true,[[114,101,97,100],regW i]⟩
def zjw(i:Nat):Ln:=⟨true,[[119,114,105,116,101],regW i]⟩
def aluW(o:Nat):List UInt8:=if o=0 then [97,100,100] else if o=1 then [115,117,98] else [109,117,108]
def aluL(o i j k:Nat):Ln:=⟨true,[aluW o,regW i,regW j,regW k]⟩
theorem zve{i j:Nat}(hi:i<8)(hj:j<8):Plain (movL i j):=zjv _ hi hj (zf6 (by decide)) (by decide) (by decide) (by decide) (by kernel_rfl) (by kernel_rfl) (by kernel_rfl)
theorem zgP{i j:Nat}(hi:i<8)(hj:j<8):Plain (zgO i j):=zjv _ hi hj (zf6 (by decide)) (by decide) (by decide) (by decide) (by kernel_rfl) (by kernel_rfl) (by kernel_rfl)
theorem zf8{i j:Nat}(hi:i<8)(hj:j<8):Plain (zdL i j):=zjv _ hi hj (zf6 (by decide)) (by decide) (by decide) (by decide) (by kernel_rfl) (by kernel_rfl) (by kernel_rfl)
theorem zsf{i:Nat}(hi:i<8):Plain (zse i):=zmY _ hi (zf6 (by decide)) (by decide) (by decide) (by decide) (by kernel_rfl) (by kernel_rfl) (by kernel_rfl)
theorem zjx{i:Nat}(hi:i<8):Plain (zjw i):=zmY _ hi (zf6 (by decide)) (by decide) (by decide) (by decide) (by kernel_rfl) (by kernel_rfl) (by kernel_rfl)
theorem zvf(o:Nat){i j k:Nat}(hi:i<8)(hj:j<8)(hk:k<8):Plain (aluL o i j k):=by
 unfold aluL aluW;split
 ·exact zf7 _ hi hj hk (zf6 (by decide)) (by decide) (by decide) (by decide) (by kernel_rfl) (by kernel_rfl) (by kernel_rfl)
 ·split
  ·exact zf7 _ hi hj hk (zf6 (by decide)) (by decide) (by decide) (by decide) (by kernel_rfl) (by kernel_rfl) (by kernel_rfl)
  ·exact zf7 _ hi hj hk (zf6 (by decide)) (by decide) (by decide) (by decide) (by kernel_rfl) (by kernel_rfl) (by kernel_rfl)
theorem zbp(r:Nat)(h:r<8)(w:World):Calls Tryz.prog 38 #[.int .i64 (r:Int)] w fun e w'=>∃ A:ByteArray,e=.returned (.string A)∧A.size=2∧Hid (A=ba (regW r))∧Below w.heap.size w w' :=
 (zxy r h w).mono fun _e _w' ⟨he,hb⟩=>⟨_,he,rfl,rfl,hb⟩
theorem zfb(n:Int)(h:i64 n)(w:World):Calls Tryz.prog 36 #[.int .i64 n] w fun e w'=>∃ A:ByteArray,e=.returned (.string A)∧A.size≤21∧Hid (A=ba (digL n))∧Below w.heap.size w w' :=
 (zgI n h w).mono fun _e _w' ⟨he,hb⟩=>⟨_,he,zkr n h,rfl,hb⟩
theorem zum{w:World}{b:Nat}{bv:Value}{k:Kn}(h:KnM w b bv k)(r:Nat)(hr:r<8)(s:Nat)(hs:s<8)(t:Nat)(ht:t<8)(h0:0≤k.steps)(h1:k.steps≤100000)(n0:0≤k.next)(n1:k.next≤100000):
  Calls Tryz.prog 233 #[.agg #[.int .i64 (r:Int),.int .i64 (s:Int),.int .i64 (t:Int)],.pointer (some ⟨b,0,none⟩)] w (zaO w b bv ({ k with regs:=updR k.regs r ((k.regs s).plus (k.regs t)) }.goTo (k.next+1))):=by
 have hlt:=h.lt;have r0:(0:Int)≤(r:Int):=by omega
 have r1:(r:Int)<8:=by omega
 have s0:(0:Int)≤(s:Int):=by omega
 have s1:(s:Int)<8:=by omega
 have t0:(0:Int)≤(t:Int):=by omega
 have t1:(t:Int)<8:=by omega
 obtain⟨A,i⟩:∃ A,w.alloc (.cells #[.int .i64 (r:Int),.int .i64 (s:Int),.int .i64 (t:Int)] 171)=A:=⟨_,rfl⟩
 have f:∀ W,Below A.heap.size A W→KnM W b bv k:=fun W a=>by subst i;exact(h.alloc _).below a (by simp;omega)
 have n:∀ W,Below A.heap.size A W→(W.cell? ⟨w.heap.size,0,none⟩=some (.int .i64 (r:Int))∧W.cell? ⟨w.heap.size,1,none⟩=some (.int .i64 (s:Int))∧W.cell? ⟨w.heap.size,2,none⟩=some (.int .i64 (t:Int)))∧(W.cell? ⟨b,s*2,none⟩=some (.int .i64 (k.regs s).lo)∧W.cell? ⟨b,s*2+1,none⟩=some (.int .i64 (k.regs s).hi))∧(W.cell? ⟨b,t*2,none⟩=some (.int .i64 (k.regs t).lo)∧W.cell? ⟨b,t*2+1,none⟩=some (.int .i64 (k.regs t).hi)):=fun W a=>⟨by subst i;exact⟨za0 a 0,za0 a 1,za0 a 2⟩,(f W a).cR s hs,(f W a).cR t ht⟩
 go_enter Tryz.func233,Tryz.ntmps233;go_wp2;refine zad 20 (fun W=>Below A.heap.size A W) (Below.refl _ _).drew (by kernel_rfl) (by kernel_rfl) ?_;simp only [List.take_succ_cons,List.take_zero,List.drop_succ_cons,List.drop_zero];repeat(refine zab rfl ?_ (fun W a=>?_) ?_;rotate_left 1;· (obtain⟨⟨q,u,v⟩,⟨x,o⟩,⟨y,p⟩⟩:=n W a;go_simp;with_reducible rfl))
 refine zaJ rfl 234 #[rv (k.regs s),rv (k.regs t)] (rv ((k.regs s).plus (k.regs t))) (fun W a=>?_) (fun W a=>(zpE _ _ W).mono (fun e w' hh=>⟨hh.1,a.trans (hh.2.mono a.size)⟩)) ?_
 ·go_simp
 repeat(refine zab rfl ?_ (fun W a=>?_) ?_;rotate_left 1;· (obtain⟨⟨q,u,v⟩,⟨x,o⟩,⟨y,p⟩⟩:=n W a;go_simp;with_reducible rfl))
 refine wpQuiet_nil ?_;intro W a;have c:=f W a;have c0:=(c.cR r hr).1;have c1:=(c.cR r hr).2;have z0:=c.fz (r*2);have z1:=c.fz (r*2+1);have j:=c.putR r hr ((k.regs s).plus (k.regs t));go_wp2_with(go_at_call 227;(with_reducible refine(zbW j h0 h1 n0 n1).mono ?_);intro e w6 d;have m:=ze1 (i▸a) d;clear d;obtain⟨g,rfl,B,z,C,l⟩:=m)
 go_ret;exact⟨g,rfl,B,z,C,l⟩
theorem zun{w:World}{b:Nat}{bv:Value}{k:Kn}(h:KnM w b bv k)(K:KnOk k)(r:Nat)(hr:r<8)(s:Nat)(hs:s<8)(t:Nat)(ht:t<8)(h0:0≤k.steps)(h1:k.steps≤100000)(n0:0≤k.next)(n1:k.next≤100000):
  Calls Tryz.prog 244 #[.agg #[.int .i64 (r:Int),.int .i64 (s:Int),.int .i64 (t:Int)],.pointer (some ⟨b,0,none⟩)] w (zaO w b bv ({ k with regs:=updR k.regs r ((k.regs s).times (k.regs t)) }.goTo (k.next+1))):=by
 have hlt:=h.lt;have r0:(0:Int)≤(r:Int):=by omega
 have r1:(r:Int)<8:=by omega
 have s0:(0:Int)≤(s:Int):=by omega
 have s1:(s:Int)<8:=by omega
 have t0:(0:Int)≤(t:Int):=by omega
 have t1:(t:Int)<8:=by omega
 obtain⟨A,i⟩:∃ A,w.alloc (.cells #[.int .i64 (r:Int),.int .i64 (s:Int),.int .i64 (t:Int)] 173)=A:=⟨_,rfl⟩
 have f:∀ W,Below A.heap.size A W→KnM W b bv k:=fun W a=>by subst i;exact(h.alloc _).below a (by simp;omega)
 have n:∀ W,Below A.heap.size A W→(W.cell? ⟨w.heap.size,0,none⟩=some (.int .i64 (r:Int))∧W.cell? ⟨w.heap.size,1,none⟩=some (.int .i64 (s:Int))∧W.cell? ⟨w.heap.size,2,none⟩=some (.int .i64 (t:Int)))∧(W.cell? ⟨b,s*2,none⟩=some (.int .i64 (k.regs s).lo)∧W.cell? ⟨b,s*2+1,none⟩=some (.int .i64 (k.regs s).hi))∧(W.cell? ⟨b,t*2,none⟩=some (.int .i64 (k.regs t).lo)∧W.cell? ⟨b,t*2+1,none⟩=some (.int .i64 (k.regs t).hi)):=fun W a=>⟨by subst i;exact⟨za0 a 0,za0 a 1,za0 a 2⟩,(f W a).cR s hs,(f W a).cR t ht⟩
 go_enter Tryz.func244,Tryz.ntmps244;go_wp2;refine zad 20 (fun W=>Below A.heap.size A W) (Below.refl _ _).drew (by kernel_rfl) (by kernel_rfl) ?_;simp only [List.take_succ_cons,List.take_zero,List.drop_succ_cons,List.drop_zero];repeat(refine zab rfl ?_ (fun W a=>?_) ?_;rotate_left 1;· (obtain⟨⟨q,u,v⟩,⟨x,o⟩,⟨y,p⟩⟩:=n W a;go_simp;with_reducible rfl))
 refine zaJ rfl 245 #[rv (k.regs s),rv (k.regs t)] (rv ((k.regs s).times (k.regs t))) (fun W a=>?_) (fun W a=>(zul _ _ W (K.regs s hs) (K.regs t ht)).mono (fun e w' hh=>⟨hh.1,a.trans (hh.2.mono a.size)⟩)) ?_
 ·go_simp
 repeat(refine zab rfl ?_ (fun W a=>?_) ?_;rotate_left 1;· (obtain⟨⟨q,u,v⟩,⟨x,o⟩,⟨y,p⟩⟩:=n W a;go_simp;with_reducible rfl))
 refine wpQuiet_nil ?_;intro W a;have c:=f W a;have c0:=(c.cR r hr).1;have c1:=(c.cR r hr).2;have z0:=c.fz (r*2);have z1:=c.fz (r*2+1);have j:=c.putR r hr ((k.regs s).times (k.regs t));go_wp2_with(go_at_call 227;(with_reducible refine(zbW j h0 h1 n0 n1).mono ?_);intro e w6 d;have m:=ze1 (i▸a) d;clear d;obtain⟨g,rfl,B,z,C,l⟩:=m)
 go_ret;exact⟨g,rfl,B,z,C,l⟩
theorem zuo{w:World}{b:Nat}{bv:Value}{k:Kn}(h:KnM w b bv k)(r:Nat)(hr:r<8)(n:Int)(h0:0≤k.steps)(h1:k.steps≤100000)(n0:0≤k.next)(n1:k.next≤100000):
  Calls Tryz.prog 250 #[.agg #[.int .i64 (r:Int),.int .i64 n],.pointer (some ⟨b,0,none⟩)] w (zaO w b bv ({ k with regs:=updR k.regs r ((k.regs r).plus (only n)) }.goTo (k.next+1))):=by
 have hlt:=h.lt;have r0:(0:Int)≤(r:Int):=by omega
 have r1:(r:Int)<8:=by omega
 obtain⟨A,i⟩:∃ A,w.alloc (.cells #[.int .i64 (r:Int),.int .i64 n] 174)=A:=⟨_,rfl⟩
 have o:∀ W,Below A.heap.size A W→KnM W b bv k:=fun W a=>by subst i;exact(h.alloc _).below a (by simp;omega)
 have f:∀ W,Below A.heap.size A W→(W.cell? ⟨w.heap.size,0,none⟩=some (.int .i64 (r:Int))∧W.cell? ⟨w.heap.size,1,none⟩=some (.int .i64 n))∧(W.cell? ⟨b,r*2,none⟩=some (.int .i64 (k.regs r).lo)∧W.cell? ⟨b,r*2+1,none⟩=some (.int .i64 (k.regs r).hi)):=fun W a=>⟨by subst i;exact⟨za0 a 0,za0 a 1⟩,(o W a).cR r hr⟩
 go_enter Tryz.func250,Tryz.ntmps250;go_wp2;refine zad 16 (fun W=>Below A.heap.size A W) (Below.refl _ _).drew (by kernel_rfl) (by kernel_rfl) ?_;simp only [List.take_succ_cons,List.take_zero,List.drop_succ_cons,List.drop_zero];repeat(refine zab rfl ?_ (fun W a=>?_) ?_;rotate_left 1;· (obtain⟨⟨q,s⟩,⟨t,p⟩⟩:=f W a;go_simp;with_reducible rfl))
 refine zaJ rfl 226 #[.int .i64 n] (rv (only n)) (fun W a=>?_) (fun W a=>(zh7 n W).mono (fun e w' hh=>⟨hh.1,a.trans (hh.2.mono a.size)⟩)) ?_
 ·go_simp
 repeat(refine zab rfl ?_ (fun W a=>?_) ?_;rotate_left 1;· (obtain⟨⟨q,s⟩,⟨t,p⟩⟩:=f W a;go_simp;with_reducible rfl))
 refine zaJ rfl 234 #[rv (k.regs r),rv (only n)] (rv ((k.regs r).plus (only n))) (fun W a=>?_) (fun W a=>(zpE _ _ W).mono (fun e w' hh=>⟨hh.1,a.trans (hh.2.mono a.size)⟩)) ?_
 ·go_simp
 repeat(refine zab rfl ?_ (fun W a=>?_) ?_;rotate_left 1;· (obtain⟨⟨q,s⟩,⟨t,p⟩⟩:=f W a;go_simp;with_reducible rfl))
 refine wpQuiet_nil ?_;intro W a;have c:=o W a;have c0:=(c.cR r hr).1;have c1:=(c.cR r hr).2;have z0:=c.fz (r*2);have z1:=c.fz (r*2+1);have j:=c.putR r hr ((k.regs r).plus (only n));go_wp2_with(go_at_call 227;(with_reducible refine(zbW j h0 h1 n0 n1).mono ?_);intro e w6 d;have m:=ze1 (i▸a) d;clear d;obtain⟨g,rfl,v,u,x,l⟩:=m)
 go_ret;exact⟨g,rfl,v,u,x,l⟩
theorem zr1{w:World}{b:Nat}{bv:Value}{k:Kn}(h:KnM w b bv k)(r:Nat)(hr:r<8)(h0:0≤k.steps)(h1:k.steps≤100000)(n0:0≤k.next)(n1:k.next≤100000):
  Calls Tryz.prog 260 #[.agg #[.int .i64 (r:Int)],.pointer (some ⟨b,0,none⟩)] w (zaO w b bv ({ k with regs:=updR k.regs r (anyR) }.goTo (k.next+1))):=by
 have hlt:=h.lt;have r0:(0:Int)≤(r:Int):=by omega
 have r1:(r:Int)<8:=by omega
 obtain⟨A,f⟩:∃ A,w.alloc (.cells #[.int .i64 (r:Int)] 180)=A:=⟨_,rfl⟩
 have n:∀ W,Below A.heap.size A W→KnM W b bv k:=fun W a=>by subst f;exact(h.alloc _).below a (by simp;omega)
 have m:∀ W,Below A.heap.size A W→(W.cell? ⟨w.heap.size,0,none⟩=some (.int .i64 (r:Int))):=fun W a=>(by subst f;exact za0 a 0)
 go_enter Tryz.func260,Tryz.ntmps260;go_wp2;refine zad 6 (fun W=>Below A.heap.size A W) (Below.refl _ _).drew (by kernel_rfl) (by kernel_rfl) ?_;simp only [List.take_succ_cons,List.take_zero,List.drop_succ_cons,List.drop_zero];repeat(refine zab rfl ?_ (fun W a=>?_) ?_;rotate_left 1;· (obtain o:=m W a;go_simp;with_reducible rfl))
 refine zaJ rfl 238 #[] (rv anyR) (fun W a=>?_) (fun W a=>(zkJ W).mono (fun e w' hh=>⟨hh.1,a.trans (hh.2.mono a.size)⟩)) ?_
 ·go_simp
 repeat(refine zab rfl ?_ (fun W a=>?_) ?_;rotate_left 1;· (obtain o:=m W a;go_simp;with_reducible rfl))
 refine wpQuiet_nil ?_;intro W a;have c:=n W a;have c0:=(c.cR r hr).1;have c1:=(c.cR r hr).2;have z0:=c.fz (r*2);have z1:=c.fz (r*2+1);have i:=c.putR r hr (anyR);go_wp2_with(go_at_call 227;(with_reducible refine(zbW i h0 h1 n0 n1).mono ?_);intro e w6 d;have l:=ze1 (f▸a) d;clear d;obtain⟨g,rfl,q,p,s,j⟩:=l)
 go_ret;exact⟨g,rfl,q,p,s,j⟩
theorem zup{w:World}{b:Nat}{bv:Value}{k:Kn}(h:KnM w b bv k)(r:Nat)(hr:r<8)(s:Nat)(hs:s<8)(h0:0≤k.steps)(h1:k.steps≤100000)(n0:0≤k.next)(n1:k.next≤100000):
  Calls Tryz.prog 231 #[.agg #[.int .i64 (r:Int),.int .i64 (s:Int)],.pointer (some ⟨b,0,none⟩)] w (zaO w b bv ({ k with regs:=updR k.regs r (k.regs s) }.goTo (k.next+1))):=by
 have hlt:=h.lt;have r0:(0:Int)≤(r:Int):=by omega
 have r1:(r:Int)<8:=by omega
 have s0:(0:Int)≤(s:Int):=by omega
 have s1:(s:Int)<8:=by omega
 obtain⟨A,f⟩:∃ A,w.alloc (.cells #[.int .i64 (r:Int),.int .i64 (s:Int)] 169)=A:=⟨_,rfl⟩
 have m:∀ W,Below A.heap.size A W→KnM W b bv k:=fun W a=>by subst f;exact(h.alloc _).below a (by simp;omega)
 have n:∀ W,Below A.heap.size A W→(W.cell? ⟨w.heap.size,0,none⟩=some (.int .i64 (r:Int))∧W.cell? ⟨w.heap.size,1,none⟩=some (.int .i64 (s:Int)))∧(W.cell? ⟨b,s*2,none⟩=some (.int .i64 (k.regs s).lo)∧W.cell? ⟨b,s*2+1,none⟩=some (.int .i64 (k.regs s).hi)):=fun W a=>⟨by subst f;exact⟨za0 a 0,za0 a 1⟩,(m W a).cR s hs⟩
 go_enter Tryz.func231,Tryz.ntmps231;go_wp2;refine zad 12 (fun W=>Below A.heap.size A W) (Below.refl _ _).drew (by kernel_rfl) (by kernel_rfl) ?_;simp only [List.take_succ_cons,List.take_zero,List.drop_succ_cons,List.drop_zero];repeat(refine zab rfl ?_ (fun W a=>?_) ?_;rotate_left 1;· (obtain⟨⟨f0,f1⟩,⟨gs,es⟩⟩:=n W a;go_simp;with_reducible rfl))
 refine wpQuiet_nil ?_;intro W a;have c:=m W a;have c0:=(c.cR r hr).1;have c1:=(c.cR r hr).2;have z0:=c.fz (r*2);have z1:=c.fz (r*2+1);have i:=c.putR r hr (k.regs s);go_wp2_with(go_at_call 227;(with_reducible refine(zbW i h0 h1 n0 n1).mono ?_);intro e w6 d;have l:=ze1 (f▸a) d;clear d;obtain⟨g,rfl,p,o,q,j⟩:=l)
 go_ret;exact⟨g,rfl,p,o,q,j⟩
end Go.Proofs.YtfpgjkbjbbgciaaGreatDoor
