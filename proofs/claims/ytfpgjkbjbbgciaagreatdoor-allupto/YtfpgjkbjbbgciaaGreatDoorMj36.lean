import Derived.Test.YtfpgjkbjbbgciaaGreatDoorMj28
import Derived.Test.YtfpgjkbjbbgciaaGreatDoorMj33
import Derived.Test.YtfpgjkbjbbgciaaGreatDoorMj35
set_option maxRecDepth 100000
set_option maxHeartbeats 8000000
namespace Go.Proofs.YtfpgjkbjbbgciaaGreatDoor
section
open Go.RowKit Sp
theorem zki{w w2:World}{b:Nat}{bv:Value}{ks:List Kn}{e:Ending}{w':World}(hg:w.grownBy w2 (some b))(h:zcU w2 b bv ks e w'):zcU w b bv ks e w':=by
 obtain⟨j,a,c,rfl,A⟩:=h;refine⟨j,a,c,rfl,⟨zag hg A.grown,fun i p hp=>?_,A.len,A.kn,A.nodup,fun p hp=>?_⟩⟩
 ·obtain⟨g,e,d,f⟩:=A.ptrs i p hp;exact⟨g,e,Nat.le_trans hg.size d,f⟩
 ·rcases A.from' p hp with e|e
  ·exact .inl e
  ·exact .inr (Nat.le_trans hg.size e)
theorem zol{w:World}{b:Nat}{bv:Value}{k:Kn}(h:KnM w b bv k)(r:Nat)(h0:0≤k.steps)(h1:k.steps≤100000)(n0:0≤k.next)(n1:k.next≤100000):
  qC 263 #[.agg #[.int .i64 (r:Int)],.pointer (some ⟨b,0,none⟩)] w (zbe w b bv (k.goTo (k.next+1))):=by
 have j:=h.alloc (.cells #[.int .i64 (r:Int)] 182);go_enter Tryz.func263,Tryz.ntmps263;go_wp2_with(go_at_call 227;(with_reducible refine(zc0 j h0 h1 n0 n1).mono ?_);intro e w6 a;have d:=zdv (zaV (b:=some b) box1) a;clear a;obtain⟨g,rfl,l,i,f,c⟩:=d)
 go_ret;exact⟨g,rfl,l,i,f,c⟩
theorem zrB{w:World}{b:Nat}{bv:Value}{k:Kn}(h:KnM w b bv k)(z:Int)(h0:0≤k.steps)(h1:k.steps≤100000):
  qC 266 #[.agg #[.int .i64 z],.pointer (some ⟨b,0,none⟩)] w (zbe w b bv (k.goTo z)):=by
 have j:=h.alloc (.cells #[.int .i64 z] 185);go_enter Tryz.func266,Tryz.ntmps266;go_wp2_with(go_at_call 229;(with_reducible refine(zgr j z h0 h1).mono ?_);intro e w6 a;have d:=zdv (zaV (b:=some b) box1) a;clear a;obtain⟨g,rfl,l,i,f,c⟩:=d)
 go_ret;exact⟨g,rfl,l,i,f,c⟩
theorem zrC{w:World}(p:Value):qC 289 #[.agg #[],p] w (qR w (.slice none 0 0)):=by
 go_enter Tryz.func289,Tryz.ntmps289;go_wp2;go_ret;exact⟨rfl,box1⟩
theorem zrD{w:World}{b cap:Nat}{ao:Option Addr}{k:Kn}(h:KnM w b (.slice ao k.behind.length cap) k)(B:BhM w ao cap k.behind)(z:Int)(hlen:k.behind.length<15)(h0:0≤k.steps)(h1:k.steps≤100000)(n0:0≤k.next)(n1:k.next≤100000):
  qC 280 #[.agg #[.int .i64 z],.pointer (some ⟨b,0,none⟩)] w (zp0 w b k z):=by
 have q:=h.alloc (.cells #[.int .i64 z] 190);have n:=B.below (w':=w.alloc (.cells #[.int .i64 z] 190)) box1;go_enter Tryz.func280,Tryz.ntmps280;go_wp2_with(go_at_call 282;(with_reducible refine(zun q n z hlen h0 h1 n0 n1).mono ?_);intro e w6 f;obtain⟨l,m,a,i,j⟩:=f;have c:=zdv (zaV (b:=some b) box1) a;clear a;obtain⟨g,rfl,r,o,p,d⟩:=c)
 go_ret;exact⟨l,m,⟨g,rfl,r,o,p,d⟩,i,Nat.le_trans (by simp) j⟩
theorem ziS{w:World}{b cap:Nat}{ao:Option Addr}{k:Kn}(h:KnM w b (.slice ao k.behind.length cap) k)(z:Int)(hlen:k.behind.length=15):
  qC 280 #[.agg #[.int .i64 z],.pointer (some ⟨b,0,none⟩)] w fun e w'=>e=zak 8 0∧qB w w':=by
 have d:=h.alloc (.cells #[.int .i64 z] 190);go_enter Tryz.func280,Tryz.ntmps280;go_wp2_with(go_at_call 282;(with_reducible refine(zr9 d z hlen).mono ?_);rintro e wx ⟨rfl,c⟩;have a:=c.symm;subst a)
 exact⟨rfl,rfl,box1⟩
theorem ziT{w:World}{b cap:Nat}{ao:Option Addr}{k:Kn}(h:KnM w b (.slice ao 0 cap) k):qC 285 #[.agg #[],.pointer (some ⟨b,0,none⟩)] w (qR w (.slice none 0 0)):=by
 have d:=h.alloc (.cells #[] 192);go_enter Tryz.func285,Tryz.ntmps285;go_wp2_with(go_at_call 287;(with_reducible refine(zum d).mono ?_);rintro e wx ⟨rfl,c⟩;have a:=c.symm;subst a)
 go_ret;exact⟨rfl,box1⟩
theorem ziU{w:World}{b cap:Nat}{ao:Option Addr}{k:Kn}{x:Int}{l:List Int}(h:KnM w b (.slice ao k.behind.length cap) k)(B:BhM w ao cap k.behind)(hk:k.behind=l++[x])(ap:∀ a,ao=some a→¬a.block=b)(h0:0≤k.steps)(h1:k.steps≤100000):
  qC 285 #[.agg #[],.pointer (some ⟨b,0,none⟩)] w fun e w'=>zbe w b (.slice ao l.length cap) ({ k with behind:=l }.goTo x) e w'∧BhM w' ao cap l:=by
 have o:=h.alloc (.cells #[] 192);have m:=B.below (w':=w.alloc (.cells #[] 192)) box1;go_enter Tryz.func285,Tryz.ntmps285;go_wp2_with(go_at_call 287;(with_reducible refine(zrA o m hk ap h0 h1).mono ?_);intro e w6 i;obtain⟨c,j⟩:=i;have d:=zdv (zaV (b:=some b) box1) c;clear c;obtain⟨g,rfl,p,n,hk,f⟩:=d)
 go_ret;exact⟨⟨g,rfl,p,n,hk,f⟩,j⟩
end
section
open Go.RowKit Sp Go.Lib
theorem zur{w:World}{S o H cap m p0 pl:Nat}(hc:w.cell? ⟨S,o,none⟩=some (.slice (some ⟨H,0,none⟩) (m+1) cap))(hz:w.frozen? ⟨S,o,none⟩=false)(hSH:¬S=H)(hm:m≤100000)(hcap:m+1≤cap)(_hcm:cap≤maxLen)(c0:w.cell? ⟨H,0,none⟩=some (.pointer (some ⟨p0,0,none⟩)))(cl:w.cell? ⟨H,m,none⟩=some (.pointer (some ⟨pl,0,none⟩)))(fz:∀ j,w.frozen? ⟨H,j,none⟩=false)(_hS:S<w.heap.size)
  (Q:World→Prop)
  (hsink:∀ W,Below w.heap.size (((w.setCell ⟨H,0,none⟩ (.pointer (some ⟨pl,0,none⟩))).setCell ⟨H,m,none⟩ (.pointer none)).setCell ⟨S,o,none⟩ (.slice (some ⟨H,0,none⟩) m cap)) W→qC 154 #[.slice (some ⟨H,0,none⟩) m cap,.int .i64 0] W fun e w'=>e=.returned (.tuple #[])∧Q w') :
  qC 139 #[.pointer (some ⟨S,o,none⟩)] w fun e w'=>e=.returned (.pointer (some ⟨p0,0,none⟩))∧Q w':=by
 unfold maxLen at _hcm;have f0:=fz 0;have d:=fz m;have hHS:¬H=S:=fun e=>hSH e.symm;have m0:(0:Int)≤(m:Int):=by omega
 have l0:(w.setCell ⟨H,0,none⟩ (.pointer (some ⟨pl,0,none⟩))).cell? ⟨H,m,none⟩=some (.pointer (some ⟨pl,0,none⟩)):=by
  rw [zat w H 0 m _ _ c0];split
  ·rfl
  ·exact cl
 have g:(w.setCell ⟨H,0,none⟩ (.pointer (some ⟨pl,0,none⟩))).frozen? ⟨H,m,none⟩=false:=zdj.trans d;have a:∀ j,j<1→((w.setCell ⟨H,0,none⟩ (.pointer (some ⟨pl,0,none⟩))).drew.cell? ⟨H,m+j,none⟩).isSome=true:=fun j hj=>by
  have e:j=0:=by omega
  rw [e,Nat.add_zero];show((w.setCell ⟨H,0,none⟩ (.pointer (some ⟨pl,0,none⟩))).cell? ⟨H,m,none⟩).isSome=true;rw [l0];rfl
 have c:∀ j,j<1→(w.setCell ⟨H,0,none⟩ (.pointer (some ⟨pl,0,none⟩))).drew.frozen? ⟨H,m+j,none⟩=false:=fun j hj=>by
  have e:j=0:=by omega
  rw [e,Nat.add_zero];exact g
 have b:∀ w,(zeroValue 197).run Tryz.prog w=.ok (.pointer none) w:=fun w=>by kernel_rfl
 have hclr:(Builtin.clear_ #[151] 0 #[.slice (some ⟨H,m,none⟩) 1 (cap-m)]).run Tryz.prog (w.setCell ⟨H,0,none⟩ (.pointer (some ⟨pl,0,none⟩))).drew=.ok (.tuple #[]) ((w.setCell ⟨H,0,none⟩ (.pointer (some ⟨pl,0,none⟩))).drew.setCell ⟨H,m,none⟩ (.pointer none)) :=
  run_clear_slice _ 151 197 0 (.pointer none) Tryz.under151 b rfl rfl H m 1 (cap-m) (by omega) a c
 clear a c b;go_enter Tryz.func139,Tryz.ntmps139;go_wp2;go_region_held3 (fun W=>W.cell? ⟨S,o,none⟩=some (.slice (some ⟨H,0,none⟩) (m+1) cap))
  (first|exact hc|go_keep)
  (fail)
 all_goals go_wp2_with(go_at_call 154;(with_reducible refine(hsink _ (Below.refl _ _).drew).mono ?_);rintro e wx ⟨rfl,f⟩)
 all_goals go_ret
 all_goals exact⟨rfl,f⟩
def zgV(xs:List Wy)(m:Nat):List Wy:=(xs.set 0 (xs.getD m wy0)).take m
theorem zgv{xs:List Wy}{m:Nat}(h:xs.length=m+1):(zgV xs m).length=m:=by simp [zgV,h]
theorem zp1{xs:List Wy}{m i:Nat}(h:xs.length=m+1)(hi:i<m):(zgV xs m)[i]?=some (if i=0 then xs.getD m wy0 else xs.getD i wy0):=by
 unfold zgV;rw [List.getElem?_take_of_lt hi];by_cases e:i=0
 ·subst e;rw [if_pos rfl,List.getElem?_set_self (by omega)]
 ·rw [if_neg e,List.getElem?_set_ne (by omega),List.getElem?_eq_getElem (by omega)];simp [List.getD,(by omega:i<xs.length)]
theorem zgW{xs:List Wy}{m:Nat}(h:xs.length=m+1):(xs.getD 0 wy0 :: zgV xs m).Perm xs:=by
 cases xs with
 | nil=>simp at h
 | cons x t =>
  have b:t.length=m:=by simpa using h
  cases m with
  | zero =>
   have:t=[]:=List.eq_nil_of_length_eq_zero b;subst this;simp [zgV]
  | succ m =>
   have a:t≠[]:=by intro e;rw [e] at b;simp at b
   have e1:(x :: t).getD (m+1) wy0=t.getLast a:=by
    rw [List.getLast_eq_getElem];simp [List.getD,b]
   have e2:zgV (x :: t) (m+1)=t.getLast a :: t.dropLast:=by
    unfold zgV;rw [e1,List.set_cons_zero,List.take_succ_cons,List.dropLast_eq_take,b];rfl
   rw [e2];show(x :: t.getLast a :: t.dropLast).Perm (x :: t);refine List.Perm.cons x ?_;have e3:t.dropLast++[t.getLast a]=t:=List.dropLast_concat_getLast a;refine List.Perm.trans (List.perm_append_comm (l₁:=[t.getLast a]) (l₂:=t.dropLast)) ?_;rw [e3]
theorem zm2{xs:List Wy}{m:Nat}(h:xs.length=m+1):∀ x∈zgV xs m,x∈xs:=fun _x hx=>(zgW h).mem_iff.1 (List.mem_cons_of_mem _ hx)
end
section
open Go.RowKit Sp
theorem znB{P:Program}{o:Oper}{a:Act}{C:World→Prop}{K:Act→Prop}(t:TypeId)(parts:Array (Nat × Operand))(ho:o.op=.build t parts)(cells:Array Value)(vs:List (Nat × Value))(hv:(parts.map fun(i,x)=>(i,a.eval x))=vs.toArray)(hb:P.built t vs=some cells)
  (h:K (a.put o.dst (.agg cells))):o.quiet P a C K:=by
 refine⟨_,fun w _=>?_,h⟩;unfold Oper.quietAt execOp;simp only [ho,hv,Sem.run_bind,run_build w t _ cells hb,Sem.run_pure,Result.andThen_ok];exact⟨rfl,rfl⟩
theorem znC(s f p e:Int)(ao:Option Addr)(n c:Nat)(x0 x1 x2 x3 x4 x5 x6 x7 y0 y1 y2 y3 y4 y5 y6 y7 y8 y9 y10 y11 y12 y13 y14 y15:Value):
  Tryz.prog.built 34 [(0,.int .i64 s),(1,.agg #[x0,x1,x2,x3,x4,x5,x6,x7]),(2,.agg #[y0,y1,y2,y3,y4,y5,y6,y7,y8,y9,y10,y11,y12,y13,y14,y15]),(3,.slice ao n c),(4,.int .i64 f),(5,.int .i64 p),(7,.int .i64 e)]
   = some #[.int .i64 s,x0,x1,x2,x3,x4,x5,x6,x7,y0,y1,y2,y3,y4,y5,y6,y7,y8,y9,y10,y11,y12,y13,y14,y15,.slice ao n c,.int .i64 f,.int .i64 p,.int .i64 0,.int .i64 e]:=by kernel_rfl
theorem znD(m:Mc)(ao:Option Addr)(n c:Nat):
  Tryz.prog.built 34 [(0,.int .i64 m.steps),(1,.agg ((List.range 8).map (fun i=>Value.int .i64 (m.regs i))).toArray),(2,.agg ((List.range 16).map (fun i=>Value.int .i64 (m.cells i))).toArray),(3,.slice ao n c),(4,.int .i64 m.frames),(5,.int .i64 m.peak),(7,.int .i64 m.fin)]
   = some (zan m (.slice ao n c) 0).toArray:=by
 rw [show(List.range 8).map (fun i=>Value.int .i64 (m.regs i))=[.int .i64 (m.regs 0),.int .i64 (m.regs 1),.int .i64 (m.regs 2),.int .i64 (m.regs 3),.int .i64 (m.regs 4),.int .i64 (m.regs 5),.int .i64 (m.regs 6),.int .i64 (m.regs 7)] from rfl,
  show(List.range 16).map (fun i=>Value.int .i64 (m.cells i))=[.int .i64 (m.cells 0),.int .i64 (m.cells 1),.int .i64 (m.cells 2),.int .i64 (m.cells 3),.int .i64 (m.cells 4),.int .i64 (m.cells 5),.int .i64 (m.cells 6),.int .i64 (m.cells 7),.int .i64 (m.cells 8),.int .i64 (m.cells 9),.int .i64 (m.cells 10),.int .i64 (m.cells 11),.int .i64 (m.cells 12),.int .i64 (m.cells 13),.int .i64 (m.cells 14),.int .i64 (m.cells 15)] from rfl,znC]
 rfl
theorem znE(w:World)(b:Nat)(bv iv ov:Value)(m:Mc)(M:MchAt w b m bv iv ov)(hfr:m.frames=if m.fin=2 then 0 else(m.backs.length:Int)+1)(hfew:m.backs.length≤15):qC 110 #[.pointer (some ⟨b,0,none⟩)] w fun e w'=>e=.returned (.int .i64 m.frames)∧w'=w:=by
 by_cases h:m.fin=2
 ·rw [hfr,if_pos h];exact znl w b bv iv ov m M.mem h
 ·rw [hfr,if_neg h];obtain⟨a,c,rfl⟩:=zb7 M.backs;exact zfd w b _ c a iv ov m M.mem (by omega) (by simpa using h)
theorem MchAt.drewN{w:World}{b:Nat}{m:Mc}{bv iv ov:Value}(h:MchAt w b m bv iv ov)(n:Nat):MchAt (w.drewN n) b m bv iv ov:=⟨h.mem.drewN n,h.backs,h.out,h.inp⟩
theorem MchAt.alloc{w:World}{b:Nat}{m:Mc}{bv iv ov:Value}(h:MchAt w b m bv iv ov)(x:Obj):MchAt (w.alloc x) b m bv iv ov :=
 (h.same (h.mem.alloc x) (World.grownBy_alloc w x _) rfl rfl rfl).1
theorem zqF(w:World)(b:Nat)(bv iv:Value)(ao:Option Addr)(no co:Nat)(m:Mc)(M:MchAt w b m bv iv (.slice ao no co))(hfr:m.frames=if m.fin=2 then 0 else(m.backs.length:Int)+1)(hfew:m.backs.length≤15):
  qC 86 #[.pointer (some ⟨b,0,none⟩)] w (qR w (.agg (zan m (.slice ao no co) 0).toArray)):=by
 have g:=M.alloc Z34;have x:=fun n=>znE ((w.alloc Z34).drewN n) b bv iv _ m (g.drewN n) hfr hfew;have lg:=M.mem.lt;have hne4:¬w.heap.size=b:=by omega
 have hne5:¬b=w.heap.size:=by omega
 have cS:=g.mem.cS;have cO:=g.mem.cO;have cP:=g.mem.cP;have cE:=g.mem.cE;have p:(w.alloc Z34).rangeAt b 0 ((List.range 8).map (fun i=>Value.int .i64 (m.regs i))):=fun j v hv=>by
  have k:=(List.getElem?_eq_some_iff.1 hv).1;simp at k;rw [Nat.zero_add,g.mem.cR j k,←hv];simp [k]
 have o:(w.alloc Z34).rangeAt b 8 ((List.range 16).map (fun i=>Value.int .i64 (m.cells i))):=fun j v hv=>by
  have k:=(List.getElem?_eq_some_iff.1 hv).1;simp at k;rw [g.mem.cC j k,←hv];simp [k]
 have a:=znD m ao no co;have z:=zas m (.slice ao no co) 0;have y:=zaz m ao no co 0;have c:(Tryz.prog.info? 31).map (·.size)=some ((List.range 8).map (fun i=>Value.int .i64 (m.regs i))).length:=by simp only [List.length_map,List.length_range];exact Tryz.info31
 have e:(Tryz.prog.info? 32).map (·.size)=some ((List.range 16).map (fun i=>Value.int .i64 (m.cells i))).length:=by simp only [List.length_map,List.length_range];exact Tryz.info32
 generalize (List.range 8).map (fun i=>Value.int .i64 (m.regs i))=RS at p a c;generalize (List.range 16).map (fun i=>Value.int .i64 (m.cells i))=CS at o a e;generalize zan m (.slice ao no co) 0=ds at a z y ⊢;have h:Tryz.prog.underlying 31=some (.array _ _):=Tryz.underlying31;have l:Tryz.prog.underlying 32=some (.array _ _):=Tryz.underlying32;have B:(w.alloc Z34).there w.heap.size 0 30:=zb8 w;have s:(Tryz.prog.info? 34).map (·.size)=some ds.toArray.size:=zbd ds z;go_enter Tryz.func86,Tryz.ntmps86;go_wp2_with fail
 refine zao 27 (by kernel_rfl) (by kernel_rfl) ?_;simp only [q2];repeat(first
  | (refine BigFrame.wpQuiet_want rfl ?_;intro K d;refine zfv 31 _ rfl b 0 rfl RS _ p h rfl c ?_;refine d _ ?_;clear d K;simp only [Act.put,q1])
  | (refine BigFrame.wpQuiet_want rfl ?_;intro K d;refine zfv 32 _ rfl b 8 rfl CS _ o l rfl e ?_;refine d _ ?_;clear d K;simp only [Act.put,q1])
  | go_big_quiet_step (first|(go_at_call 110;exact Calls.quiet_of_same (x _))))
 refine BigFrame.wpQuiet_want rfl ?_;intro K d;refine znB 34 _ rfl ds.toArray _ ?_ a ?_
 ·simp [Act.eval]
 refine d _ ?_;clear d K;simp only [Act.put,q1];refine wpQuiet_nil ?_;rintro _ ⟨u,rfl⟩;have f:((w.alloc Z34).drewN u).there w.heap.size 0 ds.toArray.size:=by rw [show ds.toArray.size=30 by simp [z]];exact B
 have r:qB w ((w.alloc Z34).drewN u):=((Below.refl w.heap.size w).alloc (Nat.le_refl _) _).trans ((zaF _ u).mono (by simp));generalize (w.alloc Z34).drewN u=W at f r ⊢;repeat(first
  | (refine wpList_store_mid rfl 34 _ _ rfl w.heap.size 0 ds.toArray rfl rfl f s y ?_)
  | go_values|go_skip|go_guarded|go_step|go_upon|go_back)
 have q:Tryz.prog.underlying 34=some (.struct _):=Tryz.underlying34;have A:=World.rangeAt_setCells_same W w.heap.size 0 ds (by rw [show ds.length=ds.toArray.size by simp];exact f);have t:=run_loadVar_mid (W.setCells w.heap.size 0 ds) w.heap.size 0 34 ds _ A q rfl (by rw [z];exact Tryz.info34);exact bodyPost_ret (v:=.agg ds.toArray) (zb9 Tryz.results86 _ ⟨w.heap.size,0,none⟩ rfl t) rfl ⟨rfl,zal ds 0 r (Nat.le_refl _)⟩
theorem zuC{l r:Rg}(hl:l.Ok)(hr:r.Ok)(h:zeQ l r=none)(h':zb4 l r=none):False:=by
 unfold Rg.Ok at hl hr;unfold zeQ at h;unfold zb4 at h';split at h
 ·split at h'
  ·omega
  ·cases h'
 ·cases h
theorem zuD{l r:Rg}(h:zeR l r=none)(h':zaM l r=none):False:=by
 unfold zeR at h;unfold zaM at h';split at h
 ·cases h
 ·split at h'
  ·omega
  ·cases h'
theorem zmG{w:World}{b:Nat}{bv:Value}{k:Kn}(h:KnM w b bv k)(hbv:bv.oneCell'=true)(K:KnOk k)(l r:Nat)(hl:l<8)(hr:r<8)(hne:¬l=r)(z:Int)(h0:0≤k.steps)(h1:k.steps≤100000)(n0:0≤k.next)(n1:k.next≤100000):
  qC 270 #[.pointer (some ⟨b,0,none⟩),.int .i64 (l:Int),.int .i64 (r:Int),.func (.func 271) #[] #[],.func (.func 272) #[] #[],.int .i64 z] w (zcU w b bv (zbE k l r zeQ zb4 z)):=by
 have c:=fun(q:Option (Rg × Rg)) (hq:zeQ (k.regs l) (k.regs r)=q) W b2 (hk:KnM W b2 bv k)=>zpw (F:=271) (fun _ _=>by kernel_rfl) hk l r hl hr hne q (fun W=>by rw [←hq];exact zwC _ _ W (K.regs l hl) (K.regs r hr));have a:=fun(q:Option (Rg × Rg)) (hq:zb4 (k.regs l) (k.regs r)=q) W b2 (hk:KnM W b2 bv k)=>zpw (F:=272) (fun _ _=>by kernel_rfl) hk l r hl hr hne q (fun W=>by rw [←hq];exact znS _ _ W);unfold zbE;cases hh:zeQ (k.regs l) (k.regs r) with
 | none=>cases hf:zb4 (k.regs l) (k.regs r) with
  | none=>exact(zuC (K.regs l hl) (K.regs r hr) hh hf).elim
  | some p=>obtain⟨x,y⟩:=p;exact ziH h hbv l r z x y (c _ hh) (a _ hf) h0 h1 n0 n1
 | some p =>
  obtain⟨x,y⟩:=p;cases hf:zb4 (k.regs l) (k.regs r) with
  | none=>exact ziG h hbv l r z x y (c _ hh) (a _ hf) h0 h1
  | some p=>obtain⟨e,d⟩:=p;exact ziI h hbv l r z x y e d (c _ hh) (a _ hf) h0 h1 n0 n1
theorem zmH{w:World}{b:Nat}{bv:Value}{k:Kn}(h:KnM w b bv k)(hbv:bv.oneCell'=true)(K:KnOk k)(l r:Nat)(hl:l<8)(hr:r<8)(hne:¬l=r)(z:Int)(h0:0≤k.steps)(h1:k.steps≤100000)(n0:0≤k.next)(n1:k.next≤100000):
  qC 270 #[.pointer (some ⟨b,0,none⟩),.int .i64 (l:Int),.int .i64 (r:Int),.func (.func 276) #[] #[],.func (.func 277) #[] #[],.int .i64 z] w (zcU w b bv (zbE k l r zeR zaM z)):=by
 have c:=fun(q:Option (Rg × Rg)) (hq:zeR (k.regs l) (k.regs r)=q) W b2 (hk:KnM W b2 bv k)=>zpw (F:=276) (fun _ _=>by kernel_rfl) hk l r hl hr hne q (fun W=>by rw [←hq];exact zwV _ _ W);have a:=fun(q:Option (Rg × Rg)) (hq:zaM (k.regs l) (k.regs r)=q) W b2 (hk:KnM W b2 bv k)=>zpw (F:=277) (fun _ _=>by kernel_rfl) hk l r hl hr hne q (fun W=>by rw [←hq];exact zok _ _ W (K.regs l hl) (K.regs r hr));unfold zbE;cases hh:zeR (k.regs l) (k.regs r) with
 | none=>cases hf:zaM (k.regs l) (k.regs r) with
  | none=>exact(zuD hh hf).elim
  | some p=>obtain⟨x,y⟩:=p;exact ziH h hbv l r z x y (c _ hh) (a _ hf) h0 h1 n0 n1
 | some p =>
  obtain⟨x,y⟩:=p;cases hf:zaM (k.regs l) (k.regs r) with
  | none=>exact ziG h hbv l r z x y (c _ hh) (a _ hf) h0 h1
  | some p=>obtain⟨e,d⟩:=p;exact ziI h hbv l r z x y e d (c _ hh) (a _ hf) h0 h1 n0 n1
theorem ziV{w:World}{b:Nat}{bv:Value}{k:Kn}(h:KnM w b bv k)(r:Nat)(z:Int)(h0:0≤k.steps)(h1:k.steps≤100000)(n0:0≤k.next)(n1:k.next≤100000):
  qC 268 #[.agg #[.int .i64 (r:Int),.int .i64 (r:Int),.int .i64 z],.pointer (some ⟨b,0,none⟩)] w (zbe w b bv (k.goTo (k.next+1))):=by
 have j:=h.alloc (.cells #[.int .i64 (r:Int),.int .i64 (r:Int),.int .i64 z] 187);go_enter Tryz.func268,Tryz.ntmps268;go_wp2_with(go_at_call 227;(with_reducible refine(zc0 j h0 h1 n0 n1).mono ?_);intro e w6 a;have d:=zdv (zaV (b:=some b) box1) a;clear a;obtain⟨g,rfl,l,i,f,c⟩:=d)
 go_ret;exact⟨g,rfl,l,i,f,c⟩
theorem ziW{w:World}{b:Nat}{bv:Value}{k:Kn}(h:KnM w b bv k)(r:Nat)(z:Int)(h0:0≤k.steps)(h1:k.steps≤100000):
  qC 275 #[.agg #[.int .i64 (r:Int),.int .i64 (r:Int),.int .i64 z],.pointer (some ⟨b,0,none⟩)] w (zbe w b bv (k.goTo z)):=by
 have j:=h.alloc (.cells #[.int .i64 (r:Int),.int .i64 (r:Int),.int .i64 z] 188);go_enter Tryz.func275,Tryz.ntmps275;go_wp2_with(go_at_call 229;(with_reducible refine(zgr j z h0 h1).mono ?_);intro e w6 a;have d:=zdv (zaV (b:=some b) box1) a;clear a;obtain⟨g,rfl,l,i,f,c⟩:=d)
 go_ret;exact⟨g,rfl,l,i,f,c⟩
theorem zhx{w:World}{b:Nat}{bv:Value}{k:Kn}(h:KnM w b bv k)(hbv:bv.oneCell'=true)(K:KnOk k)(l r:Nat)(hl:l<8)(hr:r<8)(hne:¬l=r)(z:Int)(h0:0≤k.steps)(h1:k.steps≤100000)(n0:0≤k.next)(n1:k.next≤100000):
  qC 268 #[.agg #[.int .i64 (l:Int),.int .i64 (r:Int),.int .i64 z],.pointer (some ⟨b,0,none⟩)] w (zcU w b bv (zbE k l r zeQ zb4 z)):=by
 have g:=h.alloc (.cells #[.int .i64 (l:Int),.int .i64 (r:Int),.int .i64 z] 187);have t0:((l:Int) == (r:Int))=false:=by simpa using (by omega:¬(l:Int)=(r:Int))
 go_enter Tryz.func268,Tryz.ntmps268;go_wp2_with(go_at_call 270;(with_reducible refine(zmG g hbv K l r hl hr hne z h0 h1 n0 n1).mono ?_);intro e w6 a;have d:=zki (zaV (b:=some b) box1) a;clear a;obtain⟨i,c,f,rfl,A⟩:=d)
 go_ret;exact⟨i,c,f,rfl,A⟩
theorem zhy{w:World}{b:Nat}{bv:Value}{k:Kn}(h:KnM w b bv k)(hbv:bv.oneCell'=true)(K:KnOk k)(l r:Nat)(hl:l<8)(hr:r<8)(hne:¬l=r)(z:Int)(h0:0≤k.steps)(h1:k.steps≤100000)(n0:0≤k.next)(n1:k.next≤100000):
  qC 275 #[.agg #[.int .i64 (l:Int),.int .i64 (r:Int),.int .i64 z],.pointer (some ⟨b,0,none⟩)] w (zcU w b bv (zbE k l r zeR zaM z)):=by
 have g:=h.alloc (.cells #[.int .i64 (l:Int),.int .i64 (r:Int),.int .i64 z] 188);have t0:((l:Int) == (r:Int))=false:=by simpa using (by omega:¬(l:Int)=(r:Int))
 go_enter Tryz.func275,Tryz.ntmps275;go_wp2_with(go_at_call 270;(with_reducible refine(zmH g hbv K l r hl hr hne z h0 h1 n0 n1).mono ?_);intro e w6 a;have d:=zki (zaV (b:=some b) box1) a;clear a;obtain⟨i,c,f,rfl,A⟩:=d)
 go_ret;exact⟨i,c,f,rfl,A⟩
def zbq:Mc:=⟨0,[],[],0,fun _=>0,fun _=>0,[],0,0,0⟩
structure Told where
 m:Mc
 at_:Int
 err:Int
 line:Int
def ziw(s:ByteArray)(inp:List Int)(n:Int):Told :=
 if ¬zaQ s=(0,0) then⟨zbq,0,(zaQ s).1,(zaQ s).2⟩
 else if n<0∨100000<n then⟨zbq,0,7,0⟩
 else⟨runS (zbz ((lines s).map say)) n.toNat (zc3 ((lines s).map say) inp),(runS (zbz ((lines s).map say)) n.toNat (zc3 ((lines s).map say) inp)).line,0,0⟩
def zaT(w:World)(T:Told):Ending→World→Prop:=fun e w'=>∃ ao no co,e=.returned (.tuple #[.agg (zan T.m (.slice ao no co) T.at_).toArray,.int .i64 T.err,.int .i64 T.line])∧w'.ownsRow w.heap.size 2 1 (.slice ao no co) T.m.out.length (i64s T.m.out)∧qB w w'
theorem zqH:zan zbq (.slice none 0 0) 0=[.int .i64 0,.int .i64 0,.int .i64 0,.int .i64 0,.int .i64 0,.int .i64 0,.int .i64 0,.int .i64 0,.int .i64 0,.int .i64 0,.int .i64 0,.int .i64 0,.int .i64 0,.int .i64 0,.int .i64 0,.int .i64 0,.int .i64 0,.int .i64 0,.int .i64 0,.int .i64 0,.int .i64 0,.int .i64 0,.int .i64 0,.int .i64 0,.int .i64 0,.slice none 0 0,.int .i64 0,.int .i64 0,.int .i64 0,.int .i64 0]:=by simp [zan,List.range_succ,zbq]
theorem zh6{fn:Func}{a b c:Tmp}{w w4:World}{T:Told}{ao:Option Addr}{no co:Nat}{act:Act}(hr3:fn.results=#[.cell a 34,.tmp b,.tmp c])(ds:List Value)(hds:zan T.m (.slice ao no co) T.at_=ds)(ht4:w4.there w.heap.size 0 ds.toArray.size)(hb4:qB w w4)(how:w4.ownsRow (w.heap.size+1) 2 1 (.slice ao no co) T.m.out.length (i64s T.m.out))
  (hp:act.tmps.getD a undef=.pointer (some ⟨w.heap.size,0,none⟩)) (h1:act.tmps.getD b undef=.int .i64 T.err) (h2:act.tmps.getD c undef=.int .i64 T.line) (hd:act.defers=[]) :
  bodyPost Tryz.prog fn (zaT w T) .ret act (w4.setCells w.heap.size 0 ds):=by
 have hl:ds.length=30:=by rw [←hds];exact zas _ _ _
 have e:Tryz.prog.underlying 34=some (.struct _):=Tryz.underlying34;have h:=World.rangeAt_setCells_same w4 w.heap.size 0 ds (by rw [show ds.length=ds.toArray.size by simp];exact ht4);have f:=run_loadVar_mid (w4.setCells w.heap.size 0 ds) w.heap.size 0 34 ds _ h e rfl (by rw [hl];exact Tryz.info34);have d:=zgf hr3 act.tmps ⟨w.heap.size,0,none⟩ hp f;rw [h1,h2] at d;refine bodyPost_ret d hd ⟨ao,no,co,by rw [hds],?_,zal ds 0 hb4 (Nat.le_refl _)⟩;have g:(w4.setCells w.heap.size 0 ds).ownsRow (w.heap.size+1) 2 1 (.slice ao no co) T.m.out.length (i64s T.m.out):=zaj how (fun q hq=>za6 ds w4 _ _ _ (by have:=(how.lt q hq).1;omega));exact zbk g (by omega)
theorem zwe:([.int .i64 0,.int .i64 0,.int .i64 0,.int .i64 0,.int .i64 0,.int .i64 0,.int .i64 0,.int .i64 0,.int .i64 0,.int .i64 0,.int .i64 0,.int .i64 0,.int .i64 0,.int .i64 0,.int .i64 0,.int .i64 0,.int .i64 0,.int .i64 0,.int .i64 0,.int .i64 0,.int .i64 0,.int .i64 0,.int .i64 0,.int .i64 0,.int .i64 0,.slice none 0 0,.int .i64 0,.int .i64 0,.int .i64 0,.int .i64 0]:List Value).toArray.all (·.oneCell')=true:=by kernel_rfl
theorem ztt:Tryz.prog.built 34 []=some ([.int .i64 0,.int .i64 0,.int .i64 0,.int .i64 0,.int .i64 0,.int .i64 0,.int .i64 0,.int .i64 0,.int .i64 0,.int .i64 0,.int .i64 0,.int .i64 0,.int .i64 0,.int .i64 0,.int .i64 0,.int .i64 0,.int .i64 0,.int .i64 0,.int .i64 0,.int .i64 0,.int .i64 0,.int .i64 0,.int .i64 0,.int .i64 0,.int .i64 0,.slice none 0 0,.int .i64 0,.int .i64 0,.int .i64 0,.int .i64 0]:List Value).toArray:=by kernel_rfl
theorem zgL{ops:Array Oper}{rest:List Oper}{o:Oper}{a:Act}{w:World}{Q:Exit→Act→World→Prop}(hg:o.guard=none)(ho:o.op=.build 34 #[])
  (h:∀ Zc:Array Value,Hid (Zc=([.int .i64 0,.int .i64 0,.int .i64 0,.int .i64 0,.int .i64 0,.int .i64 0,.int .i64 0,.int .i64 0,.int .i64 0,.int .i64 0,.int .i64 0,.int .i64 0,.int .i64 0,.int .i64 0,.int .i64 0,.int .i64 0,.int .i64 0,.int .i64 0,.int .i64 0,.int .i64 0,.int .i64 0,.int .i64 0,.int .i64 0,.int .i64 0,.int .i64 0,.slice none 0 0,.int .i64 0,.int .i64 0,.int .i64 0,.int .i64 0]:List Value).toArray)→Zc.size=30→Zc.all (·.oneCell')=true→wpList Tryz.prog ops Q rest (a.put o.dst (.agg Zc)) w):wpList Tryz.prog ops Q (o :: rest) a w:=by
 refine wpList_build hg 34 #[] ho ?_ ?_
 ·simp only [Array.toList_empty,List.map_toArray,List.map_nil];rw [ztt];rfl
 ·simp only [Array.toList_empty,List.map_toArray,List.map_nil];rw [ztt];exact h _ rfl rfl zwe
theorem zgM{w w2:World}(hb:Below (w.heap.size+1) (w.alloc Z34) w2):w2.there w.heap.size 0 ([.int .i64 0,.int .i64 0,.int .i64 0,.int .i64 0,.int .i64 0,.int .i64 0,.int .i64 0,.int .i64 0,.int .i64 0,.int .i64 0,.int .i64 0,.int .i64 0,.int .i64 0,.int .i64 0,.int .i64 0,.int .i64 0,.int .i64 0,.int .i64 0,.int .i64 0,.int .i64 0,.int .i64 0,.int .i64 0,.int .i64 0,.int .i64 0,.int .i64 0,.slice none 0 0,.int .i64 0,.int .i64 0,.int .i64 0,.int .i64 0]:List Value).toArray.size:=zam (zb8 w) hb (by omega)
theorem zqI(s:ByteArray)(w:World)(iv:Value)(n:Int)(hs:s.size≤1048576)(a c:Int)(hR:zaQ s=(a,c))(ha:(a != 0)=true):
  qC 20 #[.string s,iv,.int .i64 n] w (zaT w ⟨zbq,0,a,c⟩):=by
 have b:=zdM s (w.alloc Z34) hs;have hs1:(w.alloc Z34).heap.size=w.heap.size+1:=by simp
 have j:qB w (w.alloc Z34):=(Below.refl _ _).alloc (Nat.le_refl _) _;have g:∀ c:Array Value,c.size=30→(Tryz.prog.info? 34).map (·.size)=some c.size:=fun c hc=>by rw [hc];exact Tryz.info34
 rw [hR] at b;go_enter Tryz.func20,Tryz.ntmps20;go_wp2_with(first|(go_at_call 16;refine b.mono ?_;rintro e l ⟨v,rfl,d,_⟩;unfold qB at d;rw [hs1] at d;have m:l.there w.heap.size 0 30:=zam (zb8 w) d (by omega);have i:∀ c:Array Value,c.size=30→l.there w.heap.size 0 c.size:=fun c hc=>(by rw [hc];exact m);refine Hid.out ?_))
 unfold Hid;repeat(first|(refine zgL rfl rfl ?_;intro p o f h)|(refine wpList_store_mid rfl 34 _ _ rfl w.heap.size 0 p rfl rfl (i _ f) (g _ f) h ?_)|go_values|go_skip|go_guarded|go_step|go_upon|go_back)
 have k:=o.out;subst k;exact zh6 (T:=⟨zbq,0,a,c⟩) Tryz.results20 _ zqH (zgM d) (j.trans (d.mono (by omega))) (World.ownsRow_nil _ _ _ _) rfl rfl rfl rfl
theorem zqJ(s:ByteArray)(w:World)(iv:Value)(n:Int)(hs:s.size≤1048576)(hR:zaQ s=(0,0))(hlow:n<0):
  qC 20 #[.string s,iv,.int .i64 n] w (zaT w ⟨zbq,0,7,0⟩):=by
 have a:=zdM s (w.alloc Z34) hs;have hs1:(w.alloc Z34).heap.size=w.heap.size+1:=by simp
 have i:qB w (w.alloc Z34):=(Below.refl _ _).alloc (Nat.le_refl _) _;have f:∀ c:Array Value,c.size=30→(Tryz.prog.info? 34).map (·.size)=some c.size:=fun c hc=>by rw [hc];exact Tryz.info34
 rw [hR] at a;go_enter Tryz.func20,Tryz.ntmps20;go_wp2_with(first|(go_at_call 16;refine a.mono ?_;rintro e k ⟨v,rfl,b,_⟩;unfold qB at b;rw [hs1] at b;have l:k.there w.heap.size 0 30:=zam (zb8 w) b (by omega);have h:∀ c:Array Value,c.size=30→k.there w.heap.size 0 c.size:=fun c hc=>(by rw [hc];exact l);refine Hid.out ?_))
 unfold Hid;repeat(first|(refine zgL rfl rfl ?_;intro o m d g)|(refine wpList_store_mid rfl 34 _ _ rfl w.heap.size 0 o rfl rfl (h _ d) (f _ d) g ?_)|go_values|go_skip|go_guarded|go_step|go_upon|go_back)
 have j:=m.out;subst j;exact zh6 (T:=⟨zbq,0,7,0⟩) Tryz.results20 _ zqH (zgM b) (i.trans (b.mono (by omega))) (World.ownsRow_nil _ _ _ _) rfl rfl rfl rfl
theorem znF(s:ByteArray)(w:World)(iv:Value)(n:Int)(hs:s.size≤1048576)(hR:zaQ s=(0,0))(hlow:decide (n<0)=false)(hhigh:100000<n):
  qC 20 #[.string s,iv,.int .i64 n] w (zaT w ⟨zbq,0,7,0⟩):=by
 have a:=zdM s (w.alloc Z34) hs;have hs1:(w.alloc Z34).heap.size=w.heap.size+1:=by simp
 have i:qB w (w.alloc Z34):=(Below.refl _ _).alloc (Nat.le_refl _) _;have f:∀ c:Array Value,c.size=30→(Tryz.prog.info? 34).map (·.size)=some c.size:=fun c hc=>by rw [hc];exact Tryz.info34
 rw [hR] at a;go_enter Tryz.func20,Tryz.ntmps20;go_wp2_with(first|(go_at_call 16;refine a.mono ?_;rintro e k ⟨v,rfl,b,_⟩;unfold qB at b;rw [hs1] at b;have l:k.there w.heap.size 0 30:=zam (zb8 w) b (by omega);have h:∀ c:Array Value,c.size=30→k.there w.heap.size 0 c.size:=fun c hc=>(by rw [hc];exact l);refine Hid.out ?_))
 unfold Hid;repeat(first|(refine zgL rfl rfl ?_;intro o m d g)|(refine wpList_store_mid rfl 34 _ _ rfl w.heap.size 0 o rfl rfl (h _ d) (f _ d) g ?_)|go_values|go_skip|go_guarded|go_step|go_upon|go_back)
 have j:=m.out;subst j;exact zh6 (T:=⟨zbq,0,7,0⟩) Tryz.results20 _ zqH (zgM b) (i.trans (b.mono (by omega))) (World.ownsRow_nil _ _ _ _) rfl rfl rfl rfl
theorem SlB.mono{w w':World}{v:Value}{l:List Int}(h:SlB w w.heap.size v l)(hb:qB w w'):SlB w' w'.heap.size v l:=by
 obtain⟨i,a,b,c,k⟩:=h;refine⟨i,a,b,c,fun hp=>?_⟩;obtain⟨g,o,e,f,hg2,d⟩:=k hp;have:=hb.size;exact⟨g,o,e,by omega,by omega,fun j hj=>(hb.cell (p:=⟨g,o+j,none⟩) f).trans (d j hj)⟩
theorem ztu(s:ByteArray)(w:World)(ao:Option Addr)(icap k:Nat)(inp:List Int)(hs:s.size≤1048576)(hR:zaQ s=(0,0))(hiv:SlB w w.heap.size (.slice ao inp.length icap) inp)(hin:inp.length≤1048576)(hk:k≤100000)(FIN:Mc)(hF:runS (zbz ((lines s).map say)) k (zc3 ((lines s).map say) inp)=FIN):
  qC 20 #[.string s,.slice ao inp.length icap,.int .i64 (k:Int)] w (zaT w ⟨FIN,FIN.line,0,0⟩):=by
 have a:=zdM s (w.alloc Z34) hs;have hs1:(w.alloc Z34).heap.size=w.heap.size+1:=by simp
 have B:qB w (w.alloc Z34):=(Below.refl _ _).alloc (Nat.le_refl _) _;have G:=ziu s hR;rw [hR] at a;generalize (lines s).map say=L at a G hF;have hlow:decide ((k:Int)<0)=false:=by simp
 have hhigh:decide ((100000:Int)<(k:Int))=false:=by simp;omega
 have p:Tryz.prog.underlying 34=some (.struct _):=Tryz.underlying34;go_enter Tryz.func20,Tryz.ntmps20;go_wp2_with(first|(go_at_call 16;refine a.mono ?_;rintro e t ⟨v,rfl,c,C⟩;obtain⟨g,m,rfl,_,x⟩:=C rfl;unfold qB at c;rw [hs1] at c;have H:t.there w.heap.size 0 30:=zam (zb8 w) c (by omega);have d:qB w t:=B.trans (c.mono (by omega));have n:=zgH t g m k icap ao L inp G x (hiv.mono d) hin hk;rw [hF] at n;refine Hid.out ?_))
 unfold Hid;repeat(first
  | (go_at_call 24;refine n.mono ?_;rintro e b ⟨j,q,i,rfl,o,h⟩;generalize f:zan FIN (.slice j q i) FIN.line=ds;have E:ds.length=30:=(by rw [←f];exact zas _ _ _);have D:ds.toArray.all (·.oneCell')=true:=(by rw [←f];exact zaz _ _ _ _ _);have l:=zbS (W1:=b) rfl ds E;have F:=zbd ds E;have u:(Tryz.prog.info? 34).map (·.size)=some ds.length:=(by rw [E];exact Tryz.info34);have r:((b.alloc Z34).setCells b.heap.size 0 ds.toArray.toList).there w.heap.size 0 ds.toArray.size:=(by rw [show ds.toArray.size=30 by simp [E]];exact World.there_setCells (World.there_alloc (zam H h (by have:=c.size;simp at this;omega)) _) _ _ _);have z:((b.alloc Z34).setCells b.heap.size 0 ds.toArray.toList).rangeAt b.heap.size 0 ds:=(by rw [show ds.toArray.toList=ds by simp];exact World.rangeAt_setCells_same _ _ _ _ (by rw [show ds.length=ds.toArray.size by simp];exact l));dsimp only)
  | (refine wpList_store_mid rfl 34 _ _ rfl b.heap.size 0 ds.toArray rfl rfl l F D ?_)
  | (refine wpList_load_mid rfl 34 _ rfl b.heap.size 0 rfl ds _ z p rfl u ?_)
  | (refine wpList_store_mid rfl 34 _ _ rfl w.heap.size 0 ds.toArray rfl rfl r F D ?_)
  | go_values|go_skip|go_guarded|go_step|go_upon|go_back)
 have hsz2:=c.size;have hsz3:=h.size;have hsza:(w.alloc Z34).heap.size=w.heap.size+1:=by simp
 have A:qB w (b.alloc Z34):=(d.trans (h.mono (by omega))).alloc (by omega) _;have y:((b.alloc Z34).setCells b.heap.size 0 ds).ownsRow t.heap.size 2 1 (.slice j q i) FIN.out.length (i64s FIN.out):=zbi o (zal ds 0 ((Below.refl b.heap.size b).alloc (Nat.le_refl _) _) (Nat.le_refl _)) (Nat.le_refl _);exact zh6 (T:=⟨FIN,FIN.line,0,0⟩) Tryz.results20 ds f (w4:=(b.alloc Z34).setCells b.heap.size 0 ds) r (zal ds 0 A (by omega)) (zbk y (by omega)) rfl rfl rfl rfl
theorem zk9(L:List Said)(q j:Nat)(c:Int × Int)(hc:¬c=(0,0)→¬c.1=0):¬pass L q j c=(0,0)→¬(pass L q j c).1=0:=by
 by_cases h:j<L.length
 ·cases hb:badB L q j with
  | true=>rw [zdy L q j c h hb];intro _;show ¬(3+(q:Int))=0;omega
  | false=>rw [zcr L q j c h hb];exact zk9 L q (j+1) c hc
 ·rw [zdJ L q j c h];exact hc
termination_by L.length-j
theorem zoQ(L:List Said)(i:Nat):¬zbt L i=(0,0)→¬(zbt L i).1=0:=by
 by_cases h:i<L.length
 ·by_cases a:L[i].kind=0
  ·rw [zfg L i h a];exact zoQ L (i+1)
  ·by_cases b:L[i].kind=102
   ·rw [zfY L i h a b];exact zk9 L 0 0 _ (zk9 L 1 0 _ (zk9 L 2 0 _ (fun h=>absurd rfl h)))
   ·rw [zfZ L i h a b];intro _;show ¬(2:Int)=0;decide
 ·rw [zeu L i h];intro _;decide
termination_by L.length-i
theorem zxy(A:List ByteArray)(i:Nat):¬zbO A i=(0,0)→¬(zbO A i).1=0:=by
 by_cases h:i<A.length
 ·cases h1:(say A[i]).ok with
  | true=>rw [zfh A i h h1];exact zxy A (i+1)
  | false=>rw [zeb A i h h1];intro _;show ¬(1:Int)=0;decide
 ·rw [zga A i h];exact zoQ _ 0
termination_by A.length-i
theorem ztv{s:ByteArray}(h:¬zaQ s=(0,0)):((zaQ s).1 != 0)=true:=by
 rw [bne_iff_ne]
 revert h
 unfold zaQ;split
 ·intro _;decide
 ·exact zxy _ 0
theorem zqK(s:ByteArray)(w:World)(ao:Option Addr)(icap:Nat)(n:Int)(inp:List Int)(hs:s.size≤1048576)(hiv:SlB w w.heap.size (.slice ao inp.length icap) inp)(hin:inp.length≤1048576):
  qC 20 #[.string s,.slice ao inp.length icap,.int .i64 n] w (zaT w (ziw s inp n)):=by
 unfold ziw;by_cases a:zaQ s=(0,0)
 ·rw [if_neg (by simpa using a)];by_cases b:n<0
  ·rw [if_pos (Or.inl b)];exact zqJ s w _ n hs a b
  by_cases c:100000<n
  ·rw [if_pos (Or.inr c)];exact znF s w _ n hs a (by simpa using b) c
  rw [if_neg (by omega)];obtain⟨k,rfl⟩:=Int.eq_ofNat_of_zero_le (by omega:0≤n);exact ztu s w ao icap k inp hs a hiv hin (by omega) _ rfl
 ·rw [if_pos a];exact zqI s w _ n hs _ _ rfl (ztv a)
end
end Go.Proofs.YtfpgjkbjbbgciaaGreatDoor
