import Derived.Test.YtfpgjkbjbbgciaaGreatDoorMk40
set_option maxRecDepth 100000
set_option maxHeartbeats 8000000
namespace Go.Proofs.YtfpgjkbjbbgciaaGreatDoor
open Go.RowKit Sp
section
attribute [local go_sem ↓] Go.wp_at_zero Go.wp_at_succ
structure EndsOk(a b c:Int):Prop where
 a0:-4611686018427387904≤a
 a1:a≤4611686018427387904
 b0:-4611686018427387904≤b
 b1:b≤4611686018427387904
 c0:1≤c
 c1:c≤1000
 few:b-a≤2500*c
def zAq(B:Nat)(w:World)(b px:Nat)(cv:Value)(code:List Int)(V:Nat→Value)(S:Wst):Ending→World→Prop:=fun e w'=>∃ x y z:Int,e=.returned (.tuple #[.int .i64 x,.int .i64 y,.int .i64 z])∧EndsOk x y z∧zmU B w b px cv code V S w'
theorem WrM.dp{B:Nat}{w:World}{b px:Nat}{cv:Value}{code:List Int}{S:Wst}{k:Nat}{V:Nat→Value}(h:WrM B w b px cv code S k V):w.cell? ⟨b,20,none⟩=some (.int .i64 (S.deep:Int)):=by rw [←h.v20];exact h.blk.cell 20 (by omega)
theorem zzz{z:Int}(h:i64 z):∃ q,z.tdiv 4=q∧-2305843009213693952≤q∧q≤2305843009213693952:=by
 obtain⟨h1,h2⟩:=h;have e1:=Int.mul_tdiv_add_tmod z 4;have e2:=Int.tmod_lt_of_pos z (show(0:Int)<4 by omega);have e3:=Int.lt_tmod_of_pos z (show(0:Int)<4 by omega);exact⟨_,rfl,by omega,by omega⟩
theorem zoS{x:Int}(h0:-9223372036854775808≤x)(h1:x≤9223372036854775807):IntKind.i64.wrap x=x:=by
 rw [zhA];unfold w64;omega
theorem zz0{B:Nat}{w:World}{b px:Nat}{cv:Value}{code:List Int}{S:Wst}{k:Nat}{V:Nat→Value}(M0:WrM B w b px cv code S k V):
  Calls Tryz.prog 119 #[.pointer (some ⟨b,0,none⟩)] w (zAq B w b px cv code V S):=by
 have H1:=M0.cx;have F0:=Fr.refl b px w V;go_enter Tryz.func119,Tryz.ntmps119;go_wp2_with fail
 go_region_held3 (fun W=>W.cell? ⟨b,0,none⟩=some (.pointer (some ⟨px,0,none⟩)))
  (first
    | exact H1
    | exact H2
    | exact H3
    | exact H4)
  (first
    | (go_at_call 41;first
        | ((with_reducible refine(zax M0.drew 20 (by omega)).mono ?_);rintro e w1 ⟨Z,rfl,hi1,k1,V1,M1,f1⟩;have F1:=(F0.trans (Fr.low (Below.refl _ _).drew)).trans f1;have H2:=M1.cx)
        | ((with_reducible refine(zax M1 24 (by omega)).mono ?_);rintro e w2 ⟨i2,rfl,hi2,k2,V2,M2,f2⟩;have F2:=F1.trans f2;have H3:=M2.cx)
        | ((with_reducible refine(zax M2 5 (by omega)).mono ?_);rintro e w3 ⟨i3,rfl,hi3,k3,V3,H,f3⟩;have F3:=F2.trans f3;have H4:=H.cx)))
 rw [show IntKind.i64.wrap ((Z:Int)-4)=(Z:Int)-4 from zoS (by omega) (by omega),show IntKind.i64.wrap ((i2:Int)-4)=(i2:Int)-4 from zoS (by omega) (by omega),show IntKind.i64.wrap (1+(i3:Int))=1+(i3:Int) from zoS (by omega) (by omega)];obtain⟨a,ha⟩:∃ a:Int,(Z:Int)-4=a:=⟨_,rfl⟩
 obtain⟨o,hb⟩:∃ o:Int,(i2:Int)-4=o:=⟨_,rfl⟩
 obtain⟨d,i⟩:∃ d:Int,1+(i3:Int)=d:=⟨_,rfl⟩
 rw [ha,hb,i];have a0:-4≤a:=by omega
 have a1:a≤15:=by omega
 have b0:-4≤o:=by omega
 have b1:o≤19:=by omega
 have r:1≤d:=by omega
 have A:d≤5:=by omega
 clear ha hb i H1 H2 H3;have d3:=H.dp;have c3:=H.cx;go_wp2_with(first
  | (go_at_call 41;(with_reducible refine(zax H 4 (by omega)).mono ?_);rintro e w4 ⟨t,rfl,E,k4,V4,I,f4⟩;have F4:=F3.trans f4;have c4:=I.cx;have d4:=I.dp;refine Hid.out ?_))
 unfold Hid;rcases Nat.eq_zero_or_pos t with rfl|htp
 ·go_wp2_with(first
   | (go_at_call 41;(with_reducible refine(zax I 2 (by omega)).mono ?_);rintro e w5 ⟨s,rfl,hs,k5,V5,J,f5⟩;have F5:=F4.trans f5;have c5:=J.cx;have d5:=J.dp;refine Hid.out ?_))
  unfold Hid;have A:d≤1000:=by omega
  have U:s=0∨s=1:=by omega
  rcases U with rfl|rfl
  go_wp2_with(first
   | (go_at_call 41;(with_reducible refine(zax J 1000 (by omega)).mono ?_);rintro e w6 ⟨y,rfl,hy,k6,V6,O,f6⟩;have F6:=F5.trans f6;have c6:=O.cx;have d6:=O.dp)
   | (go_at_call 41;(with_reducible refine(zax O 30 (by omega)).mono ?_);rintro e w7 ⟨t,rfl,E,k7,V7,j,T⟩;have M:=F6.trans T;have c7:=j.cx;have d7:=j.dp;refine Hid.out ?_))
  unfold Hid;obtain⟨d,i⟩:∃ d:Int,1+(y:Int)=d:=⟨_,rfl⟩
  rw [i];have r:1≤d:=by omega
  have A:d≤1000:=by omega
  clear i;refine Hid.out ?_;rotate_left;go_wp2_with(first
   | (go_at_call 41;(with_reducible refine(zax J 30 (by omega)).mono ?_);rintro e w7 ⟨t,rfl,E,k7,V7,j,T⟩;have M:=F5.trans T;have c7:=j.cx;have d7:=j.dp;refine Hid.out ?_))
  all_goals
   unfold Hid;have X:(t:Int)<2500:=by omega
   clear E;by_cases hd:S.deep=0
   rw [hd] at d7;go_wp2_with(first
    | (go_at_call 41;(with_reducible refine(zax j 3 (by omega)).mono ?_);rintro e w8 ⟨u,rfl,hu,k8,V8,K,f8⟩;have F8:=M.trans f8;have c8:=K.cx;have d8:=K.dp;refine Hid.out ?_))
   unfold Hid;rcases Nat.eq_zero_or_pos u with rfl|hup
   go_wp2_with(first
    | (go_at_call 41;(with_reducible refine(zax K 2500 (by omega)).mono ?_);rintro e w9 ⟨t,rfl,E,k9,V9,P,f9⟩;have F9:=F8.trans f9;have c9:=P.cx;have d9:=P.dp;have X:=E)
    | (go_at_call 41;(with_reducible refine(zax P 5 (by omega)).mono ?_);rintro e G ⟨v,rfl,hv,F,n,c,g⟩;have h:=F9.trans g;have p:=c.cx;have C:=c.dp;refine Hid.out ?_))
   rotate_left;go_wp2_with(first
    | (go_at_call 41;(with_reducible refine(zax K 5 (by omega)).mono ?_);rintro e G ⟨v,rfl,hv,F,n,c,g⟩;have h:=F8.trans g;have p:=c.cx;have C:=c.dp;refine Hid.out ?_))
   rotate_left;have hd2:¬(S.deep:Int)=0:=by omega
   go_wp2_with(first
    | (go_at_call 41;(with_reducible refine(zax j 5 (by omega)).mono ?_);rintro e G ⟨v,rfl,hv,F,n,c,g⟩;have h:=M.trans g;have p:=c.cx;have C:=c.dp;refine Hid.out ?_))
   all_goals
    unfold Hid;have p0:0≤d*(t:Int):=Int.mul_nonneg (by omega) (by omega);have p1:d*(t:Int)≤2500*d:=by rw [Int.mul_comm 2500 d];exact Int.mul_le_mul_of_nonneg_left (by omega) (by omega)
    have p2:d*(t:Int)≤2500000:=by omega
    have Y:v=0∨v=1∨v=2∨v=3∨v=4:=by omega
    rcases Y with rfl|rfl|rfl|rfl|rfl
    all_goals go_wp2_with(first
     | (go_at_call 121;(with_reducible refine(zzw c).mono ?_);rintro e w11 ⟨z,rfl,hz,k11,V11,m,R⟩;have L:=h.trans R;have c11:=m.cx;obtain⟨q,hq,q0,q1⟩:=zzz hz)
     | (go_at_call 41;(first|(with_reducible refine(zax m d (by omega)).mono ?_)|(with_reducible refine(zax c d (by omega)).mono ?_));rintro e w12 ⟨x,rfl,hx,aa,Q,N,D⟩;(first|have l:=L.trans D|have l:=h.trans D);have hx0:(0:Int)≤(x:Int):=Int.natCast_nonneg _;refine Hid.out ?_))
    all_goals unfold Hid
    all_goals go_wp2
    all_goals(try simp only [Exit.inBlock,Exit.then])
    all_goals refine bodyPost_ret (results_tmp3 rfl _ _ _) rfl ?_
    all_goals exact⟨_,_,_,rfl,⟨by omega,by omega,by omega,by omega,by omega,by omega,by omega⟩,aa,Q,N,l⟩
 ·go_wp2
  (try simp only [Exit.inBlock,Exit.then])
  refine bodyPost_ret (results_tmp3 rfl _ _ _) rfl ?_;exact⟨a,o,d,rfl,⟨by omega,by omega,by omega,by omega,r,by omega,by omega⟩,k4,V4,I,F4⟩
end
section
attribute [local go_sem ↓] Go.wp_at_zero Go.wp_at_succ
theorem WrM.counted{B:Nat}{w w4:World}{b px:Nat}{cv:Value}{code:List Int}{S:Wst}{k:Nat}{V:Nat→Value}(h:WrM B w b px cv code S k V){gn cn:Nat}{l:Nat}(hl8:l<8)(hg:w.grownBy w4 (V 11).ownBlock)(hnew:(V 11).ownBlock=some gn∨w.heap.size≤gn)(hown:w4.ownsRow B 3 1 (.slice (some ⟨gn,0,none⟩) (S.counts.length+1) cn) (S.counts.length+1) ((S.counts++[l]).map natV)):
  WrM B (w4.setCell ⟨b,11,none⟩ (.slice (some ⟨gn,0,none⟩) (S.counts.length+1) cn)) b px cv code { S with counts:=S.counts++[l] } k (updV V 11 (.slice (some ⟨gn,0,none⟩) (S.counts.length+1) cn))∧Fr b px w V (w4.setCell ⟨b,11,none⟩ (.slice (some ⟨gn,0,none⟩) (S.counts.length+1) cn)) (updV V 11 (.slice (some ⟨gn,0,none⟩) (S.counts.length+1) cn))∧w4.cell? ⟨b,11,none⟩=some (V 11)∧w4.frozen? ⟨b,11,none⟩=false:=by
 have y:=h.base;have f:Below B w w4:=zeR hg (fun g e=>(h.counts.lt g e).1) y;have a:∀ g,g<w.heap.size→¬(V 11).ownBlock=some g→w4.heap[g]?=w.heap[g]?:=fun g hl hne=>hg.block g hl (fun e=>hne e.symm);have t:w4.heap[b]?=w.heap[b]?:=a b h.blk.lt (fun e=>zcp h.counts h.blk.kb (by decide) b e rfl);have u:w4.heap[px]?=w.heap[px]?:=a px h.blk.di.lt (fun e=>zcp h.counts h.blk.di.kx (by decide) px e rfl);have d:=h.blk.block f t u;have j:w4.ownsRow B 9 1 (V 1) S.lines.length (S.lines.map lnV):=zaj h.lines fun g e=>a g (h.lines.lt g e).2 (fun e1=>by
  rcases zcL h.lines h.counts (by decide) with q|q
  ·rw [q] at e;cases e
  ·exact q (e.trans e1.symm))
 obtain⟨r,o,A⟩:=h.known;have m:w4.ownsRow B 113 10 (V 23) S.nk r:=zaj o fun g e=>a g (o.lt g e).2 (fun e1=>by
  rcases zcL o h.counts (by decide) with q|q
  ·rw [q] at e;cases e
  ·exact q (e.trans e1.symm))
 have c:∀{e:TypeId} {size n:Nat} {v:Value} {ys:List Value},w4.ownsRow B e size v n ys→¬e=109→(w4.setCell ⟨b,11,none⟩ (.slice (some ⟨gn,0,none⟩) (S.counts.length+1) cn)).ownsRow B e size v n ys:=fun ho hne=>zaj ho fun g e=>Below.heap_setCell _ _ _ _ (zcp ho d.kb hne g e);refine⟨⟨d.put 11 (by omega) _,?_,?_,?_,fun i hi=>?_,?_,?_,fun i hi=>?_,?_,?_,?_,?_⟩,⟨hg.os,hg.tape,hg.output,by rw [World.size_setCell];exact hg.size,fun q hq hm=>?_,fun q hq hm=>?_,zgN (.inl (by decide)),zld (by decide)⟩,d.cell 11 (by omega),d.fz 11⟩
 ·rw [zac _ _ (by decide)];exact h.v0
 ·rw [zac _ _ (by decide)];exact c j (by decide)
 ·rw [zac _ _ (by decide)];exact h.v2
 ·rw [zac _ _ (by omega)];exact h.held i hi
 ·rw [zaT];have:=c hown (by decide);simpa using this
 ·intro x z;rcases List.mem_append.1 z with e|e
  ·exact h.cnt8 x e
  ·rw [List.mem_singleton.1 e];exact hl8
 ·rw [zac _ _ (by omega)];exact h.gives i hi
 ·rw [zac _ _ (by decide)];exact h.v20
 ·rw [zac _ _ (by decide)];exact h.v21
 ·rw [zac _ _ (by decide)];exact h.v22
 ·rw [zac _ _ (by decide)];exact⟨r,c m (by decide),A⟩
 ·rw [Below.heap_setCell _ _ _ _ (fun e=>hm (.inl e))];exact a q hq (fun e=>hm (.inr (.inr (.inr e))))
 ·rcases hm with e|e|e|e
  ·exact .inl e
  ·exact .inr (.inl e)
  ·rw [zac _ _ (by decide)] at e;exact .inr (.inr (.inl e))
  ·rw [zaT] at e;have s:gn=q:=Option.some.inj e;rcases hnew with e3|e3
   ·exact .inr (.inr (.inr (by rw [e3,s])))
   ·omega
theorem zsn{w:World}{B:Nat}{e:TypeId}{ao:Option Addr}{n m cap:Nat}{xs:List Value}(h:w.ownsRow B e 1 (.slice ao n cap) n xs)(hm:m≤n):w.ownsRow B e 1 (.slice ao m cap) m (xs.take m):=by
 obtain⟨h1,d⟩:=h;refine⟨by rw [List.length_take];omega,?_⟩;rcases d with ⟨a,h0⟩|⟨g,c,b,a,f,j,hn,i,k,l⟩
 ·left;simp only [Value.slice.injEq] at a;obtain⟨rfl,_,rfl⟩:=a;have:m=0:=by omega
  subst this;exact⟨rfl,rfl⟩
 ·right;simp only [Value.slice.injEq] at a;obtain⟨rfl,_,rfl⟩:=a;refine⟨g,cap,b,rfl,f,j,by omega,i,k,?_⟩;rw [←l,List.take_take,Nat.min_eq_left (by omega),Nat.mul_one]
theorem WrM.cut{B:Nat}{w:World}{b px:Nat}{cv:Value}{code:List Int}{S:Wst}{k:Nat}{V:Nat→Value}(h:WrM B w b px cv code S k V){ao:Option Addr}{cap:Nat}(hv:V 11=.slice ao S.counts.length cap)(C:List Nat)(R:List Nat)(hC:S.counts=C++R):
  WrM B (w.setCell ⟨b,11,none⟩ (.slice ao C.length cap)) b px cv code { S with counts:=C } k (updV V 11 (.slice ao C.length cap))∧Fr b px w V (w.setCell ⟨b,11,none⟩ (.slice ao C.length cap)) (updV V 11 (.slice ao C.length cap)):=by
 obtain⟨j,c,l⟩:=h.rows (w':=w.setCell ⟨b,11,none⟩ (.slice ao C.length cap)) (fun g _ hne _=>Below.heap_setCell _ _ _ _ hne);rw [hv] at c;have d:=zsn c (m:=C.length) (by rw [hC];simp);have e:(S.counts.map natV).take C.length=C.map natV:=by rw [hC,List.map_append];exact List.take_left' (by simp)
 rw [e] at d;refine⟨⟨h.blk.put 11 (by omega) _,?_,?_,?_,fun i hi=>?_,?_,fun x hx=>h.cnt8 x (by rw [hC];exact List.mem_append_left _ hx),fun i hi=>?_,?_,?_,?_,?_⟩,rfl,rfl,rfl,by rw [World.size_setCell];exact Nat.le_refl _,fun q _ hm=>Below.heap_setCell _ _ _ _ (fun e=>hm (.inl e)),fun q _ hm=>?_,zgN (.inl (by decide)),zld (by decide)⟩
 ·rw [zac _ _ (by decide)];exact h.v0
 ·rw [zac _ _ (by decide)];exact j
 ·rw [zac _ _ (by decide)];exact h.v2
 ·rw [zac _ _ (by omega)];exact h.held i hi
 ·rw [zaT];exact d
 ·rw [zac _ _ (by omega)];exact h.gives i hi
 ·rw [zac _ _ (by decide)];exact h.v20
 ·rw [zac _ _ (by decide)];exact h.v21
 ·rw [zac _ _ (by decide)];exact h.v22
 ·rw [zac _ _ (by decide)];exact l
 ·rcases hm with e|e|e|e
  ·exact .inl e
  ·exact .inr (.inl e)
  ·rw [zac _ _ (by decide)] at e;exact .inr (.inr (.inl e))
  ·rw [zaT] at e;refine .inr (.inr (.inr ?_));rw [hv];cases ao with
   | none=>cases e
   | some a=>exact e
def zjA(h:Nat→Bool):Nat:=(h 0).toNat+(h 1).toNat+(h 2).toNat+(h 3).toNat+(h 4).toNat+(h 5).toNat+(h 6).toNat+(h 7).toNat
theorem zxK(b:Bool):b.toNat≤1:=by cases b <;> decide
theorem ze8{h:Nat→Bool}(hl:zjA h<8):∃ r,r<8∧h r=false:=by
 refine Classical.byContradiction fun hn=>?_;have a:∀ r,r<8→h r=true:=fun r hr=>by
  cases e:h r with
  | true=>rfl
  | false=>exact absurd ⟨r,hr,e⟩ hn
 unfold zjA at hl;rw [a 0 (by omega),a 1 (by omega),a 2 (by omega),a 3 (by omega),a 4 (by omega),a 5 (by omega),a 6 (by omega),a 7 (by omega)] at hl;exact absurd hl (by decide)
theorem zne(h:Nat→Bool)(r:Nat)(hr:r<8):zjA (updH h r true)≤zjA h+1:=by
 have t:=fun j=>zxK (h j);have t0:=t 0;have t1:=t 1;have t2:=t 2;have t3:=t 3;have t4:=t 4;have t5:=t 5;have t6:=t 6;have t7:=t 7;have b:r=0∨r=1∨r=2∨r=3∨r=4∨r=5∨r=6∨r=7:=by omega
 unfold zjA updH;rcases b with rfl|rfl|rfl|rfl|rfl|rfl|rfl|rfl <;> simp <;> omega
theorem zv1{h:Nat→Bool}{i n:Nat}(hi:h i=false)(hn:updH h i true n=false):updH (updH (updH (updH h i true) n true) i false) n false=h:=by
 have c:¬n=i:=fun e=>by rw [e] at hn;simp [updH] at hn
 have b:h n=false:=by simpa [updH,c] using hn
 funext j
 unfold updH;by_cases e:j=n
 ·rw [if_pos e,e,b]
 ·rw [if_neg e];by_cases a:j=i
  ·rw [if_pos a,a,hi]
  ·rw [if_neg a,if_neg e,if_neg a]
end
section
attribute [local go_sem ↓] Go.wp_at_zero Go.wp_at_succ
theorem WrM.two{B:Nat}{w:World}{b px:Nat}{cv:Value}{code:List Int}{S:Wst}{k:Nat}{V:Nat→Value}(h:WrM B w b px cv code S k V){v:Value}(hv:V 23=v):w.cell? ⟨b,0,none⟩=some (.pointer (some ⟨px,0,none⟩))∧w.cell? ⟨b,23,none⟩=some v:=⟨h.cx,by rw [←hv];exact h.blk.cell 23 (by omega)⟩
structure SlotAt(w:World)(g o z f:Nat)(G:Nat→Bool):Prop where
 cz:w.cell? ⟨g,o,none⟩=some (.int .i64 (z:Int))
 cg:∀ j,j<8→w.cell? ⟨g,o+(1+j),none⟩=some (.bool (G j))
 cf:w.cell? ⟨g,o+9,none⟩=some (.int .i64 (f:Int))
theorem KnRow.slot{B:Nat}{w:World}{g cap nk:Nat}{fs:Nat→Fw}(h:KnRow B w (.slice (some ⟨g,0,none⟩) nk cap) nk fs)(i:Nat)(hi:i<nk):SlotAt w g (i*10) (fs i).wt (fs i).fr (fs i).gv∧(fs i).wt≤(i+1)*2147483648∧(fs i).fr≤i+1∧∀ r,8≤r→(fs i).gv r=false:=by
 obtain⟨d,b,c⟩:=h;have F:=c i hi;have a:∀ j v,d[j]?=some v→w.cell? ⟨g,j,none⟩=some v:=fun j v hv=>zdy b j v hv;exact⟨⟨a _ _ F.z,fun j hj=>a _ _ (F.g j hj),a _ _ F.f⟩,F.zb,F.fb,F.g8⟩
theorem zhJ{w:World}{q z f:Nat}{G:Nat→Bool}(h:w.heap[q]?=some (.cells #[.int .i64 (z:Int),.bool (G 0),.bool (G 1),.bool (G 2),.bool (G 3),.bool (G 4),.bool (G 5),.bool (G 6),.bool (G 7),.int .i64 (f:Int)] 113 (0,0))):w.cell? ⟨q,0,none⟩=some (.int .i64 (z:Int))∧(∀ j,j<8→w.cell? ⟨q,1+j,none⟩=some (.bool (G j)))∧w.cell? ⟨q,9,none⟩=some (.int .i64 (f:Int)):=by
 refine⟨by rw [cell_of_row w q 0 _ _ _ h];rfl,fun j hj=>?_,by rw [cell_of_row w q 9 _ _ _ h];rfl⟩;rw [cell_of_row w q (1+j) _ _ _ h];have b:j=0∨j=1∨j=2∨j=3∨j=4∨j=5∨j=6∨j=7:=by omega
 rcases b with rfl|rfl|rfl|rfl|rfl|rfl|rfl|rfl <;> rfl
theorem WrM.newNot2{B:Nat}{w:World}{b px:Nat}{cv:Value}{code:List Int}{S:Wst}{k:Nat}{V:Nat→Value}(h:WrM B w b px cv code S k V):¬Mine b px V w.heap.size:=fun hm=>by
 rcases hm with e|e|e|e
 ·have:=h.blk.lt;omega
 ·have:=h.blk.di.lt;omega
 ·have:=(h.lines.lt _ e).2;omega
 ·have:=(h.counts.lt _ e).2;omega
theorem WrM.heldAt{B:Nat}{w:World}{b px:Nat}{cv:Value}{code:List Int}{S:Wst}{k:Nat}{V:Nat→Value}(h:WrM B w b px cv code S k V):∀ j,j<8→w.cell? ⟨b,3+j,none⟩=some (.bool (S.held j)):=fun j hj=>by rw [←h.held j hj];exact h.blk.cell (3+j) (by omega)
theorem znc{i:Nat}{D:ByteArray}(h:Hid (D=ba (digL (i:Int)))):ba (callL i).bytes=ba [9]++((⟨#[99,97,108,108,32,102]⟩:ByteArray)++D):=by
 rw [show D=_ from h,show digL (i:Int)=decL i by unfold digL;rw [if_neg (by omega)];rfl];have e:(⟨#[99,97,108,108,32,102]⟩:ByteArray)=ba [99,97,108,108,32,102]:=rfl;rw [e];simp only [zeg];refine congrArg ba ?_;simp [Ln.bytes,Ln.blank,zc8,callL,fnW]
theorem zlm{b px q n:Nat}{V:Nat→Value}{v:Value}(h:¬Mine b px V q)(n1:¬n=1)(n11:¬n=11):¬Mine b px (updV V n v) q:=fun hm=>by
 unfold Mine at hm;rw [zac _ _ (fun e=>n1 e.symm),zac _ _ (fun e=>n11 e.symm)] at hm;exact h hm
theorem zgn{c:Array UInt8}{D:ByteArray}(hc:c.size≤10)(h2:D.size≤21):((⟨c⟩:ByteArray)++D).size≤1000:=by
 have e2:(⟨c⟩:ByteArray).size=c.size:=rfl;simp only [ByteArray.size_append];omega
theorem zv0{S:Wst}{i z f:Nat}{G:Nat→Bool}{V7:Nat→Value}(hiN:i<S.nk)(hnk:S.nk≤1000)(hze:Hid (z=(S.fs i).wt))(hfe:Hid (f=(S.fs i).fr))(hGe:Hid (G=(S.fs i).gv))(hH:Hid (∀ j,j<8→S.held j=true→G j=false))(hG8:Hid (∀ r,8≤r→G r=false))(hG:∀ j,j<8→G j=true→gvOf V7 j=true)(hf:f+1≤frOf V7)(hlt:z+2<1073741824):Sq S.nk S.fs S.held S.counts [callL i] (z+2) (gvOf V7) (frOf V7):=by
 have b:∀ r,8≤r→G r=false:=hG8;rw [show z=_ from hze] at hlt ⊢;rw [show f=_ from hfe] at hf;have e:(S.fs i).gv=G:=Eq.symm hGe;refine(Sq.call (H:=S.held) (Gv:=gvOf V7) hiN (by omega) (by omega) (fun r hr=>?_) (fun r hr=>?_)).mono (Nat.le_refl _) (fun _ h=>h) hf
 ·rw [e];by_cases a:r<8
  ·exact(show ∀ j,j<8→S.held j=true→G j=false from hH) r a hr
  ·exact b r (by omega)
 ·rw [e] at hr;by_cases a:r<8
  ·exact hG r a hr
  ·rw [b r (by omega)] at hr;cases hr
theorem hidK{p:Prop}(h:p):Hid p:=h
theorem znd{B:Nat}{w:World}{b px:Nat}{cv:Value}{code:List Int}{S:Wst}{k:Nat}{V:Nat→Value}(M:WrM B w b px cv code S k V)(rf:Nat)(_hrf:rf<8)(_hf:S.held rf=false)(hn:S.lines.length≤10000)(hnk:S.nk≤1000)
  (hpl:∀ W k2 V2,WrM B W b px cv code S k2 V2→Calls Tryz.prog 94 #[.pointer (some ⟨b,0,none⟩)] W fun e w'=>e=.returned (.int .i64 1)∧zoQ B W b px cv code V2 S w') :
  Calls Tryz.prog 61 #[.pointer (some ⟨b,0,none⟩)] w fun e w'=>∃ n:Nat,(e=.returned (.int .i64 (n:Int))∧n≤S.nk*2147483648+2)∧PcPost B w b px cv code V S 2 0 w' n:=by
 have c0:=M.cx;have ai:=M.blk.cell 23 (by omega);obtain⟨xs,aq,hxs⟩:=M.known;obtain⟨ao,cap,hv⟩:=zba aq;rw [hv] at ai;have F:=Fr.refl b px w V;by_cases h0:S.nk=0
 ·rw [h0] at ai;have hp:=hpl w k V M;go_enter Tryz.func61,Tryz.ntmps61;go_wp2_with(first
   | (go_at_call 94;(with_reducible refine hp.mono ?_);rintro e w1 ⟨rfl,h⟩))
  go_ret;exact⟨1,⟨rfl,by omega⟩,zvr F h⟩
 ·have ap:(0:Int)<(S.nk:Int):=by omega
  have hk2:(S.nk:Int)≤1000:=by omega
  go_enter Tryz.func61,Tryz.ntmps61;go_wp2_with(first
   | (go_at_call 41;(with_reducible refine(zax M 3 (by omega)).mono ?_);rintro e w1 ⟨t,rfl,ht,k1,V1,M1,f1⟩;have F1:=F.trans f1;refine Hid.out ?_))
  unfold Hid;obtain⟨xs1,al,hxs1⟩:=M1.known;obtain⟨g,U,R,hgB,hgl⟩:=al.form (by omega);have H1:=M1.two R;obtain⟨c1,d1⟩:=H1;have H1:=M1.two R;rcases Nat.eq_zero_or_pos t with rfl|htp
  focus
   go_wp2_with fail
   go_region_held3 (fun W=>W.cell? ⟨b,0,none⟩=some (.pointer (some ⟨px,0,none⟩))∧W.cell? ⟨b,23,none⟩=some (.slice (some ⟨g,0,none⟩) S.nk U))
    (first
      | exact H1
      | exact H2)
    (first
      | (go_at_call 41;(with_reducible refine(ze5 M1.drew.blk.di (S.nk:Int) ap).mono ?_);rintro e T ⟨i,rfl,hi,k2,D2,g2⟩;have M2:=M1.drew.threw D2 g2;have H2:=M2.two R;have an:(0:Int)≤(i:Int):=Int.natCast_nonneg _))
   have u:i<S.nk:=Int.ofNat_lt.1 hi;have F2:=(F1.trans (Fr.low (Below.refl _ _).drew)).trans (Fr.grown g2);have d2:=H2.2;refine Hid.out ?_
  rotate_left
  focus
   obtain⟨T,aw⟩:∃ T,T=w1:=⟨w1,rfl⟩
   subst aw;obtain⟨i,hi⟩:=Int.eq_ofNat_of_zero_le (show(0:Int)≤(S.nk:Int)-1 by omega);rw [hi];have u:i<S.nk:=by omega
   have an:(0:Int)≤(i:Int):=by omega
   have M2:=M1;have F2:=F1;have d2:=H1.2;have ht2:((t:Int) == 0)=false:=by simp;omega
   refine Hid.out ?_
  all_goals
   unfold Hid;have hi1:(i:Int)<(S.nk:Int):=by omega
   have Z:=zoR i (n:=1000) (by omega) (by decide);have c2:=M2.cx;obtain⟨H,hz,am,I⟩:=(R▸M2.known:KnRow B T (.slice (some ⟨g,0,none⟩) S.nk U) S.nk S.fs).slot i u;obtain⟨z,E⟩:∃ z,z=(S.fs i).wt:=⟨_,rfl⟩
   obtain⟨f,A⟩:∃ f,f=(S.fs i).fr:=⟨_,rfl⟩
   obtain⟨G,y⟩:∃ G,G=(S.fs i).gv:=⟨_,rfl⟩
   rw [←E,←A,←y] at H;rw [←E] at hz;rw [←A] at am;rw [←y] at I;replace E:=hidK E;replace A:=hidK A;replace y:=hidK y;replace I:=hidK I;have s0:=H.cz;have s1:=H.cg 0 (by omega);have s2:=H.cg 1 (by omega);have s3:=H.cg 2 (by omega);have s4:=H.cg 3 (by omega);have s5:=H.cg 4 (by omega);have s6:=H.cg 5 (by omega);have s7:=H.cg 6 (by omega);have s8:=H.cg 7 (by omega);have s9:=H.cf;simp only [Nat.reduceAdd] at s1 s2 s3 s4 s5 s6 s7 s8;have ay:z≤S.nk*2147483648:=Nat.le_trans hz (Nat.mul_le_mul_right _ u);have hz3:z≤1000*2147483648:=Nat.le_trans ay (Nat.mul_le_mul_right _ hnk);go_wp2_with fail
   have MW:=M2.alloc (.cells #[.int .i64 (z:Int),.bool (G 0),.bool (G 1),.bool (G 2),.bool (G 3),.bool (G 4),.bool (G 5),.bool (G 6),.bool (G 7),.int .i64 (f:Int)] 113);have FW:=F2.trans (Fr.low ((Below.refl _ _).alloc (Nat.le_refl _) (.cells #[.int .i64 (z:Int),.bool (G 0),.bool (G 1),.bool (G 2),.bool (G 3),.bool (G 4),.bool (G 5),.bool (G 6),.bool (G 7),.int .i64 (f:Int)] 113)));have l:(T.alloc (.cells #[.int .i64 (z:Int),.bool (G 0),.bool (G 1),.bool (G 2),.bool (G 3),.bool (G 4),.bool (G 5),.bool (G 6),.bool (G 7),.int .i64 (f:Int)] 113)).heap[T.heap.size]?=some (.cells #[.int .i64 (z:Int),.bool (G 0),.bool (G 1),.bool (G 2),.bool (G 3),.bool (G 4),.bool (G 5),.bool (G 6),.bool (G 7),.int .i64 (f:Int)] 113 (0,0)):=heap_alloc_new _ _;have aa:=M2.newNot2;have ab:T.heap.size<(T.alloc (.cells #[.int .i64 (z:Int),.bool (G 0),.bool (G 1),.bool (G 2),.bool (G 3),.bool (G 4),.bool (G 5),.bool (G 6),.bool (G 7),.int .i64 (f:Int)] 113)).heap.size:=by simp
   clear s0 s1 s2 s3 s4 s5 s6 s7 s8 s9 H c2 d2;generalize T.alloc (.cells #[.int .i64 (z:Int),.bool (G 0),.bool (G 1),.bool (G 2),.bool (G 3),.bool (G 4),.bool (G 5),.bool (G 6),.bool (G 7),.int .i64 (f:Int)] 113)=W at MW FW l ab ⊢;generalize T.heap.size=q at l aa ab ⊢;have s:=MW.heldAt;obtain⟨x0,xg,x9⟩:=zhJ l
   go_loopw [5] (fun t wr=>∃ r:Nat,r≤8∧t=.int .i64 (r:Int)∧wr=W∧Hid (∀ j,j<r→S.held j=true→G j=false)) (fun t _=>8-(intOf t).toNat)
   case atStart=>exact⟨0,by omega,rfl,rfl,fun j hj=>by omega⟩
   case round =>
    obtain⟨r,hr,rfl,ax,a⟩:=hrel;subst ax;by_cases d:r<8
    ·have cr:=s r d;have gr:=xg r d;have au:(0:Int)≤(r:Int):=by omega
     have av:(r:Int)<8:=by omega
     clear s xg;cases hh:S.held r with
     | false =>
      rw [hh] at cr;have p:Hid (∀ j,j<r+1→S.held j=true→G j=false):=hidK fun j hj hhj=>by
       by_cases e:j=r
       ·rw [e,hh] at hhj;cases hhj
       ·exact(Hid.out2 a) j (by omega) hhj
      clear a;go_wp2;go_roundw
      case rel=>exact⟨r+1,by omega,by go_num,trivial,p⟩
      case measure=>simp [intOf];omega
     | true =>
      rw [hh] at cr;cases hG:G r with
      | false =>
       rw [hG] at gr;have p:Hid (∀ j,j<r+1→S.held j=true→G j=false):=hidK fun j hj hhj=>by
        by_cases e:j=r
        ·rw [e];exact hG
        ·exact(Hid.out2 a) j (by omega) hhj
       clear a;go_wp2;go_roundw
       case rel=>exact⟨r+1,by omega,by go_num,trivial,p⟩
       case measure=>simp [intOf];omega
      | true =>
       rw [hG] at gr;go_wp2_with(first
        | (go_at_call 94;(with_reducible refine(hpl _ _ _ MW).mono ?_);rintro e w3 ⟨rfl,ar⟩))
       go_ret;exact⟨1,⟨rfl,by omega⟩,zvr FW ar⟩
    ·clear s;have hH:Hid (∀ j,j<8→S.held j=true→G j=false):=hidK fun j hj hhj=>(Hid.out2 a) j (by omega) hhj;clear a;go_wp2_with fail
     go_loopw [6] (fun t wr=>∃ r:Nat,r≤8∧t=.int .i64 (r:Int)∧∃ k' V',WrM B wr b px cv code S k' V'∧Fr b px w V wr V'∧wr.heap[q]?=some (.cells #[.int .i64 (z:Int),.bool (G 0),.bool (G 1),.bool (G 2),.bool (G 3),.bool (G 4),.bool (G 5),.bool (G 6),.bool (G 7),.int .i64 (f:Int)] 113 (0,0))∧¬Mine b px V' q∧q<wr.heap.size∧Hid (∀ j,j<r→G j=true→gvOf V' j=true)) (fun t _=>8-(intOf t).toNat)
     case atStart=>exact⟨0,by omega,rfl,_,_,MW,FW,l,aa,ab,fun j hj=>by omega⟩
     case round =>
      clear x0 xg x9 l;obtain⟨r,hr,rfl,k3,V3,o,F3,m,J,x,O⟩:=hrel;obtain⟨y0,yg,y9⟩:=zhJ m;have ag:¬q=b:=fun e=>J (.inl e);by_cases d:r<8
      ·obtain⟨gv,ak⟩:=o.gives r d;have cr:=o.blk.cell (12+r) (by omega);rw [ak] at cr;have fr:=o.blk.fz (12+r);have gr:=yg r d;have au:(0:Int)≤(r:Int):=by omega
       have av:(r:Int)<8:=by omega
       clear yg y0 y9;obtain⟨Gr,N⟩:∃ Gr,Gr=G r:=⟨_,rfl⟩
       rw [←N] at gr;replace N:=hidK N;cases gv with
       | true =>
        go_wp2_with fail
        refine zan 17 (by kernel_rfl) (by kernel_rfl) ?_;simp only [List.take_succ_cons,List.take_zero,List.drop_succ_cons,List.drop_zero];repeat(go_big_quiet_step (fail))
        refine wpQuiet_nil ?_;rintro _ ⟨nr,rfl⟩;go_wp2;go_roundw
        case rel=>exact⟨r+1,by omega,by go_num,k3,_,zjt (o.drewN nr) r d true,(F3.trans (Fr.low (zbD _ nr _))).trans ((o.drewN nr).put_fr (12+r) (.bool true) (by omega) (by omega)),(Below.heap_setCell _ _ _ _ ag).trans m,(zlm J (by omega) (by omega)),by rw [World.size_setCell];exact x,hidK fun j hj hGj=>by
         by_cases e:j=r
         ·rw [e];exact zgL d (zaT _ _ _)
         ·exact zva j ((Hid.out2 O) j (by omega) hGj)⟩
        case measure=>simp [intOf];omega
       | false =>
        go_wp2_with fail
        refine zan 17 (by kernel_rfl) (by kernel_rfl) ?_;simp only [List.take_succ_cons,List.take_zero,List.drop_succ_cons,List.drop_zero];repeat(go_big_quiet_step (fail))
        refine wpQuiet_nil ?_;rintro _ ⟨nr,rfl⟩;go_wp2;go_roundw
        case rel=>exact⟨r+1,by omega,by go_num,k3,_,zjt (o.drewN nr) r d Gr,(F3.trans (Fr.low (zbD _ nr _))).trans ((o.drewN nr).put_fr (12+r) (.bool Gr) (by omega) (by omega) (zpU ak)),(Below.heap_setCell _ _ _ _ ag).trans m,(zlm J (by omega) (by omega)),by rw [World.size_setCell];exact x,hidK fun j hj hGj=>by
         by_cases e:j=r
         ·rw [e] at hGj ⊢;rw [zgL d (zaT _ _ _),Hid.out2 N];exact hGj
         ·exact zpU ak j ((Hid.out2 O) j (by omega) hGj)⟩
        case measure=>simp [intOf];omega
      ·obtain⟨fr,aj,hfb⟩:=o.v22;have K:=o.blk.cell 22 (by omega);rw [aj] at K;have ah:=o.blk.fz 22;clear yg y0;have hd0:decide ((fr:Int)<(f:Int)+1)=decide (fr<f+1):=by
        by_cases h:fr<f+1
        ·rw [decide_eq_true h,decide_eq_true];omega
        ·rw [decide_eq_false h,decide_eq_false];omega
       have hf3:f≤1001:=by omega
       go_wp2_with fail
       go_quiet(fail)
       replace o:=o.drewN nq;replace F3:=F3.trans (Fr.low (zbD _ nq _));have m:(wr.drewN nq).heap[q]?=some (.cells #[.int .i64 (z:Int),.bool (G 0),.bool (G 1),.bool (G 2),.bool (G 3),.bool (G 4),.bool (G 5),.bool (G 6),.bool (G 7),.int .i64 (f:Int)] 113 (0,0)):=m;have x:q<(wr.drewN nq).heap.size:=x;have K:(wr.drewN nq).cell? ⟨b,22,none⟩=some (.int .i64 (fr:Int)):=K;have ah:(wr.drewN nq).frozen? ⟨b,22,none⟩=false:=ah;have y9:(wr.drewN nq).cell? ⟨q,9,none⟩=some (.int .i64 (f:Int)):=y9;generalize wr.drewN nq=wr at o F3 m x K ah y9 ⊢;by_cases hlt2:fr<f+1
       ·have M5:=zsd o (f+1) (by omega);have Y:Hid (∀ j,j<8→G j=true→gvOf (updV V3 22 (.int .i64 ((f+1:Nat):Int))) j=true):=hidK fun j hj hGj=>zgN (.inr (by decide)) j ((Hid.out2 O) j (by omega) hGj);have X:f+1≤frOf (updV V3 22 (.int .i64 ((f+1:Nat):Int))):=Nat.le_of_eq (zgM (zaT _ _ _)).symm;have F5:=F3.trans (o.put_fr 22 (.int .i64 ((f+1:Nat):Int)) (by omega) (by omega) (zgN (.inr (by decide))) (zzu aj (by omega)));have Q:(wr.setCell ⟨b,22,none⟩ (.int .i64 ((f+1:Nat):Int))).heap[q]?=_:=(Below.heap_setCell _ _ _ _ ag).trans m;have P:=zlm (v:=.int .i64 ((f+1:Nat):Int)) (n:=22) J (by omega) (by omega);have C:q<(wr.setCell ⟨b,22,none⟩ (.int .i64 ((f+1:Nat):Int))).heap.size:=by rw [World.size_setCell];exact x
        rw [show((f+1:Nat):Int)=(f:Int)+1 by omega] at M5 F5 Q P C Y X;have hd:(fr:Int)<(f:Int)+1:=by omega
        go_wp2_with fail
        have ad:=Q;go_wp2_with(first
         | (go_at_call 36;(with_reducible refine(zfb (i:Int) Z _).mono ?_);rintro e w6 ⟨D,rfl,zD,hD,c⟩;have az:=zfe 6 zD (by decide);have M6:=M5.below c M5.base;have F6:=F5.trans (.low c);have ae:=(c.block q C).trans ad;have ac:=Nat.lt_of_lt_of_le C c.size)
         | (go_at_call 62;(with_reducible refine(zbE M6 (callL i) _ (znc hD) (zgn (by decide) zD) (by omega)).mono ?_);rintro e w7 ⟨rfl,k7,V7,M7,L⟩;have af:=(L.keep q ac P).trans ae;have x7:=(zhJ af).1))
        go_ret;exact⟨z+2,⟨by go_num,by omega⟩,[callL i],S.labels,.call _ u,by simp,Nat.le_refl _,k7,V7,M7,F6.trans L,zv0 u hnk E A y hH I (fun j hj hGj=>L.gv _ ((Hid.out2 Y) j hj hGj)) (Nat.le_trans X L.fm)⟩
       ·have M5:=o;have F5:=F3;have Q:=m;have P:=J;have C:=x;have hd:¬(fr:Int)<(f:Int)+1:=by omega
        have ad:=Q;go_wp2_with(first
         | (go_at_call 36;(with_reducible refine(zfb (i:Int) Z _).mono ?_);rintro e w6 ⟨D,rfl,zD,hD,c⟩;have az:=zfe 6 zD (by decide);have M6:=M5.below c M5.base;have F6:=F5.trans (.low c);have ae:=(c.block q C).trans ad;have ac:=Nat.lt_of_lt_of_le C c.size)
         | (go_at_call 62;(with_reducible refine(zbE M6 (callL i) _ (znc hD) (zgn (by decide) zD) (by omega)).mono ?_);rintro e w7 ⟨rfl,k7,V7,M7,L⟩;have af:=(L.keep q ac P).trans ae;have x7:=(zhJ af).1))
        go_ret;exact⟨z+2,⟨by go_num,by omega⟩,[callL i],S.labels,.call _ u,by simp,Nat.le_refl _,k7,V7,M7,F6.trans L,zv0 u hnk E A y hH I (fun j hj hGj=>L.gv _ ((Hid.out2 O) j (by omega) hGj)) (Nat.le_trans (by rw [zgM aj];omega) L.fm)⟩
end
end Go.Proofs.YtfpgjkbjbbgciaaGreatDoor
