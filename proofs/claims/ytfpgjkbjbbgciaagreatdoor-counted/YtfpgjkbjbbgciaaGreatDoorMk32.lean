import Derived.Test.YtfpgjkbjbbgciaaGreatDoorMk21
import Derived.Test.YtfpgjkbjbbgciaaGreatDoorMk22
import Derived.Test.YtfpgjkbjbbgciaaGreatDoorMk24
set_option maxRecDepth 100000
set_option maxHeartbeats 8000000
namespace Go.Proofs.YtfpgjkbjbbgciaaGreatDoor
section
open Go.RowKit Sp
def lenF(F:List FnM):Nat:=(F.map (fun f=>(zal f.its).length)).sum
def begF(F:List FnM):List Int:=(List.range F.length).map (fun k=>(lenF (F.take k):Int))
theorem zma(F:List FnM)(k:Nat)(h:k<F.length):lenF (F.take (k+1))=lenF (F.take k)+(zal F[k].its).length:=by
 unfold lenF;rw [List.take_succ_eq_append_getElem h,List.map_append,List.sum_append];simp
theorem ztx(F:List FnM)(k:Nat)(h:k<F.length):(begF F).take (k+1)=(begF F).take k++[(lenF (F.take k):Int)]:=by
 have a:k<(begF F).length:=by simp [begF,h]
 rw [List.take_succ_eq_append_getElem a];simp [begF]
theorem zpu(F:List FnM):(begF F).length=F.length:=by simp [begF]
theorem Tryz.info128:(Tryz.prog.info? 128).map (·.size)=some 3:=by kernel_rfl
theorem Tryz.built96(ao:Option Addr)(n c pm:Nat):Tryz.prog.built 128 [(0,.agg #[.slice ao n c,.map (some pm)])]=some #[.slice ao n c,.map (some pm),.slice none 0 0]:=by kernel_rfl
structure PlAt(w wr:World)(v:Value)(pm:Nat)(F:List FnM)(k:Nat)(bs:Value):Prop where
 c0:wr.cell? ⟨w.heap.size+1+1,0,none⟩=some v
 c1:wr.cell? ⟨w.heap.size+1+1,1,none⟩=some (.map (some pm))
 c2:wr.cell? ⟨w.heap.size+1+1,2,none⟩=some bs
 fz:∀ o,wr.frozen? ⟨w.heap.size+1+1,o,none⟩=false
 there_:wr.there (w.heap.size+1) 0 3
 row:wr.ownsRow (w.heap.size+1+1+1) 3 1 bs k (i64s ((begF F).take k))
 low:Below w.heap.size w wr
 size:w.heap.size+1+1+1≤wr.heap.size
theorem zwv(w:World)(v:Value)(pm:Nat)(F:List FnM):PlAt w (((w.alloc (.cells #[v,.map (some pm)] 83)).alloc (.cells #[.slice none 0 0,.map none,.slice none 0 0] 128)).alloc (.cells #[v,.map (some pm),.slice none 0 0] 128)) v pm F 0 (.slice none 0 0):=by
 have b:(w.alloc (.cells #[v,.map (some pm)] 83)).heap.size=w.heap.size+1:=by simp
 have c:Below w.heap.size w (w.alloc (.cells #[v,.map (some pm)] 83)):=(Below.refl _ _).alloc (Nat.le_refl _) _;generalize w.alloc (.cells #[v,.map (some pm)] 83)=W1 at b c;have a:(W1.alloc (.cells #[.slice none 0 0,.map none,.slice none 0 0] 128)).heap.size=w.heap.size+1+1:=by rw [←b];simp
 have e:(W1.alloc (.cells #[.slice none 0 0,.map none,.slice none 0 0] 128)).there (w.heap.size+1) 0 3:=fun j hj=>by
  rw [Nat.zero_add,←b,World.cell?_alloc_new,Array.getElem?_eq_getElem (by simpa using hj)];exact⟨rfl,by simp⟩
 have d:Below w.heap.size w (W1.alloc (.cells #[.slice none 0 0,.map none,.slice none 0 0] 128)):=c.alloc (by omega) _;generalize W1.alloc (.cells #[.slice none 0 0,.map none,.slice none 0 0] 128)=W2 at a e d;rw [←b] at e;refine⟨?_,?_,?_,fun o=>?_,?_,World.ownsRow_nil _ _ _ _,d.alloc (by omega) _,?_⟩
 ·rw [←a,World.cell?_alloc_new];rfl
 ·rw [←a,World.cell?_alloc_new];rfl
 ·rw [←a,World.cell?_alloc_new];rfl
 ·rw [←a];simp
 ·rw [←b];exact World.there_alloc e _
 ·rw [←a];simp
theorem ziz{w:World}{b n:Nat}(h:w.there b 0 n)(j:Nat)(hj:j<n):(∃ u,w.cell? ⟨b,j,none⟩=some u)∧w.frozen? ⟨b,j,none⟩=false:=by
 have:=h j hj;rw [Nat.zero_add] at this;exact⟨Option.isSome_iff_exists.1 this.1,this.2⟩
theorem zty{w:World}{B n:Nat}{v:Value}{xs:List Value}{e:TypeId}{size:Nat}(h:w.ownsRow B e size v n xs):∃ ao cap,v=.slice ao n cap:=zba h
def zAb(w:World)(v:Value)(pm:Nat)(F:List FnM):Ending→World→Prop:=fun e w'=>∃ bs,e=.returned (.agg #[v,.map (some pm),bs])∧w'.ownsRow w.heap.size 3 1 bs F.length (i64s (begF F))∧Below w.heap.size w w'
theorem zqT(w:World)(B pm:Nat)(v:Value)(F:List FnM)(h:PIn B w pm v F)(hF:0<F.length)(hn:F.length≤300)(hb:∀ f∈F,f.its.length≤300)(ht:lenF F≤300):
  Calls Tryz.prog 80 #[.agg #[v,.map (some pm)]] w (zAb w v pm F):=by
 obtain⟨r,d,rfl,ae,hcap,H⟩:=h.fns hF;have K:=Tryz.built96 (some ⟨r,0,none⟩) F.length d pm;have aj:∀ W,(Instr.build 128 #[(0,.agg #[.slice (some ⟨r,0,none⟩) F.length d,.map (some pm)])]).run Tryz.prog W=.ok (.agg #[.slice (some ⟨r,0,none⟩) F.length d,.map (some pm),.slice none 0 0]) W:=fun W=>run_build W 128 _ _ K;go_enter Tryz.func80,Tryz.ntmps80;go_wp2;generalize hv:Value.slice (some ⟨r,0,none⟩) F.length d=v at h K aj;have P0:PlAt w (((w.alloc (.cells #[v,.map (some pm)] 83)).alloc (.cells #[.slice none 0 0,.map none,.slice none 0 0] 128)).alloc (.cells #[v,.map (some pm),.slice none 0 0] 128)) v pm F 0 (.slice none 0 0):=zwv w v pm F;subst hv;generalize ((w.alloc (.cells #[.slice (some ⟨r,0,none⟩) F.length d,.map (some pm)] 83)).alloc (.cells #[.slice none 0 0,.map none,.slice none 0 0] 128)).alloc (.cells #[.slice (some ⟨r,0,none⟩) F.length d,.map (some pm),.slice none 0 0] 128)=W0 at P0;obtain⟨i0,af,al,am,an⟩:=info_parts Tryz.info3
 go_loopw [12,4] (fun ti tb wr=>∃(k:Nat) (P:Value),k≤F.length∧ti=.int .i64 (k:Int)∧tb=.int .i64 (lenF (F.take k):Int)∧PlAt w wr (.slice (some ⟨r,0,none⟩) F.length d) pm F k P) (fun ti _ _=>F.length-(intOf ti).toNat)
 case atStart=>exact⟨0,_,by omega,rfl,rfl,P0⟩
 case round =>
  obtain⟨k,P,hk,rfl,rfl,Z⟩:=hrel;have M:=Z.low;have hszr:=Z.size;by_cases I:k<F.length
  ·obtain⟨c0,c1,c2,c3⟩:=H k I;have y:=List.getElem_mem I;have G:=(h.bodies F[k] y)
   have HL:Hid (lenF (F.take (k+1))=lenF (F.take k)+(zal F[k].its).length):=zma F k I;have HB:Hid ((begF F).take (k+1)=(begF F).take k++[(lenF (F.take k):Int)]):=ztx F k I;have ai:lenF (F.take k)≤300:=by
    refine Nat.le_trans ?_ ht;unfold lenF
    conv=>rhs;rw [←List.take_append_drop k F,List.map_append,List.sum_append]
    omega
   have R:=Nat.le_trans (zdD F[k].its) (hb F[k] y);have hlk:(i64s ((begF F).take k)).length=k:=by simp [zpu];omega
   have g:=Z.row;generalize hT:lenF (F.take k)=T at HL HB ai;generalize F[k]=f at c0 c1 c2 c3 y G R HL;have z:∀ j,wr.cell? ⟨r,j,none⟩=w.cell? ⟨r,j,none⟩:=fun j=>M.cell (p:=⟨r,j,none⟩) ae;rw [←z] at c0 c1 c2 c3;clear z;have hk4:k*4≤1200:=by omega
   obtain⟨l,i,its,bv,m⟩:=f;simp only at c0 c1 c2 c3 G R HL;obtain⟨E,c,rfl⟩:=zba G;have p2:=Z.c2;have hlt2:w.heap.size+1+1<wr.heap.size:=by omega
   have J:=fun q (hq:P.ownBlock=some q)=>(g.lt q hq)
   clear G;go_wp2_with(first
    | (at_builtin;refine wpList_append_own _ rfl _ _ 59 rfl (w.heap.size+1+1+1) 3 i0 (.int .i64 0) 1 8 Tryz.under59 af al am an rfl (by decide) _ _ _ rfl ((g.alloc _).alloc _) ⟨wr.heap.size+1,0,none⟩ 1 1 [.int .i64 (T:Int)] rfl rfl ?_ (by simp [Value.oneCell']) (by unfold maxLen;omega) (by omega) (by simp;omega) ?_))
   ·have:=zlH (wr.alloc (.cells #[.string l,.int .i64 i,.slice E (zal its).length c,.map (some m)] 131)) (.int .i64 (T:Int));rwa [show(wr.alloc (.cells #[.string l,.int .i64 i,.slice E (zal its).length c,.map (some m)] 131)).heap.size=wr.heap.size+1 by simp] at this
   intro v' C s b _;have L:Below wr.heap.size wr (wr.alloc (.cells #[.string l,.int .i64 i,.slice E (zal its).length c,.map (some m)] 131)):=(Below.refl _ _).alloc (Nat.le_refl _) _;have aa:(wr.alloc (.cells #[.string l,.int .i64 i,.slice E (zal its).length c,.map (some m)] 131)).heap.size=wr.heap.size+1:=by simp
   have N:(wr.alloc (.cells #[.string l,.int .i64 i,.slice E (zal its).length c,.map (some m)] 131)).cell? ⟨wr.heap.size,2,none⟩=some (.slice E (zal its).length c):=by simp
   generalize wr.alloc (.cells #[.string l,.int .i64 i,.slice E (zal its).length c,.map (some m)] 131)=w2 at b L aa N;have t:Below wr.heap.size wr (w2.alloc (.cells #[.int .i64 (T:Int)] 3)):=L.alloc (by omega) _;have ak:(w2.alloc (.cells #[.int .i64 (T:Int)] 3)).heap.size=wr.heap.size+1+1:=by rw [←aa];simp
   have x:(w2.alloc (.cells #[.int .i64 (T:Int)] 3)).cell? ⟨wr.heap.size,2,none⟩=some (.slice E (zal its).length c):=(World.cell?_alloc_lt w2 _ _ (by show wr.heap.size<_;omega)).trans N;generalize w2.alloc (.cells #[.int .i64 (T:Int)] 3)=w3 at b t ak x;have V:some (w.heap.size+1+1)≠P.ownBlock:=fun e=>by have:=(J _ e.symm).1;omega
   have U:some (w.heap.size+1)≠P.ownBlock:=fun e=>by have:=(J _ e.symm).1;omega
   have X:some wr.heap.size≠P.ownBlock:=fun e=>by have:=(J _ e.symm).2;omega
   have n:C.heap[w.heap.size+1+1]?=wr.heap[w.heap.size+1+1]?:=(b.block _ (by omega) V).trans (t.block _ (by omega));have u:C.heap[w.heap.size+1]?=wr.heap[w.heap.size+1]?:=(b.block _ (by omega) U).trans (t.block _ (by omega));have d0:=(World.cell?_of_block (w:=wr) (a:=⟨w.heap.size+1+1,0,none⟩) n).trans Z.c0;have d1:=(World.cell?_of_block (w:=wr) (a:=⟨w.heap.size+1+1,1,none⟩) n).trans Z.c1;have d2:=(World.cell?_of_block (w:=wr) (a:=⟨w.heap.size+1+1,2,none⟩) n).trans Z.c2;have dz:∀ o,C.frozen? ⟨w.heap.size+1+1,o,none⟩=false:=fun o=>(World.frozen?_of_block (w:=wr) (a:=⟨w.heap.size+1+1,o,none⟩) n).trans (Z.fz o);have hf4:C.cell? ⟨wr.heap.size,2,none⟩=some (.slice E (zal its).length c):=(b.cell_far ⟨wr.heap.size,2,none⟩ (by show wr.heap.size<_;omega) X).trans x;have O:Below w.heap.size w C:=(M.trans (t.mono (by omega))).grown b (by omega) (fun q hq=>by have:=(J q hq).1;omega);have hsz4:wr.heap.size+1+1≤C.heap.size:=by have:=b.size;omega
   have dz2:=dz 2;have hne6:¬wr.heap.size=w.heap.size+1+1:=by omega
   have hne7:¬w.heap.size+1+1=wr.heap.size:=by omega
   have A:C.there (w.heap.size+1) 0 3:=fun j hj=>by
    obtain⟨q1,q2⟩:=Z.there_ j hj;exact⟨by rw [World.cell?_of_block (w:=wr) u];exact q1,by rw [World.frozen?_of_block (w:=wr) u];exact q2⟩
   obtain⟨gb,D,rfl,hgb,hgl⟩:=s.form (by omega);clear c0 c1 c2 c3 p2 N x;go_wp2;have ad:PlAt w (C.setCell ⟨w.heap.size+1+1,2,none⟩ (.slice (some ⟨gb,0,none⟩) (k+1) D)) (.slice (some ⟨r,0,none⟩) F.length d) pm F (k+1) (.slice (some ⟨gb,0,none⟩) (k+1) D):=by
    have e:=fun j=>zat C (w.heap.size+1+1) 2 j (.slice (some ⟨gb,0,none⟩) (k+1) D) _ d2;refine⟨by rw [e,if_neg (by omega)];exact d0,by rw [e,if_neg (by omega)];exact d1,by rw [e,if_pos rfl],fun o=>zcB C _ _ o _ (dz o),ziq A _ _,?_,O.setCell (p:=⟨w.heap.size+1+1,2,none⟩) (by show w.heap.size≤w.heap.size+1+1;omega) _,by simp [World.setCell];omega⟩;rw [HB.out];have ag:=zaj (w':=C.setCell ⟨w.heap.size+1+1,2,none⟩ (.slice (some ⟨gb,0,none⟩) (k+1) D)) s (fun q hq=>Below.heap_setCell _ _ _ _ (fun e=>by have:=(s.lt q hq).1;simp only at e;omega));simpa [i64s] using ag
   go_roundw
   case rel=>exact⟨k+1,_,by omega,by go_num,by rw [HL.out];go_num,ad⟩
   case measure=>simp [intOf];omega
  ·obtain rfl:k=F.length:=by omega
   have p0:=Z.c0;have p1:=Z.c1;have p2:=Z.c2;have g:=Z.row;rw [List.take_of_length_le (by rw [zpu];omega)] at g;obtain⟨Q,D,rfl⟩:=zty g;obtain⟨⟨u0,r0⟩,z0⟩:=ziz Z.there_ 0 (by omega);obtain⟨⟨u1,r1⟩,z1⟩:=ziz Z.there_ 1 (by omega);obtain⟨⟨u2,r2⟩,z2⟩:=ziz Z.there_ 2 (by omega);have hT:lenF (F.take F.length)=lenF F:=by rw [List.take_length]
   go_wp2;have ac:Tryz.prog.underlying 128=some (.struct _):=Tryz.underlying128;have hr:=World.rangeAt_setCells_same wr (w.heap.size+1) 0 [.slice (some ⟨r,0,none⟩) F.length d,.map (some pm),.slice Q F.length D] Z.there_;have Y:=run_loadVar_mid (wr.setCells (w.heap.size+1) 0 [.slice (some ⟨r,0,none⟩) F.length d,.map (some pm),.slice Q F.length D]) (w.heap.size+1) 0 128 _ _ hr ac rfl Tryz.info128;have S:Below w.heap.size w (wr.setCells (w.heap.size+1) 0 [.slice (some ⟨r,0,none⟩) F.length d,.map (some pm),.slice Q F.length D]):=za8 _ 0 M (by omega);refine bodyPost_ret (v:=.agg #[.slice (some ⟨r,0,none⟩) F.length d,.map (some pm),.slice Q F.length D]) (zcX Tryz.results80 _ ⟨w.heap.size+1,0,none⟩ rfl Y) rfl ⟨_,rfl,?_,S⟩;have ah:=zaj (w':=wr.setCells (w.heap.size+1) 0 [.slice (some ⟨r,0,none⟩) F.length d,.map (some pm),.slice Q F.length D]) g (fun q hq=>zbG _ wr _ _ _ (by have:=(g.lt q hq).1;omega));exact zbR ah (by omega)
end
section
open Sp
def cnt(L:List Said):Nat→Nat
 | 0=>0
 | i+1=>cnt L i+(match L[i]? with|none=>0|some q=>if q.kind=105 then 1 else 0)
theorem zg4(L:List Said)(i:Nat)(h:i<L.length)(h5:L[i].kind=105):cnt L (i+1)=cnt L i+1:=by simp [cnt,List.getElem?_eq_getElem h,h5]
theorem zdE(L:List Said)(i:Nat)(h:i<L.length)(h5:¬L[i].kind=105):cnt L (i+1)=cnt L i:=by simp [cnt,List.getElem?_eq_getElem h,h5]
theorem zw2(L:List Said)(i d:Nat):cnt L i≤cnt L (i+d):=by
 induction d with
 | zero=>exact Nat.le_refl _
 | succ d ih=>exact Nat.le_trans ih (Nat.le_add_right _ _)
theorem zmb(L:List Said){i j:Nat}(h:i≤j):cnt L i≤cnt L j:=by
 obtain⟨d,rfl⟩:=Nat.exists_eq_add_of_le h;exact zw2 L i d
theorem zyG(L:List Said)(i:Nat):cnt L i≤i:=by
 induction i with
 | zero=>exact Nat.le_refl _
 | succ i ih =>
  show cnt L i+_≤i+1;have:(match L[i]? with|none=>0|some q=>if q.kind=105 then 1 else 0)≤1:=by
   split
   ·omega
   ·split <;> omega
  omega
def NoFn(L:List Said)(i j:Nat):Prop:=∀ m (hm:m<L.length),i≤m→m≤j→¬L[m].kind=102
theorem NoFn.one{L:List Said}{i:Nat}{hi:i<L.length}(h:¬L[i].kind=102):NoFn L i i:=fun m hm a b=>by
 have e:m=i:=by omega
 subst e;exact h
theorem NoFn.cons{L:List Said}{i j:Nat}{hi:i<L.length}(h:¬L[i].kind=102)(h2:NoFn L (i+1) j):NoFn L i j:=fun m hm a b=>by
 by_cases e:m=i
 ·subst e;exact h
 ·exact h2 m hm (by omega) b
theorem NoFn.trans{L:List Said}{i j k l:Nat}(h:NoFn L i j)(h2:NoFn L k l)(hk:k≤j+1):NoFn L i l:=fun m hm a b=>by
 by_cases e:m≤j
 ·exact h m hm a e
 ·exact h2 m hm (by omega) b
theorem zpv(L:List Said)(i j:Nat)(h:za7 L i=(j:Int)):∃ hj:j<L.length,i≤j∧L[j].kind=105∧cnt L j=cnt L i∧NoFn L i j:=by
 by_cases hi:i<L.length
 ·by_cases f:L[i].kind=102
  ·rw [zql L i hi f] at h;omega
  ·by_cases g:L[i].kind=105
   ·rw [zhc L i hi g] at h;have e:i=j:=by omega
    subst e;exact⟨hi,Nat.le_refl _,g,rfl,.one (hi:=hi) f⟩
   ·rw [zfn L i hi f g] at h;obtain⟨hj,a,b,c,d⟩:=zpv L (i+1) j h;exact⟨hj,by omega,b,by rw [c,zdE L i hi g],.cons (hi:=hi) f d⟩
 ·rw [zl0 L i hi] at h;omega
termination_by L.length-i
theorem zeu{its:List It}{k:Key}{b:List Key}(h:its.map It.key=k :: b):∃ t r,its=t :: r∧t.key=k∧r.map It.key=b:=by
 cases its with
 | nil=>simp at h
 | cons t r=>simp at h;exact⟨t,r,rfl,h.1,h.2⟩
theorem znQ{t:It}(r:List It)(h:t.sort=1):zal (t :: r)=zal r:=by simp [zal,h]
theorem zk5{t:It}(r:List It)(h:t.sort=2):zal (t :: r)=t :: zal r:=by simp [zal,h]
theorem zpw{L:List Said}(hw:WfAll L){i:Nat}(hi:i<L.length)(h0:¬L[i].kind=0)(h1:¬L[i].kind=102)(h2:¬L[i].kind=108):L[i].kind=105:=by
 have:=hw.at i hi;unfold Wf at this;omega
theorem zh4(L:List Said)(hw:WfAll L)(i:Nat)(its:List It)(h:its.map It.key=zar L i)(m:Nat)(it:It)(hm:(zal its)[m]?=some it):
  ∃ j,∃ hj:j<L.length,i≤j∧L[j].kind=105∧it.key=keyQ L[j] ((j:Int)+1)∧cnt L j=cnt L i+m∧NoFn L i j:=by
 by_cases hi:i<L.length
 ·by_cases f:L[i].kind=102
  ·rw [zcE L i hi f] at h;have e:its=[]:=by simpa using h
   subst e;simp [zal] at hm
  ·by_cases g:L[i].kind=0
   ·rw [zbT L i hi g] at h;obtain⟨j,hj,a,b,c,d,e⟩:=zh4 L hw (i+1) its h m it hm;exact⟨j,hj,by omega,b,c,by rw [d,zdE L i hi (by omega)],.cons (hi:=hi) f e⟩
   ·rw [zb7 L i hi g f] at h;obtain⟨t,r,rfl,n,p⟩:=zeu h;by_cases k:L[i].kind=108
    ·have l:t.sort=1:=(congrArg Key.sort n).trans (zfv _ k);rw [znQ r l] at hm;obtain⟨j,hj,a,b,c,d,e⟩:=zh4 L hw (i+1) r p m it hm;exact⟨j,hj,by omega,b,c,by rw [d,zdE L i hi (by omega)],.cons (hi:=hi) f e⟩
    ·have o:=zpw hw hi g f k;have l:t.sort=2:=(congrArg Key.sort n).trans (zeq _ f k);rw [zk5 r l] at hm;cases m with
     | zero =>
      have e:t=it:=by simpa using hm
      subst e;exact⟨i,hi,Nat.le_refl _,o,n,rfl,.one (hi:=hi) f⟩
     | succ m =>
      rw [List.getElem?_cons_succ] at hm;obtain⟨j,hj,a,b,c,d,e⟩:=zh4 L hw (i+1) r p m it hm;exact⟨j,hj,by omega,b,c,by rw [d,zg4 L i hi o];omega,.cons (hi:=hi) f e⟩
 ·rw [zcu L i hi] at h;have e:its=[]:=by simpa using h
  subst e;simp [zal] at hm
termination_by L.length-i
theorem zi0(L:List Said)(hw:WfAll L)(i:Nat)(its:List It)(h:its.map It.key=zar L i)(j:Nat)(hj:j<L.length)(hij:i≤j)(h5:L[j].kind=105)(hno:NoFn L i j):
  ∃ it,(zal its)[cnt L j-cnt L i]?=some it∧it.key=keyQ L[j] ((j:Int)+1):=by
 have c:i<L.length:=by omega
 have e:=hno i c (Nat.le_refl _) hij;have d:NoFn L (i+1) j:=fun m hm a b=>hno m hm (by omega) b;by_cases s:i=j
 ·subst s;rw [zb7 L i c (by omega) e] at h;obtain⟨t,r,rfl,k,q⟩:=zeu h;have g:t.sort=2:=(congrArg Key.sort k).trans (zeq _ e (by omega));exact⟨t,by rw [zk5 r g,Nat.sub_self];rfl,k⟩
 ·by_cases l:L[i].kind=0
  ·rw [zbT L i c l] at h;rw [←zdE L i c (by omega)];exact zi0 L hw (i+1) its h j hj (by omega) h5 d
  ·rw [zb7 L i c l e] at h;obtain⟨t,r,rfl,k,q⟩:=zeu h;obtain⟨it,f,p⟩:=zi0 L hw (i+1) r q j hj (by omega) h5 d;by_cases n:L[i].kind=108
   ·have g:t.sort=1:=(congrArg Key.sort k).trans (zfv _ n);rw [znQ r g,←zdE L i c (by omega)];exact⟨it,f,p⟩
   ·have o:=zpw hw c l e n;have g:t.sort=2:=(congrArg Key.sort k).trans (zeq _ e n);have hle:=zmb L (show i+1≤j by omega);have hc:=zg4 L i c o;rw [zk5 r g,show cnt L j-cnt L i=(cnt L j-cnt L (i+1))+1 by omega];exact⟨it,by rw [List.getElem?_cons_succ];exact f,p⟩
termination_by L.length-i
theorem zfT(L:List Said)(hw:WfAll L)(x:ByteArray)(i:Nat)(its:List It)(h:its.map It.key=zar L i)(n j:Nat)(hl:zbg L x i=(j:Int)):
  zb6 (zbc n its) x=some (n+(cnt L j-cnt L i))∧∃ hj:j<L.length,i≤j∧L[j].kind=108∧NoFn L i j:=by
 by_cases hi:i<L.length
 ·by_cases f:L[i].kind=102
  ·rw [zhW L x i hi f] at hl;omega
  ·by_cases k:L[i].kind=0
   ·rw [zbT L i hi k] at h;rw [zcq L x i hi f (by simp [zcO,k])] at hl;obtain⟨a,hj,b,c,d⟩:=zfT L hw x (i+1) its h n j hl;exact⟨by rw [a,zdE L i hi (by omega)],hj,by omega,c,.cons (hi:=hi) f d⟩
   ·rw [zb7 L i hi k f] at h;obtain⟨t,r,rfl,m,o⟩:=zeu h;rw [zbU];by_cases g:L[i].kind=108
    ·have p:t.sort=1:=(congrArg Key.sort m).trans (zfv _ g);have hnm:t.nm=L[i].word 0:=(congrArg Key.nm m).trans (zkz _ g);rw [if_pos p];by_cases l:eqW (L[i].word 0) x=true
     ·rw [zdh L x i hi f (by simp [zcO,g,l])] at hl;have e:i=j:=by omega
      subst e;refine⟨?_,hi,Nat.le_refl _,g,.one (hi:=hi) f⟩;unfold zb6;rw [if_pos (by rw [hnm];exact l)];simp
     ·rw [zcq L x i hi f (by simp [zcO,l])] at hl;obtain⟨a,hj,b,c,d⟩:=zfT L hw x (i+1) r o n j hl;refine⟨?_,hj,by omega,c,.cons (hi:=hi) f d⟩;unfold zb6;rw [if_neg (by rw [hnm];exact l),a,zdE L i hi (by omega)]
    ·have q:=zpw hw hi k f g;have p:t.sort=2:=(congrArg Key.sort m).trans (zeq _ f g);rw [if_neg (by omega)];rw [zcq L x i hi f (by simp [zcO,g])] at hl;obtain⟨a,hj,b,c,d⟩:=zfT L hw x (i+1) r o (n+1) j hl;have hle:=zmb L b;have hc:=zg4 L i hi q;refine⟨?_,hj,by omega,c,.cons (hi:=hi) f d⟩;rw [a];congr 1;omega
 ·rw [zfm L x i hi] at hl;omega
termination_by L.length-i
theorem zmc{F:List FnM}{f:Fn}{b:List Fn}(h:F.map FnM.fn=f :: b):∃ t r,F=t :: r∧t.fn=f∧r.map FnM.fn=b:=by
 cases F with
 | nil=>simp at h
 | cons t r=>simp at h;exact⟨t,r,rfl,h.1,h.2⟩
theorem zev(f:FnM)(F:List FnM):lenF (f :: F)=(zal f.its).length+lenF F:=by simp [lenF]
theorem zpx(L:List Said)(hw:WfAll L)(i:Nat)(its:List It)(h:its.map It.key=zar L i)(F:List FnM)(hF:F.map FnM.fn=zaN L i)(k:Nat)(f:FnM)(hk:F[k]?=some f):
  ∃ o,∃ ho:o<L.length,i≤o∧L[o].kind=102∧f.line=(o:Int)+1∧f.its.map It.key=zar L (o+1)∧cnt L o=cnt L i+(zal its).length+lenF (F.take k):=by
 by_cases g:i<L.length
 ·by_cases j:L[i].kind=102
  ·rw [zcE L i g j] at h;have e:its=[]:=by simpa using h
   subst e;rw [zbN L i g j] at hF;obtain⟨t,r,rfl,l,p⟩:=zmc hF;have s:t.its.map It.key=zar L (i+1):=congrArg Fn.body l;have v:t.line=(i:Int)+1:=congrArg Fn.line l;cases k with
   | zero =>
    have e:t=f:=by simpa using hk
    subst e;exact⟨i,g,Nat.le_refl _,j,v,s,by simp [zal,lenF]⟩
   | succ k =>
    rw [List.getElem?_cons_succ] at hk;obtain⟨o,ho,a,b,c,d,e⟩:=zpx L hw (i+1) t.its s r p k f hk;exact⟨o,ho,by omega,b,c,d,by rw [e,zdE L i g (by omega),List.take_succ_cons,zev];simp [zal];omega⟩
  ·rw [zbH L i g j] at hF;by_cases m:L[i].kind=0
   ·rw [zbT L i g m] at h;obtain⟨o,ho,a,b,c,d,e⟩:=zpx L hw (i+1) its h F hF k f hk;exact⟨o,ho,by omega,b,c,d,by rw [e,zdE L i g (by omega)]⟩
   ·rw [zb7 L i g m j] at h;obtain⟨t,r,rfl,l,p⟩:=zeu h;obtain⟨o,ho,a,b,c,d,e⟩:=zpx L hw (i+1) r p F hF k f hk;by_cases n:L[i].kind=108
    ·have q:t.sort=1:=(congrArg Key.sort l).trans (zfv _ n);exact⟨o,ho,by omega,b,c,d,by rw [e,zdE L i g (by omega),znQ r q]⟩
    ·have u:=zpw hw g m j n;have q:t.sort=2:=(congrArg Key.sort l).trans (zeq _ j n);exact⟨o,ho,by omega,b,c,d,by rw [e,zg4 L i g u,zk5 r q,List.length_cons];omega⟩
 ·rw [zcF L i g] at hF;have e:F=[]:=by simpa using hF
  subst e;simp at hk
termination_by L.length-i
theorem zh5(L:List Said)(x:ByteArray)(i:Nat)(F:List FnM)(hF:F.map FnM.fn=zaN L i)(n o:Nat)(hl:zb1 L x i=(o:Int)):
  ∃ k f,F[k]?=some f∧zb6 (zaL n F) x=some (n+k)∧f.line=(o:Int)+1:=by
 by_cases d:i<L.length
 ·by_cases e:L[i].kind=102
  ·rw [zbN L i d e] at hF;obtain⟨t,r,rfl,h,j⟩:=zmc hF;have hnm:t.name=L[i].word 1:=congrArg Fn.name h;have hln:t.line=(i:Int)+1:=congrArg Fn.line h;rw [zdj];by_cases g:eqW (L[i].word 1) x=true
   ·rw [zdA L x i d (by simp [isFn,e,g])] at hl;refine⟨0,t,rfl,?_,by omega⟩;unfold zb6;rw [if_pos (by rw [hnm];exact g)];simp
   ·rw [zdg L x i d (by simp [isFn,g])] at hl;obtain⟨k,f,a,b,c⟩:=zh5 L x (i+1) r j (n+1) o hl;refine⟨k+1,f,by rw [List.getElem?_cons_succ];exact a,?_,c⟩;unfold zb6;rw [if_neg (by rw [hnm];exact g),b];congr 1;omega
  ·rw [zbH L i d e] at hF;rw [zdg L x i d (by simp [isFn,e])] at hl;exact zh5 L x (i+1) F hF n o hl
 ·rw [zgr L x i d] at hl;omega
termination_by L.length-i
theorem zi1(L:List Said)(i:Nat)(k:Key)(r:List Key)(h:zbb L i=k :: r)(hs:k.sort=0):zar L i=[]:=by
 by_cases a:i<L.length
 ·by_cases b:L[i].kind=0
  ·rw [zcZ L i a b] at h;rw [zbT L i a b];exact zi1 L (i+1) k r h hs
  ·rw [zbr L i a b] at h;have d:keyQ L[i] ((i:Int)+1)=k:=by injection h
   by_cases c:L[i].kind=102
   ·exact zcE L i a c
   ·exact absurd ((congrArg Key.sort d).trans hs) (zfw _ c)
 ·exact zcu L i a
termination_by L.length-i
theorem znR(L:List Said)(i:Nat)(k:Key)(r:List Key)(h:zbb L i=k :: r)(hs:k.sort=0):(k :: r).foldl addK []=zaN L i:=by
 by_cases a:i<L.length
 ·by_cases c:L[i].kind=0
  ·rw [zcZ L i a c] at h;rw [zbH L i a (by omega)];exact znR L (i+1) k r h hs
  ·rw [zbr L i a c] at h;have d:keyQ L[i] ((i:Int)+1)=k:=by injection h
   by_cases b:L[i].kind=102
   ·rw [←h,List.foldl_cons,zct _ _ (zep _ b),zfP,zbN L i a b];simp [keyQ,zgy _ b]
   ·exact absurd ((congrArg Key.sort d).trans hs) (zfw _ b)
 ·rw [zcM L i a] at h;cases h
termination_by L.length-i
end
section
open Go.RowKit Sp
def zmd(f:Int→Int):Ins→Ins
 | .jump to=>.jump (f to)
 | .less r s to=>.less r s (f to)
 | .same r s to=>.same r s (f to)
 | .call to=>.call (f to)
 | i=>i
def lift(f:Int→Int)(m:Mc):Mc:={ m with at':=if m.fin=1∨m.fin=2 then -1 else f m.at',backs:=m.backs.map f }
structure SimOk(L:List Said)(C:List (Ins × Int))(f:Int→Int):Prop where
 line:∀ p (h:p<C.length),∃ k:Nat,f (p:Int)=(k:Int)∧∃ hk:k<L.length,insQ L k L[k]=zmd f C[p].1∧C[p].2=(k:Int)+1∧(p+1<C.length→ztm C.length p C[p].1→(∀ to,C[p].1≠.jump to)→C[p].1≠.back→C[p].1≠.stop→za7 L (k+1)=f ((p:Int)+1))
theorem zfy{f:Int→Int}{m:Mc}(h:¬(m.fin=1∨m.fin=2)):lift f m={ m with at':=f m.at',backs:=m.backs.map f }:=by unfold lift;rw [if_neg h]
theorem zpy{f:Int→Int}{m:Mc}(h:m.fin=1∨m.fin=2):lift f m={ m with at':=-1,backs:=m.backs.map f }:=by unfold lift;rw [if_pos h]
theorem zby{f:Int→Int}{m1:Mc}{z:Int}(h:m1.fin=0):lift f (m1.goes z)={ m1 with backs:=m1.backs.map f }.goes (f z):=by
 rw [zfy (by show ¬(m1.fin=1∨m1.fin=2);omega)];rfl
theorem zt3{N:Nat}{f:Int→Int}{m:Mc}{i:Ins}{next:Int}(I:InvD N m)(hfin:m.fin=0)(hnext:(∀ to,i≠.jump to)→i≠.back→i≠.stop→next=f (m.at'+1)):
  exec (zmd f i) next (lift f m)=lift f (za2 i m):=by
 have hl:lift f m={ m with at':=f m.at',backs:=m.backs.map f }:=zfy (by omega);have e:=I.frames;rw [if_neg (by omega)] at e;rw [hl];cases i with
 | set r k =>
  rw [zag (.inl rfl) hfin,hnext (by simp) (by simp) (by simp),show exec (.set r k) (m.at'+1) m=Mc.goes { m with regs:=upd m.regs r k } (m.at'+1) from rfl,zby]
  ·rfl
  ·exact hfin
 | mov r s =>
  rw [zag (.inl rfl) hfin,hnext (by simp) (by simp) (by simp),show exec (.mov r s) (m.at'+1) m=Mc.goes { m with regs:=upd m.regs r (m.regs s) } (m.at'+1) from rfl,zby]
  ·rfl
  ·exact hfin
 | alu o r s t =>
  rw [zag (.inl rfl) hfin,hnext (by simp) (by simp) (by simp),show exec (.alu o r s t) (m.at'+1) m=Mc.goes { m with regs:=upd m.regs r (zc1 o (m.regs s) (m.regs t)) } (m.at'+1) from rfl,zby]
  ·rfl
  ·exact hfin
 | inc r k =>
  rw [zag (.inl rfl) hfin,hnext (by simp) (by simp) (by simp),show exec (.inc r k) (m.at'+1) m=Mc.goes { m with regs:=upd m.regs r (w64 (m.regs r+k)) } (m.at'+1) from rfl,zby]
  ·rfl
  ·exact hfin
 | read r =>
  rw [zag (.inl rfl) hfin,hnext (by simp) (by simp) (by simp),show exec (.read r) (m.at'+1) m=Mc.goes { m with regs:=upd m.regs r (m.inp.headD 0),inp:=m.inp.tail } (m.at'+1) from rfl,zby]
  ·rfl
  ·exact hfin
 | write r =>
  rw [zag (.inl rfl) hfin,hnext (by simp) (by simp) (by simp),show exec (.write r) (m.at'+1) m=Mc.goes { m with out:=m.out++[m.regs r] } (m.at'+1) from rfl,zby]
  ·rfl
  ·exact hfin
 | load r s =>
  by_cases c:m.regs s<0∨15<m.regs s
  ·have a:exec (.load r s) (m.at'+1) m={ m with fin:=3 }:=if_pos c;rw [zag (.inr (by rw [a];show(2:Int)<3;decide)) hfin,a,zfy (by show ¬((3:Int)=1∨(3:Int)=2);decide)];exact if_pos c
  ·have a:exec (.load r s) (m.at'+1) m={ m with regs:=upd m.regs r (m.cells (m.regs s).toNat) }.goes (m.at'+1):=if_neg c;rw [zag (.inl (by rw [a];rfl)) hfin,a,zby,hnext (by simp) (by simp) (by simp)];exact if_neg c;exact hfin
 | store r s =>
  by_cases c:m.regs r<0∨15<m.regs r
  ·have a:exec (.store r s) (m.at'+1) m={ m with fin:=3 }:=if_pos c;rw [zag (.inr (by rw [a];show(2:Int)<3;decide)) hfin,a,zfy (by show ¬((3:Int)=1∨(3:Int)=2);decide)];exact if_pos c
  ·have a:exec (.store r s) (m.at'+1) m={ m with cells:=upd m.cells (m.regs r).toNat (m.regs s) }.goes (m.at'+1):=if_neg c;rw [zag (.inl (by rw [a];rfl)) hfin,a,zby,hnext (by simp) (by simp) (by simp)];exact if_neg c;exact hfin
 | jump to =>
  rw [zag (.inl rfl) hfin,show exec (.jump to) (m.at'+1) m=Mc.goes m to from rfl,zby]
  ·rfl
  ·exact hfin
 | less r s to =>
  rw [zag (.inl rfl) hfin,hnext (by simp) (by simp) (by simp),show exec (.less r s to) (m.at'+1) m=m.goes (if m.regs r<m.regs s then to else m.at'+1) from rfl,zby,apply_ite f];rfl;exact hfin
 | same r s to =>
  rw [zag (.inl rfl) hfin,hnext (by simp) (by simp) (by simp),show exec (.same r s to) (m.at'+1) m=m.goes (if m.regs r=m.regs s then to else m.at'+1) from rfl,zby,apply_ite f];rfl;exact hfin
 | call to =>
  by_cases b:m.frames=16
  ·have a:exec (.call to) (m.at'+1) m={ m with fin:=4 }:=if_pos b;rw [zag (.inr (by rw [a];show(2:Int)<4;decide)) hfin,a,zfy (by show ¬((4:Int)=1∨(4:Int)=2);decide)];exact if_pos b
  ·have a:exec (.call to) (m.at'+1) m={ m with backs:=m.backs++[m.at'+1],frames:=m.frames+1,peak:=max m.peak (m.frames+1) }.goes to:=if_neg b;rw [zag (.inl (by rw [a];rfl)) hfin,a,zby,hnext (by simp) (by simp) (by simp)];refine(if_neg b).trans ?_;simp [Mc.goes];exact hfin
 | back =>
  by_cases d:m.frames=1
  ·have g:exec .back (m.at'+1) m={ m with frames:=0,fin:=2 }.goes (-1):=if_pos d;have a:za2 .back m={ m with steps:=m.steps+1,frames:=0,fin:=2 }:=by
    unfold za2;rw [g,if_pos (.inr rfl)];rfl
   rw [a,zpy (.inr rfl)];exact if_pos d
  ·have g:exec .back (m.at'+1) m={ m with frames:=m.frames-1,backs:=m.backs.dropLast }.goes (m.backs.getLastD 0):=if_neg d;obtain⟨J,x,j⟩:∃ I x,m.backs=I++[x]:=by
    rcases List.eq_nil_or_concat m.backs with h|⟨I,x,h⟩
    ·rw [h] at e;simp at e;omega
    ·exact⟨I,x,by rw [h,List.concat_eq_append]⟩
   rw [zag (.inl (by rw [g];rfl)) hfin,g,zby];refine(if_neg d).trans ?_;simp [Mc.goes,j];exact hfin
 | stop =>
  have a:za2 .stop m={ m with steps:=m.steps+1,fin:=1 }:=by
   unfold za2;rw [show exec .stop (m.at'+1) m={ m with fin:=1 }.goes (-1) from rfl,if_pos (.inl rfl)];rfl
  rw [a,zpy (.inl rfl)];rfl
theorem zw3{L:List Said}{C:List (Ins × Int)}{f:Int→Int}{m:Mc}(S:SimOk L C f)(K:CodeOk C)(I:InvD C.length m)(hfin:m.fin=0):zl1 L (lift f m)=lift f (zce C m):=by
 obtain⟨p,j,b⟩:=I.at_;obtain⟨k,l,g,hq,_,hn⟩:=S.line p b;have hl:(lift f m).at'=(k:Int):=by rw [zfy (by omega)];show f m.at'=_;rw [j,l]
 rw [zeH j b];unfold zl1;rw [hl,Int.toNat_natCast,List.getElem?_eq_getElem g];show exec (insQ L k L[k]) (za7 L (k+1)) (lift f m)=_;rw [hq];refine zt3 I hfin (fun c d e=>?_);have a:=K.leads p b;have h:p+1<C.length:=by
  revert a c d e
  generalize C[p].1=i;intro c d e a;cases i with
  | jump to=>exact absurd rfl (c to)
  | back=>exact absurd rfl d
  | stop=>exact absurd rfl e
  | less r s to=>exact a.2
  | same r s to=>exact a.2
  | call to=>exact a.2
  | _=>exact a
 rw [hn h a c d e,j]
theorem znS{L:List Said}{C:List (Ins × Int)}{f:Int→Int}(S:SimOk L C f)(K:CodeOk C)(n:Nat):∀{m:Mc},InvD C.length m→runS (zl1 L) n (lift f m)=lift f (runS (zce C) n m)∧InvD C.length (runS (zce C) n m):=by
 induction n with
 | zero=>intro m I;exact⟨rfl,I⟩
 | succ n ih =>
  intro m I;have hlf:(lift f m).fin=m.fin:=rfl;by_cases h:m.fin=0
  ·rw [zbv _ _ _ h,zbv _ _ _ (by rw [hlf];exact h),zw3 S K I h];obtain⟨p,b,a⟩:=I.at_;refine ih ?_;rw [zeH b a];exact I.step h b (K.leads p a)
  ·rw [zbB _ _ _ h,zbB _ _ _ (by rw [hlf];exact h)];exact⟨rfl,I⟩
theorem zw4{L:List Said}{C:List (Ins × Int)}{f:Int→Int}{m:Mc}(S:SimOk L C f)(I:InvD C.length m):(lift f m).line=zht C m:=by
 obtain⟨p,c,a⟩:=I.at_;obtain⟨k,hk,hkl,_,b,_⟩:=S.line p a;have hlf:(lift f m).fin=m.fin:=rfl;unfold Mc.line zht;rw [hlf];by_cases h:m.fin=1∨m.fin=2
 ·rw [if_pos h,if_pos h]
 ·rw [if_neg h,if_neg h,zfy h,c,Int.toNat_natCast,List.getElem?_eq_getElem a];show f (p:Int)+1=C[p].2;rw [hk,b]
end
section
open Sp
def labM(F:List FnM)(k:Nat)(x:ByteArray):Int:=(lenF (F.take k):Int)+(((match F[k]? with|none=>none|some f=>zb6 (zbO f.its) x).getD 0:Nat):Int)
def fnM(F:List FnM)(x:ByteArray):Int:=(lenF (F.take ((zb6 (zbj F) x).getD 0)):Int)
def insX(w:ByteArray)(a b c n l f:Int):Ins :=
 if isW w [106,117,109,112]=true then .jump l
 else if isW w [108,101,115,115]=true then .less a.toNat b.toNat l
 else if isW w [115,97,109,101]=true then .same a.toNat b.toNat l
 else if isW w [99,97,108,108]=true then .call f
 else if isW w [98,97,99,107]=true then .back
 else if isW w [115,116,111,112]=true then .stop
 else if isW w [115,101,116]=true then .set a.toNat n
 else if isW w [109,111,118]=true then .mov a.toNat b.toNat
 else if isW w [97,100,100]=true then .alu 0 a.toNat b.toNat c.toNat
 else if isW w [115,117,98]=true then .alu 1 a.toNat b.toNat c.toNat
 else if isW w [109,117,108]=true then .alu 2 a.toNat b.toNat c.toNat
 else if isW w [105,110,99]=true then .inc a.toNat n
 else if isW w [108,111,97,100]=true then .load a.toNat b.toNat
 else if isW w [115,116,111,114,101]=true then .store a.toNat b.toNat
 else if isW w [114,101,97,100]=true then .read a.toNat
 else .write a.toNat
def insM(F:List FnM)(k:Nat)(i:It):Ins:=insX i.word i.a i.b i.c i.n (labM F k i.nm) (fnM F i.nm)
theorem zk6(a b c n l f:Int):insX ⟨#[115,101,116]⟩ a b c n l f=.set a.toNat n:=by kernel_rfl
theorem zk7(a b c n l f:Int):insX ⟨#[105,110,99]⟩ a b c n l f=.inc a.toNat n:=by kernel_rfl
theorem zk8(a b c n l f:Int):insX ⟨#[109,111,118]⟩ a b c n l f=.mov a.toNat b.toNat:=by kernel_rfl
theorem zi2(a b c n l f:Int):insX ⟨#[108,111,97,100]⟩ a b c n l f=.load a.toNat b.toNat:=by kernel_rfl
theorem zg5(a b c n l f:Int):insX ⟨#[115,116,111,114,101]⟩ a b c n l f=.store a.toNat b.toNat:=by kernel_rfl
theorem zk9(a b c n l f:Int):insX ⟨#[97,100,100]⟩ a b c n l f=.alu 0 a.toNat b.toNat c.toNat:=by kernel_rfl
theorem zkA(a b c n l f:Int):insX ⟨#[115,117,98]⟩ a b c n l f=.alu 1 a.toNat b.toNat c.toNat:=by kernel_rfl
theorem zkB(a b c n l f:Int):insX ⟨#[109,117,108]⟩ a b c n l f=.alu 2 a.toNat b.toNat c.toNat:=by kernel_rfl
theorem zi3(a b c n l f:Int):insX ⟨#[114,101,97,100]⟩ a b c n l f=.read a.toNat:=by kernel_rfl
theorem zg6(a b c n l f:Int):insX ⟨#[119,114,105,116,101]⟩ a b c n l f=.write a.toNat:=by kernel_rfl
theorem zi4(a b c n l f:Int):insX ⟨#[106,117,109,112]⟩ a b c n l f=.jump l:=by kernel_rfl
theorem zi5(a b c n l f:Int):insX ⟨#[99,97,108,108]⟩ a b c n l f=.call f:=by kernel_rfl
theorem zi6(a b c n l f:Int):insX ⟨#[108,101,115,115]⟩ a b c n l f=.less a.toNat b.toNat l:=by kernel_rfl
theorem zme(a b c n l f:Int):insX ⟨#[115,97,109,101]⟩ a b c n l f=.same a.toNat b.toNat l:=by kernel_rfl
theorem zfU(a b c n l f:Int):insX ⟨#[98,97,99,107]⟩ a b c n l f=.back:=by kernel_rfl
theorem zmf(a b c n l f:Int):insX ⟨#[115,116,111,112]⟩ a b c n l f=.stop:=by kernel_rfl
theorem znT(x1 x2:ByteArray)(ok:Bool):opQ ⟨105,[⟨#[115,101,116]⟩,x1,x2],ok⟩=⟨⟨#[]⟩,zap x1,0,0,zcc x2⟩:=by kernel_rfl
theorem znU(x1 x2:ByteArray)(ok:Bool):opQ ⟨105,[⟨#[105,110,99]⟩,x1,x2],ok⟩=⟨⟨#[]⟩,zap x1,0,0,zcc x2⟩:=by kernel_rfl
theorem znV(x1 x2:ByteArray)(ok:Bool):opQ ⟨105,[⟨#[109,111,118]⟩,x1,x2],ok⟩=⟨⟨#[]⟩,zap x1,zap x2,0,0⟩:=by kernel_rfl
theorem zkC(x1 x2:ByteArray)(ok:Bool):opQ ⟨105,[⟨#[108,111,97,100]⟩,x1,x2],ok⟩=⟨⟨#[]⟩,zap x1,zap x2,0,0⟩:=by kernel_rfl
theorem zi7(x1 x2:ByteArray)(ok:Bool):opQ ⟨105,[⟨#[115,116,111,114,101]⟩,x1,x2],ok⟩=⟨⟨#[]⟩,zap x1,zap x2,0,0⟩:=by kernel_rfl
theorem znW(x1 x2 x3:ByteArray)(ok:Bool):opQ ⟨105,[⟨#[97,100,100]⟩,x1,x2,x3],ok⟩=⟨⟨#[]⟩,zap x1,zap x2,zap x3,0⟩:=by kernel_rfl
theorem znX(x1 x2 x3:ByteArray)(ok:Bool):opQ ⟨105,[⟨#[115,117,98]⟩,x1,x2,x3],ok⟩=⟨⟨#[]⟩,zap x1,zap x2,zap x3,0⟩:=by kernel_rfl
theorem znY(x1 x2 x3:ByteArray)(ok:Bool):opQ ⟨105,[⟨#[109,117,108]⟩,x1,x2,x3],ok⟩=⟨⟨#[]⟩,zap x1,zap x2,zap x3,0⟩:=by kernel_rfl
theorem zkD(x1:ByteArray)(ok:Bool):opQ ⟨105,[⟨#[114,101,97,100]⟩,x1],ok⟩=⟨⟨#[]⟩,zap x1,0,0,0⟩:=by kernel_rfl
theorem zi8(x1:ByteArray)(ok:Bool):opQ ⟨105,[⟨#[119,114,105,116,101]⟩,x1],ok⟩=⟨⟨#[]⟩,zap x1,0,0,0⟩:=by kernel_rfl
theorem zg7(x1:ByteArray)(ok:Bool):zcC ⟨105,[⟨#[106,117,109,112]⟩,x1],ok⟩=x1:=by kernel_rfl
theorem zg8(x1:ByteArray)(ok:Bool):zcC ⟨105,[⟨#[99,97,108,108]⟩,x1],ok⟩=x1:=by kernel_rfl
theorem zkE(x1 x2 x3:ByteArray)(ok:Bool):opQ ⟨105,[⟨#[108,101,115,115]⟩,x1,x2,x3],ok⟩=⟨x3,zap x1,zap x2,0,0⟩:=by kernel_rfl
theorem zg9(x1 x2 x3:ByteArray)(ok:Bool):zcC ⟨105,[⟨#[108,101,115,115]⟩,x1,x2,x3],ok⟩=x3:=by kernel_rfl
theorem zpz(x1 x2 x3:ByteArray)(ok:Bool):opQ ⟨105,[⟨#[115,97,109,101]⟩,x1,x2,x3],ok⟩=⟨x3,zap x1,zap x2,0,0⟩:=by kernel_rfl
theorem zjY(x1 x2 x3:ByteArray)(ok:Bool):zcC ⟨105,[⟨#[115,97,109,101]⟩,x1,x2,x3],ok⟩=x3:=by kernel_rfl
theorem zas(x:ByteArray):(zap x).toNat=regN x:=by
 unfold zap regN;split
 ·rfl
 ·rename_i h;have:reg x<0:=by omega
  rw [show(reg x).toNat=0 from Int.toNat_of_nonpos (by omega)];rfl
theorem zmg(x:ByteArray)(h:(zb3 x).2=true):zcc x=(zb3 x).1:=if_pos h
def Goes(N:Nat):Ins→Prop
 | .jump to=>InC N to
 | .less _ _ to=>InC N to
 | .same _ _ to=>InC N to
 | .call to=>InC N to
 | _=>True
def Ends:Ins→Prop
 | .jump _=>True
 | .back=>True
 | .stop=>True
 | _=>False
theorem zw5(q:Said)(h5:q.kind=105)(Fm:Form q.kept)(it:It)(line:Int)(hkey:it.key=keyQ q line)(F:List FnM)(k:Nat)(L:List Said)(j N:Nat)(f:Int→Int)
  (hlab:zaF (q.word 0)=true→f (labM F k q.last)=zhq L j q.last∧InC N (labM F k q.last))
  (hfn:zbt (q.word 0)=true→f (fnM F q.last)=fnTo L q.last∧InC N (fnM F q.last)) :
  insQ L j q=zmd f (insM F k it)∧zhs (insM F k it)∧Goes N (insM F k it)∧(ends (q.word 0)=false∨Ends (insM F k it)):=by
 have h:it.word=zdQ q:=congrArg Key.word hkey;have d:it.a=(opQ q).a:=congrArg Key.a hkey;have g:it.b=(opQ q).b:=congrArg Key.b hkey;have m:it.c=(opQ q).c:=congrArg Key.c hkey;have p:it.n=(opQ q).n:=congrArg Key.n hkey;have r:it.nm=zcC q:=congrArg Key.nm hkey;clear hkey;obtain⟨kd,kp,i⟩:=q;simp only at h5 Fm;subst h5;unfold insM;cases Fm with
 | set_ x1 x2 hx1 hx2 =>
  have l:it.word=⟨#[115,101,116]⟩:=h;rw [znT] at d g m p;rw [l,zk6,d,p,zwg L j ⟨105,[⟨#[115,101,116]⟩,x1,x2],i⟩ x1 x2 rfl];have e:=(zbh x1 hx1).1;simp only [zas x1,zmg x2 hx2];exact⟨rfl,e,trivial,.inl (by kernel_rfl)⟩
 | inc_ x1 x2 hx1 hx2 =>
  have l:it.word=⟨#[105,110,99]⟩:=h;rw [znU] at d g m p;rw [l,zk7,d,p,zwl L j ⟨105,[⟨#[105,110,99]⟩,x1,x2],i⟩ x1 x2 rfl];have e:=(zbh x1 hx1).1;simp only [zas x1,zmg x2 hx2];exact⟨rfl,e,trivial,.inl (by kernel_rfl)⟩
 | mov_ x1 x2 hx1 hx2 =>
  have l:it.word=⟨#[109,111,118]⟩:=h;rw [znV] at d g m p;rw [l,zk8,d,g,zwh L j ⟨105,[⟨#[109,111,118]⟩,x1,x2],i⟩ x1 x2 rfl];have e:=(zbh x1 hx1).1;have o:=(zbh x2 hx2).1;simp only [zas x1,zas x2];exact⟨rfl,⟨e,o⟩,trivial,.inl (by kernel_rfl)⟩
 | load_ x1 x2 hx1 hx2 =>
  have l:it.word=⟨#[108,111,97,100]⟩:=h;rw [zkC] at d g m p;rw [l,zi2,d,g,ztk L j ⟨105,[⟨#[108,111,97,100]⟩,x1,x2],i⟩ x1 x2 rfl];have e:=(zbh x1 hx1).1;have o:=(zbh x2 hx2).1;simp only [zas x1,zas x2];exact⟨rfl,⟨e,o⟩,trivial,.inl (by kernel_rfl)⟩
 | store_ x1 x2 hx1 hx2 =>
  have l:it.word=⟨#[115,116,111,114,101]⟩:=h;rw [zi7] at d g m p;rw [l,zg5,d,g,zqF L j ⟨105,[⟨#[115,116,111,114,101]⟩,x1,x2],i⟩ x1 x2 rfl];have e:=(zbh x1 hx1).1;have o:=(zbh x2 hx2).1;simp only [zas x1,zas x2];exact⟨rfl,⟨e,o⟩,trivial,.inl (by kernel_rfl)⟩
 | add_ x1 x2 x3 hx1 hx2 hx3 =>
  have l:it.word=⟨#[97,100,100]⟩:=h;rw [znW] at d g m p;rw [l,zk9,d,g,m,zwi L j ⟨105,[⟨#[97,100,100]⟩,x1,x2,x3],i⟩ x1 x2 x3 rfl];have e:=(zbh x1 hx1).1;have o:=(zbh x2 hx2).1;have v:=(zbh x3 hx3).1;simp only [zas x1,zas x2,zas x3];exact⟨rfl,⟨by decide,e,o,v⟩,trivial,.inl (by kernel_rfl)⟩
 | sub_ x1 x2 x3 hx1 hx2 hx3 =>
  have l:it.word=⟨#[115,117,98]⟩:=h;rw [znX] at d g m p;rw [l,zkA,d,g,m,zwj L j ⟨105,[⟨#[115,117,98]⟩,x1,x2,x3],i⟩ x1 x2 x3 rfl];have e:=(zbh x1 hx1).1;have o:=(zbh x2 hx2).1;have v:=(zbh x3 hx3).1;simp only [zas x1,zas x2,zas x3];exact⟨rfl,⟨by decide,e,o,v⟩,trivial,.inl (by kernel_rfl)⟩
 | mul_ x1 x2 x3 hx1 hx2 hx3 =>
  have l:it.word=⟨#[109,117,108]⟩:=h;rw [znY] at d g m p;rw [l,zkB,d,g,m,zwk L j ⟨105,[⟨#[109,117,108]⟩,x1,x2,x3],i⟩ x1 x2 x3 rfl];have e:=(zbh x1 hx1).1;have o:=(zbh x2 hx2).1;have v:=(zbh x3 hx3).1;simp only [zas x1,zas x2,zas x3];exact⟨rfl,⟨by decide,e,o,v⟩,trivial,.inl (by kernel_rfl)⟩
 | read_ x1 hx1 =>
  have l:it.word=⟨#[114,101,97,100]⟩:=h;rw [zkD] at d g m p;rw [l,zi3,d,ztl L j ⟨105,[⟨#[114,101,97,100]⟩,x1],i⟩ x1 rfl];have e:=(zbh x1 hx1).1;simp only [zas x1];exact⟨rfl,e,trivial,.inl (by kernel_rfl)⟩
 | write_ x1 hx1 =>
  have l:it.word=⟨#[119,114,105,116,101]⟩:=h;rw [zi8] at d g m p;rw [l,zg6,d,zqG L j ⟨105,[⟨#[119,114,105,116,101]⟩,x1],i⟩ x1 rfl];have e:=(zbh x1 hx1).1;simp only [zas x1];exact⟨rfl,e,trivial,.inl (by kernel_rfl)⟩
 | jump_ x1 hx1 =>
  have l:it.word=⟨#[106,117,109,112]⟩:=h;rw [zg7] at r;rw [l,zi4,r,zte L j ⟨105,[⟨#[106,117,109,112]⟩,x1],i⟩ x1 rfl];obtain⟨s,u⟩:=hlab (by kernel_rfl);have t:f (labM F k x1)=zhq L j x1:=s;exact⟨by simp only [zmd];rw [t],trivial,u,.inr trivial⟩
 | call_ x1 hx1 =>
  have l:it.word=⟨#[99,97,108,108]⟩:=h;rw [zg8] at r;rw [l,zi5,r,zth L j ⟨105,[⟨#[99,97,108,108]⟩,x1],i⟩ x1 rfl];obtain⟨s,u⟩:=hfn (by kernel_rfl);have t:f (fnM F x1)=fnTo L x1:=s;exact⟨by simp only [zmd];rw [t],trivial,u,.inl (by kernel_rfl)⟩
 | less_ x1 x2 x3 hx1 hx2 hx3 =>
  have l:it.word=⟨#[108,101,115,115]⟩:=h;rw [zkE] at d g m p;rw [zg9] at r;rw [l,zi6,d,g,r,ztf L j ⟨105,[⟨#[108,101,115,115]⟩,x1,x2,x3],i⟩ x1 x2 x3 rfl];have e:=(zbh x1 hx1).1;have o:=(zbh x2 hx2).1;simp only [zas x1,zas x2];obtain⟨s,u⟩:=hlab (by kernel_rfl);have t:f (labM F k x3)=zhq L j x3:=s;exact⟨by simp only [zmd];rw [t],⟨e,o⟩,u,.inl (by kernel_rfl)⟩
 | same_ x1 x2 x3 hx1 hx2 hx3 =>
  have l:it.word=⟨#[115,97,109,101]⟩:=h;rw [zpz] at d g m p;rw [zjY] at r;rw [l,zme,d,g,r,ztg L j ⟨105,[⟨#[115,97,109,101]⟩,x1,x2,x3],i⟩ x1 x2 x3 rfl];have e:=(zbh x1 hx1).1;have o:=(zbh x2 hx2).1;simp only [zas x1,zas x2];obtain⟨s,u⟩:=hlab (by kernel_rfl);have t:f (labM F k x3)=zhq L j x3:=s;exact⟨by simp only [zmd];rw [t],⟨e,o⟩,u,.inl (by kernel_rfl)⟩
 | back_  =>
  have l:it.word=⟨#[98,97,99,107]⟩:=h;rw [l,zfU,zti L j ⟨105,[⟨#[98,97,99,107]⟩],i⟩  rfl];exact⟨rfl,trivial,trivial,.inr trivial⟩
 | stop_  =>
  have l:it.word=⟨#[115,116,111,112]⟩:=h;rw [l,zmf,ztj L j ⟨105,[⟨#[115,116,111,112]⟩],i⟩  rfl];exact⟨rfl,trivial,trivial,.inr trivial⟩
end
end Go.Proofs.YtfpgjkbjbbgciaaGreatDoor
