import Derived.Test.YtfpgjkbjbbgciaaGreatDoorMk36
set_option maxRecDepth 100000
set_option maxHeartbeats 8000000
namespace Go.Proofs.YtfpgjkbjbbgciaaGreatDoor
open Go.RowKit Sp
structure PlIn(W:World)(F:List FnM)(bo pm bg:Nat):Prop where
 maps:∀ f∈F,MapIs W f.m (zbO f.its)
 places:MapIs W pm (zbj F)
 begs:∀ k,k<F.length→W.cell? ⟨bg,k,none⟩=some (.int .i64 (lenF (F.take k):Int))
 labs:∀ k (h:k<F.length),W.cell? ⟨bo,k*4+3,none⟩=some (.map (some F[k].m))
theorem PlIn.below{W W':World}{F:List FnM}{bo pm bg B:Nat}(h:PlIn W F bo pm bg)(hb:Below B W W')(hB:W.heap.size≤B):PlIn W' F bo pm bg :=
 ⟨fun f hf=>(h.maps f hf).below hb (Nat.lt_of_lt_of_le (h.maps f hf).lt hB),h.places.below hb (Nat.lt_of_lt_of_le h.places.lt hB),
  fun k hk=>(hb.cell (p:=⟨bg,k,none⟩) (Nat.lt_of_lt_of_le (World.block_lt_of_cell? W _ (h.begs k hk)) hB)).trans (h.begs k hk),
  fun k hk=>(hb.cell (p:=⟨bo,k*4+3,none⟩) (Nat.lt_of_lt_of_le (World.block_lt_of_cell? W _ (h.labs k hk)) hB)).trans (h.labs k hk)⟩
theorem zmi(F:List FnM)(k:Nat):lenF (F.take k)≤lenF F:=by
 unfold lenF
 conv=>rhs;rw [←List.take_append_drop k F,List.map_append,List.sum_append]
 omega
theorem zau(x:ByteArray):((zap x).toNat:Int)=zap x:=by
 unfold zap;split
 ·omega
 ·rfl
abbrev zi9(bo cv pm bg cap n:Nat):Value:=.agg #[.slice (some ⟨bo,0,none⟩) n cv,.map (some pm),.slice (some ⟨bg,0,none⟩) n cap]
theorem zqX{L:List Said}{F:List FnM}(R:Right L F)(w:World){bo pm bg:Nat}(cv cap:Nat)(M:PlIn w F bo pm bg)(hn:F.length≤300){k m:Nat}{f:FnM}{it:It}(hk:F[k]?=some f)(hm:(zal f.its)[m]?=some it)(hsz:it.nm.size≤1048576):
  Calls Tryz.prog 81 #[zi9 bo cv pm bg cap F.length,stm it.sort it.line it.word it.a it.b it.c it.n it.nm,.int .i64 (k:Int)] w fun e w'=>e=.returned (.iface (insT (insM F k it)) (.agg (insA (insM F k it))))∧Below w.heap.size w w':=by
 have x:k<F.length:=(List.getElem?_eq_some_iff.1 hk).1;have hfk:F[k]=f:=(List.getElem?_eq_some_iff.1 hk).2;obtain⟨j,S,G,h,_,v,A,_⟩:=R.it_at hk hm;have I:=R.good.form j S G;have hfew:=R.codeOk.few;have i:it.word=zdQ L[j]:=congrArg Key.word h;have r:it.a=(opQ L[j]).a:=congrArg Key.a h;have s:it.b=(opQ L[j]).b:=congrArg Key.b h;have t:it.c=(opQ L[j]).c:=congrArg Key.c h;have u:it.nm=zcC L[j]:=congrArg Key.nm h;have H:zaF (L[j].word 0)=true→it.nm=L[j].last→∀ W,Below w.heap.size w W→Calls Tryz.prog 108 #[zi9 bo cv pm bg cap F.length,.string it.nm,.int .i64 (k:Int)] W fun e w'=>e=.returned (.int .i64 (labM F k it.nm))∧Below W.heap.size W w':=by
  intro K N W J;obtain⟨p,D,y,O,_⟩:=v K;rw [←N] at D y;have z:=M.below J (Nat.le_refl _);have C:=z.labs k x;rw [hfk] at C;have:=zqU W pm bg k (lenF (F.take k)) p bo cv cap F it.nm f.m (zbO f.its) (z.maps f (List.mem_of_getElem? hk)) hsz D (by omega) x hn (by omega) (z.begs k x) C;rw [y];refine this.mono ?_;rintro e w' ⟨rfl,d⟩;exact⟨by simp,d⟩
 have P:zbt (L[j].word 0)=true→it.nm=L[j].last→∀ W,Below w.heap.size w W→Calls Tryz.prog 109 #[zi9 bo cv pm bg cap F.length,.string it.nm] W fun e w'=>e=.returned (.int .i64 (fnM F it.nm))∧Below W.heap.size W w':=by
  intro K N W J;obtain⟨Q,B,D,y,O,_⟩:=A K;rw [←N] at D y;have z:=M.below J (Nat.le_refl _);rw [y];exact zk4 W pm bg Q _ F cap it.nm z.places hsz D B hn (z.begs Q B) bo cv rfl
 clear v A h;generalize L[j]=q at G I i r s t u H P;obtain⟨kd,kp,ok⟩:=q;simp only at G I;subst G;unfold insM;cases I with
 | set_ x1 x2 =>
  have l:it.word=⟨#[115,101,116]⟩:=i;rw [znT] at r s t;have g:(it.a.toNat:Int)=it.a:=by rw [r];exact zau _
  rw [l,zk6];refine(zww w (some ⟨bo,0,none⟩) (some ⟨bg,0,none⟩) F.length cv F.length cap pm it.sort it.line it.a it.b it.c it.n (k:Int) it.nm).mono ?_;rintro e w' ⟨rfl,d⟩;exact⟨by simp [insT,insA,g],d⟩
 | inc_ x1 x2 =>
  have l:it.word=⟨#[105,110,99]⟩:=i;rw [znU] at r s t;have g:(it.a.toNat:Int)=it.a:=by rw [r];exact zau _
  rw [l,zk7];refine(zw1 w (some ⟨bo,0,none⟩) (some ⟨bg,0,none⟩) F.length cv F.length cap pm it.sort it.line it.a it.b it.c it.n (k:Int) it.nm).mono ?_;rintro e w' ⟨rfl,d⟩;exact⟨by simp [insT,insA,g],d⟩
 | mov_ x1 x2 =>
  have l:it.word=⟨#[109,111,118]⟩:=i;rw [znV] at r s t;have g:(it.a.toNat:Int)=it.a:=by rw [r];exact zau _
  have o:(it.b.toNat:Int)=it.b:=by rw [s];exact zau _
  rw [l,zk8];refine(zwx w (some ⟨bo,0,none⟩) (some ⟨bg,0,none⟩) F.length cv F.length cap pm it.sort it.line it.a it.b it.c it.n (k:Int) it.nm).mono ?_;rintro e w' ⟨rfl,d⟩;exact⟨by simp [insT,insA,g,o],d⟩
 | load_ x1 x2 =>
  have l:it.word=⟨#[108,111,97,100]⟩:=i;rw [zkC] at r s t;have g:(it.a.toNat:Int)=it.a:=by rw [r];exact zau _
  have o:(it.b.toNat:Int)=it.b:=by rw [s];exact zau _
  rw [l,zi2];refine(ztz w (some ⟨bo,0,none⟩) (some ⟨bg,0,none⟩) F.length cv F.length cap pm it.sort it.line it.a it.b it.c it.n (k:Int) it.nm).mono ?_;rintro e w' ⟨rfl,d⟩;exact⟨by simp [insT,insA,g,o],d⟩
 | store_ x1 x2 =>
  have l:it.word=⟨#[115,116,111,114,101]⟩:=i;rw [zi7] at r s t;have g:(it.a.toNat:Int)=it.a:=by rw [r];exact zau _
  have o:(it.b.toNat:Int)=it.b:=by rw [s];exact zau _
  rw [l,zg5];refine(zqV w (some ⟨bo,0,none⟩) (some ⟨bg,0,none⟩) F.length cv F.length cap pm it.sort it.line it.a it.b it.c it.n (k:Int) it.nm).mono ?_;rintro e w' ⟨rfl,d⟩;exact⟨by simp [insT,insA,g,o],d⟩
 | add_ x1 x2 x3 =>
  have l:it.word=⟨#[97,100,100]⟩:=i;rw [znW] at r s t;have g:(it.a.toNat:Int)=it.a:=by rw [r];exact zau _
  have o:(it.b.toNat:Int)=it.b:=by rw [s];exact zau _
  have E:(it.c.toNat:Int)=it.c:=by rw [t];exact zau _
  rw [l,zk9];refine(zwy w (some ⟨bo,0,none⟩) (some ⟨bg,0,none⟩) F.length cv F.length cap pm it.sort it.line it.a it.b it.c it.n (k:Int) it.nm).mono ?_;rintro e w' ⟨rfl,d⟩;exact⟨by simp [insT,insA,g,o,E],d⟩
 | sub_ x1 x2 x3 =>
  have l:it.word=⟨#[115,117,98]⟩:=i;rw [znX] at r s t;have g:(it.a.toNat:Int)=it.a:=by rw [r];exact zau _
  have o:(it.b.toNat:Int)=it.b:=by rw [s];exact zau _
  have E:(it.c.toNat:Int)=it.c:=by rw [t];exact zau _
  rw [l,zkA];refine(zwz w (some ⟨bo,0,none⟩) (some ⟨bg,0,none⟩) F.length cv F.length cap pm it.sort it.line it.a it.b it.c it.n (k:Int) it.nm).mono ?_;rintro e w' ⟨rfl,d⟩;exact⟨by simp [insT,insA,g,o,E],d⟩
 | mul_ x1 x2 x3 =>
  have l:it.word=⟨#[109,117,108]⟩:=i;rw [znY] at r s t;have g:(it.a.toNat:Int)=it.a:=by rw [r];exact zau _
  have o:(it.b.toNat:Int)=it.b:=by rw [s];exact zau _
  have E:(it.c.toNat:Int)=it.c:=by rw [t];exact zau _
  rw [l,zkB];refine(zw0 w (some ⟨bo,0,none⟩) (some ⟨bg,0,none⟩) F.length cv F.length cap pm it.sort it.line it.a it.b it.c it.n (k:Int) it.nm).mono ?_;rintro e w' ⟨rfl,d⟩;exact⟨by simp [insT,insA,g,o,E],d⟩
 | read_ x1 =>
  have l:it.word=⟨#[114,101,97,100]⟩:=i;rw [zkD] at r s t;have g:(it.a.toNat:Int)=it.a:=by rw [r];exact zau _
  rw [l,zi3];refine(zt0 w (some ⟨bo,0,none⟩) (some ⟨bg,0,none⟩) F.length cv F.length cap pm it.sort it.line it.a it.b it.c it.n (k:Int) it.nm).mono ?_;rintro e w' ⟨rfl,d⟩;exact⟨by simp [insT,insA,g],d⟩
 | write_ x1 =>
  have l:it.word=⟨#[119,114,105,116,101]⟩:=i;rw [zi8] at r s t;have g:(it.a.toNat:Int)=it.a:=by rw [r];exact zau _
  rw [l,zg6];refine(zqW w (some ⟨bo,0,none⟩) (some ⟨bg,0,none⟩) F.length cv F.length cap pm it.sort it.line it.a it.b it.c it.n (k:Int) it.nm).mono ?_;rintro e w' ⟨rfl,d⟩;exact⟨by simp [insT,insA,g],d⟩
 | jump_ x1 =>
  have l:it.word=⟨#[106,117,109,112]⟩:=i;rw [zg7] at u;rw [l,zi4];refine(zt4 w (some ⟨bo,0,none⟩) (some ⟨bg,0,none⟩) F.length cv F.length cap pm it.sort it.line it.a it.b it.c it.n (k:Int) (labM F k it.nm) it.nm (H (by kernel_rfl) u)).mono ?_;rintro e w' ⟨rfl,d⟩;exact⟨by simp [insT,insA],d⟩
 | call_ x1 =>
  have l:it.word=⟨#[99,97,108,108]⟩:=i;rw [zg8] at u;rw [l,zi5];refine(zt5 w (some ⟨bo,0,none⟩) (some ⟨bg,0,none⟩) F.length cv F.length cap pm it.sort it.line it.a it.b it.c it.n (k:Int) (fnM F it.nm) it.nm (P (by kernel_rfl) u)).mono ?_;rintro e w' ⟨rfl,d⟩;exact⟨by simp [insT,insA],d⟩
 | less_ x1 x2 x3 =>
  have l:it.word=⟨#[108,101,115,115]⟩:=i;rw [zkE] at r s t;have g:(it.a.toNat:Int)=it.a:=by rw [r];exact zau _
  have o:(it.b.toNat:Int)=it.b:=by rw [s];exact zau _
  rw [zg9] at u;rw [l,zi6];refine(zt6 w (some ⟨bo,0,none⟩) (some ⟨bg,0,none⟩) F.length cv F.length cap pm it.sort it.line it.a it.b it.c it.n (k:Int) (labM F k it.nm) it.nm (H (by kernel_rfl) u)).mono ?_;rintro e w' ⟨rfl,d⟩;exact⟨by simp [insT,insA,g,o],d⟩
 | same_ x1 x2 x3 =>
  have l:it.word=⟨#[115,97,109,101]⟩:=i;rw [zpz] at r s t;have g:(it.a.toNat:Int)=it.a:=by rw [r];exact zau _
  have o:(it.b.toNat:Int)=it.b:=by rw [s];exact zau _
  rw [zjY] at u;rw [l,zme];refine(zt7 w (some ⟨bo,0,none⟩) (some ⟨bg,0,none⟩) F.length cv F.length cap pm it.sort it.line it.a it.b it.c it.n (k:Int) (labM F k it.nm) it.nm (H (by kernel_rfl) u)).mono ?_;rintro e w' ⟨rfl,d⟩;exact⟨by simp [insT,insA,g,o],d⟩
 | back_  =>
  have l:it.word=⟨#[98,97,99,107]⟩:=i;rw [l,zfU];refine(zt1 w (some ⟨bo,0,none⟩) (some ⟨bg,0,none⟩) F.length cv F.length cap pm it.sort it.line it.a it.b it.c it.n (k:Int) it.nm).mono ?_;rintro e w' ⟨rfl,d⟩;exact⟨by simp [insT,insA],d⟩
 | stop_  =>
  have l:it.word=⟨#[115,116,111,112]⟩:=i;rw [l,zmf];refine(zt2 w (some ⟨bo,0,none⟩) (some ⟨bg,0,none⟩) F.length cv F.length cap pm it.sort it.line it.a it.b it.c it.n (k:Int) it.nm).mono ?_;rintro e w' ⟨rfl,d⟩;exact⟨by simp [insT,insA],d⟩
def zbl(C:List (Ins × Int)):List Value:=C.flatMap (fun q=>[.iface (insT q.1) (.agg (insA q.1)),.int .i64 q.2])
theorem zj5(C:List (Ins × Int))(q:Ins × Int):zbl (C++[q])=zbl C++[.iface (insT q.1) (.agg (insA q.1)),.int .i64 q.2]:=by simp [zbl]
theorem zhe(C:List (Ins × Int))(k:Nat)(h:k<C.length):(zbl C)[k*2]?=some (.iface (insT C[k].1) (.agg (insA C[k].1)))∧(zbl C)[k*2+1]?=some (.int .i64 C[k].2):=by
 induction C generalizing k with
 | nil=>simp at h
 | cons i l ih =>
  have e:zbl (i :: l)=.iface (insT i.1) (.agg (insA i.1)) :: .int .i64 i.2 :: zbl l:=by simp [zbl]
  rw [e];cases k with
  | zero=>exact⟨rfl,rfl⟩
  | succ k =>
   have:=ih k (by simpa using h);rw [show(k+1)*2=k*2+1+1 by omega];simpa using this
theorem zt8{w:World}{B:Nat}{v:Value}{C:List (Ins × Int)}(h:w.ownsRow B 140 2 v C.length (zbl C))(hp:0<C.length):
  ∃ g cap,v=.slice (some ⟨g,0,none⟩) C.length cap∧B≤g∧g<w.heap.size∧CodeIn w g C:=by
 obtain⟨g,cap,rfl,b,a⟩:=h.form hp;refine⟨g,cap,rfl,b,a,fun j hj=>⟨?_,?_⟩⟩
 ·rw [World.ownsRow.cellAt h (j*2) (by omega),(zhe C j hj).1]
 ·rw [World.ownsRow.cellAt h (j*2+1) (by omega),(zhe C j hj).2]
theorem zw9{α:Type}(C:List α)(p:Nat)(q:α)(h:C[p]?=some q):C.take (p+1)=C.take p++[q]:=by
 rw [List.take_add_one,h];rfl
theorem Tryz.info140:(Tryz.prog.info? 140).map (fun i=>(i.zero,i.size,i.bytes))=some (some (.agg #[.nilIface,.int .i64 0]),2,24):=by kernel_rfl
theorem Tryz.under93:Tryz.prog.underlying 93=some (.slice 140):=by kernel_rfl
def zAc(w:World)(C:List (Ins × Int)):Ending→World→Prop:=fun e w'=>∃ g cap,e=.returned (.slice (some ⟨g,0,none⟩) C.length cap)∧w.heap.size≤g∧g<w'.heap.size∧CodeIn w' g C∧Below w.heap.size w w'
theorem zyH{w:World}{B bg cap:Nat}{F:List FnM}(h:w.ownsRow B 3 1 (.slice (some ⟨bg,0,none⟩) F.length cap) F.length (i64s (begF F)))(k:Nat)(hk:k<F.length):w.cell? ⟨bg,k,none⟩=some (.int .i64 (lenF (F.take k):Int)):=by
 rw [World.ownsRow.cellAt h k (by omega)];simp [begF,hk]
theorem zhf{W W':World}{pb sb:Nat}{v0 v1 v2 v3 v4 v5 v6 v7 v8 v9 v10:Value}(hb:Below W.heap.size W W')(h:W.cell? ⟨pb,0,none⟩=some (v0)∧W.cell? ⟨pb,1,none⟩=some (v1)∧W.cell? ⟨pb,2,none⟩=some (v2)∧W.cell? ⟨sb,0,none⟩=some (v3)∧W.cell? ⟨sb,1,none⟩=some (v4)∧W.cell? ⟨sb,2,none⟩=some (v5)∧W.cell? ⟨sb,3,none⟩=some (v6)∧W.cell? ⟨sb,4,none⟩=some (v7)∧W.cell? ⟨sb,5,none⟩=some (v8)∧W.cell? ⟨sb,6,none⟩=some (v9)∧W.cell? ⟨sb,7,none⟩=some (v10)):
  W'.cell? ⟨pb,0,none⟩=some (v0)∧W'.cell? ⟨pb,1,none⟩=some (v1)∧W'.cell? ⟨pb,2,none⟩=some (v2)∧W'.cell? ⟨sb,0,none⟩=some (v3)∧W'.cell? ⟨sb,1,none⟩=some (v4)∧W'.cell? ⟨sb,2,none⟩=some (v5)∧W'.cell? ⟨sb,3,none⟩=some (v6)∧W'.cell? ⟨sb,4,none⟩=some (v7)∧W'.cell? ⟨sb,5,none⟩=some (v8)∧W'.cell? ⟨sb,6,none⟩=some (v9)∧W'.cell? ⟨sb,7,none⟩=some (v10):=by
 obtain⟨b,c,d,e,f,g,i,j,k,l,a⟩:=h;exact⟨za5 hb b,za5 hb c,za5 hb d,za5 hb e,za5 hb f,za5 hb g,za5 hb i,za5 hb j,za5 hb k,za5 hb l,za5 hb a⟩
theorem far{w w':World}{row:Option Nat}(hg:w.grownBy w' row){p:Addr}{v:Value}(hne:some p.block≠row)(h:w.cell? p=some v):w'.cell? p=some v:=(hg.cell_far p (World.block_lt_of_cell? w p h) hne).trans h
theorem zmj{W W':World}{pb sb:Nat}{v0 v1 v2 v3 v4 v5 v6 v7 v8 v9 v10:Value}{row:Option Nat}(hg:W.grownBy W' row)(n1:some pb≠row)(n2:some sb≠row)(h:W.cell? ⟨pb,0,none⟩=some (v0)∧W.cell? ⟨pb,1,none⟩=some (v1)∧W.cell? ⟨pb,2,none⟩=some (v2)∧W.cell? ⟨sb,0,none⟩=some (v3)∧W.cell? ⟨sb,1,none⟩=some (v4)∧W.cell? ⟨sb,2,none⟩=some (v5)∧W.cell? ⟨sb,3,none⟩=some (v6)∧W.cell? ⟨sb,4,none⟩=some (v7)∧W.cell? ⟨sb,5,none⟩=some (v8)∧W.cell? ⟨sb,6,none⟩=some (v9)∧W.cell? ⟨sb,7,none⟩=some (v10)):
  W'.cell? ⟨pb,0,none⟩=some (v0)∧W'.cell? ⟨pb,1,none⟩=some (v1)∧W'.cell? ⟨pb,2,none⟩=some (v2)∧W'.cell? ⟨sb,0,none⟩=some (v3)∧W'.cell? ⟨sb,1,none⟩=some (v4)∧W'.cell? ⟨sb,2,none⟩=some (v5)∧W'.cell? ⟨sb,3,none⟩=some (v6)∧W'.cell? ⟨sb,4,none⟩=some (v7)∧W'.cell? ⟨sb,5,none⟩=some (v8)∧W'.cell? ⟨sb,6,none⟩=some (v9)∧W'.cell? ⟨sb,7,none⟩=some (v10):=by
 obtain⟨b,c,d,e,f,g,i,j,k,l,a⟩:=h;exact⟨far hg n1 b,far hg n1 c,far hg n1 d,far hg n2 e,far hg n2 f,far hg n2 g,far hg n2 i,far hg n2 j,far hg n2 k,far hg n2 l,far hg n2 a⟩
theorem zwA(a b:Value)(ha:a.oneCell'=true)(hb:b.oneCell'=true):∀ u∈[a,b],u.oneCell'=true:=by
 intro u c;simp at c;rcases c with rfl|rfl
 ·exact ha
 ·exact hb
theorem zt9{L:List Said}{F:List FnM}(R:Right L F)(w:World)(B pm:Nat)(v:Value)(h:PIn B w pm v F)(hn:F.length≤300)(hb:∀ f∈F,f.its.length≤300∧∀ i∈f.its,ItOk i):
  Calls Tryz.prog 52 #[.agg #[v,.map (some pm)]] w (zAc w (zao F)):=by
 have hF:=R.some_;have K:=R.codeOk;have aq:=zdF F;have ht:lenF F≤300:=by have:=K.few;omega
 obtain⟨r,d,rfl,aD,hcap,I⟩:=h.fns hF;have s:=zqT (w.alloc (.cells #[.slice (some ⟨r,0,none⟩) F.length d,.map (some pm)] 83)) B pm _ F (h.alloc _) hF hn (fun f hf=>(hb f hf).1) ht;have hsz1:(w.alloc (.cells #[.slice (some ⟨r,0,none⟩) F.length d,.map (some pm)] 83)).heap.size=w.heap.size+1:=by simp
 have X:(w.alloc (.cells #[.slice (some ⟨r,0,none⟩) F.length d,.map (some pm)] 83)).cell? ⟨w.heap.size,0,none⟩=some (.slice (some ⟨r,0,none⟩) F.length d):=World.cell?_alloc_new (w:=w) #[.slice (some ⟨r,0,none⟩) F.length d,.map (some pm)] 83 0;go_enter Tryz.func52,Tryz.ntmps52;go_wp2_with(first|(go_at_call 80;refine s.mono ?_;rintro e l ⟨bs,rfl,ad,an⟩;obtain⟨A,C,rfl,hbg,hbgl⟩:=ad.form hF;have aJ:=(an.cell (p:=⟨w.heap.size,0,none⟩) (by rw [hsz1];exact Nat.lt_succ_self _)).trans X;have ah:w.heap.size<l.heap.size:=Nat.lt_of_lt_of_le (by rw [hsz1];exact Nat.lt_succ_self _) an.size;have hne1:¬w.heap.size=l.heap.size:=Nat.ne_of_lt ah;have hne2:¬l.heap.size=w.heap.size:=Nat.ne_of_gt ah))
 have ag:Below w.heap.size w l:=((Below.refl _ _).alloc (Nat.le_refl _) _).trans (an.mono (by rw [hsz1];omega));have x:Below w.heap.size w (l.alloc (.cells #[.slice (some ⟨r,0,none⟩) F.length d,.map (some pm),.slice (some ⟨A,0,none⟩) F.length C] 128)):=ag.alloc ag.size _;have ax:PlIn (l.alloc (.cells #[.slice (some ⟨r,0,none⟩) F.length d,.map (some pm),.slice (some ⟨A,0,none⟩) F.length C] 128)) F r pm A:=by
  have hP:=h.below x;exact⟨hP.labels,hP.places,fun k hk=>zyH (ad.alloc _) k hk,fun k hk=>(x.cell (p:=⟨r,k*4+3,none⟩) aD).trans (I k hk).2.2.2⟩
 have p0:(l.alloc (.cells #[.slice (some ⟨r,0,none⟩) F.length d,.map (some pm),.slice (some ⟨A,0,none⟩) F.length C] 128)).cell? ⟨l.heap.size,0,none⟩=some (.slice (some ⟨r,0,none⟩) F.length d):=World.cell?_alloc_new (w:=l) #[.slice (some ⟨r,0,none⟩) F.length d,.map (some pm),.slice (some ⟨A,0,none⟩) F.length C] 128 0;have p1:(l.alloc (.cells #[.slice (some ⟨r,0,none⟩) F.length d,.map (some pm),.slice (some ⟨A,0,none⟩) F.length C] 128)).cell? ⟨l.heap.size,1,none⟩=some (.map (some pm)):=World.cell?_alloc_new (w:=l) #[.slice (some ⟨r,0,none⟩) F.length d,.map (some pm),.slice (some ⟨A,0,none⟩) F.length C] 128 1;have p2:(l.alloc (.cells #[.slice (some ⟨r,0,none⟩) F.length d,.map (some pm),.slice (some ⟨A,0,none⟩) F.length C] 128)).cell? ⟨l.heap.size,2,none⟩=some (.slice (some ⟨A,0,none⟩) F.length C):=World.cell?_alloc_new (w:=l) #[.slice (some ⟨r,0,none⟩) F.length d,.map (some pm),.slice (some ⟨A,0,none⟩) F.length C] 128 2;have aG:(l.alloc (.cells #[.slice (some ⟨r,0,none⟩) F.length d,.map (some pm),.slice (some ⟨A,0,none⟩) F.length C] 128)).heap.size=l.heap.size+1:=by simp
 generalize l.alloc (.cells #[.slice (some ⟨r,0,none⟩) F.length d,.map (some pm),.slice (some ⟨A,0,none⟩) F.length C] 128)=W2 at x ax p0 p1 p2 aG;clear s X aJ ad;obtain⟨i0,aL,aQ,aR,aS⟩:=info_parts Tryz.info140
 go_loopw [14,3] (fun ti tc wr=>∃(k:Nat) (cv:Value),k≤F.length∧ti=.int .i64 (k:Int)∧tc=cv∧wr.ownsRow (l.heap.size+1) 140 2 cv (lenF (F.take k)) (zbl ((zao F).take (lenF (F.take k))))∧Below (l.heap.size+1) W2 wr) (fun ti _ _=>F.length-(intOf ti).toNat)
 case atStart=>exact⟨0,_,by omega,rfl,rfl,World.ownsRow_nil _ _ _ _,Below.refl _ _⟩
 case round =>
  obtain⟨k,cv,hk,rfl,rfl,y,Y⟩:=hrel;by_cases af:k<F.length
  ·obtain⟨c0,c1,c2,c3⟩:=I k af;have ai:=List.getElem_mem af;have V:=h.bodies F[k] ai;have aw:F[k]?=some F[k]:=List.getElem?_eq_getElem af;have HT:Hid (lenF (F.take (k+1))=lenF (F.take k)+(zal F[k].its).length):=zma F k af;have H:lenF (F.take k)+(zal F[k].its).length≤300:=by have:=zmi F (k+1);have:=HT.out;omega
   have HP:Hid (∀ m it,(zal F[k].its)[m]?=some it→(zao F)[lenF (F.take k)+m]?=some (insM F k it,it.line)):=fun m it hm=>by
    have:=zfV F 0 F k F[k] aw m it hm;rw [Nat.zero_add] at this;exact this
   have HI:Hid (∀ m it,(zal F[k].its)[m]?=some it→∀ W,PlIn W F r pm A→Calls Tryz.prog 81 #[zi9 r d pm A C F.length,stm it.sort it.line it.word it.a it.b it.c it.n it.nm,.int .i64 (k:Int)] W fun e w'=>e=.returned (.iface (insT (insM F k it)) (.agg (insA (insM F k it))))∧Below W.heap.size W w'):=fun m it hm W M=>by
    refine zqX R W d C M hn aw hm ?_;have:it∈F[k].its:=(List.mem_filter.1 (List.mem_of_getElem? hm)).1;exact((hb F[k] ai).2 it this).1
   have O:Below w.heap.size w wr:=x.trans (Y.mono (by omega));have z:∀ j,wr.cell? ⟨r,j,none⟩=w.cell? ⟨r,j,none⟩:=fun j=>O.cell (p:=⟨r,j,none⟩) aD;rw [←z] at c0 c1 c2 c3;clear z;generalize F[k]=f at c0 c1 c2 c3 V HT H HP HI;have hk4:k*4≤1200:=by omega
   obtain⟨ae,line,N,bv,m⟩:=f;simp only at c0 c1 c2 c3 V H;have au:Hid (lenF (F.take (k+1))=lenF (F.take k)+(zal N).length):=HT.out;have ak:Hid (∀ m it,(zal N)[m]?=some it→(zao F)[lenF (F.take k)+m]?=some (insM F k it,it.line)):=HP.out;have ar:Hid (∀ m it,(zal N)[m]?=some it→∀ W,PlIn W F r pm A→Calls Tryz.prog 81 #[zi9 r d pm A C F.length,stm it.sort it.line it.word it.a it.b it.c it.n it.nm,.int .i64 (k:Int)] W fun e w'=>e=.returned (.iface (insT (insM F k it)) (.agg (insA (insM F k it))))∧Below W.heap.size W w'):=HI.out;clear HT HP HI;generalize zal N=its at V H au ak ar;generalize lenF (F.take k)=T at y H au ak;obtain⟨ao,P,rfl⟩:=zba V;have aj:Below (l.heap.size+1) W2 (wr.alloc (.cells #[.string ae,.int .i64 line,.slice ao its.length P,.map (some m)] 131)):=Y.alloc (by have:=Y.size;omega) _;have ac:=y.alloc (.cells #[.string ae,.int .i64 line,.slice ao its.length P,.map (some m)] 131);go_wp2;generalize wr.alloc (.cells #[.string ae,.int .i64 line,.slice ao its.length P,.map (some m)] 131)=W3 at aj ac;clear c0 c1 c2 c3 y Y O
   go_loopw [22,3] (fun tj tc wi=>∃(j:Nat) (cv:Value),j≤its.length∧tj=.int .i64 (j:Int)∧tc=cv∧wi.ownsRow (l.heap.size+1) 140 2 cv (T+j) (zbl ((zao F).take (T+j)))∧Below (l.heap.size+1) W2 wi) (fun tj _ _=>its.length-(intOf tj).toNat)
   case atStart=>exact⟨0,_,by omega,rfl,rfl,ac,aj⟩
   case round =>
    obtain⟨j,Q,hj,rfl,aB,u,U⟩:=hrel;have aC:=aB.symm;subst aC;clear aB;have hsj:=U.size;by_cases aE:j<its.length
    ·obtain⟨sg,capb',aA,_,az,aF⟩:=zg0 V (by omega);have hs:=aF j aE;have ap:its[j]?=some its[j]:=List.getElem?_eq_getElem aE;have J:=ar.out j _ ap;have av:Hid ((zao F).take (T+j+1)=(zao F).take (T+j)++[(insM F k its[j],its[j].line)]):=zw9 _ _ _ (ak.out j _ ap);generalize its[j]=i at hs J av;generalize insM F k i=ins at J av;obtain⟨d0,d1,d2,d3,d4,d5,d6,d7⟩:=hs;have O:Below w.heap.size w wr:=x.trans (U.mono (by omega));have z:∀ j,wr.cell? ⟨sg,j,none⟩=w.cell? ⟨sg,j,none⟩:=fun j=>O.cell (p:=⟨sg,j,none⟩) az;rw [←z] at d0 d1 d2 d3 d4 d5 d6 d7;clear z aF ap;simp only [Value.slice.injEq,true_and] at aA;obtain⟨rfl,rfl⟩:=aA;have hj8:j*8≤2400:=by omega
     have hX:Below wr.heap.size wr (wr.alloc (.cells #[.int .i64 i.sort,.int .i64 i.line,.string i.word,.int .i64 i.a,.int .i64 i.b,.int .i64 i.c,.int .i64 i.n,.string i.nm] 135)):=(Below.refl _ _).alloc (Nat.le_refl _) _;have aH:(wr.alloc (.cells #[.int .i64 i.sort,.int .i64 i.line,.string i.word,.int .i64 i.a,.int .i64 i.b,.int .i64 i.c,.int .i64 i.n,.string i.nm] 135)).heap.size=wr.heap.size+1:=by simp
     have q:∀ o,(wr.alloc (.cells #[.int .i64 i.sort,.int .i64 i.line,.string i.word,.int .i64 i.a,.int .i64 i.b,.int .i64 i.c,.int .i64 i.n,.string i.nm] 135)).cell? ⟨l.heap.size,o,none⟩=W2.cell? ⟨l.heap.size,o,none⟩:=fun o=>(hX.cell (p:=⟨l.heap.size,o,none⟩) (by show l.heap.size<_;omega)).trans (U.cell (p:=⟨l.heap.size,o,none⟩) (by show l.heap.size<_;omega));have H4:(wr.alloc (.cells #[.int .i64 i.sort,.int .i64 i.line,.string i.word,.int .i64 i.a,.int .i64 i.b,.int .i64 i.c,.int .i64 i.n,.string i.nm] 135)).cell? ⟨l.heap.size,0,none⟩=some (.slice (some ⟨r,0,none⟩) F.length d)∧(wr.alloc (.cells #[.int .i64 i.sort,.int .i64 i.line,.string i.word,.int .i64 i.a,.int .i64 i.b,.int .i64 i.c,.int .i64 i.n,.string i.nm] 135)).cell? ⟨l.heap.size,1,none⟩=some (.map (some pm))∧(wr.alloc (.cells #[.int .i64 i.sort,.int .i64 i.line,.string i.word,.int .i64 i.a,.int .i64 i.b,.int .i64 i.c,.int .i64 i.n,.string i.nm] 135)).cell? ⟨l.heap.size,2,none⟩=some (.slice (some ⟨A,0,none⟩) F.length C)∧(wr.alloc (.cells #[.int .i64 i.sort,.int .i64 i.line,.string i.word,.int .i64 i.a,.int .i64 i.b,.int .i64 i.c,.int .i64 i.n,.string i.nm] 135)).cell? ⟨wr.heap.size,0,none⟩=some (.int .i64 i.sort)∧(wr.alloc (.cells #[.int .i64 i.sort,.int .i64 i.line,.string i.word,.int .i64 i.a,.int .i64 i.b,.int .i64 i.c,.int .i64 i.n,.string i.nm] 135)).cell? ⟨wr.heap.size,1,none⟩=some (.int .i64 i.line)∧(wr.alloc (.cells #[.int .i64 i.sort,.int .i64 i.line,.string i.word,.int .i64 i.a,.int .i64 i.b,.int .i64 i.c,.int .i64 i.n,.string i.nm] 135)).cell? ⟨wr.heap.size,2,none⟩=some (.string i.word)∧(wr.alloc (.cells #[.int .i64 i.sort,.int .i64 i.line,.string i.word,.int .i64 i.a,.int .i64 i.b,.int .i64 i.c,.int .i64 i.n,.string i.nm] 135)).cell? ⟨wr.heap.size,3,none⟩=some (.int .i64 i.a)∧(wr.alloc (.cells #[.int .i64 i.sort,.int .i64 i.line,.string i.word,.int .i64 i.a,.int .i64 i.b,.int .i64 i.c,.int .i64 i.n,.string i.nm] 135)).cell? ⟨wr.heap.size,4,none⟩=some (.int .i64 i.b)∧(wr.alloc (.cells #[.int .i64 i.sort,.int .i64 i.line,.string i.word,.int .i64 i.a,.int .i64 i.b,.int .i64 i.c,.int .i64 i.n,.string i.nm] 135)).cell? ⟨wr.heap.size,5,none⟩=some (.int .i64 i.c)∧(wr.alloc (.cells #[.int .i64 i.sort,.int .i64 i.line,.string i.word,.int .i64 i.a,.int .i64 i.b,.int .i64 i.c,.int .i64 i.n,.string i.nm] 135)).cell? ⟨wr.heap.size,6,none⟩=some (.int .i64 i.n)∧(wr.alloc (.cells #[.int .i64 i.sort,.int .i64 i.line,.string i.word,.int .i64 i.a,.int .i64 i.b,.int .i64 i.c,.int .i64 i.n,.string i.nm] 135)).cell? ⟨wr.heap.size,7,none⟩=some (.string i.nm) :=
      ⟨(q 0).trans p0,(q 1).trans p1,(q 2).trans p2,World.cell?_alloc_new (w:=wr) #[.int .i64 i.sort,.int .i64 i.line,.string i.word,.int .i64 i.a,.int .i64 i.b,.int .i64 i.c,.int .i64 i.n,.string i.nm] 135 0,World.cell?_alloc_new (w:=wr) #[.int .i64 i.sort,.int .i64 i.line,.string i.word,.int .i64 i.a,.int .i64 i.b,.int .i64 i.c,.int .i64 i.n,.string i.nm] 135 1,World.cell?_alloc_new (w:=wr) #[.int .i64 i.sort,.int .i64 i.line,.string i.word,.int .i64 i.a,.int .i64 i.b,.int .i64 i.c,.int .i64 i.n,.string i.nm] 135 2,World.cell?_alloc_new (w:=wr) #[.int .i64 i.sort,.int .i64 i.line,.string i.word,.int .i64 i.a,.int .i64 i.b,.int .i64 i.c,.int .i64 i.n,.string i.nm] 135 3,World.cell?_alloc_new (w:=wr) #[.int .i64 i.sort,.int .i64 i.line,.string i.word,.int .i64 i.a,.int .i64 i.b,.int .i64 i.c,.int .i64 i.n,.string i.nm] 135 4,World.cell?_alloc_new (w:=wr) #[.int .i64 i.sort,.int .i64 i.line,.string i.word,.int .i64 i.a,.int .i64 i.b,.int .i64 i.c,.int .i64 i.n,.string i.nm] 135 5,World.cell?_alloc_new (w:=wr) #[.int .i64 i.sort,.int .i64 i.line,.string i.word,.int .i64 i.a,.int .i64 i.b,.int .i64 i.c,.int .i64 i.n,.string i.nm] 135 6,World.cell?_alloc_new (w:=wr) #[.int .i64 i.sort,.int .i64 i.line,.string i.word,.int .i64 i.a,.int .i64 i.b,.int .i64 i.c,.int .i64 i.n,.string i.nm] 135 7⟩
     clear q;have E:=u.alloc (.cells #[.int .i64 i.sort,.int .i64 i.line,.string i.word,.int .i64 i.a,.int .i64 i.b,.int .i64 i.c,.int .i64 i.n,.string i.nm] 135);have am:Below (l.heap.size+1) W2 (wr.alloc (.cells #[.int .i64 i.sort,.int .i64 i.line,.string i.word,.int .i64 i.a,.int .i64 i.b,.int .i64 i.c,.int .i64 i.n,.string i.nm] 135)):=U.alloc (by omega) _;have M4:=ax.below am (by omega);have Z:=fun g (hg:Q.ownBlock=some g)=>u.lt g hg;have aO:some l.heap.size≠Q.ownBlock:=fun e=>by have:=(Z _ e.symm).1;omega
     have aP:some wr.heap.size≠Q.ownBlock:=fun e=>by have:=(Z _ e.symm).2;omega
     go_wp2_with fail
     generalize wr.alloc (.cells #[.int .i64 i.sort,.int .i64 i.line,.string i.word,.int .i64 i.a,.int .i64 i.b,.int .i64 i.c,.int .i64 i.n,.string i.nm] 135)=W4 at hX aH H4 E am M4;have s:=J W4.drew (M4.below ((Below.refl _ _).drew) (Nat.le_refl _));clear d0 d1 d2 d3 d4 d5 d6 d7 J u;go_region_held3 (fun W=>W.cell? ⟨l.heap.size,0,none⟩=some (.slice (some ⟨r,0,none⟩) F.length d)∧W.cell? ⟨l.heap.size,1,none⟩=some (.map (some pm))∧W.cell? ⟨l.heap.size,2,none⟩=some (.slice (some ⟨A,0,none⟩) F.length C)∧W.cell? ⟨wr.heap.size,0,none⟩=some (.int .i64 i.sort)∧W.cell? ⟨wr.heap.size,1,none⟩=some (.int .i64 i.line)∧W.cell? ⟨wr.heap.size,2,none⟩=some (.string i.word)∧W.cell? ⟨wr.heap.size,3,none⟩=some (.int .i64 i.a)∧W.cell? ⟨wr.heap.size,4,none⟩=some (.int .i64 i.b)∧W.cell? ⟨wr.heap.size,5,none⟩=some (.int .i64 i.c)∧W.cell? ⟨wr.heap.size,6,none⟩=some (.int .i64 i.n)∧W.cell? ⟨wr.heap.size,7,none⟩=some (.string i.nm))
      (first
        | exact H4
        | exact H6
        | exact H5
        | exact H7)
      (first
        | (go_at_call 81;refine s.mono ?_;rintro e w5 ⟨rfl,S⟩;have H5:=zhf S H4;have H6:=zhf ((Below.refl w5.heap.size w5).alloc (Nat.le_refl _) (.cells #[.iface (insT ins) (.agg (insA ins)),.int .i64 i.line] 140)) H5;have hs5:W4.heap.size≤w5.heap.size:=S.size;have aa:=zbw (w:=W4.drew) E S (Nat.le_refl _))
        | (refine step_append_lies _ (by rfl) _ _ _ (by rfl) (l.heap.size+1) 140 i0 _ 2 24 Tryz.under93 aL aQ aR aS rfl (by omega) Q (T+j) (zbl ((zao F).take (T+j))) (by rfl) (aa.alloc _)
            ⟨w5.heap.size,0,none⟩ 1 1 [.iface (insT ins) (.agg (insA ins)),.int .i64 i.line] (by rfl) (by rfl) (World.news_of_block (cs:=#[.iface (insT ins) (.agg (insA ins)),.int .i64 i.line]) (t:=140) (fr:=(0,0)) (heap_alloc_new w5 _)) (zwA _ _ rfl rfl)
            (by omega) (by unfold maxLen;omega) (by omega) (by simp;omega) (w5.heap.size+1) (by simp) ?_;intro g al w6 ab D hat hltg;have H7:=zmj D aO aP H6))
     have ay:Below (l.heap.size+1) W2 w5:=am.drew.trans (S.mono (by show l.heap.size+1≤W4.heap.size;omega));have aI:Below (l.heap.size+1) W2 w6:=(ay.alloc (by omega) _).grown D (by simp;omega) (fun g hg=>(Z g hg).1);have G:w6.ownsRow (l.heap.size+1) 140 2 (.slice (some ⟨g,0,none⟩) (T+j+1) al) (T+j+1) (zbl ((zao F).take (T+j+1))):=by
      rw [av.out,zj5];exact ab
     clear ab D aa E H4 H5 H6 H7 s S M4;go_wp2;go_roundw
     case rel=>exact⟨j+1,_,by omega,by go_num,rfl,G,aI⟩
     case measure=>simp [intOf];omega
    ·have aM:j=its.length:=by omega
     subst aM;have G:wr.ownsRow (l.heap.size+1) 140 2 Q (lenF (F.take (k+1))) (zbl ((zao F).take (lenF (F.take (k+1))))):=by
      rw [au.out];exact u
     clear u;go_wp2;go_roundw
     case rel=>exact⟨k+1,_,by omega,by go_num,rfl,G,U⟩
     case measure=>simp [intOf];omega
  ·have aN:k=F.length:=by omega
   subst aN;rw [List.take_length,←aq,List.take_length] at y;obtain⟨g,al,rfl,hg,aK,hC⟩:=zt8 y K.some_;have O:Below w.heap.size w wr:=x.trans (Y.mono (by omega));clear y;go_wp2;go_ret;exact⟨g,al,rfl,by omega,aK,hC,O⟩
end Go.Proofs.YtfpgjkbjbbgciaaGreatDoor
