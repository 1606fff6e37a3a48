import Derived.Test.YtfpgjkbjbbgciaaGreatDoorMi43
import Derived.Test.YtfpgjkbjbbgciaaGreatDoorMi45
import Derived.Test.YtfpgjkbjbbgciaaGreatDoorMi46
set_option maxRecDepth 100000
set_option maxHeartbeats 8000000
namespace Go.Proofs.YtfpgjkbjbbgciaaGreatDoor
section
open Go.RowKit Sp
structure PlIn(W:World)(F:List FnM)(bo pm bg:Nat):Prop where
 maps:∀ f∈F,MapIs W f.m (zcm f.its)
 places:MapIs W pm (zbj F)
 begs:∀ k,k<F.length→W.cell? ⟨bg,k,none⟩=some (.int .i64 (lenF (F.take k):Int))
 labs:∀ k (h:k<F.length),W.cell? ⟨bo,k*4+3,none⟩=some (.map (some F[k].m))
theorem PlIn.below{W W':World}{F:List FnM}{bo pm bg B:Nat}(h:PlIn W F bo pm bg)(hb:Below B W W')(hB:W.heap.size≤B):PlIn W' F bo pm bg :=
 ⟨fun f hf=>(h.maps f hf).below hb (Nat.lt_of_lt_of_le (h.maps f hf).lt hB),h.places.below hb (Nat.lt_of_lt_of_le h.places.lt hB),
  fun k hk=>(hb.cell (p:=⟨bg,k,none⟩) (Nat.lt_of_lt_of_le (World.block_lt_of_cell? W _ (h.begs k hk)) hB)).trans (h.begs k hk),
  fun k hk=>(hb.cell (p:=⟨bo,k*4+3,none⟩) (Nat.lt_of_lt_of_le (World.block_lt_of_cell? W _ (h.labs k hk)) hB)).trans (h.labs k hk)⟩
theorem zlJ(F:List FnM)(k:Nat):lenF (F.take k)≤lenF F:=by
 unfold lenF
 conv=>rhs;rw [←List.take_append_drop k F,List.map_append,List.sum_append]
 omega
theorem zas(x:ByteArray):((za4 x).toNat:Int)=za4 x:=by
 unfold za4
 split
 ·omega
 ·rfl
abbrev ziw(bo cv pm bg cap n:Nat):Value:=.agg #[.slice (some ⟨bo,0,none⟩) n cv,.map (some pm),.slice (some ⟨bg,0,none⟩) n cap]
theorem zq5{L:List Said}{F:List FnM}(R:Right L F)(w:World){bo pm bg:Nat}(cv cap:Nat)(M:PlIn w F bo pm bg)(hn:F.length≤300){k m:Nat}{f:FnM}{it:It}(hk:F[k]?=some f)(hm:(zal f.its)[m]?=some it)(hsz:it.nm.size≤1048576):
  Calls Tryz.prog 81 #[ziw bo cv pm bg cap F.length,stm it.sort it.line it.word it.a it.b it.c it.n it.nm,.int .i64 (k:Int)] w fun e w'=>e=.returned (.iface (insT (insM F k it)) (.agg (insA (insM F k it))))∧Below w.heap.size w w':=by
 have hkl:k<F.length:=(List.getElem?_eq_some_iff.1 hk).1
 have hfk:F[k]=f:=(List.getElem?_eq_some_iff.1 hk).2
 obtain⟨j,hj,h5,hkey,_,hlab,hfn,_⟩:=R.it_at hk hm
 have Fm:=R.good.form j hj h5
 have hfew:=R.codeOk.few
 have ew:it.word=zew L[j]:=congrArg Key.word hkey
 have ea:it.a=(opQ L[j]).a:=congrArg Key.a hkey
 have eb:it.b=(opQ L[j]).b:=congrArg Key.b hkey
 have ec:it.c=(opQ L[j]).c:=congrArg Key.c hkey
 have em:it.nm=zd5 L[j]:=congrArg Key.nm hkey
 have hl:zaE (L[j].word 0)=true→it.nm=L[j].last→∀ W,Below w.heap.size w W→Calls Tryz.prog 108 #[ziw bo cv pm bg cap F.length,.string it.nm,.int .i64 (k:Int)] W fun e w'=>e=.returned (.int .i64 (labM F k it.nm))∧Below W.heap.size W w':=by
  intro ha he W hW
  obtain⟨p,hp,hp1,hp2,_⟩:=hlab ha
  rw [←he] at hp hp1
  have M':=M.below hW (Nat.le_refl _)
  have hmm:=M'.labs k hkl
  rw [hfk] at hmm
  have:=zq2 W pm bg k (lenF (F.take k)) p bo cv cap F it.nm f.m (zcm f.its) (M'.maps f (List.mem_of_getElem? hk)) hsz hp (by omega) hkl hn (by omega) (M'.begs k hkl) hmm
  rw [hp1]
  refine this.mono ?_
  rintro e w' ⟨rfl,hb⟩
  exact⟨by simp,hb⟩
 have hf:zbt (L[j].word 0)=true→it.nm=L[j].last→∀ W,Below w.heap.size w W→Calls Tryz.prog 109 #[ziw bo cv pm bg cap F.length,.string it.nm] W fun e w'=>e=.returned (.int .i64 (fnM F it.nm))∧Below W.heap.size W w':=by
  intro ha he W hW
  obtain⟨k2,hk2,hp,hp1,hp2,_⟩:=hfn ha
  rw [←he] at hp hp1
  have M':=M.below hW (Nat.le_refl _)
  rw [hp1]
  exact zkt W pm bg k2 _ F cap it.nm M'.places hsz hp hk2 hn (M'.begs k2 hk2) bo cv rfl
 clear hlab hfn hkey
 generalize L[j]=q at h5 Fm ew ea eb ec em hl hf
 obtain⟨kd,kp,ok⟩:=q
 simp only at h5 Fm
 subst h5
 unfold insM
 cases Fm with
 | set_ x1 x2 =>
  have e0:it.word=⟨#[115,101,116]⟩:=ew
  rw [zsU] at ea eb ec
  have na:(it.a.toNat:Int)=it.a:=by rw [ea];exact zas _
  rw [e0,zoX]
  refine(zvN w (some ⟨bo,0,none⟩) (some ⟨bg,0,none⟩) F.length cv F.length cap pm it.sort it.line it.a it.b it.c it.n (k:Int) it.nm).mono ?_
  rintro e w' ⟨rfl,hb⟩
  exact⟨by simp [insT,insA,na],hb⟩
 | inc_ x1 x2 =>
  have e0:it.word=⟨#[105,110,99]⟩:=ew
  rw [zsV] at ea eb ec
  have na:(it.a.toNat:Int)=it.a:=by rw [ea];exact zas _
  rw [e0,zoY]
  refine(zvS w (some ⟨bo,0,none⟩) (some ⟨bg,0,none⟩) F.length cv F.length cap pm it.sort it.line it.a it.b it.c it.n (k:Int) it.nm).mono ?_
  rintro e w' ⟨rfl,hb⟩
  exact⟨by simp [insT,insA,na],hb⟩
 | mov_ x1 x2 =>
  have e0:it.word=⟨#[109,111,118]⟩:=ew
  rw [zsW] at ea eb ec
  have na:(it.a.toNat:Int)=it.a:=by rw [ea];exact zas _
  have nb:(it.b.toNat:Int)=it.b:=by rw [eb];exact zas _
  rw [e0,zoZ]
  refine(zvO w (some ⟨bo,0,none⟩) (some ⟨bg,0,none⟩) F.length cv F.length cap pm it.sort it.line it.a it.b it.c it.n (k:Int) it.nm).mono ?_
  rintro e w' ⟨rfl,hb⟩
  exact⟨by simp [insT,insA,na,nb],hb⟩
 | load_ x1 x2 =>
  have e0:it.word=⟨#[108,111,97,100]⟩:=ew
  rw [zpd] at ea eb ec
  have na:(it.a.toNat:Int)=it.a:=by rw [ea];exact zas _
  have nb:(it.b.toNat:Int)=it.b:=by rw [eb];exact zas _
  rw [e0,zl8]
  refine(zsO w (some ⟨bo,0,none⟩) (some ⟨bg,0,none⟩) F.length cv F.length cap pm it.sort it.line it.a it.b it.c it.n (k:Int) it.nm).mono ?_
  rintro e w' ⟨rfl,hb⟩
  exact⟨by simp [insT,insA,na,nb],hb⟩
 | store_ x1 x2 =>
  have e0:it.word=⟨#[115,116,111,114,101]⟩:=ew
  rw [zlF] at ea eb ec
  have na:(it.a.toNat:Int)=it.a:=by rw [ea];exact zas _
  have nb:(it.b.toNat:Int)=it.b:=by rw [eb];exact zas _
  rw [e0,zjG]
  refine(zq3 w (some ⟨bo,0,none⟩) (some ⟨bg,0,none⟩) F.length cv F.length cap pm it.sort it.line it.a it.b it.c it.n (k:Int) it.nm).mono ?_
  rintro e w' ⟨rfl,hb⟩
  exact⟨by simp [insT,insA,na,nb],hb⟩
 | add_ x1 x2 x3 =>
  have e0:it.word=⟨#[97,100,100]⟩:=ew
  rw [zsX] at ea eb ec
  have na:(it.a.toNat:Int)=it.a:=by rw [ea];exact zas _
  have nb:(it.b.toNat:Int)=it.b:=by rw [eb];exact zas _
  have nc:(it.c.toNat:Int)=it.c:=by rw [ec];exact zas _
  rw [e0,zpa]
  refine(zvP w (some ⟨bo,0,none⟩) (some ⟨bg,0,none⟩) F.length cv F.length cap pm it.sort it.line it.a it.b it.c it.n (k:Int) it.nm).mono ?_
  rintro e w' ⟨rfl,hb⟩
  exact⟨by simp [insT,insA,na,nb,nc],hb⟩
 | sub_ x1 x2 x3 =>
  have e0:it.word=⟨#[115,117,98]⟩:=ew
  rw [zsY] at ea eb ec
  have na:(it.a.toNat:Int)=it.a:=by rw [ea];exact zas _
  have nb:(it.b.toNat:Int)=it.b:=by rw [eb];exact zas _
  have nc:(it.c.toNat:Int)=it.c:=by rw [ec];exact zas _
  rw [e0,zpb]
  refine(zvQ w (some ⟨bo,0,none⟩) (some ⟨bg,0,none⟩) F.length cv F.length cap pm it.sort it.line it.a it.b it.c it.n (k:Int) it.nm).mono ?_
  rintro e w' ⟨rfl,hb⟩
  exact⟨by simp [insT,insA,na,nb,nc],hb⟩
 | mul_ x1 x2 x3 =>
  have e0:it.word=⟨#[109,117,108]⟩:=ew
  rw [zsZ] at ea eb ec
  have na:(it.a.toNat:Int)=it.a:=by rw [ea];exact zas _
  have nb:(it.b.toNat:Int)=it.b:=by rw [eb];exact zas _
  have nc:(it.c.toNat:Int)=it.c:=by rw [ec];exact zas _
  rw [e0,zpc]
  refine(zvR w (some ⟨bo,0,none⟩) (some ⟨bg,0,none⟩) F.length cv F.length cap pm it.sort it.line it.a it.b it.c it.n (k:Int) it.nm).mono ?_
  rintro e w' ⟨rfl,hb⟩
  exact⟨by simp [insT,insA,na,nb,nc],hb⟩
 | read_ x1 =>
  have e0:it.word=⟨#[114,101,97,100]⟩:=ew
  rw [zpe] at ea eb ec
  have na:(it.a.toNat:Int)=it.a:=by rw [ea];exact zas _
  rw [e0,zl9]
  refine(zsP w (some ⟨bo,0,none⟩) (some ⟨bg,0,none⟩) F.length cv F.length cap pm it.sort it.line it.a it.b it.c it.n (k:Int) it.nm).mono ?_
  rintro e w' ⟨rfl,hb⟩
  exact⟨by simp [insT,insA,na],hb⟩
 | write_ x1 =>
  have e0:it.word=⟨#[119,114,105,116,101]⟩:=ew
  rw [zlG] at ea eb ec
  have na:(it.a.toNat:Int)=it.a:=by rw [ea];exact zas _
  rw [e0,zjH]
  refine(zq4 w (some ⟨bo,0,none⟩) (some ⟨bg,0,none⟩) F.length cv F.length cap pm it.sort it.line it.a it.b it.c it.n (k:Int) it.nm).mono ?_
  rintro e w' ⟨rfl,hb⟩
  exact⟨by simp [insT,insA,na],hb⟩
 | jump_ x1 =>
  have e0:it.word=⟨#[106,117,109,112]⟩:=ew
  rw [zjI] at em
  rw [e0,zlA]
  refine(zta w (some ⟨bo,0,none⟩) (some ⟨bg,0,none⟩) F.length cv F.length cap pm it.sort it.line it.a it.b it.c it.n (k:Int) (labM F k it.nm) it.nm (hl (by kernel_rfl) em)).mono ?_
  rintro e w' ⟨rfl,hb⟩
  exact⟨by simp [insT,insA],hb⟩
 | call_ x1 =>
  have e0:it.word=⟨#[99,97,108,108]⟩:=ew
  rw [zjJ] at em
  rw [e0,zlB]
  refine(ztb w (some ⟨bo,0,none⟩) (some ⟨bg,0,none⟩) F.length cv F.length cap pm it.sort it.line it.a it.b it.c it.n (k:Int) (fnM F it.nm) it.nm (hf (by kernel_rfl) em)).mono ?_
  rintro e w' ⟨rfl,hb⟩
  exact⟨by simp [insT,insA],hb⟩
 | less_ x1 x2 x3 =>
  have e0:it.word=⟨#[108,101,115,115]⟩:=ew
  rw [zpf] at ea eb ec
  have na:(it.a.toNat:Int)=it.a:=by rw [ea];exact zas _
  have nb:(it.b.toNat:Int)=it.b:=by rw [eb];exact zas _
  rw [zjK] at em
  rw [e0,zlC]
  refine(ztc w (some ⟨bo,0,none⟩) (some ⟨bg,0,none⟩) F.length cv F.length cap pm it.sort it.line it.a it.b it.c it.n (k:Int) (labM F k it.nm) it.nm (hl (by kernel_rfl) em)).mono ?_
  rintro e w' ⟨rfl,hb⟩
  exact⟨by simp [insT,insA,na,nb],hb⟩
 | same_ x1 x2 x3 =>
  have e0:it.word=⟨#[115,97,109,101]⟩:=ew
  rw [zpg] at ea eb ec
  have na:(it.a.toNat:Int)=it.a:=by rw [ea];exact zas _
  have nb:(it.b.toNat:Int)=it.b:=by rw [eb];exact zas _
  rw [zjL] at em
  rw [e0,zlD]
  refine(ztd w (some ⟨bo,0,none⟩) (some ⟨bg,0,none⟩) F.length cv F.length cap pm it.sort it.line it.a it.b it.c it.n (k:Int) (labM F k it.nm) it.nm (hl (by kernel_rfl) em)).mono ?_
  rintro e w' ⟨rfl,hb⟩
  exact⟨by simp [insT,insA,na,nb],hb⟩
 | back_  =>
  have e0:it.word=⟨#[98,97,99,107]⟩:=ew
  rw [e0,ziv]
  refine(zsQ w (some ⟨bo,0,none⟩) (some ⟨bg,0,none⟩) F.length cv F.length cap pm it.sort it.line it.a it.b it.c it.n (k:Int) it.nm).mono ?_
  rintro e w' ⟨rfl,hb⟩
  exact⟨by simp [insT,insA],hb⟩
 | stop_  =>
  have e0:it.word=⟨#[115,116,111,112]⟩:=ew
  rw [e0,zlE]
  refine(zsR w (some ⟨bo,0,none⟩) (some ⟨bg,0,none⟩) F.length cv F.length cap pm it.sort it.line it.a it.b it.c it.n (k:Int) it.nm).mono ?_
  rintro e w' ⟨rfl,hb⟩
  exact⟨by simp [insT,insA],hb⟩
def zbn(C:List (Ins × Int)):List Value:=C.flatMap (fun q=>[.iface (insT q.1) (.agg (insA q.1)),.int .i64 q.2])
theorem zjn(C:List (Ins × Int))(q:Ins × Int):zbn (C++[q])=zbn C++[.iface (insT q.1) (.agg (insA q.1)),.int .i64 q.2]:=by simp [zbn]
theorem zhc(C:List (Ins × Int))(k:Nat)(h:k<C.length):(zbn C)[k*2]?=some (.iface (insT C[k].1) (.agg (insA C[k].1)))∧(zbn C)[k*2+1]?=some (.int .i64 C[k].2):=by
 induction C generalizing k with
 | nil=>simp at h
 | cons i l ih =>
  have e:zbn (i :: l)=.iface (insT i.1) (.agg (insA i.1)) :: .int .i64 i.2 :: zbn l:=by simp [zbn]
  rw [e]
  cases k with
  | zero=>exact⟨rfl,rfl⟩
  | succ k =>
   have:=ih k (by simpa using h)
   rw [show(k+1)*2=k*2+1+1 by omega]
   simpa using this
theorem zte{w:World}{B:Nat}{v:Value}{C:List (Ins × Int)}(h:w.ownsRow B 140 2 v C.length (zbn C))(hp:0<C.length):
  ∃ g cap,v=.slice (some ⟨g,0,none⟩) C.length cap∧B≤g∧g<w.heap.size∧CodeIn w g C:=by
 obtain⟨g,cap,rfl,hb,hlt⟩:=h.form hp
 refine⟨g,cap,rfl,hb,hlt,fun j hj=>⟨?_,?_⟩⟩
 ·rw [World.ownsRow.cellAt h (j*2) (by omega),(zhc C j hj).1]
 ·rw [World.ownsRow.cellAt h (j*2+1) (by omega),(zhc C j hj).2]
theorem zwa{α:Type}(C:List α)(p:Nat)(q:α)(h:C[p]?=some q):C.take (p+1)=C.take p++[q]:=by
 rw [List.take_add_one,h];rfl
theorem Tryz.info140:(Tryz.prog.info? 140).map (fun i=>(i.zero,i.size,i.bytes))=some (some (.agg #[.nilIface,.int .i64 0]),2,24):=by kernel_rfl
theorem Tryz.under93:Tryz.prog.underlying 93=some (.slice 140):=by kernel_rfl
def zz0(w:World)(C:List (Ins × Int)):Ending→World→Prop:=fun e w'=>∃ g cap,e=.returned (.slice (some ⟨g,0,none⟩) C.length cap)∧w.heap.size≤g∧g<w'.heap.size∧CodeIn w' g C∧Below w.heap.size w w'
theorem zyc{w:World}{B bg cap:Nat}{F:List FnM}(h:w.ownsRow B 3 1 (.slice (some ⟨bg,0,none⟩) F.length cap) F.length (i64s (begF F)))(k:Nat)(hk:k<F.length):w.cell? ⟨bg,k,none⟩=some (.int .i64 (lenF (F.take k):Int)):=by
 rw [World.ownsRow.cellAt h k (by omega)]
 simp [begF,hk]
theorem zhd{W W':World}{pb sb:Nat}{v0 v1 v2 v3 v4 v5 v6 v7 v8 v9 v10:Value}(hb:Below W.heap.size W W')(h:W.cell? ⟨pb,0,none⟩=some (v0)∧W.cell? ⟨pb,1,none⟩=some (v1)∧W.cell? ⟨pb,2,none⟩=some (v2)∧W.cell? ⟨sb,0,none⟩=some (v3)∧W.cell? ⟨sb,1,none⟩=some (v4)∧W.cell? ⟨sb,2,none⟩=some (v5)∧W.cell? ⟨sb,3,none⟩=some (v6)∧W.cell? ⟨sb,4,none⟩=some (v7)∧W.cell? ⟨sb,5,none⟩=some (v8)∧W.cell? ⟨sb,6,none⟩=some (v9)∧W.cell? ⟨sb,7,none⟩=some (v10)):
  W'.cell? ⟨pb,0,none⟩=some (v0)∧W'.cell? ⟨pb,1,none⟩=some (v1)∧W'.cell? ⟨pb,2,none⟩=some (v2)∧W'.cell? ⟨sb,0,none⟩=some (v3)∧W'.cell? ⟨sb,1,none⟩=some (v4)∧W'.cell? ⟨sb,2,none⟩=some (v5)∧W'.cell? ⟨sb,3,none⟩=some (v6)∧W'.cell? ⟨sb,4,none⟩=some (v7)∧W'.cell? ⟨sb,5,none⟩=some (v8)∧W'.cell? ⟨sb,6,none⟩=some (v9)∧W'.cell? ⟨sb,7,none⟩=some (v10):=by
 obtain⟨h0,h1,h2,h3,h4,h5,h6,h7,h8,h9,h10⟩:=h
 exact⟨za3 hb h0,za3 hb h1,za3 hb h2,za3 hb h3,za3 hb h4,za3 hb h5,za3 hb h6,za3 hb h7,za3 hb h8,za3 hb h9,za3 hb h10⟩
theorem far{w w':World}{row:Option Nat}(hg:w.grownBy w' row){p:Addr}{v:Value}(hne:some p.block≠row)(h:w.cell? p=some v):w'.cell? p=some v:=(hg.cell_far p (World.block_lt_of_cell? w p h) hne).trans h
theorem zlK{W W':World}{pb sb:Nat}{v0 v1 v2 v3 v4 v5 v6 v7 v8 v9 v10:Value}{row:Option Nat}(hg:W.grownBy W' row)(n1:some pb≠row)(n2:some sb≠row)(h:W.cell? ⟨pb,0,none⟩=some (v0)∧W.cell? ⟨pb,1,none⟩=some (v1)∧W.cell? ⟨pb,2,none⟩=some (v2)∧W.cell? ⟨sb,0,none⟩=some (v3)∧W.cell? ⟨sb,1,none⟩=some (v4)∧W.cell? ⟨sb,2,none⟩=some (v5)∧W.cell? ⟨sb,3,none⟩=some (v6)∧W.cell? ⟨sb,4,none⟩=some (v7)∧W.cell? ⟨sb,5,none⟩=some (v8)∧W.cell? ⟨sb,6,none⟩=some (v9)∧W.cell? ⟨sb,7,none⟩=some (v10)):
  W'.cell? ⟨pb,0,none⟩=some (v0)∧W'.cell? ⟨pb,1,none⟩=some (v1)∧W'.cell? ⟨pb,2,none⟩=some (v2)∧W'.cell? ⟨sb,0,none⟩=some (v3)∧W'.cell? ⟨sb,1,none⟩=some (v4)∧W'.cell? ⟨sb,2,none⟩=some (v5)∧W'.cell? ⟨sb,3,none⟩=some (v6)∧W'.cell? ⟨sb,4,none⟩=some (v7)∧W'.cell? ⟨sb,5,none⟩=some (v8)∧W'.cell? ⟨sb,6,none⟩=some (v9)∧W'.cell? ⟨sb,7,none⟩=some (v10):=by
 obtain⟨h0,h1,h2,h3,h4,h5,h6,h7,h8,h9,h10⟩:=h
 exact⟨far hg n1 h0,far hg n1 h1,far hg n1 h2,far hg n2 h3,far hg n2 h4,far hg n2 h5,far hg n2 h6,far hg n2 h7,far hg n2 h8,far hg n2 h9,far hg n2 h10⟩
theorem zwb(a b:Value)(ha:a.oneCell'=true)(hb:b.oneCell'=true):∀ u∈[a,b],u.oneCell'=true:=by
 intro u hu
 simp at hu
 rcases hu with rfl|rfl
 ·exact ha
 ·exact hb
theorem ztf{L:List Said}{F:List FnM}(R:Right L F)(w:World)(B pm:Nat)(v:Value)(h:PIn B w pm v F)(hn:F.length≤300)(hb:∀ f∈F,f.its.length≤300∧∀ i∈f.its,ItOk i):
  Calls Tryz.prog 52 #[.agg #[v,.map (some pm)]] w (zz0 w (zao F)):=by
 have hF:=R.some_
 have K:=R.codeOk
 have hlenC:=zdK F
 have ht:lenF F≤300:=by have:=K.few;omega
 obtain⟨fg,capf,rfl,hfg,hcap,hcells⟩:=h.fns hF
 have hcall:=zq1 (w.alloc (.cells #[.slice (some ⟨fg,0,none⟩) F.length capf,.map (some pm)] 83)) B pm _ F (h.alloc _) hF hn (fun f hf=>(hb f hf).1) ht
 have hsz1:(w.alloc (.cells #[.slice (some ⟨fg,0,none⟩) F.length capf,.map (some pm)] 83)).heap.size=w.heap.size+1:=by simp
 have hbox0:(w.alloc (.cells #[.slice (some ⟨fg,0,none⟩) F.length capf,.map (some pm)] 83)).cell? ⟨w.heap.size,0,none⟩=some (.slice (some ⟨fg,0,none⟩) F.length capf):=World.cell?_alloc_new (w:=w) #[.slice (some ⟨fg,0,none⟩) F.length capf,.map (some pm)] 83 0
 go_enter Tryz.func52,Tryz.ntmps52
 go_wp2_with(first|(go_at_call 80;refine hcall.mono ?_;rintro e w1 ⟨bs,rfl,hrow,hb1⟩;obtain⟨bg,cb,rfl,hbg,hbgl⟩:=hrow.form hF;have hc0:=(hb1.cell (p:=⟨w.heap.size,0,none⟩) (by rw [hsz1];exact Nat.lt_succ_self _)).trans hbox0;have hlt1:w.heap.size<w1.heap.size:=Nat.lt_of_lt_of_le (by rw [hsz1];exact Nat.lt_succ_self _) hb1.size;have hne1:¬w.heap.size=w1.heap.size:=Nat.ne_of_lt hlt1;have hne2:¬w1.heap.size=w.heap.size:=Nat.ne_of_gt hlt1))
 have hB01:Below w.heap.size w w1:=((Below.refl _ _).alloc (Nat.le_refl _) _).trans (hb1.mono (by rw [hsz1];omega))
 have hB02:Below w.heap.size w (w1.alloc (.cells #[.slice (some ⟨fg,0,none⟩) F.length capf,.map (some pm),.slice (some ⟨bg,0,none⟩) F.length cb] 128)):=hB01.alloc hB01.size _
 have hM2:PlIn (w1.alloc (.cells #[.slice (some ⟨fg,0,none⟩) F.length capf,.map (some pm),.slice (some ⟨bg,0,none⟩) F.length cb] 128)) F fg pm bg:=by
  have hP:=h.below hB02
  exact⟨hP.labels,hP.places,fun k hk=>zyc (hrow.alloc _) k hk,fun k hk=>(hB02.cell (p:=⟨fg,k*4+3,none⟩) hfg).trans (hcells k hk).2.2.2⟩
 have p0:(w1.alloc (.cells #[.slice (some ⟨fg,0,none⟩) F.length capf,.map (some pm),.slice (some ⟨bg,0,none⟩) F.length cb] 128)).cell? ⟨w1.heap.size,0,none⟩=some (.slice (some ⟨fg,0,none⟩) F.length capf):=World.cell?_alloc_new (w:=w1) #[.slice (some ⟨fg,0,none⟩) F.length capf,.map (some pm),.slice (some ⟨bg,0,none⟩) F.length cb] 128 0
 have p1:(w1.alloc (.cells #[.slice (some ⟨fg,0,none⟩) F.length capf,.map (some pm),.slice (some ⟨bg,0,none⟩) F.length cb] 128)).cell? ⟨w1.heap.size,1,none⟩=some (.map (some pm)):=World.cell?_alloc_new (w:=w1) #[.slice (some ⟨fg,0,none⟩) F.length capf,.map (some pm),.slice (some ⟨bg,0,none⟩) F.length cb] 128 1
 have p2:(w1.alloc (.cells #[.slice (some ⟨fg,0,none⟩) F.length capf,.map (some pm),.slice (some ⟨bg,0,none⟩) F.length cb] 128)).cell? ⟨w1.heap.size,2,none⟩=some (.slice (some ⟨bg,0,none⟩) F.length cb):=World.cell?_alloc_new (w:=w1) #[.slice (some ⟨fg,0,none⟩) F.length capf,.map (some pm),.slice (some ⟨bg,0,none⟩) F.length cb] 128 2
 have hsz2:(w1.alloc (.cells #[.slice (some ⟨fg,0,none⟩) F.length capf,.map (some pm),.slice (some ⟨bg,0,none⟩) F.length cb] 128)).heap.size=w1.heap.size+1:=by simp
 generalize w1.alloc (.cells #[.slice (some ⟨fg,0,none⟩) F.length capf,.map (some pm),.slice (some ⟨bg,0,none⟩) F.length cb] 128)=W2 at hB02 hM2 p0 p1 p2 hsz2
 clear hcall hbox0 hc0 hrow
 obtain⟨i0,hi0,hz0,hz1,hz2⟩:=info_parts Tryz.info140
 go_loopw [14,3] (fun ti tc wr=>∃(k:Nat) (cv:Value),k≤F.length∧ti=.int .i64 (k:Int)∧tc=cv∧wr.ownsRow (w1.heap.size+1) 140 2 cv (lenF (F.take k)) (zbn ((zao F).take (lenF (F.take k))))∧Below (w1.heap.size+1) W2 wr) (fun ti _ _=>F.length-(intOf ti).toNat)
 case atStart=>exact⟨0,_,by omega,rfl,rfl,World.ownsRow_nil _ _ _ _,Below.refl _ _⟩
 case round =>
  obtain⟨k,cv,hk,rfl,rfl,hown,hbw⟩:=hrel
  by_cases hlt:k<F.length
  ·obtain⟨c0,c1,c2,c3⟩:=hcells k hlt
   have hmem:=List.getElem_mem hlt
   have hbo:=h.bodies F[k] hmem
   have hFk:F[k]?=some F[k]:=List.getElem?_eq_getElem hlt
   have HT:Hid (lenF (F.take (k+1))=lenF (F.take k)+(zal F[k].its).length):=zl5 F k hlt
   have hTle:lenF (F.take k)+(zal F[k].its).length≤300:=by have:=zlJ F (k+1);have:=HT.out;omega
   have HP:Hid (∀ m it,(zal F[k].its)[m]?=some it→(zao F)[lenF (F.take k)+m]?=some (insM F k it,it.line)):=fun m it hm=>by
    have:=zfY F 0 F k F[k] hFk m it hm
    rw [Nat.zero_add] at this;exact this
   have HI:Hid (∀ m it,(zal F[k].its)[m]?=some it→∀ W,PlIn W F fg pm bg→Calls Tryz.prog 81 #[ziw fg capf pm bg cb F.length,stm it.sort it.line it.word it.a it.b it.c it.n it.nm,.int .i64 (k:Int)] W fun e w'=>e=.returned (.iface (insT (insM F k it)) (.agg (insA (insM F k it))))∧Below W.heap.size W w'):=fun m it hm W M=>by
    refine zq5 R W capf cb M hn hFk hm ?_
    have:it∈F[k].its:=(List.mem_filter.1 (List.mem_of_getElem? hm)).1
    exact((hb F[k] hmem).2 it this).1
   have hww:Below w.heap.size w wr:=hB02.trans (hbw.mono (by omega))
   have z:∀ j,wr.cell? ⟨fg,j,none⟩=w.cell? ⟨fg,j,none⟩:=fun j=>hww.cell (p:=⟨fg,j,none⟩) hfg
   rw [←z] at c0 c1 c2 c3
   clear z
   generalize F[k]=f at c0 c1 c2 c3 hbo HT hTle HP HI
   have hk4:k*4≤1200:=by omega
   obtain⟨name,line,its0,bv,m⟩:=f
   simp only at c0 c1 c2 c3 hbo hTle
   have HT2:Hid (lenF (F.take (k+1))=lenF (F.take k)+(zal its0).length):=HT.out
   have HP2:Hid (∀ m it,(zal its0)[m]?=some it→(zao F)[lenF (F.take k)+m]?=some (insM F k it,it.line)):=HP.out
   have HI2:Hid (∀ m it,(zal its0)[m]?=some it→∀ W,PlIn W F fg pm bg→Calls Tryz.prog 81 #[ziw fg capf pm bg cb F.length,stm it.sort it.line it.word it.a it.b it.c it.n it.nm,.int .i64 (k:Int)] W fun e w'=>e=.returned (.iface (insT (insM F k it)) (.agg (insA (insM F k it))))∧Below W.heap.size W w'):=HI.out
   clear HT HP HI
   generalize zal its0=its at hbo hTle HT2 HP2 HI2
   generalize lenF (F.take k)=T at hown hTle HT2 HP2
   obtain⟨ao,capb,rfl⟩:=zbb hbo
   have hnxo:Below (w1.heap.size+1) W2 (wr.alloc (.cells #[.string name,.int .i64 line,.slice ao its.length capb,.map (some m)] 131)):=hbw.alloc (by have:=hbw.size;omega) _
   have howno:=hown.alloc (.cells #[.string name,.int .i64 line,.slice ao its.length capb,.map (some m)] 131)
   go_wp2
   generalize wr.alloc (.cells #[.string name,.int .i64 line,.slice ao its.length capb,.map (some m)] 131)=W3 at hnxo howno
   clear c0 c1 c2 c3 hown hbw hww
   go_loopw [22,3] (fun tj tc wi=>∃(j:Nat) (cv:Value),j≤its.length∧tj=.int .i64 (j:Int)∧tc=cv∧wi.ownsRow (w1.heap.size+1) 140 2 cv (T+j) (zbn ((zao F).take (T+j)))∧Below (w1.heap.size+1) W2 wi) (fun tj _ _=>its.length-(intOf tj).toNat)
   case atStart=>exact⟨0,_,by omega,rfl,rfl,howno,hnxo⟩
   case round =>
    obtain⟨j,cv2,hj,rfl,hcv,hownj,hbj⟩:=hrel
    have hcv2:=hcv.symm
    subst hcv2
    clear hcv
    have hsj:=hbj.size
    by_cases hjl:j<its.length
    ·obtain⟨sg,capb',hbv,_,hbg',hst⟩:=zg2 hbo (by omega)
     have hs:=hst j hjl
     have hit:its[j]?=some its[j]:=List.getElem?_eq_getElem hjl
     have hins:=HI2.out j _ hit
     have HTK:Hid ((zao F).take (T+j+1)=(zao F).take (T+j)++[(insM F k its[j],its[j].line)]):=zwa _ _ _ (HP2.out j _ hit)
     generalize its[j]=i at hs hins HTK
     generalize insM F k i=ins at hins HTK
     obtain⟨d0,d1,d2,d3,d4,d5,d6,d7⟩:=hs
     have hww:Below w.heap.size w wr:=hB02.trans (hbj.mono (by omega))
     have z:∀ j,wr.cell? ⟨sg,j,none⟩=w.cell? ⟨sg,j,none⟩:=fun j=>hww.cell (p:=⟨sg,j,none⟩) hbg'
     rw [←z] at d0 d1 d2 d3 d4 d5 d6 d7
     clear z hst hit
     simp only [Value.slice.injEq,true_and] at hbv
     obtain⟨rfl,rfl⟩:=hbv
     have hj8:j*8≤2400:=by omega
     have hX:Below wr.heap.size wr (wr.alloc (.cells #[.int .i64 i.sort,.int .i64 i.line,.string i.word,.int .i64 i.a,.int .i64 i.b,.int .i64 i.c,.int .i64 i.n,.string i.nm] 135)):=(Below.refl _ _).alloc (Nat.le_refl _) _
     have hsz4:(wr.alloc (.cells #[.int .i64 i.sort,.int .i64 i.line,.string i.word,.int .i64 i.a,.int .i64 i.b,.int .i64 i.c,.int .i64 i.n,.string i.nm] 135)).heap.size=wr.heap.size+1:=by simp
     have q:∀ o,(wr.alloc (.cells #[.int .i64 i.sort,.int .i64 i.line,.string i.word,.int .i64 i.a,.int .i64 i.b,.int .i64 i.c,.int .i64 i.n,.string i.nm] 135)).cell? ⟨w1.heap.size,o,none⟩=W2.cell? ⟨w1.heap.size,o,none⟩:=fun o=>(hX.cell (p:=⟨w1.heap.size,o,none⟩) (by show w1.heap.size<_;omega)).trans (hbj.cell (p:=⟨w1.heap.size,o,none⟩) (by show w1.heap.size<_;omega))
     have H4:(wr.alloc (.cells #[.int .i64 i.sort,.int .i64 i.line,.string i.word,.int .i64 i.a,.int .i64 i.b,.int .i64 i.c,.int .i64 i.n,.string i.nm] 135)).cell? ⟨w1.heap.size,0,none⟩=some (.slice (some ⟨fg,0,none⟩) F.length capf)∧(wr.alloc (.cells #[.int .i64 i.sort,.int .i64 i.line,.string i.word,.int .i64 i.a,.int .i64 i.b,.int .i64 i.c,.int .i64 i.n,.string i.nm] 135)).cell? ⟨w1.heap.size,1,none⟩=some (.map (some pm))∧(wr.alloc (.cells #[.int .i64 i.sort,.int .i64 i.line,.string i.word,.int .i64 i.a,.int .i64 i.b,.int .i64 i.c,.int .i64 i.n,.string i.nm] 135)).cell? ⟨w1.heap.size,2,none⟩=some (.slice (some ⟨bg,0,none⟩) F.length cb)∧(wr.alloc (.cells #[.int .i64 i.sort,.int .i64 i.line,.string i.word,.int .i64 i.a,.int .i64 i.b,.int .i64 i.c,.int .i64 i.n,.string i.nm] 135)).cell? ⟨wr.heap.size,0,none⟩=some (.int .i64 i.sort)∧(wr.alloc (.cells #[.int .i64 i.sort,.int .i64 i.line,.string i.word,.int .i64 i.a,.int .i64 i.b,.int .i64 i.c,.int .i64 i.n,.string i.nm] 135)).cell? ⟨wr.heap.size,1,none⟩=some (.int .i64 i.line)∧(wr.alloc (.cells #[.int .i64 i.sort,.int .i64 i.line,.string i.word,.int .i64 i.a,.int .i64 i.b,.int .i64 i.c,.int .i64 i.n,.string i.nm] 135)).cell? ⟨wr.heap.size,2,none⟩=some (.string i.word)∧(wr.alloc (.cells #[.int .i64 i.sort,.int .i64 i.line,.string i.word,.int .i64 i.a,.int .i64 i.b,.int .i64 i.c,.int .i64 i.n,.string i.nm] 135)).cell? ⟨wr.heap.size,3,none⟩=some (.int .i64 i.a)∧(wr.alloc (.cells #[.int .i64 i.sort,.int .i64 i.line,.string i.word,.int .i64 i.a,.int .i64 i.b,.int .i64 i.c,.int .i64 i.n,.string i.nm] 135)).cell? ⟨wr.heap.size,4,none⟩=some (.int .i64 i.b)∧(wr.alloc (.cells #[.int .i64 i.sort,.int .i64 i.line,.string i.word,.int .i64 i.a,.int .i64 i.b,.int .i64 i.c,.int .i64 i.n,.string i.nm] 135)).cell? ⟨wr.heap.size,5,none⟩=some (.int .i64 i.c)∧(wr.alloc (.cells #[.int .i64 i.sort,.int .i64 i.line,.string i.word,.int .i64 i.a,.int .i64 i.b,.int .i64 i.c,.int .i64 i.n,.string i.nm] 135)).cell? ⟨wr.heap.size,6,none⟩=some (.int .i64 i.n)∧(wr.alloc (.cells #[.int .i64 i.sort,.int .i64 i.line,.string i.word,.int .i64 i.a,.int .i64 i.b,.int .i64 i.c,.int .i64 i.n,.string i.nm] 135)).cell? ⟨wr.heap.size,7,none⟩=some (.string i.nm) :=
      ⟨(q 0).trans p0,(q 1).trans p1,(q 2).trans p2,World.cell?_alloc_new (w:=wr) #[.int .i64 i.sort,.int .i64 i.line,.string i.word,.int .i64 i.a,.int .i64 i.b,.int .i64 i.c,.int .i64 i.n,.string i.nm] 135 0,World.cell?_alloc_new (w:=wr) #[.int .i64 i.sort,.int .i64 i.line,.string i.word,.int .i64 i.a,.int .i64 i.b,.int .i64 i.c,.int .i64 i.n,.string i.nm] 135 1,World.cell?_alloc_new (w:=wr) #[.int .i64 i.sort,.int .i64 i.line,.string i.word,.int .i64 i.a,.int .i64 i.b,.int .i64 i.c,.int .i64 i.n,.string i.nm] 135 2,World.cell?_alloc_new (w:=wr) #[.int .i64 i.sort,.int .i64 i.line,.string i.word,.int .i64 i.a,.int .i64 i.b,.int .i64 i.c,.int .i64 i.n,.string i.nm] 135 3,World.cell?_alloc_new (w:=wr) #[.int .i64 i.sort,.int .i64 i.line,.string i.word,.int .i64 i.a,.int .i64 i.b,.int .i64 i.c,.int .i64 i.n,.string i.nm] 135 4,World.cell?_alloc_new (w:=wr) #[.int .i64 i.sort,.int .i64 i.line,.string i.word,.int .i64 i.a,.int .i64 i.b,.int .i64 i.c,.int .i64 i.n,.string i.nm] 135 5,World.cell?_alloc_new (w:=wr) #[.int .i64 i.sort,.int .i64 i.line,.string i.word,.int .i64 i.a,.int .i64 i.b,.int .i64 i.c,.int .i64 i.n,.string i.nm] 135 6,World.cell?_alloc_new (w:=wr) #[.int .i64 i.sort,.int .i64 i.line,.string i.word,.int .i64 i.a,.int .i64 i.b,.int .i64 i.c,.int .i64 i.n,.string i.nm] 135 7⟩
     clear q
     have hown4:=hownj.alloc (.cells #[.int .i64 i.sort,.int .i64 i.line,.string i.word,.int .i64 i.a,.int .i64 i.b,.int .i64 i.c,.int .i64 i.n,.string i.nm] 135)
     have hB4:Below (w1.heap.size+1) W2 (wr.alloc (.cells #[.int .i64 i.sort,.int .i64 i.line,.string i.word,.int .i64 i.a,.int .i64 i.b,.int .i64 i.c,.int .i64 i.n,.string i.nm] 135)):=hbj.alloc (by omega) _
     have M4:=hM2.below hB4 (by omega)
     have hlow:=fun g (hg:cv2.ownBlock=some g)=>hownj.lt g hg
     have hn1:some w1.heap.size≠cv2.ownBlock:=fun e=>by have:=(hlow _ e.symm).1;omega
     have hn2:some wr.heap.size≠cv2.ownBlock:=fun e=>by have:=(hlow _ e.symm).2;omega
     go_wp2_with fail
     generalize wr.alloc (.cells #[.int .i64 i.sort,.int .i64 i.line,.string i.word,.int .i64 i.a,.int .i64 i.b,.int .i64 i.c,.int .i64 i.n,.string i.nm] 135)=W4 at hX hsz4 H4 hown4 hB4 M4
     have hcall:=hins W4.drew (M4.below ((Below.refl _ _).drew) (Nat.le_refl _))
     clear d0 d1 d2 d3 d4 d5 d6 d7 hins hownj
     go_region_held3 (fun W=>W.cell? ⟨w1.heap.size,0,none⟩=some (.slice (some ⟨fg,0,none⟩) F.length capf)∧W.cell? ⟨w1.heap.size,1,none⟩=some (.map (some pm))∧W.cell? ⟨w1.heap.size,2,none⟩=some (.slice (some ⟨bg,0,none⟩) F.length cb)∧W.cell? ⟨wr.heap.size,0,none⟩=some (.int .i64 i.sort)∧W.cell? ⟨wr.heap.size,1,none⟩=some (.int .i64 i.line)∧W.cell? ⟨wr.heap.size,2,none⟩=some (.string i.word)∧W.cell? ⟨wr.heap.size,3,none⟩=some (.int .i64 i.a)∧W.cell? ⟨wr.heap.size,4,none⟩=some (.int .i64 i.b)∧W.cell? ⟨wr.heap.size,5,none⟩=some (.int .i64 i.c)∧W.cell? ⟨wr.heap.size,6,none⟩=some (.int .i64 i.n)∧W.cell? ⟨wr.heap.size,7,none⟩=some (.string i.nm))
      (first
        | exact H4
        | exact H6
        | exact H5
        | exact H7)
      (first
        | (go_at_call 81;refine hcall.mono ?_;rintro e w5 ⟨rfl,hb5⟩;have H5:=zhd hb5 H4;have H6:=zhd ((Below.refl w5.heap.size w5).alloc (Nat.le_refl _) (.cells #[.iface (insT ins) (.agg (insA ins)),.int .i64 i.line] 140)) H5;have hs5:W4.heap.size≤w5.heap.size:=hb5.size;have hown5:=zbw (w:=W4.drew) hown4 hb5 (Nat.le_refl _))
        | (refine step_append_lies _ (by rfl) _ _ _ (by rfl) (w1.heap.size+1) 140 i0 _ 2 24 Tryz.under93 hi0 hz0 hz1 hz2 rfl (by omega) cv2 (T+j) (zbn ((zao F).take (T+j))) (by rfl) (hown5.alloc _)
            ⟨w5.heap.size,0,none⟩ 1 1 [.iface (insT ins) (.agg (insA ins)),.int .i64 i.line] (by rfl) (by rfl) (World.news_of_block (cs:=#[.iface (insT ins) (.agg (insA ins)),.int .i64 i.line]) (t:=140) (fr:=(0,0)) (heap_alloc_new w5 _)) (zwb _ _ rfl rfl)
            (by omega) (by unfold maxLen;omega) (by omega) (by simp;omega) (w5.heap.size+1) (by simp) ?_;intro g cap w6 hown6 hgrow hat hltg;have H7:=zlK hgrow hn1 hn2 H6))
     have hb45:Below (w1.heap.size+1) W2 w5:=hB4.drew.trans (hb5.mono (by show w1.heap.size+1≤W4.heap.size;omega))
     have hB6:Below (w1.heap.size+1) W2 w6:=(hb45.alloc (by omega) _).grown hgrow (by simp;omega) (fun g hg=>(hlow g hg).1)
     have hown7:w6.ownsRow (w1.heap.size+1) 140 2 (.slice (some ⟨g,0,none⟩) (T+j+1) cap) (T+j+1) (zbn ((zao F).take (T+j+1))):=by
      rw [HTK.out,zjn];exact hown6
     clear hown6 hgrow hown5 hown4 H4 H5 H6 H7 hcall hb5 M4
     go_wp2
     go_roundw
     case rel=>exact⟨j+1,_,by omega,by go_num,rfl,hown7,hB6⟩
     case measure=>simp [intOf];omega
    ·have hje:j=its.length:=by omega
     subst hje
     have hown7:wr.ownsRow (w1.heap.size+1) 140 2 cv2 (lenF (F.take (k+1))) (zbn ((zao F).take (lenF (F.take (k+1))))):=by
      rw [HT2.out];exact hownj
     clear hownj
     go_wp2
     go_roundw
     case rel=>exact⟨k+1,_,by omega,by go_num,rfl,hown7,hbj⟩
     case measure=>simp [intOf];omega
  ·have hke:k=F.length:=by omega
   subst hke
   rw [List.take_length,←hlenC,List.take_length] at hown
   obtain⟨g,cap,rfl,hg,hgl,hC⟩:=zte hown K.some_
   have hww:Below w.heap.size w wr:=hB02.trans (hbw.mono (by omega))
   clear hown
   go_wp2
   go_ret
   exact⟨g,cap,rfl,by omega,hgl,hC,hww⟩
end
namespace Sp
theorem zej{f:Mc→Mc}(I:Nat→Mc→Prop)(N:Nat)(hs:∀ k m,k<N→I k m→m.fin=0→I (k+1) (f m)):∀(n k:Nat) (m:Mc),k+n≤N→I k m→∃ k',I k' (runS f n m):=by
 intro n
 induction n with
 | zero=>intro k m _ h;exact⟨k,h⟩
 | succ n ih =>
  intro k m hk h
  by_cases h0:m.fin=0
  ·rw [zbO f n m h0]
   exact ih (k+1) (f m) (by omega) (hs k m (by omega) h h0)
  ·rw [zcl f _ m h0]
   exact⟨k,h⟩
theorem zpB{A:List Said}(R:List Said){i:Nat}(h:i<A.length)(h':i<(A++R).length):(A++R)[i]=A[i]:=List.getElem_append_left h
theorem zgp(A R:List Said)(i:Nat)(h:0≤zau A i):zau (A++R) i=zau A i:=by
 by_cases hi:i<A.length
 ·have hi2:i<(A++R).length:=by rw [List.length_append];omega
  have e:=zpB R hi hi2
  by_cases h1:A[i].kind=102
  ·rw [zjy A i hi h1] at h;omega
  ·by_cases h2:A[i].kind=105
   ·rw [zdz A i hi h2,zdz _ i hi2 (by rw [e];exact h2)]
   ·rw [zdm A i hi h1 h2] at h ⊢
    rw [zdm _ i hi2 (by rw [e];exact h1) (by rw [e];exact h2)]
    exact zgp A R (i+1) h
 ·rw [zha A i hi] at h;omega
termination_by A.length-i
theorem zuW(A R:List Said)(x:ByteArray)(i:Nat)(h:0≤zaY A x i):zaY (A++R) x i=zaY A x i:=by
 by_cases hi:i<A.length
 ·have hi2:i<(A++R).length:=by rw [List.length_append];omega
  have e:=zpB R hi hi2
  by_cases h1:A[i].kind=102
  ·rw [zfK A x i hi h1] at h;omega
  ·by_cases h2:zcF A[i] x=true
   ·rw [zcs A x i hi h1 h2,zcs _ x i hi2 (by rw [e];exact h1) (by rw [e];exact h2)]
   ·have h2':zcF A[i] x=false:=by simpa using h2
    rw [zbF A x i hi h1 h2'] at h ⊢
    rw [zbF _ x i hi2 (by rw [e];exact h1) (by rw [e];exact h2')]
    exact zuW A R x (i+1) h
 ·rw [zdT A x i hi] at h;omega
termination_by A.length-i
theorem zuX(A R:List Said)(k:Nat)(h:k<A.length):zdS (A++R) k=zdS A k:=by
 induction k with
 | zero=>unfold zdS;rw [List.getElem?_append_left h]
 | succ k ih=>unfold zdS;rw [List.getElem?_append_left h,ih (by omega)]
theorem zmL{A R:List Said}{k:Nat}{x:ByteArray}{n:Int}(hk:k<A.length)(h1:0≤zes A k x)(h2:zdV A k x=n)(h3:0≤n):zdV (A++R) k x=n:=by
 unfold zdV at h2 ⊢
 have e:zes (A++R) k x=zes A k x:=by
  unfold zes at h1 ⊢
  rw [zuX A R k hk,zuW A R x _ h1]
 rw [e,zgp A R _ (by rw [h2];exact h3),h2]
theorem zaL{A R:List Said}{p:Nat}{q:Said}{i:Ins}{nx:Int}(hq:A[p]?=some q)(hi:insQ (A++R) p q=i)(hn:zau A (p+1)=nx)(h0:0≤nx):zcP (A++R) p=some (i,nx):=by
 have hp:p<A.length:=by
  rcases Nat.lt_or_ge p A.length with h|h
  ·exact h
  ·rw [List.getElem?_eq_none h] at hq;cases hq
 unfold zcP
 rw [List.getElem?_append_left hp,hq,Option.map_some,hi,zgp A R (p+1) (by rw [hn];exact h0),hn]
theorem zhD{A R:List Said}{p:Nat}{x:ByteArray}{n:Int}(hk:p<A.length)(h1:0≤zes A p x)(h2:zdV A p x=n)(h3:0≤n):insQ (A++R) p ⟨105,[ba [106,117,109,112],x],true⟩=.jump n:=by
 have e:insQ (A++R) p ⟨105,[ba [106,117,109,112],x],true⟩=.jump (zdV (A++R) p x):=by kernel_rfl
 rw [e,zmL hk h1 h2 h3]
theorem zkO{A R:List Said}{p:Nat}{a b x:ByteArray}{n:Int}(hk:p<A.length)(h1:0≤zes A p x)(h2:zdV A p x=n)(h3:0≤n):insQ (A++R) p ⟨105,[ba [108,101,115,115],a,b,x],true⟩=.less (regN a) (regN b) n:=by
 have e:insQ (A++R) p ⟨105,[ba [108,101,115,115],a,b,x],true⟩=.less (regN a) (regN b) (zdV (A++R) p x):=by kernel_rfl
 rw [e,zmL hk h1 h2 h3]
abbrev zcC(t:Nat)(D:ByteArray):List Said:=zuS :: zo3 t D
theorem first_fn(t:Nat)(D:ByteArray)(R:List Said):zeu (endS t D R) 0=0:=by
 unfold zeu
 have:0<(endS t D R).length:=by show 0<(zuS :: (zo3 t D++R)).length;simp
 rw [dif_pos this,if_pos (by rfl)]
theorem zek(t:Nat)(D:ByteArray)(R:List Said){n:Int}(h:zau (zcC t D) 1=n)(h0:0≤n)(inp:List Int):zbL (endS t D R) inp=⟨n,[],inp,0,fun _=>0,fun _=>0,[],1,1,0⟩:=by
 unfold zbL
 rw [first_fn,show endS t D R=zcC t D++R from rfl,zgp _ R _ (by rw [h];exact h0),h]
theorem zo4{x y:Nat}(h:decide (x<y)=true):x<y:=of_decide_eq_true h
theorem zmM{x:Int}(h:decide (0≤x)=true):0≤x:=of_decide_eq_true h
theorem e0_1(D:ByteArray)(R:List Said):zcP (endS 0 D R) 1=some (.set 0 0,2):=zaL (A:=zcC 0 D) rfl (by kernel_rfl) (by kernel_rfl) (by decide)
theorem e0_2(D:ByteArray)(R:List Said):zcP (endS 0 D R) 2=some (.set 1 3,4):=zaL (A:=zcC 0 D) rfl (by kernel_rfl) (by kernel_rfl) (by decide)
theorem e0_4(D:ByteArray)(R:List Said):zcP (endS 0 D R) 4=some (.less 0 1 7,5):=zaL (A:=zcC 0 D) rfl ((zkO (n:=7) (zo4 (by kernel_rfl)) (zmM (by kernel_rfl)) (by kernel_rfl) (by decide)).trans (by kernel_rfl)) (by kernel_rfl) (by decide)
theorem e0_7(D:ByteArray)(R:List Said):zcP (endS 0 D R) 7=some (.inc 0 0,8):=zaL (A:=zcC 0 D) rfl (by kernel_rfl) (by kernel_rfl) (by decide)
theorem e0_8(D:ByteArray)(R:List Said):zcP (endS 0 D R) 8=some (.jump 4,10):=zaL (A:=zcC 0 D) rfl (zhD (zo4 (by kernel_rfl)) (zmM (by kernel_rfl)) (by kernel_rfl) (by decide)) (by kernel_rfl) (by decide)
theorem e1_2(D:ByteArray)(R:List Said):zcP (endS 1 D R) 2=some (.jump 2,4):=zaL (A:=zcC 1 D) rfl (zhD (zo4 (by kernel_rfl)) (zmM (by kernel_rfl)) (by kernel_rfl) (by decide)) (by kernel_rfl) (by decide)
theorem e2_1(D:ByteArray)(R:List Said):zcP (endS 2 D R) 1=some (.set 0 (zbc D).1,2):=zaL (A:=zcC 2 D) rfl (by kernel_rfl) (by kernel_rfl) (by decide)
theorem e2_2(D:ByteArray)(R:List Said):zcP (endS 2 D R) 2=some (.load 1 0,3):=zaL (A:=zcC 2 D) rfl (by kernel_rfl) (by kernel_rfl) (by decide)
theorem e3_1(D:ByteArray)(R:List Said):zcP (endS 3 D R) 1=some (.set 0 (zbc D).1,2):=zaL (A:=zcC 3 D) rfl (by kernel_rfl) (by kernel_rfl) (by decide)
theorem e3_2(D:ByteArray)(R:List Said):zcP (endS 3 D R) 2=some (.store 0 1,3):=zaL (A:=zcC 3 D) rfl (by kernel_rfl) (by kernel_rfl) (by decide)
theorem e5_1(D:ByteArray)(R:List Said):zcP (endS 5 D R) 1=some (.set 0 1,2):=zaL (A:=zcC 5 D) rfl (by kernel_rfl) (by kernel_rfl) (by decide)
theorem e5_2(D:ByteArray)(R:List Said):zcP (endS 5 D R) 2=some (.set 1 0,4):=zaL (A:=zcC 5 D) rfl (by kernel_rfl) (by kernel_rfl) (by decide)
theorem e5_4(D:ByteArray)(R:List Said):zcP (endS 5 D R) 4=some (.less 1 0 7,5):=zaL (A:=zcC 5 D) rfl ((zkO (n:=7) (zo4 (by kernel_rfl)) (zmM (by kernel_rfl)) (by kernel_rfl) (by decide)).trans (by kernel_rfl)) (by kernel_rfl) (by decide)
theorem e5_7(D:ByteArray)(R:List Said):zcP (endS 5 D R) 7=some (.read 0,8):=zaL (A:=zcC 5 D) rfl (by kernel_rfl) (by kernel_rfl) (by decide)
theorem e5_8(D:ByteArray)(R:List Said):zcP (endS 5 D R) 8=some (.alu 0 0 0 1,9):=zaL (A:=zcC 5 D) rfl (by kernel_rfl) (by kernel_rfl) (by decide)
theorem e5_9(D:ByteArray)(R:List Said):zcP (endS 5 D R) 9=some (.set 0 1,10):=zaL (A:=zcC 5 D) rfl (by kernel_rfl) (by kernel_rfl) (by decide)
theorem zAe(D:ByteArray)(R:List Said):zcP (endS 5 D R) 10=some (.jump 4,12):=zaL (A:=zcC 5 D) rfl (zhD (zo4 (by kernel_rfl)) (zmM (by kernel_rfl)) (by kernel_rfl) (by decide)) (by kernel_rfl) (by decide)
theorem e6_1(D:ByteArray)(R:List Said):zcP (endS 6 D R) 1=some (.set 0 0,2):=zaL (A:=zcC 6 D) rfl (by kernel_rfl) (by kernel_rfl) (by decide)
theorem e6_2(D:ByteArray)(R:List Said):zcP (endS 6 D R) 2=some (.set 1 9223372036854775807,4):=zaL (A:=zcC 6 D) rfl (by kernel_rfl) (by kernel_rfl) (by decide)
theorem e6_4(D:ByteArray)(R:List Said):zcP (endS 6 D R) 4=some (.less 0 1 7,5):=zaL (A:=zcC 6 D) rfl ((zkO (n:=7) (zo4 (by kernel_rfl)) (zmM (by kernel_rfl)) (by kernel_rfl) (by decide)).trans (by kernel_rfl)) (by kernel_rfl) (by decide)
theorem e6_7(D:ByteArray)(R:List Said):zcP (endS 6 D R) 7=some (.inc 0 1,8):=zaL (A:=zcC 6 D) rfl (by kernel_rfl) (by kernel_rfl) (by decide)
theorem e6_8(D:ByteArray)(R:List Said):zcP (endS 6 D R) 8=some (.jump 4,10):=zaL (A:=zcC 6 D) rfl (zhD (zo4 (by kernel_rfl)) (zmM (by kernel_rfl)) (by kernel_rfl) (by decide)) (by kernel_rfl) (by decide)
theorem e4_1(D:ByteArray)(R:List Said):zcP (endS 4 D R) 1=some (.call 1,2):=by
 refine zaL (A:=zcC 4 D) rfl ?_ (by kernel_rfl) (by decide)
 have e:insQ (zcC 4 D++R) 1 ⟨105,[ba [99,97,108,108],ba zhs],true⟩=.call (fnTo (zcC 4 D++R) (ba zhs)):=by kernel_rfl
 have h:zb3 (zcC 4 D++R) (ba zhs) 0=0:=zdg _ _ 0 (by simp) (by show isFn zuS (ba zhs)=true;kernel_rfl)
 refine e.trans ?_
 unfold fnTo
 rw [h,show((0:Int)+1).toNat=1 from rfl,zgp _ R 1 (zmM (by kernel_rfl))]
 kernel_rfl
def zgq(m:Mc):Prop:=¬m.fin=1∧¬m.fin=2
def In0(m:Mc):Prop:=m.fin=0∧(m.at'=1∨(m.at'=2∧m.regs 0=0)∨((m.at'=4∨m.at'=7∨m.at'=8)∧m.regs 0=0∧m.regs 1=3))
theorem zzQ(D:ByteArray)(R:List Said)(m:Mc)(h:In0 m):In0 (zc9 (endS 0 D R) m):=by
 obtain⟨hf,h|⟨h,h0⟩|⟨h|h|h,h0,h1⟩⟩:=h
 ·rw [zaK (p:=1) h (e0_1 D R)]
  exact⟨hf,.inr (.inl ⟨rfl,by simp [exec,Mc.goes,upd]⟩)⟩
 ·rw [zaK (p:=2) h (e0_2 D R)]
  exact⟨hf,.inr (.inr ⟨.inl rfl,by simp [exec,Mc.goes,upd,h0],by simp [exec,Mc.goes,upd]⟩)⟩
 ·rw [zaK (p:=4) h (e0_4 D R)]
  refine⟨hf,.inr (.inr ⟨.inr (.inl ?_),h0,h1⟩)⟩
  show(if m.regs 0<m.regs 1 then(7:Int) else 5)=7
  rw [h0,h1];rfl
 ·rw [zaK (p:=7) h (e0_7 D R)]
  refine⟨hf,.inr (.inr ⟨.inr (.inr rfl),?_,by simp [exec,Mc.goes,upd,h1]⟩)⟩
  show upd m.regs 0 (w64 (m.regs 0+0)) 0=0
  rw [zdU,h0];rfl
 ·rw [zaK (p:=8) h (e0_8 D R)]
  exact⟨hf,.inr (.inr ⟨.inl rfl,h0,h1⟩)⟩
theorem zyS(D:ByteArray)(R:List Said):zgq (runS (zc9 (endS 0 D R)) 100000 (zbL (endS 0 D R) [])):=by
 obtain⟨_,h⟩:=zej (f:=zc9 (endS 0 D R)) (fun _ m=>In0 m) 100000 (fun k m _ h _=>zzQ D R m h) 100000 0 (zbL (endS 0 D R) []) (by omega) (by
  rw [zek 0 D R (n:=1) (by kernel_rfl) (by decide)]
  exact⟨rfl,.inl rfl⟩)
 exact⟨by rw [h.1];decide,by rw [h.1];decide⟩
theorem zyT(D:ByteArray)(R:List Said):zgq (runS (zc9 (endS 1 D R)) 100000 (zbL (endS 1 D R) [])):=by
 obtain⟨_,h⟩:=zej (f:=zc9 (endS 1 D R)) (fun _ m=>m.fin=0∧m.at'=2) 100000 (fun k m _ h _=>by
  rw [zaK (p:=2) h.2 (e1_2 D R)]
  exact⟨h.1,rfl⟩) 100000 0 (zbL (endS 1 D R) []) (by omega) (by
  rw [zek 1 D R (n:=2) (by kernel_rfl) (by decide)]
  exact⟨rfl,rfl⟩)
 exact⟨by rw [h.1];decide,by rw [h.1];decide⟩
theorem zyU(D:ByteArray)(R:List Said)(hD:(zbc D).1<0∨15<(zbc D).1):zgq (runS (zc9 (endS 2 D R)) 100000 (zbL (endS 2 D R) [])):=by
 obtain⟨_,h⟩:=zej (f:=zc9 (endS 2 D R)) (fun _ m=>zgq m∧(m.fin=0→(m.at'=1∨(m.at'=2∧m.regs 0=(zbc D).1)))) 100000 (fun k m _ h h0=>by
  rcases h.2 h0 with h1|⟨h1,h2⟩
  ·rw [zaK (p:=1) h1 (e2_1 D R)]
   exact⟨h.1,fun _=>.inr ⟨rfl,by simp [exec,Mc.goes,upd]⟩⟩
  ·rw [zaK (p:=2) h1 (e2_2 D R)]
   show zgq (if m.regs 0<0∨15<m.regs 0 then _ else _)∧((if m.regs 0<0∨15<m.regs 0 then _ else _:Mc).fin=0→_)
   rw [if_pos (by rw [h2];exact hD)]
   exact⟨⟨(by decide:¬(3:Int)=1),(by decide:¬(3:Int)=2)⟩,fun e=>absurd (show(3:Int)=0 from e) (by decide)⟩) 100000 0 (zbL (endS 2 D R) []) (by omega) (by
  rw [zek 2 D R (n:=1) (by kernel_rfl) (by decide)]
  exact⟨⟨(by decide:¬(0:Int)=1),(by decide:¬(0:Int)=2)⟩,fun _=>.inl rfl⟩)
 exact h.1
theorem zyV(D:ByteArray)(R:List Said)(hD:(zbc D).1<0∨15<(zbc D).1):zgq (runS (zc9 (endS 3 D R)) 100000 (zbL (endS 3 D R) [])):=by
 obtain⟨_,h⟩:=zej (f:=zc9 (endS 3 D R)) (fun _ m=>zgq m∧(m.fin=0→(m.at'=1∨(m.at'=2∧m.regs 0=(zbc D).1)))) 100000 (fun k m _ h h0=>by
  rcases h.2 h0 with h1|⟨h1,h2⟩
  ·rw [zaK (p:=1) h1 (e3_1 D R)]
   exact⟨h.1,fun _=>.inr ⟨rfl,by simp [exec,Mc.goes,upd]⟩⟩
  ·rw [zaK (p:=2) h1 (e3_2 D R)]
   show zgq (if m.regs 0<0∨15<m.regs 0 then _ else _)∧((if m.regs 0<0∨15<m.regs 0 then _ else _:Mc).fin=0→_)
   rw [if_pos (by rw [h2];exact hD)]
   exact⟨⟨(by decide:¬(3:Int)=1),(by decide:¬(3:Int)=2)⟩,fun e=>absurd (show(3:Int)=0 from e) (by decide)⟩) 100000 0 (zbL (endS 3 D R) []) (by omega) (by
  rw [zek 3 D R (n:=1) (by kernel_rfl) (by decide)]
  exact⟨⟨(by decide:¬(0:Int)=1),(by decide:¬(0:Int)=2)⟩,fun _=>.inl rfl⟩)
 exact h.1
theorem zyW(D:ByteArray)(R:List Said):zgq (runS (zc9 (endS 4 D R)) 100000 (zbL (endS 4 D R) [])):=by
 obtain⟨_,h⟩:=zej (f:=zc9 (endS 4 D R)) (fun _ m=>zgq m∧(m.fin=0→m.at'=1)) 100000 (fun k m _ h h0=>by
  rw [zaK (p:=1) (h.2 h0) (e4_1 D R)]
  show zgq (if m.frames=16 then _ else _)∧((if m.frames=16 then _ else _:Mc).fin=0→(if m.frames=16 then _ else _:Mc).at'=1)
  split
  ·exact⟨⟨(by decide:¬(4:Int)=1),(by decide:¬(4:Int)=2)⟩,fun e=>absurd (show(4:Int)=0 from e) (by decide)⟩
  ·exact⟨h.1,fun _=>rfl⟩) 100000 0 (zbL (endS 4 D R) []) (by omega) (by
  rw [zek 4 D R (n:=1) (by kernel_rfl) (by decide)]
  exact⟨⟨(by decide:¬(0:Int)=1),(by decide:¬(0:Int)=2)⟩,fun _=>rfl⟩)
 exact h.1
def In5(m:Mc):Prop:=m.fin=0∧(m.at'=1∨(m.at'=2∧m.regs 0=1)∨((m.at'=4∨m.at'=7∨m.at'=10)∧m.regs 0=1∧m.regs 1=0)∨((m.at'=8∨m.at'=9)∧m.regs 1=0))
theorem zzR(D:ByteArray)(R:List Said)(m:Mc)(h:In5 m):In5 (zc9 (endS 5 D R) m):=by
 obtain⟨hf,h|⟨h,h0⟩|⟨h|h|h,h0,h1⟩|⟨h|h,h1⟩⟩:=h
 ·rw [zaK (p:=1) h (e5_1 D R)]
  exact⟨hf,.inr (.inl ⟨rfl,by simp [exec,Mc.goes,upd]⟩)⟩
 ·rw [zaK (p:=2) h (e5_2 D R)]
  exact⟨hf,.inr (.inr (.inl ⟨.inl rfl,by simp [exec,Mc.goes,upd,h0],by simp [exec,Mc.goes,upd]⟩))⟩
 ·rw [zaK (p:=4) h (e5_4 D R)]
  refine⟨hf,.inr (.inr (.inl ⟨.inr (.inl ?_),h0,h1⟩))⟩
  show(if m.regs 1<m.regs 0 then(7:Int) else 5)=7
  rw [h0,h1];rfl
 ·rw [zaK (p:=7) h (e5_7 D R)]
  exact⟨hf,.inr (.inr (.inr ⟨.inl rfl,by simp [exec,Mc.goes,upd,h1]⟩))⟩
 ·rw [zaK (p:=10) h (zAe D R)]
  exact⟨hf,.inr (.inr (.inl ⟨.inl rfl,h0,h1⟩))⟩
 ·rw [zaK (p:=8) h (e5_8 D R)]
  exact⟨hf,.inr (.inr (.inr ⟨.inr rfl,by simp [exec,Mc.goes,upd,h1]⟩))⟩
 ·rw [zaK (p:=9) h (e5_9 D R)]
  exact⟨hf,.inr (.inr (.inl ⟨.inr (.inr rfl),by simp [exec,Mc.goes,upd],by simp [exec,Mc.goes,upd,h1]⟩))⟩
theorem zyX(D:ByteArray)(R:List Said):zgq (runS (zc9 (endS 5 D R)) 100000 (zbL (endS 5 D R) [])):=by
 obtain⟨_,h⟩:=zej (f:=zc9 (endS 5 D R)) (fun _ m=>In5 m) 100000 (fun k m _ h _=>zzR D R m h) 100000 0 (zbL (endS 5 D R) []) (by omega) (by
  rw [zek 5 D R (n:=1) (by kernel_rfl) (by decide)]
  exact⟨rfl,.inl rfl⟩)
 exact⟨by rw [h.1];decide,by rw [h.1];decide⟩
def In6(k:Nat)(m:Mc):Prop:=m.fin=0∧(m.at'=1∨(m.at'=2∧m.regs 0=0)∨((m.at'=4∨m.at'=7∨m.at'=8)∧0≤m.regs 0∧m.regs 0≤(k:Int)∧m.regs 1=9223372036854775807))
theorem zzS(D:ByteArray)(R:List Said)(k:Nat)(m:Mc)(hk:k<100000)(h:In6 k m):In6 (k+1) (zc9 (endS 6 D R) m):=by
 obtain⟨hf,h|⟨h,h0⟩|⟨h|h|h,h0,h2,h1⟩⟩:=h
 ·rw [zaK (p:=1) h (e6_1 D R)]
  exact⟨hf,.inr (.inl ⟨rfl,by simp [exec,Mc.goes,upd]⟩)⟩
 ·rw [zaK (p:=2) h (e6_2 D R)]
  have e:upd m.regs 1 9223372036854775807 0=0:=by simp [upd,h0]
  exact⟨hf,.inr (.inr ⟨.inl rfl,by show 0≤upd m.regs 1 9223372036854775807 0;omega,by show upd m.regs 1 9223372036854775807 0≤_;omega,by simp [exec,Mc.goes,upd]⟩)⟩
 ·rw [zaK (p:=4) h (e6_4 D R)]
  refine⟨hf,.inr (.inr ⟨.inr (.inl ?_),h0,by show m.regs 0≤_;omega,h1⟩)⟩
  show(if m.regs 0<m.regs 1 then(7:Int) else 5)=7
  rw [h1,if_pos (by omega)]
 ·rw [zaK (p:=7) h (e6_7 D R)]
  have e:upd m.regs 0 (w64 (m.regs 0+1)) 0=m.regs 0+1:=by rw [zdU];unfold w64;omega
  exact⟨hf,.inr (.inr ⟨.inr (.inr rfl),by show 0≤upd m.regs 0 (w64 (m.regs 0+1)) 0;omega,by show upd m.regs 0 (w64 (m.regs 0+1)) 0≤_;omega,by simp [exec,Mc.goes,upd,h1]⟩)⟩
 ·rw [zaK (p:=8) h (e6_8 D R)]
  exact⟨hf,.inr (.inr ⟨.inl rfl,h0,by show m.regs 0≤_;omega,h1⟩)⟩
theorem zyY(D:ByteArray)(R:List Said):zgq (runS (zc9 (endS 6 D R)) 100000 (zbL (endS 6 D R) [])):=by
 obtain⟨_,h⟩:=zej (f:=zc9 (endS 6 D R)) In6 100000 (fun k m hk h _=>zzS D R k m hk h) 100000 0 (zbL (endS 6 D R) []) (by omega) (by
  rw [zek 6 D R (n:=1) (by kernel_rfl) (by decide)]
  exact⟨rfl,.inl rfl⟩)
 exact⟨by rw [h.1];decide,by rw [h.1];decide⟩
theorem zzT(t:Nat)(ht:t<7)(D:ByteArray)(R:List Said)(hD:t=2∨t=3→(zbc D).1<0∨15<(zbc D).1):zgq (runS (zc9 (endS t D R)) 100000 (zbL (endS t D R) [])):=by
 have h:t=0∨t=1∨t=2∨t=3∨t=4∨t=5∨t=6:=by omega
 rcases h with rfl|rfl|rfl|rfl|rfl|rfl|rfl
 ·exact zyS D R
 ·exact zyT D R
 ·exact zyU D R (hD (.inl rfl))
 ·exact zyV D R (hD (.inr rfl))
 ·exact zyW D R
 ·exact zyX D R
 ·exact zyY D R
end Sp
end Go.Proofs.YtfpgjkbjbbgciaaGreatDoor
