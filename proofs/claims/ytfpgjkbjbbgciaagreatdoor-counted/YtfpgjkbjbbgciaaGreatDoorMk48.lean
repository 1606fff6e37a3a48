import Derived.Test.YtfpgjkbjbbgciaaGreatDoorMk46
set_option maxRecDepth 100000
set_option maxHeartbeats 8000000
namespace Go.Proofs.YtfpgjkbjbbgciaaGreatDoor
section
open Go.RowKit Sp
attribute [local go_sem ↓] Go.wp_at_zero Go.wp_at_succ
theorem zsi(A:List Ln)(G:List (List Ln)):zdK (A :: G)=zdq ((zds G.length :: (A++[zbZ])).map Ln.bytes)++zdK G:=by
 unfold zdK;show zdq (((zds G.length :: (A++[zbZ]))++lnsT G).map Ln.bytes)=_;rw [List.map_append,zmL]
theorem zsj(ls:List (List UInt8))(l:List UInt8):zdq (ls++[l])=zdq ls++l++[10]:=by
 rw [zmL];simp [zdq]
theorem zsk(ls:List (List UInt8))(h:∀ l∈ls,l.length≤200):(zdq ls).length≤ls.length*201:=by
 induction ls with
 | nil=>exact Nat.le_refl _
 | cons l t ih =>
  have h1:=ih (fun x hx=>h x (List.mem_cons_of_mem _ hx));have h2:=h l List.mem_cons_self;rw [zkm,List.length_append,List.length_cons,List.length_cons,Nat.add_mul];omega
theorem zsl(k:Nat)(h:k≤1000000):(zds k).bytes.length≤200:=by
 have:=zeP 6 k (by omega);simp [Ln.bytes,Ln.blank,zds,zc8,fnW];omega
theorem zvs{k:Nat}{D:ByteArray}(h:Hid (D=ba (digL (k:Int)))):(⟨#[102,117,110,99,32,102]⟩:ByteArray)++D++(⟨#[10]⟩:ByteArray)=ba (zdq ((zds k :: ([]:List Ln)).map Ln.bytes)):=by
 rw [show D=_ from h,show digL (k:Int)=decL k by unfold digL;rw [if_neg (by omega)];rfl];have e:(⟨#[102,117,110,99,32,102]⟩:ByteArray)=ba [102,117,110,99,32,102]:=rfl;have a:(⟨#[10]⟩:ByteArray)=ba [10]:=rfl;rw [e,a];simp only [zeg];refine congrArg ba ?_;simp [Ln.bytes,Ln.blank,zc8,zds,fnW,zdq]
theorem zvt{k i:Nat}{L:List Ln}(hi:i<L.length):ba (zdq ((zds k :: L.take i).map Ln.bytes))++ba (L[i]).bytes++(⟨#[10]⟩:ByteArray)=ba (zdq ((zds k :: L.take (i+1)).map Ln.bytes)):=by
 have e2:(⟨#[10]⟩:ByteArray)=ba [10]:=rfl;rw [e2];simp only [zeg];refine congrArg ba ?_;rw [List.take_succ_eq_append_getElem hi,←List.cons_append,List.map_append,List.map_singleton,zsj]
theorem zmZ{k i:Nat}{L:List Ln}(hk:k≤1000000)(hL:∀ l∈L,l.bytes.length≤200)(hl:L.length≤1300):(ba (zdq ((zds k :: L.take i).map Ln.bytes))).size≤300000:=by
 have h:=zsk ((zds k :: L.take i).map Ln.bytes) (fun l hl=>by
  obtain⟨x,b,rfl⟩:=List.mem_map.1 hl;rcases List.mem_cons.1 b with e|e
  ·rw [e];exact zsl k hk
  ·exact hL x (List.mem_of_mem_take e))
 have a:((zds k :: L.take i).map Ln.bytes).length≤1301:=by simp;omega
 have h3:=Nat.mul_le_mul_right 201 a;show(zdq _).length≤_;omega
def accS(k:Nat)(L:List Ln)(i:Nat):ByteArray:=ba (zdq ((zds k :: L.take i).map Ln.bytes))
def lnS(L:List Ln)(i:Nat):ByteArray:=if h:i<L.length then ba (L[i]).bytes else ByteArray.empty
theorem zvu{k i:Nat}{L:List Ln}(hi:i<L.length):accS k L i++lnS L i++(⟨#[10]⟩:ByteArray)=accS k L (i+1):=by
 unfold accS lnS;rw [dif_pos hi];exact zvt hi
theorem zxI{L:List Ln}{i:Nat}(hL:∀ l∈L,l.bytes.length≤200):(lnS L i).size≤200:=by
 unfold lnS;split
 ·rename_i h;exact hL _ (List.getElem_mem h)
 ·exact Nat.zero_le _
theorem zqa(A:List Ln)(G:List (List Ln)):accS G.length (A++[zbZ]) (A++[zbZ]).length++ba (zdK G)=ba (zdK (A :: G)):=by
 unfold accS;rw [List.take_length,zsi,zeg]
theorem KnRow.fr{B:Nat}{w w':World}{b px:Nat}{cv:Value}{code:List Int}{S:Wst}{k:Nat}{V V':Nat→Value}{v:Value}{nk:Nat}{fs:Nat→Fw}(h:KnRow B w v nk fs)(M:WrM B w b px cv code S k V)(f:Fr b px w V w' V'):KnRow B w' v nk fs:=by
 obtain⟨i,a,d⟩:=h;refine⟨i,zaj a (fun g hg=>f.keep g (a.lt g hg).2 (fun hm=>?_)),d⟩;rcases hm with e|e|e|e
 ·exact zcp a M.blk.kb (by decide) g hg e
 ·exact zcp a M.blk.di.kx (by decide) g hg e
 ·rcases zcL a M.lines (by decide) with q|q
  ·rw [q] at hg;cases hg
  ·exact q (hg.trans e.symm)
 ·rcases zcL a M.counts (by decide) with q|q
  ·rw [q] at hg;cases hg
  ·exact q (hg.trans e.symm)
theorem KnRow.below{B:Nat}{w w':World}{v:Value}{nk:Nat}{fs:Nat→Fw}(h:KnRow B w v nk fs)(hb:Below w.heap.size w w'):KnRow B w' v nk fs:=by
 obtain⟨c,a,b⟩:=h;exact⟨c,zaj a (fun g hg=>hb.block g (a.lt g hg).2),b⟩
theorem DiM.grew{B:Nat}{w w6:World}{px:Nat}{cv:Value}{code:List Int}{k:Nat}{v:Value}{nk:Nat}{xs:List Value}{o:Obj}(D:DiM B w px cv code k)(h1:w.ownsRow B 113 10 v nk xs)(hg:(w.alloc o).drew.grownBy w6 v.ownBlock)(hB:B≤w.heap.size):DiM B w6 px cv code k∧Below B w w6:=by
 have a:w.grownBy w6 v.ownBlock:=(World.grownBy_alloc w o v.ownBlock).trans ⟨hg.os,hg.tape,hg.output,hg.size,hg.block⟩;have b:Below B w w6:=zeR a (fun g e=>(h1.lt g e).1) hB;exact⟨D.block b (a.block px D.lt (fun e=>zcp h1 D.kx (by decide) px e.symm rfl)),b⟩
def updF(fs:Nat→Fw)(n:Nat)(F:Fw):Nat→Fw:=fun j=>if j=n then F else fs j
theorem zdM(fs:Nat→Fw)(n:Nat)(F:Fw):updF fs n F n=F:=if_pos rfl
theorem zeS(fs:Nat→Fw){n j:Nat}(F:Fw)(h:¬j=n):updF fs n F j=fs j:=if_neg h
theorem KnRow.more{B:Nat}{w4:World}{v4:Value}{nk:Nat}{fs:Nat→Fw}{F:Fw}(hz:F.wt≤(nk+1)*2147483648)(hf:F.fr≤nk+1)(hf1:1≤F.fr)(hg8:∀ r,8≤r→F.gv r=false){xs:List Value}(h1:∀ j,j<nk→FwAt xs j (fs j))(hx:xs.length=nk*10)
  (h4:w4.ownsRow B 113 10 v4 (nk+1) (xs++[.int .i64 (F.wt:Int),.bool (F.gv 0),.bool (F.gv 1),.bool (F.gv 2),.bool (F.gv 3),.bool (F.gv 4),.bool (F.gv 5),.bool (F.gv 6),.bool (F.gv 7),.int .i64 (F.fr:Int)])):KnRow B w4 v4 (nk+1) (updF fs nk F):=by
 refine⟨_,h4,fun j hj=>?_⟩;by_cases d:j<nk
 ·rw [zeS _ _ (by omega)];have h:=h1 j d;exact⟨by rw [List.getElem?_append_left (by omega)];exact h.z,h.zb,fun i hi=>by rw [List.getElem?_append_left (by omega)];exact h.g i hi,h.g8,by rw [List.getElem?_append_left (by omega)];exact h.f,h.fb,h.f1⟩
 ·have c:j=nk:=by omega
  subst c;rw [zdM];refine⟨by rw [List.getElem?_append_right (by omega),show j*10-xs.length=0 by omega];rfl,hz,fun i hi=>?_,hg8,by rw [List.getElem?_append_right (by omega),show j*10+9-xs.length=9 by omega];rfl,hf,hf1⟩;rw [List.getElem?_append_right (by omega),show j*10+(1+i)-xs.length=1+i by omega];have b:i=0∨i=1∨i=2∨i=3∨i=4∨i=5∨i=6∨i=7:=by omega
  rcases b with rfl|rfl|rfl|rfl|rfl|rfl|rfl|rfl <;> rfl
def WroteS(fs:Nat→Fw):List (List Ln)→Prop
 | []=>True
 | A :: r=>((fs r.length).wt<1073741824→Sq r.length fs (fun _=>false) [] A (fs r.length).wt (fs r.length).gv (fs r.length).fr)∧1≤(fs r.length).fr∧(fs r.length).fr≤r.length+1∧WroteS fs r
theorem WroteS.congr{fs fs':Nat→Fw}{G:List (List Ln)}(h:WroteS fs G)(e:∀ j,j<G.length→fs' j=fs j):WroteS fs' G:=by
 induction G with
 | nil=>trivial
 | cons A r ih =>
  obtain⟨a,b,c,d⟩:=h;have er:=e r.length (by simp);refine⟨fun hw=>?_,by rw [er];exact b,by rw [er];exact c,ih d (fun j hj=>e j (by simp;omega))⟩;rw [er] at hw ⊢;exact(a hw).congr (fun j hj=>e j (by simp;omega))
theorem WroteS.cons{fs:Nat→Fw}{G:List (List Ln)}{A:List Ln}{F:Fw}(h:WroteS fs G)(hq:F.wt<1073741824→Sq G.length fs (fun _=>false) [] A F.wt F.gv F.fr)(h1:1≤F.fr)(h2:F.fr≤G.length+1):WroteS (updF fs G.length F) (A :: G):=by
 refine⟨fun hw=>?_,by rw [zdM];exact h1,by rw [zdM];exact h2,h.congr (fun j hj=>zeS _ _ (by omega))⟩;rw [zdM] at hw ⊢;exact(hq hw).congr (fun j hj=>zeS _ _ (by omega))
theorem zlk{B:Nat}{w:World}{px:Nat}{cv:Value}{code:List Int}{k:Nat}(h:DiM B w px cv code k)(hB:B≤w.heap.size)(n:Int)(hn:0<n):
  Calls Tryz.prog 41 #[.pointer (some ⟨px,0,none⟩),.int .i64 n] w fun e w'=>∃ c:Nat,e=.returned (.int .i64 (c:Int))∧(c:Int)<n∧(∃ k2,DiM B w' px cv code k2)∧Below B w w'∧w.grownBy w' (some px):=by
 refine(ze5 h n hn).mono ?_;rintro e w' ⟨c,f,b,k2,d,a⟩;exact⟨c,f,b,⟨k2,d⟩,zeR a (fun g e=>by cases e;exact h.hB) hB,a⟩
def zAp:Prop:=∀(B:Nat) (w:World) (b px:Nat) (cv:Value) (code:List Int) (S:Wst) (k:Nat) (V:Nat→Value),WrM B w b px cv code S k V→S.deep=0→(∀ i,S.held i=false)→S.lines=[]→S.labels=0→S.nk≤100→S.counts=[] →
 Calls Tryz.prog 60 #[.pointer (some ⟨b,0,none⟩)] w fun e w'=>∃ n:Nat,(e=.returned (.int .i64 (n:Int))∧n≤1073741824)∧PcPost B w b px cv code V S 1268 252 w' n
def zvv:Prop:=∀(B:Nat) (w:World) (b px:Nat) (cv:Value) (code:List Int) (S:Wst) (k:Nat) (V:Nat→Value),WrM B w b px cv code S k V→(∀ i,S.held i=false)→S.lines.length≤10000→S.nk≤100 →
 Calls Tryz.prog 61 #[.pointer (some ⟨b,0,none⟩)] w fun e w'=>∃ n:Nat,(e=.returned (.int .i64 (n:Int))∧n≤S.nk*2147483648+2)∧PcPost B w b px cv code V S 2 0 w' n
end
section
open Go.RowKit Sp
def ze3:ByteArray:=⟨#[102,117,110,99,32,102,10,98,97,99,107]⟩
def zkk:List Said:=(lines ze3).map say
theorem zgH:zcm ze3=(0,0):=by kernel_rfl
theorem zrR:zkk.length=2:=by kernel_rfl
theorem zxn:(zkk[0]?).map (·.kind)=some 102:=by kernel_rfl
theorem zxo:(zkk[1]?).map zdQ=some ⟨#[98,97,99,107]⟩:=by kernel_rfl
theorem zrS:cnt zkk 1=0:=by kernel_rfl
theorem zrT{F:List FnM}(R:Right zkk F):∃ ln,zao F=[(.back,ln)]:=by
 have i:∀ p (hp:p<(zao F).length),p=0∧(zao F)[p].1=.back:=fun p hp=>by
  rw [zdF] at hp;obtain⟨k,f,m,d,t,v,rfl⟩:=zkF F p hp;have o:=zfV F 0 F k f t m d v;rw [Nat.zero_add] at o;have w:(zao F)[lenF (F.take k)+m]?=some (insM F k d,d.line):=o;obtain⟨j,s,h5,g,hc,_⟩:=R.it_at t v;have l:j=1:=by
   have u:=zrR;have h0:¬j=0:=fun e=>by
    subst e;have:=zxn;rw [List.getElem?_eq_getElem s] at this;simp only [Option.map_some,Option.some.injEq] at this;omega
   omega
  subst l;have hw:d.word=zdQ zkk[1]:=congrArg Key.word g;have r:=zxo;rw [List.getElem?_eq_getElem s,Option.map_some,Option.some.injEq] at r;refine⟨by rw [hc];exact zrS,?_⟩;rw [(List.getElem?_eq_some_iff.1 w).2];show insX d.word d.a d.b d.c d.n _ _=.back;rw [hw,r];exact zfU _ _ _ _ _ _
 have x:=R.codeOk.some_;have u:(zao F).length=1:=by
  by_cases h:1<(zao F).length
  ·have:=(i 1 h).1;omega
  ·omega
 obtain⟨q,hq⟩:=List.length_eq_one_iff.1 u;have:=(i 0 x).2;simp only [hq] at this;refine⟨q.2,?_⟩;rw [hq];have e:q.1=.back:=by simpa using this
 rw [←e]
theorem zrU{ln:Int}:Verd [(.back,ln)] (some (1,1)):=by
 have a:TakeD [kn0] kn0 []:=⟨.one (List.Perm.refl _) (fun y hy=>by cases hy),fun y hy=>by cases hy⟩
 refine⟨⟨[],1,rsk0.see kn0,1,1⟩,.step .zero ⟨kn0,[],[],0,by simp,by show 0<500000;omega,by show 1≤1000;omega,a,by show ¬(0:Int)=100000;omega,?_,rfl,rfl,List.Perm.refl _,rfl,rfl,rfl⟩,rfl,rfl,rfl⟩;show rsk0.endless kn0=some (rsk0.see kn0);exact if_pos rfl
theorem zjh:VerdL ((lines ze3).map say) (some (1,1)):=by
 obtain⟨F,R⟩:=zed ze3 zgH;obtain⟨ln,e⟩:=zrT R;exact⟨F,R,by rw [e];exact zrU⟩
end
section
open Go.ChangeShapes Go.WideShapes Go.ChangeAt Go.RowKit Sp
open Go.ChangeMaps (open_string shut_string)
theorem Tryz.own:ownKnob Tryz.prog.godebug=none:=by kernel_rfl
theorem gES:Tryz.prog.globalNamed "strconv.ErrSyntax" = some 3:=by kernel_rfl
theorem gER:Tryz.prog.globalNamed "strconv.ErrRange" = some 4:=by kernel_rfl
theorem zyI:(Tryz.prog.globals[3]?).map (·.type)=some 246:=by kernel_rfl
theorem zyJ:(Tryz.prog.globals[4]?).map (·.type)=some 246:=by kernel_rfl
theorem star : "*errors.errorString" = "*" ++ "errors.errorString":=by decide
theorem zxT (u:TypeId) (h:Tryz.prog.typeName? 3 u=some "*errors.errorString"):u=267 :=
 typeName_ptr_named (nm := "errors.errorString") (by rw [←star];kernel_rfl) (by kernel_rfl) (by decide) u (by rw [←star];exact h)
theorem zp3:Tryz.prog.cellsOf 269=1:=by kernel_rfl
theorem zxU:Tryz.prog.cellsOf 9=1:=by kernel_rfl
theorem zod{W:World}(hL0:laidMetH Tryz.prog Rows.checksUptoRow.laid W)(hsh:W.ShapedOpen Tryz.prog):LibW W:=by
 have h:laidMet Tryz.prog Rows.checksUptoRow.laid W:=hL0;have b:=Lib.laidMet.reads h (.tail _ (.tail _ (.tail _ (.head _))));have c:=Lib.laidMet.reads h (.tail _ (.tail _ (.tail _ (.tail _ (.tail _ (.tail _ (.head _)))))));obtain⟨a0,s0,i,-,-,-⟩:=laid_sentinel h.tail.tail.tail.tail gER zyJ Tryz.underlying246 zxT Tryz.underlying267 Tryz.underlying269 rfl rfl Tryz.underlying9 zp3 zxU;obtain⟨a1,s1,j,-,-,-⟩:=laid_sentinel h.tail.tail.tail.tail.tail gES zyI Tryz.underlying246 zxT Tryz.underlying267 Tryz.underlying269 rfl rfl Tryz.underlying9 zp3 zxU;have hpf:Rows.laid_unicode_utf8_first=Lib.firstData:=Pinned.utf8First_eq;have hpa:Rows.laid_unicode_utf8_acceptRanges=(Lib.acceptData:DataW Unit):=by kernel_rfl
 rw [hpf] at c;rw [hpa] at b;have f:Lib.Utf8Tabs 1 2 W :=
  utf8Tabs_of_reads (ρ:=Tryz.lays197_ren) { Tryz.lays197 with } ⟨by kernel_rfl,by kernel_rfl,by kernel_rfl,by kernel_rfl,by kernel_rfl,by kernel_rfl,by kernel_rfl⟩ c b
 have e:∃ m,W.cell? ⟨0,0,none⟩=some (.int .i64 m):=cell_of_shapedOpen_int (g:=0) (t:=3) (zero:=#[.int .i64 0]) hsh (of_decide_eq_true (by kernel_rfl)) (by kernel_rfl) rfl (by kernel_rfl) (by kernel_rfl) Tryz.underlying3;have d:=Lib.laidMet.reads h (.tail _ (.head _));refine⟨f,e,⟨_,_,j⟩,⟨_,_,i⟩,?_⟩;obtain⟨g,ty,cs,fuel,pp,k,_,a,_⟩:=d;obtain rfl:g=7:=Option.some.inj (k.symm.trans (show Tryz.prog.globalNamed "math/bits.deBruijn64tab" = some 7 by kernel_rfl));unfold World.var? at a;rw [k] at a;cases hh:W.heap[7]? with
 | none=>simp [hh] at a
 | some o=>exact(Array.getElem?_eq_some_iff.1 hh).1
end
end Go.Proofs.YtfpgjkbjbbgciaaGreatDoor
