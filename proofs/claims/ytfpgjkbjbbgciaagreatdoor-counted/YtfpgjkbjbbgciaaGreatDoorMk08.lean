import Derived.Test.YtfpgjkbjbbgciaaGreatDoorMk05
set_option maxRecDepth 100000
set_option maxHeartbeats 8000000
namespace Go.Proofs.YtfpgjkbjbbgciaaGreatDoor
section
open Go.RowKit Sp
theorem zyk(a b:Int):wrap64 (a+b)=zc1 0 a b:=by simp [zc1,w64,wrap64]
theorem zyl(a b:Int):wrap64 (a-b)=zc1 1 a b:=by simp [zc1,w64,wrap64]
theorem zym(a b:Int):wrap64 (a*b)=zc1 2 a b:=by simp [zc1,w64,wrap64]
abbrev i64s(l:List Int):List Value:=l.map (Value.int .i64)
theorem zat(w:World)(b o j:Nat)(v u:Value)(hu:w.cell? ⟨b,o,none⟩=some u):(w.setCell ⟨b,o,none⟩ v).cell? ⟨b,j,none⟩=if j=o then some v else w.cell? ⟨b,j,none⟩:=by
 by_cases h:j=o
 ·subst h;rw [if_pos rfl];exact World.cell?_setCell_same w _ _ hu
 ·rw [if_neg h,World.cell?_setCell_other];simp
theorem zcB(w:World)(b o j:Nat)(v:Value)(h:w.frozen? ⟨b,j,none⟩=false):(w.setCell ⟨b,o,none⟩ v).frozen? ⟨b,j,none⟩=false:=by simpa using h
theorem zhZ(w:World)(n:Nat):Below w.heap.size w (w.drewN n):=⟨rfl,rfl,rfl,Nat.le_refl _,fun _ _=>rfl⟩
theorem zc2(x:Int):wrap64 x=w64 x:=by simp [w64,wrap64]
end
section
section
variable {P:Program} {ops:Array Oper} {C:World→Prop}
theorem zad{id:Nat}{Q:Exit→Act→World→Prop}{a:Act}{w:World}{l:List Oper}(n:Nat)(C:World→Prop)(hC:C (w.drewN 1))(hm:P.follows .mixedOrders=true)(hB:Region.lexTailB .any l.toArray n=true)
  (h:wpQuiet P l.toArray C (fun a'=>∀ w',C w'→wpList P l.toArray Q (l.drop n) a' w') (l.take n) a):(Code.region id l.toArray true).wp P Q a w:=by
 simp only [Region.lexTailB,Bool.and_eq_true,decide_eq_true_eq] at hB;obtain⟨⟨⟨⟨c,f⟩,k⟩,i⟩,b⟩:=hB;have hn':n<l.length:=by simpa using f
 have e:(l.take n).length=n:=by simp;omega
 have hdl:(l.drop n).length=l.toArray.size-n:=by simp
 have d:HeadInv .any l.toArray n (Array.replicate l.toArray.size false) :=
  ⟨by simp,fun j oj _ hl=>(by rw [getD_replicate_false] at hl;cases hl),fun t _ ht=>getD_in (by simpa using ht) (getD_replicate_false _ _)⟩
 have H:=zpg (md:=.any) (g:=l.toArray.size-n) c k i f (l.take n) 0 _ a (fun j hj=>by
  have:j<n:=by rw [e] at hj;exact hj
  simp [this]) (by simpa using e) d (by rw [e];exact b) h
 refine wp_region_any hm ?_;have:=zid (Q:=Q) (g:=l.toArray.size-n) (fun listed a' w' hw' hL=>by
  have:=wpAny_of_seq (md:=.any) (Q':=Q) (l.drop n) n listed a' w' (fun j=>by simp [List.getElem?_drop]) (by rw [hdl];exact hL.1) (hL.2 w' hw');rwa [hdl] at this) _ _ _ _ hC H
 rw [e,show n+(l.toArray.size-n)=l.toArray.size by omega] at this;exact this
theorem zab{Q:Act→Prop}{o:Oper}{rest:List Oper}{a:Act}(hg:o.guard=none)(v:Value)(h:∀ W,C W→(execOp a.eval o).run P W=.ok (.value v) W)(hK:wpQuiet P ops C Q rest (a.put o.dst v)):wpQuiet P ops C Q (o :: rest) a:=by
 have b:Region.wanted o (yielded ops a.tmps)=true:=by simp [Region.wanted,hg]
 unfold wpQuiet;rw [if_pos b];refine⟨v,fun W hW=>?_,hK⟩;unfold Oper.quietAt;rw [h W hW];exact⟨rfl,rfl⟩
theorem zaJ{Q:Act→Prop}{o:Oper}{rest:List Oper}{a:Act}(hg:o.guard=none)(f:FuncId)(args:Array Value)(v:Value)(h:∀ W,C W→(execOp a.eval o).run P W=.ok (.enter f args) W)(hc:∀ W,C W→Calls P f args W fun e w''=>e=.returned v∧C w'')(hK:wpQuiet P ops C Q rest (a.put o.dst v)):wpQuiet P ops C Q (o :: rest) a:=by
 have b:Region.wanted o (yielded ops a.tmps)=true:=by simp [Region.wanted,hg]
 unfold wpQuiet;rw [if_pos b];refine⟨v,fun W hW=>?_,hK⟩;unfold Oper.quietAt;rw [h W hW];exact⟨rfl,hc W hW⟩
end
end
namespace Sp
structure Suf(r:List UInt8):Prop where
 none:zbk r []=[]
 flush:∀ now,zbk r now=zd1 now
 valid:∀ l:List UInt8,(∀ c∈l,c.toNat<128)→zaz (ba (l++r)) 0=true
 line:∀ c∈r,¬c=10
theorem zAm{r:List UInt8}(h:∀ now,zbk r now=zd1 now++zbk r [])(h0:zbk r []=[])(hv:∀ l:List UInt8,(∀ c∈l,c.toNat<128)→zaz (ba (l++r)) 0=true)(hl:∀ c∈r,¬c=10):Suf r :=
 ⟨h0,fun now=>by rw [h now,h0,List.append_nil],hv,hl⟩
theorem zuK{r:List UInt8}(hr:∀ c∈r,c.toNat<128):∀ l:List UInt8,(∀ c∈l,c.toNat<128)→zaz (ba (l++r)) 0=true:=fun l hl =>
 zoJ _ fun c hc=>by
  rcases List.mem_append.1 hc with e|e
  ·exact hl c e
  ·exact hr c e
theorem zuL:Suf []:=zAm zrW rfl (zuK (fun c hc=>by cases hc)) (fun c hc=>by cases hc)
structure Wd(x:List UInt8):Prop where
 ne:¬x=[]
 ok:∀ c∈x,33≤c.toNat∧c.toNat<127∧¬c.toNat=59
theorem Wd.clean{x:List UInt8}(h:Wd x):zzk x:=fun c hc=>by
 obtain⟨h1,h2,h3⟩:=h.ok c hc;refine⟨fun e=>?_,fun e=>?_⟩
 ·rw [e] at h3;exact h3 rfl
 ·rcases e with e|e <;> rw [e] at h1 <;> revert h1 <;> decide
theorem zrZ(b r:List UInt8)(h:∀ c∈b,c=32∨c=9):zbk (b++r) []=zbk r []:=by
 induction b with
 | nil=>rfl
 | cons c t ih=>rw [List.cons_append,zoI c _ (h c List.mem_cons_self),ih (fun x hx=>h x (List.mem_cons_of_mem _ hx))]
theorem zx1{b s:List UInt8}(hb:∀ c∈b,c=32∨c=9){ws:List (List UInt8)}(hw:∀ x∈ws,Wd x)(hs:Suf s):say (ba (b++zc8 ws++s))=sayW (ws.map ba):=by
 have a:zbu (ba (b++zc8 ws++s))=ws.map ba:=by
  rw [zxv,List.append_assoc,zrZ b _ hb,zoH ws s (fun x hx=>⟨(hw x hx).ne,(hw x hx).clean⟩) (fun now=>by rw [hs.flush,hs.none,List.append_nil]),hs.none,List.append_nil]
 have d:zaz (ba (b++zc8 ws++s)) 0=true:=hs.valid _ fun c hc=>by
  rcases List.mem_append.1 hc with e|e
  ·rcases hb c e with e|e <;> rw [e] <;> decide
  ·exact zjn ws (fun c=>c.toNat<128) (fun x hx c hc=>by have:=(hw x hx).ok c hc;omega) (by decide) c e
 unfold say;rw [if_pos d,a]
theorem zuM{b s:List UInt8}(hb:∀ c∈b,c=32∨c=9){ws:List (List UInt8)}(hw:∀ x∈ws,Wd x)(hs:Suf s):∀ c∈b++zc8 ws++s,¬c=10:=by
 intro c a;rcases List.mem_append.1 a with e|e
 ·rcases List.mem_append.1 e with e|e
  ·rcases hb c e with e|e <;> rw [e] <;> decide
  ·exact zjn ws (fun c=>¬c=10) (fun x hx c a e=>by have:=(hw x hx).ok c a;rw [e] at this;revert this;decide) (by decide) c e
 ·exact hs.line c e
theorem zzm(x:List UInt8):sayW ([[102,117,110,99],x].map ba)=⟨102,[ba [102,117,110,99],ba x],za6 (ba x)⟩:=by
 have:zek (ba [102,117,110,99])=true:=by unfold zek isW;rw [zjl];rfl
 simp only [List.map_cons,List.map_nil,sayW,this,if_true];rfl
theorem zpO(x:List UInt8)(c:UInt8):zfi (ba (x++[c]))=(c.toNat:Int):=by
 unfold zfi;rw [zoC,zcS,List.length_append];simp
theorem zx2(x:List UInt8):sayW ([x++[58]].map ba)=⟨108,[ba x],za6 (ba x)⟩:=by
 have a:zek (ba (x++[58]))=false:=by
  unfold zek isW;rw [zjl];rw [beq_eq_false_iff_ne];intro h;have:=congrArg List.getLast? h;simp at this
 have b:(ba (x++[58])).extract 0 ((ba (x++[58])).size-1)=ba x:=by
  rw [←zuF ((ba (x++[58])).extract 0 _)];congr 1;rw [ByteArray.data_extract,Array.toList_extract,zcS,zjk];simp [List.extract_eq_take_drop]
 simp only [List.map_cons,List.map_nil,sayW,a,b,zpO];simp
theorem zzn(x:List UInt8)(r:List (List UInt8))(sh:List UInt8)(h1:¬x=[102,117,110,99])(hl:∀ y,¬x=y++[58])(hx:¬x=[])(hs:zaa (ba x)=sh)(h63:¬sh=[63])(hn:r.length=sh.length):sayW ((x :: r).map ba)=⟨105,(x :: r).map ba,za1 sh (r.map ba)⟩:=by
 have e1:zek (ba x)=false:=by unfold zek isW;rw [zjl,beq_eq_false_iff_ne];exact h1
 have a:¬zfi (ba x)=58:=by
  intro h;have:=List.dropLast_concat_getLast hx;rw [←this,zpO] at h;have h3:x.getLast hx=58:=(zxu (n:=58) (by omega)).1 h;rw [h3] at this;exact hl _ this.symm
 have b:¬(zaa (ba x)=[63]∨¬((x :: r).map ba).length=(zaa (ba x)).length+1):=by
  rw [hs];simp [h63,hn]
 show(if zek (ba x)=true then _ else if _ then _ else _)=_;rw [if_neg (by rw [e1];decide),if_neg (fun h=>a h.2)];show(⟨105,_,if(zaa (ba x)=[63]∨¬((x :: r).map ba).length=(zaa (ba x)).length+1) then false else za1 (zaa (ba x)) (r.map ba)⟩:Said)=_;rw [if_neg b,hs]
end Sp
section
open Go.RowKit Sp
def zaH(m:Mc)(ov:Value)(line:Int):List Value:=[.int .i64 m.steps]++((List.range 8).map (fun i=>Value.int .i64 (m.regs i))++((List.range 16).map (fun i=>Value.int .i64 (m.cells i))++[ov,.int .i64 m.frames,.int .i64 m.peak,.int .i64 line,.int .i64 m.fin]))
theorem zbF(m:Mc)(ov:Value)(line:Int):(zaH m ov line).length=30:=by simp [zaH]
theorem zcs(m:Mc)(ao:Option Addr)(n c:Nat)(line:Int):(zaH m (.slice ao n c) line).toArray.all (·.oneCell')=true:=by
 refine all_oneCell_toArray fun v hv=>?_;simp only [zaH,List.mem_append,List.mem_map,List.mem_cons,List.mem_nil_iff,or_false] at hv;rcases hv with rfl|⟨i,_,rfl⟩|⟨i,_,rfl⟩|rfl|rfl|rfl|rfl|rfl <;> rfl
theorem zlJ(m:Mc)(ov:Value)(line:Int):(zaH m ov line)[28]?=some (.int .i64 line):=by simp [zaH]
theorem zq2(m:Mc)(ov:Value)(line l2:Int):(zaH m ov line).set 28 (.int .i64 l2)=zaH m ov l2:=by simp [zaH,List.range_succ]
theorem zlK{w:World}{b o n:Nat}{cs:List Value}{v u:Value}(h:w.rangeAt b o cs)(hn:w.cell? ⟨b,o+n,none⟩=some u):(w.setCell ⟨b,o+n,none⟩ v).rangeAt b o (cs.set n v):=by
 intro j x a;by_cases e:j=n
 ·subst e;rw [List.getElem?_set] at a;split at a
  ·split at a
   ·rw [←Option.some.inj a];exact World.cell?_setCell_same w _ _ hn
   ·cases a
  ·rename_i hne;exact absurd rfl hne
 ·rw [List.getElem?_set_ne (by omega)] at a;rw [World.cell?_setCell_other]
  ·exact h j x a
  ·simp
theorem ziq{w:World}{b o n:Nat}(h:w.there b o n)(p:Addr)(v:Value):(w.setCell p v).there b o n:=fun j hj=>by
 obtain⟨h1,h2⟩:=h j hj;refine⟨?_,by simpa using h2⟩;obtain⟨u,hu⟩:=Option.isSome_iff_exists.1 h1;obtain⟨x,hx⟩:=cell?_setCell_some (w:=w) (p:=p) (x:=v) (q:=⟨b,o+j,none⟩) (v:=u) hu;rw [hx];rfl
abbrev Z34:Obj:=.cells #[.int .i64 0,.int .i64 0,.int .i64 0,.int .i64 0,.int .i64 0,.int .i64 0,.int .i64 0,.int .i64 0,.int .i64 0,.int .i64 0,.int .i64 0,.int .i64 0,.int .i64 0,.int .i64 0,.int .i64 0,.int .i64 0,.int .i64 0,.int .i64 0,.int .i64 0,.int .i64 0,.int .i64 0,.int .i64 0,.int .i64 0,.int .i64 0,.int .i64 0,.slice none 0 0,.int .i64 0,.int .i64 0,.int .i64 0,.int .i64 0] 34
theorem zfM(w:World):(w.alloc Z34).there w.heap.size 0 30:=fun j hj=>by
 refine⟨?_,by simp⟩;have h:=World.cell?_alloc_new (w:=w) #[.int .i64 0,.int .i64 0,.int .i64 0,.int .i64 0,.int .i64 0,.int .i64 0,.int .i64 0,.int .i64 0,.int .i64 0,.int .i64 0,.int .i64 0,.int .i64 0,.int .i64 0,.int .i64 0,.int .i64 0,.int .i64 0,.int .i64 0,.int .i64 0,.int .i64 0,.int .i64 0,.int .i64 0,.int .i64 0,.int .i64 0,.int .i64 0,.int .i64 0,.slice none 0 0,.int .i64 0,.int .i64 0,.int .i64 0,.int .i64 0] 34 (0+j);rw [h,Array.getElem?_eq_getElem (by simpa using hj)];rfl
theorem zcX{fn:Func}{a:Tmp}{t:TypeId}(h:fn.results=#[.cell a t])(tmps:Array Value)(p:Addr)(hp:tmps.getD a undef=.pointer (some p)){P:Program}{w:World}{v:Value}(hl:(loadVar t p).run P w=.ok v w):(results fn tmps).run P w=.ok v w:=by
 have b:tmps[a]?.getD undef=.pointer (some p):=by simpa using hp
 simp [results,h,b,asAddr,hl]
theorem zky{fn:Func}{a b c:Tmp}{t:TypeId}(h:fn.results=#[.cell a t,.tmp b,.tmp c])(tmps:Array Value)(p:Addr)(hp:tmps.getD a undef=.pointer (some p)){P:Program}{w:World}{v:Value}(hl:(loadVar t p).run P w=.ok v w):(results fn tmps).run P w=.ok (.tuple #[v,tmps.getD b undef,tmps.getD c undef]) w:=by
 have d:tmps[a]?.getD undef=.pointer (some p):=by simpa using hp
 simp [results,h,d,asAddr,hl]
theorem Tryz.info34:(Tryz.prog.info? 34).map (·.size)=some 30:=by kernel_rfl
theorem za8(l:List Value){B b:Nat}{a w:World}(o:Nat)(h:Below B a w)(hb:B≤b):Below B a (w.setCells b o l):=by
 induction l generalizing w o with
 | nil=>exact h
 | cons x r ih=>exact ih (o+1) (h.setCell (p:=⟨b,o,none⟩) hb x)
theorem zbG(l:List Value)(w:World)(b o k:Nat)(h:¬k=b):(w.setCells b o l).heap[k]?=w.heap[k]?:=by
 induction l generalizing w o with
 | nil=>rfl
 | cons x r ih =>
  show((w.setCell ⟨b,o,none⟩ x).setCells b (o+1) r).heap[k]?=_;rw [ih,Below.heap_setCell _ _ _ _ h]
end
namespace Sp
def badB(L:List Said)(q k:Nat):Bool:=if q=0 then zeX L k else if q=1 then zch L k else zdv L k
def pass(L:List Said)(q j:Nat)(c:Int × Int):Int × Int :=
 if j<L.length then(if badB L q j=true then(3+(q:Int),(j:Int)+1) else pass L q (j+1) c) else c
termination_by L.length-j
theorem zfH(L:List Said)(q j:Nat)(c:Int × Int)(h:¬j<L.length):pass L q j c=c:=by rw [pass,if_neg h]
theorem zfI(L:List Said)(q j:Nat)(c:Int × Int)(h:j<L.length)(h':badB L q j=true):pass L q j c=(3+(q:Int),(j:Int)+1):=by rw [pass,if_pos h,if_pos h']
theorem zc3(L:List Said)(q j:Nat)(c:Int × Int)(h:j<L.length)(h':badB L q j=false):pass L q j c=pass L q (j+1) c:=by rw [pass,if_pos h,if_neg (by simp [h'])]
def tail(L:List Said)(q:Nat):Int × Int:=if q=0 then pass L 0 0 (pass L 1 0 (pass L 2 0 (0,0))) else if q=1 then pass L 1 0 (pass L 2 0 (0,0)) else if q=2 then pass L 2 0 (0,0) else(0,0)
def zb5(L:List Said)(i:Nat):Int × Int :=
 if h:i<L.length then(if L[i].kind=0 then zb5 L (i+1) else if L[i].kind=102 then tail L 0 else(2,(i:Int)+1)) else(2,0)
termination_by L.length-i
theorem zih(L:List Said)(i:Nat)(h:¬i<L.length):zb5 L i=(2,0):=by rw [zb5,dif_neg h]
theorem zjK(L:List Said)(i:Nat)(h:i<L.length)(h':L[i].kind=0):zb5 L i=zb5 L (i+1):=by rw [zb5,dif_pos h,if_pos h']
theorem zii(L:List Said)(i:Nat)(h:i<L.length)(h':¬L[i].kind=0)(h2:L[i].kind=102):zb5 L i=tail L 0:=by rw [zb5,dif_pos h,if_neg h',if_pos h2]
theorem zl7(L:List Said)(i:Nat)(h:i<L.length)(h':¬L[i].kind=0)(h2:¬L[i].kind=102):zb5 L i=(2,(i:Int)+1):=by rw [zb5,dif_pos h,if_neg h',if_neg h2]
def zbS(A:List ByteArray)(i:Nat):Int × Int :=
 if h:i<A.length then(if(say A[i]).ok=true then zbS A (i+1) else(1,(i:Int)+1)) else zb5 (A.map say) 0
termination_by A.length-i
theorem zij(A:List ByteArray)(i:Nat)(h:¬i<A.length):zbS A i=zb5 (A.map say) 0:=by rw [zbS,dif_neg h]
theorem zfJ(A:List ByteArray)(i:Nat)(h:i<A.length)(h':(say A[i]).ok=true):zbS A i=zbS A (i+1):=by rw [zbS,dif_pos h,if_pos h']
theorem zfK(A:List ByteArray)(i:Nat)(h:i<A.length)(h':(say A[i]).ok=false):zbS A i=(1,(i:Int)+1):=by rw [zbS,dif_pos h,if_neg (by simp [h'])]
def zcm(s:ByteArray):Int × Int:=if 4000<s.size∨300<(lines s).length then(6,0) else zbS (lines s) 0
theorem zfr(s:ByteArray)(f i:Nat):1≤(zbK s f i).length∧(zbK s f i).length≤s.size-i+1:=by
 by_cases h:i<s.size
 ·by_cases a:bt s i=10
  ·rw [zfh s f i h a];have:=zfr s (i+1) (i+1);simp;omega
  ·rw [zgp s f i h a];have:=zfr s f (i+1);omega
 ·rw [zfg s f i h];simp
termination_by s.size-i
theorem zsM(s:ByteArray):1≤(lines s).length∧(lines s).length≤s.size+1:=zfr s 0 0
theorem zdS(s:ByteArray)(f i:Nat):∀ x∈zbK s f i,x.size≤s.size:=by
 by_cases h:i<s.size
 ·by_cases b:bt s i=10
  ·rw [zfh s f i h b];intro x a;rw [List.mem_cons] at a;rcases a with rfl|a
   ·rw [ByteArray.size_extract];omega
   ·exact zdS s (i+1) (i+1) x a
  ·rw [zgp s f i h b];exact zdS s f (i+1)
 ·rw [zfg s f i h];intro x a;simp at a;subst a;rw [ByteArray.size_extract];omega
termination_by s.size-i
theorem zfs(s:ByteArray):∀ x∈lines s,x.size≤s.size:=zdS s 0 0
theorem zxQ(s:ByteArray)(h:(say s).ok=true):Wf (say s):=by
 unfold say at h ⊢;split at h
 ·rename_i hv;rw [if_pos hv];generalize zbu s=l at h ⊢;unfold sayW at h ⊢;split at h
  ·exact .inl ⟨rfl,rfl⟩
  ·rename_i x r;by_cases a:zek x=true
   ·rw [if_pos a] at h ⊢;simp only [Bool.and_eq_true,decide_eq_true_eq] at h;exact .inr (.inl ⟨rfl,h.1⟩)
   ·rw [if_neg a] at h ⊢;by_cases b:(x :: r).length=1∧zfi x=58
    ·rw [if_pos b] at h ⊢;exact .inr (.inr (.inl ⟨rfl,rfl⟩))
    ·rw [if_neg b] at h ⊢;simp only at h;split at h
     ·cases h
     ·rename_i hs;refine .inr (.inr (.inr ⟨rfl,by simp,?_⟩));have h3:(zaa x).length≤3:=by
       unfold zaa
       repeat' split
       all_goals decide
      have h4:(x :: r).length=(zaa x).length+1:=by
       rcases Classical.em ((x :: r).length=(zaa x).length+1) with h|h
       ·exact h
       ·exact absurd (.inr h) hs
      show(x :: r).length≤4;omega
 ·cases h
end Sp
end Go.Proofs.YtfpgjkbjbbgciaaGreatDoor
