import Derived.Test.YtfpgjkbjbbgciaaGreatDoorMi16
set_option maxRecDepth 100000
set_option maxHeartbeats 8000000
namespace Go.Proofs.YtfpgjkbjbbgciaaGreatDoor
namespace Sp
theorem zgl(L:List Said)(q j:Nat)(c:Int × Int)(h:∀ k,j≤k→k<L.length→badB L q k=false):pass L q j c=c:=by
 by_cases hj:j<L.length
 ·rw [zc3 L q j c hj (h j (Nat.le_refl _) hj)]
  exact zgl L q (j+1) c (fun k h1 h2=>h k (by omega) h2)
 ·exact zfN L q j c hj
termination_by L.length-j
theorem zmy(A:List ByteArray)(i:Nat)(h:∀ x∈A,(say x).ok=true):zbW A i=zb6 (A.map say) 0:=by
 by_cases hi:i<A.length
 ·rw [zfP A i hi (h _ (List.getElem_mem _))]
  exact zmy A (i+1) h
 ·exact zia A i hi
termination_by A.length-i
structure Prog(L:List Said):Prop where
 ok:∀ q∈L,q.ok=true
 start:∃ q r,L=q :: r∧q.kind=102
 twice:∀ k,k<L.length→zfh L k=false
 missing:∀ k,k<L.length→zco L k=false
 endless:∀ k,k<L.length→zdy L k=false
theorem zut(s:ByteArray)(P:Prog ((lines s).map say)):zcg s=if 4000<s.size∨300<(lines s).length then(6,0) else(0,0):=by
 unfold zcg
 split
 ·rfl
 ·rw [zmy _ _ (fun x hx=>P.ok _ (List.mem_map_of_mem hx))]
  obtain⟨q,r,hq,h2⟩:=P.start
  have hl:0<((lines s).map say).length:=by rw [hq];simp
  have h0:((lines s).map say)[0]=q:=by simp only [hq];rfl
  rw [zhZ _ 0 hl (by rw [h0,h2];decide) (by rw [h0];exact h2)]
  show pass _ 0 0 (pass _ 1 0 (pass _ 2 0 (0,0)))=_
  rw [zgl _ 2 0 _ (fun k _ hk=>P.endless k hk),zgl _ 1 0 _ (fun k _ hk=>P.missing k hk),zgl _ 0 0 _ (fun k _ hk=>P.twice k hk)]
structure Fs where
 name:List UInt8
 body:List Said
def Fs.said(f:Fs):List Said:=⟨102,[ba [102,117,110,99],ba f.name],true⟩ :: f.body
def zaO(fs:List Fs):List Said:=fs.flatMap Fs.said
def offF(fs:List Fs)(k:Nat):Nat:=(zaO (fs.take k)).length
theorem zce(f:Fs)(fs:List Fs):zaO (f :: fs)=f.said++zaO fs:=by simp [zaO]
theorem zuu(a b:List Fs):zaO (a++b)=zaO a++zaO b:=by simp [zaO]
def labI(x:ByteArray):List Said→Option Nat
 | []=>none
 | q :: r=>if zcF q x=true then some 0 else(labI x r).map (·+1)
def zmz(l:List Said):Prop:=∀ q∈l,¬q.kind=102
def Shut(l:List Said):Prop:=l=[]∨∃ q r,l=q :: r∧q.kind=102
theorem zm0(fs:List Fs):Shut (zaO fs):=by
 cases fs with
 | nil=>exact .inl rfl
 | cons f t=>exact .inr ⟨_,_,(by rw [zce];rfl),rfl⟩
theorem zja{α:Type}(A:List α)(q:α)(R:List α)(h:A.length<(A++q :: R).length):(A++q :: R)[A.length]=q:=by
 rw [List.getElem_append_right (Nat.le_refl _)];simp
theorem zwS(A b R:List Said)(x:ByteArray)(hb:zmz b)(hR:Shut R):zaY (A++(b++R)) x A.length=match labI x b with|none=>-1|some i=>((A.length+i:Nat):Int):=by
 induction b generalizing A with
 | nil =>
  rcases hR with rfl|⟨q,r,rfl,hq⟩
  ·rw [zdT _ _ _ (by simp)];rfl
  ·rw [List.nil_append]
   rw [zfK _ _ _ (by simp) (by rw [zja];exact hq)];rfl
 | cons q t ih =>
  have hq:=hb q List.mem_cons_self
  have hlt:A.length<(A++(q :: t++R)).length:=by simp
  have e0:(A++(q :: t++R))[A.length]=q:=zja A q (t++R) hlt
  cases hl:zcF q x with
  | true =>
   rw [zcs _ _ _ hlt (by rw [e0];exact hq) (by rw [e0];exact hl)]
   simp [labI,hl]
  | false =>
   rw [zbF _ _ _ hlt (by rw [e0];exact hq) (by rw [e0];exact hl)]
   have:=ih (A++[q]) (fun y hy=>hb y (List.mem_cons_of_mem _ hy))
   rw [List.length_append,List.append_assoc] at this
   simp only [List.length_singleton,List.singleton_append] at this
   rw [List.cons_append,this]
   simp only [labI,hl]
   cases labI x t with
   | none=>rfl
   | some i=>show((A.length+1+i:Nat):Int)=((A.length+(i+1):Nat):Int);omega
theorem zr5(A b R:List Said)(f:Said)(hf:f.kind=102)(hb:zmz b)(j:Nat)(hj:j≤b.length):zdS (A++(f :: b++R)) (A.length+j)=(A.length:Int):=by
 induction j with
 | zero =>
  have hlt:A.length<(A++(f :: b++R)).length:=by simp
  have:=zfL (A++(f :: b++R)) A.length hlt (by rw [show(A++(f :: b++R))[A.length]=f from zja A f (b++R) hlt];exact hf)
  exact this
 | succ j ih =>
  have hlt:A.length+j+1<(A++(f :: b++R)).length:=by simp;omega
  have e:(A++(f :: b++R))[A.length+j+1]=b[j]'(by omega):=by
   rw [List.getElem_append_right (by omega)]
   simp only [show A.length+j+1-A.length=j+1 by omega,List.cons_append,List.getElem_cons_succ]
   rw [List.getElem_append_left (by omega)]
  rw [show A.length+(j+1)=A.length+j+1 by omega,zdH _ _ hlt (by rw [e];exact hb _ (List.getElem_mem _)),ih (by omega)]
theorem zwT(A b R:List Said)(e:Bool)(hb:zmz b)(hR:Shut R):zfM (A++(b++R)) A.length e=b.foldl (fun e q=>if q.kind=108 then false else if q.kind=105 then ends (q.word 0) else e) e:=by
 induction b generalizing A e with
 | nil =>
  rcases hR with rfl|⟨q,r,rfl,hq⟩
  ·rw [zhP _ _ _ (by simp)];rfl
  ·rw [List.nil_append,zmW _ _ _ (by simp) (by rw [zja];exact hq)];rfl
 | cons q t ih =>
  have hq:=hb q List.mem_cons_self
  have hlt:A.length<(A++(q :: t++R)).length:=by simp
  have e0:(A++(q :: t++R))[A.length]=q:=zja A q (t++R) hlt
  rw [zeL _ _ _ hlt (by rw [e0];exact hq),e0]
  have:=ih (A++[q]) (if q.kind=108 then false else if q.kind=105 then ends (q.word 0) else e) (fun y hy=>hb y (List.mem_cons_of_mem _ hy))
  rw [List.length_append,List.append_assoc] at this
  simp only [List.length_singleton,List.singleton_append] at this
  rw [List.cons_append,this]
  rfl
end Sp
section
open Go.RowKit Sp
structure DiM(B:Nat)(w:World)(px:Nat)(cv:Value)(code:List Int)(k:Nat):Prop where
 c0:w.cell? ⟨px,0,none⟩=some cv
 row:SlB w B cv code
 c1:w.cell? ⟨px,1,none⟩=some (.int .i64 (k:Int))
 le:k≤code.length
 fz:∀ j,w.frozen? ⟨px,j,none⟩=false
 len:code.length≤9223372036854775807
 num:∀ x∈code,i64 x
 hB:B≤px
 kx:∃ c,w.heap[px]?=some (.cells c 76 (0,0))
theorem zp6{w:World}{q o:Nat}{v:Value}{b:Nat}{t:TypeId}(h:∃ c,w.heap[b]?=some (.cells c t (0,0))):∃ c,(w.setCell ⟨q,o,none⟩ v).heap[b]?=some (.cells c t (0,0)):=by
 obtain⟨c,h⟩:=h
 by_cases e:b=q
 ·subst e
  exact⟨_,heap_setCell_same w b o c t v h⟩
 ·exact⟨c,(Below.heap_setCell _ _ _ _ e).trans h⟩
theorem DiM.lt{B:Nat}{w:World}{px:Nat}{cv:Value}{code:List Int}{k:Nat}(h:DiM B w px cv code k):px<w.heap.size:=World.block_lt_of_cell? w _ h.c0
theorem DiM.block{B:Nat}{w w':World}{px:Nat}{cv:Value}{code:List Int}{k:Nat}(h:DiM B w px cv code k)(hb:Below B w w')(e:w'.heap[px]?=w.heap[px]?):DiM B w' px cv code k:=by
 have c:∀ j,w'.cell? ⟨px,j,none⟩=w.cell? ⟨px,j,none⟩:=fun j=>World.cell?_of_block (w:=w) (a:=⟨px,j,none⟩) e
 exact⟨(c _).trans h.c0,h.row.below hb,(c _).trans h.c1,h.le,fun j=>(World.frozen?_of_block (w:=w) (a:=⟨px,j,none⟩) e).trans (h.fz j),h.len,h.num,h.hB,by rw [e];exact h.kx⟩
theorem DiM.set{B:Nat}{w:World}{px:Nat}{cv:Value}{code:List Int}{k:Nat}(h:DiM B w px cv code k)(k2:Nat)(hk:k2≤code.length):DiM B (w.setCell ⟨px,1,none⟩ (.int .i64 (k2:Int))) px cv code k2:=by
 have hb:Below B w (w.setCell ⟨px,1,none⟩ (.int .i64 (k2:Int))):=(Below.refl B w).setCell (p:=⟨px,1,none⟩) h.hB _
 refine⟨?_,h.row.below hb,?_,hk,fun j=>zcE w _ _ j _ (h.fz j),h.len,h.num,h.hB,zp6 h.kx⟩
 ·rw [zaq w px 1 0 _ _ h.c1,if_neg (by omega)];exact h.c0
 ·rw [zaq w px 1 1 _ _ h.c1,if_pos rfl]
theorem DiM.drewN{B:Nat}{w:World}{px:Nat}{cv:Value}{code:List Int}{k:Nat}(h:DiM B w px cv code k)(n:Nat):DiM B (w.drewN n) px cv code k:=⟨h.c0,h.row,h.c1,h.le,h.fz,h.len,h.num,h.hB,h.kx⟩
theorem zke(w:World)(n:Nat)(r:Option Nat):w.grownBy (w.drewN n) r:=⟨rfl,rfl,rfl,Nat.le_refl _,fun _ _ _=>rfl⟩
theorem zbD(w:World)(n B:Nat):Below B w (w.drewN n):=⟨rfl,rfl,rfl,Nat.le_refl _,fun _ _=>rfl⟩
theorem zm6{w w':World}{r:Option Nat}(h:w.grownBy w' r){n:Nat}:w.grownBy (w'.drewN n) r:=⟨h.os,h.tape,h.output,h.size,h.block⟩
def zx0(B:Nat)(w:World)(px:Nat)(cv:Value)(code:List Int)(w':World):Prop:=∃ k,DiM B w' px cv code k∧w.grownBy w' (some px)
theorem zeF{B:Nat}{w:World}{px:Nat}{cv:Value}{code:List Int}{k:Nat}(h:DiM B w px cv code k)(n:Int)(hn:0<n):
  Calls Tryz.prog 41 #[.pointer (some ⟨px,0,none⟩),.int .i64 n] w fun e w'=>∃ c:Nat,e=.returned (.int .i64 (c:Int))∧(c:Int)<n∧zx0 B w px cv code w':=by
 have c0:=h.c0
 have c1:=h.c1
 have f1:=h.fz 1
 have hle:=h.le
 have hln:=h.len
 obtain⟨ao,cap,rfl,hcap,hrow⟩:=h.row
 by_cases hk:k<code.length
 ·obtain⟨g,o,rfl,hg,hgs,hcell⟩:=hrow (by omega)
  have cx:=hcell k hk
  have hx:=h.num _ (List.getElem_mem hk)
  have hp0:0≤zgk code[k] n:=Int.emod_nonneg _ (by omega)
  have hp1:zgk code[k] n<n:=Int.emod_lt_of_pos _ hn
  have hp:=fun W=>zh9 code[k] n W hn hx
  clear hcell hrow
  generalize code[k]=x at cx hp hp0 hp1
  obtain⟨c,hc⟩:=Int.eq_ofNat_of_zero_le hp0
  rw [hc] at hp hp1
  have hk0:(0:Int)≤(k:Int):=by omega
  have hk1:(k:Int)<(code.length:Int):=by omega
  go_enter Tryz.func41,Tryz.ntmps41
  go_wp2_with fail
  go_quiet(fail)
  go_wp2_with fail
  go_region_with(go_at_call 37;(with_reducible refine(hp _).mono ?_);rintro e wx ⟨rfl,hww⟩;have h2:=hww.symm;subst h2)
  all_goals go_wp2
  all_goals go_ret
  all_goals exact⟨c,rfl,hp1,k+1,(h.drewN _).set (k+1) (by omega),zah (zbD _ _ _)⟩
 ·go_enter Tryz.func41,Tryz.ntmps41
  go_wp2_with fail
  go_quiet(fail)
  go_wp2
  go_ret
  exact⟨0,rfl,hn,k,h.drewN _,zke _ _ _⟩
theorem zx1{B:Nat}{w:World}{px:Nat}{cv:Value}{code:List Int}{k:Nat}(h:DiM B w px cv code k):
  Calls Tryz.prog 121 #[.pointer (some ⟨px,0,none⟩)] w fun e w'=>∃ z:Int,e=.returned (.int .i64 z)∧i64 z∧zx0 B w px cv code w':=by
 have c0:=h.c0
 have c1:=h.c1
 have f1:=h.fz 1
 have hle:=h.le
 have hln:=h.len
 obtain⟨ao,cap,rfl,hcap,hrow⟩:=h.row
 by_cases hk:k<code.length
 ·obtain⟨g,o,rfl,hg,hgs,hcell⟩:=hrow (by omega)
  have cx:=hcell k hk
  have hx:=h.num _ (List.getElem_mem hk)
  have hne:¬g=px:=by have:=h.hB;omega
  have hne2:¬px=g:=fun e=>hne e.symm
  clear hcell hrow
  generalize code[k]=x at cx hx
  obtain⟨hx1,hx2⟩:=hx
  have hk0:(0:Int)≤(k:Int):=by omega
  have hk1:(k:Int)<(code.length:Int):=by omega
  go_enter Tryz.func121,Tryz.ntmps121
  go_wp2_with fail
  go_quiet(fail)
  go_wp2_with fail
  go_quiet(fail)
  go_wp2
  go_ret
  exact⟨x,rfl,⟨hx1,hx2⟩,k+1,((h.drewN _).set (k+1) (by omega)).drewN _,zm6 (zah (zbD _ _ _))⟩
 ·go_enter Tryz.func121,Tryz.ntmps121
  go_wp2_with fail
  go_quiet(fail)
  go_wp2
  go_ret
  exact⟨0,rfl,⟨by omega,by omega⟩,k,h.drewN _,zke _ _ _⟩
end
namespace Sp
theorem zm1(a b:List UInt8):eqW (ba a) (ba b)=decide (a=b):=by
 unfold eqW;rw [ziW,ziW,Bool.eq_iff_iff];simp
def Fs.head(f:Fs):Said:=⟨102,[ba [102,117,110,99],ba f.name],true⟩
theorem zm2(f:Fs)(x:List UInt8):isFn f.head (ba x)=decide (f.name=x):=by
 show(decide ((102:Int)=102)&&eqW (ba f.name) (ba x))=_
 rw [zm1];simp
def fnI(x:List UInt8):List Fs→Option Nat
 | []=>none
 | f :: r=>if f.name=x then some 0 else(fnI x r).map (·+1)
theorem zyD(A b R:List Said)(x:ByteArray)(hb:zmz b):zb3 (A++(b++R)) x A.length=zb3 (A++(b++R)) x (A.length+b.length):=by
 induction b generalizing A with
 | nil=>rfl
 | cons q t ih =>
  have hq:=hb q List.mem_cons_self
  have hlt:A.length<(A++(q :: t++R)).length:=by simp
  have e0:(A++(q :: t++R))[A.length]=q:=zja A q (t++R) hlt
  rw [zdl _ _ _ hlt (by rw [e0];simp [isFn,hq])]
  have:=ih (A++[q]) (fun y hy=>hb y (List.mem_cons_of_mem _ hy))
  rw [List.length_append,List.append_assoc] at this
  simp only [List.length_singleton,List.singleton_append] at this
  rw [List.cons_append,this,List.length_cons]
  congr 1;omega
theorem zuv(fs:List Fs):offF fs 0=0:=by simp [offF,zaO]
theorem zuw(f:Fs)(fs:List Fs)(k:Nat):offF (f :: fs) (k+1)=f.body.length+1+offF fs k:=by
 unfold offF
 rw [List.take_succ_cons,zce,List.length_append]
 simp [Fs.said]
theorem zux(fs:List Fs)(A:List Said)(x:List UInt8)(hb:∀ f∈fs,zmz f.body):zb3 (A++zaO fs) (ba x) A.length=match fnI x fs with|none=>-1|some k=>((A.length+offF fs k:Nat):Int):=by
 induction fs generalizing A with
 | nil=>rw [zgu _ _ _ (by simp [zaO])];rfl
 | cons f t ih =>
  have e:zaO (f :: t)=f.head :: (f.body++zaO t):=by rw [zce];rfl
  rw [e]
  have hlt:A.length<(A++f.head :: (f.body++zaO t)).length:=by simp
  have e0:(A++f.head :: (f.body++zaO t))[A.length]=f.head:=zja A _ _ hlt
  by_cases hx:f.name=x
  ·rw [zdg _ _ _ hlt (by rw [e0,zm2];simpa using hx)]
   simp only [fnI,if_pos hx,zuv,Nat.add_zero]
  ·rw [zdl _ _ _ hlt (by rw [e0,zm2];simpa using hx)]
   have h1:=zyD (A++[f.head]) f.body (zaO t) (ba x) (hb f List.mem_cons_self)
   have h2:=ih (A++f.head :: f.body) (fun y hy=>hb y (List.mem_cons_of_mem _ hy))
   rw [List.length_append,List.append_assoc] at h1
   simp only [List.length_singleton,List.singleton_append] at h1
   rw [h1]
   rw [List.append_assoc,List.length_append,List.length_cons,List.cons_append] at h2
   rw [show A.length+1+f.body.length=A.length+(f.body.length+1) by omega,h2]
   simp only [fnI,if_neg hx]
   cases fnI x t with
   | none=>rfl
   | some k =>
    show((A.length+(f.body.length+1)+offF t k:Nat):Int)=((A.length+offF (f :: t) (k+1):Nat):Int)
    rw [zuw];omega
structure BodyOk(names:List (List UInt8))(b:List Said):Prop where
 nofn:zmz b
 ok:∀ q∈b,q.ok=true
 labs:∀ j (hj:j<b.length),b[j].kind=108→labI (b[j].word 0) b=some j
 asks:∀ q∈b,q.kind=105→zaE (q.word 0)=true→labI q.last b≠none
 calls:∀ q∈b,q.kind=105→zbt (q.word 0)=true→∃ x∈names,q.last=ba x
 ends:b.foldl (fun e q=>if q.kind=108 then false else if q.kind=105 then ends (q.word 0) else e) false=true
theorem zwU{x:List UInt8}{fs:List Fs}(h:x∈fs.map Fs.name):∃ k,fnI x fs=some k∧k<fs.length:=by
 induction fs with
 | nil=>cases h
 | cons f t ih =>
  by_cases hx:f.name=x
  ·exact⟨0,by simp [fnI,hx],by simp⟩
  ·rw [List.map_cons] at h
   rcases List.mem_cons.1 h with e|e
   ·exact absurd e.symm hx
   ·obtain⟨k,hk,hl⟩:=ih e
    exact⟨k+1,by simp [fnI,hx,hk],by simpa using hl⟩
theorem zzC{A R:List Fs}{f:Fs}(hn:((A++f :: R).map Fs.name).Nodup):fnI f.name (A++f :: R)=some A.length:=by
 induction A with
 | nil=>simp [fnI]
 | cons a t ih =>
  rw [List.cons_append,List.map_cons,List.nodup_cons] at hn
  have hne:¬a.name=f.name:=fun e=>hn.1 (by rw [e];simp)
  rw [List.cons_append,fnI,if_neg hne,ih hn.2];simp
theorem zzD(A R:List Fs)(f:Fs):offF (A++f :: R) A.length=(zaO A).length:=by
 unfold offF;rw [List.take_left'];rfl
theorem zoq(fs:List Fs)(k:Nat)(h:k<(zaO fs).length):∃ A f R j,fs=A++f :: R∧k=(zaO A).length+j∧j≤f.body.length:=by
 induction fs generalizing k with
 | nil=>simp [zaO] at h
 | cons f t ih =>
  by_cases hk:k≤f.body.length
  ·exact⟨[],f,t,k,rfl,by simp [zaO],hk⟩
  ·rw [zce,List.length_append] at h
   have hl:f.said.length=f.body.length+1:=rfl
   obtain⟨A,g,R,j,h1,h2,h3⟩:=ih (k-(f.body.length+1)) (by omega)
   refine⟨f :: A,g,R,j,by rw [h1];rfl,?_,h3⟩
   rw [zce,List.length_append,hl];omega
theorem zeY{A R:List Fs}{f:Fs}:zaO (A++f :: R)=zaO A++(f.head :: f.body++zaO R):=by
 rw [zuu,zce];rfl
theorem zyE(fs:List Fs)(h0:fs≠[])(hn:(fs.map Fs.name).Nodup)(hb:∀ f∈fs,BodyOk (fs.map Fs.name) f.body):Prog (zaO fs):=by
 have hnf:∀ f∈fs,zmz f.body:=fun f hf=>(hb f hf).nofn
 have at0:∀(A:List Fs) (f:Fs) (R:List Fs),fs=A++f :: R→(zaO fs)[(zaO A).length]?=some f.head:=fun A f R e=>by
  rw [e,zeY,List.getElem?_append_right (Nat.le_refl _)];simp
 have at1:∀(A:List Fs) (f:Fs) (R:List Fs) (j:Nat) (hj:j<f.body.length),fs=A++f :: R→(zaO fs)[(zaO A).length+(j+1)]?=some f.body[j]:=fun A f R j hj e=>by
  rw [e,zeY,List.getElem?_append_right (by omega),show(zaO A).length+(j+1)-(zaO A).length=j+1 by omega,List.cons_append,List.getElem?_cons_succ,List.getElem?_append_left hj,List.getElem?_eq_getElem hj]
 have lab:∀(A:List Fs) (f:Fs) (R:List Fs) (j:Nat) (x:ByteArray),fs=A++f :: R→j≤f.body.length→zes (zaO fs) ((zaO A).length+j) x=match labI x f.body with|none=>-1|some i=>(((zaO A).length+1+i:Nat):Int):=fun A f R j x e hj=>by
  have hf:zmz f.body:=hnf f (by rw [e];simp)
  unfold zes
  rw [e,zeY,zr5 (zaO A) f.body (zaO R) f.head rfl hf j hj]
  have:=zwS (zaO A++[f.head]) f.body (zaO R) x hf (zm0 R)
  rw [List.length_append,List.append_assoc] at this
  simp only [List.length_singleton,List.singleton_append] at this
  rw [show((((zaO A).length:Int)+1).toNat)=(zaO A).length+1 by omega]
  exact this
 refine⟨fun q hq=>?_,?_,fun k hk=>?_,fun k hk=>?_,fun k hk=>?_⟩
 ·obtain⟨f,hf,hq⟩:=List.mem_flatMap.1 hq
  rcases List.mem_cons.1 hq with e|e
  ·rw [e]
  ·exact(hb f hf).ok q e
 ·cases fs with
  | nil=>exact absurd rfl h0
  | cons f t=>exact⟨f.head,f.body++zaO t,by rw [zce];rfl,rfl⟩
 ·obtain⟨A,f,R,j,e,rfl,hj⟩:=zoq fs k hk
  unfold zfh
  cases j with
  | zero =>
   rw [Nat.add_zero,at0 A f R e]
   show(if(102:Int)=102 then decide (zb3 (zaO fs) (ba f.name) 0<((zaO A).length:Int)) else _)=false
   rw [if_pos rfl]
   have:=zux fs [] f.name hnf
   rw [List.nil_append,List.length_nil] at this
   rw [this]
   have e2:fnI f.name fs=some A.length:=by rw [e];exact zzC (by rw [←e];exact hn)
   rw [e2]
   show decide (((0+offF fs A.length:Nat):Int)<_)=false
   rw [e,zzD];simp
  | succ j =>
   rw [at1 A f R j (by omega) e]
   have hf:=hb f (by rw [e];simp)
   have h1:=hf.nofn _ (List.getElem_mem (show j<f.body.length by omega))
   show(if f.body[j].kind=102 then _ else if f.body[j].kind=108 then _ else false)=false
   rw [if_neg h1]
   split
   ·rename_i h2
    rw [lab A f R (j+1) _ e (by omega),hf.labs j (by omega) h2]
    simp;omega
   ·rfl
 ·obtain⟨A,f,R,j,e,rfl,hj⟩:=zoq fs k hk
  unfold zco
  cases j with
  | zero=>rw [Nat.add_zero,at0 A f R e];rfl
  | succ j =>
   rw [at1 A f R j (by omega) e]
   have hf:=hb f (by rw [e];simp)
   have hm:=List.getElem_mem (show j<f.body.length by omega)
   show(if f.body[j].kind=105 then _ else false)=false
   split
   ·rename_i h2
    split
    ·rename_i h3
     rw [lab A f R (j+1) _ e (by omega)]
     have:=hf.asks _ hm h2 h3
     cases hl:labI f.body[j].last f.body with
     | none=>exact absurd hl this
     | some i=>simp;omega
    ·split
     ·rename_i h4
      obtain⟨x,hx,hl⟩:=hf.calls _ hm h2 h4
      rw [hl]
      have:=zux fs [] x hnf
      rw [List.nil_append,List.length_nil] at this
      rw [this]
      obtain⟨k,hk,_⟩:=zwU hx
      rw [hk];simp
     ·rfl
   ·rfl
 ·obtain⟨A,f,R,j,e,rfl,hj⟩:=zoq fs k hk
  unfold zdy
  cases j with
  | zero =>
   rw [Nat.add_zero,at0 A f R e]
   show(if(102:Int)=102 then !zfM (zaO fs) ((zaO A).length+1) false else false)=false
   rw [if_pos rfl]
   have hf:=hb f (by rw [e];simp)
   have:=zwT (zaO A++[f.head]) f.body (zaO R) false hf.nofn (zm0 R)
   rw [List.length_append,List.append_assoc] at this
   simp only [List.length_singleton,List.singleton_append] at this
   rw [e,zeY,List.cons_append,this,hf.ends];rfl
  | succ j =>
   rw [at1 A f R j (by omega) e]
   have hf:=hb f (by rw [e];simp)
   have h1:=hf.nofn _ (List.getElem_mem (show j<f.body.length by omega))
   show(if f.body[j].kind=102 then _ else false)=false
   rw [if_neg h1]
structure Ln where
 tab:Bool
 ws:List (List UInt8)
def Ln.blank(l:Ln):List UInt8:=if l.tab=true then [9] else []
def Ln.bytes(l:Ln):List UInt8:=l.blank++zcj l.ws
def Ln.said(l:Ln):Said:=sayW (l.ws.map ba)
def Ln.Ok(l:Ln):Prop:=∀ x∈l.ws,Wd x
theorem Ln.blanks(l:Ln):∀ c∈l.blank,c=32∨c=9:=fun c hc=>by
 unfold Ln.blank at hc
 split at hc
 ·exact .inr (List.mem_singleton.1 hc)
 ·cases hc
theorem Ln.say(l:Ln)(h:l.Ok){p s:List UInt8}(hp:∀ c∈p,c=32∨c=9)(hs:Suf s):say (ba (p++l.bytes++s))=l.said:=by
 have hb:∀ c∈p++l.blank,c=32∨c=9:=fun c hc=>by
  rcases List.mem_append.1 hc with e|e
  ·exact hp c e
  ·exact l.blanks c e
 have:=zwQ hb h hs
 unfold Ln.bytes
 rw [←List.append_assoc]
 exact this
theorem Ln.no10(l:Ln)(h:l.Ok){p s:List UInt8}(hp:∀ c∈p,c=32∨c=9)(hs:Suf s):∀ c∈p++l.bytes++s,¬c=10:=by
 have hb:∀ c∈p++l.blank,c=32∨c=9:=fun c hc=>by
  rcases List.mem_append.1 hc with e|e
  ·exact hp c e
  ·exact l.blanks c e
 have:=zuq hb h hs
 unfold Ln.bytes
 rw [←List.append_assoc]
 exact this
theorem Ln.say0(l:Ln)(h:l.Ok):Sp.say (ba l.bytes)=l.said:=by
 have:=l.say h blk0 zup
 simpa using this
theorem Ln.no10'(l:Ln)(h:l.Ok):∀ c∈l.bytes,¬c=10:=by
 have:=l.no10 h blk0 zup
 simpa using this
def labW(n:Nat):List UInt8:=108 :: decL n
def fnW(n:Nat):List UInt8:=102 :: decL n
theorem zkD{m n:Nat}(hm:m≤9223372036854775808)(hn:n≤9223372036854775808)(h:decL m=decL n):m=n:=by
 have h1:=zgj m hm
 rw [h,zgj n hn] at h1
 simp only [Option.some.injEq] at h1
 omega
theorem zeZ(k n:Nat)(h:n<10 ^ (k+1)):(decL n).length≤k+1:=by
 induction k generalizing n with
 | zero=>rw [zcd n (by simpa using h)];simp
 | succ k ih =>
  by_cases hs:n<10
  ·rw [zcd n hs];simp
  ·have:=ih (n/10) (by rw [Nat.pow_succ] at h;omega)
   rw [zeX n hs,List.length_append,List.length_singleton]
   omega
theorem zp5(n:Nat):∀ x∈decL n,zh8 x=true:=fun x hx=>by
 have:=zdi n x hx
 simp [zh8];omega
theorem zkE(n:Nat)(h:n≤1000000):za5 (ba (labW n))=true:=zkd 108 (decL n) (by decide) (zp5 n) (Nat.le_trans (zeZ 6 n (by omega)) (by decide))
theorem zuy(n:Nat)(h:n≤1000000):za5 (ba (fnW n))=true:=zkd 102 (decL n) (by decide) (zp5 n) (Nat.le_trans (zeZ 6 n (by omega)) (by decide))
theorem zxz(c:UInt8)(hc:33≤c.toNat∧c.toNat<127∧¬c.toNat=59)(n:Nat):Wd (c :: decL n):=⟨by simp,fun x hx=>by
 rcases List.mem_cons.1 hx with e|e
 ·rw [e];exact hc
 ·have:=zdi n x e;omega⟩
theorem zuz(n:Nat):Wd (labW n):=zxz 108 (by decide) n
theorem zzE(n:Nat):Wd (fnW n):=zxz 102 (by decide) n
theorem zwV{x:List UInt8}(h:Wd x):Wd (x++[58]):=⟨by simp,fun c hc=>by
 rcases List.mem_append.1 hc with e|e
 ·exact h.ok c e
 ·rw [List.mem_singleton.1 e];decide⟩
def labL(n:Nat):Ln:=⟨false,[labW n++[58]]⟩
def zdt(n:Nat):Ln:=⟨true,[[106,117,109,112],labW n]⟩
def zgm(i k n:Nat):Ln:=⟨true,[[108,101,115,115],regW i,regW k,labW n]⟩
def callL(k:Nat):Ln:=⟨true,[[99,97,108,108],fnW k]⟩
def setL(i:Nat)(a:Int):Ln:=⟨true,[[115,101,116],regW i,digL a]⟩
def incL(i:Nat)(a:Int):Ln:=⟨true,[[105,110,99],regW i,digL a]⟩
def zcO:Ln:=⟨true,[[98,97,99,107]]⟩
structure Plain(l:Ln):Prop where
 ok:l.Ok
 kind:l.said.kind=105
 good:l.said.ok=true
 lab:zaE (l.said.word 0)=false
 fn:zbt (l.said.word 0)=false
 short:l.bytes.length≤200
inductive Pc(nk:Nat):Nat→Nat→List Ln→Prop
 | nil (c:Nat):Pc nk c c []
 | app {a b c:Nat} {A B:List Ln} (h1:Pc nk a b A) (h2:Pc nk b c B):Pc nk a c (A++B)
 | ins (c:Nat) {l:Ln} (h:Plain l):Pc nk c c [l]
 | call (c:Nat) {k:Nat} (h:k<nk):Pc nk c c [callL k]
 | loop {c d:Nat} {i n:Nat} (hi:i<8) (hn:n<8) {l1 l2 l3:Ln} (h1:Plain l1) (h2:Plain l2) (h3:Plain l3) {B:List Ln} (h:Pc nk (c+3) d B) :
   Pc nk c d ([l1,l2,labL (c+1),zgm i n (c+2),zdt (c+3),labL (c+2)]++B++[l3,zdt (c+1),labL (c+3)])
theorem zkF(n:Nat):(labL n).Ok:=fun x hx=>by rw [List.mem_singleton.1 hx];exact zwV (zuz n)
theorem zm3(n:Nat):(zdt n).Ok:=fun x hx=>by
 simp only [zdt,List.mem_cons,List.not_mem_nil,or_false] at hx
 rcases hx with rfl|rfl
 ·exact zdA (by decide)
 ·exact zuz n
theorem zu0{i k:Nat}(hi:i<8)(hk:k<8)(n:Nat):(zgm i k n).Ok:=fun x hx=>by
 simp only [zgm,List.mem_cons,List.not_mem_nil,or_false] at hx
 rcases hx with rfl|rfl|rfl|rfl
 ·exact zdA (by decide)
 ·exact zfk i hi
 ·exact zfk k hk
 ·exact zuz n
theorem zu1(n:Nat):(callL n).Ok:=fun x hx=>by
 simp only [callL,List.mem_cons,List.not_mem_nil,or_false] at hx
 rcases hx with rfl|rfl
 ·exact zdA (by decide)
 ·exact zzE n
theorem zkG(n:Nat)(h:n≤1000000):(labL n).said=⟨108,[ba (labW n)],true⟩:=by
 show sayW ([labW n++[58]].map ba)=_
 rw [zwR,zkE n h]
theorem zgJ(x:List UInt8)(r:List (List UInt8))(sh:List UInt8)(h1:¬x=[102,117,110,99])(h2:(x.getLast? == some 58)=false)(h3:¬x=[])(h4:zaa (ba x)=sh)(h5:¬sh=[63])(h6:r.length=sh.length)(h7:za7 sh (r.map ba)=true):sayW ((x :: r).map ba)=⟨105,(x :: r).map ba,true⟩:=by
 rw [zyC x r sh h1 (fun y e=>by rw [e] at h2;simp at h2) h3 h4 h5 h6,h7]
theorem zyF{x:List UInt8}(h:za5 (ba x)=true):opOk 78 (ba x)=true:=by
 unfold opOk
 rw [if_neg (by decide),if_neg (by decide)];exact h
theorem zm4(n:Nat)(h:n≤1000000):(zdt n).said=⟨105,[ba [106,117,109,112],ba (labW n)],true⟩ :=
 zgJ [106,117,109,112] [labW n] [78] (by decide) (by decide) (by decide) (by kernel_rfl) (by decide) rfl (by simp [za7,zyF (zkE n h)])
theorem zu2{i k:Nat}(hi:i<8)(hk:k<8)(n:Nat)(h:n≤1000000):(zgm i k n).said=⟨105,[ba [108,101,115,115],ba (regW i),ba (regW k),ba (labW n)],true⟩ :=
 zgJ [108,101,115,115] [regW i,regW k,labW n] [82,82,78] (by decide) (by decide) (by decide) (by kernel_rfl) (by decide) rfl (by simp [za7,zyF (zkE n h),zeD i hi,zeD k hk])
theorem zu3(n:Nat)(h:n≤1000000):(callL n).said=⟨105,[ba [99,97,108,108],ba (fnW n)],true⟩ :=
 zgJ [99,97,108,108] [fnW n] [78] (by decide) (by decide) (by decide) (by kernel_rfl) (by decide) rfl (by simp [za7,zyF (zuy n h)])
theorem zwW{i:Nat}(hi:i<8){a:Int}(a0:-9223372036854775808≤a)(a1:a≤9223372036854775807):(setL i a).said=⟨105,[ba [115,101,116],ba (regW i),ba (digL a)],true⟩ :=
 zgJ [115,101,116] [regW i,digL a] [82,75] (by decide) (by decide) (by decide) (by kernel_rfl) (by decide) rfl (by simp [za7,zus a a0 a1,zeD i hi])
theorem zeE:zcO.said=⟨105,[ba [98,97,99,107]],true⟩ :=
 zgJ [98,97,99,107] [] [] (by decide) (by decide) (by decide) (by kernel_rfl) (by decide) rfl rfl
def labsOf(A:List Ln):List (List UInt8):=A.filterMap fun l=>if l.said.kind=108 then some (l.said.word 0).data.toList else none
theorem zcz(A B:List Ln):labsOf (A++B)=labsOf A++labsOf B:=by simp [labsOf]
theorem zfa{l:Ln}(h:l.said.kind=105):labsOf [l]=[]:=by simp [labsOf,h]
structure PcOk(nk a b:Nat)(A:List Ln):Prop where
 le:a≤b
 ok:∀ l∈A,l.Ok∧l.said.ok=true∧(l.said.kind=105∨l.said.kind=108)
 labs:∀ x∈labsOf A,∃ n,a<n∧n≤b∧x=labW n
 nodup:(labsOf A).Nodup
 asks:∀ l∈A,l.said.kind=105→zaE (l.said.word 0)=true→∃ x∈labsOf A,l.said.last=ba x
 calls:∀ l∈A,l.said.kind=105→zbt (l.said.word 0)=true→∃ k,k<nk∧l.said.last=ba (fnW k)
theorem PcOk.app{nk a b c:Nat}{A B:List Ln}(h1:PcOk nk a b A)(h2:PcOk nk b c B)(hc:c≤1000000):PcOk nk a c (A++B):=by
 have l1:=h1.le
 have l2:=h2.le
 refine⟨by omega,fun l hl=>?_,fun x hx=>?_,?_,fun l hl=>?_,fun l hl=>?_⟩
 ·rcases List.mem_append.1 hl with e|e
  ·exact h1.ok l e
  ·exact h2.ok l e
 ·rw [zcz] at hx
  rcases List.mem_append.1 hx with e|e
  ·obtain⟨n,x1,x2,x3⟩:=h1.labs x e
   exact⟨n,x1,by omega,x3⟩
  ·obtain⟨n,x1,x2,x3⟩:=h2.labs x e
   exact⟨n,by omega,x2,x3⟩
 ·rw [zcz,List.nodup_append]
  refine⟨h1.nodup,h2.nodup,fun x hx y hy e=>?_⟩
  obtain⟨n,x1,x2,x3⟩:=h1.labs x hx
  obtain⟨m,y1,y2,y3⟩:=h2.labs y hy
  rw [e,y3] at x3
  have:=zkD (m:=m) (n:=n) (by omega) (by omega) (List.cons.inj x3).2
  omega
 ·intro h3 h4
  rcases List.mem_append.1 hl with e|e
  ·obtain⟨x,hx,he⟩:=h1.asks l e h3 h4
   exact⟨x,by rw [zcz];exact List.mem_append_left _ hx,he⟩
  ·obtain⟨x,hx,he⟩:=h2.asks l e h3 h4
   exact⟨x,by rw [zcz];exact List.mem_append_right _ hx,he⟩
 ·rcases List.mem_append.1 hl with e|e
  ·exact h1.calls l e
  ·exact h2.calls l e
theorem PcOk.plain{nk c:Nat}{l:Ln}(h:Plain l):PcOk nk c c [l]:=by
 refine⟨Nat.le_refl _,fun x hx=>?_,fun x hx=>?_,?_,fun x hx _ h4=>?_,fun x hx _ h4=>?_⟩
 ·rw [List.mem_singleton.1 hx];exact⟨h.ok,h.good,.inl h.kind⟩
 ·rw [zfa h.kind] at hx;cases hx
 ·rw [zfa h.kind];exact List.nodup_nil
 ·rw [List.mem_singleton.1 hx,h.lab] at h4;cases h4
 ·rw [List.mem_singleton.1 hx,h.fn] at h4;cases h4
theorem PcOk.callL{nk c k:Nat}(hk:k<nk)(hn:nk≤1000000):PcOk nk c c [callL k]:=by
 have e:=zu3 k (by omega)
 refine⟨Nat.le_refl _,fun x hx=>?_,fun x hx=>?_,?_,fun x hx _ h4=>?_,fun x hx _ h4=>?_⟩
 ·rw [List.mem_singleton.1 hx,e];exact⟨zu1 k,rfl,.inl rfl⟩
 ·rw [zfa (by rw [e])] at hx;cases hx
 ·rw [zfa (by rw [e])];exact List.nodup_nil
 ·rw [List.mem_singleton.1 hx,e] at h4
  have a1:zaE (ba [99,97,108,108])=false:=by kernel_rfl
  exact absurd (a1.symm.trans h4) (by decide)
 ·rw [List.mem_singleton.1 hx,e]
  exact⟨k,hk,rfl⟩
theorem zm5:zaE (ba [106,117,109,112])=true∧zbt (ba [106,117,109,112])=false:=⟨by kernel_rfl,by kernel_rfl⟩
theorem zu4:zaE (ba [108,101,115,115])=true∧zbt (ba [108,101,115,115])=false:=⟨by kernel_rfl,by kernel_rfl⟩
theorem PcOk.loop{nk c d i n:Nat}(hi:i<8)(hn:n<8){l1 l2 l3:Ln}(h1:Plain l1)(h2:Plain l2)(h3:Plain l3){B:List Ln}(h:PcOk nk (c+3) d B)(hd:d≤1000000):
  PcOk nk c d ([l1,l2,labL (c+1),zgm i n (c+2),zdt (c+3),labL (c+2)]++B++[l3,zdt (c+1),labL (c+3)]):=by
 have hle:=h.le
 have s1:=zkG (c+1) (by omega)
 have s2:=zkG (c+2) (by omega)
 have s3:=zkG (c+3) (by omega)
 have sl:=zu2 hi hn (c+2) (by omega)
 have sj:=zm4 (c+3) (by omega)
 have sk:=zm4 (c+1) (by omega)
 have hlabs:labsOf ([l1,l2,labL (c+1),zgm i n (c+2),zdt (c+3),labL (c+2)]++B++[l3,zdt (c+1),labL (c+3)])=[labW (c+1),labW (c+2)]++labsOf B++[labW (c+3)]:=by
  have e1:labsOf [l1,l2,labL (c+1),zgm i n (c+2),zdt (c+3),labL (c+2)]=[labW (c+1),labW (c+2)]:=by
   simp only [labsOf,List.filterMap_cons,List.filterMap_nil,h1.kind,h2.kind,s1,s2,sl,sj]
   rfl
  have e2:labsOf [l3,zdt (c+1),labL (c+3)]=[labW (c+3)]:=by
   simp only [labsOf,List.filterMap_cons,List.filterMap_nil,h3.kind,s3,sk]
   rfl
  rw [zcz,zcz,e1,e2]
 have inj:∀ m p:Nat,m≤1000000→p≤1000000→labW m=labW p→m=p:=fun m p hm hp e=>zkD (by omega) (by omega) (List.cons.inj e).2
 refine⟨by omega,fun l hl=>?_,fun x hx=>?_,?_,fun l hl h4 h5=>?_,fun l hl h4 h5=>?_⟩
 ·simp only [List.mem_append,List.mem_cons,List.not_mem_nil,or_false] at hl
  rcases hl with ((rfl|rfl|rfl|rfl|rfl|rfl)|e)|(rfl|rfl|rfl)
  ·exact⟨h1.ok,h1.good,.inl h1.kind⟩
  ·exact⟨h2.ok,h2.good,.inl h2.kind⟩
  ·rw [s1];exact⟨zkF _,rfl,.inr rfl⟩
  ·rw [sl];exact⟨zu0 hi hn _,rfl,.inl rfl⟩
  ·rw [sj];exact⟨zm3 _,rfl,.inl rfl⟩
  ·rw [s2];exact⟨zkF _,rfl,.inr rfl⟩
  ·exact h.ok l e
  ·exact⟨h3.ok,h3.good,.inl h3.kind⟩
  ·rw [sk];exact⟨zm3 _,rfl,.inl rfl⟩
  ·rw [s3];exact⟨zkF _,rfl,.inr rfl⟩
 ·rw [hlabs] at hx
  simp only [List.mem_append,List.mem_cons,List.not_mem_nil,or_false] at hx
  rcases hx with ((rfl|rfl)|e)|rfl
  ·exact⟨c+1,by omega,by omega,rfl⟩
  ·exact⟨c+2,by omega,by omega,rfl⟩
  ·obtain⟨m,x1,x2,x3⟩:=h.labs x e
   exact⟨m,by omega,x2,x3⟩
  ·exact⟨c+3,by omega,by omega,rfl⟩
 ·rw [hlabs,List.nodup_append,List.nodup_append]
  refine⟨⟨?_,h.nodup,fun x hx y hy e=>?_⟩,(by simp),fun x hx y hy e=>?_⟩
  ·rw [List.nodup_cons]
   refine⟨fun e=>?_,(by simp)⟩
   have:=inj _ _ (by omega) (by omega) (List.mem_singleton.1 e)
   omega
  ·obtain⟨m,y1,y2,y3⟩:=h.labs y hy
   simp only [List.mem_cons,List.not_mem_nil,or_false] at hx
   rcases hx with hx|hx
   ·have:=inj _ _ (by omega) (by omega) (hx.symm.trans (e.trans y3));omega
   ·have:=inj _ _ (by omega) (by omega) (hx.symm.trans (e.trans y3));omega
  ·rw [List.mem_singleton.1 hy] at e
   rcases List.mem_append.1 hx with hx|hx
   ·simp only [List.mem_cons,List.not_mem_nil,or_false] at hx
    rcases hx with hx|hx
    ·have:=inj _ _ (by omega) (by omega) (hx.symm.trans e);omega
    ·have:=inj _ _ (by omega) (by omega) (hx.symm.trans e);omega
   ·obtain⟨m,y1,y2,y3⟩:=h.labs x hx
    have:=inj _ _ (by omega) (by omega) (y3.symm.trans e);omega
 ·rw [hlabs]
  simp only [List.mem_append,List.mem_cons,List.not_mem_nil,or_false] at hl
  rcases hl with ((rfl|rfl|rfl|rfl|rfl|rfl)|e)|(rfl|rfl|rfl)
  ·rw [h1.lab] at h5;cases h5
  ·rw [h2.lab] at h5;cases h5
  ·rw [s1] at h4;exact absurd (show(108:Int)=105 from h4) (by decide)
  ·rw [sl];exact⟨labW (c+2),by simp,rfl⟩
  ·rw [sj];exact⟨labW (c+3),by simp,rfl⟩
  ·rw [s2] at h4;exact absurd (show(108:Int)=105 from h4) (by decide)
  ·obtain⟨x,hx,he⟩:=h.asks l e h4 h5
   exact⟨x,by simp [hx],he⟩
  ·rw [h3.lab] at h5;cases h5
  ·rw [sk];exact⟨labW (c+1),by simp,rfl⟩
  ·rw [s3] at h4;exact absurd (show(108:Int)=105 from h4) (by decide)
 ·simp only [List.mem_append,List.mem_cons,List.not_mem_nil,or_false] at hl
  rcases hl with ((rfl|rfl|rfl|rfl|rfl|rfl)|e)|(rfl|rfl|rfl)
  ·rw [h1.fn] at h5;cases h5
  ·rw [h2.fn] at h5;cases h5
  ·rw [s1] at h4;exact absurd (show(108:Int)=105 from h4) (by decide)
  ·rw [sl] at h5;exact absurd (zu4.2.symm.trans h5) (by decide)
  ·rw [sj] at h5;exact absurd (zm5.2.symm.trans h5) (by decide)
  ·rw [s2] at h4;exact absurd (show(108:Int)=105 from h4) (by decide)
  ·exact h.calls l e h4 h5
  ·rw [h3.fn] at h5;cases h5
  ·rw [sk] at h5;exact absurd (zm5.2.symm.trans h5) (by decide)
  ·rw [s3] at h4;exact absurd (show(108:Int)=105 from h4) (by decide)
theorem Pc.le{nk a b:Nat}{A:List Ln}(h:Pc nk a b A):a≤b:=by
 induction h with
 | nil=>exact Nat.le_refl _
 | app _ _ i1 i2=>omega
 | ins=>exact Nat.le_refl _
 | call=>exact Nat.le_refl _
 | loop _ _ _ _ _ _ ih=>omega
theorem Pc.good{nk a b:Nat}{A:List Ln}(h:Pc nk a b A)(hn:nk≤1000000)(hb:b≤1000000):PcOk nk a b A:=by
 induction h with
 | nil=>exact⟨Nat.le_refl _,fun x hx=>(by cases hx),fun x hx=>(by cases hx),List.nodup_nil,fun x hx=>(by cases hx),fun x hx=>(by cases hx)⟩
 | app _ h2 i1 i2=>have:=h2.le;exact(i1 (by omega)).app (i2 hb) hb
 | ins _ h=>exact .plain h
 | call _ h=>exact .callL h hn
 | loop hi hn h1 h2 h3 _ ih=>exact .loop hi hn h1 h2 h3 (ih hb) hb
theorem zr6{b:List Said}{x:List UInt8}(h:∃ q∈b,q.kind=108∧q.word 0=ba x):labI (ba x) b≠none:=by
 obtain⟨q,hq,h1,h2⟩:=h
 induction b with
 | nil=>cases hq
 | cons p t ih =>
  intro e
  unfold labI at e
  split at e
  ·cases e
  ·rename_i hp
   rcases List.mem_cons.1 hq with e2|e2
   ·subst e2
    exact hp (by unfold zcF;rw [h1,h2,zm1];simp)
   ·cases hl:labI (ba x) t with
    | none=>exact ih e2 hl
    | some i=>rw [hl] at e;cases e
theorem zyG(A:List Ln)(hk:∀ l∈A,l.said.kind=108→∃ x,l.said.word 0=ba x)(hn:(labsOf A).Nodup)(j:Nat)(hj:j<(A.map Ln.said).length)(h8:(A.map Ln.said)[j].kind=108):labI ((A.map Ln.said)[j].word 0) (A.map Ln.said)=some j:=by
 induction A generalizing j with
 | nil=>simp at hj
 | cons l t ih =>
  cases j with
  | zero =>
   have h8':l.said.kind=108:=h8
   obtain⟨x,hx⟩:=hk l List.mem_cons_self h8'
   show labI (l.said.word 0) (l.said :: t.map Ln.said)=some 0
   unfold labI
   rw [if_pos (by unfold zcF;rw [h8',hx,zm1];simp)]
  | succ j =>
   have hj':j<(t.map Ln.said).length:=by simpa using hj
   have h8':(t.map Ln.said)[j].kind=108:=h8
   show labI ((t.map Ln.said)[j].word 0) (l.said :: t.map Ln.said)=some (j+1)
   have hn':(labsOf t).Nodup:=by
    have:labsOf (l :: t)=labsOf [l]++labsOf t:=zcz [l] t
    rw [this,List.nodup_append] at hn
    exact hn.2.1
   have ih2:=ih (fun p hp=>hk p (List.mem_cons_of_mem _ hp)) hn' j hj' h8'
   unfold labI
   rw [if_neg (fun e=>?_),ih2]
   ·rfl
   ·unfold zcF at e
    rw [Bool.and_eq_true] at e
    have hl8:l.said.kind=108:=of_decide_eq_true e.1
    obtain⟨x,hx⟩:=hk l List.mem_cons_self hl8
    have hmem:t[j]'(by simpa using hj')∈t:=List.getElem_mem _
    have hs:(t.map Ln.said)[j]=(t[j]'(by simpa using hj')).said:=by simp
    rw [hs] at h8' e
    obtain⟨y,hy⟩:=hk _ (List.mem_cons_of_mem _ hmem) h8'
    rw [hx,hy,zm1] at e
    have hxy:x=y:=of_decide_eq_true e.2
    have:labsOf (l :: t)=x :: labsOf t:=by
     unfold labsOf
     rw [List.filterMap_cons,if_pos hl8,hx]
     rfl
    rw [this,List.nodup_cons] at hn
    refine hn.1 ?_
    rw [hxy]
    unfold labsOf
    rw [List.mem_filterMap]
    exact⟨_,hmem,by rw [if_pos h8',hy];rfl⟩
def zff:Ln:=⟨false,[]⟩
theorem zjb:zff.said=⟨0,[],true⟩:=rfl
theorem zgK:Plain zcO:=⟨fun x hx=>by rw [List.mem_singleton.1 hx];exact zdA (by decide),by rw [zeE],by rw [zeE],by rw [zeE];kernel_rfl,by rw [zeE];kernel_rfl,by decide⟩
theorem zr7(E:List Ln)(hE:∀ l∈E,l=zff)(e:Bool):(E.map Ln.said).foldl (fun e q=>if q.kind=108 then false else if q.kind=105 then ends (q.word 0) else e) e=e:=by
 induction E with
 | nil=>rfl
 | cons l t ih =>
  rw [List.map_cons,List.foldl_cons,hE l List.mem_cons_self,zjb]
  exact ih (fun x hx=>hE x (List.mem_cons_of_mem _ hx))
theorem zyH{nk c:Nat}{A:List Ln}(h:Pc nk 0 c A)(hn:nk≤1000000)(hc:c≤1000000)(names:List (List UInt8))(hnm:∀ k,k<nk→fnW k∈names)(E:List Ln)(hE:∀ l∈E,l=zff):BodyOk names ((A++[zcO]++E).map Ln.said):=by
 have G:=(h.good hn hc)
 have G2:PcOk nk 0 c (A++[zcO]):=G.app (.plain zgK) hc
 have inE:∀ l∈A++[zcO]++E,l∈A++[zcO]∨l.said=⟨0,[],true⟩:=fun l hl=>by
  rcases List.mem_append.1 hl with e|e
  ·exact .inl e
  ·right;rw [hE l e,zjb]
 have hlabs:labsOf (A++[zcO]++E)=labsOf (A++[zcO]):=by
  rw [zcz]
  have:labsOf E=[]:=by
   unfold labsOf
   rw [List.filterMap_eq_nil_iff]
   intro l hl
   rw [hE l hl,zjb];rfl
  rw [this,List.append_nil]
 refine⟨fun q hq=>?_,fun q hq=>?_,fun j hj h8=>?_,fun q hq h5 h6=>?_,fun q hq h5 h6=>?_,?_⟩
 ·obtain⟨l,hl,rfl⟩:=List.mem_map.1 hq
  rcases inE l hl with e|e
  ·have:=(G2.ok l e).2.2
   omega
  ·rw [e];show ¬(0:Int)=102;decide
 ·obtain⟨l,hl,rfl⟩:=List.mem_map.1 hq
  rcases inE l hl with e|e
  ·exact(G2.ok l e).2.1
  ·rw [e]
 ·exact zyG _ (fun l _ _=>⟨(l.said.word 0).data.toList,(zof _).symm⟩) (by rw [hlabs];exact G2.nodup) j hj h8
 ·obtain⟨l,hl,rfl⟩:=List.mem_map.1 hq
  rcases inE l hl with e|e
  ·obtain⟨x,hx,he⟩:=G2.asks l e h5 h6
   rw [he]
   refine zr6 ?_
   unfold labsOf at hx
   obtain⟨p,hp,hpx⟩:=List.mem_filterMap.1 hx
   split at hpx
   ·rename_i h8
    refine⟨p.said,List.mem_map_of_mem (List.mem_append_left _ hp),h8,?_⟩
    rw [←Option.some.inj hpx,zof]
   ·cases hpx
  ·rw [e] at h5;exact absurd (show(0:Int)=105 from h5) (by decide)
 ·obtain⟨l,hl,rfl⟩:=List.mem_map.1 hq
  rcases inE l hl with e|e
  ·obtain⟨k,hk,he⟩:=G2.calls l e h5 h6
   exact⟨fnW k,hnm k hk,he⟩
  ·rw [e] at h5;exact absurd (show(0:Int)=105 from h5) (by decide)
 ·rw [List.map_append,List.foldl_append,zr7 E hE,List.map_append,List.foldl_append,List.map_singleton,List.foldl_cons,List.foldl_nil,zeE]
  show(if(105:Int)=108 then false else if(105:Int)=105 then ends (ba [98,97,99,107]) else _)=true
  rw [if_neg (by decide),if_pos rfl]
  kernel_rfl
def zdv(k:Nat):Ln:=⟨false,[[102,117,110,99],fnW k]⟩
def lnsT:List (List Ln)→List Ln
 | []=>[]
 | A :: r=>(zdv r.length :: (A++[zcO]))++lnsT r
def fsT:List (List Ln)→List Fs
 | []=>[]
 | A :: r=>⟨fnW r.length,(A++[zcO]++(if r=[] then [zff] else [])).map Ln.said⟩ :: fsT r
theorem zu5(k:Nat)(h:k≤1000000):(zdv k).said=⟨102,[ba [102,117,110,99],ba (fnW k)],true⟩:=by
 show sayW ([[102,117,110,99],fnW k].map ba)=_
 rw [zyB,zuy k h]
theorem zu6(k:Nat):(zdv k).Ok:=fun x hx=>by
 simp only [zdv,List.mem_cons,List.not_mem_nil,or_false] at hx
 rcases hx with rfl|rfl
 ·exact zdA (by decide)
 ·exact zzE k
theorem zyI(G:List (List Ln))(h:¬G=[])(hl:G.length≤1000000):zaO (fsT G)=(lnsT G++[zff]).map Ln.said:=by
 induction G with
 | nil=>exact absurd rfl h
 | cons A r ih =>
  have hh:=zu5 r.length (by simp at hl;omega)
  show zaO (⟨fnW r.length,(A++[zcO]++(if r=[] then [zff] else [])).map Ln.said⟩ :: fsT r)=((zdv r.length :: (A++[zcO]))++lnsT r++[zff]).map Ln.said
  rw [zce]
  cases r with
  | nil =>
   show Fs.said _++[]=((zdv 0 :: (A++[zcO]))++[]++[zff]).map Ln.said
   rw [List.append_nil,List.append_nil,List.cons_append,List.map_cons]
   unfold Fs.said
   rw [show zdv 0=zdv ([]:List (List Ln)).length from rfl,hh]
   rfl
  | cons B t =>
   rw [ih (by simp) (by simp at hl ⊢;omega),if_neg (by simp),List.append_nil]
   rw [show zdv (B :: t).length :: (A++[zcO])++lnsT (B :: t)++[zff]=zdv (B :: t).length :: ((A++[zcO])++(lnsT (B :: t)++[zff])) by simp,List.map_cons,hh,List.map_append (l₁:=A++[zcO])]
   rfl
theorem zu7(G:List (List Ln)):(fsT G).map Fs.name=(List.range G.length).reverse.map fnW:=by
 induction G with
 | nil=>rfl
 | cons A r ih =>
  show fnW r.length :: (fsT r).map Fs.name=_
  rw [ih,List.length_cons,List.range_succ,List.reverse_append]
  rfl
theorem zyJ{m n:Nat}(hm:m≤1000000)(hn:n≤1000000)(h:fnW m=fnW n):m=n:=zkD (by omega) (by omega) (List.cons.inj h).2
theorem zor(n:Nat)(h:n≤1000000):((List.range n).reverse.map fnW).Nodup:=by
 rw [List.Nodup,List.pairwise_map]
 have:(List.range n).reverse.Nodup:=by
  rw [List.Nodup,List.pairwise_reverse]
  exact List.nodup_range.imp fun h=>Ne.symm h
 refine List.Pairwise.imp_of_mem (fun{a b} ha hb hne e=>hne ?_) this
 rw [List.mem_reverse,List.mem_range] at ha hb
 exact zyJ (by omega) (by omega) e
inductive Wrote:List (List Ln)→Prop
 | nil:Wrote []
 | cons {A:List Ln} {r:List (List Ln)} {c:Nat} (h:Pc r.length 0 c A) (hc:c≤1000000) (hr:Wrote r):Wrote (A :: r)
theorem Wrote.body{G:List (List Ln)}(h:Wrote G)(names:List (List UInt8))(hnm:∀ k,k<G.length→fnW k∈names)(hl:G.length≤1000000):∀ f∈fsT G,BodyOk names f.body:=by
 induction h with
 | nil=>intro f hf;cases hf
 | cons h hc hr ih =>
  intro f hf
  rcases List.mem_cons.1 hf with e|e
  ·rw [e]
   refine zyH h (by simp at hl;omega) hc names (fun k hk=>hnm k (by simp;omega)) _ (fun l hl=>?_)
   split at hl
   ·exact List.mem_singleton.1 hl
   ·cases hl
  ·exact ih (fun k hk=>hnm k (by simp;omega)) (by simp at hl;omega) f e
theorem Wrote.ok{G:List (List Ln)}(h:Wrote G)(hl:G.length≤1000000):∀ l∈lnsT G++[zff],l.Ok:=by
 have he:zff.Ok:=fun x hx=>by cases hx
 intro l hl2
 rcases List.mem_append.1 hl2 with e|e
 ·clear hl2
  induction h with
  | nil=>cases e
  | cons h hc hr ih =>
   simp only [List.length_cons] at hl
   rcases List.mem_append.1 e with e|e
   ·rcases List.mem_cons.1 e with e|e
    ·rw [e];exact zu6 _
    ·rcases List.mem_append.1 e with e|e
     ·exact((h.good (by omega) hc).ok l e).1
     ·rw [List.mem_singleton.1 e];exact zgK.ok
   ·exact ih (by omega) e
 ·rw [List.mem_singleton.1 e];exact he
def zfg(G:List (List Ln)):List UInt8:=zcB ((lnsT G).map Ln.bytes)
theorem zwX{ls:List (List UInt8)}(h:∀ l∈ls,∀ c∈l,¬c=10)(last:List UInt8)(h2:∀ c∈last,¬c=10):zbP (zcB ls++last)=ls++[last]:=by
 rw [zoj ls last h,zoi last h2]
theorem zgL(n:Nat)(h:n≤1000000):(labW n).length≤8:=by
 have:=zeZ 6 n (by omega)
 show(decL n).length+1≤8
 omega
theorem zu8(n:Nat)(h:n≤1000000):(fnW n).length≤8:=by
 have:=zeZ 6 n (by omega)
 show(decL n).length+1≤8
 omega
theorem Pc.short{nk a b:Nat}{A:List Ln}(h:Pc nk a b A)(hn:nk≤1000000)(hb:b≤1000000):∀ l∈A,l.bytes.length≤200:=by
 induction h with
 | nil=>intro l hl;cases hl
 | app _ h2 i1 i2 =>
  intro l hl
  rcases List.mem_append.1 hl with e|e
  ·exact i1 (Nat.le_trans h2.le hb) l e
  ·exact i2 hb l e
 | ins _ h=>intro l hl;rw [List.mem_singleton.1 hl];exact h.short
 | call _ h =>
  rename_i k
  intro l hl
  have:=zu8 k (by omega)
  rw [List.mem_singleton.1 hl]
  simp [callL,Ln.bytes,Ln.blank,zcj]
  omega
 | loop hi hn h1 h2 h3 h ih =>
  rename_i c d i n l1 l2 l3 B
  have hle:=h.le
  have w1:=zgL (c+1) (by omega)
  have w2:=zgL (c+2) (by omega)
  have w3:=zgL (c+3) (by omega)
  intro l hl
  simp only [List.mem_append,List.mem_cons,List.not_mem_nil,or_false] at hl
  rcases hl with ((rfl|rfl|rfl|rfl|rfl|rfl)|e)|(rfl|rfl|rfl)
  ·exact h1.short
  ·exact h2.short
  ·simp [labL,Ln.bytes,Ln.blank,zcj];omega
  ·simp [zgm,Ln.bytes,Ln.blank,zcj,regW];omega
  ·simp [zdt,Ln.bytes,Ln.blank,zcj];omega
  ·simp [labL,Ln.bytes,Ln.blank,zcj];omega
  ·exact ih hb l e
  ·exact h3.short
  ·simp [zdt,Ln.bytes,Ln.blank,zcj];omega
  ·simp [labL,Ln.bytes,Ln.blank,zcj];omega
end Sp
end Go.Proofs.YtfpgjkbjbbgciaaGreatDoor
