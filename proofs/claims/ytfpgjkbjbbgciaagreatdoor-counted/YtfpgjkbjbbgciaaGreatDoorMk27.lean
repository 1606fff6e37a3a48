import Derived.Test.YtfpgjkbjbbgciaaGreatDoorMk21
set_option maxRecDepth 100000
set_option maxHeartbeats 8000000
namespace Go.Proofs.YtfpgjkbjbbgciaaGreatDoor.Sp
structure Ln where
 tab:Bool
 ws:List (List UInt8)
def Ln.blank(l:Ln):List UInt8:=if l.tab=true then [9] else []
def Ln.bytes(l:Ln):List UInt8:=l.blank++zc8 l.ws
def Ln.said(l:Ln):Said:=sayW (l.ws.map ba)
def Ln.Ok(l:Ln):Prop:=∀ x∈l.ws,Wd x
theorem Ln.blanks(l:Ln):∀ c∈l.blank,c=32∨c=9:=fun c hc=>by
 unfold Ln.blank at hc;split at hc
 ·exact .inr (List.mem_singleton.1 hc)
 ·cases hc
theorem Ln.say(l:Ln)(h:l.Ok){p s:List UInt8}(hp:∀ c∈p,c=32∨c=9)(hs:Suf s):say (ba (p++l.bytes++s))=l.said:=by
 have a:∀ c∈p++l.blank,c=32∨c=9:=fun c hc=>by
  rcases List.mem_append.1 hc with e|e
  ·exact hp c e
  ·exact l.blanks c e
 have:=zx1 a h hs;unfold Ln.bytes;rw [←List.append_assoc];exact this
theorem Ln.no10(l:Ln)(h:l.Ok){p s:List UInt8}(hp:∀ c∈p,c=32∨c=9)(hs:Suf s):∀ c∈p++l.bytes++s,¬c=10:=by
 have a:∀ c∈p++l.blank,c=32∨c=9:=fun c hc=>by
  rcases List.mem_append.1 hc with e|e
  ·exact hp c e
  ·exact l.blanks c e
 have:=zuM a h hs;unfold Ln.bytes;rw [←List.append_assoc];exact this
theorem Ln.say0(l:Ln)(h:l.Ok):Sp.say (ba l.bytes)=l.said:=by
 have:=l.say h blk0 zuL;simpa using this
theorem Ln.no10'(l:Ln)(h:l.Ok):∀ c∈l.bytes,¬c=10:=by
 have:=l.no10 h blk0 zuL;simpa using this
def labW(n:Nat):List UInt8:=108 :: decL n
def fnW(n:Nat):List UInt8:=102 :: decL n
theorem zkZ{m n:Nat}(hm:m≤9223372036854775808)(hn:n≤9223372036854775808)(h:decL m=decL n):m=n:=by
 have a:=zgh m hm;rw [h,zgh n hn] at a;simp only [Option.some.injEq] at a;omega
theorem zeP(k n:Nat)(h:n<10 ^ (k+1)):(decL n).length≤k+1:=by
 induction k generalizing n with
 | zero=>rw [zbY n (by simpa using h)];simp
 | succ k ih =>
  by_cases a:n<10
  ·rw [zbY n a];simp
  ·have:=ih (n/10) (by rw [Nat.pow_succ] at h;omega);rw [zeN n a,List.length_append,List.length_singleton];omega
theorem zpS(n:Nat):∀ x∈decL n,zhE x=true:=fun x hx=>by
 have:=zdc n x hx;simp [zhE];omega
theorem zla(n:Nat)(h:n≤1000000):za6 (ba (labW n))=true:=zko 108 (decL n) (by decide) (zpS n) (Nat.le_trans (zeP 6 n (by omega)) (by decide))
theorem zuR(n:Nat)(h:n≤1000000):za6 (ba (fnW n))=true:=zko 102 (decL n) (by decide) (zpS n) (Nat.le_trans (zeP 6 n (by omega)) (by decide))
theorem zyd(c:UInt8)(hc:33≤c.toNat∧c.toNat<127∧¬c.toNat=59)(n:Nat):Wd (c :: decL n):=⟨by simp,fun x hx=>by
 rcases List.mem_cons.1 hx with e|e
 ·rw [e];exact hc
 ·have:=zdc n x e;omega⟩
theorem zuS(n:Nat):Wd (labW n):=zyd 108 (by decide) n
theorem zAn(n:Nat):Wd (fnW n):=zyd 102 (by decide) n
theorem zx5{x:List UInt8}(h:Wd x):Wd (x++[58]):=⟨by simp,fun c hc=>by
 rcases List.mem_append.1 hc with e|e
 ·exact h.ok c e
 ·rw [List.mem_singleton.1 e];decide⟩
def labL(n:Nat):Ln:=⟨false,[labW n++[58]]⟩
def zcA(n:Nat):Ln:=⟨true,[[106,117,109,112],labW n]⟩
def ze4(i k n:Nat):Ln:=⟨true,[[108,101,115,115],regW i,regW k,labW n]⟩
def callL(k:Nat):Ln:=⟨true,[[99,97,108,108],fnW k]⟩
def setL(i:Nat)(a:Int):Ln:=⟨true,[[115,101,116],regW i,digL a]⟩
def incL(i:Nat)(a:Int):Ln:=⟨true,[[105,110,99],regW i,digL a]⟩
def zbZ:Ln:=⟨true,[[98,97,99,107]]⟩
structure Plain(l:Ln):Prop where
 ok:l.Ok
 kind:l.said.kind=105
 good:l.said.ok=true
 lab:zaF (l.said.word 0)=false
 fn:zbt (l.said.word 0)=false
 short:l.bytes.length≤200
inductive Pc(nk:Nat):Nat→Nat→List Ln→Prop
 | nil (c:Nat):Pc nk c c []
 | app {a b c:Nat} {A B:List Ln} (h1:Pc nk a b A) (h2:Pc nk b c B):Pc nk a c (A++B)
 | ins (c:Nat) {l:Ln} (h:Plain l):Pc nk c c [l]
 | call (c:Nat) {k:Nat} (h:k<nk):Pc nk c c [callL k]
 | loop {c d:Nat} {i n:Nat} (hi:i<8) (hn:n<8) {l1 l2 l3:Ln} (h1:Plain l1) (h2:Plain l2) (h3:Plain l3) {B:List Ln} (h:Pc nk (c+3) d B) :
   Pc nk c d ([l1,l2,labL (c+1),ze4 i n (c+2),zcA (c+3),labL (c+2)]++B++[l3,zcA (c+1),labL (c+3)])
theorem zlb(n:Nat):(labL n).Ok:=fun x hx=>by rw [List.mem_singleton.1 hx];exact zx5 (zuS n)
theorem zmP(n:Nat):(zcA n).Ok:=fun x hx=>by
 simp only [zcA,List.mem_cons,List.not_mem_nil,or_false] at hx;rcases hx with rfl|rfl
 ·exact zf6 (by decide)
 ·exact zuS n
theorem zuT{i k:Nat}(hi:i<8)(hk:k<8)(n:Nat):(ze4 i k n).Ok:=fun x hx=>by
 simp only [ze4,List.mem_cons,List.not_mem_nil,or_false] at hx;rcases hx with rfl|rfl|rfl|rfl
 ·exact zf6 (by decide)
 ·exact zfa i hi
 ·exact zfa k hk
 ·exact zuS n
theorem zuU(n:Nat):(callL n).Ok:=fun x hx=>by
 simp only [callL,List.mem_cons,List.not_mem_nil,or_false] at hx;rcases hx with rfl|rfl
 ·exact zf6 (by decide)
 ·exact zAn n
theorem zhF(n:Nat)(h:n≤1000000):(labL n).said=⟨108,[ba (labW n)],true⟩:=by
 show sayW ([labW n++[58]].map ba)=_;rw [zx2,zla n h]
theorem zco(x:List UInt8)(r:List (List UInt8))(sh:List UInt8)(h1:¬x=[102,117,110,99])(h2:(x.getLast? == some 58)=false)(h3:¬x=[])(h4:zaa (ba x)=sh)(h5:¬sh=[63])(h6:r.length=sh.length)(h7:za1 sh (r.map ba)=true):sayW ((x :: r).map ba)=⟨105,(x :: r).map ba,true⟩:=by
 rw [zzn x r sh h1 (fun y e=>by rw [e] at h2;simp at h2) h3 h4 h5 h6,h7]
theorem zzq{x:List UInt8}(h:za6 (ba x)=true):opOk 78 (ba x)=true:=by
 unfold opOk;rw [if_neg (by decide),if_neg (by decide)];exact h
theorem zjq(n:Nat)(h:n≤1000000):(zcA n).said=⟨105,[ba [106,117,109,112],ba (labW n)],true⟩ :=
 zco [106,117,109,112] [labW n] [78] (by decide) (by decide) (by decide) (by kernel_rfl) (by decide) rfl (by simp [za1,zzq (zla n h)])
theorem zmQ{i k:Nat}(hi:i<8)(hk:k<8)(n:Nat)(h:n≤1000000):(ze4 i k n).said=⟨105,[ba [108,101,115,115],ba (regW i),ba (regW k),ba (labW n)],true⟩ :=
 zco [108,101,115,115] [regW i,regW k,labW n] [82,82,78] (by decide) (by decide) (by decide) (by kernel_rfl) (by decide) rfl (by simp [za1,zzq (zla n h),zbo i hi,zbo k hk])
theorem zmR(n:Nat)(h:n≤1000000):(callL n).said=⟨105,[ba [99,97,108,108],ba (fnW n)],true⟩ :=
 zco [99,97,108,108] [fnW n] [78] (by decide) (by decide) (by decide) (by kernel_rfl) (by decide) rfl (by simp [za1,zzq (zuR n h)])
theorem zx6{i:Nat}(hi:i<8){a:Int}(a0:-9223372036854775808≤a)(a1:a≤9223372036854775807):(setL i a).said=⟨105,[ba [115,101,116],ba (regW i),ba (digL a)],true⟩ :=
 zco [115,101,116] [regW i,digL a] [82,75] (by decide) (by decide) (by decide) (by kernel_rfl) (by decide) rfl (by simp [za1,zpP a a0 a1,zbo i hi])
theorem zdJ:zbZ.said=⟨105,[ba [98,97,99,107]],true⟩ :=
 zco [98,97,99,107] [] [] (by decide) (by decide) (by decide) (by kernel_rfl) (by decide) rfl rfl
def labsOf(A:List Ln):List (List UInt8):=A.filterMap fun l=>if l.said.kind=108 then some (l.said.word 0).data.toList else none
theorem zcz(A B:List Ln):labsOf (A++B)=labsOf A++labsOf B:=by simp [labsOf]
theorem zeQ{l:Ln}(h:l.said.kind=105):labsOf [l]=[]:=by simp [labsOf,h]
structure PcOk(nk a b:Nat)(A:List Ln):Prop where
 le:a≤b
 ok:∀ l∈A,l.Ok∧l.said.ok=true∧(l.said.kind=105∨l.said.kind=108)
 labs:∀ x∈labsOf A,∃ n,a<n∧n≤b∧x=labW n
 nodup:(labsOf A).Nodup
 asks:∀ l∈A,l.said.kind=105→zaF (l.said.word 0)=true→∃ x∈labsOf A,l.said.last=ba x
 calls:∀ l∈A,l.said.kind=105→zbt (l.said.word 0)=true→∃ k,k<nk∧l.said.last=ba (fnW k)
theorem PcOk.app{nk a b c:Nat}{A B:List Ln}(h1:PcOk nk a b A)(h2:PcOk nk b c B)(hc:c≤1000000):PcOk nk a c (A++B):=by
 have l1:=h1.le;have l2:=h2.le;refine⟨by omega,fun l hl=>?_,fun x d=>?_,?_,fun l hl=>?_,fun l hl=>?_⟩
 ·rcases List.mem_append.1 hl with e|e
  ·exact h1.ok l e
  ·exact h2.ok l e
 ·rw [zcz] at d;rcases List.mem_append.1 d with e|e
  ·obtain⟨n,h,i,f⟩:=h1.labs x e;exact⟨n,h,by omega,f⟩
  ·obtain⟨n,h,i,f⟩:=h2.labs x e;exact⟨n,by omega,i,f⟩
 ·rw [zcz,List.nodup_append];refine⟨h1.nodup,h2.nodup,fun x d y hy e=>?_⟩;obtain⟨n,h,i,f⟩:=h1.labs x d;obtain⟨m,y1,y2,p⟩:=h2.labs y hy;rw [e,p] at f;have:=zkZ (m:=m) (n:=n) (by omega) (by omega) (List.cons.inj f).2;omega
 ·intro k o;rcases List.mem_append.1 hl with e|e
  ·obtain⟨x,d,g⟩:=h1.asks l e k o;exact⟨x,by rw [zcz];exact List.mem_append_left _ d,g⟩
  ·obtain⟨x,d,g⟩:=h2.asks l e k o;exact⟨x,by rw [zcz];exact List.mem_append_right _ d,g⟩
 ·rcases List.mem_append.1 hl with e|e
  ·exact h1.calls l e
  ·exact h2.calls l e
theorem PcOk.plain{nk c:Nat}{l:Ln}(h:Plain l):PcOk nk c c [l]:=by
 refine⟨Nat.le_refl _,fun x hx=>?_,fun x hx=>?_,?_,fun x hx _ h4=>?_,fun x hx _ h4=>?_⟩
 ·rw [List.mem_singleton.1 hx];exact⟨h.ok,h.good,.inl h.kind⟩
 ·rw [zeQ h.kind] at hx;cases hx
 ·rw [zeQ h.kind];exact List.nodup_nil
 ·rw [List.mem_singleton.1 hx,h.lab] at h4;cases h4
 ·rw [List.mem_singleton.1 hx,h.fn] at h4;cases h4
theorem PcOk.callL{nk c k:Nat}(hk:k<nk)(hn:nk≤1000000):PcOk nk c c [callL k]:=by
 have e:=zmR k (by omega);refine⟨Nat.le_refl _,fun x hx=>?_,fun x hx=>?_,?_,fun x hx _ h4=>?_,fun x hx _ h4=>?_⟩
 ·rw [List.mem_singleton.1 hx,e];exact⟨zuU k,rfl,.inl rfl⟩
 ·rw [zeQ (by rw [e])] at hx;cases hx
 ·rw [zeQ (by rw [e])];exact List.nodup_nil
 ·rw [List.mem_singleton.1 hx,e] at h4;have a:zaF (ba [99,97,108,108])=false:=by kernel_rfl
  exact absurd (a.symm.trans h4) (by decide)
 ·rw [List.mem_singleton.1 hx,e];exact⟨k,hk,rfl⟩
theorem zmS:zaF (ba [106,117,109,112])=true∧zbt (ba [106,117,109,112])=false:=⟨by kernel_rfl,by kernel_rfl⟩
theorem zuV:zaF (ba [108,101,115,115])=true∧zbt (ba [108,101,115,115])=false:=⟨by kernel_rfl,by kernel_rfl⟩
theorem PcOk.loop{nk c d i n:Nat}(hi:i<8)(hn:n<8){l1 l2 l3:Ln}(h1:Plain l1)(h2:Plain l2)(h3:Plain l3){B:List Ln}(h:PcOk nk (c+3) d B)(hd:d≤1000000):
  PcOk nk c d ([l1,l2,labL (c+1),ze4 i n (c+2),zcA (c+3),labL (c+2)]++B++[l3,zcA (c+1),labL (c+3)]):=by
 have hle:=h.le;have o:=zhF (c+1) (by omega);have q:=zhF (c+2) (by omega);have r:=zhF (c+3) (by omega);have u:=zmQ hi hn (c+2) (by omega);have s:=zjq (c+3) (by omega);have t:=zjq (c+1) (by omega);have hlabs:labsOf ([l1,l2,labL (c+1),ze4 i n (c+2),zcA (c+3),labL (c+2)]++B++[l3,zcA (c+1),labL (c+3)])=[labW (c+1),labW (c+2)]++labsOf B++[labW (c+3)]:=by
  have g:labsOf [l1,l2,labL (c+1),ze4 i n (c+2),zcA (c+3),labL (c+2)]=[labW (c+1),labW (c+2)]:=by
   simp only [labsOf,List.filterMap_cons,List.filterMap_nil,h1.kind,h2.kind,o,q,u,s];rfl
  have j:labsOf [l3,zcA (c+1),labL (c+3)]=[labW (c+3)]:=by
   simp only [labsOf,List.filterMap_cons,List.filterMap_nil,h3.kind,r,t];rfl
  rw [zcz,zcz,g,j]
 have inj:∀ m p:Nat,m≤1000000→p≤1000000→labW m=labW p→m=p:=fun m p hm hp e=>zkZ (by omega) (by omega) (List.cons.inj e).2;refine⟨by omega,fun l hl=>?_,fun x a=>?_,?_,fun l hl h4 h5=>?_,fun l hl h4 h5=>?_⟩
 ·simp only [List.mem_append,List.mem_cons,List.not_mem_nil,or_false] at hl;rcases hl with ((rfl|rfl|rfl|rfl|rfl|rfl)|e)|(rfl|rfl|rfl)
  ·exact⟨h1.ok,h1.good,.inl h1.kind⟩
  ·exact⟨h2.ok,h2.good,.inl h2.kind⟩
  ·rw [o];exact⟨zlb _,rfl,.inr rfl⟩
  ·rw [u];exact⟨zuT hi hn _,rfl,.inl rfl⟩
  ·rw [s];exact⟨zmP _,rfl,.inl rfl⟩
  ·rw [q];exact⟨zlb _,rfl,.inr rfl⟩
  ·exact h.ok l e
  ·exact⟨h3.ok,h3.good,.inl h3.kind⟩
  ·rw [t];exact⟨zmP _,rfl,.inl rfl⟩
  ·rw [r];exact⟨zlb _,rfl,.inr rfl⟩
 ·rw [hlabs] at a;simp only [List.mem_append,List.mem_cons,List.not_mem_nil,or_false] at a;rcases a with ((rfl|rfl)|e)|rfl
  ·exact⟨c+1,by omega,by omega,rfl⟩
  ·exact⟨c+2,by omega,by omega,rfl⟩
  ·obtain⟨m,x1,v,w⟩:=h.labs x e;exact⟨m,by omega,v,w⟩
  ·exact⟨c+3,by omega,by omega,rfl⟩
 ·rw [hlabs,List.nodup_append,List.nodup_append];refine⟨⟨?_,h.nodup,fun x a y hy e=>?_⟩,(by simp),fun x a y hy e=>?_⟩
  ·rw [List.nodup_cons];refine⟨fun e=>?_,(by simp)⟩;have:=inj _ _ (by omega) (by omega) (List.mem_singleton.1 e);omega
  ·obtain⟨m,z,A,f⟩:=h.labs y hy;simp only [List.mem_cons,List.not_mem_nil,or_false] at a;rcases a with a|a
   ·have:=inj _ _ (by omega) (by omega) (a.symm.trans (e.trans f));omega
   ·have:=inj _ _ (by omega) (by omega) (a.symm.trans (e.trans f));omega
  ·rw [List.mem_singleton.1 hy] at e;rcases List.mem_append.1 a with a|a
   ·simp only [List.mem_cons,List.not_mem_nil,or_false] at a;rcases a with a|a
    ·have:=inj _ _ (by omega) (by omega) (a.symm.trans e);omega
    ·have:=inj _ _ (by omega) (by omega) (a.symm.trans e);omega
   ·obtain⟨m,z,A,f⟩:=h.labs x a;have:=inj _ _ (by omega) (by omega) (f.symm.trans e);omega
 ·rw [hlabs];simp only [List.mem_append,List.mem_cons,List.not_mem_nil,or_false] at hl;rcases hl with ((rfl|rfl|rfl|rfl|rfl|rfl)|e)|(rfl|rfl|rfl)
  ·rw [h1.lab] at h5;cases h5
  ·rw [h2.lab] at h5;cases h5
  ·rw [o] at h4;exact absurd (show(108:Int)=105 from h4) (by decide)
  ·rw [u];exact⟨labW (c+2),by simp,rfl⟩
  ·rw [s];exact⟨labW (c+3),by simp,rfl⟩
  ·rw [q] at h4;exact absurd (show(108:Int)=105 from h4) (by decide)
  ·obtain⟨x,a,k⟩:=h.asks l e h4 h5;exact⟨x,by simp [a],k⟩
  ·rw [h3.lab] at h5;cases h5
  ·rw [t];exact⟨labW (c+1),by simp,rfl⟩
  ·rw [r] at h4;exact absurd (show(108:Int)=105 from h4) (by decide)
 ·simp only [List.mem_append,List.mem_cons,List.not_mem_nil,or_false] at hl;rcases hl with ((rfl|rfl|rfl|rfl|rfl|rfl)|e)|(rfl|rfl|rfl)
  ·rw [h1.fn] at h5;cases h5
  ·rw [h2.fn] at h5;cases h5
  ·rw [o] at h4;exact absurd (show(108:Int)=105 from h4) (by decide)
  ·rw [u] at h5;exact absurd (zuV.2.symm.trans h5) (by decide)
  ·rw [s] at h5;exact absurd (zmS.2.symm.trans h5) (by decide)
  ·rw [q] at h4;exact absurd (show(108:Int)=105 from h4) (by decide)
  ·exact h.calls l e h4 h5
  ·rw [h3.fn] at h5;cases h5
  ·rw [t] at h5;exact absurd (zmS.2.symm.trans h5) (by decide)
  ·rw [r] at h4;exact absurd (show(108:Int)=105 from h4) (by decide)
theorem Pc.le{nk a b:Nat}{A:List Ln}(h:Pc nk a b A):a≤b:=by
 induction h with
 | nil=>exact Nat.le_refl _
 | app _ _ i1 i2=>omega
 | ins=>exact Nat.le_refl _
 | call=>exact Nat.le_refl _
 | loop _ _ _ _ _ _ ih=>omega
theorem Pc.good{nk a b:Nat}{A:List Ln}(h:Pc nk a b A)(hn:nk≤1000000)(hb:b≤1000000):PcOk nk a b A:=by
 induction h with
 | nil=>exact⟨Nat.le_refl _,fun x hx=>(by cases hx),fun x hx=>(by cases hx),List.nodup_nil,fun x hx=>(by cases hx),fun x hx=>(by cases hx)⟩
 | app _ h2 i1 i2=>have:=h2.le;exact(i1 (by omega)).app (i2 hb) hb
 | ins _ h=>exact .plain h
 | call _ h=>exact .callL h hn
 | loop hi hn h1 h2 h3 _ ih=>exact .loop hi hn h1 h2 h3 (ih hb) hb
theorem zsb{b:List Said}{x:List UInt8}(h:∃ q∈b,q.kind=108∧q.word 0=ba x):labI (ba x) b≠none:=by
 obtain⟨q,c,h1,d⟩:=h
 induction b with
 | nil=>cases c
 | cons p t ih =>
  intro e;unfold labI at e;split at e
  ·cases e
  ·rename_i hp;rcases List.mem_cons.1 c with a|a
   ·subst a;exact hp (by unfold zcO;rw [h1,d,zpR];simp)
   ·cases hl:labI (ba x) t with
    | none=>exact ih a hl
    | some i=>rw [hl] at e;cases e
theorem zzr(A:List Ln)(hk:∀ l∈A,l.said.kind=108→∃ x,l.said.word 0=ba x)(hn:(labsOf A).Nodup)(j:Nat)(hj:j<(A.map Ln.said).length)(h8:(A.map Ln.said)[j].kind=108):labI ((A.map Ln.said)[j].word 0) (A.map Ln.said)=some j:=by
 induction A generalizing j with
 | nil=>simp at hj
 | cons l t ih =>
  cases j with
  | zero =>
   have a:l.said.kind=108:=h8;obtain⟨x,g⟩:=hk l List.mem_cons_self a;show labI (l.said.word 0) (l.said :: t.map Ln.said)=some 0;unfold labI;rw [if_pos (by unfold zcO;rw [a,g,zpR];simp)]
  | succ j =>
   have c:j<(t.map Ln.said).length:=by simpa using hj
   have a:(t.map Ln.said)[j].kind=108:=h8;show labI ((t.map Ln.said)[j].word 0) (l.said :: t.map Ln.said)=some (j+1);have f:(labsOf t).Nodup:=by
    have:labsOf (l :: t)=labsOf [l]++labsOf t:=zcz [l] t;rw [this,List.nodup_append] at hn;exact hn.2.1
   have h:=ih (fun p hp=>hk p (List.mem_cons_of_mem _ hp)) f j c a;unfold labI;rw [if_neg (fun e=>?_),h]
   ·rfl
   ·unfold zcO at e;rw [Bool.and_eq_true] at e;have d:l.said.kind=108:=of_decide_eq_true e.1;obtain⟨x,g⟩:=hk l List.mem_cons_self d;have b:t[j]'(by simpa using c)∈t:=List.getElem_mem _;have hs:(t.map Ln.said)[j]=(t[j]'(by simpa using c)).said:=by simp
    rw [hs] at a e;obtain⟨y,i⟩:=hk _ (List.mem_cons_of_mem _ b) a;rw [g,i,zpR] at e;have hxy:x=y:=of_decide_eq_true e.2;have:labsOf (l :: t)=x :: labsOf t:=by
     unfold labsOf;rw [List.filterMap_cons,if_pos d,g];rfl
    rw [this,List.nodup_cons] at hn;refine hn.1 ?_;rw [hxy];unfold labsOf;rw [List.mem_filterMap];exact⟨_,b,by rw [if_pos a,i];rfl⟩
def zcY:Ln:=⟨false,[]⟩
theorem zjr:zcY.said=⟨0,[],true⟩:=rfl
theorem zgJ:Plain zbZ:=⟨fun x hx=>by rw [List.mem_singleton.1 hx];exact zf6 (by decide),by rw [zdJ],by rw [zdJ],by rw [zdJ];kernel_rfl,by rw [zdJ];kernel_rfl,by decide⟩
theorem zsc(E:List Ln)(hE:∀ l∈E,l=zcY)(e:Bool):(E.map Ln.said).foldl (fun e q=>if q.kind=108 then false else if q.kind=105 then ends (q.word 0) else e) e=e:=by
 induction E with
 | nil=>rfl
 | cons l t ih =>
  rw [List.map_cons,List.foldl_cons,hE l List.mem_cons_self,zjr];exact ih (fun x hx=>hE x (List.mem_cons_of_mem _ hx))
theorem zzs{nk c:Nat}{A:List Ln}(h:Pc nk 0 c A)(hn:nk≤1000000)(hc:c≤1000000)(names:List (List UInt8))(hnm:∀ k,k<nk→fnW k∈names)(E:List Ln)(hE:∀ l∈E,l=zcY):BodyOk names ((A++[zbZ]++E).map Ln.said):=by
 have G:=(h.good hn hc)
 have f:PcOk nk 0 c (A++[zbZ]):=G.app (.plain zgJ) hc;have b:∀ l∈A++[zbZ]++E,l∈A++[zbZ]∨l.said=⟨0,[],true⟩:=fun l a=>by
  rcases List.mem_append.1 a with e|e
  ·exact .inl e
  ·right;rw [hE l e,zjr]
 have hlabs:labsOf (A++[zbZ]++E)=labsOf (A++[zbZ]):=by
  rw [zcz];have:labsOf E=[]:=by
   unfold labsOf;rw [List.filterMap_eq_nil_iff];intro l a;rw [hE l a,zjr];rfl
  rw [this,List.append_nil]
 refine⟨fun q hq=>?_,fun q hq=>?_,fun j hj h8=>?_,fun q hq h5 h6=>?_,fun q hq h5 h6=>?_,?_⟩
 ·obtain⟨l,a,rfl⟩:=List.mem_map.1 hq;rcases b l a with e|e
  ·have:=(f.ok l e).2.2;omega
  ·rw [e];show ¬(0:Int)=102;decide
 ·obtain⟨l,a,rfl⟩:=List.mem_map.1 hq;rcases b l a with e|e
  ·exact(f.ok l e).2.1
  ·rw [e]
 ·exact zzr _ (fun l _ _=>⟨(l.said.word 0).data.toList,(zuF _).symm⟩) (by rw [hlabs];exact f.nodup) j hj h8
 ·obtain⟨l,a,rfl⟩:=List.mem_map.1 hq;rcases b l a with e|e
  ·obtain⟨x,m,i⟩:=f.asks l e h5 h6;rw [i];refine zsb ?_;unfold labsOf at m;obtain⟨p,o,d⟩:=List.mem_filterMap.1 m;split at d
   ·rename_i h8;refine⟨p.said,List.mem_map_of_mem (List.mem_append_left _ o),h8,?_⟩;rw [←Option.some.inj d,zuF]
   ·cases d
  ·rw [e] at h5;exact absurd (show(0:Int)=105 from h5) (by decide)
 ·obtain⟨l,a,rfl⟩:=List.mem_map.1 hq;rcases b l a with e|e
  ·obtain⟨k,n,i⟩:=f.calls l e h5 h6;exact⟨fnW k,hnm k n,i⟩
  ·rw [e] at h5;exact absurd (show(0:Int)=105 from h5) (by decide)
 ·rw [List.map_append,List.foldl_append,zsc E hE,List.map_append,List.foldl_append,List.map_singleton,List.foldl_cons,List.foldl_nil,zdJ];show(if(105:Int)=108 then false else if(105:Int)=105 then ends (ba [98,97,99,107]) else _)=true;rw [if_neg (by decide),if_pos rfl];kernel_rfl
def zds(k:Nat):Ln:=⟨false,[[102,117,110,99],fnW k]⟩
def lnsT:List (List Ln)→List Ln
 | []=>[]
 | A :: r=>(zds r.length :: (A++[zbZ]))++lnsT r
def fsT:List (List Ln)→List Fs
 | []=>[]
 | A :: r=>⟨fnW r.length,(A++[zbZ]++(if r=[] then [zcY] else [])).map Ln.said⟩ :: fsT r
theorem zuW(k:Nat)(h:k≤1000000):(zds k).said=⟨102,[ba [102,117,110,99],ba (fnW k)],true⟩:=by
 show sayW ([[102,117,110,99],fnW k].map ba)=_;rw [zzm,zuR k h]
theorem zuX(k:Nat):(zds k).Ok:=fun x hx=>by
 simp only [zds,List.mem_cons,List.not_mem_nil,or_false] at hx;rcases hx with rfl|rfl
 ·exact zf6 (by decide)
 ·exact zAn k
theorem zuY(G:List (List Ln))(h:¬G=[])(hl:G.length≤1000000):zaq (fsT G)=(lnsT G++[zcY]).map Ln.said:=by
 induction G with
 | nil=>exact absurd rfl h
 | cons A r ih =>
  have a:=zuW r.length (by simp at hl;omega);show zaq (⟨fnW r.length,(A++[zbZ]++(if r=[] then [zcY] else [])).map Ln.said⟩ :: fsT r)=((zds r.length :: (A++[zbZ]))++lnsT r++[zcY]).map Ln.said;rw [zcy];cases r with
  | nil =>
   show Fs.said _++[]=((zds 0 :: (A++[zbZ]))++[]++[zcY]).map Ln.said;rw [List.append_nil,List.append_nil,List.cons_append,List.map_cons];unfold Fs.said;rw [show zds 0=zds ([]:List (List Ln)).length from rfl,a];rfl
  | cons B t =>
   rw [ih (by simp) (by simp at hl ⊢;omega),if_neg (by simp),List.append_nil];rw [show zds (B :: t).length :: (A++[zbZ])++lnsT (B :: t)++[zcY]=zds (B :: t).length :: ((A++[zbZ])++(lnsT (B :: t)++[zcY])) by simp,List.map_cons,a,List.map_append (l₁:=A++[zbZ])];rfl
theorem zlc(G:List (List Ln)):(fsT G).map Fs.name=(List.range G.length).reverse.map fnW:=by
 induction G with
 | nil=>rfl
 | cons A r ih =>
  show fnW r.length :: (fsT r).map Fs.name=_;rw [ih,List.length_cons,List.range_succ,List.reverse_append];rfl
theorem zzt{m n:Nat}(hm:m≤1000000)(hn:n≤1000000)(h:fnW m=fnW n):m=n:=zkZ (by omega) (by omega) (List.cons.inj h).2
theorem zjs(n:Nat)(h:n≤1000000):((List.range n).reverse.map fnW).Nodup:=by
 rw [List.Nodup,List.pairwise_map];have:(List.range n).reverse.Nodup:=by
  rw [List.Nodup,List.pairwise_reverse];exact List.nodup_range.imp fun h=>Ne.symm h
 refine List.Pairwise.imp_of_mem (fun{a b} ha hb hne e=>hne ?_) this;rw [List.mem_reverse,List.mem_range] at ha hb;exact zzt (by omega) (by omega) e
inductive Wrote:List (List Ln)→Prop
 | nil:Wrote []
 | cons {A:List Ln} {r:List (List Ln)} {c:Nat} (h:Pc r.length 0 c A) (hc:c≤1000000) (hr:Wrote r):Wrote (A :: r)
theorem Wrote.body{G:List (List Ln)}(h:Wrote G)(names:List (List UInt8))(hnm:∀ k,k<G.length→fnW k∈names)(hl:G.length≤1000000):∀ f∈fsT G,BodyOk names f.body:=by
 induction h with
 | nil=>intro f a;cases a
 | cons h hc hr ih =>
  intro f a;rcases List.mem_cons.1 a with e|e
  ·rw [e];refine zzs h (by simp at hl;omega) hc names (fun k hk=>hnm k (by simp;omega)) _ (fun l hl=>?_);split at hl
   ·exact List.mem_singleton.1 hl
   ·cases hl
  ·exact ih (fun k hk=>hnm k (by simp;omega)) (by simp at hl;omega) f e
theorem Wrote.prog{G:List (List Ln)}(h:Wrote G)(h0:¬G=[])(hl:G.length≤1000000):Prog ((lnsT G++[zcY]).map Ln.said):=by
 rw [←zuY G h0 hl];refine zzp _ (fun e=>?_) (by rw [zlc];exact zjs _ hl) (h.body _ (fun k hk=>?_) hl)
 ·cases G with
  | nil=>exact h0 rfl
  | cons A r=>cases e
 ·rw [zlc];exact List.mem_map_of_mem (List.mem_reverse.2 (List.mem_range.2 hk))
theorem Wrote.ok{G:List (List Ln)}(h:Wrote G)(hl:G.length≤1000000):∀ l∈lnsT G++[zcY],l.Ok:=by
 have c:zcY.Ok:=fun x hx=>by cases hx
 intro l a;rcases List.mem_append.1 a with e|e
 ·clear a
  induction h with
  | nil=>cases e
  | cons h hc hr ih =>
   simp only [List.length_cons] at hl;rcases List.mem_append.1 e with e|e
   ·rcases List.mem_cons.1 e with e|e
    ·rw [e];exact zuX _
    ·rcases List.mem_append.1 e with e|e
     ·exact((h.good (by omega) hc).ok l e).1
     ·rw [List.mem_singleton.1 e];exact zgJ.ok
   ·exact ih (by omega) e
 ·rw [List.mem_singleton.1 e];exact c
def zdK(G:List (List Ln)):List UInt8:=zdq ((lnsT G).map Ln.bytes)
theorem zx7{ls:List (List UInt8)}(h:∀ l∈ls,∀ c∈l,¬c=10)(last:List UInt8)(h2:∀ c∈last,¬c=10):zbL (zdq ls++last)=ls++[last]:=by
 rw [zoF ls last h,zoE last h2]
theorem Wrote.lines{G:List (List Ln)}(h:Wrote G)(hl:G.length≤1000000):(lines (ba (zdK G))).map say=(lnsT G++[zcY]).map Ln.said:=by
 have a:=h.ok hl;have:=zx7 (ls:=(lnsT G).map Ln.bytes) (fun l hl c hc=>by
  obtain⟨x,d,rfl⟩:=List.mem_map.1 hl;exact x.no10' (a x (List.mem_append_left _ d)) c hc) [] (fun c hc=>by cases hc)
 rw [List.append_nil] at this;unfold zdK;rw [zxt,this,List.map_map,List.map_append,List.map_append,List.map_map];have e1:(lnsT G).map ((Sp.say∘ba)∘Ln.bytes)=(lnsT G).map Ln.said:=List.map_congr_left fun l hl=>l.say0 (a l (List.mem_append_left _ hl));rw [e1];have b:Sp.say (ba [])=zcY.said:=zcY.say0 (a _ (List.mem_append_right _ (List.mem_singleton.2 rfl)));simp only [List.map_cons,List.map_nil,Function.comp_apply,b]
theorem Wrote.read{G:List (List Ln)}(h:Wrote G)(h0:¬G=[])(hl:G.length≤1000000):zcm (ba (zdK G))=if 4000<(ba (zdK G)).size∨300<(Sp.lines (ba (zdK G))).length then(6,0) else(0,0) :=
 zuN _ (by rw [h.lines hl];exact h.prog h0 hl)
theorem zgK(n:Nat)(h:n≤1000000):(labW n).length≤8:=by
 have:=zeP 6 n (by omega);show(decL n).length+1≤8;omega
theorem zuZ(n:Nat)(h:n≤1000000):(fnW n).length≤8:=by
 have:=zeP 6 n (by omega);show(decL n).length+1≤8;omega
theorem Pc.short{nk a b:Nat}{A:List Ln}(h:Pc nk a b A)(hn:nk≤1000000)(hb:b≤1000000):∀ l∈A,l.bytes.length≤200:=by
 induction h with
 | nil=>intro l f;cases f
 | app _ h2 i1 i2 =>
  intro l f;rcases List.mem_append.1 f with e|e
  ·exact i1 (Nat.le_trans h2.le hb) l e
  ·exact i2 hb l e
 | ins _ h=>intro l f;rw [List.mem_singleton.1 f];exact h.short
 | call _ h =>
  rename_i k;intro l f;have:=zuZ k (by omega);rw [List.mem_singleton.1 f];simp [callL,Ln.bytes,Ln.blank,zc8];omega
 | loop hi hn h1 h2 h3 h ih =>
  rename_i c d i n l1 l2 l3 B;have hle:=h.le;have w1:=zgK (c+1) (by omega);have w2:=zgK (c+2) (by omega);have w3:=zgK (c+3) (by omega);intro l f;simp only [List.mem_append,List.mem_cons,List.not_mem_nil,or_false] at f;rcases f with ((rfl|rfl|rfl|rfl|rfl|rfl)|e)|(rfl|rfl|rfl)
  ·exact h1.short
  ·exact h2.short
  ·simp [labL,Ln.bytes,Ln.blank,zc8];omega
  ·simp [ze4,Ln.bytes,Ln.blank,zc8,regW];omega
  ·simp [zcA,Ln.bytes,Ln.blank,zc8];omega
  ·simp [labL,Ln.bytes,Ln.blank,zc8];omega
  ·exact ih hb l e
  ·exact h3.short
  ·simp [zcA,Ln.bytes,Ln.blank,zc8];omega
  ·simp [labL,Ln.bytes,Ln.blank,zc8];omega
end Go.Proofs.YtfpgjkbjbbgciaaGreatDoor.Sp
