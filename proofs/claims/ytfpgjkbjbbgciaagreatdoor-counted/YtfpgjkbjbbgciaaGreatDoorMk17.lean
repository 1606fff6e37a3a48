import Derived.Test.YtfpgjkbjbbgciaaGreatDoorMk09
import Derived.Test.YtfpgjkbjbbgciaaGreatDoorMk10
set_option maxRecDepth 100000
set_option maxHeartbeats 8000000
namespace Go.Proofs.YtfpgjkbjbbgciaaGreatDoor
section
open Go.RowKit Sp
theorem MchM.alloc{w:World}{b:Nat}{bv iv ov:Value}{m:Mc}(h:MchM w b bv iv ov m)(x:Obj):MchM (w.alloc x) b bv iv ov m:=h.of_block (Below.heap_alloc _ _ _ h.lt)
theorem zaG{w:World}{b o n:Nat}{x:Obj}{v:Value}:w.grownBy (((w.alloc x).drewN n).setCell ⟨b,o,none⟩ v) (some b) :=
 zai (World.grownBy_alloc w x _) (zb2 (n:=n) (zah (Below.refl _ _)))
theorem zzM(w:World)(b:Nat)(bv iv ov:Value)(m:Mc)(r:Nat)(hr:r<8)(k:Int)(h:MchM w b bv iv ov m)(h0:0≤m.steps)(h1:m.steps≤100000)(ha:0≤m.at')(hb:m.at'≤100000):
  Calls Tryz.prog 223 #[.agg #[.int .i64 (r:Int),.int .i64 k],.pointer (some ⟨b,0,none⟩)] w fun e w'=>e=.returned (.tuple #[])∧MchM w' b bv iv ov (exec (.set r k) (m.at'+1) m)∧w.grownBy w' (some b):=by
 have hl:=h.lt;have a:=h.alloc (.cells #[.int .i64 (r:Int),.int .i64 k] 167);have hcr:=a.cR r hr;have hr0:(0:Int)≤(r:Int):=by omega
 have hr8:(r:Int)<8:=by omega
 have f:=fun n=>(a.drewN n).setR r hr k;have hfz:=a.fz r;have hne4:¬w.heap.size=b:=by omega
 have hne5:¬b=w.heap.size:=by omega
 go_enter Tryz.func223,Tryz.ntmps223;go_wp2_with fail
 refine zan 8 (by kernel_rfl) (by kernel_rfl) ?_;simp only [List.take_succ_cons,List.take_zero,List.drop_succ_cons,List.drop_zero];repeat(go_big_quiet_step (fail))
 refine wpQuiet_nil ?_;rintro _ ⟨g,rfl⟩;go_wp2_with(first|(go_at_call 225;refine(zbC _ b bv iv ov _ (f g) h0 h1 ha hb).mono ?_;rintro e w2 ⟨rfl,c,d⟩))
 go_end0
 exact⟨rfl,c,zai zaG d⟩
theorem zzN(w:World)(b:Nat)(bv iv ov:Value)(m:Mc)(r s:Nat)(hr:r<8)(hs:s<8)(h:MchM w b bv iv ov m)(h0:0≤m.steps)(h1:m.steps≤100000)(ha:0≤m.at')(hb:m.at'≤100000):
  Calls Tryz.prog 230 #[.agg #[.int .i64 (r:Int),.int .i64 (s:Int)],.pointer (some ⟨b,0,none⟩)] w fun e w'=>e=.returned (.tuple #[])∧MchM w' b bv iv ov (exec (.mov r s) (m.at'+1) m)∧w.grownBy w' (some b):=by
 have hl:=h.lt;have a:=h.alloc (.cells #[.int .i64 (r:Int),.int .i64 (s:Int)] 169);have hcr:=a.cR r hr;have hr0:(0:Int)≤(r:Int):=by omega
 have hr8:(r:Int)<8:=by omega
 have hcs:=a.cR s hs;have hs0:(0:Int)≤(s:Int):=by omega
 have hs8:(s:Int)<8:=by omega
 have f:=fun n=>(a.drewN n).setR r hr (m.regs s);have hfz:=a.fz r;have hne4:¬w.heap.size=b:=by omega
 have hne5:¬b=w.heap.size:=by omega
 go_enter Tryz.func230,Tryz.ntmps230;go_wp2_with fail
 refine zan 13 (by kernel_rfl) (by kernel_rfl) ?_;simp only [List.take_succ_cons,List.take_zero,List.drop_succ_cons,List.drop_zero];repeat(go_big_quiet_step (fail))
 refine wpQuiet_nil ?_;rintro _ ⟨g,rfl⟩;go_wp2_with(first|(go_at_call 225;refine(zbC _ b bv iv ov _ (f g) h0 h1 ha hb).mono ?_;rintro e w2 ⟨rfl,c,d⟩))
 go_end0
 exact⟨rfl,c,zai zaG d⟩
theorem zzO(w:World)(b:Nat)(bv iv ov:Value)(m:Mc)(r s t:Nat)(hr:r<8)(hs:s<8)(ht:t<8)(h:MchM w b bv iv ov m)(h0:0≤m.steps)(h1:m.steps≤100000)(ha:0≤m.at')(hb:m.at'≤100000):
  Calls Tryz.prog 232 #[.agg #[.int .i64 (r:Int),.int .i64 (s:Int),.int .i64 (t:Int)],.pointer (some ⟨b,0,none⟩)] w fun e w'=>e=.returned (.tuple #[])∧MchM w' b bv iv ov (exec (.alu 0 r s t) (m.at'+1) m)∧w.grownBy w' (some b):=by
 have hl:=h.lt;have a:=h.alloc (.cells #[.int .i64 (r:Int),.int .i64 (s:Int),.int .i64 (t:Int)] 171);have hcr:=a.cR r hr;have hr0:(0:Int)≤(r:Int):=by omega
 have hr8:(r:Int)<8:=by omega
 have hcs:=a.cR s hs;have hs0:(0:Int)≤(s:Int):=by omega
 have hs8:(s:Int)<8:=by omega
 have hct:=a.cR t ht;have ht0:(0:Int)≤(t:Int):=by omega
 have ht8:(t:Int)<8:=by omega
 have f:=fun n=>(a.drewN n).setR r hr (zc1 0 (m.regs s) (m.regs t));have hfz:=a.fz r;have hne4:¬w.heap.size=b:=by omega
 have hne5:¬b=w.heap.size:=by omega
 go_enter Tryz.func232,Tryz.ntmps232;go_wp2_with fail
 refine zan 21 (by kernel_rfl) (by kernel_rfl) ?_;simp only [List.take_succ_cons,List.take_zero,List.drop_succ_cons,List.drop_zero];repeat(go_big_quiet_step (fail))
 refine wpQuiet_nil ?_;rintro _ ⟨g,rfl⟩;rw [zyk];go_wp2_with(first|(go_at_call 225;refine(zbC _ b bv iv ov _ (f g) h0 h1 ha hb).mono ?_;rintro e w2 ⟨rfl,c,d⟩))
 go_end0
 exact⟨rfl,c,zai zaG d⟩
theorem zzP(w:World)(b:Nat)(bv iv ov:Value)(m:Mc)(r s t:Nat)(hr:r<8)(hs:s<8)(ht:t<8)(h:MchM w b bv iv ov m)(h0:0≤m.steps)(h1:m.steps≤100000)(ha:0≤m.at')(hb:m.at'≤100000):
  Calls Tryz.prog 239 #[.agg #[.int .i64 (r:Int),.int .i64 (s:Int),.int .i64 (t:Int)],.pointer (some ⟨b,0,none⟩)] w fun e w'=>e=.returned (.tuple #[])∧MchM w' b bv iv ov (exec (.alu 1 r s t) (m.at'+1) m)∧w.grownBy w' (some b):=by
 have hl:=h.lt;have a:=h.alloc (.cells #[.int .i64 (r:Int),.int .i64 (s:Int),.int .i64 (t:Int)] 172);have hcr:=a.cR r hr;have hr0:(0:Int)≤(r:Int):=by omega
 have hr8:(r:Int)<8:=by omega
 have hcs:=a.cR s hs;have hs0:(0:Int)≤(s:Int):=by omega
 have hs8:(s:Int)<8:=by omega
 have hct:=a.cR t ht;have ht0:(0:Int)≤(t:Int):=by omega
 have ht8:(t:Int)<8:=by omega
 have f:=fun n=>(a.drewN n).setR r hr (zc1 1 (m.regs s) (m.regs t));have hfz:=a.fz r;have hne4:¬w.heap.size=b:=by omega
 have hne5:¬b=w.heap.size:=by omega
 go_enter Tryz.func239,Tryz.ntmps239;go_wp2_with fail
 refine zan 21 (by kernel_rfl) (by kernel_rfl) ?_;simp only [List.take_succ_cons,List.take_zero,List.drop_succ_cons,List.drop_zero];repeat(go_big_quiet_step (fail))
 refine wpQuiet_nil ?_;rintro _ ⟨g,rfl⟩;rw [zyl];go_wp2_with(first|(go_at_call 225;refine(zbC _ b bv iv ov _ (f g) h0 h1 ha hb).mono ?_;rintro e w2 ⟨rfl,c,d⟩))
 go_end0
 exact⟨rfl,c,zai zaG d⟩
theorem zzQ(w:World)(b:Nat)(bv iv ov:Value)(m:Mc)(r s t:Nat)(hr:r<8)(hs:s<8)(ht:t<8)(h:MchM w b bv iv ov m)(h0:0≤m.steps)(h1:m.steps≤100000)(ha:0≤m.at')(hb:m.at'≤100000):
  Calls Tryz.prog 243 #[.agg #[.int .i64 (r:Int),.int .i64 (s:Int),.int .i64 (t:Int)],.pointer (some ⟨b,0,none⟩)] w fun e w'=>e=.returned (.tuple #[])∧MchM w' b bv iv ov (exec (.alu 2 r s t) (m.at'+1) m)∧w.grownBy w' (some b):=by
 have hl:=h.lt;have a:=h.alloc (.cells #[.int .i64 (r:Int),.int .i64 (s:Int),.int .i64 (t:Int)] 173);have hcr:=a.cR r hr;have hr0:(0:Int)≤(r:Int):=by omega
 have hr8:(r:Int)<8:=by omega
 have hcs:=a.cR s hs;have hs0:(0:Int)≤(s:Int):=by omega
 have hs8:(s:Int)<8:=by omega
 have hct:=a.cR t ht;have ht0:(0:Int)≤(t:Int):=by omega
 have ht8:(t:Int)<8:=by omega
 have f:=fun n=>(a.drewN n).setR r hr (zc1 2 (m.regs s) (m.regs t));have hfz:=a.fz r;have hne4:¬w.heap.size=b:=by omega
 have hne5:¬b=w.heap.size:=by omega
 go_enter Tryz.func243,Tryz.ntmps243;go_wp2_with fail
 refine zan 21 (by kernel_rfl) (by kernel_rfl) ?_;simp only [List.take_succ_cons,List.take_zero,List.drop_succ_cons,List.drop_zero];repeat(go_big_quiet_step (fail))
 refine wpQuiet_nil ?_;rintro _ ⟨g,rfl⟩;rw [zym];go_wp2_with(first|(go_at_call 225;refine(zbC _ b bv iv ov _ (f g) h0 h1 ha hb).mono ?_;rintro e w2 ⟨rfl,c,d⟩))
 go_end0
 exact⟨rfl,c,zai zaG d⟩
theorem zzR(w:World)(b:Nat)(bv iv ov:Value)(m:Mc)(r:Nat)(hr:r<8)(k:Int)(h:MchM w b bv iv ov m)(h0:0≤m.steps)(h1:m.steps≤100000)(ha:0≤m.at')(hb:m.at'≤100000):
  Calls Tryz.prog 249 #[.agg #[.int .i64 (r:Int),.int .i64 k],.pointer (some ⟨b,0,none⟩)] w fun e w'=>e=.returned (.tuple #[])∧MchM w' b bv iv ov (exec (.inc r k) (m.at'+1) m)∧w.grownBy w' (some b):=by
 have hl:=h.lt;have a:=h.alloc (.cells #[.int .i64 (r:Int),.int .i64 k] 174);have hcr:=a.cR r hr;have hr0:(0:Int)≤(r:Int):=by omega
 have hr8:(r:Int)<8:=by omega
 have f:=fun n=>(a.drewN n).setR r hr (w64 (m.regs r+k));have hfz:=a.fz r;have hne4:¬w.heap.size=b:=by omega
 have hne5:¬b=w.heap.size:=by omega
 go_enter Tryz.func249,Tryz.ntmps249;go_wp2_with fail
 refine zan 13 (by kernel_rfl) (by kernel_rfl) ?_;simp only [List.take_succ_cons,List.take_zero,List.drop_succ_cons,List.drop_zero];repeat(go_big_quiet_step (fail))
 refine wpQuiet_nil ?_;rintro _ ⟨g,rfl⟩;rw [zc2];go_wp2_with(first|(go_at_call 225;refine(zbC _ b bv iv ov _ (f g) h0 h1 ha hb).mono ?_;rintro e w2 ⟨rfl,c,d⟩))
 go_end0
 exact⟨rfl,c,zai zaG d⟩
end
namespace Sp
theorem zpR(a b:List UInt8):eqW (ba a) (ba b)=decide (a=b):=by
 unfold eqW;rw [zjl,zjl,Bool.eq_iff_iff];simp
def Fs.head(f:Fs):Said:=⟨102,[ba [102,117,110,99],ba f.name],true⟩
theorem zmO(f:Fs)(x:List UInt8):isFn f.head (ba x)=decide (f.name=x):=by
 show(decide ((102:Int)=102)&&eqW (ba f.name) (ba x))=_;rw [zpR];simp
def fnI(x:List UInt8):List Fs→Option Nat
 | []=>none
 | f :: r=>if f.name=x then some 0 else(fnI x r).map (·+1)
theorem zzo(A b R:List Said)(x:ByteArray)(hb:zkY b):zb1 (A++(b++R)) x A.length=zb1 (A++(b++R)) x (A.length+b.length):=by
 induction b generalizing A with
 | nil=>rfl
 | cons q t ih =>
  have c:=hb q List.mem_cons_self;have a:A.length<(A++(q :: t++R)).length:=by simp
  have e0:(A++(q :: t++R))[A.length]=q:=zjp A q (t++R) a;rw [zdg _ _ _ a (by rw [e0];simp [isFn,c])];have:=ih (A++[q]) (fun y hy=>hb y (List.mem_cons_of_mem _ hy));rw [List.length_append,List.append_assoc] at this;simp only [List.length_singleton,List.singleton_append] at this;rw [List.cons_append,this,List.length_cons];congr 1;omega
theorem zuP(fs:List Fs):offF fs 0=0:=by simp [offF,zaq]
theorem zuQ(f:Fs)(fs:List Fs)(k:Nat):offF (f :: fs) (k+1)=f.body.length+1+offF fs k:=by
 unfold offF;rw [List.take_succ_cons,zcy,List.length_append];simp [Fs.said]
theorem zoM(fs:List Fs)(A:List Said)(x:List UInt8)(hb:∀ f∈fs,zkY f.body):zb1 (A++zaq fs) (ba x) A.length=match fnI x fs with|none=>-1|some k=>((A.length+offF fs k:Nat):Int):=by
 induction fs generalizing A with
 | nil=>rw [zgr _ _ _ (by simp [zaq])];rfl
 | cons f t ih =>
  have e:zaq (f :: t)=f.head :: (f.body++zaq t):=by rw [zcy];rfl
  rw [e];have a:A.length<(A++f.head :: (f.body++zaq t)).length:=by simp
  have e0:(A++f.head :: (f.body++zaq t))[A.length]=f.head:=zjp A _ _ a;by_cases b:f.name=x
  ·rw [zdA _ _ _ a (by rw [e0,zmO];simpa using b)];simp only [fnI,if_pos b,zuP,Nat.add_zero]
  ·rw [zdg _ _ _ a (by rw [e0,zmO];simpa using b)];have c:=zzo (A++[f.head]) f.body (zaq t) (ba x) (hb f List.mem_cons_self);have d:=ih (A++f.head :: f.body) (fun y hy=>hb y (List.mem_cons_of_mem _ hy));rw [List.length_append,List.append_assoc] at c;simp only [List.length_singleton,List.singleton_append] at c;rw [c];rw [List.append_assoc,List.length_append,List.length_cons,List.cons_append] at d;rw [show A.length+1+f.body.length=A.length+(f.body.length+1) by omega,d];simp only [fnI,if_neg b];cases fnI x t with
   | none=>rfl
   | some k =>
    show((A.length+(f.body.length+1)+offF t k:Nat):Int)=((A.length+offF (f :: t) (k+1):Nat):Int)
    rw [zuQ];omega
structure BodyOk(names:List (List UInt8))(b:List Said):Prop where
 nofn:zkY b
 ok:∀ q∈b,q.ok=true
 labs:∀ j (hj:j<b.length),b[j].kind=108→labI (b[j].word 0) b=some j
 asks:∀ q∈b,q.kind=105→zaF (q.word 0)=true→labI q.last b≠none
 calls:∀ q∈b,q.kind=105→zbt (q.word 0)=true→∃ x∈names,q.last=ba x
 ends:b.foldl (fun e q=>if q.kind=108 then false else if q.kind=105 then ends (q.word 0) else e) false=true
theorem zx4{x:List UInt8}{fs:List Fs}(h:x∈fs.map Fs.name):∃ k,fnI x fs=some k∧k<fs.length:=by
 induction fs with
 | nil=>cases h
 | cons f t ih =>
  by_cases a:f.name=x
  ·exact⟨0,by simp [fnI,a],by simp⟩
  ·rw [List.map_cons] at h;rcases List.mem_cons.1 h with e|e
   ·exact absurd e.symm a
   ·obtain⟨k,b,c⟩:=ih e;exact⟨k+1,by simp [fnI,a,b],by simpa using c⟩
theorem zyb{A R:List Fs}{f:Fs}(hn:((A++f :: R).map Fs.name).Nodup):fnI f.name (A++f :: R)=some A.length:=by
 induction A with
 | nil=>simp [fnI]
 | cons a t ih =>
  rw [List.cons_append,List.map_cons,List.nodup_cons] at hn;have b:¬a.name=f.name:=fun e=>hn.1 (by rw [e];simp);rw [List.cons_append,fnI,if_neg b,ih hn.2];simp
theorem zyc(A R:List Fs)(f:Fs):offF (A++f :: R) A.length=(zaq A).length:=by
 unfold offF;rw [List.take_left'];rfl
theorem zoN(fs:List Fs)(k:Nat)(h:k<(zaq fs).length):∃ A f R j,fs=A++f :: R∧k=(zaq A).length+j∧j≤f.body.length:=by
 induction fs generalizing k with
 | nil=>simp [zaq] at h
 | cons f t ih =>
  by_cases b:k≤f.body.length
  ·exact⟨[],f,t,k,rfl,by simp [zaq],b⟩
  ·rw [zcy,List.length_append] at h;have c:f.said.length=f.body.length+1:=rfl;obtain⟨A,g,R,j,h1,h2,a⟩:=ih (k-(f.body.length+1)) (by omega);refine⟨f :: A,g,R,j,by rw [h1];rfl,?_,a⟩;rw [zcy,List.length_append,c];omega
theorem zdd{A R:List Fs}{f:Fs}:zaq (A++f :: R)=zaq A++(f.head :: f.body++zaq R):=by
 rw [zuO,zcy];rfl
theorem zzp(fs:List Fs)(h0:fs≠[])(hn:(fs.map Fs.name).Nodup)(hb:∀ f∈fs,BodyOk (fs.map Fs.name) f.body):Prog (zaq fs):=by
 have d:∀ f∈fs,zkY f.body:=fun f a=>(hb f a).nofn;have c:∀(A:List Fs) (f:Fs) (R:List Fs),fs=A++f :: R→(zaq fs)[(zaq A).length]?=some f.head:=fun A f R e=>by
  rw [e,zdd,List.getElem?_append_right (Nat.le_refl _)];simp
 have at1:∀(A:List Fs) (f:Fs) (R:List Fs) (j:Nat) (b:j<f.body.length),fs=A++f :: R→(zaq fs)[(zaq A).length+(j+1)]?=some f.body[j]:=fun A f R j b e=>by
  rw [e,zdd,List.getElem?_append_right (by omega),show(zaq A).length+(j+1)-(zaq A).length=j+1 by omega,List.cons_append,List.getElem?_cons_succ,List.getElem?_append_left b,List.getElem?_eq_getElem b]
 have lab:∀(A:List Fs) (f:Fs) (R:List Fs) (j:Nat) (x:ByteArray),fs=A++f :: R→j≤f.body.length→zhV (zaq fs) ((zaq A).length+j) x=match labI x f.body with|none=>-1|some i=>(((zaq A).length+1+i:Nat):Int):=fun A f R j x e b=>by
  have a:zkY f.body:=d f (by rw [e];simp);unfold zhV;rw [e,zdd,zsa (zaq A) f.body (zaq R) f.head rfl a j b];have:=zpQ (zaq A++[f.head]) f.body (zaq R) x a (zjo R);rw [List.length_append,List.append_assoc] at this;simp only [List.length_singleton,List.singleton_append] at this;rw [show((((zaq A).length:Int)+1).toNat)=(zaq A).length+1 by omega];exact this
 refine⟨fun q l=>?_,?_,fun k g=>?_,fun k g=>?_,fun k g=>?_⟩
 ·obtain⟨f,a,l⟩:=List.mem_flatMap.1 l;rcases List.mem_cons.1 l with e|e
  ·rw [e]
  ·exact(hb f a).ok q e
 ·cases fs with
  | nil=>exact absurd rfl h0
  | cons f t=>exact⟨f.head,f.body++zaq t,by rw [zcy];rfl,rfl⟩
 ·obtain⟨A,f,R,j,e,rfl,b⟩:=zoN fs k g;unfold zeX;cases j with
  | zero =>
   rw [Nat.add_zero,c A f R e];show(if(102:Int)=102 then decide (zb1 (zaq fs) (ba f.name) 0<((zaq A).length:Int)) else _)=false;rw [if_pos rfl];have:=zoM fs [] f.name d;rw [List.nil_append,List.length_nil] at this;rw [this];have e2:fnI f.name fs=some A.length:=by rw [e];exact zyb (by rw [←e];exact hn)
   rw [e2];show decide (((0+offF fs A.length:Nat):Int)<_)=false;rw [e,zyc];simp
  | succ j =>
   rw [at1 A f R j (by omega) e];have a:=hb f (by rw [e];simp);have h:=a.nofn _ (List.getElem_mem (show j<f.body.length by omega));show(if f.body[j].kind=102 then _ else if f.body[j].kind=108 then _ else false)=false;rw [if_neg h];split
   ·rename_i h2;rw [lab A f R (j+1) _ e (by omega),a.labs j (by omega) h2];simp;omega
   ·rfl
 ·obtain⟨A,f,R,j,e,rfl,b⟩:=zoN fs k g;unfold zch;cases j with
  | zero=>rw [Nat.add_zero,c A f R e];rfl
  | succ j =>
   rw [at1 A f R j (by omega) e];have a:=hb f (by rw [e];simp);have n:=List.getElem_mem (show j<f.body.length by omega);show(if f.body[j].kind=105 then _ else false)=false;split
   ·rename_i h2;split
    ·rename_i h3;rw [lab A f R (j+1) _ e (by omega)];have:=a.asks _ n h2 h3;cases m:labI f.body[j].last f.body with
     | none=>exact absurd m this
     | some i=>simp;omega
    ·split
     ·rename_i h4;obtain⟨x,o,m⟩:=a.calls _ n h2 h4;rw [m];have:=zoM fs [] x d;rw [List.nil_append,List.length_nil] at this;rw [this];obtain⟨k,g,_⟩:=zx4 o;rw [g];simp
     ·rfl
   ·rfl
 ·obtain⟨A,f,R,j,e,rfl,b⟩:=zoN fs k g;unfold zdv;cases j with
  | zero =>
   rw [Nat.add_zero,c A f R e];show(if(102:Int)=102 then !zfF (zaq fs) ((zaq A).length+1) false else false)=false;rw [if_pos rfl];have a:=hb f (by rw [e];simp);have:=zx3 (zaq A++[f.head]) f.body (zaq R) false a.nofn (zjo R);rw [List.length_append,List.append_assoc] at this;simp only [List.length_singleton,List.singleton_append] at this;rw [e,zdd,List.cons_append,this,a.ends];rfl
  | succ j =>
   rw [at1 A f R j (by omega) e];have a:=hb f (by rw [e];simp);have h:=a.nofn _ (List.getElem_mem (show j<f.body.length by omega));show(if f.body[j].kind=102 then _ else false)=false;rw [if_neg h]
end Sp
section
open Go.RowKit Sp
theorem zie(w:World)(b:Nat)(bv iv ov:Value)(m:Mc)(to:Int)(h:MchM w b bv iv ov m)(h0:0≤m.steps)(h1:m.steps≤100000):
  Calls Tryz.prog 269 #[.pointer (some ⟨b,0,none⟩),.bool true,.int .i64 to] w fun e w'=>e=.returned (.tuple #[])∧MchM w' b bv iv ov (m.goes to)∧w.grownBy w' (some b):=by
 go_enter Tryz.func269,Tryz.ntmps269;go_wp2_with(first|(go_at_call 228;refine(zeo w b bv iv ov m to h h0 h1).mono ?_;rintro e w2 ⟨rfl,a,c⟩))
 go_end0
 exact⟨rfl,a,c⟩
theorem zhd(w:World)(b:Nat)(bv iv ov:Value)(m:Mc)(to:Int)(h:MchM w b bv iv ov m)(h0:0≤m.steps)(h1:m.steps≤100000)(ha:0≤m.at')(hb:m.at'≤100000):
  Calls Tryz.prog 269 #[.pointer (some ⟨b,0,none⟩),.bool false,.int .i64 to] w fun e w'=>e=.returned (.tuple #[])∧MchM w' b bv iv ov (m.goes (m.at'+1))∧w.grownBy w' (some b):=by
 go_enter Tryz.func269,Tryz.ntmps269;go_wp2_with(first|(go_at_call 225;refine(zbC w b bv iv ov m h h0 h1 ha hb).mono ?_;rintro e w2 ⟨rfl,a,c⟩))
 go_end0
 exact⟨rfl,a,c⟩
theorem zyn(w:World)(b:Nat)(bv iv ov:Value)(m:Mc)(to:Int)(h:MchM w b bv iv ov m)(h0:0≤m.steps)(h1:m.steps≤100000):
  Calls Tryz.prog 265 #[.agg #[.int .i64 to],.pointer (some ⟨b,0,none⟩)] w fun e w'=>e=.returned (.tuple #[])∧MchM w' b bv iv ov (exec (.jump to) (m.at'+1) m)∧w.grownBy w' (some b):=by
 have a:=h.alloc (.cells #[.int .i64 to] 185);go_enter Tryz.func265,Tryz.ntmps265;go_wp2_with(first|(go_at_call 228;refine(zeo _ b bv iv ov m to a h0 h1).mono ?_;rintro e w2 ⟨rfl,c,d⟩))
 go_end0
 exact⟨rfl,c,zai (World.grownBy_alloc w _ _) d⟩
theorem zyo(w:World)(b:Nat)(bv iv ov:Value)(m:Mc)(r s:Nat)(hr:r<8)(hs:s<8)(to:Int)(h:MchM w b bv iv ov m)(h0:0≤m.steps)(h1:m.steps≤100000)(ha:0≤m.at')(hb:m.at'≤100000):
  Calls Tryz.prog 267 #[.agg #[.int .i64 (r:Int),.int .i64 (s:Int),.int .i64 to],.pointer (some ⟨b,0,none⟩)] w fun e w'=>e=.returned (.tuple #[])∧MchM w' b bv iv ov (exec (.less r s to) (m.at'+1) m)∧w.grownBy w' (some b):=by
 have hl:=h.lt;have a:=h.alloc (.cells #[.int .i64 (r:Int),.int .i64 (s:Int),.int .i64 to] 187);have hcr:=a.cR r hr;have hr0:(0:Int)≤(r:Int):=by omega
 have hr8:(r:Int)<8:=by omega
 have hcs:=a.cR s hs;have hs0:(0:Int)≤(s:Int):=by omega
 have hs8:(s:Int)<8:=by omega
 have hne4:¬w.heap.size=b:=by omega
 have hne5:¬b=w.heap.size:=by omega
 show Calls _ _ _ _ fun e w'=>_∧MchM w' b bv iv ov (m.goes (if m.regs r<m.regs s then to else m.at'+1))∧_
 by_cases c:m.regs r<m.regs s
 ·rw [if_pos c];have i:m.regs r<m.regs s:=c;go_enter Tryz.func267,Tryz.ntmps267;go_wp2_with fail
  refine zan 18 (by kernel_rfl) (by kernel_rfl) ?_;simp only [List.take_succ_cons,List.take_zero,List.drop_succ_cons,List.drop_zero];repeat(go_big_quiet_step (fail))
  refine wpQuiet_nil ?_;rintro _ ⟨g,rfl⟩;go_wp2_with(first|(go_at_call 269;refine(zie _ b bv iv ov m to (a.drewN g) h0 h1).mono ?_;rintro e j ⟨rfl,d,f⟩))
  go_end0
  exact⟨rfl,d,zai (World.grownBy_alloc w _ _) (zb2 f)⟩
 ·rw [if_neg c];have i:decide (m.regs r<m.regs s)=false:=by simpa using c
  go_enter Tryz.func267,Tryz.ntmps267;go_wp2_with fail
  refine zan 18 (by kernel_rfl) (by kernel_rfl) ?_;simp only [List.take_succ_cons,List.take_zero,List.drop_succ_cons,List.drop_zero];repeat(go_big_quiet_step (fail))
  refine wpQuiet_nil ?_;rintro _ ⟨g,rfl⟩;go_wp2_with(first|(go_at_call 269;refine(zhd _ b bv iv ov m to (a.drewN g) h0 h1 ha hb).mono ?_;rintro e j ⟨rfl,d,f⟩))
  go_end0
  exact⟨rfl,d,zai (World.grownBy_alloc w _ _) (zb2 f)⟩
theorem zyp(w:World)(b:Nat)(bv iv ov:Value)(m:Mc)(r s:Nat)(hr:r<8)(hs:s<8)(to:Int)(h:MchM w b bv iv ov m)(h0:0≤m.steps)(h1:m.steps≤100000)(ha:0≤m.at')(hb:m.at'≤100000):
  Calls Tryz.prog 274 #[.agg #[.int .i64 (r:Int),.int .i64 (s:Int),.int .i64 to],.pointer (some ⟨b,0,none⟩)] w fun e w'=>e=.returned (.tuple #[])∧MchM w' b bv iv ov (exec (.same r s to) (m.at'+1) m)∧w.grownBy w' (some b):=by
 have hl:=h.lt;have a:=h.alloc (.cells #[.int .i64 (r:Int),.int .i64 (s:Int),.int .i64 to] 188);have hcr:=a.cR r hr;have hr0:(0:Int)≤(r:Int):=by omega
 have hr8:(r:Int)<8:=by omega
 have hcs:=a.cR s hs;have hs0:(0:Int)≤(s:Int):=by omega
 have hs8:(s:Int)<8:=by omega
 have hne4:¬w.heap.size=b:=by omega
 have hne5:¬b=w.heap.size:=by omega
 show Calls _ _ _ _ fun e w'=>_∧MchM w' b bv iv ov (m.goes (if m.regs r=m.regs s then to else m.at'+1))∧_
 by_cases c:m.regs r=m.regs s
 ·rw [if_pos c];have i:(m.regs r == m.regs s)=true:=by simpa using c
  go_enter Tryz.func274,Tryz.ntmps274;go_wp2_with fail
  refine zan 18 (by kernel_rfl) (by kernel_rfl) ?_;simp only [List.take_succ_cons,List.take_zero,List.drop_succ_cons,List.drop_zero];repeat(go_big_quiet_step (fail))
  refine wpQuiet_nil ?_;rintro _ ⟨g,rfl⟩;go_wp2_with(first|(go_at_call 269;refine(zie _ b bv iv ov m to (a.drewN g) h0 h1).mono ?_;rintro e j ⟨rfl,d,f⟩))
  go_end0
  exact⟨rfl,d,zai (World.grownBy_alloc w _ _) (zb2 f)⟩
 ·rw [if_neg c];have i:(m.regs r == m.regs s)=false:=by simpa using c
  go_enter Tryz.func274,Tryz.ntmps274;go_wp2_with fail
  refine zan 18 (by kernel_rfl) (by kernel_rfl) ?_;simp only [List.take_succ_cons,List.take_zero,List.drop_succ_cons,List.drop_zero];repeat(go_big_quiet_step (fail))
  refine wpQuiet_nil ?_;rintro _ ⟨g,rfl⟩;go_wp2_with(first|(go_at_call 269;refine(zhd _ b bv iv ov m to (a.drewN g) h0 h1 ha hb).mono ?_;rintro e j ⟨rfl,d,f⟩))
  go_end0
  exact⟨rfl,d,zai (World.grownBy_alloc w _ _) (zb2 f)⟩
theorem zyq(w:World)(b:Nat)(bv iv ov:Value)(m:Mc)(h:MchM w b bv iv ov m)(h0:0≤m.steps)(h1:m.steps≤100000):
  Calls Tryz.prog 288 #[.agg #[],.pointer (some ⟨b,0,none⟩)] w fun e w'=>e=.returned (.tuple #[])∧MchM w' b bv iv ov ({ m with steps:=m.steps+1,fin:=1 })∧w.grownBy w' (some b):=by
 have a:=h.alloc (.cells #[] 193);go_enter Tryz.func288,Tryz.ntmps288;go_wp2_with(first|(go_at_call 290;refine(zsA _ b bv iv ov m a h0 h1).mono ?_;rintro e w2 ⟨rfl,c,d⟩))
 go_end0
 exact⟨rfl,c,zai (World.grownBy_alloc w _ _) d⟩
theorem znw(w:World)(b:Nat)(bv iv ov:Value)(m:Mc)(r s:Nat)(_hr:r<8)(hs:s<8)(h:MchM w b bv iv ov m)(hn:m.regs s<0∨15<m.regs s):
  Calls Tryz.prog 251 #[.agg #[.int .i64 (r:Int),.int .i64 (s:Int)],.pointer (some ⟨b,0,none⟩)] w fun e w'=>e=.returned (.tuple #[])∧MchM w' b bv iv ov (exec (.load r s) (m.at'+1) m)∧w.grownBy w' (some b):=by
 have hl:=h.lt;have a:=h.alloc (.cells #[.int .i64 (r:Int),.int .i64 (s:Int)] 176);have hcs:=a.cR s hs;have hs0:(0:Int)≤(s:Int):=by omega
 have hs8:(s:Int)<8:=by omega
 have hne4:¬w.heap.size=b:=by omega
 have hne5:¬b=w.heap.size:=by omega
 have e1:exec (.load r s) (m.at'+1) m={ m with fin:=3 }:=if_pos hn;rw [e1];go_enter Tryz.func251,Tryz.ntmps251;go_wp2_with fail
 refine zan 8 (by kernel_rfl) (by kernel_rfl) ?_;simp only [List.take_succ_cons,List.take_zero,List.drop_succ_cons,List.drop_zero];repeat(go_big_quiet_step (fail))
 refine wpQuiet_nil ?_;rintro _ ⟨f,rfl⟩;go_wp2_with(first|(go_at_call 253;refine(zl2 _ b bv iv ov m _ (a.drewN f) hn).mono ?_;rintro e w2 ⟨rfl,c,d⟩))
 go_end0
 exact⟨rfl,c,zai (World.grownBy_alloc w _ _) (zb2 d)⟩
theorem zqq(w:World)(b:Nat)(bv iv ov:Value)(m:Mc)(r s n0:Nat)(hr:r<8)(hs:s<8)(hn16:n0<16)(hn:m.regs s=(n0:Int))(h:MchM w b bv iv ov m)(h0:0≤m.steps)(h1:m.steps≤100000)(ha:0≤m.at')(hb:m.at'≤100000):
  Calls Tryz.prog 251 #[.agg #[.int .i64 (r:Int),.int .i64 (s:Int)],.pointer (some ⟨b,0,none⟩)] w fun e w'=>e=.returned (.tuple #[])∧MchM w' b bv iv ov (exec (.load r s) (m.at'+1) m)∧w.grownBy w' (some b):=by
 have hl:=h.lt;have a:=h.alloc (.cells #[.int .i64 (r:Int),.int .i64 (s:Int)] 176);have hcr:=a.cR r hr;have hr0:(0:Int)≤(r:Int):=by omega
 have hr8:(r:Int)<8:=by omega
 have d:=a.cR s hs;have hs0:(0:Int)≤(s:Int):=by omega
 have hs8:(s:Int)<8:=by omega
 have hne4:¬w.heap.size=b:=by omega
 have hne5:¬b=w.heap.size:=by omega
 have hcn:=a.cC n0 hn16;have hfn:=a.fz (8+n0);have hfr:=a.fz r;have e1:exec (.load r s) (m.at'+1) m={ m with regs:=upd m.regs r (m.cells n0) }.goes (m.at'+1):=by
  show(if _ then _ else _)=_;rw [if_neg (by omega),hn];rfl
 rw [e1];have i:=fun n=>(a.drewN n).setR r hr (m.cells n0);have c:=fun n=>zpf ((w.alloc (.cells #[.int .i64 (r:Int),.int .i64 (s:Int)] 176)).drewN n) b n0 bv iv ov m (a.drewN n) hn16;rw [hn] at d;go_enter Tryz.func251,Tryz.ntmps251;go_wp2_with fail
 go_quiet(first|(go_at_call 253;exact Calls.quiet_of_same (c _)))
 go_wp2_with fail
 refine zan 9 (by kernel_rfl) (by kernel_rfl) ?_;simp only [List.take_succ_cons,List.take_zero,List.drop_succ_cons,List.drop_zero];repeat(go_big_quiet_step (fail))
 refine wpQuiet_nil ?_;rintro _ ⟨j,rfl⟩;rw [World.drewN_drewN];go_wp2_with(first|(go_at_call 225;refine(zbC _ b bv iv ov _ (i (nq+j)) h0 h1 ha hb).mono ?_;rintro e w2 ⟨rfl,f,g⟩))
 go_end0
 exact⟨rfl,f,zai zaG g⟩
theorem zl3(w:World)(b:Nat)(bv iv ov:Value)(m:Mc)(r s:Nat)(hr:r<8)(_hs:s<8)(h:MchM w b bv iv ov m)(hn:m.regs r<0∨15<m.regs r):
  Calls Tryz.prog 256 #[.agg #[.int .i64 (r:Int),.int .i64 (s:Int)],.pointer (some ⟨b,0,none⟩)] w fun e w'=>e=.returned (.tuple #[])∧MchM w' b bv iv ov (exec (.store r s) (m.at'+1) m)∧w.grownBy w' (some b):=by
 have hl:=h.lt;have a:=h.alloc (.cells #[.int .i64 (r:Int),.int .i64 (s:Int)] 178);have hcr:=a.cR r hr;have hr0:(0:Int)≤(r:Int):=by omega
 have hr8:(r:Int)<8:=by omega
 have hne4:¬w.heap.size=b:=by omega
 have hne5:¬b=w.heap.size:=by omega
 have e1:exec (.store r s) (m.at'+1) m={ m with fin:=3 }:=if_pos hn;rw [e1];go_enter Tryz.func256,Tryz.ntmps256;go_wp2_with fail
 refine zan 8 (by kernel_rfl) (by kernel_rfl) ?_;simp only [List.take_succ_cons,List.take_zero,List.drop_succ_cons,List.drop_zero];repeat(go_big_quiet_step (fail))
 refine wpQuiet_nil ?_;rintro _ ⟨f,rfl⟩;go_wp2_with(first|(go_at_call 253;refine(zl2 _ b bv iv ov m _ (a.drewN f) hn).mono ?_;rintro e w2 ⟨rfl,c,d⟩))
 go_end0
 exact⟨rfl,c,zai (World.grownBy_alloc w _ _) (zb2 d)⟩
theorem znx(w:World)(b:Nat)(bv iv ov:Value)(m:Mc)(r s n0:Nat)(hr:r<8)(hs:s<8)(hn16:n0<16)(hn:m.regs r=(n0:Int))(h:MchM w b bv iv ov m)(h0:0≤m.steps)(h1:m.steps≤100000)(ha:0≤m.at')(hb:m.at'≤100000):
  Calls Tryz.prog 256 #[.agg #[.int .i64 (r:Int),.int .i64 (s:Int)],.pointer (some ⟨b,0,none⟩)] w fun e w'=>e=.returned (.tuple #[])∧MchM w' b bv iv ov (exec (.store r s) (m.at'+1) m)∧w.grownBy w' (some b):=by
 have hl:=h.lt;have a:=h.alloc (.cells #[.int .i64 (r:Int),.int .i64 (s:Int)] 178);have d:=a.cR r hr;have hr0:(0:Int)≤(r:Int):=by omega
 have hr8:(r:Int)<8:=by omega
 have hcs:=a.cR s hs;have hs0:(0:Int)≤(s:Int):=by omega
 have hs8:(s:Int)<8:=by omega
 have hne4:¬w.heap.size=b:=by omega
 have hne5:¬b=w.heap.size:=by omega
 have hcn:=a.cC n0 hn16;have hfn:=a.fz (8+n0);have hfr:=a.fz r;have e1:exec (.store r s) (m.at'+1) m={ m with cells:=upd m.cells n0 (m.regs s) }.goes (m.at'+1):=by
  show(if _ then _ else _)=_;rw [if_neg (by omega),hn];rfl
 rw [e1];have i:=fun n=>(a.drewN n).setC n0 hn16 (m.regs s);have c:=fun n=>zpf ((w.alloc (.cells #[.int .i64 (r:Int),.int .i64 (s:Int)] 178)).drewN n) b n0 bv iv ov m (a.drewN n) hn16;rw [hn] at d;go_enter Tryz.func256,Tryz.ntmps256;go_wp2_with fail
 go_quiet(first|(go_at_call 253;exact Calls.quiet_of_same (c _)))
 go_wp2_with fail
 refine zan 9 (by kernel_rfl) (by kernel_rfl) ?_;simp only [List.take_succ_cons,List.take_zero,List.drop_succ_cons,List.drop_zero];repeat(go_big_quiet_step (fail))
 refine wpQuiet_nil ?_;rintro _ ⟨j,rfl⟩;rw [World.drewN_drewN];go_wp2_with(first|(go_at_call 225;refine(zbC _ b bv iv ov _ (i (nq+j)) h0 h1 ha hb).mono ?_;rintro e w2 ⟨rfl,f,g⟩))
 go_end0
 exact⟨rfl,f,zai zaG g⟩
end
end Go.Proofs.YtfpgjkbjbbgciaaGreatDoor
