import Derived.Test.YtfpgjkbjbbgciaaGreatDoorMk00
set_option maxRecDepth 100000
set_option maxHeartbeats 8000000
namespace Go.Proofs.YtfpgjkbjbbgciaaGreatDoor
section
open Go.RowKit
theorem zd6(x:Int)(h0:0≤x)(h1:x≤1000000):IntKind.i64.wrap x=x:=IntWalk.i64_in x (by omega)
theorem zhL{W w1:World}{B:Nat}(hb:Below B W w1):(∀ b o,b<B→w1.cell? ⟨b,o,none⟩=W.cell? ⟨b,o,none⟩)∧(∀ b o,b<B→w1.frozen? ⟨b,o,none⟩=W.frozen? ⟨b,o,none⟩) :=
 ⟨fun b o h=>hb.cell (p:=⟨b,o,none⟩) h,fun b o h=>hb.frozen (p:=⟨b,o,none⟩) h⟩
theorem zcH{a b:Bool}(h:a=b):Ending.returned (.bool a)=.returned (.bool b):=by rw [h]
theorem zb2{w w':World}{n:Nat}{r:Option Nat}(h:(w.drewN n).grownBy w' r):w.grownBy w' r:=⟨h.os,h.tape,h.output,h.size,h.block⟩
theorem zba{w:World}{B:Nat}{e:TypeId}{size n:Nat}{v:Value}{xs:List Value}(hown:w.ownsRow B e size v n xs):∃ ao cap,v=.slice ao n cap:=by
 rcases hown.2 with ⟨a,b⟩|⟨g,cap,cur,a,_⟩
 ·exact⟨none,0,by rw [a,b]⟩
 ·exact⟨_,cap,a⟩
theorem zd7{w:World}{B e size n:Nat}{v:Value}{l:List Value}(h:w.ownsRow B e size v n l):∃ ao cap,v=.slice ao n cap∧n≤cap∧cap≤maxLen∧(ao=none→n=0∧cap=0):=by
 rcases h.2 with ⟨rfl,rfl⟩|⟨g,cap,cur,rfl,_,_,a,b,_⟩
 ·exact⟨none,0,rfl,Nat.le_refl _,Nat.zero_le _,fun _=>⟨rfl,rfl⟩⟩
 ·exact⟨_,cap,rfl,a,b,fun e=>by cases e⟩
theorem zaj{w w':World}{B:Nat}{e:TypeId}{size n:Nat}{v:Value}{xs:List Value}(h:w.ownsRow B e size v n xs)(hb:∀ g,v.ownBlock=some g→w'.heap[g]?=w.heap[g]?):w'.ownsRow B e size v n xs:=by
 refine⟨h.1,?_⟩;rcases h.2 with c|⟨g,a,b,i,d,f,r⟩
 ·exact .inl c
 ·exact .inr ⟨g,a,b,i,d,(hb g (by rw [i];rfl)).trans f,r⟩
end
namespace Sp
def least:Int:=-9223372036854775808
def zd8(n d:Int):Bool:=decide (d<0)||decide (9<d)||decide (n<(least+d).tdiv 10)
def zeV(s:ByteArray)(i:Nat)(n:Int):Option Int :=
 if i<s.size then
  if zd8 n (bt s i-48)=true then none else zeV s (i+1) (10*n-(bt s i-48))
 else some n
termination_by s.size-i
theorem zlu(s:ByteArray)(i:Nat)(n:Int)(h:¬i<s.size):zeV s i n=some n:=by
 rw [zeV,if_neg h]
theorem zlv(s:ByteArray)(i:Nat)(n:Int)(h:i<s.size)(h':zd8 n (bt s i-48)=true):zeV s i n=none:=by
 rw [zeV,if_pos h,if_pos h']
theorem zjE(s:ByteArray)(i:Nat)(n:Int)(h:i<s.size)(h':¬zd8 n (bt s i-48)=true):zeV s i n=zeV s (i+1) (10*n-(bt s i-48)):=by
 rw [zeV,if_pos h,if_neg h']
def zcU(minus:Bool):Option Int→Int × Bool
 | none=>(0,false)
 | some n=>if minus=true then(n,true) else(if n=least then least else -n,decide (least<n))
def zgT(s:ByteArray):Bool:=decide (0<s.size)&&decide (bt s 0=45)
def zb3(s:ByteArray):Int × Bool :=
 if zgT s=true then(if s.size=1 then(0,false) else zcU true (zeV s 1 0))
 else(if s.size=0 then(0,false) else zcU false (zeV s 0 0))
theorem zoZ(d:Int)(h:d≤9):(least+d).tdiv 10=-((9223372036854775808-d)/10):=by
 have e:least+d=-(9223372036854775808-d):=by unfold least;omega
 rw [e,Int.neg_tdiv,Int.tdiv_eq_ediv_of_nonneg (by omega)]
theorem zv8(n d:Int)(h:¬zd8 n d=true)(h0:least≤n)(h1:n≤0):least≤10*n-d∧10*n-d≤0∧0≤d∧d≤9:=by
 simp [zd8] at h;obtain⟨⟨h2,a⟩,b⟩:=h;rw [zoZ d a] at b;unfold least at *;omega
end Sp
section
open Go.RowKit Sp
theorem zlt(W:World)(v:Value):(Instr.typeAssert (.iface 115 v) 20 115 true).run Tryz.prog W=.ok (.tuple #[v,.bool true]) W:=by kernel_rfl
theorem znn{w:World}{b:Nat}{x y:Value}(hx:w.cell? ⟨b,0,none⟩=some x)(hy:w.cell? ⟨b+1,0,none⟩=some y)(e l:Value)(o:Obj):
  Below b w (((w.setCell ⟨b,0,none⟩ e).setCell ⟨b+1,0,none⟩ l).alloc o).drew∧(((w.setCell ⟨b,0,none⟩ e).setCell ⟨b+1,0,none⟩ l).alloc o).drew.cell? ⟨b,0,none⟩=some e∧(((w.setCell ⟨b,0,none⟩ e).setCell ⟨b+1,0,none⟩ l).alloc o).drew.cell? ⟨b+1,0,none⟩=some l:=by
 have hlt1:b+1<w.heap.size:=by have:=World.block_lt_of_cell? w _ hy;simpa using this
 refine⟨((((Below.refl b w).setCell (p:=⟨b,0,none⟩) (Nat.le_refl _) _).setCell (p:=⟨b+1,0,none⟩) (Nat.le_succ b) _).alloc (by simp [World.setCell];omega) _).drew,?_,?_⟩
 ·show(((w.setCell ⟨b,0,none⟩ e).setCell ⟨b+1,0,none⟩ l).alloc o).cell? ⟨b,0,none⟩=some e;rw [World.cell?_alloc_lt _ o ⟨b,0,none⟩ (by simp [World.setCell];omega),World.cell?_setCell_other]
  ·exact World.cell?_setCell_same w _ _ hx
  ·simp
 ·show(((w.setCell ⟨b,0,none⟩ e).setCell ⟨b+1,0,none⟩ l).alloc o).cell? ⟨b+1,0,none⟩=some l;rw [World.cell?_alloc_lt _ o ⟨b+1,0,none⟩ (by simp [World.setCell];omega)];refine World.cell?_setCell_same (u:=y) _ _ _ ?_;rw [World.cell?_setCell_other]
  ·exact hy
  ·simp
theorem zf9(b:Nat)(x y e l:Int)(w:World)(hx:w.cell? ⟨b,0,none⟩=some (.int .i64 x))(hy:w.cell? ⟨b+1,0,none⟩=some (.int .i64 y))(fx:w.frozen? ⟨b,0,none⟩=false)(fy:w.frozen? ⟨b+1,0,none⟩=false):
  CallsD Tryz.prog 64 #[.pointer (some ⟨b,0,none⟩),.pointer (some ⟨b+1,0,none⟩)] (.panicking ({ v:=.iface 115 (.agg #[.int .i64 e,.int .i64 l]),recovered:=false } :: [])) w fun en u' w' =>
   en=.returned (.tuple #[])∧u'=.panicking ({ v:=.iface 115 (.agg #[.int .i64 e,.int .i64 l]),recovered:=true } :: [])∧Below b w w'∧w'.cell? ⟨b,0,none⟩=some (.int .i64 e)∧w'.cell? ⟨b+1,0,none⟩=some (.int .i64 l):=by
 have has:=zlt;refine callsD_of_wpS Tryz.func64 rfl fun c₀ cs hu=>?_;apply wpS_seq;apply wpS_region;simp [wpOpsS,go_sem,recoverD,hu,Tryz.ntmps64,Exit.thenS];refine wpS_of_wp ?_;have hlt1:b+1<w.heap.size:=by have:=World.block_lt_of_cell? w _ hy;simpa using this
 have hlt0:b<w.heap.size:=by omega
 have hn1:¬b=w.heap.size:=by omega
 have hn2:¬b+1=w.heap.size:=by omega
 go_wp2
 go_region
 all_goals exact⟨rfl,_,rfl,.tuple #[],by simp [results,Tryz.results64],rfl,rfl,znn hx hy _ _ _⟩
theorem zjD(b:Nat)(w:World):
  CallsD Tryz.prog 64 #[.pointer (some ⟨b,0,none⟩),.pointer (some ⟨b+1,0,none⟩)] .returning w fun en u' w'=>en=.returned (.tuple #[])∧u'=.returning∧w'=w:=by
 refine callsD_of_wpS Tryz.func64 rfl fun c₀ cs hu=>?_;apply wpS_seq;apply wpS_region;simp [wpOpsS,go_sem,recoverD,hu,Tryz.ntmps64,Exit.thenS];refine wpS_of_wp ?_;go_wp2;exact⟨rfl,.returning,by rw [←hu],.tuple #[],by simp [results,Tryz.results64],rfl,rfl,rfl⟩
end
namespace Sp
def numL:List UInt8→Int→Option Int
 | [],n=>some n
 | c :: r,n=>if zd8 n ((c.toNat:Int)-48)=true then none else numL r (10*n-((c.toNat:Int)-48))
theorem zhO(s:ByteArray)(i:Nat)(h:i<s.size):∃ c r,s.data.toList.drop i=c :: r∧(c.toNat:Int)=bt s i∧r=s.data.toList.drop (i+1):=by
 have a:i<s.data.toList.length:=by simpa using h
 refine⟨s.data.toList[i],s.data.toList.drop (i+1),List.drop_eq_getElem_cons a,?_,rfl⟩;unfold bt;have b:i<s.data.size:=h;rw [Array.getElem?_eq_getElem b];simp
theorem zfk(s:ByteArray)(i:Nat)(n:Int):zeV s i n=numL (s.data.toList.drop i) n:=by
 by_cases h:i<s.size
 ·obtain⟨c,r,h1,a,b⟩:=zhO s i h;rw [h1];cases hb:zd8 n (bt s i-48) with
  | true=>rw [zlv s i n h hb];simp [numL,a,hb]
  | false =>
   rw [zjE s i n h (by simp [hb]),zfk s (i+1),←b];simp [numL,a,hb]
 ·rw [zlu s i n h,List.drop_of_length_le (by simpa using h)];rfl
termination_by s.size-i
def zaQ:List UInt8→Bool
 | []=>true
 | c :: r=>decide (48≤c.toNat∧c.toNat≤57)&&zaQ r
theorem zgq(a:Nat)(d:Int)(h0:0≤d)(h9:d≤9):zd8 (-(a:Int)) d=decide (9223372036854775808<10*(a:Int)+d):=by
 unfold zd8;rw [zoZ d h9];by_cases h:9223372036854775808<10*(a:Int)+d
 ·have:-(a:Int) < -((9223372036854775808-d)/10):=by omega
  simp [h,this]
 ·have:¬-(a:Int) < -((9223372036854775808-d)/10):=by omega
  have b:¬d<0:=by omega
  have c:¬9<d:=by omega
  simp [h,this,b,c]
theorem znq(M:Nat)(l:List UInt8)(a u:Nat)(h:Lib.parseUintM M a l=.ok u):a≤u:=by
 induction l generalizing a with
 | nil=>simp [Lib.parseUintM] at h;omega
 | cons c r ih =>
  unfold Lib.parseUintM at h;split at h
  ·split at h
   ·cases h
   ·split at h
    ·cases h
    ·have:=ih _ h;omega
  ·cases h
def zee:Lib.NumEnd Nat→Option Int
 | .ok u=>if u≤9223372036854775808 then some (-(u:Int)) else none
 | _=>none
theorem zpb(l:List UInt8)(a:Nat)(hd:zaQ l=true)(ha:a≤9223372036854775808):numL l (-(a:Int))=zee (Lib.parseUintM (2 ^ 64-1) a l):=by
 induction l generalizing a with
 | nil=>simp [numL,Lib.parseUintM,zee,ha]
 | cons c r ih =>
  simp only [zaQ,Bool.and_eq_true,decide_eq_true_eq] at hd;obtain⟨d,f⟩:=hd;unfold numL Lib.parseUintM;rw [if_pos d,zgq a _ (by omega) (by omega)];by_cases b:9223372036854775808<10*(a:Int)+((c.toNat:Int)-48)
  ·rw [if_pos (by simpa using b)];split
   ·rfl
   ·split
    ·rfl
    ·cases he:Lib.parseUintM (2 ^ 64-1) (a*10+(c.toNat-48)) r with
     | ok u =>
      have:=znq _ _ _ _ he;simp [zee];omega
     | «syntax»=>rfl
     | range=>rfl
  ·rw [if_neg (by simpa using b),if_neg (by omega),if_neg (by omega)];have e:10 * -(a:Int)-((c.toNat:Int)-48)=-((a*10+(c.toNat-48):Nat):Int):=by omega
   rw [e];exact ih _ f (by omega)
theorem zpc(l:List UInt8)(n:Int)(hd:zaQ l=false):numL l n=none:=by
 induction l generalizing n with
 | nil=>simp [zaQ] at hd
 | cons c r ih =>
  unfold numL;cases hb:zd8 n ((c.toNat:Int)-48) with
  | true=>rfl
  | false =>
   have a:zaQ r=false:=by
    simp only [zaQ] at hd;have hc:48≤c.toNat∧c.toNat≤57:=by
     simp [zd8] at hb;omega
    simpa [hc] using hd
   simp only [Bool.false_eq_true,if_false];exact ih _ a
def bare(l:List UInt8):List UInt8:=match l with|45 :: r=>r|l=>l
theorem zjF(s:ByteArray):zgT s=(match s.data.toList with|45 :: _=>true|_=>false):=by
 by_cases h:0<s.size
 ·obtain⟨c,r,b,d,_⟩:=zhO s 0 h;rw [List.drop_zero] at b;rw [b];unfold zgT;rw [←d];by_cases a:c=45
  ·subst a;simp [h]
  ·have:¬(c.toNat:Int)=45:=by
    intro e;apply a;exact UInt8.toNat_inj.1 (by simp;omega)
   simp [h,this];split
   ·rename_i heq;simp at heq;exact absurd heq.1 a
   ·rfl
 ·have h0:s.data.toList=[]:=List.eq_nil_of_length_eq_zero (by simpa using h);rw [h0];simp [zgT,h]
theorem zv9(s:ByteArray)(h:zaQ (bare s.data.toList)=false):(zb3 s).2=false:=by
 have a:=zjF s;unfold zb3;split at a
 ·rename_i r heq;rw [a,if_pos rfl];rw [heq] at h;split
  ·rfl
  ·rw [zfk,heq];simp only [List.drop_succ_cons,List.drop_zero];rw [zpc r 0 (by simpa [bare] using h)];rfl
 ·rename_i hne;rw [a,if_neg (by simp)];have hb:bare s.data.toList=s.data.toList:=by
   unfold bare;split
   ·rename_i r heq;exact absurd heq (hne r)
   ·rfl
  rw [hb] at h;split
  ·rfl
  ·rw [zfk,List.drop_zero,zpc _ 0 h];rfl
theorem zvA(s:ByteArray)(h:zaQ (bare s.data.toList)=true):(∀ v,Lib.parseIntB 64 s.data.toList=.ok v→zb3 s=(v,true))∧(Lib.parseIntB 64 s.data.toList=.«syntax»→(zb3 s).2=false)∧(Lib.parseIntB 64 s.data.toList=.range→(zb3 s).2=false):=by
 have q:=zjF s;have d:s.data.toList.length=s.size:=by simp
 split at q
 ·rename_i r heq;have w:zaQ r=true:=by rw [heq] at h;simpa [bare] using h
  rw [heq] at d ⊢;have e:zb3 s=if s.size=1 then(0,false) else zcU true (zeV s 1 0):=by unfold zb3;rw [q,if_pos rfl]
  rw [e,zfk,heq];simp only [List.drop_succ_cons,List.drop_zero];have f:=zpb r 0 w (by omega);simp only [Int.ofNat_zero,Int.neg_zero] at f;rw [f];simp only [List.length_cons] at d;have t:Lib.parseIntB 64 (45 :: r)=(match Lib.parseUintB 64 r with|.«syntax»=>.«syntax»|.range=>.range|.ok u=>if 9223372036854775808<u then .range else .ok (-(u:Int))):=by
   unfold Lib.parseIntB;simp;cases Lib.parseUintB 64 r <;> rfl
  rw [t];unfold Lib.parseUintB;by_cases m:r=[]
  ·subst m;have:s.size=1:=by simp at d;omega
   simp [this]
  ·have n:¬s.size=1:=by cases r with|nil=>exact absurd rfl m|cons a b=>simp at d;omega
   rw [if_neg m,if_neg n];cases he:Lib.parseUintM (2 ^ 64-1) 0 r with
   | «syntax»=>simp [zee,zcU]
   | range=>simp [zee,zcU]
   | ok u =>
    by_cases k:u≤9223372036854775808
    ·have g:¬9223372036854775808<u:=by omega
     simp [zee,k,g,zcU]
    ·have g:9223372036854775808<u:=by omega
     simp [zee,k,g,zcU]
 ·rename_i hne;have hb:bare s.data.toList=s.data.toList:=by
   unfold bare;split
   ·rename_i r heq;exact absurd heq (hne r)
   ·rfl
  rw [hb] at h;have e:zb3 s=if s.size=0 then(0,false) else zcU false (zeV s 0 0):=by unfold zb3;rw [q,if_neg (by simp)]
  rw [e,zfk,List.drop_zero];have f:=zpb s.data.toList 0 h (by omega);simp only [Int.ofNat_zero,Int.neg_zero] at f;rw [f];generalize s.data.toList=l at *;cases l with
  | nil =>
   have:s.size=0:=by simpa using d.symm
   simp [this,Lib.parseIntB]
  | cons c r =>
   have n:¬s.size=0:=by simp at d;omega
   rw [if_neg n];simp only [zaQ,Bool.and_eq_true,decide_eq_true_eq] at h;have c1:¬c.toNat=43:=by omega
   have p:¬c.toNat=45:=by omega
   have t:Lib.parseIntB 64 (c :: r)=(match Lib.parseUintB 64 (c :: r) with|.«syntax»=>.«syntax»|.range=>.range|.ok u=>if 9223372036854775808≤u then .range else .ok (u:Int)):=by
    unfold Lib.parseIntB;simp [c1,p];cases Lib.parseUintB 64 (c :: r) <;> rfl
   rw [t];unfold Lib.parseUintB;rw [if_neg (by simp)];cases he:Lib.parseUintM (2 ^ 64-1) 0 (c :: r) with
   | «syntax»=>simp [zee,zcU]
   | range=>simp [zee,zcU]
   | ok u =>
    by_cases k:9223372036854775808≤u
    ·by_cases i:u≤9223372036854775808
     ·have j:u=9223372036854775808:=by omega
      subst j;simp [zee,zcU,least]
     ·simp [zee,zcU,k,i]
    ·have i:u≤9223372036854775808:=by omega
     have j:¬(-(u:Int))=least:=by unfold least;omega
     have o:least < -(u:Int):=by unfold least;omega
     simp [zee,zcU,k,i,j,o]
end Sp
end Go.Proofs.YtfpgjkbjbbgciaaGreatDoor
