import Derived.Test.YtfpgjkbjbbgciaaGreatDoorMi17
set_option maxRecDepth 100000
set_option maxHeartbeats 8000000
namespace Go.Proofs.YtfpgjkbjbbgciaaGreatDoor
section
open Go.RowKit Sp
def zbQ(s:ByteArray)(R:Int × Int):Prop:=∀ w,LibW w→Calls Tryz.prog 44 #[.string s] w fun e w' =>
 Below w.heap.size w w'∧(R=(0,0)∧(∃ v,e=.returned v)∨¬R=(0,0)∧e=zak R.1 R.2)
theorem zxO(s:ByteArray)(h:zbQ s (0,0))(w:World)(hw:LibW w)(p:Addr)(hp:w.cell? p=some (.string s)):
  Calls Tryz.prog 43 #[.pointer (some p)] w fun e w'=>e=.returned (.tuple #[])∧Below w.heap.size w w':=by
 have hc:=(h w hw).mono (R':=fun e w'=>(∃ v,e=.returned v)∧Below w.heap.size w w') (by
  rintro e w' ⟨hb,⟨_,h⟩|⟨h,_⟩⟩
  ·exact⟨h,hb⟩
  ·exact absurd rfl h)
 go_enter Tryz.func43,Tryz.ntmps43
 go_wp2_with(go_at_call 44;refine hc.mono ?_;rintro e w1 ⟨⟨v,rfl⟩,hb⟩)
 go_end0
 exact⟨rfl,hb⟩
theorem zxP(s:ByteArray)(R:Int × Int)(hR:¬R=(0,0))(h:zbQ s R)(w:World)(hw:LibW w)(p:Addr)(hp:w.cell? p=some (.string s)):
  Calls Tryz.prog 43 #[.pointer (some p)] w fun e w'=>e=zak R.1 R.2∧Below w.heap.size w w':=by
 have hc:=(h w hw).mono (R':=fun e w'=>e=zak R.1 R.2∧Below w.heap.size w w') (by
  rintro e w' ⟨hb,⟨h,_⟩|⟨_,h⟩⟩
  ·exact absurd h hR
  ·exact⟨h,hb⟩)
 go_enter Tryz.func43,Tryz.ntmps43
 go_wp2_with(go_at_call 44;refine hc.mono ?_;rintro e w1 ⟨rfl,hb⟩)
 exact⟨rfl,rfl,hb⟩
theorem zqb(s:ByteArray)(h:zbQ s (0,0))(w:World)(hw:LibW w)(p:Addr)(hp:w.cell? p=some (.string s)):
  Calls Tryz.prog 42 #[.func (.func 43) #[] #[.pointer (some p)]] w fun e w'=>e=.returned (.tuple #[.int .i64 0,.int .i64 0])∧Below w.heap.size w w':=by
 have hmf:∀(fn:Go.Fn) (first cap:Array Value) (w:World),(Instr.makeFunc fn first cap).run Tryz.prog w=.ok (.func fn first cap) w:=fun _ _ _ _=>rfl
 have hplt:=World.block_lt_of_cell? w p hp
 have hw2:LibW ((w.alloc (.cells #[.int .i64 0] 22)).alloc (.cells #[.int .i64 0] 3)):=hw.below (((Below.refl _ _).alloc (Nat.le_refl _) _).alloc (by simp) _)
 have hp2:((w.alloc (.cells #[.int .i64 0] 22)).alloc (.cells #[.int .i64 0] 3)).cell? p=some (.string s):=by
  rw [World.cell?_alloc_lt _ _ p (by simp;omega),World.cell?_alloc_lt _ _ p hplt];exact hp
 have hcall:=zxO s h _ hw2 p hp2
 go_enter_defers Tryz.func42,Tryz.ntmps42
 go_wp2_with(go_at_call 43;refine hcall.mono ?_;rintro e w1 ⟨rfl,hb⟩;obtain⟨hc,hf⟩:=zhF hb)
 have z0:w1.cell? ⟨w.heap.size,0,none⟩=some (.int .i64 0):=by rw [hc _ _ (by simp;omega)];simp
 have z1:w1.cell? ⟨w.heap.size+1,0,none⟩=some (.int .i64 0):=by rw [hc _ _ (by simp)];simp
 have y0:((w1.setCell ⟨w.heap.size,0,none⟩ (.int .i64 0)).setCell ⟨w.heap.size+1,0,none⟩ (.int .i64 0)).cell? ⟨w.heap.size,0,none⟩=some (.int .i64 0):=by
  rw [World.cell?_setCell_other]
  ·exact World.cell?_setCell_same w1 _ _ z0
  ·simp
 have y1:((w1.setCell ⟨w.heap.size,0,none⟩ (.int .i64 0)).setCell ⟨w.heap.size+1,0,none⟩ (.int .i64 0)).cell? ⟨w.heap.size+1,0,none⟩=some (.int .i64 0):=by
  refine World.cell?_setCell_same (u:=.int .i64 0) _ _ _ ?_
  rw [World.cell?_setCell_other]
  ·exact z1
  ·simp
 have hbw:=((zmR _ _ _ hb).setCell (p:=⟨w.heap.size,0,none⟩) (Nat.le_refl _) (.int .i64 0)).setCell (p:=⟨w.heap.size+1,0,none⟩) (Nat.le_succ _) (.int .i64 0)
 generalize (w1.setCell ⟨w.heap.size,0,none⟩ (.int .i64 0)).setCell ⟨w.heap.size+1,0,none⟩ (.int .i64 0)=X at y0 y1 hbw ⊢
 refine leaves_cons (f:=64) (args:=#[.pointer (some ⟨w.heap.size,0,none⟩),.pointer (some ⟨w.heap.size+1,0,none⟩)]) (by simp) (by simp [go_sem]) ?_
 refine(zju w.heap.size _).mono ?_
 rintro e u' w'' ⟨rfl,rfl,rfl⟩
 exact⟨.tuple #[.int .i64 0,.int .i64 0],by simp [results,Tryz.results42,go_sem,y0,y1],rfl,hbw⟩
theorem zqc(s:ByteArray)(R:Int × Int)(hR:¬R=(0,0))(h:zbQ s R)(w:World)(hw:LibW w)(p:Addr)(hp:w.cell? p=some (.string s)):
  Calls Tryz.prog 42 #[.func (.func 43) #[] #[.pointer (some p)]] w fun e w'=>e=.returned (.tuple #[.int .i64 R.1,.int .i64 R.2])∧Below w.heap.size w w':=by
 have hmf:∀(fn:Go.Fn) (first cap:Array Value) (w:World),(Instr.makeFunc fn first cap).run Tryz.prog w=.ok (.func fn first cap) w:=fun _ _ _ _=>rfl
 have hplt:=World.block_lt_of_cell? w p hp
 have hw2:LibW ((w.alloc (.cells #[.int .i64 0] 22)).alloc (.cells #[.int .i64 0] 3)):=hw.below (((Below.refl _ _).alloc (Nat.le_refl _) _).alloc (by simp) _)
 have hp2:((w.alloc (.cells #[.int .i64 0] 22)).alloc (.cells #[.int .i64 0] 3)).cell? p=some (.string s):=by
  rw [World.cell?_alloc_lt _ _ p (by simp;omega),World.cell?_alloc_lt _ _ p hplt];exact hp
 have hcall:=zxP s R hR h _ hw2 p hp2
 go_enter_defers Tryz.func42,Tryz.ntmps42
 go_wp2_with(go_at_call 43;refine hcall.mono ?_;rintro e w1 ⟨rfl,hb⟩;obtain⟨hc,hf⟩:=zhF hb)
 have z0:w1.cell? ⟨w.heap.size,0,none⟩=some (.int .i64 0):=by rw [hc _ _ (by simp;omega)];simp
 have z1:w1.cell? ⟨w.heap.size+1,0,none⟩=some (.int .i64 0):=by rw [hc _ _ (by simp)];simp
 have f0:w1.frozen? ⟨w.heap.size,0,none⟩=false:=by rw [hf _ _ (by simp;omega)];simp
 have f1:w1.frozen? ⟨w.heap.size+1,0,none⟩=false:=by rw [hf _ _ (by simp)];simp
 refine leaves_cons (f:=64) (args:=#[.pointer (some ⟨w.heap.size,0,none⟩),.pointer (some ⟨w.heap.size+1,0,none⟩)]) (by simp) (by simp [go_sem]) ?_
 refine(zfF w.heap.size 0 0 R.1 R.2 _ z0 z1 f0 f1).mono ?_
 rintro e u' w'' ⟨rfl,rfl,hb2,y0,y1⟩
 exact⟨.tuple #[.int .i64 R.1,.int .i64 R.2],by simp [results,Tryz.results42,go_sem,y0,y1],rfl,(zmR _ _ _ hb).trans hb2⟩
theorem znk(s:ByteArray)(R:Int × Int)(h:zbQ s R)(w:World)(hw:LibW w)(p:Addr)(hp:w.cell? p=some (.string s)):
  Calls Tryz.prog 42 #[.func (.func 43) #[] #[.pointer (some p)]] w fun e w'=>e=.returned (.tuple #[.int .i64 R.1,.int .i64 R.2])∧Below w.heap.size w w':=by
 by_cases hR:R=(0,0)
 ·subst hR;exact zqb s h w hw p hp
 ·exact zqc s R hR h w hw p hp
theorem zss(s:ByteArray)(R:Int × Int)(h:zbQ s R)(w:World)(hw:LibW w):
  Calls Tryz.prog 15 #[.string s] w fun e w'=>e=.returned (.tuple #[.int .i64 R.1,.int .i64 R.2])∧Below w.heap.size w w':=by
 have hmf:∀(fn:Go.Fn) (first cap:Array Value) (w:World),(Instr.makeFunc fn first cap).run Tryz.prog w=.ok (.func fn first cap) w:=fun _ _ _ _=>rfl
 have hw2:LibW (w.alloc (.cells #[.string s] 9)):=hw.below ((Below.refl _ _).alloc (Nat.le_refl _) _)
 have hcall:=znk s R h (w.alloc (.cells #[.string s] 9)) hw2 ⟨w.heap.size,0,none⟩ (by simp)
 go_enter Tryz.func15,Tryz.ntmps15
 go_wp2_with(go_at_call 42;refine hcall.mono ?_;rintro e w1 ⟨rfl,hb⟩)
 go_ret2
 exact⟨rfl,((Below.refl _ _).alloc (Nat.le_refl _) _).trans (hb.mono (by simp))⟩
end
section
open Sp
def cmpI(a b:Int):Int:=if a<b then -1 else if b<a then 1 else 0
theorem zgd{a b:Int}(h:cmpI a b=0):a=b:=by
 unfold cmpI at h
 split at h
 ·omega
 ·split at h <;> omega
theorem zlV(a:Int):cmpI a a=0:=by unfold cmpI;rw [if_neg (by omega),if_neg (by omega)]
def cmpL:List Int→List Int→Int
 | [],[]=>0
 | [],_ :: _=>-1
 | _ :: _,[]=>1
 | a :: x,b :: y=>if cmpI a b=0 then cmpL x y else cmpI a b
def cmpK(k o:Kn):Int:=if k.steps=o.steps then(if k.next=o.next then cmpL k.behind o.behind else cmpI k.next o.next) else cmpI k.steps o.steps
def encL:Nat→List Int→Int
 | 0,_=>0
 | _+1,[]=>0
 | n+1,z :: r=>(z+1)*1024 ^ n+encL n r
def SmallL(n:Nat)(l:List Int):Prop:=l.length≤n∧∀ z∈l,0≤z∧z≤1000
theorem zk2(n:Nat):(0:Int)<1024 ^ n:=Int.pow_pos (by omega)
theorem SmallL.tail{n:Nat}{z:Int}{r:List Int}(h:SmallL (n+1) (z :: r)):SmallL n r:=⟨by have:=h.1;simp at this;omega,fun y hy=>h.2 y (List.mem_cons_of_mem _ hy)⟩
theorem ze9(n:Nat)(l:List Int)(h:SmallL n l):0≤encL n l∧encL n l<1024 ^ n:=by
 induction n generalizing l with
 | zero=>exact⟨Int.le_refl _,by show(0:Int)<1;omega⟩
 | succ n ih =>
  cases l with
  | nil=>exact⟨Int.le_refl _,zk2 _⟩
  | cons z r =>
   obtain⟨h1,h2⟩:=ih r h.tail
   obtain⟨z0,z1⟩:=h.2 z List.mem_cons_self
   have hp:=zk2 n
   show 0≤(z+1)*1024 ^ n+encL n r∧(z+1)*1024 ^ n+encL n r<1024 ^ (n+1)
   rw [Int.pow_succ]
   have hm:(z+1)*1024 ^ n≤1001*1024 ^ n:=Int.mul_le_mul_of_nonneg_right (by omega) (by omega)
   have hm0:0≤(z+1)*1024 ^ n:=Int.mul_nonneg (by omega) (by omega)
   omega
theorem zyo(n:Nat)(x y:List Int)(hx:SmallL n x)(hy:SmallL n y):(cmpL x y<0→encL n x<encL n y)∧(cmpL x y=0→x=y)∧(0<cmpL x y→encL n y<encL n x):=by
 induction n generalizing x y with
 | zero =>
  have e1:x=[]:=List.length_eq_zero_iff.1 (by have:=hx.1;omega)
  have e2:y=[]:=List.length_eq_zero_iff.1 (by have:=hy.1;omega)
  subst e1;subst e2
  exact⟨fun h=>absurd h (by decide),fun _=>rfl,fun h=>absurd h (by decide)⟩
 | succ n ih =>
  have hp:=zk2 n
  cases x with
  | nil =>
   cases y with
   | nil=>exact⟨fun h=>absurd h (by decide),fun _=>rfl,fun h=>absurd h (by decide)⟩
   | cons b y =>
    refine⟨fun _=>?_,fun h=>absurd h (by simp [cmpL]),fun h=>absurd h (by simp [cmpL])⟩
    have:=(ze9 n y hy.tail).1
    obtain⟨b0,b1⟩:=hy.2 b List.mem_cons_self
    show(0:Int)<(b+1)*1024 ^ n+encL n y
    have:1*1024 ^ n≤(b+1)*1024 ^ n:=Int.mul_le_mul_of_nonneg_right (by omega) (by omega)
    omega
  | cons a x =>
   cases y with
   | nil =>
    refine⟨fun h=>absurd h (by simp [cmpL]),fun h=>absurd h (by simp [cmpL]),fun _=>?_⟩
    have:=(ze9 n x hx.tail).1
    obtain⟨b0,b1⟩:=hx.2 a List.mem_cons_self
    show(0:Int)<(a+1)*1024 ^ n+encL n x
    have:1*1024 ^ n≤(a+1)*1024 ^ n:=Int.mul_le_mul_of_nonneg_right (by omega) (by omega)
    omega
   | cons b y =>
    obtain⟨i1,i2,i3⟩:=ih x y hx.tail hy.tail
    obtain⟨x0,x1⟩:=ze9 n x hx.tail
    obtain⟨y0,y1⟩:=ze9 n y hy.tail
    show((if cmpI a b=0 then cmpL x y else cmpI a b)<0→(a+1)*1024 ^ n+encL n x<(b+1)*1024 ^ n+encL n y)∧((if cmpI a b=0 then cmpL x y else cmpI a b)=0→a :: x=b :: y)∧(0<(if cmpI a b=0 then cmpL x y else cmpI a b)→(b+1)*1024 ^ n+encL n y<(a+1)*1024 ^ n+encL n x)
    by_cases hc:cmpI a b=0
    ·rw [if_pos hc]
     have e:=zgd hc
     subst e
     exact⟨fun h=>by have:=i1 h;omega,fun h=>by rw [i2 h],fun h=>by have:=i3 h;omega⟩
    ·rw [if_neg hc]
     refine⟨fun h=>?_,fun h=>absurd h hc,fun h=>?_⟩
     ·have hab:a<b:=by unfold cmpI at h;split at h;assumption;split at h <;> omega
      have:(a+1+1)*1024 ^ n≤(b+1)*1024 ^ n:=Int.mul_le_mul_of_nonneg_right (by omega) (by omega)
      rw [Int.add_mul (a+1) 1] at this
      omega
     ·have hab:b<a:=by unfold cmpI at h;split at h;omega;split at h;assumption;omega
      have:(b+1+1)*1024 ^ n≤(a+1)*1024 ^ n:=Int.mul_le_mul_of_nonneg_right (by omega) (by omega)
      rw [Int.add_mul (b+1) 1] at this
      omega
theorem zlW(x:List Int):cmpL x x=0:=by
 induction x with
 | nil=>rfl
 | cons a x ih=>show(if cmpI a a=0 then cmpL x x else cmpI a a)=0;rw [if_pos (zlV a),ih]
structure KeyOk(k:Kn):Prop where
 next:0≤k.next∧k.next≤1000
 behind:SmallL 15 k.behind
def keyK(k:Kn):Int:=(k.steps*1024+k.next)*1024 ^ 15+encL 15 k.behind
theorem znG{k o:Kn}(hk:KeyOk k)(ho:KeyOk o):(cmpK k o<0→keyK k<keyK o)∧(cmpK k o=0→k.next=o.next∧k.behind=o.behind∧k.steps=o.steps)∧(0<cmpK k o→keyK o<keyK k):=by
 obtain⟨a0,a1⟩:=ze9 15 k.behind hk.behind
 obtain⟨b0,b1⟩:=ze9 15 o.behind ho.behind
 obtain⟨k0,k1⟩:=hk.next
 obtain⟨o0,o1⟩:=ho.next
 obtain⟨i1,i2,i3⟩:=zyo 15 _ _ hk.behind ho.behind
 unfold cmpK keyK
 by_cases e1:k.steps=o.steps
 ·rw [if_pos e1,e1]
  by_cases e2:k.next=o.next
  ·rw [if_pos e2,e2]
   exact⟨fun h=>by have:=i1 h;omega,fun h=>⟨rfl,i2 h,rfl⟩,fun h=>by have:=i3 h;omega⟩
  ·rw [if_neg e2]
   refine⟨fun h=>?_,fun h=>absurd (zgd h) e2,fun h=>?_⟩
   ·have:k.next<o.next:=by unfold cmpI at h;split at h;assumption;split at h <;> omega
    omega
   ·have:o.next<k.next:=by unfold cmpI at h;split at h;omega;split at h;assumption;omega
    omega
 ·rw [if_neg e1]
  refine⟨fun h=>?_,fun h=>absurd (zgd h) e1,fun h=>?_⟩
  ·have:k.steps<o.steps:=by unfold cmpI at h;split at h;assumption;split at h <;> omega
   omega
  ·have:o.steps<k.steps:=by unfold cmpI at h;split at h;omega;split at h;assumption;omega
   omega
theorem zt2{k o:Kn}(h1:k.next=o.next)(h2:k.behind=o.behind)(h3:k.steps=o.steps):cmpK k o=0:=by
 unfold cmpK;rw [if_pos h3,if_pos h1,h2,zlW]
theorem zt3{k o:Kn}(hk:KeyOk k)(ho:KeyOk o)(h:keyK k≤keyK o):k.steps≤o.steps:=by
 obtain⟨a0,a1⟩:=ze9 15 k.behind hk.behind
 obtain⟨b0,b1⟩:=ze9 15 o.behind ho.behind
 obtain⟨k0,k1⟩:=hk.next
 obtain⟨o0,o1⟩:=ho.next
 unfold keyK at h
 omega
inductive Form:List ByteArray→Prop
 | set_ (x1 x2:ByteArray) (hx1:0≤reg x1) (hx2:(zbc x2).2=true):Form [⟨#[115,101,116]⟩,x1,x2]
 | inc_ (x1 x2:ByteArray) (hx1:0≤reg x1) (hx2:(zbc x2).2=true):Form [⟨#[105,110,99]⟩,x1,x2]
 | mov_ (x1 x2:ByteArray) (hx1:0≤reg x1) (hx2:0≤reg x2):Form [⟨#[109,111,118]⟩,x1,x2]
 | load_ (x1 x2:ByteArray) (hx1:0≤reg x1) (hx2:0≤reg x2):Form [⟨#[108,111,97,100]⟩,x1,x2]
 | store_ (x1 x2:ByteArray) (hx1:0≤reg x1) (hx2:0≤reg x2):Form [⟨#[115,116,111,114,101]⟩,x1,x2]
 | add_ (x1 x2 x3:ByteArray) (hx1:0≤reg x1) (hx2:0≤reg x2) (hx3:0≤reg x3):Form [⟨#[97,100,100]⟩,x1,x2,x3]
 | sub_ (x1 x2 x3:ByteArray) (hx1:0≤reg x1) (hx2:0≤reg x2) (hx3:0≤reg x3):Form [⟨#[115,117,98]⟩,x1,x2,x3]
 | mul_ (x1 x2 x3:ByteArray) (hx1:0≤reg x1) (hx2:0≤reg x2) (hx3:0≤reg x3):Form [⟨#[109,117,108]⟩,x1,x2,x3]
 | read_ (x1:ByteArray) (hx1:0≤reg x1):Form [⟨#[114,101,97,100]⟩,x1]
 | write_ (x1:ByteArray) (hx1:0≤reg x1):Form [⟨#[119,114,105,116,101]⟩,x1]
 | jump_ (x1:ByteArray) (hx1:za5 x1=true):Form [⟨#[106,117,109,112]⟩,x1]
 | call_ (x1:ByteArray) (hx1:za5 x1=true):Form [⟨#[99,97,108,108]⟩,x1]
 | less_ (x1 x2 x3:ByteArray) (hx1:0≤reg x1) (hx2:0≤reg x2) (hx3:za5 x3=true):Form [⟨#[108,101,115,115]⟩,x1,x2,x3]
 | same_ (x1 x2 x3:ByteArray) (hx1:0≤reg x1) (hx2:0≤reg x2) (hx3:za5 x3=true):Form [⟨#[115,97,109,101]⟩,x1,x2,x3]
 | back_:Form [⟨#[98,97,99,107]⟩]
 | stop_:Form [⟨#[115,116,111,112]⟩]
theorem op_r(x:ByteArray):opOk 82 x=decide (0≤reg x):=rfl
theorem op_k(x:ByteArray):opOk 75 x=(zbc x).2:=rfl
theorem op_n(x:ByteArray):opOk 78 x=za5 x:=rfl
theorem zxW(x:ByteArray)(r:List ByteArray)(h:zhm x r=true):Form (x :: r):=by
 unfold zhm at h
 cases h0:(x.toList == [115,101,116]) with
 | true =>
  have:=zaC x _ h0
  subst this
  change (if zaa ⟨#[115,101,116]⟩=[63]∨¬r.length=(zaa ⟨#[115,101,116]⟩).length then false else za7 (zaa ⟨#[115,101,116]⟩) r)=true at h
  rw [zhJ] at h
  split at h
  ·cases h
  ·rename_i hc
   have hl:r.length=2:=by
    rcases Nat.decEq r.length 2 with h'|h'
    ·exact absurd (.inr (by simpa using h')) hc
    ·exact h'
   match r,hl,h with
   | [x1,x2],_,h =>
    simp only [za7,op_r,op_k,Bool.and_true,Bool.and_eq_true,decide_eq_true_eq] at h
    exact .set_ x1 x2 h.1 h.2
 | false =>
  cases h1:(x.toList == [105,110,99]) with
  | true =>
   have:=zaC x _ h1
   subst this
   change (if zaa ⟨#[105,110,99]⟩=[63]∨¬r.length=(zaa ⟨#[105,110,99]⟩).length then false else za7 (zaa ⟨#[105,110,99]⟩) r)=true at h
   rw [zhK] at h
   split at h
   ·cases h
   ·rename_i hc
    have hl:r.length=2:=by
     rcases Nat.decEq r.length 2 with h'|h'
     ·exact absurd (.inr (by simpa using h')) hc
     ·exact h'
    match r,hl,h with
    | [x1,x2],_,h =>
     simp only [za7,op_r,op_k,Bool.and_true,Bool.and_eq_true,decide_eq_true_eq] at h
     exact .inc_ x1 x2 h.1 h.2
  | false =>
   cases h2:(x.toList == [109,111,118]) with
   | true =>
    have:=zaC x _ h2
    subst this
    change (if zaa ⟨#[109,111,118]⟩=[63]∨¬r.length=(zaa ⟨#[109,111,118]⟩).length then false else za7 (zaa ⟨#[109,111,118]⟩) r)=true at h
    rw [zhL] at h
    split at h
    ·cases h
    ·rename_i hc
     have hl:r.length=2:=by
      rcases Nat.decEq r.length 2 with h'|h'
      ·exact absurd (.inr (by simpa using h')) hc
      ·exact h'
     match r,hl,h with
     | [x1,x2],_,h =>
      simp only [za7,op_r,Bool.and_true,Bool.and_eq_true,decide_eq_true_eq] at h
      exact .mov_ x1 x2 h.1 h.2
   | false =>
    cases h3:(x.toList == [108,111,97,100]) with
    | true =>
     have:=zaC x _ h3
     subst this
     change (if zaa ⟨#[108,111,97,100]⟩=[63]∨¬r.length=(zaa ⟨#[108,111,97,100]⟩).length then false else za7 (zaa ⟨#[108,111,97,100]⟩) r)=true at h
     rw [zgS] at h
     split at h
     ·cases h
     ·rename_i hc
      have hl:r.length=2:=by
       rcases Nat.decEq r.length 2 with h'|h'
       ·exact absurd (.inr (by simpa using h')) hc
       ·exact h'
      match r,hl,h with
      | [x1,x2],_,h =>
       simp only [za7,op_r,Bool.and_true,Bool.and_eq_true,decide_eq_true_eq] at h
       exact .load_ x1 x2 h.1 h.2
    | false =>
     cases h4:(x.toList == [115,116,111,114,101]) with
     | true =>
      have:=zaC x _ h4
      subst this
      change (if zaa ⟨#[115,116,111,114,101]⟩=[63]∨¬r.length=(zaa ⟨#[115,116,111,114,101]⟩).length then false else za7 (zaa ⟨#[115,116,111,114,101]⟩) r)=true at h
      rw [zfI] at h
      split at h
      ·cases h
      ·rename_i hc
       have hl:r.length=2:=by
        rcases Nat.decEq r.length 2 with h'|h'
        ·exact absurd (.inr (by simpa using h')) hc
        ·exact h'
       match r,hl,h with
       | [x1,x2],_,h =>
        simp only [za7,op_r,Bool.and_true,Bool.and_eq_true,decide_eq_true_eq] at h
        exact .store_ x1 x2 h.1 h.2
     | false =>
      cases h5:(x.toList == [97,100,100]) with
      | true =>
       have:=zaC x _ h5
       subst this
       change (if zaa ⟨#[97,100,100]⟩=[63]∨¬r.length=(zaa ⟨#[97,100,100]⟩).length then false else za7 (zaa ⟨#[97,100,100]⟩) r)=true at h
       rw [zhM] at h
       split at h
       ·cases h
       ·rename_i hc
        have hl:r.length=3:=by
         rcases Nat.decEq r.length 3 with h'|h'
         ·exact absurd (.inr (by simpa using h')) hc
         ·exact h'
        match r,hl,h with
        | [x1,x2,x3],_,h =>
         simp only [za7,op_r,Bool.and_true,Bool.and_eq_true,decide_eq_true_eq] at h
         exact .add_ x1 x2 x3 h.1 h.2.1 h.2.2
      | false =>
       cases h6:(x.toList == [115,117,98]) with
       | true =>
        have:=zaC x _ h6
        subst this
        change (if zaa ⟨#[115,117,98]⟩=[63]∨¬r.length=(zaa ⟨#[115,117,98]⟩).length then false else za7 (zaa ⟨#[115,117,98]⟩) r)=true at h
        rw [zhN] at h
        split at h
        ·cases h
        ·rename_i hc
         have hl:r.length=3:=by
          rcases Nat.decEq r.length 3 with h'|h'
          ·exact absurd (.inr (by simpa using h')) hc
          ·exact h'
         match r,hl,h with
         | [x1,x2,x3],_,h =>
          simp only [za7,op_r,Bool.and_true,Bool.and_eq_true,decide_eq_true_eq] at h
          exact .sub_ x1 x2 x3 h.1 h.2.1 h.2.2
       | false =>
        cases h7:(x.toList == [109,117,108]) with
        | true =>
         have:=zaC x _ h7
         subst this
         change (if zaa ⟨#[109,117,108]⟩=[63]∨¬r.length=(zaa ⟨#[109,117,108]⟩).length then false else za7 (zaa ⟨#[109,117,108]⟩) r)=true at h
         rw [zhO] at h
         split at h
         ·cases h
         ·rename_i hc
          have hl:r.length=3:=by
           rcases Nat.decEq r.length 3 with h'|h'
           ·exact absurd (.inr (by simpa using h')) hc
           ·exact h'
          match r,hl,h with
          | [x1,x2,x3],_,h =>
           simp only [za7,op_r,Bool.and_true,Bool.and_eq_true,decide_eq_true_eq] at h
           exact .mul_ x1 x2 x3 h.1 h.2.1 h.2.2
        | false =>
         cases h8:(x.toList == [114,101,97,100]) with
         | true =>
          have:=zaC x _ h8
          subst this
          change (if zaa ⟨#[114,101,97,100]⟩=[63]∨¬r.length=(zaa ⟨#[114,101,97,100]⟩).length then false else za7 (zaa ⟨#[114,101,97,100]⟩) r)=true at h
          rw [zgT] at h
          split at h
          ·cases h
          ·rename_i hc
           have hl:r.length=1:=by
            rcases Nat.decEq r.length 1 with h'|h'
            ·exact absurd (.inr (by simpa using h')) hc
            ·exact h'
           match r,hl,h with
           | [x1],_,h =>
            simp only [za7,op_r,Bool.and_true,decide_eq_true_eq] at h
            exact .read_ x1 h
         | false =>
          cases h9:(x.toList == [119,114,105,116,101]) with
          | true =>
           have:=zaC x _ h9
           subst this
           change (if zaa ⟨#[119,114,105,116,101]⟩=[63]∨¬r.length=(zaa ⟨#[119,114,105,116,101]⟩).length then false else za7 (zaa ⟨#[119,114,105,116,101]⟩) r)=true at h
           rw [zfJ] at h
           split at h
           ·cases h
           ·rename_i hc
            have hl:r.length=1:=by
             rcases Nat.decEq r.length 1 with h'|h'
             ·exact absurd (.inr (by simpa using h')) hc
             ·exact h'
            match r,hl,h with
            | [x1],_,h =>
             simp only [za7,op_r,Bool.and_true,decide_eq_true_eq] at h
             exact .write_ x1 h
          | false =>
           cases h10:(x.toList == [106,117,109,112]) with
           | true =>
            have:=zaC x _ h10
            subst this
            change (if zaa ⟨#[106,117,109,112]⟩=[63]∨¬r.length=(zaa ⟨#[106,117,109,112]⟩).length then false else za7 (zaa ⟨#[106,117,109,112]⟩) r)=true at h
            rw [zgU] at h
            split at h
            ·cases h
            ·rename_i hc
             have hl:r.length=1:=by
              rcases Nat.decEq r.length 1 with h'|h'
              ·exact absurd (.inr (by simpa using h')) hc
              ·exact h'
             match r,hl,h with
             | [x1],_,h =>
              simp only [za7,op_n,Bool.and_true] at h
              exact .jump_ x1 h
           | false =>
            cases h11:(x.toList == [99,97,108,108]) with
            | true =>
             have:=zaC x _ h11
             subst this
             change (if zaa ⟨#[99,97,108,108]⟩=[63]∨¬r.length=(zaa ⟨#[99,97,108,108]⟩).length then false else za7 (zaa ⟨#[99,97,108,108]⟩) r)=true at h
             rw [zgV] at h
             split at h
             ·cases h
             ·rename_i hc
              have hl:r.length=1:=by
               rcases Nat.decEq r.length 1 with h'|h'
               ·exact absurd (.inr (by simpa using h')) hc
               ·exact h'
              match r,hl,h with
              | [x1],_,h =>
               simp only [za7,op_n,Bool.and_true] at h
               exact .call_ x1 h
            | false =>
             cases h12:(x.toList == [108,101,115,115]) with
             | true =>
              have:=zaC x _ h12
              subst this
              change (if zaa ⟨#[108,101,115,115]⟩=[63]∨¬r.length=(zaa ⟨#[108,101,115,115]⟩).length then false else za7 (zaa ⟨#[108,101,115,115]⟩) r)=true at h
              rw [zgW] at h
              split at h
              ·cases h
              ·rename_i hc
               have hl:r.length=3:=by
                rcases Nat.decEq r.length 3 with h'|h'
                ·exact absurd (.inr (by simpa using h')) hc
                ·exact h'
               match r,hl,h with
               | [x1,x2,x3],_,h =>
                simp only [za7,op_r,op_n,Bool.and_true,Bool.and_eq_true,decide_eq_true_eq] at h
                exact .less_ x1 x2 x3 h.1 h.2.1 h.2.2
             | false =>
              cases h13:(x.toList == [115,97,109,101]) with
              | true =>
               have:=zaC x _ h13
               subst this
               change (if zaa ⟨#[115,97,109,101]⟩=[63]∨¬r.length=(zaa ⟨#[115,97,109,101]⟩).length then false else za7 (zaa ⟨#[115,97,109,101]⟩) r)=true at h
               rw [zgX] at h
               split at h
               ·cases h
               ·rename_i hc
                have hl:r.length=3:=by
                 rcases Nat.decEq r.length 3 with h'|h'
                 ·exact absurd (.inr (by simpa using h')) hc
                 ·exact h'
                match r,hl,h with
                | [x1,x2,x3],_,h =>
                 simp only [za7,op_r,op_n,Bool.and_true,Bool.and_eq_true,decide_eq_true_eq] at h
                 exact .same_ x1 x2 x3 h.1 h.2.1 h.2.2
              | false =>
               cases h14:(x.toList == [98,97,99,107]) with
               | true =>
                have:=zaC x _ h14
                subst this
                change (if zaa ⟨#[98,97,99,107]⟩=[63]∨¬r.length=(zaa ⟨#[98,97,99,107]⟩).length then false else za7 (zaa ⟨#[98,97,99,107]⟩) r)=true at h
                rw [zgY] at h
                split at h
                ·cases h
                ·rename_i hc
                 have hl:r.length=0:=by
                  rcases Nat.decEq r.length 0 with h'|h'
                  ·exact absurd (.inr (by simpa using h')) hc
                  ·exact h'
                 obtain rfl:r=[]:=List.eq_nil_of_length_eq_zero hl
                 exact .back_
               | false =>
                cases h15:(x.toList == [115,116,111,112]) with
                | true =>
                 have:=zaC x _ h15
                 subst this
                 change (if zaa ⟨#[115,116,111,112]⟩=[63]∨¬r.length=(zaa ⟨#[115,116,111,112]⟩).length then false else za7 (zaa ⟨#[115,116,111,112]⟩) r)=true at h
                 rw [zgZ] at h
                 split at h
                 ·cases h
                 ·rename_i hc
                  have hl:r.length=0:=by
                   rcases Nat.decEq r.length 0 with h'|h'
                   ·exact absurd (.inr (by simpa using h')) hc
                   ·exact h'
                  obtain rfl:r=[]:=List.eq_nil_of_length_eq_zero hl
                  exact .stop_
                | false =>
                 rw [if_pos (.inl (zoA x h0 h1 h2 h3 h4 h5 h6 h7 h8 h9 h10 h11 h12 h13 h14 h15))] at h;cases h
theorem zbg(x:ByteArray)(h:0≤reg x):regN x<8∧reg x=(regN x:Int):=by
 have:reg x≤7:=by
  unfold reg at h ⊢
  split
  ·rename_i hb
   unfold regB at hb
   simp at hb
   omega
  ·omega
 unfold regN
 omega
theorem zxX(s:ByteArray)(h:(say s).ok=true)(h5:(say s).kind=105):Form (say s).kept:=by
 have hv:za0 s 0=true:=by
  cases hv:za0 s 0 with
  | true=>rfl
  | false=>rw [zfy s hv] at h;cases h
 rw [zie s hv] at h h5 ⊢
 generalize zbv s=l at h h5 ⊢
 cases l with
 | nil=>simp [sayW] at h5
 | cons x r =>
  have e:sayW (x :: r)=⟨105,x :: r,if zaa x=[63]∨¬(x :: r).length=(zaa x).length+1 then false else za7 (zaa x) r⟩:=by
   unfold sayW at h5 ⊢
   dsimp only at h5 ⊢
   split at h5
   ·simp at h5
   ·rename_i hf
    rw [if_neg hf]
    split at h5
    ·simp at h5
    ·rename_i hg
     rw [if_neg hg]
  rw [e] at h ⊢
  refine zxW x r ?_
  simpa [zhm] using h
end
end Go.Proofs.YtfpgjkbjbbgciaaGreatDoor
