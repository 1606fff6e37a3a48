import Derived.Test.YtfpgjkbjbbgciaaGreatDoorMi20
import Derived.Test.YtfpgjkbjbbgciaaGreatDoorMi21
import Derived.Test.YtfpgjkbjbbgciaaGreatDoorMi26
set_option maxRecDepth 100000
set_option maxHeartbeats 8000000
namespace Go.Proofs.YtfpgjkbjbbgciaaGreatDoor
open Go.RowKit Sp
theorem KnM.putC{w:World}{b:Nat}{bv:Value}{k:Kn}(h:KnM w b bv k)(a:Nat)(ha:a<16)(v:Rg):KnM ((w.setCell ⟨b,16+a*2,none⟩ (.int .i64 v.lo)).setCell ⟨b,16+a*2+1,none⟩ (.int .i64 v.hi)) b bv { k with cells:=updR k.cells a v }:=by
 have K1:KnM (w.setCell ⟨b,16+a*2,none⟩ (.int .i64 v.lo)) b bv { k with cells:=updR k.cells a ⟨v.lo,(k.cells a).hi⟩ }:=h.set (16+a*2) _ _ (h.cC a ha).1 (fun r hr=>⟨by rw [if_neg (by omega)],by rw [if_neg (by omega)]⟩) (fun c hc=>⟨by
  by_cases e:c=a
  ·subst e;rw [if_pos rfl];show _=Value.int .i64 (updR k.cells c ⟨v.lo,(k.cells c).hi⟩ c).lo;rw [zdp]
  ·rw [if_neg (by omega)];show _=Value.int .i64 (updR k.cells a ⟨v.lo,(k.cells a).hi⟩ c).lo;unfold updR;rw [if_neg e],by
  rw [if_neg (by omega)]
  show _=Value.int .i64 (updR k.cells a ⟨v.lo,(k.cells a).hi⟩ c).hi
  unfold updR
  by_cases e:c=a
  ·subst e;rw [if_pos rfl]
  ·rw [if_neg e]⟩) (by rw [if_neg (by omega)]) (by rw [if_neg (by omega)]) (by rw [if_neg (by omega)])
 refine K1.set (16+a*2+1) _ _ (K1.cC a ha).2 (fun r hr=>⟨by rw [if_neg (by omega)],by rw [if_neg (by omega)]⟩) (fun c hc=>⟨?_,?_⟩) (by rw [if_neg (by omega)]) (by rw [if_neg (by omega)]) (by rw [if_neg (by omega)])
 ·rw [if_neg (by omega)]
  show Value.int .i64 (updR k.cells a ⟨v.lo,(k.cells a).hi⟩ c).lo=Value.int .i64 (updR k.cells a v c).lo
  unfold updR
  by_cases e:c=a
  ·rw [if_pos e,if_pos e]
  ·rw [if_neg e,if_neg e]
 ·show _=Value.int .i64 (updR k.cells a v c).hi
  by_cases e:c=a
  ·subst e;rw [if_pos rfl,zdp]
  ·rw [if_neg (by omega)]
   show Value.int .i64 (updR k.cells a ⟨v.lo,(k.cells a).hi⟩ c).hi=_
   unfold updR
   rw [if_neg e,if_neg e]
theorem zd1{w wx:World}{o:Obj}{cs:Array Value}{t:TypeId}(hbx:Below ((w.alloc o).alloc (.cells cs t)).heap.size ((w.alloc o).alloc (.cells cs t)) wx)(j:Nat):wx.cell? ⟨w.heap.size+1,j,none⟩=cs[j]?:=by
 have e:=World.cell?_of_block (a:=⟨w.heap.size+1,j,none⟩) (hbx.block (w.heap.size+1) (by simp))
 rw [e]
 have:=World.cell?_alloc_new (w:=w.alloc o) cs t j
 rw [World.size_alloc] at this
 exact this
def zlQ(w:World)(b:Nat)(bv:Value)(k:Kn):Ending→World→Prop:=fun e w'=>e=.returned (.tuple #[])∧KnM w' b bv k∧w.grownBy w' (some b)
theorem zqF{w:World}{b:Nat}{bv:Value}{k:Kn}(h:KnM w b bv k)(a:Nat)(ha:a≤15)(v:Rg):Calls Tryz.prog 258 #[.pointer (some ⟨b,0,none⟩),rv ⟨(a:Int),(a:Int)⟩,rv v] w (zlQ w b bv { k with cells:=updR k.cells a v }):=by
 have hlt:=h.lt
 have hT:∀(W:World),KnM W b bv k→Calls Tryz.prog 255 #[.pointer (some ⟨b,0,none⟩),rv ⟨(a:Int),(a:Int)⟩] W fun e w'=>e=.returned (.slice (some ⟨b,16+a*2,none⟩) 1 (16-a))∧Below W.heap.size W w':=fun W hW=>by
  have t:=zee hW ⟨(a:Int),(a:Int)⟩ ⟨⟨by show _≤(a:Int);omega,by show(a:Int)≤_;omega⟩,⟨by show _≤(a:Int);omega,by show(a:Int)≤_;omega⟩,by show(a:Int)≤(a:Int);omega⟩ (by show(0:Int)≤(a:Int);omega) (by show(a:Int)≤15;omega)
  have e1:((a:Int)+1).toNat=a+1:=by omega
  have e2:((a:Nat):Int).toNat=a:=by omega
  have e3:a+1-a=1:=by omega
  simp only [e1,e2,e3] at t
  exact t
 go_enter Tryz.func258,Tryz.ntmps258
 go_wp2_with(go_at_call 255;(with_reducible refine(hT _ ((h.alloc _).alloc _)).mono ?_);rintro e wx ⟨rfl,hbx⟩;have hK:KnM wx b bv k:=((h.alloc _).alloc _).below hbx (by simp;omega);have c0:=(hK.cC a (by omega)).1;have c1:=(hK.cC a (by omega)).2;have z0:=hK.fz (16+a*2);have z1:=hK.fz (16+a*2+1);have v0:wx.cell? ⟨w.heap.size+1,0,none⟩=some (.int .i64 v.lo):=zd1 hbx 0;have v1:wx.cell? ⟨w.heap.size+1,1,none⟩=some (.int .i64 v.hi):=zd1 hbx 1)
 have hl:Below w.heap.size w wx:=box2.trans (hbx.mono (by simp;omega))
 refine bodyPost_ret (results_none rfl _ _ _) rfl ?_
 exact⟨rfl,hK.putC a (by omega) v,zae (zah hl) (zah (Below.refl _ _))⟩
theorem zw0{w wx:World}{o:Obj}{b:Nat}{bv:Value}{k:Kn}(f:Rg)(hlt:b<w.heap.size)(hbx:Below ((w.alloc o).alloc (.cells #[.int .i64 0,.int .i64 0] 213)).heap.size ((w.alloc o).alloc (.cells #[.int .i64 0,.int .i64 0] 213)) wx)(hK:KnM wx b bv k):LdM w (wx.alloc (.cells #[.int .i64 f.lo,.int .i64 f.hi] 213)) b wx.heap.size bv k f:=by
 have hs:=hbx.size
 have e2:((w.alloc o).alloc (.cells #[.int .i64 0,.int .i64 0] 213)).heap.size=w.heap.size+1+1:=by simp
 rw [e2] at hs hbx
 have hb2:Below (w.heap.size+1+1) _ (wx.alloc (.cells #[.int .i64 f.lo,.int .i64 f.hi] 213)):=hbx.alloc hs _
 have cc:∀ j,(wx.alloc (.cells #[.int .i64 f.lo,.int .i64 f.hi] 213)).cell? ⟨w.heap.size+1,j,none⟩=(#[.int .i64 0,.int .i64 0]:Array Value)[j]?:=fun j=>by
  have e:=World.cell?_of_block (a:=⟨w.heap.size+1,j,none⟩) (hb2.block (w.heap.size+1) (by omega))
  rw [e]
  have:=World.cell?_alloc_new (w:=w.alloc o) #[.int .i64 0,.int .i64 0] 213 j
  rw [World.size_alloc] at this
  exact this
 refine⟨hK.alloc _,World.cell?_alloc_new _ _ _ 0,World.cell?_alloc_new _ _ _ 1,fun j=>World.frozen?_alloc_at _ _ _ _ (by simp),⟨_,cc 0⟩,⟨_,cc 1⟩,fun j=>?_,box2.trans (hb2.mono (by omega)),by simp,by omega,by omega⟩
 have e:=World.frozen?_of_block (a:=⟨w.heap.size+1,j,none⟩) (hb2.block (w.heap.size+1) (by omega))
 rw [e]
 exact World.frozen?_alloc_at _ _ _ _ (by simp)
theorem zqY{w:World}{b:Nat}{bv:Value}{k:Kn}(h:KnM w b bv k):Calls Tryz.prog 254 #[.pointer (some ⟨b,0,none⟩),rv ⟨15,15⟩] w fun e w'=>e=.returned (rv (k.cells 15))∧Below w.heap.size w w':=by
 have hlt:=h.lt
 have hT:∀(W:World),KnM W b bv k→Calls Tryz.prog 255 #[.pointer (some ⟨b,0,none⟩),rv ⟨15,15⟩] W fun e w'=>e=.returned (.slice (some ⟨b,46,none⟩) 1 1)∧Below W.heap.size W w':=fun W hW=>zee hW ⟨15,15⟩ ⟨⟨by decide,by decide⟩,⟨by decide,by decide⟩,by decide⟩ (by decide) (by decide)
 go_enter Tryz.func254,Tryz.ntmps254
 go_wp2_with(go_at_call 255;(with_reducible refine(hT _ ((h.alloc _).alloc _)).mono ?_);rintro e wx ⟨rfl,hbx⟩;have hK:KnM wx b bv k:=((h.alloc _).alloc _).below hbx (by simp;omega);have c0:wx.cell? ⟨b,46,none⟩=some (.int .i64 (k.cells 15).lo):=(hK.cC 15 (by omega)).1;have c1:wx.cell? ⟨b,47,none⟩=some (.int .i64 (k.cells 15).hi):=(hK.cC 15 (by omega)).2)
 have L0:=zw0 (k.cells 15) hlt hbx hK
 clear hbx hK c0 c1 hT
 go_loopw [18] (fun ti wr=>ti=.int .i64 0∧LdM w wr b wx.heap.size bv k (k.cells 15)) (fun _ _=>0)
 case atStart=>exact⟨rfl,L0⟩
 case round =>
  obtain⟨rfl,L⟩:=hrel
  have f0:=L.lo
  have f1:=L.hi
  obtain⟨x0,s0⟩:=L.r0
  obtain⟨x1,s1⟩:=L.r1
  have y0:=L.rz 0
  have y1:=L.rz 1
  have hl:=L.low
  clear L L0
  go_wp2
  exact zb0 (r:=k.cells 15) Tryz.results254 rfl rfl (zap s0 s1).1 (zap s0 s1).2 ⟨rfl,zat hl (by omega)⟩
theorem ztM{w:World}{b:Nat}{bv:Value}{k:Kn}(h:KnM w b bv k)(r:Rg)(hr:r.lo≤r.hi)(h0:0≤r.lo)(h1:r.hi≤15):Calls Tryz.prog 254 #[.pointer (some ⟨b,0,none⟩),rv r] w fun e w'=>e=.returned (rv (zch k.cells r.lo.toNat (r.hi.toNat-r.lo.toNat)))∧Below w.heap.size w w':=by
 obtain⟨lo,hi⟩:=r
 obtain⟨a,rfl⟩:∃ a:Nat,lo=(a:Int):=⟨lo.toNat,by have:0≤lo:=h0;omega⟩
 obtain⟨n,rfl⟩:∃ n:Nat,hi=(a:Int)+(n:Int):=⟨(hi-a).toNat,by have:(a:Int)≤hi:=hr;omega⟩
 have h1':(a:Int)+(n:Int)≤15:=h1
 have e1:((a:Int)+(n:Int)).toNat-((a:Nat):Int).toNat=n:=by omega
 have e2:((a:Nat):Int).toNat=a:=by omega
 show Calls Tryz.prog 254 #[.pointer (some ⟨b,0,none⟩),rv ⟨(a:Int),(a:Int)+(n:Int)⟩] w fun e w'=>e=.returned (rv (zch k.cells ((a:Nat):Int).toNat (((a:Int)+(n:Int)).toNat-((a:Nat):Int).toNat)))∧Below w.heap.size w w'
 rw [e1,e2]
 by_cases ha:a<15
 ·exact zqX h a n ha (by omega)
 ·obtain rfl:a=15:=by omega
  obtain rfl:n=0:=by omega
  exact zqY h
theorem zyz(a c d:Int)(w:World)(hr:(⟨a,a⟩:Rg).Ok)(ho:(⟨c,d⟩:Rg).Ok)(hne:¬c=d):Calls Tryz.prog 245 #[rv (⟨a,a⟩:Rg),rv (⟨c,d⟩:Rg)] w fun e w'=>e=.returned (rv ((⟨a,a⟩:Rg).times (⟨c,d⟩:Rg)))∧Below w.heap.size w w':=by
 have Z0:=ziG w (⟨a,a⟩:Rg) (⟨c,d⟩:Rg)
 have hb5:∀ a b W,(Instr.build 305 #[(0,.int .i64 a),(1,.int .i64 b)]).run Tryz.prog W=.ok (.agg #[.int .i64 a,.int .i64 b]) W:=fun a b W=>run_build W 305 _ _ (by kernel_rfl)
 have hb6:∀ a b c d W,(Instr.build 306 #[(0,.agg #[.int .i64 a,.int .i64 b]),(1,.agg #[.int .i64 a,.int .i64 d]),(2,.agg #[.int .i64 c,.int .i64 b]),(3,.agg #[.int .i64 c,.int .i64 d])]).run Tryz.prog W=.ok (.agg #[.int .i64 a,.int .i64 b,.int .i64 a,.int .i64 d,.int .i64 c,.int .i64 b,.int .i64 c,.int .i64 d]) W:=fun a b c d W=>run_build W 306 _ _ (by kernel_rfl)
 have hx0:=zjU
 have hx1:=zjV
 have hx2:=zjW
 have hx3:=zjX
 have t1:(c == d)=false:=by simpa using hne
 go_enter Tryz.func245,Tryz.ntmps245
 go_wp2
 change TimesAt w ((((w.alloc (.cells #[.int .i64 a,.int .i64 a] 213)).alloc (.cells #[.int .i64 c,.int .i64 d] 213)).alloc (.cells #[.int .i64 0,.int .i64 0] 213)).alloc (.cells #[.int .i64 0,.int .i64 0,.int .i64 0,.int .i64 0] 304)) _ _ _ at Z0
 generalize (((w.alloc (.cells #[.int .i64 a,.int .i64 a] 213)).alloc (.cells #[.int .i64 c,.int .i64 d] 213)).alloc (.cells #[.int .i64 0,.int .i64 0] 213)).alloc (.cells #[.int .i64 0,.int .i64 0,.int .i64 0,.int .i64 0] 304)=Ws at Z0
 go_loopw [47] (fun ti wr=>∃ k:Nat,k≤4∧ti=.int .i64 (k:Int)∧TimesAt w wr (⟨a,a⟩:Rg) (⟨c,d⟩:Rg) k) (fun ti _=>4-(intOf ti).toNat)
 case atStart=>exact⟨0,by omega,rfl,Z0⟩
 case round =>
  obtain⟨k,hk,rfl,Z⟩:=hrel
  by_cases hlt:k<4
  ·have hcase:k=0∨k=1∨k=2∨k=3:=by omega
   have hany:=ziz
   rcases hcase with rfl|rfl|rfl|rfl
   ·have hwr:=fun W=>zcW a c W
    have Z1:=Z.alloc (.cells #[.int .i64 a,.int .i64 c] 305)
    have cc:=Z1.cells 0 (by omega)
    have cf:=Z1.fz 0
    cases hwq:zbz a c with
    | true =>
     have e0:=zbS (r:=(⟨a,a⟩:Rg)) (o:=(⟨c,d⟩:Rg)) (fun h=>hne h.2) (k:=0) (by omega) hwq
     rw [hwq] at hwr
     have r0:=Z1.res 0 (by omega)
     have r1:=Z1.res 1 (by omega)
     have z0:=Z1.rz 0
     have z1:=Z1.rz 1
     have hlw:=Z1.low
     have hsz:=Z1.size
     clear Z Z1 cc cf
     go_wp2_with(first|(go_at_call 246;(with_reducible refine(hwr _).mono ?_);rintro e wx ⟨rfl,hww⟩;have h2:=hww.symm;subst h2)|(go_at_call 238;(with_reducible refine(hany _).mono ?_);rintro e w4 ⟨rfl,hb4⟩;have d0:=za3 hb4 r0;have d1:=za3 hb4 r1;have g0:=zbu hb4 (by omega) z0;have g1:=zbu hb4 (by omega) z1))
     exact zb0 (r:=anyR) Tryz.results245 rfl rfl (zap d0 d1).1 (zap d0 d1).2 ⟨by rw [e0],zat (hlw.trans (hb4.mono hlw.size)) (by omega)⟩
    | false =>
     rw [hwq] at hwr
     have Z2:=Z1.put (by omega) hwq
     clear Z
     go_wp2_with(go_at_call 246;(with_reducible refine(hwr _).mono ?_);rintro e wx ⟨rfl,hww⟩;have h2:=hww.symm;subst h2)
     go_roundw
     case rel=>exact⟨1,by omega,rfl,Z2⟩
     case measure=>simp [intOf]
   ·have hwr:=fun W=>zcW a d W
    have Z1:=Z.alloc (.cells #[.int .i64 a,.int .i64 d] 305)
    have cc:=Z1.cells 1 (by omega)
    have cf:=Z1.fz 1
    cases hwq:zbz a d with
    | true =>
     have e0:=zbS (r:=(⟨a,a⟩:Rg)) (o:=(⟨c,d⟩:Rg)) (fun h=>hne h.2) (k:=1) (by omega) hwq
     rw [hwq] at hwr
     have r0:=Z1.res 0 (by omega)
     have r1:=Z1.res 1 (by omega)
     have z0:=Z1.rz 0
     have z1:=Z1.rz 1
     have hlw:=Z1.low
     have hsz:=Z1.size
     clear Z Z1 cc cf
     go_wp2_with(first|(go_at_call 246;(with_reducible refine(hwr _).mono ?_);rintro e wx ⟨rfl,hww⟩;have h2:=hww.symm;subst h2)|(go_at_call 238;(with_reducible refine(hany _).mono ?_);rintro e w4 ⟨rfl,hb4⟩;have d0:=za3 hb4 r0;have d1:=za3 hb4 r1;have g0:=zbu hb4 (by omega) z0;have g1:=zbu hb4 (by omega) z1))
     exact zb0 (r:=anyR) Tryz.results245 rfl rfl (zap d0 d1).1 (zap d0 d1).2 ⟨by rw [e0],zat (hlw.trans (hb4.mono hlw.size)) (by omega)⟩
    | false =>
     rw [hwq] at hwr
     have Z2:=Z1.put (by omega) hwq
     clear Z
     go_wp2_with(go_at_call 246;(with_reducible refine(hwr _).mono ?_);rintro e wx ⟨rfl,hww⟩;have h2:=hww.symm;subst h2)
     go_roundw
     case rel=>exact⟨2,by omega,rfl,Z2⟩
     case measure=>simp [intOf]
   ·have hwr:=fun W=>zcW a c W
    have Z1:=Z.alloc (.cells #[.int .i64 a,.int .i64 c] 305)
    have cc:=Z1.cells 2 (by omega)
    have cf:=Z1.fz 2
    cases hwq:zbz a c with
    | true =>
     have e0:=zbS (r:=(⟨a,a⟩:Rg)) (o:=(⟨c,d⟩:Rg)) (fun h=>hne h.2) (k:=2) (by omega) hwq
     rw [hwq] at hwr
     have r0:=Z1.res 0 (by omega)
     have r1:=Z1.res 1 (by omega)
     have z0:=Z1.rz 0
     have z1:=Z1.rz 1
     have hlw:=Z1.low
     have hsz:=Z1.size
     clear Z Z1 cc cf
     go_wp2_with(first|(go_at_call 246;(with_reducible refine(hwr _).mono ?_);rintro e wx ⟨rfl,hww⟩;have h2:=hww.symm;subst h2)|(go_at_call 238;(with_reducible refine(hany _).mono ?_);rintro e w4 ⟨rfl,hb4⟩;have d0:=za3 hb4 r0;have d1:=za3 hb4 r1;have g0:=zbu hb4 (by omega) z0;have g1:=zbu hb4 (by omega) z1))
     exact zb0 (r:=anyR) Tryz.results245 rfl rfl (zap d0 d1).1 (zap d0 d1).2 ⟨by rw [e0],zat (hlw.trans (hb4.mono hlw.size)) (by omega)⟩
    | false =>
     rw [hwq] at hwr
     have Z2:=Z1.put (by omega) hwq
     clear Z
     go_wp2_with(go_at_call 246;(with_reducible refine(hwr _).mono ?_);rintro e wx ⟨rfl,hww⟩;have h2:=hww.symm;subst h2)
     go_roundw
     case rel=>exact⟨3,by omega,rfl,Z2⟩
     case measure=>simp [intOf]
   ·have hwr:=fun W=>zcW a d W
    have Z1:=Z.alloc (.cells #[.int .i64 a,.int .i64 d] 305)
    have cc:=Z1.cells 3 (by omega)
    have cf:=Z1.fz 3
    cases hwq:zbz a d with
    | true =>
     have e0:=zbS (r:=(⟨a,a⟩:Rg)) (o:=(⟨c,d⟩:Rg)) (fun h=>hne h.2) (k:=3) (by omega) hwq
     rw [hwq] at hwr
     have r0:=Z1.res 0 (by omega)
     have r1:=Z1.res 1 (by omega)
     have z0:=Z1.rz 0
     have z1:=Z1.rz 1
     have hlw:=Z1.low
     have hsz:=Z1.size
     clear Z Z1 cc cf
     go_wp2_with(first|(go_at_call 246;(with_reducible refine(hwr _).mono ?_);rintro e wx ⟨rfl,hww⟩;have h2:=hww.symm;subst h2)|(go_at_call 238;(with_reducible refine(hany _).mono ?_);rintro e w4 ⟨rfl,hb4⟩;have d0:=za3 hb4 r0;have d1:=za3 hb4 r1;have g0:=zbu hb4 (by omega) z0;have g1:=zbu hb4 (by omega) z1))
     exact zb0 (r:=anyR) Tryz.results245 rfl rfl (zap d0 d1).1 (zap d0 d1).2 ⟨by rw [e0],zat (hlw.trans (hb4.mono hlw.size)) (by omega)⟩
    | false =>
     rw [hwq] at hwr
     have Z2:=Z1.put (by omega) hwq
     clear Z
     go_wp2_with(go_at_call 246;(with_reducible refine(hwr _).mono ?_);rintro e wx ⟨rfl,hww⟩;have h2:=hww.symm;subst h2)
     go_roundw
     case rel=>exact⟨4,by omega,rfl,Z2⟩
     case measure=>simp [intOf]
  ·obtain rfl:k=4:=by omega
   have e0:=ziF hr ho (fun h=>hne h.2) Z.no
   have q0:wr.cell? ⟨w.heap.size+1+1+1,0,none⟩=some (.int .i64 (wrap64 (a*c))):=Z.cells 0 (by omega)
   have q1:wr.cell? ⟨w.heap.size+1+1+1,1,none⟩=some (.int .i64 (wrap64 (a*d))):=Z.cells 1 (by omega)
   have q2:wr.cell? ⟨w.heap.size+1+1+1,2,none⟩=some (.int .i64 (wrap64 (a*c))):=Z.cells 2 (by omega)
   have q3:wr.cell? ⟨w.heap.size+1+1+1,3,none⟩=some (.int .i64 (wrap64 (a*d))):=Z.cells 3 (by omega)
   have hcs:∀ j (h:j<[wrap64 (a*c),wrap64 (a*d),wrap64 (a*c),wrap64 (a*d)].length),wr.cell? ⟨w.heap.size+1+1+1,j,none⟩=some (.int .i64 [wrap64 (a*c),wrap64 (a*d),wrap64 (a*c),wrap64 (a*d)][j]):=fun j hj=>by
    match j,hj with
    | 0,_=>exact q0
    | 1,_=>exact q1
    | 2,_=>exact q2
    | 3,_=>exact q3
   have hmin:Calls Tryz.prog 247 #[.slice (some ⟨w.heap.size+1+1+1,0,none⟩) 4 4] wr.drew fun e w'=>e=.returned (.int .i64 (zfA [wrap64 (a*c),wrap64 (a*d),wrap64 (a*c),wrap64 (a*d)] 3))∧w'=wr.drew:=zpv wr.drew (w.heap.size+1+1+1) 4 [wrap64 (a*c),wrap64 (a*d),wrap64 (a*c),wrap64 (a*d)] (by simp) (by simp) hcs
   have hmax:Calls Tryz.prog 248 #[.slice (some ⟨w.heap.size+1+1+1,0,none⟩) 4 4] wr.drew fun e w'=>e=.returned (.int .i64 (zfB [wrap64 (a*c),wrap64 (a*d),wrap64 (a*c),wrap64 (a*d)] 3))∧w'=wr.drew:=zpw wr.drew (w.heap.size+1+1+1) 4 [wrap64 (a*c),wrap64 (a*d),wrap64 (a*c),wrap64 (a*d)] (by simp) (by simp) hcs
   have r0:=Z.res 0 (by omega)
   have r1:=Z.res 1 (by omega)
   have z0:=Z.rz 0
   have z1:=Z.rz 1
   have hlw:=Z.low
   have hbd:=zca (zfA [wrap64 (a*c),wrap64 (a*d),wrap64 (a*c),wrap64 (a*d)] 3) (zfB [wrap64 (a*c),wrap64 (a*d),wrap64 (a*c),wrap64 (a*d)] 3)
   clear Z hcs q0 q1 q2 q3
   generalize zfA [wrap64 (a*c),wrap64 (a*d),wrap64 (a*c),wrap64 (a*d)] 3=x at hmin hbd e0
   generalize zfB [wrap64 (a*c),wrap64 (a*d),wrap64 (a*c),wrap64 (a*d)] 3=y at hmax hbd e0
   go_wp2
   go_region_held3 (fun _=>True)
    (trivial)
    (first|(go_at_call 247;(with_reducible refine hmin.mono ?_);rintro e wx ⟨rfl,hww⟩;have h2:=hww.symm;subst h2)|(go_at_call 248;(with_reducible refine hmax.mono ?_);rintro e wx ⟨rfl,hww⟩;have h2:=hww.symm;subst h2))
   go_wp2
   exact zb0 (r:=⟨x,y⟩) Tryz.results245 rfl rfl (zap (X:=wr.drew) r0 r1).1 (zap (X:=wr.drew) r0 r1).2 ⟨by rw [e0],zat hlw.drew (by omega)⟩
theorem ztH(r o:Rg)(w:World)(hr:r.Ok)(ho:o.Ok):Calls Tryz.prog 245 #[rv r,rv o] w fun e w'=>e=.returned (rv (r.times o))∧Below w.heap.size w w':=by
 obtain⟨a,b⟩:=r
 obtain⟨c,d⟩:=o
 by_cases h1:a=b
 ·subst h1
  by_cases h2:c=d
  ·exact ztG _ _ w rfl h2
  ·exact zyz a c d w hr ho h2
 ·exact zyy a b c d w hr ho h1
theorem zh5{w wx:World}{o:Obj}{cs:Array Value}{t:TypeId}(hbx:Below ((w.alloc o).alloc (.cells cs t)).heap.size ((w.alloc o).alloc (.cells cs t)) wx)(j:Nat):wx.frozen? ⟨w.heap.size+1,j,none⟩=false:=by
 have e:=World.frozen?_of_block (a:=⟨w.heap.size+1,j,none⟩) (hbx.block (w.heap.size+1) (by simp))
 rw [e]
 exact World.frozen?_alloc_at _ _ _ _ (by simp)
theorem zjZ{w wx:World}{o:Obj}{cs:Array Value}{t:TypeId}(hbx:Below ((w.alloc (.cells cs t)).alloc o).heap.size ((w.alloc (.cells cs t)).alloc o) wx)(j:Nat):wx.cell? ⟨w.heap.size,j,none⟩=cs[j]? :=
 (World.cell?_of_block (a:=⟨w.heap.size,j,none⟩) ((hbx.block w.heap.size (by simp;omega)).trans (Below.heap_alloc _ _ _ (by simp)))).trans (World.cell?_alloc_new _ _ _ j)
def subR(k:Kn)(s t:Nat):Rg:=if s=t then only 0 else(k.regs s).minus (k.regs t)
theorem ztN{w:World}{b:Nat}{k:Kn}(r s:Nat):Calls Tryz.prog 241 #[.agg #[.int .i64 (r:Int),.int .i64 (s:Int),.int .i64 (s:Int)],.pointer (some ⟨b,0,none⟩)] w fun e w'=>e=.returned (rv (subR k s s))∧Below w.heap.size w w':=by
 have e0:subR k s s=only 0:=if_pos rfl
 rw [e0]
 go_enter Tryz.func241,Tryz.ntmps241
 go_wp2_with(go_at_call 226;(with_reducible refine(zh2 0 _).mono ?_);rintro e wx ⟨rfl,hbx⟩;have c0:wx.cell? ⟨w.heap.size+1,0,none⟩=some (.int .i64 0):=zd1 hbx 0;have c1:wx.cell? ⟨w.heap.size+1,1,none⟩=some (.int .i64 0):=zd1 hbx 1;have z0:=zh5 hbx 0;have z1:=zh5 hbx 1)
 exact zb0 (r:=only 0) Tryz.results241 rfl rfl (zap c0 c1).1 (zap c0 c1).2 ⟨rfl,zat (box2.trans (hbx.mono (by simp;omega))) (by omega)⟩
theorem zra{w:World}{b:Nat}{bv:Value}{k:Kn}(h:KnM w b bv k)(r s:Nat)(hs:s<8)(t:Nat)(ht:t<8)(hne:¬s=t):Calls Tryz.prog 241 #[.agg #[.int .i64 (r:Int),.int .i64 (s:Int),.int .i64 (t:Int)],.pointer (some ⟨b,0,none⟩)] w fun e w'=>e=.returned (rv (subR k s t))∧Below w.heap.size w w':=by
 have e0:subR k s t=(k.regs s).minus (k.regs t):=if_neg hne
 rw [e0]
 have hlt:=h.lt
 have s0:(0:Int)≤(s:Int):=by omega
 have s1:(s:Int)<8:=by omega
 have u0:(0:Int)≤(t:Int):=by omega
 have u1:(t:Int)<8:=by omega
 have t0:((s:Int) == (t:Int))=false:=by simpa using (by omega:¬(s:Int)=(t:Int))
 obtain⟨A,hA⟩:∃ A,(w.alloc (.cells #[.int .i64 (r:Int),.int .i64 (s:Int),.int .i64 (t:Int)] 172)).alloc (.cells #[.int .i64 0,.int .i64 0] 213)=A:=⟨_,rfl⟩
 have HB:∀ W,Below A.heap.size A W→KnM W b bv k:=fun W hW=>by subst hA;exact((h.alloc _).alloc _).below hW (by simp;omega)
 have hC:∀ W,Below A.heap.size A W→W.cell? ⟨w.heap.size+1,0,none⟩=some (.int .i64 0)∧W.cell? ⟨w.heap.size+1,1,none⟩=some (.int .i64 0)∧W.frozen? ⟨w.heap.size+1,0,none⟩=false∧W.frozen? ⟨w.heap.size+1,1,none⟩=false:=fun W hW=>by subst hA;exact⟨zd1 hW 0,zd1 hW 1,zh5 hW 0,zh5 hW 1⟩
 have hL:∀ W,Below A.heap.size A W→Below w.heap.size w W:=fun W hW=>by subst hA;exact box2.trans (hW.mono (by simp;omega))
 have HF:∀ W,Below A.heap.size A W→(W.cell? ⟨w.heap.size,1,none⟩=some (.int .i64 (s:Int))∧W.cell? ⟨w.heap.size,2,none⟩=some (.int .i64 (t:Int)))∧(W.cell? ⟨b,s*2,none⟩=some (.int .i64 (k.regs s).lo)∧W.cell? ⟨b,s*2+1,none⟩=some (.int .i64 (k.regs s).hi))∧(W.cell? ⟨b,t*2,none⟩=some (.int .i64 (k.regs t).lo)∧W.cell? ⟨b,t*2+1,none⟩=some (.int .i64 (k.regs t).hi)):=fun W hW =>
  ⟨by subst hA;exact⟨zjZ hW 1,zjZ hW 2⟩,(HB W hW).cR s hs,(HB W hW).cR t ht⟩
 obtain⟨⟨f1,f2⟩,_⟩:=HF A (Below.refl _ _)
 go_enter Tryz.func241,Tryz.ntmps241
 go_wp2
 refine zad 15 (fun W=>Below A.heap.size A W) (Below.refl _ _).drew (by kernel_rfl) (by kernel_rfl) ?_
 simp only [List.take_succ_cons,List.take_zero,List.drop_succ_cons,List.drop_zero]
 clear f1 f2
 repeat(refine zab rfl ?_ (fun W hW=>?_) ?_;rotate_left 1;· (obtain⟨⟨f0,f1⟩,⟨f2,f3⟩,f4,f5⟩:=HF W hW;go_simp;with_reducible rfl))
 refine zaI rfl 242 #[rv (k.regs s),rv (k.regs t)] (rv ((k.regs s).minus (k.regs t))) (fun W hW=>?_) (fun W hW=>(ztF _ _ W).mono (fun e w' hh=>⟨hh.1,hW.trans (hh.2.mono hW.size)⟩)) ?_
 ·go_simp
 refine wpQuiet_nil ?_
 intro W hW
 obtain⟨c0,c1,z0,z1⟩:=hC W hW
 go_wp2
 exact zb0 (r:=(k.regs s).minus (k.regs t)) Tryz.results241 rfl rfl (zap c0 c1).1 (zap c0 c1).2 ⟨rfl,zat (hL W hW) (by omega)⟩
theorem zw1{w:World}{b:Nat}{bv:Value}{k:Kn}(h:KnM w b bv k)(r s:Nat)(hs:s<8)(t:Nat)(ht:t<8):Calls Tryz.prog 241 #[.agg #[.int .i64 (r:Int),.int .i64 (s:Int),.int .i64 (t:Int)],.pointer (some ⟨b,0,none⟩)] w fun e w'=>e=.returned (rv (subR k s t))∧Below w.heap.size w w':=by
 by_cases e:s=t
 ·subst e;exact ztN r s
 ·exact zra h r s hs t ht e
def zbC(s:Int):Bool:=bits BinOp.and IntKind.i64 s (s-1) == 0
theorem zc6{w:World}{S o:Nat}{s:Int}(hc:w.cell? ⟨S,o+1,none⟩=some (.int .i64 s))(h0:0≤s)(h1:s≤100000):Calls Tryz.prog 167 #[.pointer (some ⟨S,o,none⟩)] w fun e w'=>e=.returned (.bool (zbC s))∧Below w.heap.size w w':=by
 have hS:S<w.heap.size:=World.block_lt_of_cell? w _ hc
 have HF:∀ W,Below w.heap.size w W→W.cell? ⟨S,o+1,none⟩=some (.int .i64 s):=fun W hW=>(World.cell?_of_block (a:=⟨S,o+1,none⟩) (hW.block S hS)).trans hc
 go_enter Tryz.func167,Tryz.ntmps167
 go_wp2
 refine zad 11 (fun W=>Below w.heap.size w W) (Below.refl _ _).drew (by kernel_rfl) (by kernel_rfl) ?_
 simp only [List.take_succ_cons,List.take_zero,List.drop_succ_cons,List.drop_zero]
 iterate 11 (refine zab rfl ?_ (fun W hW=>?_) ?_;rotate_left 1;· (have f1:=HF W hW;go_simp;with_reducible rfl))
 refine wpQuiet_nil ?_
 intro W hW
 go_wp2
 go_ret
 exact⟨rfl,hW⟩
structure Mk where
 ao:Option Addr
 cap:Nat
 k:Kn
def zaT(bv:Value)(k:Kn):List Value:=rgs k.regs 8++(rgs k.cells 16++[.int .i64 k.next,bv,.int .i64 k.steps])
theorem zdr(bv:Value)(k:Kn):(zaT bv k).length=51:=by simp [zaT,zd9]
def Mk.cells(m:Mk):List Value:=zaT (.slice m.ao m.k.behind.length m.cap) m.k
def zbh(ms:List Mk):List Value:=ms.flatMap Mk.cells
theorem zmc(ms:List Mk)(m:Mk):zbh (ms++[m])=zbh ms++m.cells:=by simp [zbh]
theorem zqP{ms:List Mk}{i:Nat}{m:Mk}(h:ms[i]?=some m)(j:Nat)(hj:j<51):(zbh ms)[51*i+j]?=m.cells[j]?:=by
 induction ms generalizing i with
 | nil=>simp at h
 | cons x t ih =>
  show(x.cells++zbh t)[51*i+j]?=_
  have hl:x.cells.length=51:=zdr _ _
  cases i with
  | zero =>
   cases h
   rw [Nat.mul_zero,Nat.zero_add,List.getElem?_append_left (by omega)]
  | succ i =>
   rw [List.getElem?_append_right (by omega),hl,show 51*(i+1)+j-51=51*i+j by omega]
   exact ih (by simpa using h)
theorem ziB{w:World}{b o:Nat}{bv:Value}{k:Kn}(h:∀ j,j<51→w.cell? ⟨b,o+j,none⟩=(zaT bv k)[j]?):KnR w b o bv k:=by
 have l1:=zd9 k.regs 8
 have l2:=zd9 k.cells 16
 have tl:∀ j,j<3→(zaT bv k)[48+j]?=[Value.int .i64 k.next,bv,.int .i64 k.steps][j]?:=fun j hj=>by
  unfold zaT
  rw [List.getElem?_append_right (by omega),List.getElem?_append_right (by omega),l1,l2,show 48+j-8*2-16*2=j by omega]
 have r:∀ r,r<8→(zaT bv k)[r*2]?=some (.int .i64 (k.regs r).lo)∧(zaT bv k)[r*2+1]?=some (.int .i64 (k.regs r).hi):=fun r hr=>by
  unfold zaT
  rw [List.getElem?_append_left (by omega),List.getElem?_append_left (by omega)]
  exact zlR _ _ _ hr
 have c:∀ c,c<16→(zaT bv k)[16+c*2]?=some (.int .i64 (k.cells c).lo)∧(zaT bv k)[16+c*2+1]?=some (.int .i64 (k.cells c).hi):=fun c hc=>by
  unfold zaT
  refine⟨?_,?_⟩
  ·rw [List.getElem?_append_right (by omega),List.getElem?_append_left (by omega),l1,show 16+c*2-8*2=c*2 by omega]
   exact(zlR _ _ _ hc).1
  ·rw [List.getElem?_append_right (by omega),List.getElem?_append_left (by omega),l1,show 16+c*2+1-8*2=c*2+1 by omega]
   exact(zlR _ _ _ hc).2
 exact⟨fun x hx=>⟨(h _ (by omega)).trans (r x hx).1,(h _ (by omega)).trans (r x hx).2⟩,fun x hx=>⟨(h _ (by omega)).trans (c x hx).1,(h _ (by omega)).trans (c x hx).2⟩,(h 48 (by omega)).trans (tl 0 (by omega)),(h 49 (by omega)).trans (tl 1 (by omega)),(h 50 (by omega)).trans (tl 2 (by omega))⟩
theorem KnM.cells'{w:World}{b:Nat}{bv:Value}{k:Kn}(h:KnM w b bv k):w.rangeAt b 0 (zaT bv k):=by
 have l1:=zd9 k.regs 8
 have l2:=zd9 k.cells 16
 intro j v hv
 rw [Nat.zero_add]
 have hj:=(List.getElem?_eq_some_iff.1 hv).1
 rw [zdr] at hj
 unfold zaT at hv
 by_cases h1:j<16
 ·rw [List.getElem?_append_left (by omega)] at hv
  have:=h.rowR j v hv
  rw [Nat.zero_add] at this
  exact this
 ·rw [List.getElem?_append_right (by omega),l1] at hv
  by_cases h2:j<48
  ·rw [List.getElem?_append_left (by omega)] at hv
   have:=h.rowC (j-8*2) v hv
   rw [show 16+(j-8*2)=j by omega] at this
   exact this
  ·rw [List.getElem?_append_right (by omega),l2] at hv
   rcases(by omega:j=48∨j=49∨j=50) with e|e|e
   ·subst e;cases hv;exact h.cN
   ·subst e;cases hv;exact h.cB
   ·subst e;cases hv;exact h.cS
theorem znK{ao:Option Addr}{n cap:Nat}{k:Kn}:∀ v∈zaT (.slice ao n cap) k,v.oneCell'=true:=by
 intro v hv
 unfold zaT at hv
 rcases List.mem_append.1 hv with h|h
 ·exact zts _ _ v h
 ·rcases List.mem_append.1 h with h|h
  ·exact zts _ _ v h
  ·simp only [List.mem_cons,List.not_mem_nil,or_false] at h
   rcases h with rfl|rfl|rfl <;> rfl
end Go.Proofs.YtfpgjkbjbbgciaaGreatDoor
