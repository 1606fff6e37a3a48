import Derived.Test.YtfpgjkbjbbgciaaGreatDoorMd37
import Derived.Test.YtfpgjkbjbbgciaaGreatDoorMd39
set_option maxRecDepth 100000
set_option maxHeartbeats 8000000
namespace Go.Proofs.YtfpgjkbjbbgciaaGreatDoor
open Go.RowKit Sp
theorem zxB(a c d:Int)(w:World)(hr:(⟨a,a⟩:Rg).Ok)(ho:(⟨c,d⟩:Rg).Ok)(hne:¬c=d):Calls Tryz.prog 245 #[rv (⟨a,a⟩:Rg),rv (⟨c,d⟩:Rg)] w fun e w'=>e=.returned (rv ((⟨a,a⟩:Rg).times (⟨c,d⟩:Rg)))∧Below w.heap.size w w':=by
 have Z0:=zis w (⟨a,a⟩:Rg) (⟨c,d⟩:Rg)
 have hb5:∀ a b W,(Instr.build 305 #[(0,.int .i64 a),(1,.int .i64 b)]).run Tryz.prog W=.ok (.agg #[.int .i64 a,.int .i64 b]) W:=fun a b W=>run_build W 305 _ _ (by kernel_rfl)
 have hb6:∀ a b c d W,(Instr.build 306 #[(0,.agg #[.int .i64 a,.int .i64 b]),(1,.agg #[.int .i64 a,.int .i64 d]),(2,.agg #[.int .i64 c,.int .i64 b]),(3,.agg #[.int .i64 c,.int .i64 d])]).run Tryz.prog W=.ok (.agg #[.int .i64 a,.int .i64 b,.int .i64 a,.int .i64 d,.int .i64 c,.int .i64 b,.int .i64 c,.int .i64 d]) W:=fun a b c d W=>run_build W 306 _ _ (by kernel_rfl)
 have hx0:=zj3
 have hx1:=zj4
 have hx2:=zj5
 have hx3:=zj6
 have t1:(c == d)=false:=by simpa using hne
 go_enter Tryz.func245,Tryz.ntmps245
 go_wp2
 change TimesAt w ((((w.alloc (.cells #[.int .i64 a,.int .i64 a] 213)).alloc (.cells #[.int .i64 c,.int .i64 d] 213)).alloc (.cells #[.int .i64 0,.int .i64 0] 213)).alloc (.cells #[.int .i64 0,.int .i64 0,.int .i64 0,.int .i64 0] 304)) _ _ _ at Z0
 generalize (((w.alloc (.cells #[.int .i64 a,.int .i64 a] 213)).alloc (.cells #[.int .i64 c,.int .i64 d] 213)).alloc (.cells #[.int .i64 0,.int .i64 0] 213)).alloc (.cells #[.int .i64 0,.int .i64 0,.int .i64 0,.int .i64 0] 304)=Ws at Z0
 go_loopw [47] (fun ti wr=>∃ k:Nat,k≤4∧ti=.int .i64 (k:Int)∧TimesAt w wr (⟨a,a⟩:Rg) (⟨c,d⟩:Rg) k) (fun ti _=>4-(intOf ti).toNat)
 case atStart=>exact⟨0,by omega,rfl,Z0⟩
 case round =>
  obtain⟨k,hk,rfl,Z⟩:=hrel
  by_cases hlt:k<4
  ·have hcase:k=0∨k=1∨k=2∨k=3:=by omega
   have hany:=zif
   rcases hcase with rfl|rfl|rfl|rfl
   ·have hwr:=fun W=>zdk a c W
    have Z1:=Z.alloc (.cells #[.int .i64 a,.int .i64 c] 305)
    have cc:=Z1.cells 0 (by omega)
    have cf:=Z1.fz 0
    cases hwq:zbC a c with
    | true =>
     have e0:=zck (r:=(⟨a,a⟩:Rg)) (o:=(⟨c,d⟩:Rg)) (fun h=>hne h.2) (k:=0) (by omega) hwq
     rw [hwq] at hwr
     have r0:=Z1.res 0 (by omega)
     have r1:=Z1.res 1 (by omega)
     have z0:=Z1.rz 0
     have z1:=Z1.rz 1
     have hlw:=Z1.low
     have hsz:=Z1.size
     clear Z Z1 cc cf
     go_wp2_with(first|(go_at_call 246;(with_reducible refine(hwr _).mono ?_);rintro e wx ⟨rfl,hww⟩;have h2:=hww.symm;subst h2)|(go_at_call 238;(with_reducible refine(hany _).mono ?_);rintro e w4 ⟨rfl,hb4⟩;have d0:=zaC hb4 r0;have d1:=zaC hb4 r1;have g0:=zb9 hb4 (by omega) z0;have g1:=zb9 hb4 (by omega) z1))
     exact zbD (r:=anyR) Tryz.results245 rfl rfl (zau d0 d1).1 (zau d0 d1).2 ⟨by rw [e0],zaz (hlw.trans (hb4.mono hlw.size)) (by omega)⟩
    | false =>
     rw [hwq] at hwr
     have Z2:=Z1.put (by omega) hwq
     clear Z
     go_wp2_with(go_at_call 246;(with_reducible refine(hwr _).mono ?_);rintro e wx ⟨rfl,hww⟩;have h2:=hww.symm;subst h2)
     go_roundw
     case rel=>exact⟨1,by omega,rfl,Z2⟩
     case measure=>simp [intOf]
   ·have hwr:=fun W=>zdk a d W
    have Z1:=Z.alloc (.cells #[.int .i64 a,.int .i64 d] 305)
    have cc:=Z1.cells 1 (by omega)
    have cf:=Z1.fz 1
    cases hwq:zbC a d with
    | true =>
     have e0:=zck (r:=(⟨a,a⟩:Rg)) (o:=(⟨c,d⟩:Rg)) (fun h=>hne h.2) (k:=1) (by omega) hwq
     rw [hwq] at hwr
     have r0:=Z1.res 0 (by omega)
     have r1:=Z1.res 1 (by omega)
     have z0:=Z1.rz 0
     have z1:=Z1.rz 1
     have hlw:=Z1.low
     have hsz:=Z1.size
     clear Z Z1 cc cf
     go_wp2_with(first|(go_at_call 246;(with_reducible refine(hwr _).mono ?_);rintro e wx ⟨rfl,hww⟩;have h2:=hww.symm;subst h2)|(go_at_call 238;(with_reducible refine(hany _).mono ?_);rintro e w4 ⟨rfl,hb4⟩;have d0:=zaC hb4 r0;have d1:=zaC hb4 r1;have g0:=zb9 hb4 (by omega) z0;have g1:=zb9 hb4 (by omega) z1))
     exact zbD (r:=anyR) Tryz.results245 rfl rfl (zau d0 d1).1 (zau d0 d1).2 ⟨by rw [e0],zaz (hlw.trans (hb4.mono hlw.size)) (by omega)⟩
    | false =>
     rw [hwq] at hwr
     have Z2:=Z1.put (by omega) hwq
     clear Z
     go_wp2_with(go_at_call 246;(with_reducible refine(hwr _).mono ?_);rintro e wx ⟨rfl,hww⟩;have h2:=hww.symm;subst h2)
     go_roundw
     case rel=>exact⟨2,by omega,rfl,Z2⟩
     case measure=>simp [intOf]
   ·have hwr:=fun W=>zdk a c W
    have Z1:=Z.alloc (.cells #[.int .i64 a,.int .i64 c] 305)
    have cc:=Z1.cells 2 (by omega)
    have cf:=Z1.fz 2
    cases hwq:zbC a c with
    | true =>
     have e0:=zck (r:=(⟨a,a⟩:Rg)) (o:=(⟨c,d⟩:Rg)) (fun h=>hne h.2) (k:=2) (by omega) hwq
     rw [hwq] at hwr
     have r0:=Z1.res 0 (by omega)
     have r1:=Z1.res 1 (by omega)
     have z0:=Z1.rz 0
     have z1:=Z1.rz 1
     have hlw:=Z1.low
     have hsz:=Z1.size
     clear Z Z1 cc cf
     go_wp2_with(first|(go_at_call 246;(with_reducible refine(hwr _).mono ?_);rintro e wx ⟨rfl,hww⟩;have h2:=hww.symm;subst h2)|(go_at_call 238;(with_reducible refine(hany _).mono ?_);rintro e w4 ⟨rfl,hb4⟩;have d0:=zaC hb4 r0;have d1:=zaC hb4 r1;have g0:=zb9 hb4 (by omega) z0;have g1:=zb9 hb4 (by omega) z1))
     exact zbD (r:=anyR) Tryz.results245 rfl rfl (zau d0 d1).1 (zau d0 d1).2 ⟨by rw [e0],zaz (hlw.trans (hb4.mono hlw.size)) (by omega)⟩
    | false =>
     rw [hwq] at hwr
     have Z2:=Z1.put (by omega) hwq
     clear Z
     go_wp2_with(go_at_call 246;(with_reducible refine(hwr _).mono ?_);rintro e wx ⟨rfl,hww⟩;have h2:=hww.symm;subst h2)
     go_roundw
     case rel=>exact⟨3,by omega,rfl,Z2⟩
     case measure=>simp [intOf]
   ·have hwr:=fun W=>zdk a d W
    have Z1:=Z.alloc (.cells #[.int .i64 a,.int .i64 d] 305)
    have cc:=Z1.cells 3 (by omega)
    have cf:=Z1.fz 3
    cases hwq:zbC a d with
    | true =>
     have e0:=zck (r:=(⟨a,a⟩:Rg)) (o:=(⟨c,d⟩:Rg)) (fun h=>hne h.2) (k:=3) (by omega) hwq
     rw [hwq] at hwr
     have r0:=Z1.res 0 (by omega)
     have r1:=Z1.res 1 (by omega)
     have z0:=Z1.rz 0
     have z1:=Z1.rz 1
     have hlw:=Z1.low
     have hsz:=Z1.size
     clear Z Z1 cc cf
     go_wp2_with(first|(go_at_call 246;(with_reducible refine(hwr _).mono ?_);rintro e wx ⟨rfl,hww⟩;have h2:=hww.symm;subst h2)|(go_at_call 238;(with_reducible refine(hany _).mono ?_);rintro e w4 ⟨rfl,hb4⟩;have d0:=zaC hb4 r0;have d1:=zaC hb4 r1;have g0:=zb9 hb4 (by omega) z0;have g1:=zb9 hb4 (by omega) z1))
     exact zbD (r:=anyR) Tryz.results245 rfl rfl (zau d0 d1).1 (zau d0 d1).2 ⟨by rw [e0],zaz (hlw.trans (hb4.mono hlw.size)) (by omega)⟩
    | false =>
     rw [hwq] at hwr
     have Z2:=Z1.put (by omega) hwq
     clear Z
     go_wp2_with(go_at_call 246;(with_reducible refine(hwr _).mono ?_);rintro e wx ⟨rfl,hww⟩;have h2:=hww.symm;subst h2)
     go_roundw
     case rel=>exact⟨4,by omega,rfl,Z2⟩
     case measure=>simp [intOf]
  ·obtain rfl:k=4:=by omega
   have e0:=zig hr ho (fun h=>hne h.2) Z.no
   have q0:wr.cell? ⟨w.heap.size+1+1+1,0,none⟩=some (.int .i64 (wrap64 (a*c))):=Z.cells 0 (by omega)
   have q1:wr.cell? ⟨w.heap.size+1+1+1,1,none⟩=some (.int .i64 (wrap64 (a*d))):=Z.cells 1 (by omega)
   have q2:wr.cell? ⟨w.heap.size+1+1+1,2,none⟩=some (.int .i64 (wrap64 (a*c))):=Z.cells 2 (by omega)
   have q3:wr.cell? ⟨w.heap.size+1+1+1,3,none⟩=some (.int .i64 (wrap64 (a*d))):=Z.cells 3 (by omega)
   have hcs:∀ j (h:j<[wrap64 (a*c),wrap64 (a*d),wrap64 (a*c),wrap64 (a*d)].length),wr.cell? ⟨w.heap.size+1+1+1,j,none⟩=some (.int .i64 [wrap64 (a*c),wrap64 (a*d),wrap64 (a*c),wrap64 (a*d)][j]):=fun j hj=>by
    match j,hj with
    | 0,_=>exact q0
    | 1,_=>exact q1
    | 2,_=>exact q2
    | 3,_=>exact q3
   have hmin:Calls Tryz.prog 247 #[.slice (some ⟨w.heap.size+1+1+1,0,none⟩) 4 4] wr.drew fun e w'=>e=.returned (.int .i64 (zf2 [wrap64 (a*c),wrap64 (a*d),wrap64 (a*c),wrap64 (a*d)] 3))∧w'=wr.drew:=zoG wr.drew (w.heap.size+1+1+1) 4 [wrap64 (a*c),wrap64 (a*d),wrap64 (a*c),wrap64 (a*d)] (by simp) (by simp) hcs
   have hmax:Calls Tryz.prog 248 #[.slice (some ⟨w.heap.size+1+1+1,0,none⟩) 4 4] wr.drew fun e w'=>e=.returned (.int .i64 (zf3 [wrap64 (a*c),wrap64 (a*d),wrap64 (a*c),wrap64 (a*d)] 3))∧w'=wr.drew:=zoH wr.drew (w.heap.size+1+1+1) 4 [wrap64 (a*c),wrap64 (a*d),wrap64 (a*c),wrap64 (a*d)] (by simp) (by simp) hcs
   have r0:=Z.res 0 (by omega)
   have r1:=Z.res 1 (by omega)
   have z0:=Z.rz 0
   have z1:=Z.rz 1
   have hlw:=Z.low
   have hbd:=zcp (zf2 [wrap64 (a*c),wrap64 (a*d),wrap64 (a*c),wrap64 (a*d)] 3) (zf3 [wrap64 (a*c),wrap64 (a*d),wrap64 (a*c),wrap64 (a*d)] 3)
   clear Z hcs q0 q1 q2 q3
   generalize zf2 [wrap64 (a*c),wrap64 (a*d),wrap64 (a*c),wrap64 (a*d)] 3=x at hmin hbd e0
   generalize zf3 [wrap64 (a*c),wrap64 (a*d),wrap64 (a*c),wrap64 (a*d)] 3=y at hmax hbd e0
   go_wp2
   go_region_held3 (fun _=>True)
    (trivial)
    (first|(go_at_call 247;(with_reducible refine hmin.mono ?_);rintro e wx ⟨rfl,hww⟩;have h2:=hww.symm;subst h2)|(go_at_call 248;(with_reducible refine hmax.mono ?_);rintro e wx ⟨rfl,hww⟩;have h2:=hww.symm;subst h2))
   go_wp2
   exact zbD (r:=⟨x,y⟩) Tryz.results245 rfl rfl (zau (X:=wr.drew) r0 r1).1 (zau (X:=wr.drew) r0 r1).2 ⟨by rw [e0],zaz hlw.drew (by omega)⟩
theorem zt6(r o:Rg)(w:World)(hr:r.Ok)(ho:o.Ok):Calls Tryz.prog 245 #[rv r,rv o] w fun e w'=>e=.returned (rv (r.times o))∧Below w.heap.size w w':=by
 obtain⟨a,b⟩:=r
 obtain⟨c,d⟩:=o
 by_cases h1:a=b
 ·subst h1
  by_cases h2:c=d
  ·exact zti _ _ w rfl h2
  ·exact zxB a c d w hr ho h2
 ·exact zxA a b c d w hr ho h1
theorem zvQ{w wx:World}{o:Obj}{b:Nat}{bv:Value}{k:Kn}(f:Rg)(hlt:b<w.heap.size)(hbx:Below ((w.alloc o).alloc (.cells #[.int .i64 0,.int .i64 0] 213)).heap.size ((w.alloc o).alloc (.cells #[.int .i64 0,.int .i64 0] 213)) wx)(hK:KnM wx b bv k):LdM w (wx.alloc (.cells #[.int .i64 f.lo,.int .i64 f.hi] 213)) b wx.heap.size bv k f:=by
 have hs:=hbx.size
 have e2:((w.alloc o).alloc (.cells #[.int .i64 0,.int .i64 0] 213)).heap.size=w.heap.size+1+1:=by simp
 rw [e2] at hs hbx
 have hb2:Below (w.heap.size+1+1) _ (wx.alloc (.cells #[.int .i64 f.lo,.int .i64 f.hi] 213)):=hbx.alloc hs _
 have cc:∀ j,(wx.alloc (.cells #[.int .i64 f.lo,.int .i64 f.hi] 213)).cell? ⟨w.heap.size+1,j,none⟩=(#[.int .i64 0,.int .i64 0]:Array Value)[j]?:=fun j=>by
  have e:=World.cell?_of_block (a:=⟨w.heap.size+1,j,none⟩) (hb2.block (w.heap.size+1) (by omega))
  rw [e]
  have:=World.cell?_alloc_new (w:=w.alloc o) #[.int .i64 0,.int .i64 0] 213 j
  rw [World.size_alloc] at this
  exact this
 refine⟨hK.alloc _,World.cell?_alloc_new _ _ _ 0,World.cell?_alloc_new _ _ _ 1,fun j=>World.frozen?_alloc_at _ _ _ _ (by simp),⟨_,cc 0⟩,⟨_,cc 1⟩,fun j=>?_,box2.trans (hb2.mono (by omega)),by simp,by omega,by omega⟩
 have e:=World.frozen?_of_block (a:=⟨w.heap.size+1,j,none⟩) (hb2.block (w.heap.size+1) (by omega))
 rw [e]
 exact World.frozen?_alloc_at _ _ _ _ (by simp)
theorem zqE{w:World}{b:Nat}{bv:Value}{k:Kn}(h:KnM w b bv k):Calls Tryz.prog 254 #[.pointer (some ⟨b,0,none⟩),rv ⟨15,15⟩] w fun e w'=>e=.returned (rv (k.cells 15))∧Below w.heap.size w w':=by
 have hlt:=h.lt
 have hT:∀(W:World),KnM W b bv k→Calls Tryz.prog 255 #[.pointer (some ⟨b,0,none⟩),rv ⟨15,15⟩] W fun e w'=>e=.returned (.slice (some ⟨b,46,none⟩) 1 1)∧Below W.heap.size W w':=fun W hW=>zej hW ⟨15,15⟩ ⟨⟨by decide,by decide⟩,⟨by decide,by decide⟩,by decide⟩ (by decide) (by decide)
 go_enter Tryz.func254,Tryz.ntmps254
 go_wp2_with(go_at_call 255;(with_reducible refine(hT _ ((h.alloc _).alloc _)).mono ?_);rintro e wx ⟨rfl,hbx⟩;have hK:KnM wx b bv k:=((h.alloc _).alloc _).below hbx (by simp;omega);have c0:wx.cell? ⟨b,46,none⟩=some (.int .i64 (k.cells 15).lo):=(hK.cC 15 (by omega)).1;have c1:wx.cell? ⟨b,47,none⟩=some (.int .i64 (k.cells 15).hi):=(hK.cC 15 (by omega)).2)
 have L0:=zvQ (k.cells 15) hlt hbx hK
 clear hbx hK c0 c1 hT
 go_loopw [18] (fun ti wr=>ti=.int .i64 0∧LdM w wr b wx.heap.size bv k (k.cells 15)) (fun _ _=>0)
 case atStart=>exact⟨rfl,L0⟩
 case round =>
  obtain⟨rfl,L⟩:=hrel
  have f0:=L.lo
  have f1:=L.hi
  obtain⟨x0,s0⟩:=L.r0
  obtain⟨x1,s1⟩:=L.r1
  have y0:=L.rz 0
  have y1:=L.rz 1
  have hl:=L.low
  clear L L0
  go_wp2
  exact zbD (r:=k.cells 15) Tryz.results254 rfl rfl (zau s0 s1).1 (zau s0 s1).2 ⟨rfl,zaz hl (by omega)⟩
theorem ztB{w:World}{b:Nat}{bv:Value}{k:Kn}(h:KnM w b bv k)(r:Rg)(hr:r.lo≤r.hi)(h0:0≤r.lo)(h1:r.hi≤15):Calls Tryz.prog 254 #[.pointer (some ⟨b,0,none⟩),rv r] w fun e w'=>e=.returned (rv (zct k.cells r.lo.toNat (r.hi.toNat-r.lo.toNat)))∧Below w.heap.size w w':=by
 obtain⟨lo,hi⟩:=r
 obtain⟨a,rfl⟩:∃ a:Nat,lo=(a:Int):=⟨lo.toNat,by have:0≤lo:=h0;omega⟩
 obtain⟨n,rfl⟩:∃ n:Nat,hi=(a:Int)+(n:Int):=⟨(hi-a).toNat,by have:(a:Int)≤hi:=hr;omega⟩
 have h1':(a:Int)+(n:Int)≤15:=h1
 have e1:((a:Int)+(n:Int)).toNat-((a:Nat):Int).toNat=n:=by omega
 have e2:((a:Nat):Int).toNat=a:=by omega
 show Calls Tryz.prog 254 #[.pointer (some ⟨b,0,none⟩),rv ⟨(a:Int),(a:Int)+(n:Int)⟩] w fun e w'=>e=.returned (rv (zct k.cells ((a:Nat):Int).toNat (((a:Int)+(n:Int)).toNat-((a:Nat):Int).toNat)))∧Below w.heap.size w w'
 rw [e1,e2]
 by_cases ha:a<15
 ·exact zqz h a n ha (by omega)
 ·obtain rfl:a=15:=by omega
  obtain rfl:n=0:=by omega
  exact zqE h
end Go.Proofs.YtfpgjkbjbbgciaaGreatDoor
namespace Go.Proofs.YtfpgjkbjbbgciaaGreatDoor
open Go.RowKit Sp Go.Lib
theorem ztw{w:World}{S o H cap m p0 pl:Nat}(hc:w.cell? ⟨S,o,none⟩=some (.slice (some ⟨H,0,none⟩) (m+1) cap))(hz:w.frozen? ⟨S,o,none⟩=false)(hSH:¬S=H)(hm:m≤100000)(hcap:m+1≤cap)(_hcm:cap≤maxLen)(c0:w.cell? ⟨H,0,none⟩=some (.pointer (some ⟨p0,0,none⟩)))(cl:w.cell? ⟨H,m,none⟩=some (.pointer (some ⟨pl,0,none⟩)))(fz:∀ j,w.frozen? ⟨H,j,none⟩=false)(_hS:S<w.heap.size)
  (Q:World→Prop)
  (hsink:∀ W,Below w.heap.size (((w.setCell ⟨H,0,none⟩ (.pointer (some ⟨pl,0,none⟩))).setCell ⟨H,m,none⟩ (.pointer none)).setCell ⟨S,o,none⟩ (.slice (some ⟨H,0,none⟩) m cap)) W→Calls Tryz.prog 154 #[.slice (some ⟨H,0,none⟩) m cap,.int .i64 0] W fun e w'=>e=.returned (.tuple #[])∧Q w') :
  Calls Tryz.prog 139 #[.pointer (some ⟨S,o,none⟩)] w fun e w'=>e=.returned (.pointer (some ⟨p0,0,none⟩))∧Q w':=by
 unfold maxLen at _hcm
 have f0:=fz 0
 have fm:=fz m
 have hHS:¬H=S:=fun e=>hSH e.symm
 have m0:(0:Int)≤(m:Int):=by omega
 have l0:(w.setCell ⟨H,0,none⟩ (.pointer (some ⟨pl,0,none⟩))).cell? ⟨H,m,none⟩=some (.pointer (some ⟨pl,0,none⟩)):=by
  rw [zan w H 0 m _ _ c0]
  split
  ·rfl
  ·exact cl
 have l1:(w.setCell ⟨H,0,none⟩ (.pointer (some ⟨pl,0,none⟩))).frozen? ⟨H,m,none⟩=false:=zcZ.trans fm
 have hc1:∀ j,j<1→((w.setCell ⟨H,0,none⟩ (.pointer (some ⟨pl,0,none⟩))).drew.cell? ⟨H,m+j,none⟩).isSome=true:=fun j hj=>by
  have e:j=0:=by omega
  rw [e,Nat.add_zero]
  show((w.setCell ⟨H,0,none⟩ (.pointer (some ⟨pl,0,none⟩))).cell? ⟨H,m,none⟩).isSome=true
  rw [l0]
  rfl
 have hf1:∀ j,j<1→(w.setCell ⟨H,0,none⟩ (.pointer (some ⟨pl,0,none⟩))).drew.frozen? ⟨H,m+j,none⟩=false:=fun j hj=>by
  have e:j=0:=by omega
  rw [e,Nat.add_zero]
  exact l1
 have hzv:∀ w,(zeroValue 197).run Tryz.prog w=.ok (.pointer none) w:=fun w=>by kernel_rfl
 have hclr:(Builtin.clear_ #[151] 0 #[.slice (some ⟨H,m,none⟩) 1 (cap-m)]).run Tryz.prog (w.setCell ⟨H,0,none⟩ (.pointer (some ⟨pl,0,none⟩))).drew=.ok (.tuple #[]) ((w.setCell ⟨H,0,none⟩ (.pointer (some ⟨pl,0,none⟩))).drew.setCell ⟨H,m,none⟩ (.pointer none)) :=
  run_clear_slice _ 151 197 0 (.pointer none) Tryz.under151 hzv rfl rfl H m 1 (cap-m) (by omega) hc1 hf1
 clear hc1 hf1 hzv
 go_enter Tryz.func139,Tryz.ntmps139
 go_wp2
 go_region_held3 (fun W=>W.cell? ⟨S,o,none⟩=some (.slice (some ⟨H,0,none⟩) (m+1) cap))
  (first|exact hc|go_keep)
  (fail)
 all_goals go_wp2_with(go_at_call 154;(with_reducible refine(hsink _ (Below.refl _ _).drew).mono ?_);rintro e wx ⟨rfl,hQ⟩)
 all_goals go_ret
 all_goals exact⟨rfl,hQ⟩
def zg6(xs:List Wy)(m:Nat):List Wy:=(xs.set 0 (xs.getD m wy0)).take m
theorem zgb{xs:List Wy}{m:Nat}(h:xs.length=m+1):(zg6 xs m).length=m:=by simp [zg6,h]
theorem zoN{xs:List Wy}{m i:Nat}(h:xs.length=m+1)(hi:i<m):(zg6 xs m)[i]?=some (if i=0 then xs.getD m wy0 else xs.getD i wy0):=by
 unfold zg6
 rw [List.getElem?_take_of_lt hi]
 by_cases e:i=0
 ·subst e;rw [if_pos rfl,List.getElem?_set_self (by omega)]
 ·rw [if_neg e,List.getElem?_set_ne (by omega),List.getElem?_eq_getElem (by omega)]
  simp [List.getD,(by omega:i<xs.length)]
theorem zg7{xs:List Wy}{m:Nat}(h:xs.length=m+1):(xs.getD 0 wy0 :: zg6 xs m).Perm xs:=by
 cases xs with
 | nil=>simp at h
 | cons x t =>
  have ht:t.length=m:=by simpa using h
  cases m with
  | zero =>
   have:t=[]:=List.eq_nil_of_length_eq_zero ht
   subst this
   simp [zg6]
  | succ m =>
   have hne:t≠[]:=by intro e;rw [e] at ht;simp at ht
   have e1:(x :: t).getD (m+1) wy0=t.getLast hne:=by
    rw [List.getLast_eq_getElem]
    simp [List.getD,ht]
   have e2:zg6 (x :: t) (m+1)=t.getLast hne :: t.dropLast:=by
    unfold zg6
    rw [e1,List.set_cons_zero,List.take_succ_cons,List.dropLast_eq_take,ht]
    rfl
   rw [e2]
   show(x :: t.getLast hne :: t.dropLast).Perm (x :: t)
   refine List.Perm.cons x ?_
   have e3:t.dropLast++[t.getLast hne]=t:=List.dropLast_concat_getLast hne
   refine List.Perm.trans (List.perm_append_comm (l₁:=[t.getLast hne]) (l₂:=t.dropLast)) ?_
   rw [e3]
theorem zlW{xs:List Wy}{m:Nat}(h:xs.length=m+1):∀ x∈zg6 xs m,x∈xs:=fun _x hx=>(zg7 h).mem_iff.1 (List.mem_cons_of_mem _ hx)
end Go.Proofs.YtfpgjkbjbbgciaaGreatDoor
namespace Go.Proofs.YtfpgjkbjbbgciaaGreatDoor
open Go.RowKit Sp
theorem ztD{w:World}{b:Nat}{bv:Value}{k:Kn}(h:KnM w b bv k)(r:Nat)(hr:r<8)(s:Nat)(hs:s<8)(t:Nat)(ht:t<8)(h0:0≤k.steps)(h1:k.steps≤100000)(n0:0≤k.next)(n1:k.next≤100000):
  Calls Tryz.prog 240 #[.agg #[.int .i64 (r:Int),.int .i64 (s:Int),.int .i64 (t:Int)],.pointer (some ⟨b,0,none⟩)] w (zaZ w b bv ({ k with regs:=updR k.regs r (subR k s t) }.goTo (k.next+1))):=by
 have hlt:=h.lt
 have r0:(0:Int)≤(r:Int):=by omega
 have r1:(r:Int)<8:=by omega
 have s0:(0:Int)≤(s:Int):=by omega
 have s1:(s:Int)<8:=by omega
 have t0:(0:Int)≤(t:Int):=by omega
 have t1:(t:Int)<8:=by omega
 obtain⟨A,hA⟩:∃ A,w.alloc (.cells #[.int .i64 (r:Int),.int .i64 (s:Int),.int .i64 (t:Int)] 172)=A:=⟨_,rfl⟩
 have HB:∀ W,Below A.heap.size A W→KnM W b bv k:=fun W hW=>by subst hA;exact(h.alloc _).below hW (by simp;omega)
 have HF:∀ W,Below A.heap.size A W→(W.cell? ⟨w.heap.size,0,none⟩=some (.int .i64 (r:Int))∧W.cell? ⟨w.heap.size,1,none⟩=some (.int .i64 (s:Int))∧W.cell? ⟨w.heap.size,2,none⟩=some (.int .i64 (t:Int)))∧(W.cell? ⟨b,s*2,none⟩=some (.int .i64 (k.regs s).lo)∧W.cell? ⟨b,s*2+1,none⟩=some (.int .i64 (k.regs s).hi))∧(W.cell? ⟨b,t*2,none⟩=some (.int .i64 (k.regs t).lo)∧W.cell? ⟨b,t*2+1,none⟩=some (.int .i64 (k.regs t).hi)):=fun W hW=>⟨by subst hA;exact⟨za8 hW 0,za8 hW 1,za8 hW 2⟩,(HB W hW).cR s hs,(HB W hW).cR t ht⟩
 go_enter Tryz.func240,Tryz.ntmps240
 go_wp2
 refine zaf 8 (fun W=>Below A.heap.size A W) (Below.refl _ _).drew (by kernel_rfl) (by kernel_rfl) ?_
 simp only [List.take,List.drop]
 repeat(refine zab rfl ?_ (fun W hW=>?_) ?_;rotate_left 1;· (obtain⟨⟨f0,f1,f2⟩,⟨gs,es⟩,⟨gt,et⟩⟩:=HF W hW;go_simp;with_reducible rfl))
 refine zaP rfl 241 #[.agg #[.int .i64 (r:Int),.int .i64 (s:Int),.int .i64 (t:Int)],.pointer (some ⟨b,0,none⟩)] (rv (subR k s t)) (fun W hW=>?_) (fun W hW=>(zvR (HB W hW) r s hs t ht).mono (fun e w' hh=>⟨hh.1,hW.trans (hh.2.mono hW.size)⟩)) ?_
 ·go_simp
 repeat(refine zab rfl ?_ (fun W hW=>?_) ?_;rotate_left 1;· (obtain⟨⟨f0,f1,f2⟩,⟨gs,es⟩,⟨gt,et⟩⟩:=HF W hW;go_simp;with_reducible rfl))
 refine wpQuiet_nil ?_
 intro W hW
 have hK:=HB W hW
 have c0:=(hK.cR r hr).1
 have c1:=(hK.cR r hr).2
 have z0:=hK.fz (r*2)
 have z1:=hK.fz (r*2+1)
 have hKK:=hK.putR r hr (subR k s t)
 go_wp2_with(go_at_call 227;(with_reducible refine(zcq hKK h0 h1 n0 n1).mono ?_);intro e w6 hw6;have hw7:=zeF (hA▸hW) hw6;clear hw6;obtain⟨g,rfl,hg,hc,hk,hgr⟩:=hw7)
 go_ret
 exact⟨g,rfl,hg,hc,hk,hgr⟩
theorem zqH{w:World}{b:Nat}{bv:Value}{k:Kn}(h:KnM w b bv k)(r:Nat)(hr:r<8)(s:Nat)(hs:s<8)(hle:(k.regs s).lo≤(k.regs s).hi)(q0:0≤(k.regs s).lo)(q1:(k.regs s).hi≤15)(h0:0≤k.steps)(h1:k.steps≤100000)(n0:0≤k.next)(n1:k.next≤100000):
  Calls Tryz.prog 252 #[.agg #[.int .i64 (r:Int),.int .i64 (s:Int)],.pointer (some ⟨b,0,none⟩)] w (zaZ w b bv ({ k with regs:=updR k.regs r (zct k.cells (k.regs s).lo.toNat ((k.regs s).hi.toNat-(k.regs s).lo.toNat)) }.goTo (k.next+1))):=by
 have hlt:=h.lt
 have r0:(0:Int)≤(r:Int):=by omega
 have r1:(r:Int)<8:=by omega
 have s0:(0:Int)≤(s:Int):=by omega
 have s1:(s:Int)<8:=by omega
 obtain⟨A,hA⟩:∃ A,w.alloc (.cells #[.int .i64 (r:Int),.int .i64 (s:Int)] 176)=A:=⟨_,rfl⟩
 have HB:∀ W,Below A.heap.size A W→KnM W b bv k:=fun W hW=>by subst hA;exact(h.alloc _).below hW (by simp;omega)
 have HF:∀ W,Below A.heap.size A W→(W.cell? ⟨w.heap.size,0,none⟩=some (.int .i64 (r:Int))∧W.cell? ⟨w.heap.size,1,none⟩=some (.int .i64 (s:Int)))∧(W.cell? ⟨b,s*2,none⟩=some (.int .i64 (k.regs s).lo)∧W.cell? ⟨b,s*2+1,none⟩=some (.int .i64 (k.regs s).hi)):=fun W hW=>⟨by subst hA;exact⟨za8 hW 0,za8 hW 1⟩,(HB W hW).cR s hs⟩
 go_enter Tryz.func252,Tryz.ntmps252
 go_wp2
 refine zaf 14 (fun W=>Below A.heap.size A W) (Below.refl _ _).drew (by kernel_rfl) (by kernel_rfl) ?_
 simp only [List.take,List.drop]
 repeat(refine zab rfl ?_ (fun W hW=>?_) ?_;rotate_left 1;· (obtain⟨⟨f0,f1⟩,⟨gs,es⟩⟩:=HF W hW;go_simp;with_reducible rfl))
 refine zaP rfl 254 #[.pointer (some ⟨b,0,none⟩),rv (k.regs s)] (rv (zct k.cells (k.regs s).lo.toNat ((k.regs s).hi.toNat-(k.regs s).lo.toNat))) (fun W hW=>?_) (fun W hW=>(ztB (HB W hW) (k.regs s) hle q0 q1).mono (fun e w' hh=>⟨hh.1,hW.trans (hh.2.mono hW.size)⟩)) ?_
 ·go_simp
 repeat(refine zab rfl ?_ (fun W hW=>?_) ?_;rotate_left 1;· (obtain⟨⟨f0,f1⟩,⟨gs,es⟩⟩:=HF W hW;go_simp;with_reducible rfl))
 refine wpQuiet_nil ?_
 intro W hW
 have hK:=HB W hW
 have c0:=(hK.cR r hr).1
 have c1:=(hK.cR r hr).2
 have z0:=hK.fz (r*2)
 have z1:=hK.fz (r*2+1)
 have hKK:=hK.putR r hr (zct k.cells (k.regs s).lo.toNat ((k.regs s).hi.toNat-(k.regs s).lo.toNat))
 go_wp2_with(go_at_call 227;(with_reducible refine(zcq hKK h0 h1 n0 n1).mono ?_);intro e w6 hw6;have hw7:=zeF (hA▸hW) hw6;clear hw6;obtain⟨g,rfl,hg,hc,hk,hgr⟩:=hw7)
 go_ret
 exact⟨g,rfl,hg,hc,hk,hgr⟩
theorem zn3{w:World}{b:Nat}{bv:Value}{k:Kn}(h:KnM w b bv k)(r:Nat)(hr:r<8)(s:Nat)(hs:s<8)(hle:(k.regs r).lo≤(k.regs r).hi)(q0:0≤(k.regs r).lo)(q1:(k.regs r).hi≤15)(h0:0≤k.steps)(h1:k.steps≤100000)(n0:0≤k.next)(n1:k.next≤100000):
  Calls Tryz.prog 257 #[.agg #[.int .i64 (r:Int),.int .i64 (s:Int)],.pointer (some ⟨b,0,none⟩)] w (zaZ w b bv ({ k with cells:=zaL k.cells (k.regs r).lo.toNat (k.regs r).hi.toNat (k.regs s) }.goTo (k.next+1))):=by
 have hlt:=h.lt
 have r0:(0:Int)≤(r:Int):=by omega
 have r1:(r:Int)<8:=by omega
 have s0:(0:Int)≤(s:Int):=by omega
 have s1:(s:Int)<8:=by omega
 obtain⟨A,hA⟩:∃ A,w.alloc (.cells #[.int .i64 (r:Int),.int .i64 (s:Int)] 178)=A:=⟨_,rfl⟩
 have HB:∀ W,Below A.heap.size A W→KnM W b bv k:=fun W hW=>by subst hA;exact(h.alloc _).below hW (by simp;omega)
 have hL:∀ W,Below A.heap.size A W→Below w.heap.size w W:=fun W hW=>by subst hA;exact box1.trans (hW.mono (by simp))
 have HF:∀ W,Below A.heap.size A W→(W.cell? ⟨w.heap.size,0,none⟩=some (.int .i64 (r:Int))∧W.cell? ⟨w.heap.size,1,none⟩=some (.int .i64 (s:Int)))∧(W.cell? ⟨b,r*2,none⟩=some (.int .i64 (k.regs r).lo)∧W.cell? ⟨b,r*2+1,none⟩=some (.int .i64 (k.regs r).hi))∧(W.cell? ⟨b,s*2,none⟩=some (.int .i64 (k.regs s).lo)∧W.cell? ⟨b,s*2+1,none⟩=some (.int .i64 (k.regs s).hi)):=fun W hW =>
  ⟨by subst hA;exact⟨za8 hW 0,za8 hW 1⟩,(HB W hW).cR r hr,(HB W hW).cR s hs⟩
 go_enter Tryz.func257,Tryz.ntmps257
 go_wp2
 refine zaf 15 (fun W=>Below A.heap.size A W) (Below.refl _ _).drew (by kernel_rfl) (by kernel_rfl) ?_
 simp only [List.take,List.drop]
 repeat(refine zab rfl ?_ (fun W hW=>?_) ?_;rotate_left 1;· (obtain⟨⟨f0,f1⟩,⟨f2,f3⟩,f4,f5⟩:=HF W hW;go_simp;with_reducible rfl))
 refine wpQuiet_nil ?_
 intro W hW
 have hK:=HB W hW
 have hW2:=hL W hW
 go_wp2_with(first|(go_at_call 258;(with_reducible refine(zqF hK (k.regs r) (k.regs s) hle q0 q1).mono ?_);rintro e w5 ⟨rfl,hK5,hg5⟩)|(go_at_call 227;(with_reducible refine(zcq hK5 h0 h1 n0 n1).mono ?_);intro e w6 hw6;have hw7:=zdl (zag (zaQ hW2) hg5) hw6;clear hw6;obtain⟨g,rfl,hg,hc,hk,hgr⟩:=hw7))
 go_ret
 exact⟨g,rfl,hg,hc,hk,hgr⟩
def zvF(w:World)(S o B H cap:Nat)(xs:List Wy):Ending→World→Prop:=fun e w'=>e=.returned (.pointer (some ⟨(xs.getD 0 wy0).b,0,none⟩))∧∃ ys:List Wy,(xs.getD 0 wy0 :: ys).Perm xs∧w'.cell? ⟨S,o,none⟩=some (.slice (some ⟨H,0,none⟩) ys.length cap)∧HeapM w' B (.slice (some ⟨H,0,none⟩) ys.length cap) ys∧HpAll (stp ys) ys.length∧WyM w' (xs.getD 0 wy0)∧Kept2 w w' S o (some H)
theorem ztx{w:World}{S o B H cap:Nat}{xs:List Wy}(hc:w.cell? ⟨S,o,none⟩=some (.slice (some ⟨H,0,none⟩) xs.length cap))(hz:w.frozen? ⟨S,o,none⟩=false)(M:HeapM w B (.slice (some ⟨H,0,none⟩) xs.length cap) xs)(hA:HpAll (stp xs) xs.length)(hne:0<xs.length)(hlen:xs.length≤100000)(hSH:¬S=H)(hS:∀ y∈xs,¬y.b=S∧∀ a,y.ao=some a→¬a.block=S):
  Calls Tryz.prog 139 #[.pointer (some ⟨S,o,none⟩)] w (zvF w S o B H cap xs):=by
 obtain⟨P,p1,p2,p3⟩:=M.hp
 obtain⟨m,hm⟩:∃ m,xs.length=m+1:=⟨xs.length-1,by omega⟩
 have hSl:S<w.heap.size:=World.block_lt_of_cell? w _ hc
 have c0:=(P.at' (i:=0) (by omega)).1
 have cl:=(P.at' (i:=m) (by omega)).1
 obtain⟨W1,hW1⟩:∃ W1,W1=(w.setCell ⟨H,0,none⟩ (.pointer (some ⟨(xs.getD m wy0).b,0,none⟩))).setCell ⟨H,m,none⟩ (.pointer none):=⟨_,rfl⟩
 obtain⟨W2,hW2⟩:∃ W2,W2=W1.setCell ⟨S,o,none⟩ (.slice (some ⟨H,0,none⟩) m cap):=⟨_,rfl⟩
 have hHS:¬H=S:=fun e=>hSH e.symm
 have b1:∀ q,¬q=H→W1.heap[q]?=w.heap[q]?:=fun q hq=>by rw [hW1];exact(Below.heap_setCell _ _ _ q hq).trans (Below.heap_setCell _ _ _ q hq)
 have b2:∀ q,¬q=S→W2.heap[q]?=W1.heap[q]?:=fun q hq=>by rw [hW2];exact Below.heap_setCell _ _ _ q hq
 have s1:W1.heap.size=w.heap.size:=by rw [hW1,World.size_setCell,World.size_setCell]
 have s2:W2.heap.size=w.heap.size:=by rw [hW2,World.size_setCell,s1]
 have l0:(w.setCell ⟨H,0,none⟩ (.pointer (some ⟨(xs.getD m wy0).b,0,none⟩))).cell? ⟨H,m,none⟩=some (.pointer (some ⟨(xs.getD m wy0).b,0,none⟩)):=by
  rw [zan w H 0 m _ _ c0]
  split
  ·rfl
  ·exact cl
 have cS1:W1.cell? ⟨S,o,none⟩=some (.slice (some ⟨H,0,none⟩) xs.length cap):=(World.cell?_of_block (a:=⟨S,o,none⟩) (b1 S hSH)).trans hc
 have cS2:W2.cell? ⟨S,o,none⟩=some (.slice (some ⟨H,0,none⟩) m cap):=by rw [hW2];exact World.cell?_setCell_same _ _ _ cS1
 have wyk:∀ x∈xs,WyM W2 x:=fun x hx=>by
  obtain⟨f1,f2⟩:=P.far x hx
  obtain⟨f3,f4⟩:=hS x hx
  rw [hW2,hW1]
  exact(((P.wy x hx).other f1 f2).other f1 f2).other f3 f4
 have PX:HpM W2 H cap (zg6 xs m):=by
  refine⟨fun i x hx=>?_,fun x hx=>wyk x (zlW hm x hx),by rw [s2];exact P.lt,fun x hx=>P.far x (zlW hm x hx),fun j=>?_,?_⟩
  ·have hi:i<m:=by have:=(List.getElem?_eq_some_iff.1 hx).1;rw [zgb hm] at this;exact this
   rw [zoN hm hi] at hx
   rw [World.cell?_of_block (a:=⟨H,i,none⟩) (b2 H hHS),hW1,zan _ H m i _ _ l0,if_neg (by omega),zan w H 0 i _ _ c0]
   cases hx
   by_cases e:i=0
   ·rw [if_pos e,if_pos e]
   ·rw [if_neg e,if_neg e];exact(P.at' (i:=i) (by omega)).1
  ·rw [World.frozen?_of_block (a:=⟨H,j,none⟩) (b2 H hHS),hW1,zcZ,zcZ];exact P.fz j
  ·obtain⟨cur,h1,h2⟩:=P.shape
   refine⟨_,(b2 H hHS).trans (by rw [hW1];exact heap_setCell_same _ H m _ 197 _ (heap_setCell_same _ H 0 _ 197 _ h1)),by simpa using h2⟩
 have hK2:∀ W',W2.grownBy W' (some H)→Kept2 w W' S o (some H):=fun W' hg=>by
  have hbS:W'.heap[S]?=W2.heap[S]?:=hg.block S (by omega) (fun e=>hSH (by cases e;rfl))
  refine⟨hg.os.trans (by rw [hW2,hW1];rfl),hg.tape.trans (by rw [hW2,hW1];rfl),hg.output.trans (by rw [hW2,hW1];rfl),by rw [←s2];exact hg.size,fun q hq h1 h2=>?_,fun j hj=>?_,fun j=>?_⟩
  ·exact(hg.block q (by omega) h2).trans ((b2 q h1).trans (b1 q (fun e=>h2 (by rw [e]))))
  ·rw [World.cell?_of_block (w:=W2) (a:=⟨S,j,none⟩) hbS,hW2,zan _ S o j _ _ cS1,if_neg hj]
   exact World.cell?_of_block (a:=⟨S,j,none⟩) (b1 S hSH)
  ·rw [World.frozen?_of_block (w:=W2) (a:=⟨S,j,none⟩) hbS,hW2,zcZ]
   exact World.frozen?_of_block (a:=⟨S,j,none⟩) (b1 S hSH)
 have x0in:xs.getD 0 wy0∈xs:=(zg7 hm).mem_iff.1 List.mem_cons_self
 have hfin:∀ W' ys,W2.grownBy W' (some H)→ys.Perm (zg6 xs m)→HpM W' H cap ys→HpAll (stp ys) ys.length→∃ ys:List Wy,(xs.getD 0 wy0 :: ys).Perm xs∧W'.cell? ⟨S,o,none⟩=some (.slice (some ⟨H,0,none⟩) ys.length cap)∧HeapM W' B (.slice (some ⟨H,0,none⟩) ys.length cap) ys∧HpAll (stp ys) ys.length∧WyM W' (xs.getD 0 wy0)∧Kept2 w W' S o (some H):=fun W' ys hg hp hM hA2=>by
  have hyl:ys.length=m:=by rw [hp.length_eq,zgb hm]
  refine⟨ys,(List.Perm.cons _ hp).trans (zg7 hm),?_,hM.heap (by omega) p2 p3,hA2,(wyk _ x0in).grown hg (fun g e=>by cases e;exact P.far _ x0in),hK2 W' hg⟩
  rw [World.cell?_of_block (w:=W2) (a:=⟨S,o,none⟩) (hg.block S (by omega) (fun e=>hSH (by cases e;rfl))),cS2,hyl]
 rw [hm] at hc p1
 refine(ztw hc hz hSH (by omega) p1 p2 c0 cl P.fz hSl (fun W'=>∃ ys:List Wy,(xs.getD 0 wy0 :: ys).Perm xs∧W'.cell? ⟨S,o,none⟩=some (.slice (some ⟨H,0,none⟩) ys.length cap)∧HeapM W' B (.slice (some ⟨H,0,none⟩) ys.length cap) ys∧HpAll (stp ys) ys.length∧WyM W' (xs.getD 0 wy0)∧Kept2 w W' S o (some H)) (fun W hW=>?_)).mono fun e w' hh=>hh
 rw [←hW1,←hW2] at hW
 have hW':Below W2.heap.size W2 W:=by rw [s2];exact hW
 by_cases h0:m=0
 ·subst h0
  refine zq2.mono ?_
  rintro e w' ⟨rfl,hb⟩
  have hb2:Below W2.heap.size W2 w':=hW'.trans (hb.mono hW'.size)
  exact⟨rfl,hfin w' (zg6 xs 0) (zaQ hb2) (List.Perm.refl _) (PX.below hb2) (fun i hi hn=>by rw [zgb hm] at hn;omega)⟩
 ·have hR:SinkI (stp (zg6 xs m)) m 0:=SinkI.head (m:=m) (n:=xs.length) hA (by omega) (fun i hi hn=>by
   unfold stp
   have e:=zoN hm (i:=i) hn
   rw [if_neg (by omega)] at e
   simp only [List.getD,e]
   rfl)
  refine(zvD (cap:=cap) (PX.below hW') (zgb hm) 0 (by omega) (by omega) hR).mono ?_
  rintro e w' ⟨rfl,ys,hp,hM,hA2,hg⟩
  exact⟨rfl,hfin w' ys (zag (zaQ hW') hg) hp hM hA2⟩
theorem zt7{w:World}{b:Nat}{bv:Value}{k:Kn}(h:KnM w b bv k)(r:Nat)(hr:r<8)(s:Nat)(hs:s<8)(t:Nat)(ht:t<8)(h0:0≤k.steps)(h1:k.steps≤100000)(n0:0≤k.next)(n1:k.next≤100000):
  Calls Tryz.prog 233 #[.agg #[.int .i64 (r:Int),.int .i64 (s:Int),.int .i64 (t:Int)],.pointer (some ⟨b,0,none⟩)] w (zaZ w b bv ({ k with regs:=updR k.regs r ((k.regs s).plus (k.regs t)) }.goTo (k.next+1))):=by
 have hlt:=h.lt
 have r0:(0:Int)≤(r:Int):=by omega
 have r1:(r:Int)<8:=by omega
 have s0:(0:Int)≤(s:Int):=by omega
 have s1:(s:Int)<8:=by omega
 have t0:(0:Int)≤(t:Int):=by omega
 have t1:(t:Int)<8:=by omega
 obtain⟨A,hA⟩:∃ A,w.alloc (.cells #[.int .i64 (r:Int),.int .i64 (s:Int),.int .i64 (t:Int)] 171)=A:=⟨_,rfl⟩
 have HB:∀ W,Below A.heap.size A W→KnM W b bv k:=fun W hW=>by subst hA;exact(h.alloc _).below hW (by simp;omega)
 have HF:∀ W,Below A.heap.size A W→(W.cell? ⟨w.heap.size,0,none⟩=some (.int .i64 (r:Int))∧W.cell? ⟨w.heap.size,1,none⟩=some (.int .i64 (s:Int))∧W.cell? ⟨w.heap.size,2,none⟩=some (.int .i64 (t:Int)))∧(W.cell? ⟨b,s*2,none⟩=some (.int .i64 (k.regs s).lo)∧W.cell? ⟨b,s*2+1,none⟩=some (.int .i64 (k.regs s).hi))∧(W.cell? ⟨b,t*2,none⟩=some (.int .i64 (k.regs t).lo)∧W.cell? ⟨b,t*2+1,none⟩=some (.int .i64 (k.regs t).hi)):=fun W hW=>⟨by subst hA;exact⟨za8 hW 0,za8 hW 1,za8 hW 2⟩,(HB W hW).cR s hs,(HB W hW).cR t ht⟩
 go_enter Tryz.func233,Tryz.ntmps233
 go_wp2
 refine zaf 20 (fun W=>Below A.heap.size A W) (Below.refl _ _).drew (by kernel_rfl) (by kernel_rfl) ?_
 simp only [List.take,List.drop]
 repeat(refine zab rfl ?_ (fun W hW=>?_) ?_;rotate_left 1;· (obtain⟨⟨f0,f1,f2⟩,⟨gs,es⟩,⟨gt,et⟩⟩:=HF W hW;go_simp;with_reducible rfl))
 refine zaP rfl 234 #[rv (k.regs s),rv (k.regs t)] (rv ((k.regs s).plus (k.regs t))) (fun W hW=>?_) (fun W hW=>(zoF _ _ W).mono (fun e w' hh=>⟨hh.1,hW.trans (hh.2.mono hW.size)⟩)) ?_
 ·go_simp
 repeat(refine zab rfl ?_ (fun W hW=>?_) ?_;rotate_left 1;· (obtain⟨⟨f0,f1,f2⟩,⟨gs,es⟩,⟨gt,et⟩⟩:=HF W hW;go_simp;with_reducible rfl))
 refine wpQuiet_nil ?_
 intro W hW
 have hK:=HB W hW
 have c0:=(hK.cR r hr).1
 have c1:=(hK.cR r hr).2
 have z0:=hK.fz (r*2)
 have z1:=hK.fz (r*2+1)
 have hKK:=hK.putR r hr ((k.regs s).plus (k.regs t))
 go_wp2_with(go_at_call 227;(with_reducible refine(zcq hKK h0 h1 n0 n1).mono ?_);intro e w6 hw6;have hw7:=zeF (hA▸hW) hw6;clear hw6;obtain⟨g,rfl,hg,hc,hk,hgr⟩:=hw7)
 go_ret
 exact⟨g,rfl,hg,hc,hk,hgr⟩
theorem zt8{w:World}{b:Nat}{bv:Value}{k:Kn}(h:KnM w b bv k)(K:KnOk k)(r:Nat)(hr:r<8)(s:Nat)(hs:s<8)(t:Nat)(ht:t<8)(h0:0≤k.steps)(h1:k.steps≤100000)(n0:0≤k.next)(n1:k.next≤100000):
  Calls Tryz.prog 244 #[.agg #[.int .i64 (r:Int),.int .i64 (s:Int),.int .i64 (t:Int)],.pointer (some ⟨b,0,none⟩)] w (zaZ w b bv ({ k with regs:=updR k.regs r ((k.regs s).times (k.regs t)) }.goTo (k.next+1))):=by
 have hlt:=h.lt
 have r0:(0:Int)≤(r:Int):=by omega
 have r1:(r:Int)<8:=by omega
 have s0:(0:Int)≤(s:Int):=by omega
 have s1:(s:Int)<8:=by omega
 have t0:(0:Int)≤(t:Int):=by omega
 have t1:(t:Int)<8:=by omega
 obtain⟨A,hA⟩:∃ A,w.alloc (.cells #[.int .i64 (r:Int),.int .i64 (s:Int),.int .i64 (t:Int)] 173)=A:=⟨_,rfl⟩
 have HB:∀ W,Below A.heap.size A W→KnM W b bv k:=fun W hW=>by subst hA;exact(h.alloc _).below hW (by simp;omega)
 have HF:∀ W,Below A.heap.size A W→(W.cell? ⟨w.heap.size,0,none⟩=some (.int .i64 (r:Int))∧W.cell? ⟨w.heap.size,1,none⟩=some (.int .i64 (s:Int))∧W.cell? ⟨w.heap.size,2,none⟩=some (.int .i64 (t:Int)))∧(W.cell? ⟨b,s*2,none⟩=some (.int .i64 (k.regs s).lo)∧W.cell? ⟨b,s*2+1,none⟩=some (.int .i64 (k.regs s).hi))∧(W.cell? ⟨b,t*2,none⟩=some (.int .i64 (k.regs t).lo)∧W.cell? ⟨b,t*2+1,none⟩=some (.int .i64 (k.regs t).hi)):=fun W hW=>⟨by subst hA;exact⟨za8 hW 0,za8 hW 1,za8 hW 2⟩,(HB W hW).cR s hs,(HB W hW).cR t ht⟩
 go_enter Tryz.func244,Tryz.ntmps244
 go_wp2
 refine zaf 20 (fun W=>Below A.heap.size A W) (Below.refl _ _).drew (by kernel_rfl) (by kernel_rfl) ?_
 simp only [List.take,List.drop]
 repeat(refine zab rfl ?_ (fun W hW=>?_) ?_;rotate_left 1;· (obtain⟨⟨f0,f1,f2⟩,⟨gs,es⟩,⟨gt,et⟩⟩:=HF W hW;go_simp;with_reducible rfl))
 refine zaP rfl 245 #[rv (k.regs s),rv (k.regs t)] (rv ((k.regs s).times (k.regs t))) (fun W hW=>?_) (fun W hW=>(zt6 _ _ W (K.regs s hs) (K.regs t ht)).mono (fun e w' hh=>⟨hh.1,hW.trans (hh.2.mono hW.size)⟩)) ?_
 ·go_simp
 repeat(refine zab rfl ?_ (fun W hW=>?_) ?_;rotate_left 1;· (obtain⟨⟨f0,f1,f2⟩,⟨gs,es⟩,⟨gt,et⟩⟩:=HF W hW;go_simp;with_reducible rfl))
 refine wpQuiet_nil ?_
 intro W hW
 have hK:=HB W hW
 have c0:=(hK.cR r hr).1
 have c1:=(hK.cR r hr).2
 have z0:=hK.fz (r*2)
 have z1:=hK.fz (r*2+1)
 have hKK:=hK.putR r hr ((k.regs s).times (k.regs t))
 go_wp2_with(go_at_call 227;(with_reducible refine(zcq hKK h0 h1 n0 n1).mono ?_);intro e w6 hw6;have hw7:=zeF (hA▸hW) hw6;clear hw6;obtain⟨g,rfl,hg,hc,hk,hgr⟩:=hw7)
 go_ret
 exact⟨g,rfl,hg,hc,hk,hgr⟩
theorem zt9{w:World}{b:Nat}{bv:Value}{k:Kn}(h:KnM w b bv k)(r:Nat)(hr:r<8)(n:Int)(h0:0≤k.steps)(h1:k.steps≤100000)(n0:0≤k.next)(n1:k.next≤100000):
  Calls Tryz.prog 250 #[.agg #[.int .i64 (r:Int),.int .i64 n],.pointer (some ⟨b,0,none⟩)] w (zaZ w b bv ({ k with regs:=updR k.regs r ((k.regs r).plus (only n)) }.goTo (k.next+1))):=by
 have hlt:=h.lt
 have r0:(0:Int)≤(r:Int):=by omega
 have r1:(r:Int)<8:=by omega
 obtain⟨A,hA⟩:∃ A,w.alloc (.cells #[.int .i64 (r:Int),.int .i64 n] 174)=A:=⟨_,rfl⟩
 have HB:∀ W,Below A.heap.size A W→KnM W b bv k:=fun W hW=>by subst hA;exact(h.alloc _).below hW (by simp;omega)
 have HF:∀ W,Below A.heap.size A W→(W.cell? ⟨w.heap.size,0,none⟩=some (.int .i64 (r:Int))∧W.cell? ⟨w.heap.size,1,none⟩=some (.int .i64 n))∧(W.cell? ⟨b,r*2,none⟩=some (.int .i64 (k.regs r).lo)∧W.cell? ⟨b,r*2+1,none⟩=some (.int .i64 (k.regs r).hi)):=fun W hW=>⟨by subst hA;exact⟨za8 hW 0,za8 hW 1⟩,(HB W hW).cR r hr⟩
 go_enter Tryz.func250,Tryz.ntmps250
 go_wp2
 refine zaf 16 (fun W=>Below A.heap.size A W) (Below.refl _ _).drew (by kernel_rfl) (by kernel_rfl) ?_
 simp only [List.take,List.drop]
 repeat(refine zab rfl ?_ (fun W hW=>?_) ?_;rotate_left 1;· (obtain⟨⟨f0,f1⟩,⟨gr,er⟩⟩:=HF W hW;go_simp;with_reducible rfl))
 refine zaP rfl 226 #[.int .i64 n] (rv (only n)) (fun W hW=>?_) (fun W hW=>(zhl n W).mono (fun e w' hh=>⟨hh.1,hW.trans (hh.2.mono hW.size)⟩)) ?_
 ·go_simp
 repeat(refine zab rfl ?_ (fun W hW=>?_) ?_;rotate_left 1;· (obtain⟨⟨f0,f1⟩,⟨gr,er⟩⟩:=HF W hW;go_simp;with_reducible rfl))
 refine zaP rfl 234 #[rv (k.regs r),rv (only n)] (rv ((k.regs r).plus (only n))) (fun W hW=>?_) (fun W hW=>(zoF _ _ W).mono (fun e w' hh=>⟨hh.1,hW.trans (hh.2.mono hW.size)⟩)) ?_
 ·go_simp
 repeat(refine zab rfl ?_ (fun W hW=>?_) ?_;rotate_left 1;· (obtain⟨⟨f0,f1⟩,⟨gr,er⟩⟩:=HF W hW;go_simp;with_reducible rfl))
 refine wpQuiet_nil ?_
 intro W hW
 have hK:=HB W hW
 have c0:=(hK.cR r hr).1
 have c1:=(hK.cR r hr).2
 have z0:=hK.fz (r*2)
 have z1:=hK.fz (r*2+1)
 have hKK:=hK.putR r hr ((k.regs r).plus (only n))
 go_wp2_with(go_at_call 227;(with_reducible refine(zcq hKK h0 h1 n0 n1).mono ?_);intro e w6 hw6;have hw7:=zeF (hA▸hW) hw6;clear hw6;obtain⟨g,rfl,hg,hc,hk,hgr⟩:=hw7)
 go_ret
 exact⟨g,rfl,hg,hc,hk,hgr⟩
theorem zqD{w:World}{b:Nat}{bv:Value}{k:Kn}(h:KnM w b bv k)(r:Nat)(hr:r<8)(h0:0≤k.steps)(h1:k.steps≤100000)(n0:0≤k.next)(n1:k.next≤100000):
  Calls Tryz.prog 260 #[.agg #[.int .i64 (r:Int)],.pointer (some ⟨b,0,none⟩)] w (zaZ w b bv ({ k with regs:=updR k.regs r (anyR) }.goTo (k.next+1))):=by
 have hlt:=h.lt
 have r0:(0:Int)≤(r:Int):=by omega
 have r1:(r:Int)<8:=by omega
 obtain⟨A,hA⟩:∃ A,w.alloc (.cells #[.int .i64 (r:Int)] 180)=A:=⟨_,rfl⟩
 have HB:∀ W,Below A.heap.size A W→KnM W b bv k:=fun W hW=>by subst hA;exact(h.alloc _).below hW (by simp;omega)
 have HF:∀ W,Below A.heap.size A W→(W.cell? ⟨w.heap.size,0,none⟩=some (.int .i64 (r:Int))):=fun W hW=>(by subst hA;exact za8 hW 0)
 go_enter Tryz.func260,Tryz.ntmps260
 go_wp2
 refine zaf 6 (fun W=>Below A.heap.size A W) (Below.refl _ _).drew (by kernel_rfl) (by kernel_rfl) ?_
 simp only [List.take,List.drop]
 repeat(refine zab rfl ?_ (fun W hW=>?_) ?_;rotate_left 1;· (obtain f0:=HF W hW;go_simp;with_reducible rfl))
 refine zaP rfl 238 #[] (rv anyR) (fun W hW=>?_) (fun W hW=>(zif W).mono (fun e w' hh=>⟨hh.1,hW.trans (hh.2.mono hW.size)⟩)) ?_
 ·go_simp
 repeat(refine zab rfl ?_ (fun W hW=>?_) ?_;rotate_left 1;· (obtain f0:=HF W hW;go_simp;with_reducible rfl))
 refine wpQuiet_nil ?_
 intro W hW
 have hK:=HB W hW
 have c0:=(hK.cR r hr).1
 have c1:=(hK.cR r hr).2
 have z0:=hK.fz (r*2)
 have z1:=hK.fz (r*2+1)
 have hKK:=hK.putR r hr (anyR)
 go_wp2_with(go_at_call 227;(with_reducible refine(zcq hKK h0 h1 n0 n1).mono ?_);intro e w6 hw6;have hw7:=zeF (hA▸hW) hw6;clear hw6;obtain⟨g,rfl,hg,hc,hk,hgr⟩:=hw7)
 go_ret
 exact⟨g,rfl,hg,hc,hk,hgr⟩
theorem ztA{w:World}{b:Nat}{bv:Value}{k:Kn}(h:KnM w b bv k)(r:Nat)(hr:r<8)(s:Nat)(hs:s<8)(h0:0≤k.steps)(h1:k.steps≤100000)(n0:0≤k.next)(n1:k.next≤100000):
  Calls Tryz.prog 231 #[.agg #[.int .i64 (r:Int),.int .i64 (s:Int)],.pointer (some ⟨b,0,none⟩)] w (zaZ w b bv ({ k with regs:=updR k.regs r (k.regs s) }.goTo (k.next+1))):=by
 have hlt:=h.lt
 have r0:(0:Int)≤(r:Int):=by omega
 have r1:(r:Int)<8:=by omega
 have s0:(0:Int)≤(s:Int):=by omega
 have s1:(s:Int)<8:=by omega
 obtain⟨A,hA⟩:∃ A,w.alloc (.cells #[.int .i64 (r:Int),.int .i64 (s:Int)] 169)=A:=⟨_,rfl⟩
 have HB:∀ W,Below A.heap.size A W→KnM W b bv k:=fun W hW=>by subst hA;exact(h.alloc _).below hW (by simp;omega)
 have HF:∀ W,Below A.heap.size A W→(W.cell? ⟨w.heap.size,0,none⟩=some (.int .i64 (r:Int))∧W.cell? ⟨w.heap.size,1,none⟩=some (.int .i64 (s:Int)))∧(W.cell? ⟨b,s*2,none⟩=some (.int .i64 (k.regs s).lo)∧W.cell? ⟨b,s*2+1,none⟩=some (.int .i64 (k.regs s).hi)):=fun W hW=>⟨by subst hA;exact⟨za8 hW 0,za8 hW 1⟩,(HB W hW).cR s hs⟩
 go_enter Tryz.func231,Tryz.ntmps231
 go_wp2
 refine zaf 12 (fun W=>Below A.heap.size A W) (Below.refl _ _).drew (by kernel_rfl) (by kernel_rfl) ?_
 simp only [List.take,List.drop]
 repeat(refine zab rfl ?_ (fun W hW=>?_) ?_;rotate_left 1;· (obtain⟨⟨f0,f1⟩,⟨gs,es⟩⟩:=HF W hW;go_simp;with_reducible rfl))
 refine wpQuiet_nil ?_
 intro W hW
 have hK:=HB W hW
 have c0:=(hK.cR r hr).1
 have c1:=(hK.cR r hr).2
 have z0:=hK.fz (r*2)
 have z1:=hK.fz (r*2+1)
 have hKK:=hK.putR r hr (k.regs s)
 go_wp2_with(go_at_call 227;(with_reducible refine(zcq hKK h0 h1 n0 n1).mono ?_);intro e w6 hw6;have hw7:=zeF (hA▸hW) hw6;clear hw6;obtain⟨g,rfl,hg,hc,hk,hgr⟩:=hw7)
 go_ret
 exact⟨g,rfl,hg,hc,hk,hgr⟩
end Go.Proofs.YtfpgjkbjbbgciaaGreatDoor
