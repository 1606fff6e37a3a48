import Derived.Test.YtfpgjkbjbbgciaaGreatDoorMj29
set_option maxRecDepth 100000
set_option maxHeartbeats 8000000
namespace Go.Proofs.YtfpgjkbjbbgciaaGreatDoor
open Go.RowKit Sp
theorem zmr(w:World)(cs:Array Value)(t:TypeId)(b c:Obj)(j:Nat):(((w.alloc (.cells cs t)).alloc b).alloc c).cell? ⟨w.heap.size,j,none⟩=cs[j]?:=by
 have e:=(box2 (w:=w.alloc (.cells cs t)) (a:=b) (b:=c)).block w.heap.size (by simp);exact(World.cell?_of_block (w:=w.alloc (.cells cs t)) (a:=⟨w.heap.size,j,none⟩) e).trans (World.cell?_alloc_new _ _ _ j)
theorem zuc(b:Nat)(l h:Int)(h0:0≤l)(h1:l≤15)(h2:l≤h)(h3:h≤16):∀ W,(Instr.sliceAt 215 (.pointer (some ⟨b,16,none⟩)) (some (.int .i64 l)) (some (.int .i64 h)) none).run Tryz.prog W=.ok (.slice (some ⟨b,16+l.toNat*2,none⟩) (h.toNat-l.toNat) (16-l.toNat)) W:=by
 intro W;have e1:Tryz.prog.arrayLen 215=16:=by kernel_rfl
 have a:Tryz.prog.elem 215=213:=by kernel_rfl
 have c:Tryz.prog.underlying 215=some (.array (Tryz.prog.arrayLen 215) (Tryz.prog.elem 215)):=by rw [e1,a];kernel_rfl
 have d:(sizeOf (Tryz.prog.elem 215)).run Tryz.prog W=.ok 2 W:=by rw [a];kernel_rfl
 rw [run_sliceAt_array_lh W 215 ⟨b,16,none⟩ c .i64 .i64 l h h0 h2 (by rw [e1];exact h3),d];show Result.ok (slicedAt ⟨b,16,none⟩ l.toNat h.toNat (Tryz.prog.arrayLen 215) 2) W=_;unfold slicedAt;rw [e1,if_neg (by omega)];simp [Addr.add]
theorem ze2{w:World}{b:Nat}{bv:Value}{k:Kn}(h:KnM w b bv k)(r:Rg)(hr:r.Ok)(h0:0≤r.lo)(h1:r.hi≤15):qC 255 #[.pointer (some ⟨b,0,none⟩),rv r] w (qR w (.slice (some ⟨b,16+r.lo.toNat*2,none⟩) ((r.hi+1).toNat-r.lo.toNat) (16-r.lo.toNat))):=by
 unfold Rg.Ok i64 at hr;have hw:r.within ⟨0,15⟩=true:=by unfold Rg.within;simp;omega
 have hlt:=h.lt;have c:r.lo≤r.hi+1:=by omega
 have d:r.hi+1≤16:=by omega
 have b3:IntKind.i64.wrap (r.hi+1)=r.hi+1:=zcH _ (by omega) (by omega);go_enter Tryz.func255,Tryz.ntmps255;go_wp2;have a:(((w.alloc (.cells #[.int .i64 r.lo,.int .i64 r.hi] 213)).alloc (.cells #[.int .i64 r.lo,.int .i64 r.hi] 213)).alloc (.cells #[.int .i64 0,.int .i64 15] 213)).cell? ⟨w.heap.size,0,none⟩=some (.int .i64 r.lo)∧(((w.alloc (.cells #[.int .i64 r.lo,.int .i64 r.hi] 213)).alloc (.cells #[.int .i64 r.lo,.int .i64 r.hi] 213)).alloc (.cells #[.int .i64 0,.int .i64 15] 213)).cell? ⟨w.heap.size,1,none⟩=some (.int .i64 r.hi):=⟨zmr _ _ _ _ _ 0,zmr _ _ _ _ _ 1⟩
 have hs:=zuc b r.lo (r.hi+1) h0 (by omega) c d;go_region_held3 (fun W=>W.cell? ⟨w.heap.size,0,none⟩=some (.int .i64 r.lo)∧W.cell? ⟨w.heap.size,1,none⟩=some (.int .i64 r.hi))
  (first|exact a|go_keep)
  (fail)
 all_goals go_wp2
 go_ret;exact⟨rfl,zaO.drew⟩
theorem zr9{w:World}{b cap:Nat}{ao:Option Addr}{k:Kn}(h:KnM w b (.slice ao k.behind.length cap) k)(z:Int)(hlen:k.behind.length=15):
  qC 282 #[.pointer (some ⟨b,0,none⟩),.int .i64 z] w fun e w'=>e=zak 8 0∧w'=w:=by
 have a:=zfH h (by omega);rw [hlen] at a;go_enter Tryz.func282,Tryz.ntmps282;go_wp2_with(first
  | (go_at_call 136;(with_reducible refine a.mono ?_);rintro e wx ⟨rfl,d⟩;have c:=d.symm;subst c))
 all_goals go_wp2
 exact⟨rfl,rfl,rfl,rfl,rfl⟩
theorem zyL{w:World}{b g m cap:Nat}{k:Kn}{z:Int}(h:KnM w b (.slice (some ⟨g,0,none⟩) (m+1) cap) k)(hm:m≤15)(hc:m+1≤cap)(_hc2:cap≤maxLen)(hz:w.cell? ⟨g,m,none⟩=some (.int .i64 z))(l:List Int)(h0:0≤k.steps)(h1:k.steps≤100000):qC 287 #[.pointer (some ⟨b,0,none⟩)] w (zbe w b (.slice (some ⟨g,0,none⟩) m cap) ({ k with behind:=l }.goTo z)):=by
 have c:=h.cS;have n:=h.cN;have d:=h.cB;have f1:=h.fz 50;have f2:=h.fz 48;have f3:=h.fz 49;have hlt:=h.lt;unfold maxLen at _hc2;have K:=h.putB (.slice (some ⟨g,0,none⟩) m cap) l;go_enter Tryz.func287,Tryz.ntmps287;go_wp2;go_ret;obtain⟨i,e,a,j,o,f⟩:=zpz K z;rw [World.size_setCell] at e a;exact⟨i,e,a,j,o,zag (zac (Below.refl _ _)) f⟩
theorem zrA{w:World}{b cap:Nat}{ao:Option Addr}{k:Kn}{x:Int}{l:List Int}(h:KnM w b (.slice ao k.behind.length cap) k)(B:BhM w ao cap k.behind)(hk:k.behind=l++[x])(ap:∀ a,ao=some a→¬a.block=b)(h0:0≤k.steps)(h1:k.steps≤100000):
  qC 287 #[.pointer (some ⟨b,0,none⟩)] w fun e w'=>zbe w b (.slice ao l.length cap) ({ k with behind:=l }.goTo x) e w'∧BhM w' ao cap l:=by
 have j:k.behind.length=l.length+1:=by rw [hk];simp
 cases ao with
 | none=>obtain⟨e,_⟩:=B.nil rfl;rw [e] at j;simp at j
 | some a =>
  obtain⟨g,rfl⟩:=B.at0 a rfl;have n:=B.len;have d:=B.le;rw [j] at h n d;refine(zyL h (by omega) d B.top ((B.cell g rfl).2 l.length x (by rw [hk];simp)) l h0 h1).mono ?_;rintro e w' f;refine⟨f,?_⟩;obtain⟨g2,e2,l2,c2,k2,m⟩:=f;have c:BhM w' (some ⟨g,0,none⟩) cap k.behind:=B.grown m ap;exact⟨by omega,by omega,c.top,fun e=>(by cases e),c.at0,fun g' e=>⟨(c.cell g' e).1,fun i v hv=>(c.cell g' e).2 i v (by rw [hk,List.getElem?_append_left (List.getElem?_eq_some_iff.1 hv).1];exact hv)⟩⟩
def zfL(l:List Int):Nat→Int
 | 0=>l.headD 0
 | k+1=>min (zfL l k) (l[k+1]?.getD 0)
def zfM(l:List Int):Nat→Int
 | 0=>l.headD 0
 | k+1=>max (zfM l k) (l[k+1]?.getD 0)
theorem zp4(w:World)(b cap:Nat)(l:List Int)(h0:0<l.length)(hn:l.length≤1000)(hc:∀ j (h:j<l.length),w.cell? ⟨b,j,none⟩=some (.int .i64 l[j])):
  qC 247 #[.slice (some ⟨b,0,none⟩) l.length cap] w fun e w'=>e=.returned (.int .i64 (zfL l (l.length-1)))∧w'=w:=by
 have g:=hc 0 h0;have e0:zfL l 0=l[0]:=by cases l with|nil=>simp at h0|cons x r=>rfl
 go_enter Tryz.func247,Tryz.ntmps247;go_wp2
 go_loopw [4,3] (fun ti tm wr=>∃ k:Nat,1≤k∧k≤l.length∧ti=.int .i64 (k:Int)∧tm=.int .i64 (zfL l (k-1))∧wr=w) (fun ti _ _=>l.length-(intOf ti).toNat)
 case atStart=>exact⟨1,by omega,by omega,rfl,by rw [e0],rfl⟩
 case round =>
  obtain⟨k,h1,hk,rfl,rfl,rfl⟩:=hrel;by_cases a:k<l.length
  ·have f:=hc k a;have hk0:(0:Int)≤(k:Int):=by omega
   have hk1:(k:Int)<(l.length:Int):=by omega
   have d:Hid (zfL l k=min (zfL l (k-1)) l[k]):=by
    obtain⟨c,rfl⟩:∃ c,k=c+1:=⟨k-1,by omega⟩
    show min (zfL l c) (l[c+1]?.getD 0)=_;rw [List.getElem?_eq_getElem a];rfl
   clear hc g;generalize l[k]=x at f d;generalize zfL l (k-1)=y at d;go_wp2;go_roundw
   case rel=>exact⟨k+1,by omega,by omega,by go_num,by simp only [Nat.add_sub_cancel];rw [d.out],by first|rfl|trivial⟩
   case measure=>simp [intOf];omega
  ·obtain rfl:k=l.length:=by omega
   go_wp2;go_ret;exact⟨rfl,rfl⟩
theorem zp5(w:World)(b cap:Nat)(l:List Int)(h0:0<l.length)(hn:l.length≤1000)(hc:∀ j (h:j<l.length),w.cell? ⟨b,j,none⟩=some (.int .i64 l[j])):
  qC 248 #[.slice (some ⟨b,0,none⟩) l.length cap] w fun e w'=>e=.returned (.int .i64 (zfM l (l.length-1)))∧w'=w:=by
 have g:=hc 0 h0;have e0:zfM l 0=l[0]:=by cases l with|nil=>simp at h0|cons x r=>rfl
 go_enter Tryz.func248,Tryz.ntmps248;go_wp2
 go_loopw [4,3] (fun ti tm wr=>∃ k:Nat,1≤k∧k≤l.length∧ti=.int .i64 (k:Int)∧tm=.int .i64 (zfM l (k-1))∧wr=w) (fun ti _ _=>l.length-(intOf ti).toNat)
 case atStart=>exact⟨1,by omega,by omega,rfl,by rw [e0],rfl⟩
 case round =>
  obtain⟨k,h1,hk,rfl,rfl,rfl⟩:=hrel;by_cases a:k<l.length
  ·have f:=hc k a;have hk0:(0:Int)≤(k:Int):=by omega
   have hk1:(k:Int)<(l.length:Int):=by omega
   have d:Hid (zfM l k=max (zfM l (k-1)) l[k]):=by
    obtain⟨c,rfl⟩:∃ c,k=c+1:=⟨k-1,by omega⟩
    show max (zfM l c) (l[c+1]?.getD 0)=_;rw [List.getElem?_eq_getElem a];rfl
   clear hc g;generalize l[k]=x at f d;generalize zfM l (k-1)=y at d;go_wp2;go_roundw
   case rel=>exact⟨k+1,by omega,by omega,by go_num,by simp only [Nat.add_sub_cancel];rw [d.out],by first|rfl|trivial⟩
   case measure=>simp [intOf];omega
  ·obtain rfl:k=l.length:=by omega
   go_wp2;go_ret;exact⟨rfl,rfl⟩
theorem KnM.putC{w:World}{b:Nat}{bv:Value}{k:Kn}(h:KnM w b bv k)(a:Nat)(ha:a<16)(v:Rg):KnM ((w.setCell ⟨b,16+a*2,none⟩ (.int .i64 v.lo)).setCell ⟨b,16+a*2+1,none⟩ (.int .i64 v.hi)) b bv { k with cells:=updR k.cells a v }:=by
 have d:KnM (w.setCell ⟨b,16+a*2,none⟩ (.int .i64 v.lo)) b bv { k with cells:=updR k.cells a ⟨v.lo,(k.cells a).hi⟩ }:=h.set (16+a*2) _ _ (h.cC a ha).1 (fun r hr=>⟨by rw [if_neg (by omega)],by rw [if_neg (by omega)]⟩) (fun c hc=>⟨by
  by_cases e:c=a
  ·subst e;rw [if_pos rfl];show _=Value.int .i64 (updR k.cells c ⟨v.lo,(k.cells c).hi⟩ c).lo;rw [zdD]
  ·rw [if_neg (by omega)];show _=Value.int .i64 (updR k.cells a ⟨v.lo,(k.cells a).hi⟩ c).lo;unfold updR;rw [if_neg e],by
  rw [if_neg (by omega)];show _=Value.int .i64 (updR k.cells a ⟨v.lo,(k.cells a).hi⟩ c).hi;unfold updR;by_cases e:c=a
  ·subst e;rw [if_pos rfl]
  ·rw [if_neg e]⟩) (by rw [if_neg (by omega)]) (by rw [if_neg (by omega)]) (by rw [if_neg (by omega)])
 refine d.set (16+a*2+1) _ _ (d.cC a ha).2 (fun r hr=>⟨by rw [if_neg (by omega)],by rw [if_neg (by omega)]⟩) (fun c hc=>⟨?_,?_⟩) (by rw [if_neg (by omega)]) (by rw [if_neg (by omega)]) (by rw [if_neg (by omega)])
 ·rw [if_neg (by omega)];show Value.int .i64 (updR k.cells a ⟨v.lo,(k.cells a).hi⟩ c).lo=Value.int .i64 (updR k.cells a v c).lo;unfold updR;by_cases e:c=a
  ·rw [if_pos e,if_pos e]
  ·rw [if_neg e,if_neg e]
 ·show _=Value.int .i64 (updR k.cells a v c).hi;by_cases e:c=a
  ·subst e;rw [if_pos rfl,zdD]
  ·rw [if_neg (by omega)];show Value.int .i64 (updR k.cells a ⟨v.lo,(k.cells a).hi⟩ c).hi=_;unfold updR;rw [if_neg e,if_neg e]
theorem zdN{w wx:World}{o:Obj}{cs:Array Value}{t:TypeId}(hbx:Below ((w.alloc o).alloc (.cells cs t)).heap.size ((w.alloc o).alloc (.cells cs t)) wx)(j:Nat):wx.cell? ⟨w.heap.size+1,j,none⟩=cs[j]?:=by
 have e:=World.cell?_of_block (a:=⟨w.heap.size+1,j,none⟩) (hbx.block (w.heap.size+1) (by simp));rw [e];have:=World.cell?_alloc_new (w:=w.alloc o) cs t j;rw [World.size_alloc] at this;exact this
def zms(w:World)(b:Nat)(bv:Value)(k:Kn):Ending→World→Prop:=fun e w'=>e=.returned (.tuple #[])∧KnM w' b bv k∧w.grownBy w' (some b)
theorem zrj{w:World}{b:Nat}{bv:Value}{k:Kn}(h:KnM w b bv k)(a:Nat)(ha:a≤15)(v:Rg):qC 258 #[.pointer (some ⟨b,0,none⟩),rv ⟨(a:Int),(a:Int)⟩,rv v] w (zms w b bv { k with cells:=updR k.cells a v }):=by
 have hlt:=h.lt;have i:∀(W:World),KnM W b bv k→qC 255 #[.pointer (some ⟨b,0,none⟩),rv ⟨(a:Int),(a:Int)⟩] W (qR W (.slice (some ⟨b,16+a*2,none⟩) 1 (16-a))):=fun W hW=>by
  have t:=ze2 hW ⟨(a:Int),(a:Int)⟩ ⟨⟨by show _≤(a:Int);omega,by show(a:Int)≤_;omega⟩,⟨by show _≤(a:Int);omega,by show(a:Int)≤_;omega⟩,by show(a:Int)≤(a:Int);omega⟩ (by show(0:Int)≤(a:Int);omega) (by show(a:Int)≤15;omega);have e1:((a:Int)+1).toNat=a+1:=by omega
  have j:((a:Nat):Int).toNat=a:=by omega
  have l:a+1-a=1:=by omega
  simp only [e1,j,l] at t;exact t
 go_enter Tryz.func258,Tryz.ntmps258;go_wp2_with(go_at_call 255;(with_reducible refine(i _ ((h.alloc _).alloc _)).mono ?_);rintro e f ⟨rfl,c⟩;have d:KnM f b bv k:=((h.alloc _).alloc _).below c (by simp;omega);have c0:=(d.cC a (by omega)).1;have c1:=(d.cC a (by omega)).2;have z0:=d.fz (16+a*2);have z1:=d.fz (16+a*2+1);have v0:f.cell? ⟨w.heap.size+1,0,none⟩=some (.int .i64 v.lo):=zdN c 0;have v1:f.cell? ⟨w.heap.size+1,1,none⟩=some (.int .i64 v.hi):=zdN c 1)
 have g:qB w f:=box2.trans (c.mono (by simp;omega));refine bodyPost_ret (results_none rfl _ _ _) rfl ?_;exact⟨rfl,d.putC a (by omega) v,zag (zac g) (zac (Below.refl _ _))⟩
theorem zgX(w:World)(a b:Obj)(w4:World)(hb:Below (((w.alloc a).alloc b).alloc (.cells #[.int .i64 0,.int .i64 0] 213)).heap.size (((w.alloc a).alloc b).alloc (.cells #[.int .i64 0,.int .i64 0] 213)) w4):
  w4.cell? ⟨w.heap.size+1+1,0,none⟩=some (.int .i64 0)∧w4.cell? ⟨w.heap.size+1+1,1,none⟩=some (.int .i64 0)∧w4.frozen? ⟨w.heap.size+1+1,0,none⟩=false∧w4.frozen? ⟨w.heap.size+1+1,1,none⟩=false∧qB w w4:=by
 have hs:(((w.alloc a).alloc b).alloc (.cells #[.int .i64 0,.int .i64 0] 213)).heap.size=w.heap.size+1+1+1:=by simp
 have c:qB w (((w.alloc a).alloc b).alloc (.cells #[.int .i64 0,.int .i64 0] 213)):=zaO;have d:∀ j,w4.frozen? ⟨w.heap.size+1+1,j,none⟩=false:=fun j=>(World.frozen?_of_block (w:=((w.alloc a).alloc b).alloc (.cells #[.int .i64 0,.int .i64 0] 213)) (a:=⟨w.heap.size+1+1,j,none⟩) (hb.block _ (show w.heap.size+1+1<_ by omega))).trans (zfo _ _ _ _ _ j);exact⟨zap hb (zaG _ _ _ _ _ 0),zap hb (zaG _ _ _ _ _ 1),d 0,d 1,c.trans (hb.mono c.size)⟩
theorem zp3(r o:Rg)(w:World):qC 234 #[rv r,rv o] w (qR w (rv (r.plus o))):=by
 have a:=fun W=>zpv (wrap64 (r.lo+o.lo)) r o W;have e0:zfF (wrap64 (r.lo+o.lo)) r o=r.plus o:=by rw [zc9];rfl
 rw [e0] at a;have T:=zgX w (.cells #[.int .i64 r.lo,.int .i64 r.hi] 213) (.cells #[.int .i64 o.lo,.int .i64 o.hi] 213);go_enter Tryz.func234,Tryz.ntmps234;go_wp2_with(go_at_call 235;(with_reducible refine(a _).mono ?_);rintro e g ⟨rfl,b⟩;obtain⟨d,f,g0,g1,c⟩:=T g b)
 exact zbK (r:=r.plus o) Tryz.results234 rfl rfl (zay d f).1 (zay d f).2 ⟨rfl,za4 c (by omega)⟩
theorem zu1(r o:Rg)(w:World):qC 242 #[rv r,rv o] w (qR w (rv (r.minus o))):=by
 have a:=fun W=>zpv (wrap64 (r.lo-o.hi)) r o W;have e0:zfF (wrap64 (r.lo-o.hi)) r o=r.minus o:=by rw [zc9];rfl
 rw [e0] at a;have T:=zgX w (.cells #[.int .i64 r.lo,.int .i64 r.hi] 213) (.cells #[.int .i64 o.lo,.int .i64 o.hi] 213);go_enter Tryz.func242,Tryz.ntmps242;go_wp2_with(go_at_call 235;(with_reducible refine(a _).mono ?_);rintro e g ⟨rfl,b⟩;obtain⟨d,f,g0,g1,c⟩:=T g b)
 exact zbK (r:=r.minus o) Tryz.results242 rfl rfl (zay d f).1 (zay d f).2 ⟨rfl,za4 c (by omega)⟩
theorem zdk(r o:Rg)(w:World)(hr:r.Ok)(hn:¬(r.lo=o.lo∧r.hi=o.hi∧r.lo=r.hi)):qC 278 #[rv r,rv o] w (qR w (rv (r.without o))):=by
 unfold Rg.Ok i64 at hr;by_cases a:o.lo=o.hi
 ·by_cases b:o.lo=r.lo
  ·have d:r.without o=⟨r.lo+1,r.hi⟩:=by unfold Rg.without;rw [if_pos a,if_pos b]
   have g:=zcz (r.lo+1) r.hi;have e:(o.lo != o.hi)=false:=by simpa using a
   have f:(o.lo == r.lo)=true:=by simpa using b
   have i:r.lo+1≤9223372036854775807:=by omega
   have h:-9223372036854775808≤r.lo+1:=by omega
   go_enter Tryz.func278,Tryz.ntmps278;go_wp2;exact zbK (r:=⟨r.lo+1,r.hi⟩) Tryz.results278 rfl rfl (zaG _ _ _ _ _ 0) (zaG _ _ _ _ _ 1) ⟨by rw [d],zaO⟩
  ·have e:(o.lo != o.hi)=false:=by simpa using a
   have f:(o.lo == r.lo)=false:=by simpa using b
   by_cases c:o.lo=r.hi
   ·have d:r.without o=⟨r.lo,r.hi-1⟩:=by unfold Rg.without;rw [if_pos a,if_neg b,if_pos c]
    have g:=zcz r.lo (r.hi-1);have j:(o.lo == r.hi)=true:=by simpa using c
    have i:r.hi-1≤9223372036854775807:=by omega
    have h:-9223372036854775808≤r.hi-1:=by omega
    go_enter Tryz.func278,Tryz.ntmps278;go_wp2;exact zbK (r:=⟨r.lo,r.hi-1⟩) Tryz.results278 rfl rfl (zaG _ _ _ _ _ 0) (zaG _ _ _ _ _ 1) ⟨by rw [d],zaO⟩
   ·have d:r.without o=r:=by unfold Rg.without;rw [if_pos a,if_neg b,if_neg c]
    have j:(o.lo == r.hi)=false:=by simpa using c
    go_enter Tryz.func278,Tryz.ntmps278;go_wp2;exact zbK (r:=r) Tryz.results278 rfl rfl (zaG _ _ _ _ _ 0) (zaG _ _ _ _ _ 1) ⟨by rw [d],zaO⟩
 ·have d:r.without o=r:=by unfold Rg.without;rw [if_neg a]
  have e:(o.lo != o.hi)=true:=by simpa using a
  go_enter Tryz.func278,Tryz.ntmps278;go_wp2;exact zbK (r:=r) Tryz.results278 rfl rfl (zaG _ _ _ _ _ 0) (zaG _ _ _ _ _ 1) ⟨by rw [d],zaO⟩
def zmA(r:Rg):Nat→Int
 | 0=>r.lo
 | 1=>r.lo
 | _=>r.hi
def zmB(o:Rg):Nat→Int
 | 0=>o.lo
 | 1=>o.hi
 | 2=>o.lo
 | _=>o.hi
structure TimesAt(w wr:World)(r o:Rg)(k:Nat):Prop where
 cells:∀ j,j<4→wr.cell? ⟨w.heap.size+1+1+1,j,none⟩=some (.int .i64 (if j<k then wrap64 (zmA r j*zmB o j) else 0))
 fz:∀ j,wr.frozen? ⟨w.heap.size+1+1+1,j,none⟩=false
 res:∀ j,j<2→wr.cell? ⟨w.heap.size+1+1,j,none⟩=some (.int .i64 0)
 rz:∀ j,wr.frozen? ⟨w.heap.size+1+1,j,none⟩=false
 low:qB w wr
 size:w.heap.size+1+1+1<wr.heap.size
 no:∀ j,j<k→zbJ (zmA r j) (zmB o j)=false
theorem TimesAt.alloc{w wr:World}{r o:Rg}{k:Nat}(h:TimesAt w wr r o k)(x:Obj):TimesAt w (wr.alloc x) r o k:=by
 have c:qB wr (wr.alloc x):=box1;have d:=h.size;have z:∀ b j,b<wr.heap.size→(wr.alloc x).frozen? ⟨b,j,none⟩=wr.frozen? ⟨b,j,none⟩:=fun b j hlt=>World.frozen?_of_block (w:=wr) (a:=⟨b,j,none⟩) (c.block b hlt);exact⟨fun j hj=>zap c (h.cells j hj),fun j=>(z _ j d).trans (h.fz j),fun j hj=>zap c (h.res j hj),fun j=>(z _ j (by omega)).trans (h.rz j),h.low.alloc h.low.size _,by simp;omega,h.no⟩
theorem TimesAt.put{w wr:World}{r o:Rg}{k:Nat}(h:TimesAt w wr r o k)(hk:k<4)(hn:zbJ (zmA r k) (zmB o k)=false):TimesAt w (wr.setCell ⟨w.heap.size+1+1+1,k,none⟩ (.int .i64 (wrap64 (zmA r k*zmB o k)))) r o (k+1):=by
 have e:=fun j=>zat wr (w.heap.size+1+1+1) k j (.int .i64 (wrap64 (zmA r k*zmB o k))) _ (h.cells k hk);have c:(wr.setCell ⟨w.heap.size+1+1+1,k,none⟩ (.int .i64 (wrap64 (zmA r k*zmB o k)))).heap[w.heap.size+1+1]?=wr.heap[w.heap.size+1+1]?:=Below.heap_setCell _ _ _ _ (by show ¬w.heap.size+1+1=w.heap.size+1+1+1;omega);refine⟨fun j hj=>?_,fun j=>zbP wr _ _ j _ (h.fz j),fun j hj=>(World.cell?_of_block (w:=wr) (a:=⟨w.heap.size+1+1,j,none⟩) c).trans (h.res j hj),fun j=>(World.frozen?_of_block (w:=wr) (a:=⟨w.heap.size+1+1,j,none⟩) c).trans (h.rz j),h.low.setCell (p:=⟨w.heap.size+1+1+1,k,none⟩) (by show w.heap.size≤w.heap.size+1+1+1;omega) _,by simp [World.setCell];exact h.size,fun j hj=>?_⟩
 ·rw [e j];by_cases b:j=k
  ·subst b;rw [if_pos rfl,if_pos (by omega)]
  ·rw [if_neg b,h.cells j hj];by_cases d:j<k
   ·rw [if_pos d,if_pos (by omega)]
   ·rw [if_neg d,if_neg (by omega)]
 ·by_cases b:j=k
  ·subst b;exact hn
  ·exact h.no j (by omega)
theorem zcu{r o:Rg}(h:¬(r.lo=r.hi∧o.lo=o.hi)){k:Nat}(hk:k<4)(hw:zbJ (zmA r k) (zmB o k)=true):r.times o=anyR:=by
 unfold Rg.times;rw [if_neg h,if_pos]
 match k,hk with
 | 0,_=>exact .inl hw
 | 1,_=>exact .inr (.inl hw)
 | 2,_=>exact .inr (.inr (.inl hw))
 | 3,_=>exact .inr (.inr (.inr hw))
theorem ziP{r o:Rg}(hr:r.Ok)(ho:o.Ok)(h:¬(r.lo=r.hi∧o.lo=o.hi))(hn:∀ j,j<4→zbJ (zmA r j) (zmB o j)=false):
  r.times o=⟨zfL [wrap64 (r.lo*o.lo),wrap64 (r.lo*o.hi),wrap64 (r.hi*o.lo),wrap64 (r.hi*o.hi)] 3,zfM [wrap64 (r.lo*o.lo),wrap64 (r.lo*o.hi),wrap64 (r.hi*o.lo),wrap64 (r.hi*o.hi)] 3⟩:=by
 have d:zbJ r.lo o.lo=false:=hn 0 (by omega);have b:zbJ r.lo o.hi=false:=hn 1 (by omega);have c:zbJ r.hi o.lo=false:=hn 2 (by omega);have a:zbJ r.hi o.hi=false:=hn 3 (by omega);unfold Rg.times;rw [if_neg h,if_neg (by rw [d,b,c,a];simp)];rw [zc9,zc9,zc9,zc9,zgq (zcB hr.1 ho.1 d),zgq (zcB hr.1 ho.2.1 b),zgq (zcB hr.2.1 ho.1 c),zgq (zcB hr.2.1 ho.2.1 a)];rfl
theorem zu2(r o:Rg)(w:World)(h1:r.lo=r.hi)(h2:o.lo=o.hi):qC 245 #[rv r,rv o] w (qR w (rv (r.times o))):=by
 obtain⟨a,b⟩:=r;obtain⟨c,d⟩:=o;simp only at h1 h2;subst h1 h2;have e0:Rg.times ⟨a,a⟩ ⟨c,c⟩=only (wrap64 (a*c)):=by unfold Rg.times;rw [if_pos ⟨rfl,rfl⟩,zc9]
 rw [e0];have f:=fun W=>zhB (wrap64 (a*c)) W;have T:=zgX w (.cells #[.int .i64 a,.int .i64 a] 213) (.cells #[.int .i64 c,.int .i64 c] 213);go_enter Tryz.func245,Tryz.ntmps245;go_wp2_with(go_at_call 226;(with_reducible refine(f _).mono ?_);rintro e k ⟨rfl,g⟩;obtain⟨i,j,g0,g1,h⟩:=T k g)
 exact zbK (r:=only (wrap64 (a*c))) Tryz.results245 rfl rfl (zay i j).1 (zay i j).2 ⟨rfl,za4 h (by omega)⟩
end Go.Proofs.YtfpgjkbjbbgciaaGreatDoor
