import Derived.Test.YtfpgjkbjbbgciaaGreatDoorMj24
import Derived.Test.YtfpgjkbjbbgciaaGreatDoorMj32
set_option maxRecDepth 100000
set_option maxHeartbeats 8000000
namespace Go.Proofs.YtfpgjkbjbbgciaaGreatDoor
section
open Go.RowKit Sp
theorem zgY{w W0 w3:World}(hs0:W0.heap.size=w.heap.size+1+1+1+1)(k0:W0.cell? ⟨w.heap.size+1+1,0,none⟩=some (.int .i64 0)∧W0.cell? ⟨w.heap.size+1+1,1,none⟩=some (.int .i64 0)∧W0.cell? ⟨w.heap.size+1+1+1,0,none⟩=some (.int .i64 0)∧W0.cell? ⟨w.heap.size+1+1+1,1,none⟩=some (.int .i64 0))
  (kz:∀ j,W0.frozen? ⟨w.heap.size+1+1,j,none⟩=false∧W0.frozen? ⟨w.heap.size+1+1+1,j,none⟩=false) (hb:qB W0 w3) :
  (w3.cell? ⟨w.heap.size+1+1,0,none⟩=some (.int .i64 0)∧w3.cell? ⟨w.heap.size+1+1,1,none⟩=some (.int .i64 0)∧w3.cell? ⟨w.heap.size+1+1+1,0,none⟩=some (.int .i64 0)∧w3.cell? ⟨w.heap.size+1+1+1,1,none⟩=some (.int .i64 0)) ∧
  w3.frozen? ⟨w.heap.size+1+1,0,none⟩=false∧w3.frozen? ⟨w.heap.size+1+1,1,none⟩=false∧w3.frozen? ⟨w.heap.size+1+1+1,0,none⟩=false∧w3.frozen? ⟨w.heap.size+1+1+1,1,none⟩=false:=by
 have z:∀ b j,b<W0.heap.size→w3.frozen? ⟨b,j,none⟩=W0.frozen? ⟨b,j,none⟩:=fun b j h=>World.frozen?_of_block (w:=W0) (a:=⟨b,j,none⟩) (hb.block b h);refine⟨zcg hb k0,?_,?_,?_,?_⟩
 ·rw [z _ _ (by omega)];exact(kz 0).1
 ·rw [z _ _ (by omega)];exact(kz 1).1
 ·rw [z _ _ (by omega)];exact(kz 0).2
 ·rw [z _ _ (by omega)];exact(kz 1).2
theorem zbo{W:World}{b c d:Nat}{x y v0 v1 v2 v3:Value}(n1:¬c=b)(n2:¬d=b)(h:W.cell? ⟨c,0,none⟩=some v0∧W.cell? ⟨c,1,none⟩=some v1∧W.cell? ⟨d,0,none⟩=some v2∧W.cell? ⟨d,1,none⟩=some v3):
  ((W.setCell ⟨b,0,none⟩ x).setCell ⟨b,1,none⟩ y).cell? ⟨c,0,none⟩=some v0∧((W.setCell ⟨b,0,none⟩ x).setCell ⟨b,1,none⟩ y).cell? ⟨c,1,none⟩=some v1∧((W.setCell ⟨b,0,none⟩ x).setCell ⟨b,1,none⟩ y).cell? ⟨d,0,none⟩=some v2∧((W.setCell ⟨b,0,none⟩ x).setCell ⟨b,1,none⟩ y).cell? ⟨d,1,none⟩=some v3:=by
 have e:∀(g o:Nat),¬g=b→((W.setCell ⟨b,0,none⟩ x).setCell ⟨b,1,none⟩ y).cell? ⟨g,o,none⟩=W.cell? ⟨g,o,none⟩:=fun g o hg=>by
  rw [World.cell?_setCell_other,World.cell?_setCell_other];all_goals simp
 rw [e c 0 n1,e c 1 n1,e d 0 n2,e d 1 n2];exact h
theorem zgZ{W:World}{p q:Nat}{x0 x1 y0 y1 u0 u1 v0 v1:Value}(hne:¬p=q)(h:W.cell? ⟨p,0,none⟩=some u0∧W.cell? ⟨p,1,none⟩=some u1∧W.cell? ⟨q,0,none⟩=some v0∧W.cell? ⟨q,1,none⟩=some v1):
  ((((W.setCell ⟨p,0,none⟩ x0).setCell ⟨p,1,none⟩ x1).setCell ⟨q,0,none⟩ y0).setCell ⟨q,1,none⟩ y1).cell? ⟨p,0,none⟩=some x0∧((((W.setCell ⟨p,0,none⟩ x0).setCell ⟨p,1,none⟩ x1).setCell ⟨q,0,none⟩ y0).setCell ⟨q,1,none⟩ y1).cell? ⟨p,1,none⟩=some x1 ∧
  ((((W.setCell ⟨p,0,none⟩ x0).setCell ⟨p,1,none⟩ x1).setCell ⟨q,0,none⟩ y0).setCell ⟨q,1,none⟩ y1).cell? ⟨q,0,none⟩=some y0∧((((W.setCell ⟨p,0,none⟩ x0).setCell ⟨p,1,none⟩ x1).setCell ⟨q,0,none⟩ y0).setCell ⟨q,1,none⟩ y1).cell? ⟨q,1,none⟩=some y1:=by
 obtain⟨f,c⟩:=zay (v0:=x0) (v1:=x1) h.1 h.2.1;have a:¬q=p:=fun e=>hne e.symm;have b:=zbo (b:=p) (x:=x0) (y:=x1) a a ⟨h.2.2.1,h.2.2.2,h.2.2.1,h.2.2.2⟩;obtain⟨g,i⟩:=zay (v0:=y0) (v1:=y1) b.1 b.2.1;have d:=zbo (b:=q) (x:=y0) (y:=y1) hne hne ⟨f,c,f,c⟩;exact⟨d.1,d.2.1,g,i⟩
theorem zzQ(a b c d:Int)(w:World)(hl:Rg.Ok ⟨a,b⟩)(hr:Rg.Ok ⟨c,d⟩)(hn:(a == c)=false∨((a == c)=true∧(b == d)=false)∨((a == c)=true∧(b == d)=true∧(a == b)=false)):qC 277 #[rv ⟨a,b⟩,rv ⟨c,d⟩] w (zdR w ⟨a,b⟩ ⟨c,d⟩ (zaM ⟨a,b⟩ ⟨c,d⟩)):=by
 have u:¬((a=c∧b=d)∧a=b):=fun h=>by
  rcases hn with t|⟨_,t⟩|⟨_,_,t⟩
  ·simp at t;exact t h.1.1
  ·simp at t;exact t h.1.2
  ·simp at t;exact t h.2
 have J:zaM ⟨a,b⟩ ⟨c,d⟩=some ((⟨a,b⟩:Rg).without (⟨c,d⟩:Rg),(⟨c,d⟩:Rg).without (⟨a,b⟩:Rg)):=by unfold zaM;rw [if_neg (by dsimp only;omega)]
 rw [J];have C:=fun W=>zdk (⟨a,b⟩:Rg) (⟨c,d⟩:Rg) W hl (by dsimp only;omega);have D:=fun W=>zdk (⟨c,d⟩:Rg) (⟨a,b⟩:Rg) W hr (by dsimp only;omega);have x:=zeS w (⟨a,b⟩:Rg) (⟨c,d⟩:Rg) (.cells #[.int .i64 0,.int .i64 0] 213) (.cells #[.int .i64 0,.int .i64 0] 213);have k:((((w.alloc (.cells #[.int .i64 a,.int .i64 b] 213)).alloc (.cells #[.int .i64 c,.int .i64 d] 213)).alloc (.cells #[.int .i64 0,.int .i64 0] 213)).alloc (.cells #[.int .i64 0,.int .i64 0] 213)).heap.size=w.heap.size+1+1+1+1:=by simp
 have n:qB w ((((w.alloc (.cells #[.int .i64 a,.int .i64 b] 213)).alloc (.cells #[.int .i64 c,.int .i64 d] 213)).alloc (.cells #[.int .i64 0,.int .i64 0] 213)).alloc (.cells #[.int .i64 0,.int .i64 0] 213)):=zbL;have z:((((w.alloc (.cells #[.int .i64 a,.int .i64 b] 213)).alloc (.cells #[.int .i64 c,.int .i64 d] 213)).alloc (.cells #[.int .i64 0,.int .i64 0] 213)).alloc (.cells #[.int .i64 0,.int .i64 0] 213)).cell? ⟨w.heap.size+1+1,0,none⟩=some (.int .i64 0)∧((((w.alloc (.cells #[.int .i64 a,.int .i64 b] 213)).alloc (.cells #[.int .i64 c,.int .i64 d] 213)).alloc (.cells #[.int .i64 0,.int .i64 0] 213)).alloc (.cells #[.int .i64 0,.int .i64 0] 213)).cell? ⟨w.heap.size+1+1,1,none⟩=some (.int .i64 0)∧((((w.alloc (.cells #[.int .i64 a,.int .i64 b] 213)).alloc (.cells #[.int .i64 c,.int .i64 d] 213)).alloc (.cells #[.int .i64 0,.int .i64 0] 213)).alloc (.cells #[.int .i64 0,.int .i64 0] 213)).cell? ⟨w.heap.size+1+1+1,0,none⟩=some (.int .i64 0)∧((((w.alloc (.cells #[.int .i64 a,.int .i64 b] 213)).alloc (.cells #[.int .i64 c,.int .i64 d] 213)).alloc (.cells #[.int .i64 0,.int .i64 0] 213)).alloc (.cells #[.int .i64 0,.int .i64 0] 213)).cell? ⟨w.heap.size+1+1+1,1,none⟩=some (.int .i64 0) :=
  ⟨zaL _ _ _ _ _ _ 0,zaL _ _ _ _ _ _ 1,zaA _ _ _ _ _ _ 0,zaA _ _ _ _ _ _ 1⟩
 have F:∀ j,((((w.alloc (.cells #[.int .i64 a,.int .i64 b] 213)).alloc (.cells #[.int .i64 c,.int .i64 d] 213)).alloc (.cells #[.int .i64 0,.int .i64 0] 213)).alloc (.cells #[.int .i64 0,.int .i64 0] 213)).frozen? ⟨w.heap.size+1+1,j,none⟩=false∧((((w.alloc (.cells #[.int .i64 a,.int .i64 b] 213)).alloc (.cells #[.int .i64 c,.int .i64 d] 213)).alloc (.cells #[.int .i64 0,.int .i64 0] 213)).alloc (.cells #[.int .i64 0,.int .i64 0] 213)).frozen? ⟨w.heap.size+1+1+1,j,none⟩=false:=fun j =>
  ⟨(World.frozen?_alloc_past _ _ _ (by simp)).trans (zfo _ _ _ _ _ j),World.frozen?_alloc_at _ _ _ _ (by simp)⟩
 clear hl hr J;generalize (⟨a,b⟩:Rg).without (⟨c,d⟩:Rg)=A at C;generalize (⟨c,d⟩:Rg).without (⟨a,b⟩:Rg)=B at D;have q:¬w.heap.size=w.heap.size+1+1:=by omega
 have o:¬w.heap.size+1=w.heap.size+1+1:=by omega
 have p:¬w.heap.size=w.heap.size+1+1+1:=by omega
 have v:¬w.heap.size+1=w.heap.size+1+1+1:=by omega
 clear u;rcases hn with G|⟨I,G⟩|⟨I,G,t2⟩
 all_goals
  go_enter Tryz.func277,Tryz.ntmps277;go_wp2_with fail
  generalize (((w.alloc (.cells #[.int .i64 a,.int .i64 b] 213)).alloc (.cells #[.int .i64 c,.int .i64 d] 213)).alloc (.cells #[.int .i64 0,.int .i64 0] 213)).alloc (.cells #[.int .i64 0,.int .i64 0] 213)=W0 at k n z F x;go_region_held3 (fun W=>W.cell? ⟨w.heap.size,0,none⟩=some (.int .i64 a)∧W.cell? ⟨w.heap.size,1,none⟩=some (.int .i64 b)∧W.cell? ⟨w.heap.size+1,0,none⟩=some (.int .i64 c)∧W.cell? ⟨w.heap.size+1,1,none⟩=some (.int .i64 d))
   (first|(with_reducible exact m)|(with_reducible exact E)|(with_reducible exact zbo q o m)|(with_reducible exact zbo p v m)|(with_reducible exact zbo p v (zbo q o m))|(with_reducible exact zbo q o (zbo p v m))|exact x)
   (first|(go_at_call 278;(with_reducible refine(C _).mono ?_);rintro e w2 ⟨rfl,g⟩;have E:=zcg g x)|(go_at_call 278;(with_reducible refine(D _).mono ?_);rintro e y ⟨rfl,i⟩;have m:=zcg i E;have f:qB W0 y:=((Below.refl _ _).drew).trans (g.trans (i.mono g.size));obtain⟨⟨H,M,L,K⟩,f1,f2,f3,f4⟩:=zgY k z F f))
  have f:qB W0 y:=((Below.refl _ _).drew).trans (g.trans (i.mono g.size));have s:=n.trans (f.mono n.size);have R:=zgZ (x0:=.int .i64 A.lo) (x1:=.int .i64 A.hi) (y0:=.int .i64 B.lo) (y1:=.int .i64 B.hi) (show ¬w.heap.size+1+1=w.heap.size+1+1+1 by omega) ⟨H,M,L,K⟩;have N:qB w ((((y.setCell ⟨w.heap.size+1+1,0,none⟩ (.int .i64 A.lo)).setCell ⟨w.heap.size+1+1,1,none⟩ (.int .i64 A.hi)).setCell ⟨w.heap.size+1+1+1,0,none⟩ (.int .i64 B.lo)).setCell ⟨w.heap.size+1+1+1,1,none⟩ (.int .i64 B.hi)):=za4 (za4 s (by omega)) (by omega);go_wp2;exact zdS (l:=A) (r:=B) Tryz.results277 rfl rfl rfl rfl R.1 R.2.1 R.2.2.1 R.2.2.2 ⟨N,rfl⟩
theorem zyp(L:List Said)(k:Nat)(h:k<L.length)(h1:(L[k].kind == 102)=true)(hl:1<L[k].kept.length):zcS L k=decide (zaN L (L[k].kept[1]) 0<k):=by
 rw [beq_iff_eq] at h1;unfold zcS;rw [List.getElem?_eq_getElem h];simp only [h1,if_true,zcR _ 1 hl]
theorem zyq(L:List Said)(k:Nat)(h:k<L.length)(h1:(L[k].kind == 108)=true)(hl:0<L[k].kept.length):zcS L k=decide (zcj L k (L[k].kept[0])<k):=by
 rw [beq_iff_eq] at h1;unfold zcS;rw [List.getElem?_eq_getElem h];simp only [h1,zcR _ 0 hl];simp
theorem zyr(L:List Said)(k:Nat)(h:k<L.length)(h1:(L[k].kind == 102)=false)(h2:(L[k].kind == 108)=false):zcS L k=false:=by
 simp at h1 h2;unfold zcS;rw [List.getElem?_eq_getElem h];simp only [h1,h2,if_false]
theorem zlT(L:List Said)(g cap k:Nat)(w:World)(hL:LinesIn w g L)(hn:L.length≤1048577)(hk:k<L.length):
  qC 47 #[.slice (some ⟨g,0,none⟩) L.length cap,.int .i64 (k:Int)] w fun e w'=>e=.returned (.bool (zcS L k))∧w'=w:=by
 have hc:=hL.kind k hk;have hb:=zdO (hL.wf k hk);cases h102:(L[k].kind == 102) with
 | true =>
  have j:=wf_f (hL.wf k hk) h102;have a:1<L[k].kept.length:=by omega
  obtain⟨b,c,h,d⟩:=hL.words k hk (by omega);have i:=d 1 a;clear d;have f:Hid (decide (zaN L (L[k].kept[1]) 0<k)=zcS L k):=(zyp L k hk h102 a).symm;rw [j] at h;go_enter Tryz.func47,Tryz.ntmps47;go_wp2_with(go_at_call 77;refine(zo9 L g cap _ _ hL hn).mono ?_;rintro e w' ⟨rfl,rfl⟩)
  go_ret;exact⟨zaE f.out,rfl⟩
 | false =>
  cases h108:(L[k].kind == 108) with
  | true =>
   have j:=wf_l (hL.wf k hk) h108;have a:0<L[k].kept.length:=by omega
   obtain⟨b,c,h,d⟩:=hL.words k hk (by omega);have i:=d 0 a;clear d;have f:Hid (decide (zcj L k (L[k].kept[0])<k)=zcS L k):=(zyq L k hk h108 a).symm;rw [j] at h;go_enter Tryz.func47,Tryz.ntmps47;go_wp2_with(go_at_call 78;refine(zf3 L g cap k _ _ hL hn hk).mono ?_;rintro e w' ⟨rfl,rfl⟩)
   go_ret;exact⟨zaE f.out,rfl⟩
  | false =>
   have f:Hid (false=zcS L k):=(zyr L k hk h102 h108).symm;go_enter Tryz.func47,Tryz.ntmps47;go_wp2;go_ret;exact⟨zaE f.out,rfl⟩
theorem zmE{w:World}{p:Value}(r:Rg)(_hr:r.Ok)(h0:r.lo<0):qC 255 #[p,rv r] w fun e w'=>e=zak 8 0∧qB w w':=by
 unfold Rg.Ok i64 at _hr;have t:decide ((0:Int)≤r.lo)=false:=by simpa using h0
 go_enter Tryz.func255,Tryz.ntmps255;go_wp2;exact⟨rfl,rfl,rfl,rfl,zaO⟩
theorem zkS{w:World}{p:Value}(r:Rg)(_hr:r.Ok)(h0:0≤r.lo)(h1:15<r.hi):qC 255 #[p,rv r] w fun e w'=>e=zak 8 0∧qB w w':=by
 unfold Rg.Ok i64 at _hr;have t:decide (r.hi≤(15:Int))=false:=by simpa using h1
 go_enter Tryz.func255,Tryz.ntmps255;go_wp2;exact⟨rfl,rfl,rfl,rfl,zaO⟩
theorem zht{w:World}{p:Value}(r:Rg)(hr:r.Ok)(h:¬(0≤r.lo∧r.hi≤15)):qC 255 #[p,rv r] w fun e w'=>e=zak 8 0∧qB w w':=by
 by_cases a:0≤r.lo
 ·exact zkS r hr a (by omega)
 ·exact zmE r hr (by omega)
theorem zoj(x:Int)(w:World):qC 277 #[rv ⟨x,x⟩,rv ⟨x,x⟩] w (zdR w ⟨x,x⟩ ⟨x,x⟩ none):=by
 go_enter Tryz.func277,Tryz.ntmps277;go_wp2
 go_region
 all_goals go_wp2
 all_goals exact zdS (l:=⟨x,x⟩) (r:=⟨x,x⟩) Tryz.results277 rfl rfl rfl rfl (zaL _ _ _ _ _ _ 0) (zaL _ _ _ _ _ _ 1) (zaA _ _ _ _ _ _ 0) (zaA _ _ _ _ _ _ 1) ⟨zbL.drew,_,_,rfl⟩
theorem zok(l r:Rg)(w:World)(hl:l.Ok)(hr:r.Ok):qC 277 #[rv l,rv r] w (zdR w l r (zaM l r)):=by
 obtain⟨a,b⟩:=l;obtain⟨c,d⟩:=r;by_cases f:a=c
 ·subst f;by_cases g:b=d
  ·subst g;by_cases e:a=b
   ·subst e;rw [show zaM ⟨a,a⟩ ⟨a,a⟩=none from by unfold zaM;rw [if_pos ⟨⟨rfl,rfl⟩,rfl⟩]];exact zoj a w
   ·exact zzQ a b a b w hl hl (.inr (.inr ⟨by simp,by simp,by simpa using e⟩))
  ·exact zzQ a b a d w hl hr (.inr (.inl ⟨by simp,by simpa using g⟩))
 ·exact zzQ a b c d w hl hr (.inl (by simpa using f))
def zez(w:World)(L:List Said)(R:Int × Int):Ending→World→Prop:=fun e w' =>
 ∃ v,e=.returned (.tuple #[v,.int .i64 R.1,.int .i64 R.2])∧qB w w'∧(R.1=0→∃ g cap,v=.slice (some ⟨g,0,none⟩) L.length cap∧w.heap.size≤g∧LinesIn w' g L)
theorem zbQ{w w':World}{L:List Said}{R:Int × Int}{a b:Int}(h:R=(a,b))(ha:¬a=0)(hb:qB w w'):zez w L R (.returned (.tuple #[.slice none 0 0,.int .i64 a,.int .i64 b])) w':=by
 subst h;exact⟨_,rfl,hb,fun h=>absurd h ha⟩
theorem zgK(s:ByteArray)(w:World)(hs:s.size≤1048576):
  qC 45 #[.string s] w fun e w'=>∃ g cap,e=.returned (.slice (some ⟨g,0,none⟩) (lines s).length cap)∧(lines s).length≤cap∧cap≤maxLen∧w.heap.size≤g∧g<w'.heap.size∧(∀ j (hj:j<(lines s).length),w'.cell? ⟨g,j,none⟩=some (.string (lines s)[j]))∧qB w w':=by
 refine(zse s w hs).mono ?_;rintro e w' ⟨v,rfl,a,h⟩;obtain⟨g,cap,rfl,c,d,i,b,f⟩:=zo4 a (by have:=zgb s;omega);exact⟨g,cap,rfl,c,d,i,b,f,h⟩
theorem zlU(x:ByteArray)(w:World)(hs:x.size≤1048576)(q:Said)(hq:Hid (say x=q)):
  qC 46 #[.string x] w fun e w'=>∃ ao m c,e=.returned (.tuple #[.agg #[.int .u8 q.kind,.slice ao m c],.bool q.ok])∧w'.ownsRow w.heap.size 9 1 (.slice ao m c) q.kept.length (q.kept.map Value.string)∧qB w w':=by
 refine(zxI x w hs).mono ?_;rw [hq.out];rintro e w' ⟨v,rfl,a,b⟩;rcases a.2 with ⟨f,_⟩|⟨g,cap,cur,d,_⟩
 ·subst f;exact⟨_,_,_,rfl,a,b⟩
 ·subst d;exact⟨_,_,_,rfl,a,b⟩
theorem zwc(x:ByteArray):0≤(say x).kind∧(say x).kind≤255:=by
 unfold say sayW
 repeat' split
 all_goals exact⟨by simp,by simp⟩
theorem ztr(w:World)(o:Obj)(a b:Value)(t:TypeId):∀ j u,[a,b][j]?=some u→((w.alloc o).alloc (.cells #[a,b] t)).cell? ((⟨w.heap.size+1,0,none⟩:Addr).add j)=some u:=by
 intro j u c
 match j,c with
 | 0,c=>simp at c;subst c;simp [Addr.add]
 | 1,c=>simp at c;subst c;simp [Addr.add]
theorem zys(k:Int)(ao:Option Addr)(m c:Nat):∀ u∈[Value.int .u8 k,Value.slice ao m c],u.oneCell'=true:=by
 intro u a;simp at a;rcases a with rfl|rfl <;> rfl
theorem zwd(s:ByteArray)(w:World)(hs:s.size≤1048576)(h:4000<s.size∨300<(lines s).length):
  qC 16 #[.string s] w (zez w ((lines s).map say) (zaQ s)):=by
 have j:Hid (zaQ s=(6,0)):=by unfold Hid zaQ;rw [if_pos h]
 have hl:=zgb s;by_cases h4:4000<s.size
 ·go_enter Tryz.func16,Tryz.ntmps16;go_wp2_with(go_at_call 45;refine(zgK s _ hs).mono ?_;rintro e k ⟨g,f,rfl,a,c,l,b,d,i⟩)
  go_ret3;exact zbQ j.out (by decide) i
 ·have h3:300<(lines s).length:=by omega
  go_enter Tryz.func16,Tryz.ntmps16;go_wp2_with(go_at_call 45;refine(zgK s _ hs).mono ?_;rintro e k ⟨g,f,rfl,a,c,l,b,d,i⟩)
  go_ret3;exact zbQ j.out (by decide) i
theorem zts(s:ByteArray)(w:World)(h4:s.size≤4000)(h3:(lines s).length≤300):
  qC 16 #[.string s] w (zez w ((lines s).map say) (zaQ s)):=by
 obtain⟨i0,hi,au,an,al⟩:=info_parts Tryz.info87;have hR:zaQ s=zbO (lines s) 0:=by unfold zaQ;rw [if_neg (by omega)]
 generalize aw:zaQ s=R at hR;have D:Hid (R=zbO (lines s) 0):=hR;clear hR aw;have hl:=zgb s;have U:=zew s;have z:=zgK s w (by omega);generalize lines s=A at h3 D hl U z ⊢;obtain⟨hl1,hl2⟩:=hl;go_enter Tryz.func16,Tryz.ntmps16;go_wp2_with(go_at_call 45;refine z.mono ?_;rintro e w1 ⟨g,cap,rfl,hcap,hmx,hg,ak,Z,T⟩)
 clear z
 go_loopw [6,7] (fun v ti wr=>∃(k:Nat) (P:List (Said × Value)),k≤A.length∧ti=.int .i64 (k:Int)∧P.length=k∧P.map Prod.fst=(A.take k).map say∧(∀ p∈P,Wf p.1)∧RowsIn w1.heap.size wr v P∧qB w1 wr∧R=zbO A k) (fun _ ti _=>A.length-(intOf ti).toNat)
 case atStart=>exact⟨0,[],by omega,rfl,rfl,by simp,by simp,⟨World.ownsRow_nil _ _ _ _,by simp⟩,Below.refl _ _,D.out⟩
 case round =>
  obtain⟨k,P,hk,rfl,ab,aa,V,i,H,ai⟩:=hrel;have M:Hid (P.length=k):=ab;have ap:Hid (P.map Prod.fst=(A.take k).map say):=aa;clear D ab aa;have D:Hid (R=zbO A k):=ai;clear ai;have X:=H.size;by_cases B:k<A.length
  ·have hck:=(H.cell (p:=⟨g,k,none⟩) ak).trans (Z k B);have hAk:=U A[k] (List.getElem_mem B);have HW:Hid ((say A[k]).ok=true→Wf (say A[k])):=zsN A[k];have ae:=zwc A[k];have am:Hid (say A[k]=say A[k]):=rfl;have HB:Hid ((say A[k]).ok=false→R=(1,(k:Int)+1)):=fun h=>D.out.trans (zeb A k B h);have HO:Hid ((say A[k]).ok=true→R=zbO A (k+1)):=fun h=>D.out.trans (zfh A k B h);have HM:Hid (P.map Prod.fst++[say A[k]]=(A.take (k+1)).map say):=by
    unfold Hid;rw [ap.out,List.take_succ_eq_append_getElem B,List.map_append];rfl
   generalize hq:say A[k]=q at HW ae HB HO HM;have HS:Hid (say A[k]=q):=hq;clear hq am;obtain⟨hkd0,hkd1⟩:=ae;cases hok:q.ok with
   | false =>
    go_wp2_with(go_at_call 46;refine(zlU A[k] _ (by omega) q HS).mono ?_;rintro e w2 ⟨ao,m,c,rfl,y,C⟩)
    go_ret3;refine zbQ (HB.out hok) (by decide) ?_;exact(T.trans (((H.mono (by have:=T.size;omega)).trans (C.mono (by have:=T.size;omega))))).alloc (by have:=T.size;have:=C.size;omega) _
   | true =>
    have u:=M.out;have hPb:P.length≤300:=by omega
    clear u;go_wp2_with(first
     | (go_at_call 46;refine(zlU A[k] _ (by omega) q HS).mono ?_;rintro e w2 ⟨ao,m,c,rfl,y,C⟩;have n:=i.below C (Nat.le_refl _);have hsz2:=C.size)
     | (at_builtin;refine wpList_append_own _ rfl _ _ 25 rfl w1.heap.size 87 i0 (.agg #[.int .u8 0,.slice none 0 0]) 2 32 Tryz.under25 hi au an al rfl (by decide) _ _ _ rfl ((n.alloc _).alloc _).row ⟨w2.heap.size+1,0,none⟩ 1 1 [.int .u8 q.kind,.slice ao m c] rfl rfl (ztr _ _ _ _ _) (zys _ _ _ _) (by unfold maxLen;omega) (by omega) (by simp;omega) ?_))
    intro v' w3 J x _;have K:=((n.alloc _).alloc _).grown ((zbk y X).alloc _ |>.alloc _) x J;have ar:qB w1 w3:=(((H.trans (C.mono X)).alloc (by omega) _).alloc (by simp;omega) _).grown x (by simp;omega) (fun j hj=>(i.row.lt j hj).1);clear x J n y i C;go_wp2;go_roundw
    case rel=>exact⟨k+1,P++[(q,.slice ao m c)],by omega,by go_num,by have:=M.out;simp;omega,by rw [List.map_append];exact HM.out,by
     intro p W;rw [List.mem_append] at W;rcases W with W|W
     ·exact V p W
     ·simp at W;subst W;exact HW.out hok,K,ar,HO.out hok⟩
    case measure=>simp [intOf];omega
  ·have u:=M.out;have ac:k=A.length:=by omega
   have ah:P.map Prod.fst=A.map say:=by rw [ap.out,ac,List.take_length]
   obtain⟨O,f,ag,hg22,a⟩:=i.lines (by omega) V;rw [ah] at a;have av:P.length=(A.map say).length:=by rw [←ah];simp
   rw [av] at ag;have S:Hid (R=zbt (A.map say) 0):=D.out.trans (zga A k B);have E:qB w wr:=T.trans (H.mono T.size);have aq:(A.map say).length≤300:=by simpa using h3
   have af:w.heap.size≤O:=by have:=T.size;omega
   have hlt':A.length≤k:=by omega
   clear av ah M ap D u V ac B;obtain⟨L,G⟩:∃ L,L=A.map say:=⟨_,rfl⟩
   rw [←G] at a S aq ag;have az:Hid (L=A.map say):=G;clear G;rw [ag];clear Z i U;go_wp2
   go_loop [10] (fun t=>∃ j:Nat,j≤L.length∧t=.int .i64 (j:Int)∧R=zbt L j) (fun t=>L.length-(intOf t).toNat)
   case atStart=>exact⟨0,by omega,rfl,S.out⟩
   case round =>
    obtain⟨j,hj,rfl,ad⟩:=hrel;clear S;have D:Hid (R=zbt L j):=ad;clear ad;by_cases l:j<L.length
    ·have hc:=a.kind j l;have ay:=zdO (a.wf j l);cases h0:(L[j].kind == 0) with
     | true =>
      have d:Hid (R=zbt L (j+1)):=D.out.trans (zfg L j l (by simpa using h0));go_wp2
      go_round
      case rel=>exact⟨j+1,by omega,by go_num,d.out⟩
      case measure=>simp [intOf];omega
     | false =>
      have Y:((j:Int) == (L.length:Int))=false:=by simp;omega
      cases h102:(L[j].kind != 102) with
      | true =>
       have d:Hid (R=(2,(j:Int)+1)):=D.out.trans (zfZ L j l (by simpa using h0) (by simpa using h102));go_wp2;go_ret3;exact zbQ d.out (by decide) E
      | false =>
       have F:Hid (R=tail L 0):=D.out.trans (zfY L j l (by simpa using h0) (by simpa using h102));clear D;go_wp2;clear hc ay h0 Y h102
       go_loop [11] (fun t=>∃ q:Nat,q≤3∧t=.int .i64 (q:Int)∧R=tail L q) (fun t=>3-(intOf t).toNat)
       case atStart=>exact⟨0,by omega,rfl,F.out⟩
       case round =>
        obtain⟨q,hq,rfl,aj⟩:=hrel;clear F;have F:Hid (R=tail L q):=aj;clear aj;have N:q=0∨q=1∨q=2∨q=3:=by omega
        rcases N with rfl|rfl|rfl|rfl
        ·have r:Hid (R=pass L 0 0 (tail L 1)):=F.out.trans (zid L 0 (by omega));clear F;go_wp2
         go_loop [12] (fun t=>∃ m:Nat,m≤L.length∧t=.int .i64 (m:Int)∧R=pass L 0 m (tail L 1)) (fun t=>L.length-(intOf t).toNat)
         case atStart=>exact⟨0,by omega,rfl,r.out⟩
         case round =>
          obtain⟨m,hm,rfl,o⟩:=hrel;clear r;have I:Hid (R=pass L 0 m (tail L 1)):=o;clear o;by_cases b:m<L.length
          ·cases hbad:zcS L m with
           | true =>
            have d:Hid (R=(3+((0:Nat):Int),(m:Int)+1)):=I.out.trans (zdy L 0 m _ b hbad);go_wp2_with(go_at_call 47;refine(zlT L O f m _ a (by omega) b).mono ?_;rintro e w' ⟨rfl,rfl⟩)
            go_ret3;exact zbQ d.out (by decide) E
           | false =>
            have d:Hid (R=pass L 0 (m+1) (tail L 1)):=I.out.trans (zcr L 0 m _ b hbad);go_wp2_with(go_at_call 47;refine(zlT L O f m _ a (by omega) b).mono ?_;rintro e w' ⟨rfl,rfl⟩)
            go_round
            case rel=>exact⟨m+1,by omega,by go_num,d.out⟩
            case measure=>simp [intOf];omega
          ·have d:Hid (R=tail L 1):=I.out.trans (zdJ L 0 m _ b);go_wp2
           go_round
           case rel=>exact⟨1,by omega,by go_num,d.out⟩
           case measure=>simp [intOf]
        ·have r:Hid (R=pass L 1 0 (tail L 2)):=F.out.trans (zid L 1 (by omega));clear F;go_wp2
         go_loop [12] (fun t=>∃ m:Nat,m≤L.length∧t=.int .i64 (m:Int)∧R=pass L 1 m (tail L 2)) (fun t=>L.length-(intOf t).toNat)
         case atStart=>exact⟨0,by omega,rfl,r.out⟩
         case round =>
          obtain⟨m,hm,rfl,o⟩:=hrel;clear r;have I:Hid (R=pass L 1 m (tail L 2)):=o;clear o;by_cases b:m<L.length
          ·cases hbad:zaK L m with
           | true =>
            have d:Hid (R=(3+((1:Nat):Int),(m:Int)+1)):=I.out.trans (zdy L 1 m _ b hbad);go_wp2_with(go_at_call 48;refine(zir L O f m _ a (by omega) b).mono ?_;rintro e w' ⟨rfl,rfl⟩)
            go_ret3;exact zbQ d.out (by decide) E
           | false =>
            have d:Hid (R=pass L 1 (m+1) (tail L 2)):=I.out.trans (zcr L 1 m _ b hbad);go_wp2_with(go_at_call 48;refine(zir L O f m _ a (by omega) b).mono ?_;rintro e w' ⟨rfl,rfl⟩)
            go_round
            case rel=>exact⟨m+1,by omega,by go_num,d.out⟩
            case measure=>simp [intOf];omega
          ·have d:Hid (R=tail L 2):=I.out.trans (zdJ L 1 m _ b);go_wp2
           go_round
           case rel=>exact⟨2,by omega,by go_num,d.out⟩
           case measure=>simp [intOf]
        ·have r:Hid (R=pass L 2 0 (tail L 3)):=F.out.trans (zid L 2 (by omega));clear F;go_wp2
         go_loop [12] (fun t=>∃ m:Nat,m≤L.length∧t=.int .i64 (m:Int)∧R=pass L 2 m (tail L 3)) (fun t=>L.length-(intOf t).toNat)
         case atStart=>exact⟨0,by omega,rfl,r.out⟩
         case round =>
          obtain⟨m,hm,rfl,o⟩:=hrel;clear r;have I:Hid (R=pass L 2 m (tail L 3)):=o;clear o;by_cases b:m<L.length
          ·cases hbad:zbs L m with
           | true =>
            have d:Hid (R=(3+((2:Nat):Int),(m:Int)+1)):=I.out.trans (zdy L 2 m _ b hbad);go_wp2_with(go_at_call 49;refine(zit L O f m _ a (by omega) b).mono ?_;rintro e w' ⟨rfl,rfl⟩)
            go_ret3;exact zbQ d.out (by decide) E
           | false =>
            have d:Hid (R=pass L 2 (m+1) (tail L 3)):=I.out.trans (zcr L 2 m _ b hbad);go_wp2_with(go_at_call 49;refine(zit L O f m _ a (by omega) b).mono ?_;rintro e w' ⟨rfl,rfl⟩)
            go_round
            case rel=>exact⟨m+1,by omega,by go_num,d.out⟩
            case measure=>simp [intOf];omega
          ·have d:Hid (R=tail L 3):=I.out.trans (zdJ L 2 m _ b);go_wp2
           go_round
           case rel=>exact⟨3,by omega,by go_num,d.out⟩
           case measure=>simp [intOf]
        ·have d:Hid (R=(0,0)):=F.out;clear F;go_wp2;go_ret3;have ax:=d.out;have G:=az.out;subst ax G;exact⟨_,rfl,E,fun _=>⟨O,f,rfl,af,a⟩⟩
    ·have Y:((j:Int) == (L.length:Int))=true:=by simp;omega
     have d:Hid (R=(2,0)):=D.out.trans (zeu L j l);go_wp2;go_ret3;exact zbQ d.out (by decide) E
theorem zdM(s:ByteArray)(w:World)(hs:s.size≤1048576):
  qC 16 #[.string s] w (zez w ((lines s).map say) (zaQ s)):=by
 by_cases h:4000<s.size∨300<(lines s).length
 ·exact zwd s w hs h
 ·exact zts s w (by omega) (by omega)
end
section
open Go.RowKit Sp Go.WideMaps Go.Maps
theorem MapIs.look{w:World}{b:Nat}{E:List (ByteArray × Nat)}(h:MapIs w b E)(x:ByteArray)(hx:x.size≤1048576)(p:Nat)(hp:zcb E x=some p):(Instr.lookup 81 (.map (some b)) (.string x) false).run Tryz.prog w=.ok (.int .i64 (p:Int)) w:=by
 obtain⟨D,d,hD,hhas,hat0,hpw⟩:=h;obtain⟨c,hrun,a,_⟩:=d.lookup_int lawS Tryz.under81 Tryz.underlying3 (zsT _) (keyS x (by unfold maxLen;omega));rw [hat0 x p _ hp] at a;simp at a;rw [hrun,a]
theorem MapIs.drewN{w:World}{b:Nat}{E:List (ByteArray × Nat)}(h:MapIs w b E)(n:Nat):MapIs (w.drewN n) b E:=h
theorem zkC(w:World)(pm bg k:Nat)(v:Value)(F:List FnM)(cap:Nat)(x:ByteArray)(hM:MapIs w pm (zb3 F))(hx:x.size≤1048576)(hk:zcb (zb3 F) x=some k)(hkl:k<F.length)(_hn:F.length≤300)(hc:w.cell? ⟨bg,k,none⟩=some (.int .i64 (lenF (F.take k):Int)))(bo cv:Nat)(hv:v=.slice (some ⟨bo,0,none⟩) F.length cv):
  qC 109 #[.agg #[v,.map (some pm),.slice (some ⟨bg,0,none⟩) F.length cap],.string x] w (qR w (.int .i64 (lenF (F.take k):Int))):=by
 subst hv;have hl:=(hM.alloc (.cells #[.slice (some ⟨bo,0,none⟩) F.length cv,.map (some pm),.slice (some ⟨bg,0,none⟩) F.length cap] 128)).look x hx k hk;have hlt:bg<w.heap.size:=World.block_lt_of_cell? w _ hc;have hk0:(0:Int)≤(k:Int):=by omega
 have hk1:(k:Int)<(F.length:Int):=by omega
 have hne4:¬w.heap.size=bg:=by omega
 have hne5:¬bg=w.heap.size:=by omega
 go_enter Tryz.func109,Tryz.ntmps109;go_wp2;go_ret;exact⟨rfl,(Below.refl _ _).alloc (Nat.le_refl _) _⟩
theorem zqW(w:World)(pm bg k j p bo cv cap:Nat)(F:List FnM)(x:ByteArray)(m:Nat)(E:List (ByteArray × Nat))(hM:MapIs w m E)(hx:x.size≤1048576)(hp:zcb E x=some p)(hp1:p≤300)(hkl:k<F.length)(hn:F.length≤300)(hj:j≤300)(hc:w.cell? ⟨bg,k,none⟩=some (.int .i64 (j:Int)))(hm:w.cell? ⟨bo,k*4+3,none⟩=some (.map (some m))):
  qC 108 #[.agg #[.slice (some ⟨bo,0,none⟩) F.length cv,.map (some pm),.slice (some ⟨bg,0,none⟩) F.length cap],.string x,.int .i64 (k:Int)] w (qR w (.int .i64 ((j:Int)+(p:Int)))):=by
 have hl:=fun n=>((hM.alloc (.cells #[.slice (some ⟨bo,0,none⟩) F.length cv,.map (some pm),.slice (some ⟨bg,0,none⟩) F.length cap] 128)).drewN n).look x hx p hp;have hlt:bg<w.heap.size:=World.block_lt_of_cell? w _ hc;have hlt2:bo<w.heap.size:=World.block_lt_of_cell? w _ hm;have hk0:(0:Int)≤(k:Int):=by omega
 have hk1:(k:Int)<(F.length:Int):=by omega
 have hne4:¬w.heap.size=bg:=by omega
 have hne5:¬bg=w.heap.size:=by omega
 have hne6:¬w.heap.size=bo:=by omega
 have hne7:¬bo=w.heap.size:=by omega
 have hk4:k*4≤1200:=by omega
 go_enter Tryz.func108,Tryz.ntmps108;go_wp2_with fail
 go_quiet(fail)
 go_wp2;go_ret;exact⟨rfl,((Below.refl _ _).alloc (Nat.le_refl _) _).trans ((zaF _ nq).mono (by simp))⟩
end
section
open Go.RowKit Sp
def zbF(c:Nat→Rg)(a j:Nat)(v:Rg):Nat→Rg:=fun i=>if a≤i∧i<a+j then(c i).or v else c i
theorem zmC(c:Nat→Rg)(a:Nat)(v:Rg):zbF c a 0 v=c:=by
 funext i;unfold zbF;rw [if_neg (by omega)]
theorem zkg(c:Nat→Rg)(a j:Nat)(v:Rg):zbF c a j v (a+j)=c (a+j):=by unfold zbF;rw [if_neg (by omega)]
theorem zmD(c:Nat→Rg)(a j:Nat)(v:Rg):updR (zbF c a j v) (a+j) ((c (a+j)).or v)=zbF c a (j+1) v:=by
 funext i
 unfold updR zbF;by_cases e:i=a+j
 ·subst e;rw [if_pos rfl,if_pos (by omega)]
 ·rw [if_neg e];by_cases b:a≤i∧i<a+j
  ·rw [if_pos b,if_pos (by omega)]
  ·rw [if_neg b,if_neg (by omega)]
theorem zog(c:Nat→Rg)(a n:Nat)(v:Rg)(hn:1≤n):zbF c a (n+1) v=zaP c a (a+n) v:=by
 funext i
 have e0:zaP c a (a+n) v=fun j=>if a≤j∧j≤a+n then(c j).or v else c j:=by unfold zaP;rw [if_neg (by omega)]
 rw [e0];unfold zbF;show _=if a≤i∧i≤a+n then(c i).or v else c i
 by_cases e:a≤i∧i<a+(n+1)
 ·rw [if_pos e,if_pos (by omega)]
 ·rw [if_neg e,if_neg (by omega)]
structure StM(w wr:World)(b:Nat)(bv:Value)(k:Kn)(v:Rg):Prop where
 kn:KnM wr b bv k
 lo:wr.cell? ⟨w.heap.size+1,0,none⟩=some (.int .i64 v.lo)
 hi:wr.cell? ⟨w.heap.size+1,1,none⟩=some (.int .i64 v.hi)
 low:w.grownBy wr (some b)
theorem StM.below{w wr wy:World}{b:Nat}{bv:Value}{k:Kn}{v:Rg}(L:StM w wr b bv k v)(hb:qB wr wy):StM w wy b bv k v:=by
 have d:w.heap.size+1<wr.heap.size:=World.block_lt_of_cell? wr _ L.lo;have c:∀ q j,q<wr.heap.size→wy.cell? ⟨q,j,none⟩=wr.cell? ⟨q,j,none⟩:=fun q j hq=>World.cell?_of_block (w:=wr) (a:=⟨q,j,none⟩) (hb.block q hq);exact⟨L.kn.below hb L.kn.lt,(c _ _ d).trans L.lo,(c _ _ d).trans L.hi,zag L.low ⟨hb.os,hb.tape,hb.output,hb.size,fun q hq _=>hb.block q hq⟩⟩
theorem StM.put{w wr:World}{b:Nat}{bv:Value}{k:Kn}{v:Rg}(L:StM w wr b bv k v)(hb:b<w.heap.size)(a:Nat)(ha:a<16)(u:Rg):StM w ((wr.setCell ⟨b,16+a*2,none⟩ (.int .i64 u.lo)).setCell ⟨b,16+a*2+1,none⟩ (.int .i64 u.hi)) b bv { k with cells:=updR k.cells a u } v:=by
 have c:∀ x j,(⟨w.heap.size+1,x,none⟩:Addr)≠⟨b,j,none⟩:=fun x j e=>by
  have:=congrArg Addr.block e;have:w.heap.size+1=b:=this;omega
 refine⟨L.kn.putC a ha u,?_,?_,zag L.low (zag (zac (Below.refl _ _)) (zac (Below.refl _ _)))⟩
 ·rw [World.cell?_setCell_other (h:=(c _ _).symm),World.cell?_setCell_other (h:=(c _ _).symm)];exact L.lo
 ·rw [World.cell?_setCell_other (h:=(c _ _).symm),World.cell?_setCell_other (h:=(c _ _).symm)];exact L.hi
theorem zoh{w:World}{b:Nat}{bv:Value}{k:Kn}(h:KnM w b bv k)(a n:Nat)(hn:1≤n)(ha:a+n≤15)(v:Rg):qC 258 #[.pointer (some ⟨b,0,none⟩),rv ⟨(a:Int),(a:Int)+(n:Int)⟩,rv v] w (zms w b bv { k with cells:=zaP k.cells a (a+n) v }):=by
 have u:=h.lt;have D:∀(W:World),KnM W b bv k→qC 255 #[.pointer (some ⟨b,0,none⟩),rv ⟨(a:Int),(a:Int)+(n:Int)⟩] W (qR W (.slice (some ⟨b,16+a*2,none⟩) (n+1) (16-a))):=fun W hW=>by
  have t:=ze2 hW ⟨(a:Int),(a:Int)+(n:Int)⟩ ⟨⟨by show _≤(a:Int);omega,by show(a:Int)≤_;omega⟩,⟨by show _≤(a:Int)+(n:Int);omega,by show(a:Int)+(n:Int)≤_;omega⟩,by show(a:Int)≤(a:Int)+(n:Int);omega⟩ (by show(0:Int)≤(a:Int);omega) (by show(a:Int)+(n:Int)≤15;omega);have e1:((a:Int)+(n:Int)+1).toNat=a+n+1:=by omega
  have F:((a:Nat):Int).toNat=a:=by omega
  have G:a+n+1-a=n+1:=by omega
  simp only [e1,F,G] at t;exact t
 have t1:((n:Int)+1 == 1)=false:=by simpa using (by omega:¬((n:Int)+1=1))
 have t2:¬n=0:=by omega
 go_enter Tryz.func258,Tryz.ntmps258;go_wp2_with(go_at_call 255;(with_reducible refine(D _ ((h.alloc _).alloc _)).mono ?_);rintro e C ⟨rfl,d⟩)
 have E:StM w C b bv { k with cells:=zbF k.cells a 0 v } v:=by
  rw [zmC];have g:qB w C:=box2.trans (d.mono (by simp;omega));exact⟨((h.alloc _).alloc _).below d (by simp;omega),zdN d 0,zdN d 1,⟨g.os,g.tape,g.output,g.size,fun q hq _=>g.block q hq⟩⟩
 clear d D
 go_loopw [19] (fun ti wr=>∃ j:Nat,j≤n+1∧ti=.int .i64 (j:Int)∧StM w wr b bv { k with cells:=zbF k.cells a j v } v) (fun ti _=>n+1-(intOf ti).toNat)
 case atStart=>exact⟨0,by omega,rfl,E⟩
 case round =>
  obtain⟨j,hj,rfl,L⟩:=hrel;clear E;by_cases hjn:j<n+1
  ·obtain⟨z,y⟩:=L.kn.cC (a+j) (by omega);have I:=L.kn.fz (16+(a+j)*2);have J:=L.kn.fz (16+(a+j)*2+1);have B:∀ f,StM w f b bv { k with cells:=zbF k.cells a j v } v→StM w ((f.setCell ⟨b,16+a*2+j*2,none⟩ (.int .i64 ((k.cells (a+j)).or v).lo)).setCell ⟨b,16+a*2+j*2+1,none⟩ (.int .i64 ((k.cells (a+j)).or v).hi)) b bv { k with cells:=zbF k.cells a (j+1) v } v:=fun f Ly=>by
    have t:=Ly.put u (a+j) (by omega) ((k.cells (a+j)).or v);have e:updR (zbF k.cells a j v) (a+j) ((k.cells (a+j)).or v)=zbF k.cells a (j+1) v:=zmD _ _ _ _;rw [show 16+(a+j)*2=16+a*2+j*2 by omega] at t;show StM w _ b bv { k with cells:=zbF k.cells a (j+1) v } v;rw [←e];exact t
   rw [show 16+(a+j)*2=16+a*2+j*2 by omega] at z y I J;have m:wr.cell? ⟨b,16+a*2+j*2,none⟩=some (.int .i64 (k.cells (a+j)).lo):=by rw [z];show some (Value.int .i64 (zbF k.cells a j v (a+j)).lo)=_;rw [zkg]
   have l:wr.cell? ⟨b,16+a*2+j*2+1,none⟩=some (.int .i64 (k.cells (a+j)).hi):=by rw [y];show some (Value.int .i64 (zbF k.cells a j v (a+j)).hi)=_;rw [zkg]
   clear z y;have hj0:(0:Int)≤(j:Int):=by omega
   have hj1:(j:Int)<(n:Int)+1:=by omega
   have s:=L.kn.lt;have f0:=L.lo;have f1:=L.hi;have A:Hid (∀ f,StM w f b bv { k with cells:=zbF k.cells a j v } v→StM w ((f.setCell ⟨b,16+a*2+j*2,none⟩ (.int .i64 ((k.cells (a+j)).or v).lo)).setCell ⟨b,16+a*2+j*2+1,none⟩ (.int .i64 ((k.cells (a+j)).or v).hi)) b bv { k with cells:=zbF k.cells a (j+1) v } v):=B;clear B;generalize k.cells (a+j)=c at m l A;have r:∀ W,qB wr W→StM w W b bv { k with cells:=zbF k.cells a j v } v∧W.cell? ⟨b,16+a*2+j*2,none⟩=some (.int .i64 c.lo)∧W.cell? ⟨b,16+a*2+j*2+1,none⟩=some (.int .i64 c.hi)∧W.frozen? ⟨b,16+a*2+j*2,none⟩=false∧W.frozen? ⟨b,16+a*2+j*2+1,none⟩=false∧W.cell? ⟨w.heap.size+1,0,none⟩=some (.int .i64 v.lo)∧W.cell? ⟨w.heap.size+1,1,none⟩=some (.int .i64 v.hi):=fun W hW=>by
    have o:=L.below hW;have e:∀ i,W.cell? ⟨b,i,none⟩=wr.cell? ⟨b,i,none⟩:=fun i=>World.cell?_of_block (w:=wr) (a:=⟨b,i,none⟩) (hW.block b s);exact⟨o,(e _).trans m,(e _).trans l,o.kn.fz _,o.kn.fz _,o.lo,o.hi⟩
   clear L;go_wp2;go_region_with(first|(go_at_call 156;(with_reducible refine(zpu c v _).mono ?_);rintro e f ⟨rfl,x⟩;have p:qB wr f:=(Below.refl _ wr).drew.trans x;have H:=(r _ p).1;have y0:=(r _ p).2.1;have y1:=(r _ p).2.2.1;have y2:=(r _ p).2.2.2.1;have y3:=(r _ p).2.2.2.2.1))
   all_goals go_wp2
   all_goals exact⟨⟨j+1,by omega,by go_num,A.out _ H⟩,by simp [intOf];omega⟩
  ·obtain rfl:j=n+1:=by omega
   go_wp2;refine bodyPost_end (results_none rfl _ _ _) rfl ⟨rfl,?_,L.low⟩;rw [←zog k.cells a n v hn];exact L.kn
theorem zr3{w:World}{b:Nat}{bv:Value}{k:Kn}(h:KnM w b bv k)(r v:Rg)(hr:r.lo≤r.hi)(h0:0≤r.lo)(h1:r.hi≤15):qC 258 #[.pointer (some ⟨b,0,none⟩),rv r,rv v] w (zms w b bv { k with cells:=zaP k.cells r.lo.toNat r.hi.toNat v }):=by
 obtain⟨lo,hi⟩:=r;obtain⟨a,rfl⟩:∃ a:Nat,lo=(a:Int):=⟨lo.toNat,by have:0≤lo:=h0;omega⟩
 obtain⟨n,rfl⟩:∃ n:Nat,hi=(a:Int)+(n:Int):=⟨(hi-a).toNat,by have:(a:Int)≤hi:=hr;omega⟩
 have h1':(a:Int)+(n:Int)≤15:=h1;have e1:((a:Int)+(n:Int)).toNat=a+n:=by omega
 have c:((a:Nat):Int).toNat=a:=by omega
 show qC 258 #[.pointer (some ⟨b,0,none⟩),rv ⟨(a:Int),(a:Int)+(n:Int)⟩,rv v] w (zms w b bv { k with cells:=zaP k.cells ((a:Nat):Int).toNat ((a:Int)+(n:Int)).toNat v });rw [e1,c];by_cases d:n=0
 ·subst d;have e3:zaP k.cells a (a+0) v=updR k.cells a v:=by unfold zaP;rw [if_pos (by omega)]
  rw [e3];have e4:(a:Int)+((0:Nat):Int)=(a:Int):=by omega
  rw [e4];exact zrj h a (by omega) v
 ·exact zoh h a n (by omega) (by omega) v
end
end Go.Proofs.YtfpgjkbjbbgciaaGreatDoor
