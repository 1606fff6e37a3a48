import Derived.Test.YtfpgjkbjbbgciaaGreatDoorMk22
import Derived.Test.YtfpgjkbjbbgciaaGreatDoorMk25
import Derived.Test.YtfpgjkbjbbgciaaGreatDoorMk29
set_option maxRecDepth 100000
set_option maxHeartbeats 8000000
namespace Go.Proofs.YtfpgjkbjbbgciaaGreatDoor
section
open Go.RowKit Sp
theorem zkj{w w2:World}{b:Nat}{bv:Value}{ks:List Kn}{e:Ending}{w':World}(hg:w.grownBy w2 (some b))(h:zc5 w2 b bv ks e w'):zc5 w b bv ks e w':=by
 obtain⟨c,a,j,rfl,A⟩:=h;refine⟨c,a,j,rfl,⟨zae hg A.grown,fun i p hp=>?_,A.len,A.kn,A.nodup,fun p hp=>?_⟩⟩
 ·obtain⟨g,e,d,f⟩:=A.ptrs i p hp;exact⟨g,e,Nat.le_trans hg.size d,f⟩
 ·rcases A.from' p hp with e|e
  ·exact .inl e
  ·exact .inr (Nat.le_trans hg.size e)
theorem zo2{w:World}{b:Nat}{bv:Value}{k:Kn}(h:KnM w b bv k)(r:Nat)(h0:0≤k.steps)(h1:k.steps≤100000)(n0:0≤k.next)(n1:k.next≤100000):
  Calls Tryz.prog 263 #[.agg #[.int .i64 (r:Int)],.pointer (some ⟨b,0,none⟩)] w (zaO w b bv (k.goTo (k.next+1))):=by
 have f:=h.alloc (.cells #[.int .i64 (r:Int)] 182);go_enter Tryz.func263,Tryz.ntmps263;go_wp2_with(go_at_call 227;(with_reducible refine(zbW f h0 h1 n0 n1).mono ?_);intro e w6 a;have d:=zcN (zaK (b:=some b) box1) a;clear a;obtain⟨g,rfl,j,i,l,c⟩:=d)
 go_ret;exact⟨g,rfl,j,i,l,c⟩
theorem zrC{w:World}{b:Nat}{bv:Value}{k:Kn}(h:KnM w b bv k)(z:Int)(h0:0≤k.steps)(h1:k.steps≤100000):
  Calls Tryz.prog 266 #[.agg #[.int .i64 z],.pointer (some ⟨b,0,none⟩)] w (zaO w b bv (k.goTo z)):=by
 have f:=h.alloc (.cells #[.int .i64 z] 185);go_enter Tryz.func266,Tryz.ntmps266;go_wp2_with(go_at_call 229;(with_reducible refine(zfZ f z h0 h1).mono ?_);intro e w6 a;have d:=zcN (zaK (b:=some b) box1) a;clear a;obtain⟨g,rfl,j,i,l,c⟩:=d)
 go_ret;exact⟨g,rfl,j,i,l,c⟩
theorem zrD{w:World}(p:Value):Calls Tryz.prog 289 #[.agg #[],p] w fun e w'=>e=.returned (.slice none 0 0)∧Below w.heap.size w w':=by
 go_enter Tryz.func289,Tryz.ntmps289;go_wp2;go_ret;exact⟨rfl,box1⟩
theorem zrE{w:World}{b cap:Nat}{ao:Option Addr}{k:Kn}(h:KnM w b (.slice ao k.behind.length cap) k)(B:BhM w ao cap k.behind)(z:Int)(hlen:k.behind.length<15)(h0:0≤k.steps)(h1:k.steps≤100000)(n0:0≤k.next)(n1:k.next≤100000):
  Calls Tryz.prog 280 #[.agg #[.int .i64 z],.pointer (some ⟨b,0,none⟩)] w (zpB w b k z):=by
 have o:=h.alloc (.cells #[.int .i64 z] 190);have n:=B.below (w':=w.alloc (.cells #[.int .i64 z] 190)) box1;go_enter Tryz.func280,Tryz.ntmps280;go_wp2_with(go_at_call 282;(with_reducible refine(ztU o n z hlen h0 h1 n0 n1).mono ?_);intro e w6 i;obtain⟨m,l,a,c,d⟩:=i;have j:=zcN (zaK (b:=some b) box1) a;clear a;obtain⟨g,rfl,q,p,r,f⟩:=j)
 go_ret;exact⟨m,l,⟨g,rfl,q,p,r,f⟩,c,Nat.le_trans (by simp) d⟩
theorem ziW{w:World}{b cap:Nat}{ao:Option Addr}{k:Kn}(h:KnM w b (.slice ao k.behind.length cap) k)(z:Int)(hlen:k.behind.length=15):
  Calls Tryz.prog 280 #[.agg #[.int .i64 z],.pointer (some ⟨b,0,none⟩)] w fun e w'=>e=zak 8 0∧Below w.heap.size w w':=by
 have d:=h.alloc (.cells #[.int .i64 z] 190);go_enter Tryz.func280,Tryz.ntmps280;go_wp2_with(go_at_call 282;(with_reducible refine(zrA d z hlen).mono ?_);rintro e wx ⟨rfl,c⟩;have a:=c.symm;subst a)
 exact⟨rfl,rfl,box1⟩
theorem ziX{w:World}{b cap:Nat}{ao:Option Addr}{k:Kn}(h:KnM w b (.slice ao 0 cap) k):Calls Tryz.prog 285 #[.agg #[],.pointer (some ⟨b,0,none⟩)] w fun e w'=>e=.returned (.slice none 0 0)∧Below w.heap.size w w':=by
 have d:=h.alloc (.cells #[] 192);go_enter Tryz.func285,Tryz.ntmps285;go_wp2_with(go_at_call 287;(with_reducible refine(ztT d).mono ?_);rintro e wx ⟨rfl,c⟩;have a:=c.symm;subst a)
 go_ret;exact⟨rfl,box1⟩
theorem ziY{w:World}{b cap:Nat}{ao:Option Addr}{k:Kn}{x:Int}{l:List Int}(h:KnM w b (.slice ao k.behind.length cap) k)(B:BhM w ao cap k.behind)(hk:k.behind=l++[x])(ap:∀ a,ao=some a→¬a.block=b)(h0:0≤k.steps)(h1:k.steps≤100000):
  Calls Tryz.prog 285 #[.agg #[],.pointer (some ⟨b,0,none⟩)] w fun e w'=>zaO w b (.slice ao l.length cap) ({ k with behind:=l }.goTo x) e w'∧BhM w' ao cap l:=by
 have n:=h.alloc (.cells #[] 192);have m:=B.below (w':=w.alloc (.cells #[] 192)) box1;go_enter Tryz.func285,Tryz.ntmps285;go_wp2_with(go_at_call 287;(with_reducible refine(zrB n m hk ap h0 h1).mono ?_);intro e w6 i;obtain⟨c,d⟩:=i;have j:=zcN (zaK (b:=some b) box1) c;clear c;obtain⟨g,rfl,p,o,hk,f⟩:=j)
 go_ret;exact⟨⟨g,rfl,p,o,hk,f⟩,d⟩
end
section
open Go.RowKit Sp Go.Lib
theorem ztY{w:World}{S o H cap m p0 pl:Nat}(hc:w.cell? ⟨S,o,none⟩=some (.slice (some ⟨H,0,none⟩) (m+1) cap))(hz:w.frozen? ⟨S,o,none⟩=false)(hSH:¬S=H)(hm:m≤100000)(hcap:m+1≤cap)(_hcm:cap≤maxLen)(c0:w.cell? ⟨H,0,none⟩=some (.pointer (some ⟨p0,0,none⟩)))(cl:w.cell? ⟨H,m,none⟩=some (.pointer (some ⟨pl,0,none⟩)))(fz:∀ j,w.frozen? ⟨H,j,none⟩=false)(_hS:S<w.heap.size)
  (Q:World→Prop)
  (hsink:∀ W,Below w.heap.size (((w.setCell ⟨H,0,none⟩ (.pointer (some ⟨pl,0,none⟩))).setCell ⟨H,m,none⟩ (.pointer none)).setCell ⟨S,o,none⟩ (.slice (some ⟨H,0,none⟩) m cap)) W→Calls Tryz.prog 154 #[.slice (some ⟨H,0,none⟩) m cap,.int .i64 0] W fun e w'=>e=.returned (.tuple #[])∧Q w') :
  Calls Tryz.prog 139 #[.pointer (some ⟨S,o,none⟩)] w fun e w'=>e=.returned (.pointer (some ⟨p0,0,none⟩))∧Q w':=by
 unfold maxLen at _hcm;have f0:=fz 0;have d:=fz m;have hHS:¬H=S:=fun e=>hSH e.symm;have m0:(0:Int)≤(m:Int):=by omega
 have l0:(w.setCell ⟨H,0,none⟩ (.pointer (some ⟨pl,0,none⟩))).cell? ⟨H,m,none⟩=some (.pointer (some ⟨pl,0,none⟩)):=by
  rw [zat w H 0 m _ _ c0];split
  ·rfl
  ·exact cl
 have g:(w.setCell ⟨H,0,none⟩ (.pointer (some ⟨pl,0,none⟩))).frozen? ⟨H,m,none⟩=false:=zcG.trans d;have a:∀ j,j<1→((w.setCell ⟨H,0,none⟩ (.pointer (some ⟨pl,0,none⟩))).drew.cell? ⟨H,m+j,none⟩).isSome=true:=fun j hj=>by
  have e:j=0:=by omega
  rw [e,Nat.add_zero];show((w.setCell ⟨H,0,none⟩ (.pointer (some ⟨pl,0,none⟩))).cell? ⟨H,m,none⟩).isSome=true;rw [l0];rfl
 have b:∀ j,j<1→(w.setCell ⟨H,0,none⟩ (.pointer (some ⟨pl,0,none⟩))).drew.frozen? ⟨H,m+j,none⟩=false:=fun j hj=>by
  have e:j=0:=by omega
  rw [e,Nat.add_zero];exact g
 have c:∀ w,(zeroValue 197).run Tryz.prog w=.ok (.pointer none) w:=fun w=>by kernel_rfl
 have hclr:(Builtin.clear_ #[151] 0 #[.slice (some ⟨H,m,none⟩) 1 (cap-m)]).run Tryz.prog (w.setCell ⟨H,0,none⟩ (.pointer (some ⟨pl,0,none⟩))).drew=.ok (.tuple #[]) ((w.setCell ⟨H,0,none⟩ (.pointer (some ⟨pl,0,none⟩))).drew.setCell ⟨H,m,none⟩ (.pointer none)) :=
  run_clear_slice _ 151 197 0 (.pointer none) Tryz.under151 c rfl rfl H m 1 (cap-m) (by omega) a b
 clear a b c;go_enter Tryz.func139,Tryz.ntmps139;go_wp2;go_region_held3 (fun W=>W.cell? ⟨S,o,none⟩=some (.slice (some ⟨H,0,none⟩) (m+1) cap))
  (first|exact hc|go_keep)
  (fail)
 all_goals go_wp2_with(go_at_call 154;(with_reducible refine(hsink _ (Below.refl _ _).drew).mono ?_);rintro e wx ⟨rfl,f⟩)
 all_goals go_ret
 all_goals exact⟨rfl,f⟩
def zgD(xs:List Wy)(m:Nat):List Wy:=(xs.set 0 (xs.getD m wy0)).take m
theorem zgc{xs:List Wy}{m:Nat}(h:xs.length=m+1):(zgD xs m).length=m:=by simp [zgD,h]
theorem zpC{xs:List Wy}{m i:Nat}(h:xs.length=m+1)(hi:i<m):(zgD xs m)[i]?=some (if i=0 then xs.getD m wy0 else xs.getD i wy0):=by
 unfold zgD;rw [List.getElem?_take_of_lt hi];by_cases e:i=0
 ·subst e;rw [if_pos rfl,List.getElem?_set_self (by omega)]
 ·rw [if_neg e,List.getElem?_set_ne (by omega),List.getElem?_eq_getElem (by omega)];simp [List.getD,(by omega:i<xs.length)]
theorem zgE{xs:List Wy}{m:Nat}(h:xs.length=m+1):(xs.getD 0 wy0 :: zgD xs m).Perm xs:=by
 cases xs with
 | nil=>simp at h
 | cons x t =>
  have b:t.length=m:=by simpa using h
  cases m with
  | zero =>
   have:t=[]:=List.eq_nil_of_length_eq_zero b;subst this;simp [zgD]
  | succ m =>
   have a:t≠[]:=by intro e;rw [e] at b;simp at b
   have e1:(x :: t).getD (m+1) wy0=t.getLast a:=by
    rw [List.getLast_eq_getElem];simp [List.getD,b]
   have e2:zgD (x :: t) (m+1)=t.getLast a :: t.dropLast:=by
    unfold zgD;rw [e1,List.set_cons_zero,List.take_succ_cons,List.dropLast_eq_take,b];rfl
   rw [e2];show(x :: t.getLast a :: t.dropLast).Perm (x :: t);refine List.Perm.cons x ?_;have e3:t.dropLast++[t.getLast a]=t:=List.dropLast_concat_getLast a;refine List.Perm.trans (List.perm_append_comm (l₁:=[t.getLast a]) (l₂:=t.dropLast)) ?_;rw [e3]
theorem zmz{xs:List Wy}{m:Nat}(h:xs.length=m+1):∀ x∈zgD xs m,x∈xs:=fun _x hx=>(zgE h).mem_iff.1 (List.mem_cons_of_mem _ hx)
end
section
open Go.RowKit Sp
structure Rs where
 marked:List Mk
 steps:Int
 seen:Nat
 covers:Bool
def Rs.begin(R:Rs)(s:Int):Rs:=⟨if zbn s then [] else R.marked,s,0,true⟩
structure RsC(w:World)(S o:Nat)(mv:Value)(R:Rs):Prop where
 cM:w.cell? ⟨S,o,none⟩=some mv
 cS:w.cell? ⟨S,o+1,none⟩=some (.int .i64 R.steps)
 cN:w.cell? ⟨S,o+2,none⟩=some (.int .i64 (R.seen:Int))
 cC:w.cell? ⟨S,o+3,none⟩=some (.bool R.covers)
structure Kept4(w w':World)(S o:Nat)(hb:Option Nat):Prop where
 os:w'.os=w.os
 tape:w'.tape=w.tape
 output:w'.output=w.output
 size:w.heap.size≤w'.heap.size
 block:∀ q,q<w.heap.size→¬q=S→some q≠hb→w'.heap[q]?=w.heap[q]?
 cell:∀ j,¬j=o→¬j=o+1→¬j=o+2→¬j=o+3→w'.cell? ⟨S,j,none⟩=w.cell? ⟨S,j,none⟩
 fz:∀ j,w'.frozen? ⟨S,j,none⟩=w.frozen? ⟨S,j,none⟩
theorem RsC.below{w w':World}{S o:Nat}{mv:Value}{R:Rs}(h:RsC w S o mv R)(hb:Below w.heap.size w w'):RsC w' S o mv R:=by
 have b:S<w.heap.size:=World.block_lt_of_cell? w _ h.cM;have c:∀ j,w'.cell? ⟨S,j,none⟩=w.cell? ⟨S,j,none⟩:=fun j=>World.cell?_of_block (a:=⟨S,j,none⟩) (hb.block S b);exact⟨(c _).trans h.cM,(c _).trans h.cS,(c _).trans h.cN,(c _).trans h.cC⟩
theorem RsC.set{w:World}{S o:Nat}{mv mv2:Value}{R R2:Rs}(h:RsC w S o mv R)(n:Nat)(v u:Value)(hu:w.cell? ⟨S,n,none⟩=some u)
  (h1:(if o=n then v else mv)=mv2) (h2:(if o+1=n then v else .int .i64 R.steps)=.int .i64 R2.steps) (h3:(if o+2=n then v else .int .i64 (R.seen:Int))=.int .i64 (R2.seen:Int)) (h4:(if o+3=n then v else .bool R.covers)=.bool R2.covers):RsC (w.setCell ⟨S,n,none⟩ v) S o mv2 R2:=by
 have e:∀ j x,w.cell? ⟨S,j,none⟩=some x→(w.setCell ⟨S,n,none⟩ v).cell? ⟨S,j,none⟩=some (if j=n then v else x):=fun j x hx=>by
  rw [zat w S n j v u hu];split
  ·rfl
  ·exact hx
 exact⟨by rw [e _ _ h.cM,h1],by rw [e _ _ h.cS,h2],by rw [e _ _ h.cN,h3],by rw [e _ _ h.cC,h4]⟩
theorem zcg{w:World}{S o n:Nat}{v u:Value}{hb:Option Nat}(hu:w.cell? ⟨S,n,none⟩=some u)(hn:n=o∨n=o+1∨n=o+2∨n=o+3):Kept4 w (w.setCell ⟨S,n,none⟩ v) S o hb :=
 ⟨rfl,rfl,rfl,by rw [World.size_setCell];exact Nat.le_refl _,fun q _ h1 _=>Below.heap_setCell w _ _ q h1,fun j h1 h2 h3 h4=>by rw [zat w S n j v u hu,if_neg (by omega)],fun j=>zcG⟩
theorem Kept4.trans{a b c:World}{S o:Nat}{hb:Option Nat}(h:Kept4 a b S o hb)(k:Kept4 b c S o hb):Kept4 a c S o hb :=
 ⟨k.os.trans h.os,k.tape.trans h.tape,k.output.trans h.output,Nat.le_trans h.size k.size,fun q hq h1 h2=>(k.block q (Nat.lt_of_lt_of_le hq h.size) h1 h2).trans (h.block q hq h1 h2),fun j h1 h2 h3 h4=>(k.cell j h1 h2 h3 h4).trans (h.cell j h1 h2 h3 h4),fun j=>(k.fz j).trans (h.fz j)⟩
theorem zc7{w w':World}{S o:Nat}{hb:Option Nat}(hS:S<w.heap.size)(h:Below w.heap.size w w'):Kept4 w w' S o hb :=
 ⟨h.os,h.tape,h.output,h.size,fun q hq _ _=>h.block q hq,fun j _ _ _ _=>World.cell?_of_block (a:=⟨S,j,none⟩) (h.block S hS),fun j=>World.frozen?_of_block (a:=⟨S,j,none⟩) (h.block S hS)⟩
def begN(s:Int)(n:Nat):Nat:=if zbn s then 0 else n
def zoq(w:World)(S o:Nat)(mv:Value)(R:Rs):Ending→World→Prop:=fun e w'=>e=.returned (.tuple #[])∧RsC w' S o mv R∧Kept4 w w' S o none
theorem zrr{w:World}{S o n cap:Nat}{ao:Option Addr}{R:Rs}(h:RsC w S o (.slice ao n cap) R)(fz:∀ j,w.frozen? ⟨S,j,none⟩=false)(hn:n≤cap)(hcap:cap≤maxLen)(h0:ao=none→n=0∧cap=0)(s:Int)(s0:0≤s)(s1:s≤100000):
  Calls Tryz.prog 151 #[.pointer (some ⟨S,o,none⟩),.int .i64 s] w (zoq w S o (.slice ao (begN s n) cap) (R.begin s)):=by
 have hS:S<w.heap.size:=World.block_lt_of_cell? w _ h.cM;have B:=h.cM;have c1:=h.cS;have c2:=h.cN;have c3:=h.cC;have f0:=fz o;have f1:=fz (o+1);have f2:=fz (o+2);have f3:=fz (o+3);obtain⟨X,C⟩:∃ X,(((w.setCell ⟨S,o,none⟩ (.slice ao n cap)).setCell ⟨S,o+1,none⟩ (.int .i64 s)).setCell ⟨S,o+2,none⟩ (.int .i64 0)).setCell ⟨S,o+3,none⟩ (.bool true)=X:=⟨_,rfl⟩
 have u:RsC (w.setCell ⟨S,o,none⟩ (.slice ao n cap)) S o (.slice ao n cap) R:=h.set o _ _ B (by rw [if_pos rfl]) (by rw [if_neg (by omega)]) (by rw [if_neg (by omega)]) (by rw [if_neg (by omega)]);have v:RsC ((w.setCell ⟨S,o,none⟩ (.slice ao n cap)).setCell ⟨S,o+1,none⟩ (.int .i64 s)) S o (.slice ao n cap) ⟨R.marked,s,R.seen,R.covers⟩:=u.set (o+1) _ _ u.cS (by rw [if_neg (by omega)]) (by rw [if_pos rfl]) (by rw [if_neg (by omega)]) (by rw [if_neg (by omega)]);have x:RsC (((w.setCell ⟨S,o,none⟩ (.slice ao n cap)).setCell ⟨S,o+1,none⟩ (.int .i64 s)).setCell ⟨S,o+2,none⟩ (.int .i64 0)) S o (.slice ao n cap) ⟨R.marked,s,0,R.covers⟩:=v.set (o+2) _ _ v.cN (by rw [if_neg (by omega)]) (by rw [if_neg (by omega)]) (by rw [if_pos rfl];rfl) (by rw [if_neg (by omega)]);have y:RsC X S o (.slice ao n cap) ⟨R.marked,s,0,true⟩:=by rw [←C];exact x.set (o+3) _ _ x.cC (by rw [if_neg (by omega)]) (by rw [if_neg (by omega)]) (by rw [if_neg (by omega)]) (by rw [if_pos rfl])
 have A:Kept4 w X S o none:=by rw [←C];exact(zcg B (by omega)).trans ((zcg u.cS (by omega)).trans ((zcg v.cN (by omega)).trans (zcg x.cC (by omega))))
 have k:Hid (RsC X S o (.slice ao n cap) ⟨R.marked,s,0,true⟩∧Kept4 w X S o none∧(∀ j,w.frozen? ⟨S,j,none⟩=false)∧n≤cap∧cap≤maxLen∧(ao=none→n=0∧cap=0)):=⟨y,A,fz,hn,hcap,h0⟩
 have g:=zc6 y.cS s0 s1;clear u v x y A fz hn hcap h0 h;by_cases m:zbn s=true
 ·have f:Calls Tryz.prog 167 #[.pointer (some ⟨S,o,none⟩)] X fun e w'=>e=.returned (.bool true)∧Below X.heap.size X w':=by
   have t:zbn (⟨R.marked,s,0,true⟩:Rs).steps=true:=m;rw [t] at g;exact g
  clear g;have d:∀ c,Below X.heap.size X c→zoq w S o (.slice ao (begN s n) cap) (R.begin s) (.returned (.tuple #[])) (c.setCell ⟨S,o,none⟩ (.slice ao 0 cap)):=fun c b=>by
   obtain⟨l,p,_⟩:=k.out;have z:=l.below b;have i:S<X.heap.size:=World.block_lt_of_cell? _ _ l.cM;refine⟨rfl,?_,p.trans ((zc7 i b).trans (zcg z.cM (by omega)))⟩;unfold Rs.begin begN;rw [if_pos m,if_pos m];exact z.set o _ _ z.cM (by rw [if_pos rfl]) (by rw [if_neg (by omega)]) (by rw [if_neg (by omega)]) (by rw [if_neg (by omega)])
  have q:∀ c,Below X.heap.size X c→c.cell? ⟨S,o,none⟩=some (.slice ao n cap)∧c.frozen? ⟨S,o,none⟩=false:=fun c b=>by
   obtain⟨l,p,fz,_⟩:=k.out;have i:S<X.heap.size:=World.block_lt_of_cell? _ _ l.cM;exact⟨(l.below b).cM,((zc7 (o:=o) (hb:=none) i b).fz o).trans ((p.fz o).trans (fz o))⟩
  cases ao with
  | none =>
   obtain⟨_,_,_,_,_,h0⟩:=k.out;obtain⟨rfl,rfl⟩:=h0 rfl;clear k h0;go_enter Tryz.func151,Tryz.ntmps151;go_wp2_with(go_at_call 167;(with_reducible refine f.mono ?_);rintro e c ⟨rfl,b⟩;obtain⟨D,E⟩:=q c b)
   exact bodyPost_end (results_none rfl _ _ _) rfl (d c b)
  | some a =>
   obtain⟨_,_,_,hn,hcap,h0⟩:=k.out;clear k h0;unfold maxLen at hcap;go_enter Tryz.func151,Tryz.ntmps151;go_wp2_with(go_at_call 167;(with_reducible refine f.mono ?_);rintro e c ⟨rfl,b⟩;obtain⟨D,E⟩:=q c b)
   exact bodyPost_end (results_none rfl _ _ _) rfl (d c b)
 ·have r:zbn s=false:=by simpa using m
  have f:Calls Tryz.prog 167 #[.pointer (some ⟨S,o,none⟩)] X fun e w'=>e=.returned (.bool false)∧Below X.heap.size X w':=by
   have t:zbn (⟨R.marked,s,0,true⟩:Rs).steps=false:=r;rw [t] at g;exact g
  clear g;have d:∀ c,Below X.heap.size X c→zoq w S o (.slice ao (begN s n) cap) (R.begin s) (.returned (.tuple #[])) c:=fun c b=>by
   obtain⟨l,p,_⟩:=k.out;have i:S<X.heap.size:=World.block_lt_of_cell? _ _ l.cM;refine⟨rfl,?_,p.trans (zc7 i b)⟩;unfold Rs.begin begN;rw [if_neg m,if_neg m];exact l.below b
  clear k m r;go_enter Tryz.func151,Tryz.ntmps151;go_wp2_with(go_at_call 167;(with_reducible refine f.mono ?_);rintro e c ⟨rfl,b⟩)
  exact bodyPost_end (results_none rfl _ _ _) rfl (d c b)
end
section
open Go.RowKit Sp
theorem zaf{α:Type}{l:List α}{n:Nat}(h:l.length=n+1):∃ a r,l=a :: r∧r.length=n:=by
 cases l with
 | nil=>simp at h
 | cons a r=>exact⟨a,r,rfl,by simpa using h⟩
theorem zAg{α:Type}(l:List α)(h:l.length=51):∃ x0 x1 x2 x3 x4 x5 x6 x7 x8 x9 x10 x11 x12 x13 x14 x15 x16 x17 x18 x19 x20 x21 x22 x23 x24 x25 x26 x27 x28 x29 x30 x31 x32 x33 x34 x35 x36 x37 x38 x39 x40 x41 x42 x43 x44 x45 x46 x47 x48 x49 x50,l=x0 :: x1 :: x2 :: x3 :: x4 :: x5 :: x6 :: x7 :: x8 :: x9 :: x10 :: x11 :: x12 :: x13 :: x14 :: x15 :: x16 :: x17 :: x18 :: x19 :: x20 :: x21 :: x22 :: x23 :: x24 :: x25 :: x26 :: x27 :: x28 :: x29 :: x30 :: x31 :: x32 :: x33 :: x34 :: x35 :: x36 :: x37 :: x38 :: x39 :: x40 :: x41 :: x42 :: x43 :: x44 :: x45 :: x46 :: x47 :: x48 :: x49 :: x50 :: []:=by
 obtain⟨x0,l0,e0,h0⟩:=zaf h;obtain⟨x1,l1,e1,h1⟩:=zaf h0;obtain⟨x2,l2,e2,h2⟩:=zaf h1;obtain⟨x3,l3,e3,h3⟩:=zaf h2;obtain⟨x4,l4,e4,h4⟩:=zaf h3;obtain⟨x5,l5,e5,h5⟩:=zaf h4;obtain⟨x6,l6,e6,h6⟩:=zaf h5;obtain⟨x7,l7,e7,h7⟩:=zaf h6;obtain⟨x8,l8,e8,h8⟩:=zaf h7;obtain⟨x9,l9,e9,h9⟩:=zaf h8;obtain⟨x10,l10,a,S⟩:=zaf h9;obtain⟨x11,l11,b,T⟩:=zaf S;obtain⟨x12,l12,c,U⟩:=zaf T;obtain⟨x13,l13,d,V⟩:=zaf U;obtain⟨x14,l14,f,W⟩:=zaf V;obtain⟨x15,l15,g,X⟩:=zaf W;obtain⟨x16,l16,i,Y⟩:=zaf X;obtain⟨x17,l17,j,Z⟩:=zaf Y;obtain⟨x18,l18,k,aa⟩:=zaf Z;obtain⟨x19,l19,m,ab⟩:=zaf aa;obtain⟨x20,l20,n,ac⟩:=zaf ab;obtain⟨x21,l21,o,ad⟩:=zaf ac;obtain⟨x22,l22,p,ae⟩:=zaf ad;obtain⟨x23,l23,q,af⟩:=zaf ae;obtain⟨x24,l24,r,ag⟩:=zaf af;obtain⟨x25,l25,s,ah⟩:=zaf ag;obtain⟨x26,l26,t,ai⟩:=zaf ah;obtain⟨x27,l27,u,aj⟩:=zaf ai;obtain⟨x28,l28,v,ak⟩:=zaf aj;obtain⟨x29,l29,w,al⟩:=zaf ak;obtain⟨x30,l30,x,am⟩:=zaf al;obtain⟨x31,l31,y,an⟩:=zaf am;obtain⟨x32,l32,z,ao⟩:=zaf an;obtain⟨x33,l33,A,ap⟩:=zaf ao;obtain⟨x34,l34,B,aq⟩:=zaf ap;obtain⟨x35,l35,C,ar⟩:=zaf aq;obtain⟨x36,l36,D,au⟩:=zaf ar;obtain⟨x37,l37,E,av⟩:=zaf au;obtain⟨x38,l38,F,aw⟩:=zaf av;obtain⟨x39,l39,G,ax⟩:=zaf aw;obtain⟨x40,l40,H,ay⟩:=zaf ax;obtain⟨x41,l41,I,az⟩:=zaf ay;obtain⟨x42,l42,J,aA⟩:=zaf az;obtain⟨x43,l43,K,aB⟩:=zaf aA;obtain⟨x44,l44,L,aC⟩:=zaf aB;obtain⟨x45,l45,M,aD⟩:=zaf aC;obtain⟨x46,l46,N,aE⟩:=zaf aD;obtain⟨x47,l47,O,aF⟩:=zaf aE;obtain⟨x48,l48,P,aG⟩:=zaf aF;obtain⟨x49,l49,Q,aH⟩:=zaf aG;obtain⟨x50,l50,R,aI⟩:=zaf aH;have e:=List.length_eq_zero_iff.1 aI;exact⟨x0,x1,x2,x3,x4,x5,x6,x7,x8,x9,x10,x11,x12,x13,x14,x15,x16,x17,x18,x19,x20,x21,x22,x23,x24,x25,x26,x27,x28,x29,x30,x31,x32,x33,x34,x35,x36,x37,x38,x39,x40,x41,x42,x43,x44,x45,x46,x47,x48,x49,x50,by rw [e0,e1,e2,e3,e4,e5,e6,e7,e8,e9,a,b,c,d,f,g,i,j,k,m,n,o,p,q,r,s,t,u,v,w,x,y,z,A,B,C,D,E,F,G,H,I,J,K,L,M,N,O,P,Q,R,e]⟩
theorem zwP(W:World)(x0 x1 x2 x3 x4 x5 x6 x7 x8 x9 x10 x11 x12 x13 x14 x15 x16 x17 x18 x19 x20 x21 x22 x23 x24 x25 x26 x27 x28 x29 x30 x31 x32 x33 x34 x35 x36 x37 x38 x39 x40 x41 x42 x43 x44 x45 x46 x47 x48 x49 x50:Value):(Instr.buildSlice 152 1 #[(0,.agg (x0 :: x1 :: x2 :: x3 :: x4 :: x5 :: x6 :: x7 :: x8 :: x9 :: x10 :: x11 :: x12 :: x13 :: x14 :: x15 :: x16 :: x17 :: x18 :: x19 :: x20 :: x21 :: x22 :: x23 :: x24 :: x25 :: x26 :: x27 :: x28 :: x29 :: x30 :: x31 :: x32 :: x33 :: x34 :: x35 :: x36 :: x37 :: x38 :: x39 :: x40 :: x41 :: x42 :: x43 :: x44 :: x45 :: x46 :: x47 :: x48 :: x49 :: x50 :: []).toArray)]).run Tryz.prog W=.ok (.slice (some ⟨W.heap.size,0,none⟩) 1 1) (W.alloc (.cells (x0 :: x1 :: x2 :: x3 :: x4 :: x5 :: x6 :: x7 :: x8 :: x9 :: x10 :: x11 :: x12 :: x13 :: x14 :: x15 :: x16 :: x17 :: x18 :: x19 :: x20 :: x21 :: x22 :: x23 :: x24 :: x25 :: x26 :: x27 :: x28 :: x29 :: x30 :: x31 :: x32 :: x33 :: x34 :: x35 :: x36 :: x37 :: x38 :: x39 :: x40 :: x41 :: x42 :: x43 :: x44 :: x45 :: x46 :: x47 :: x48 :: x49 :: x50 :: []).toArray 217)):=by kernel_rfl
theorem zAh(W:World)(cs:List Value)(h:cs.length=51):(Instr.buildSlice 152 1 #[(0,.agg cs.toArray)]).run Tryz.prog W=.ok (.slice (some ⟨W.heap.size,0,none⟩) 1 1) (W.alloc (.cells cs.toArray 217)):=by
 obtain⟨Q,R,S,T,U,V,X,Y,Z,x9,a,b,c,d,e,f,g,i,j,k,l,m,n,o,p,q,r,s,t,u,v,w,x,y,z,A,B,C,D,E,F,G,H,I,J,K,L,M,N,O,P,rfl⟩:=zAg cs h;exact zwP W Q R S T U V X Y Z x9 a b c d e f g i j k l m n o p q r s t u v w x y z A B C D E F G H I J K L M N O P
theorem Tryz.info217:(Tryz.prog.info? 217).map (fun i=>(i.size,i.bytes))=some (51,424):=by kernel_rfl
theorem Tryz.zero217:((Tryz.prog.info? 217).bind (·.zero)).map (·.cells.size)=some 51:=by kernel_rfl
theorem Tryz.under152:Tryz.prog.underlying 152=some (.slice 217):=by kernel_rfl
theorem zkP:∃ i z,Tryz.prog.info? 217=some i∧i.zero=some z∧i.size=51∧i.bytes=424∧z.cells.size=51:=by
 have b:=Tryz.info217;have a:=Tryz.zero217;cases hi:Tryz.prog.info? 217 with
 | none=>rw [hi] at b;cases b
 | some i =>
  rw [hi] at b a;simp only [Option.map_some,Option.some.injEq,Prod.mk.injEq,Option.bind_some] at b a;cases hz:i.zero with
  | none=>rw [hz] at a;cases a
  | some z =>
   rw [hz] at a;simp only [Option.map_some,Option.some.injEq] at a;exact⟨i,z,rfl,hz,b.1,b.2,a⟩
section
variable {P:Program} {md:Region.Mode} {ops:Array Oper} {Q:Exit→Act→World→Prop} {fuel:Nat} {listed:Array Bool} {a:Act} {w:World}
theorem zdp(i:Nat){o:Oper}(hr:Region.ready md ops listed=[i])(ho:ops[i]?=some o)(hg:o.guard=none)(v:Value)(w':World)(h:(execOp a.eval o).run P w=.ok (.value v) w')(rest:wpAny P md ops Q fuel (listed.setIfInBounds i true) (a.put o.dst v) w'):wpAny P md ops Q (fuel+1) listed a w :=
 wpAny_ready hr (by simp) (AllReady.cons ho (fun K hK=>by
  have hw:Region.wanted o (yielded ops a.tmps)=true:=by simp [Region.wanted,hg]
  rw [if_pos hw];unfold Oper.wp;rw [h];exact hK _ _ rest) AllReady.nil)
theorem zwQ(i:Nat){o:Oper}(hr:Region.ready md ops listed=[i])(ho:ops[i]?=some o)(hg:o.guard=none)(w':World)(h:(execOp a.eval o).run P w=.ok .skip w')(rest:wpAny P md ops Q fuel (listed.setIfInBounds i true) (a.put o.dst undef) w'):wpAny P md ops Q (fuel+1) listed a w :=
 wpAny_ready hr (by simp) (AllReady.cons ho (fun K hK=>by
  have hw:Region.wanted o (yielded ops a.tmps)=true:=by simp [Region.wanted,hg]
  rw [if_pos hw];unfold Oper.wp;rw [h];exact hK _ _ rest) AllReady.nil)
theorem zub(i j:Nat){o p:Oper}(hr:Region.ready md ops listed=[i,j])(ho:ops[i]?=some o)(hg:o.guard=none)(v:Value)(w':World)(h:(execOp a.eval o).run P w=.ok (.value v) w')(rest:wpAny P md ops Q fuel (listed.setIfInBounds i true) (a.put o.dst v) w')
  (hp:ops[j]?=some p) (hg2:p.guard=none) (u:Value) (w2:World) (h2:(execOp a.eval p).run P w=.ok (.value u) w2) (rest2:wpAny P md ops Q fuel (listed.setIfInBounds j true) (a.put p.dst u) w2):wpAny P md ops Q (fuel+1) listed a w :=
 wpAny_ready hr (by simp) (AllReady.cons ho (fun K hK=>by
  have hw:Region.wanted o (yielded ops a.tmps)=true:=by simp [Region.wanted,hg]
  rw [if_pos hw];unfold Oper.wp;rw [h];exact hK _ _ rest) (AllReady.cons hp (fun K hK=>by
  have hw:Region.wanted p (yielded ops a.tmps)=true:=by simp [Region.wanted,hg2]
  rw [if_pos hw];unfold Oper.wp;rw [h2];exact hK _ _ rest2) AllReady.nil))
theorem zhj(ty:TypeId)(x:Operand){o:Oper}(ho:o.op=.load ty x)(b f:Nat)(hx:a.eval x=.pointer (some ⟨b,f,none⟩))(cs:List Value)(d:TypeDesc)(hc:w.rangeAt b f cs)
  (hu:P.underlying ty=some d) (hd:d.isRow=true) (hi:(P.info? ty).map (·.size)=some cs.length):(execOp a.eval o).run P w=.ok (.value (.agg cs.toArray)) w:=by
 unfold execOp;simp only [ho,hx,Instr.loadAt,Instr.sureAddr,Sem.run_bind,Sem.run_pure,Result.andThen_ok,run_loadVar_mid _ b f ty cs d hc hu hd hi]
end
theorem zea{a:Act}{o:Oper}(x:Operand)(ho:o.op=.buildSlice 152 1 #[(0,x)])(cs:List Value)(hx:a.eval x=.agg cs.toArray)(h:cs.length=51)(W:World):(execOp a.eval o).run Tryz.prog W=.ok (.value (.slice (some ⟨W.heap.size,0,none⟩) 1 1)) (W.alloc (.cells cs.toArray 217)):=by
 unfold execOp;simp only [ho,Sem.run_bind];have:=zAh W cs h;simp only [List.map_toArray,List.map_cons,List.map_nil,hx,this,Sem.run_pure,Result.andThen_ok]
theorem zbX{w w':World}{B e size n:Nat}{v:Value}{l:List Value}(h:w.ownsRow B e size v n l)(hb:∀ q,v.ownBlock=some q→w'.heap[q]?=w.heap[q]?):w'.ownsRow B e size v n l:=by
 refine⟨h.1,?_⟩;rcases h.2 with i|⟨g,b,c,rfl,d,f,a⟩
 ·exact .inl i
 ·exact .inr ⟨g,b,c,rfl,d,(hb g rfl).trans f,a⟩
def mk0:Mk:=⟨none,0,kn0⟩
def Rs.see(R:Rs)(m:Mk):Rs:=⟨if zbn R.steps then R.marked++[m] else R.marked,R.steps,R.seen+1,R.covers&&(!zbn R.steps&&(decide (R.seen<R.marked.length)&&zb9 m.k (R.marked.getD R.seen mk0).k))⟩
def zcR(w:World)(S o B:Nat)(mv:Value)(R:Rs):Ending→World→Prop:=fun e w'=>e=.returned (.tuple #[])∧∃ mv',RsC w' S o mv' R∧w'.ownsRow B 217 51 mv' R.marked.length (zbi R.marked)∧(∀ q,mv'.ownBlock=some q→mv.ownBlock=some q∨w.heap.size≤q)∧Kept4 w w' S o mv.ownBlock
theorem zor{w w':World}{S o:Nat}{hb:Option Nat}(hS:S<w.heap.size)(hne:hb≠some S)(h:w.grownBy w' hb):Kept4 w w' S o hb :=
 ⟨h.os,h.tape,h.output,h.size,fun q hq _ h2=>h.block q hq h2,fun j _ _ _ _=>World.cell?_of_block (a:=⟨S,j,none⟩) (h.block S hS (fun e=>hne e.symm)),fun j=>World.frozen?_of_block (a:=⟨S,j,none⟩) (h.block S hS (fun e=>hne e.symm))⟩
theorem zyU(W:World)(cs:List Value):∀(j:Nat) u,cs[j]?=some u→(W.alloc (.cells cs.toArray 217)).cell? ((⟨W.heap.size,0,none⟩:Addr).add j)=some u:=by
 intro j u a;rw [Addr.add_mid,Nat.zero_add,World.cell?_alloc_new (w:=W) cs.toArray 217 j,List.getElem?_toArray];exact a
end
end Go.Proofs.YtfpgjkbjbbgciaaGreatDoor
