import Derived.Test.YtfpgjkbjbbgciaaGreatDoorMk18
set_option maxRecDepth 100000
set_option maxHeartbeats 8000000
namespace Go.Proofs.YtfpgjkbjbbgciaaGreatDoor
open Go.RowKit Sp
theorem KnM.gone{w:World}{b:Nat}{bv:Value}{k:Kn}(h:KnM w b bv k)(z:Int):KnM ((w.setCell ⟨b,50,none⟩ (.int .i64 (k.steps+1))).setCell ⟨b,48,none⟩ (.int .i64 z)) b bv (k.goTo z):=by
 have a:KnM (w.setCell ⟨b,50,none⟩ (.int .i64 (k.steps+1))) b bv { k with steps:=k.steps+1 }:=h.set 50 _ _ h.cS (fun r hr=>⟨by rw [if_neg (by omega)],by rw [if_neg (by omega)]⟩) (fun r hr=>⟨by rw [if_neg (by omega)],by rw [if_neg (by omega)]⟩) (by rw [if_neg (by omega)]) (by rw [if_neg (by omega)]) (by rw [if_pos rfl]);exact a.set 48 _ _ a.cN (fun r hr=>⟨by rw [if_neg (by omega)];rfl,by rw [if_neg (by omega)];rfl⟩) (fun r hr=>⟨by rw [if_neg (by omega)];rfl,by rw [if_neg (by omega)];rfl⟩) (by rw [if_pos rfl];rfl) (by rw [if_neg (by omega)]) (by rw [if_neg (by omega)];rfl)
theorem zpA{w:World}{b:Nat}{bv:Value}{k:Kn}(h:KnM w b bv k)(z:Int):zaO w b bv (k.goTo z) (.returned (.slice (some ⟨w.heap.size,0,none⟩) 1 1)) (((w.setCell ⟨b,50,none⟩ (.int .i64 (k.steps+1))).setCell ⟨b,48,none⟩ (.int .i64 z)).alloc (.cells #[.pointer (some ⟨b,0,none⟩)] 197)):=by
 refine⟨w.heap.size,rfl,Nat.le_refl _,?_,(h.gone z).alloc _,?_⟩
 ·have e:((w.setCell ⟨b,50,none⟩ (.int .i64 (k.steps+1))).setCell ⟨b,48,none⟩ (.int .i64 z)).heap.size=w.heap.size:=by rw [World.size_setCell,World.size_setCell]
  rw [←e];exact World.cell?_alloc_new _ _ _ 0
 ·exact zae (zae (zah (Below.refl _ _)) (zah (Below.refl _ _))) (World.grownBy_alloc _ _ _)
theorem zbW{w:World}{b:Nat}{bv:Value}{k:Kn}(h:KnM w b bv k)(h0:0≤k.steps)(h1:k.steps≤100000)(n0:0≤k.next)(n1:k.next≤100000):Calls Tryz.prog 227 #[.pointer (some ⟨b,0,none⟩)] w (zaO w b bv (k.goTo (k.next+1))):=by
 have c:=h.cS;have n:=h.cN;have f1:=h.fz 50;have f2:=h.fz 48;have hlt:=h.lt;go_enter Tryz.func227,Tryz.ntmps227;go_wp2;go_ret;exact zpA h _
theorem ztT{w:World}{b cap:Nat}{ao:Option Addr}{k:Kn}(h:KnM w b (.slice ao 0 cap) k):Calls Tryz.prog 287 #[.pointer (some ⟨b,0,none⟩)] w fun e w'=>e=.returned (.slice none 0 0)∧w'=w:=by
 have c:=h.cB;go_enter Tryz.func287,Tryz.ntmps287;go_wp2;go_ret;exact⟨rfl,rfl⟩
theorem KnM.putB{w:World}{b:Nat}{bv:Value}{k:Kn}(h:KnM w b bv k)(bv2:Value)(l:List Int):KnM (w.setCell ⟨b,49,none⟩ bv2) b bv2 { k with behind:=l } :=
 h.set 49 _ _ h.cB (fun r hr=>⟨by rw [if_neg (by omega)],by rw [if_neg (by omega)]⟩) (fun r hr=>⟨by rw [if_neg (by omega)],by rw [if_neg (by omega)]⟩) (by rw [if_neg (by omega)]) (by rw [if_pos rfl]) (by rw [if_neg (by omega)])
theorem zfW(w:World)(ao:Option Addr)(n cap:Nat)(_hn:n≤1000000):Calls Tryz.prog 114 #[.slice ao n cap] w fun e w'=>e=.returned (.int .i64 (n:Int))∧w'=w:=by
 go_enter Tryz.func114,Tryz.ntmps114;go_wp2;go_ret;exact⟨rfl,rfl⟩
theorem zml{w:World}{S o:Nat}{v:Value}:Below S w (w.setCell ⟨S,o,none⟩ v):=(Below.refl S w).setCell (p:=⟨S,o,none⟩) (Nat.le_refl _) v
theorem ztB{w:World}{S:Nat}{ao:Option Addr}{n cap looks:Nat}(c1:w.cell? ⟨S,1,none⟩=some (.slice ao n cap))(c6:w.cell? ⟨S,6,none⟩=some (.int .i64 (looks:Int)))(fz:w.frozen? ⟨S,6,none⟩=false)(hl:looks<500000)(hn:n≤1000):
  Calls Tryz.prog 115 #[.pointer (some ⟨S,0,none⟩)] w fun e w'=>e=.returned (.tuple #[])∧w'=w.setCell ⟨S,6,none⟩ (.int .i64 ((looks:Int)+1)):=by
 have h1:(0:Int)≤(looks:Int):=by omega
 have h2:(looks:Int)<500000:=by omega
 have t1:decide ((500000:Int)<(looks:Int)+1)=false:=by simpa using (by omega:¬(500000:Int)<(looks:Int)+1)
 have t2:decide ((1000:Int)<(n:Int))=false:=by simpa using (by omega:¬(1000:Int)<(n:Int))
 have a:=fun W=>zfW W ao n cap (by omega);go_enter Tryz.func115,Tryz.ntmps115;go_wp2_with(go_at_call 114;(with_reducible refine(a _).mono ?_);rintro e wx ⟨rfl,c⟩;have b:=c.symm;subst b)
 exact bodyPost_end (results_none rfl _ _ _) rfl ⟨rfl,rfl⟩
theorem ztC{w:World}{S:Nat}{ao:Option Addr}{n cap looks:Nat}(c1:w.cell? ⟨S,1,none⟩=some (.slice ao n cap))(c6:w.cell? ⟨S,6,none⟩=some (.int .i64 (looks:Int)))(fz:w.frozen? ⟨S,6,none⟩=false)(hl:looks≤500000)(hn:n≤100000)(h:500000≤looks∨1000<n):
  Calls Tryz.prog 115 #[.pointer (some ⟨S,0,none⟩)] w fun e w'=>e=zak 8 0∧Below S w w':=by
 have h1:(0:Int)≤(looks:Int):=by omega
 have a:=fun W=>zfW W ao n cap (by omega);by_cases d:looks=500000
 ·subst d;go_enter Tryz.func115,Tryz.ntmps115;go_wp2_with(go_at_call 114;(with_reducible refine(a _).mono ?_);rintro e f ⟨rfl,c⟩;have b:=c.symm;subst b)
  all_goals go_wp2
  exact⟨rfl,rfl,rfl,rfl,zml⟩
 ·have h2:(looks:Int)<500000:=by omega
  have t1:decide ((500000:Int)<(looks:Int)+1)=false:=by simpa using (by omega:¬(500000:Int)<(looks:Int)+1)
  have t2:(1000:Int)<(n:Int):=by omega
  go_enter Tryz.func115,Tryz.ntmps115;go_wp2_with(go_at_call 114;(with_reducible refine(a _).mono ?_);rintro e f ⟨rfl,c⟩;have b:=c.symm;subst b)
  all_goals go_wp2
  exact⟨rfl,rfl,rfl,rfl,zml⟩
theorem KnM.putR{w:World}{b:Nat}{bv:Value}{k:Kn}(h:KnM w b bv k)(a:Nat)(ha:a<8)(v:Rg):KnM ((w.setCell ⟨b,a*2,none⟩ (.int .i64 v.lo)).setCell ⟨b,a*2+1,none⟩ (.int .i64 v.hi)) b bv { k with regs:=updR k.regs a v }:=by
 have d:KnM (w.setCell ⟨b,a*2,none⟩ (.int .i64 v.lo)) b bv { k with regs:=updR k.regs a ⟨v.lo,(k.regs a).hi⟩ }:=h.set (a*2) _ _ (h.cR a ha).1 (fun c hc=>⟨by
  by_cases e:c=a
  ·subst e;rw [if_pos rfl];show _=Value.int .i64 (updR k.regs c ⟨v.lo,(k.regs c).hi⟩ c).lo;rw [zdm]
  ·rw [if_neg (by omega)];show _=Value.int .i64 (updR k.regs a ⟨v.lo,(k.regs a).hi⟩ c).lo;unfold updR;rw [if_neg e],by
  rw [if_neg (by omega)];show _=Value.int .i64 (updR k.regs a ⟨v.lo,(k.regs a).hi⟩ c).hi;unfold updR;by_cases e:c=a
  ·subst e;rw [if_pos rfl]
  ·rw [if_neg e]⟩) (fun r hr=>⟨by rw [if_neg (by omega)],by rw [if_neg (by omega)]⟩) (by rw [if_neg (by omega)]) (by rw [if_neg (by omega)]) (by rw [if_neg (by omega)])
 refine d.set (a*2+1) _ _ (d.cR a ha).2 (fun c hc=>⟨?_,?_⟩) (fun r hr=>⟨by rw [if_neg (by omega)],by rw [if_neg (by omega)]⟩) (by rw [if_neg (by omega)]) (by rw [if_neg (by omega)]) (by rw [if_neg (by omega)])
 ·rw [if_neg (by omega)];show Value.int .i64 (updR k.regs a ⟨v.lo,(k.regs a).hi⟩ c).lo=Value.int .i64 (updR k.regs a v c).lo;unfold updR;by_cases e:c=a
  ·rw [if_pos e,if_pos e]
  ·rw [if_neg e,if_neg e]
 ·show _=Value.int .i64 (updR k.regs a v c).hi;by_cases e:c=a
  ·subst e;rw [if_pos rfl,zdm]
  ·rw [if_neg (by omega)];show Value.int .i64 (updR k.regs a ⟨v.lo,(k.regs a).hi⟩ c).hi=_;unfold updR;rw [if_neg e,if_neg e]
def zf2(w:World)(b:Nat)(bv:Value)(k:Kn)(l r:Nat)(q:Option (Rg × Rg)):Ending→World→Prop:=fun e w'=>e=.returned (.bool q.isSome)∧w.grownBy w' (some b)∧∃ x y,(∀ p,q=some p→p=(x,y))∧KnM w' b bv { k with regs:=updR (updR k.regs l x) r y }
theorem ztL{w:World}{l r:Rg}{q:Option (Rg × Rg)}{e:Ending}{w':World}(h:zey w l r q e w'):∃ x y,e=.returned (.tuple #[rv x,rv y,.bool q.isSome])∧(∀ p,q=some p→p=(x,y))∧Below w.heap.size w w':=by
 obtain⟨a,h⟩:=h;cases q with
 | none=>obtain⟨x,y,rfl⟩:=h;exact⟨x,y,rfl,fun p hp=>(by cases hp),a⟩
 | some p=>obtain⟨x,y⟩:=p;exact⟨x,y,h,fun p hp=>(by cases hp;rfl),a⟩
theorem zp7{F:Nat}(hfn:∀(args:Array Value) (W:World),(callFunc F args).run Tryz.prog W=.ok (.enter F args) W){w:World}{b:Nat}{bv:Value}{k:Kn}(h:KnM w b bv k)(l r:Nat)(hl:l<8)(hr:r<8)(hne:¬l=r)(q:Option (Rg × Rg))(hF:∀ W,Calls Tryz.prog F #[rv (k.regs l),rv (k.regs r)] W (zey W (k.regs l) (k.regs r) q)):
  Calls Tryz.prog 273 #[.pointer (some ⟨b,0,none⟩),.int .i64 (l:Int),.int .i64 (r:Int),.func (.func F) #[] #[]] w (zf2 w b bv k l r q):=by
 obtain⟨d0,d1⟩:=h.cR l hl;obtain⟨d2,d3⟩:=h.cR r hr;have g:∀ W,Below w.heap.size w W→KnM W b bv k:=fun W hW=>h.below hW h.lt;have hlt:=h.lt;have hl0:(0:Int)≤(l:Int):=by omega
 have hl1:(l:Int)<8:=by omega
 have hr0:(0:Int)≤(r:Int):=by omega
 have hr1:(r:Int)<8:=by omega
 have n1:¬l*2=r*2:=by omega
 have n2:¬l*2+1=r*2:=by omega
 have n3:¬l*2=r*2+1:=by omega
 have n4:¬l*2+1=r*2+1:=by omega
 have n5:¬r*2=l*2:=by omega
 have n6:¬r*2+1=l*2:=by omega
 have n7:¬r*2=l*2+1:=by omega
 have n8:¬r*2+1=l*2+1:=by omega
 clear h;go_enter Tryz.func273,Tryz.ntmps273;go_wp2;go_region_with(first|((with_reducible refine(hF _).mono ?_);intro e j i;obtain⟨x,y,rfl,d,c⟩:=ztL i;have f:Below w.heap.size w j:=(Below.refl _ w).drew.trans c;have a:=g _ f;have y0:=(a.cR l hl).1;have y1:=(a.cR l hl).2;have y2:=a.fz (l*2);have y3:=a.fz (l*2+1);have y4:=(a.cR r hr).1;have y5:=(a.cR r hr).2;have y6:=a.fz (r*2);have y7:=a.fz (r*2+1)))
 all_goals go_wp2
 all_goals go_ret
 all_goals exact⟨rfl,zae (zae (zae (zah f) (zah (Below.refl _ _))) (zah (Below.refl _ _))) (zah (Below.refl _ _)),x,y,d,(a.putR l hl x).putR r hr y⟩
theorem KnM.has{w:World}{b:Nat}{bv:Value}{k:Kn}(h:KnM w b bv k)(j:Nat)(hj:j<51):∃ v,w.cell? ⟨b,j,none⟩=some v∧(bv.oneCell'=true→v.oneCell'=true):=by
 by_cases h1:j<16
 ·rcases Nat.mod_two_eq_zero_or_one j with e|e
  ·have:=(h.cR (j/2) (by omega)).1;rw [show j/2*2=j by omega] at this;exact⟨_,this,fun _=>rfl⟩
  ·have:=(h.cR (j/2) (by omega)).2;rw [show j/2*2+1=j by omega] at this;exact⟨_,this,fun _=>rfl⟩
 ·by_cases h2:j<48
  ·rcases Nat.mod_two_eq_zero_or_one j with e|e
   ·have:=(h.cC ((j-16)/2) (by omega)).1;rw [show 16+(j-16)/2*2=j by omega] at this;exact⟨_,this,fun _=>rfl⟩
   ·have:=(h.cC ((j-16)/2) (by omega)).2;rw [show 16+(j-16)/2*2+1=j by omega] at this;exact⟨_,this,fun _=>rfl⟩
  ·rcases(by omega:j=48∨j=49∨j=50) with e|e|e
   ·subst e;exact⟨_,h.cN,fun _=>rfl⟩
   ·subst e;exact⟨_,h.cB,fun h=>h⟩
   ·subst e;exact⟨_,h.cS,fun _=>rfl⟩
theorem KnM.row{w:World}{b:Nat}{bv:Value}{k:Kn}(h:KnM w b bv k):∃ cs:List Value,cs.length=51∧w.rangeAt b 0 cs∧(∀ j,j<51→cs[j]?=w.cell? ⟨b,j,none⟩)∧(bv.oneCell'=true→∀ v∈cs,v.oneCell'=true):=by
 have d:∀ j,j<51→((List.range 51).map fun j=>(w.cell? ⟨b,j,none⟩).getD undef)[j]?=w.cell? ⟨b,j,none⟩:=fun j c=>by
  obtain⟨v,a,_⟩:=h.has j c;rw [List.getElem?_map,List.getElem?_range c,a];simp [a]
 refine⟨(List.range 51).map fun j=>(w.cell? ⟨b,j,none⟩).getD undef,by simp,fun j v a=>?_,d,fun hb v a=>?_⟩
 ·have c:j<51:=by
   have:=(List.getElem?_eq_some_iff.1 a).1;simpa using this
  rw [Nat.zero_add,←d j c];exact a
 ·obtain⟨j,c,rfl⟩:=List.mem_map.1 a;obtain⟨v,a,e⟩:=h.has j (List.mem_range.1 c);rw [a];exact e hb
structure KnR(w:World)(b o:Nat)(bv:Value)(k:Kn):Prop where
 cR:∀ r,r<8→w.cell? ⟨b,o+r*2,none⟩=some (.int .i64 (k.regs r).lo)∧w.cell? ⟨b,o+(r*2+1),none⟩=some (.int .i64 (k.regs r).hi)
 cC:∀ c,c<16→w.cell? ⟨b,o+(16+c*2),none⟩=some (.int .i64 (k.cells c).lo)∧w.cell? ⟨b,o+(16+c*2+1),none⟩=some (.int .i64 (k.cells c).hi)
 cN:w.cell? ⟨b,o+48,none⟩=some (.int .i64 k.next)
 cB:w.cell? ⟨b,o+49,none⟩=some bv
 cS:w.cell? ⟨b,o+50,none⟩=some (.int .i64 k.steps)
theorem KnM.copyR{w w':World}{b b' o:Nat}{bv:Value}{k:Kn}(h:KnM w b bv k)(e:∀ j,j<51→w'.cell? ⟨b',o+j,none⟩=w.cell? ⟨b,j,none⟩):KnR w' b' o bv k :=
 ⟨fun r hr=>⟨(e _ (by omega)).trans (h.cR r hr).1,(e _ (by omega)).trans (h.cR r hr).2⟩,fun r hr=>⟨(e _ (by omega)).trans (h.cC r hr).1,(e _ (by omega)).trans (h.cC r hr).2⟩,(e _ (by omega)).trans h.cN,(e _ (by omega)).trans h.cB,(e _ (by omega)).trans h.cS⟩
theorem KnR.whole{w:World}{b:Nat}{bv:Value}{k:Kn}(h:KnR w b 0 bv k)(fz:∀ j,w.frozen? ⟨b,j,none⟩=false):KnM w b bv k:=by
 obtain⟨a,c,d,e,f⟩:=h;simp only [Nat.zero_add] at a c d e f;exact⟨a,c,d,e,f,fz⟩
theorem KnR.block{w w':World}{b o:Nat}{bv:Value}{k:Kn}(h:KnR w b o bv k)(e:w'.heap[b]?=w.heap[b]?):KnR w' b o bv k:=by
 have c:∀ j,w'.cell? ⟨b,j,none⟩=w.cell? ⟨b,j,none⟩:=fun j=>World.cell?_of_block (w:=w) (a:=⟨b,j,none⟩) e;exact⟨fun r hr=>⟨(c _).trans (h.cR r hr).1,(c _).trans (h.cR r hr).2⟩,fun r hr=>⟨(c _).trans (h.cC r hr).1,(c _).trans (h.cC r hr).2⟩,(c _).trans h.cN,(c _).trans h.cB,(c _).trans h.cS⟩
structure WaysAt(w w':World)(b:Nat)(bv:Value)(ks:List Kn)(ao:Option Addr)(ps:List Nat):Prop where
 grown:w.grownBy w' (some b)
 ptrs:∀(i p:Nat),ps[i]?=some p→∃ g,ao=some ⟨g,0,none⟩∧w.heap.size≤g∧w'.cell? ⟨g,i,none⟩=some (.pointer (some ⟨p,0,none⟩))
 len:ps.length=ks.length
 kn:∀(i p:Nat) (k:Kn),ps[i]?=some p→ks[i]?=some k→KnM w' p bv k
 nodup:ps.Nodup
 from':∀ p∈ps,p=b∨w.heap.size≤p
def zc5(w:World)(b:Nat)(bv:Value)(ks:List Kn):Ending→World→Prop:=fun e w'=>∃(ao:Option Addr) (cap:Nat) (ps:List Nat),e=.returned (.slice ao ps.length cap)∧WaysAt w w' b bv ks ao ps
theorem zkL{w:World}{b:Nat}{bv:Value}{k:Kn}{e:Ending}{w':World}(h:zaO w b bv k e w'):zc5 w b bv [k] e w':=by
 obtain⟨g,rfl,d,c,f,a⟩:=h;refine⟨some ⟨g,0,none⟩,1,[b],rfl,⟨a,fun i p hp=>?_,rfl,fun i p k' hp hk'=>?_,by simp,fun p hp=>.inl (List.mem_singleton.1 hp)⟩⟩
 ·cases i with
  | zero=>cases hp;exact⟨g,rfl,d,c⟩
  | succ i=>simp at hp
 ·cases i with
  | zero=>cases hp;cases hk';exact f
  | succ i=>simp at hp
abbrev Z217:Obj:=.cells #[.int .i64 0,.int .i64 0,.int .i64 0,.int .i64 0,.int .i64 0,.int .i64 0,.int .i64 0,.int .i64 0,.int .i64 0,.int .i64 0,.int .i64 0,.int .i64 0,.int .i64 0,.int .i64 0,.int .i64 0,.int .i64 0,.int .i64 0,.int .i64 0,.int .i64 0,.int .i64 0,.int .i64 0,.int .i64 0,.int .i64 0,.int .i64 0,.int .i64 0,.int .i64 0,.int .i64 0,.int .i64 0,.int .i64 0,.int .i64 0,.int .i64 0,.int .i64 0,.int .i64 0,.int .i64 0,.int .i64 0,.int .i64 0,.int .i64 0,.int .i64 0,.int .i64 0,.int .i64 0,.int .i64 0,.int .i64 0,.int .i64 0,.int .i64 0,.int .i64 0,.int .i64 0,.int .i64 0,.int .i64 0,.int .i64 0,.slice none 0 0,.int .i64 0] 217
theorem zeL(w:World):(w.alloc Z217).there w.heap.size 0 51:=fun j hj=>by
 refine⟨?_,by simp⟩;have h:=World.cell?_alloc_new (w:=w) #[.int .i64 0,.int .i64 0,.int .i64 0,.int .i64 0,.int .i64 0,.int .i64 0,.int .i64 0,.int .i64 0,.int .i64 0,.int .i64 0,.int .i64 0,.int .i64 0,.int .i64 0,.int .i64 0,.int .i64 0,.int .i64 0,.int .i64 0,.int .i64 0,.int .i64 0,.int .i64 0,.int .i64 0,.int .i64 0,.int .i64 0,.int .i64 0,.int .i64 0,.int .i64 0,.int .i64 0,.int .i64 0,.int .i64 0,.int .i64 0,.int .i64 0,.int .i64 0,.int .i64 0,.int .i64 0,.int .i64 0,.int .i64 0,.int .i64 0,.int .i64 0,.int .i64 0,.int .i64 0,.int .i64 0,.int .i64 0,.int .i64 0,.int .i64 0,.int .i64 0,.int .i64 0,.int .i64 0,.int .i64 0,.int .i64 0,.slice none 0 0,.int .i64 0] 217 (0+j);rw [h,Array.getElem?_eq_getElem (by simpa using hj)];rfl
theorem Tryz.size217:(Tryz.prog.info? 217).map (·.size)=some 51:=by kernel_rfl
theorem KnM.fresh{w:World}{b:Nat}{bv:Value}{k:Kn}(h:KnM w b bv k)(cs:List Value)(hl:cs.length=51)(hcs:∀ j,j<51→cs[j]?=w.cell? ⟨b,j,none⟩):
  KnM ((w.alloc Z217).setCells w.heap.size 0 cs) w.heap.size bv k∧KnM ((w.alloc Z217).setCells w.heap.size 0 cs) b bv k∧Below w.heap.size w ((w.alloc Z217).setCells w.heap.size 0 cs):=by
 have c:Below w.heap.size w ((w.alloc Z217).setCells w.heap.size 0 cs):=za8 _ 0 ((Below.refl w.heap.size w).alloc (Nat.le_refl _) _) (Nat.le_refl _);have d:=zeL w;rw [←hl] at d;have e:=World.rangeAt_setCells_same (w.alloc Z217) w.heap.size 0 cs d;refine⟨(h.copyR (o:=0) fun j hj=>?_).whole fun j=>?_,h.below c h.lt,c⟩
 ·rw [←hcs j hj];have a:j<cs.length:=by omega
  rw [List.getElem?_eq_getElem a];exact e j _ (List.getElem?_eq_getElem a)
 ·rw [World.frozen?_setCells];exact World.frozen?_alloc_at _ _ _ _ (by simp)
theorem zmo(w:World)(cs:Array Value)(t:TypeId)(b c:Obj)(j:Nat):(((w.alloc (.cells cs t)).alloc b).alloc c).cell? ⟨w.heap.size,j,none⟩=cs[j]?:=by
 have e:=(box2 (w:=w.alloc (.cells cs t)) (a:=b) (b:=c)).block w.heap.size (by simp);exact(World.cell?_of_block (w:=w.alloc (.cells cs t)) (a:=⟨w.heap.size,j,none⟩) e).trans (World.cell?_alloc_new _ _ _ j)
theorem ztK(b:Nat)(l h:Int)(h0:0≤l)(h1:l≤15)(h2:l≤h)(h3:h≤16):∀ W,(Instr.sliceAt 215 (.pointer (some ⟨b,16,none⟩)) (some (.int .i64 l)) (some (.int .i64 h)) none).run Tryz.prog W=.ok (.slice (some ⟨b,16+l.toNat*2,none⟩) (h.toNat-l.toNat) (16-l.toNat)) W:=by
 intro W;have e1:Tryz.prog.arrayLen 215=16:=by kernel_rfl
 have a:Tryz.prog.elem 215=213:=by kernel_rfl
 have d:Tryz.prog.underlying 215=some (.array (Tryz.prog.arrayLen 215) (Tryz.prog.elem 215)):=by rw [e1,a];kernel_rfl
 have c:(sizeOf (Tryz.prog.elem 215)).run Tryz.prog W=.ok 2 W:=by rw [a];kernel_rfl
 rw [run_sliceAt_array_lh W 215 ⟨b,16,none⟩ d .i64 .i64 l h h0 h2 (by rw [e1];exact h3),c];show Result.ok (slicedAt ⟨b,16,none⟩ l.toNat h.toNat (Tryz.prog.arrayLen 215) 2) W=_;unfold slicedAt;rw [e1,if_neg (by omega)];simp [Addr.add]
theorem zdY{w:World}{b:Nat}{bv:Value}{k:Kn}(h:KnM w b bv k)(r:Rg)(hr:r.Ok)(h0:0≤r.lo)(h1:r.hi≤15):Calls Tryz.prog 255 #[.pointer (some ⟨b,0,none⟩),rv r] w fun e w'=>e=.returned (.slice (some ⟨b,16+r.lo.toNat*2,none⟩) ((r.hi+1).toNat-r.lo.toNat) (16-r.lo.toNat))∧Below w.heap.size w w':=by
 unfold Rg.Ok i64 at hr;have hw:r.within ⟨0,15⟩=true:=by unfold Rg.within;simp;omega
 have hlt:=h.lt;have c:r.lo≤r.hi+1:=by omega
 have d:r.hi+1≤16:=by omega
 have b3:IntKind.i64.wrap (r.hi+1)=r.hi+1:=zd6 _ (by omega) (by omega);go_enter Tryz.func255,Tryz.ntmps255;go_wp2;have a:(((w.alloc (.cells #[.int .i64 r.lo,.int .i64 r.hi] 213)).alloc (.cells #[.int .i64 r.lo,.int .i64 r.hi] 213)).alloc (.cells #[.int .i64 0,.int .i64 15] 213)).cell? ⟨w.heap.size,0,none⟩=some (.int .i64 r.lo)∧(((w.alloc (.cells #[.int .i64 r.lo,.int .i64 r.hi] 213)).alloc (.cells #[.int .i64 r.lo,.int .i64 r.hi] 213)).alloc (.cells #[.int .i64 0,.int .i64 15] 213)).cell? ⟨w.heap.size,1,none⟩=some (.int .i64 r.hi):=⟨zmo _ _ _ _ _ 0,zmo _ _ _ _ _ 1⟩
 have hs:=ztK b r.lo (r.hi+1) h0 (by omega) c d;go_region_held3 (fun W=>W.cell? ⟨w.heap.size,0,none⟩=some (.int .i64 r.lo)∧W.cell? ⟨w.heap.size,1,none⟩=some (.int .i64 r.hi))
  (first|exact a|go_keep)
  (fail)
 all_goals go_wp2
 go_ret;exact⟨rfl,zaA.drew⟩
theorem zcN{w w2:World}{b:Nat}{bv:Value}{k:Kn}{e:Ending}{w':World}(hg:w.grownBy w2 (some b))(h:zaO w2 b bv k e w'):zaO w b bv k e w':=by
 obtain⟨g,d,a,f,i,c⟩:=h;exact⟨g,d,Nat.le_trans hg.size a,f,i,zae hg c⟩
theorem za0{w wx:World}{cs:Array Value}{t:TypeId}(hbx:Below (w.alloc (.cells cs t)).heap.size (w.alloc (.cells cs t)) wx)(j:Nat):wx.cell? ⟨w.heap.size,j,none⟩=cs[j]? :=
 (World.cell?_of_block (a:=⟨w.heap.size,j,none⟩) (hbx.block w.heap.size (by simp))).trans (World.cell?_alloc_new _ _ _ j)
theorem ze1{w wx w':World}{o:Obj}{b i j:Nat}{u v bv:Value}{k:Kn}{e:Ending}(hX:Below (w.alloc o).heap.size (w.alloc o) wx)(h:zaO ((wx.setCell ⟨b,i,none⟩ u).setCell ⟨b,j,none⟩ v) b bv k e w'):zaO w b bv k e w' :=
 zcN (zae (zah (box1.trans (hX.mono (by simp)))) (zah (Below.refl _ _))) h
theorem zua{w:World}{b:Nat}{bv:Value}{k:Kn}(h:KnM w b bv k)(r:Nat)(hr:r<8)(n:Int)(h0:0≤k.steps)(h1:k.steps≤100000)(n0:0≤k.next)(n1:k.next≤100000):
  Calls Tryz.prog 224 #[.agg #[.int .i64 (r:Int),.int .i64 n],.pointer (some ⟨b,0,none⟩)] w (zaO w b bv ({ k with regs:=updR k.regs r (only n) }.goTo (k.next+1))):=by
 have hlt:=h.lt;have r0:(0:Int)≤(r:Int):=by omega
 have r1:(r:Int)<8:=by omega
 have o:∀ W,Below (w.alloc (.cells #[.int .i64 (r:Int),.int .i64 n] 167)).heap.size (w.alloc (.cells #[.int .i64 (r:Int),.int .i64 n] 167)) W→KnM W b bv k:=fun W hW=>(h.alloc _).below hW (by simp;omega);go_enter Tryz.func224,Tryz.ntmps224;go_wp2;go_region_with(first
  | (go_at_call 226;(with_reducible refine(zh7 n _).mono ?_);rintro e d ⟨rfl,f⟩;have c:Below (w.alloc (.cells #[.int .i64 (r:Int),.int .i64 n] 167)).heap.size (w.alloc (.cells #[.int .i64 (r:Int),.int .i64 n] 167)) d:=(Below.refl _ _).drew.trans f;have a:=o _ c;have c0:=(a.cR r hr).1;have c1:=(a.cR r hr).2;have z0:=a.fz (r*2);have z1:=a.fz (r*2+1);have v0:d.cell? ⟨w.heap.size,0,none⟩=some (.int .i64 (r:Int)):=za0 c 0;have v1:d.cell? ⟨w.heap.size,1,none⟩=some (.int .i64 n):=za0 c 1;have j:=a.putR r hr (only n)))
 all_goals go_wp2_with(go_at_call 227;(with_reducible refine(zbW j h0 h1 n0 n1).mono ?_);intro e w6 i;have m:=ze1 c i;clear i;obtain⟨g,rfl,q,p,s,l⟩:=m)
 all_goals go_ret
 all_goals exact⟨g,rfl,q,p,s,l⟩
structure LdM(w wr:World)(b F:Nat)(bv:Value)(k:Kn)(f:Rg):Prop where
 kn:KnM wr b bv k
 lo:wr.cell? ⟨F,0,none⟩=some (.int .i64 f.lo)
 hi:wr.cell? ⟨F,1,none⟩=some (.int .i64 f.hi)
 fF:∀ j,wr.frozen? ⟨F,j,none⟩=false
 r0:∃ x,wr.cell? ⟨w.heap.size+1,0,none⟩=some x
 r1:∃ x,wr.cell? ⟨w.heap.size+1,1,none⟩=some x
 rz:∀ j,wr.frozen? ⟨w.heap.size+1,j,none⟩=false
 low:Below w.heap.size w wr
 ltF:F<wr.heap.size
 ne1:b<F
 ne2:w.heap.size+1<F
theorem LdM.below{w wr wy:World}{b F:Nat}{bv:Value}{k:Kn}{f:Rg}(L:LdM w wr b F bv k f)(hb:Below wr.heap.size wr wy):LdM w wy b F bv k f:=by
 have c:∀ q j,q<wr.heap.size→wy.cell? ⟨q,j,none⟩=wr.cell? ⟨q,j,none⟩:=fun q j hq=>World.cell?_of_block (w:=wr) (a:=⟨q,j,none⟩) (hb.block q hq);have z:∀ q j,q<wr.heap.size→wy.frozen? ⟨q,j,none⟩=wr.frozen? ⟨q,j,none⟩:=fun q j hq=>World.frozen?_of_block (w:=wr) (a:=⟨q,j,none⟩) (hb.block q hq);have d:=L.ltF;have h:=L.ne2;have hs:=hb.size;obtain⟨l,e⟩:=L.r0;obtain⟨m,g⟩:=L.r1;have i:w.heap.size≤wr.heap.size:=L.low.size;exact⟨L.kn.below hb L.kn.lt,(c _ _ d).trans L.lo,(c _ _ d).trans L.hi,fun j=>(z _ _ d).trans (L.fF j),⟨l,(c _ _ (by omega)).trans e⟩,⟨m,(c _ _ (by omega)).trans g⟩,fun j=>(z _ _ (by omega)).trans (L.rz j),L.low.trans (hb.mono i),by omega,L.ne1,h⟩
theorem LdM.store{w wr:World}{b F:Nat}{bv:Value}{k:Kn}{f:Rg}(L:LdM w wr b F bv k f)(g:Rg):LdM w ((wr.setCell ⟨F,0,none⟩ (.int .i64 g.lo)).setCell ⟨F,1,none⟩ (.int .i64 g.hi)) b F bv k g:=by
 have d:Below F wr ((wr.setCell ⟨F,0,none⟩ (.int .i64 g.lo)).setCell ⟨F,1,none⟩ (.int .i64 g.hi)):=zaM (Below.refl F wr) (Nat.le_refl _);have c:∀ q j,q<F→((wr.setCell ⟨F,0,none⟩ (.int .i64 g.lo)).setCell ⟨F,1,none⟩ (.int .i64 g.hi)).cell? ⟨q,j,none⟩=wr.cell? ⟨q,j,none⟩:=fun q j hq=>World.cell?_of_block (w:=wr) (a:=⟨q,j,none⟩) (d.block q hq);have l:=L.ltF;have i:=L.ne2;obtain⟨m,e⟩:=L.r0;obtain⟨n,h⟩:=L.r1;exact⟨L.kn.below d L.ne1,(za4 L.lo L.hi).1,(za4 L.lo L.hi).2,fun j=>zcB _ _ _ j _ (zcB _ _ _ j _ (L.fF j)),⟨m,(c _ _ (by omega)).trans e⟩,⟨n,(c _ _ (by omega)).trans h⟩,fun j=>(World.frozen?_of_block (w:=wr) (a:=⟨w.heap.size+1,j,none⟩) (d.block _ (by omega))).trans (L.rz j),L.low.trans (d.mono (by omega)),by rw [World.size_setCell,World.size_setCell];exact l,L.ne1,i⟩
theorem zr2{w:World}{b:Nat}{bv:Value}{k:Kn}(h:KnM w b bv k)(a n:Nat)(hn:a<15)(ha:a+n≤15):Calls Tryz.prog 254 #[.pointer (some ⟨b,0,none⟩),rv ⟨(a:Int),((a:Int)+(n:Int))⟩] w fun e w'=>e=.returned (rv (zbz k.cells a n))∧Below w.heap.size w w':=by
 have hlt:=h.lt;have y:∀(W:World),KnM W b bv k→Calls Tryz.prog 255 #[.pointer (some ⟨b,0,none⟩),rv ⟨(a:Int),((a:Int)+(n:Int))⟩] W fun e w'=>e=.returned (.slice (some ⟨b,16+a*2,none⟩) (n+1) (16-a))∧Below W.heap.size W w':=fun W hW=>by
  have t:=zdY hW ⟨(a:Int),((a:Int)+(n:Int))⟩ ⟨⟨by show _≤(a:Int);omega,by show(a:Int)≤_;omega⟩,⟨by show _≤((a:Int)+(n:Int));omega,by show((a:Int)+(n:Int))≤_;omega⟩,by show(a:Int)≤((a:Int)+(n:Int));omega⟩ (by show(0:Int)≤(a:Int);omega) (by show((a:Int)+(n:Int))≤15;omega);have e1:((a:Int)+(n:Int)+1).toNat=a+n+1:=by omega
  have x:((a:Nat):Int).toNat=a:=by omega
  have G:a+n+1-a=n+1:=by omega
  simp only [e1,x,G] at t;exact t
 have m1:¬(16-a=1):=by omega
 go_enter Tryz.func254,Tryz.ntmps254;go_wp2_with(go_at_call 255;(with_reducible refine(y _ ((h.alloc _).alloc _)).mono ?_);rintro e i ⟨rfl,d⟩;have o:KnM i b bv k:=((h.alloc _).alloc _).below d (by simp;omega);have C:=(o.cC a (by omega)).1;have D:=(o.cC a (by omega)).2)
 have s:LdM w (i.alloc (.cells #[.int .i64 (k.cells a).lo,.int .i64 (k.cells a).hi] 213)) b i.heap.size bv k (k.cells a):=by
  have z:=d.size;have x:((w.alloc (.cells #[.int .i64 (a:Int),.int .i64 ((a:Int)+(n:Int))] 213)).alloc (.cells #[.int .i64 0,.int .i64 0] 213)).heap.size=w.heap.size+1+1:=by simp
  rw [x] at z d;have g:Below (w.heap.size+1+1) _ (i.alloc (.cells #[.int .i64 (k.cells a).lo,.int .i64 (k.cells a).hi] 213)):=d.alloc z _;have u:∀ j,(i.alloc (.cells #[.int .i64 (k.cells a).lo,.int .i64 (k.cells a).hi] 213)).cell? ⟨w.heap.size+1,j,none⟩=(#[.int .i64 0,.int .i64 0]:Array Value)[j]?:=fun j=>by
   have e:=World.cell?_of_block (a:=⟨w.heap.size+1,j,none⟩) (g.block (w.heap.size+1) (by omega));rw [e];have:=World.cell?_alloc_new (w:=w.alloc (.cells #[.int .i64 (a:Int),.int .i64 ((a:Int)+(n:Int))] 213)) #[.int .i64 0,.int .i64 0] 213 j;rw [World.size_alloc] at this;exact this
  refine⟨o.alloc _,World.cell?_alloc_new _ _ _ 0,World.cell?_alloc_new _ _ _ 1,fun j=>World.frozen?_alloc_at _ _ _ _ (by simp),⟨_,u 0⟩,⟨_,u 1⟩,fun j=>?_,box2.trans (g.mono (by omega)),by simp,by omega,by omega⟩;have e:=World.frozen?_of_block (a:=⟨w.heap.size+1,j,none⟩) (g.block (w.heap.size+1) (by omega));rw [e];exact World.frozen?_alloc_at _ _ _ _ (by simp)
 clear d o C D y
 go_loopw [18] (fun ti wr=>∃ j:Nat,j≤n∧ti=.int .i64 (j:Int)∧LdM w wr b i.heap.size bv k (zbz k.cells a j)) (fun ti _=>n-(intOf ti).toNat)
 case atStart=>exact⟨0,by omega,rfl,s⟩
 case round =>
  obtain⟨j,hj,rfl,L⟩:=hrel;by_cases hjn:j<n
  ·have v:=L.kn.cC (a+(j+1)) (by omega);rw [show 16+(a+(j+1))*2=16+a*2+2+j*2 by omega] at v;obtain⟨E,F⟩:=v;have hj0:(0:Int)≤(j:Int):=by omega
   have hj1:(j:Int)<(n:Int):=by omega
   have q:Hid (zbz k.cells a (j+1)=(zbz k.cells a j).or (k.cells (a+(j+1)))):=rfl;generalize k.cells (a+(j+1))=c at E F q;generalize zbz k.cells a j=f at L q;have l:=L.below (box1 (a:=.cells #[.int .i64 c.lo,.int .i64 c.hi] 213));have H:=l.lo;have I:=l.hi;have z0:=l.fF 0;have z1:=l.fF 1;go_wp2_with(go_at_call 156;(with_reducible refine(zp5 f c _).mono ?_);rintro e wy ⟨rfl,p⟩;have m:=l.below p;have g0:=m.lo;have g1:=m.hi;have K:=m.fF 0;have M:=m.fF 1)
   exact⟨⟨j+1,by omega,by go_num,by rw [q.out];exact m.store _⟩,by simp [intOf];omega⟩
  ·obtain rfl:j=n:=by omega
   have H:=L.lo;have I:=L.hi;obtain⟨x0,A⟩:=L.r0;obtain⟨x1,B⟩:=L.r1;have K:=L.rz 0;have M:=L.rz 1;have J:=L.low;clear L s;go_wp2;exact zcd (r:=zbz k.cells a j) Tryz.results254 rfl rfl (za4 A B).1 (za4 A B).2 ⟨rfl,zaM J (by omega)⟩
theorem KnM.grown{w w':World}{b c:Nat}{bv:Value}{k:Kn}(h:KnM w b bv k)(hg:w.grownBy w' (some c))(hne:¬b=c):KnM w' b bv k:=h.block (hg.block b h.lt (fun e=>hne (by cases e;rfl)))
theorem zaK{w w':World}{b:Option Nat}(h:Below w.heap.size w w'):w.grownBy w' b:=⟨h.os,h.tape,h.output,h.size,fun q hq _=>h.block q hq⟩
theorem zdn{w w' w2:World}{b h:Nat}(hg:w.grownBy w' (some b))(hh:w.heap.size≤h)(h2:w'.grownBy w2 (some h)):w.grownBy w2 (some b) :=
 ⟨h2.os.trans hg.os,h2.tape.trans hg.tape,h2.output.trans hg.output,Nat.le_trans hg.size h2.size,fun i hi hne=>(h2.block i (Nat.lt_of_lt_of_le hi hg.size) (fun e=>by cases e;omega)).trans (hg.block i hi hne)⟩
theorem zke{w w' w2:World}{b:Nat}(hg:w.grownBy w' (some b))(h2:w'.grownBy w2 none):w.grownBy w2 (some b) :=
 ⟨h2.os.trans hg.os,h2.tape.trans hg.tape,h2.output.trans hg.output,Nat.le_trans hg.size h2.size,fun i hi hne=>(h2.block i (Nat.lt_of_lt_of_le hi hg.size) (fun e=>by cases e)).trans (hg.block i hi hne)⟩
theorem KnM.grown0{w w':World}{b:Nat}{bv:Value}{k:Kn}(h:KnM w b bv k)(hg:w.grownBy w' none):KnM w' b bv k:=h.block (hg.block b h.lt (fun e=>by cases e))
theorem Tryz.info197:(Tryz.prog.info? 197).map (fun i=>(i.zero,i.size,i.bytes))=some (some (.pointer none),1,8):=by kernel_rfl
theorem Tryz.under150:Tryz.prog.underlying 150=some (.slice 197):=by kernel_rfl
theorem zdy{w:World}{B g cap n:Nat}{e:TypeId}{size:Nat}{xs:List Value}(h:w.ownsRow B e size (.slice (some ⟨g,0,none⟩) n cap) n xs)(j:Nat)(v:Value)(hv:xs[j]?=some v):w.cell? ⟨g,j,none⟩=some v:=by
 obtain⟨hl,h⟩:=h;rcases h with ⟨h,_⟩|⟨g',cap',cur,h,_,a,_,_,hs,b⟩
 ·cases h
 ·cases h;have hj:=(List.getElem?_eq_some_iff.1 hv).1;rw [←b,List.getElem?_take_of_lt (by omega)] at hv;simp [World.cell?,a];simpa using hv
theorem ziL{F G:Nat}{w:World}{b:Nat}{bv:Value}{k:Kn}(h:KnM w b bv k)(hbv:bv.oneCell'=true)(l r:Nat)(z:Int)(x y:Rg)
  (hF:∀ W b2,KnM W b2 bv k→Calls Tryz.prog 273 #[.pointer (some ⟨b2,0,none⟩),.int .i64 (l:Int),.int .i64 (r:Int),.func (.func F) #[] #[]] W (zf2 W b2 bv k l r (some (x,y))))
  (hG:∀ W b2,KnM W b2 bv k→Calls Tryz.prog 273 #[.pointer (some ⟨b2,0,none⟩),.int .i64 (l:Int),.int .i64 (r:Int),.func (.func G) #[] #[]] W (zf2 W b2 bv k l r (none)))
  (h0:0≤k.steps) (h1:k.steps≤100000) :
  Calls Tryz.prog 270 #[.pointer (some ⟨b,0,none⟩),.int .i64 (l:Int),.int .i64 (r:Int),.func (.func F) #[] #[],.func (.func G) #[] #[],.int .i64 z] w (zc5 w b bv [{ k with regs:=updR (updR k.regs l x) r y }.goTo z]):=by
 obtain⟨a,p,c,q,j⟩:=h.row;have m:a.toArray.all (·.oneCell')=true:=all_oneCell_toArray (j hbv);have H:(Tryz.prog.info? 217).map (·.size)=some a.length:=by rw [p];exact Tryz.size217
 have t:(Tryz.prog.info? 217).map (·.size)=some a.toArray.size:=by rw [show a.toArray.size=51 by simp [p]];exact Tryz.size217
 obtain⟨v,u,i⟩:=h.fresh a p q;have J:(w.alloc Z217).there w.heap.size 0 a.toArray.size:=by rw [show a.toArray.size=51 by simp [p]];exact zeL w
 have hlt:=h.lt;have K:Tryz.prog.underlying 217=some (.struct _):=Tryz.underlying217;go_enter Tryz.func270,Tryz.ntmps270;go_wp2_with(first
  | (refine wpList_load_mid rfl 217 _ rfl b 0 rfl a _ c K rfl H ?_)
  | (refine wpList_store_mid rfl 217 _ _ rfl w.heap.size 0 a.toArray rfl rfl J t m ?_)
  | (go_at_call 273;(with_reducible refine(hF _ b u).mono ?_);rintro e L ⟨rfl,d,M,N,C,n⟩;have A:=v.grown d (by omega))
  | (go_at_call 273;(with_reducible refine(hG L w.heap.size A).mono ?_);rintro e w3 ⟨rfl,f,x3,y3,hxy3,hK3⟩;have o:=n.grown f (by omega))
  | (go_at_call 229;(with_reducible refine(zfZ o z h0 h1).mono ?_);intro e w4 B;obtain⟨g,rfl,E,D,I,s⟩:=B))
 obtain⟨rfl,rfl⟩:x=M∧y=N:=by have:=C _ rfl;simpa using this
 go_ret;exact zkL ⟨g,rfl,Nat.le_trans i.size (Nat.le_trans d.size (Nat.le_trans f.size E)),D,I,zae (zdn (zae (zaK i) d) (Nat.le_refl _) f) s⟩
theorem ziM{F G:Nat}{w:World}{b:Nat}{bv:Value}{k:Kn}(h:KnM w b bv k)(hbv:bv.oneCell'=true)(l r:Nat)(z:Int)(x' y':Rg)
  (hF:∀ W b2,KnM W b2 bv k→Calls Tryz.prog 273 #[.pointer (some ⟨b2,0,none⟩),.int .i64 (l:Int),.int .i64 (r:Int),.func (.func F) #[] #[]] W (zf2 W b2 bv k l r (none)))
  (hG:∀ W b2,KnM W b2 bv k→Calls Tryz.prog 273 #[.pointer (some ⟨b2,0,none⟩),.int .i64 (l:Int),.int .i64 (r:Int),.func (.func G) #[] #[]] W (zf2 W b2 bv k l r (some (x',y'))))
  (h0:0≤k.steps) (h1:k.steps≤100000) (n0:0≤k.next) (n1:k.next≤100000) :
  Calls Tryz.prog 270 #[.pointer (some ⟨b,0,none⟩),.int .i64 (l:Int),.int .i64 (r:Int),.func (.func F) #[] #[],.func (.func G) #[] #[],.int .i64 z] w (zc5 w b bv [{ k with regs:=updR (updR k.regs l x') r y' }.goTo (k.next+1)]):=by
 obtain⟨a,t,c,u,j⟩:=h.row;have n:a.toArray.all (·.oneCell')=true:=all_oneCell_toArray (j hbv);have I:(Tryz.prog.info? 217).map (·.size)=some a.length:=by rw [t];exact Tryz.size217
 have x:(Tryz.prog.info? 217).map (·.size)=some a.toArray.size:=by rw [show a.toArray.size=51 by simp [t]];exact Tryz.size217
 obtain⟨A,y,s⟩:=h.fresh a t u;have K:(w.alloc Z217).there w.heap.size 0 a.toArray.size:=by rw [show a.toArray.size=51 by simp [t]];exact zeL w
 have hlt:=h.lt;have L:Tryz.prog.underlying 217=some (.struct _):=Tryz.underlying217;go_enter Tryz.func270,Tryz.ntmps270;go_wp2_with(first
  | (refine wpList_load_mid rfl 217 _ rfl b 0 rfl a _ c L rfl I ?_)
  | (refine wpList_store_mid rfl 217 _ _ rfl w.heap.size 0 a.toArray rfl rfl K x n ?_)
  | (go_at_call 273;(with_reducible refine(hF _ b y).mono ?_);rintro e M ⟨rfl,d,x2,y2,hxy,o⟩;have B:=A.grown d (by omega))
  | (go_at_call 273;(with_reducible refine(hG M w.heap.size B).mono ?_);rintro e N ⟨rfl,f,O,P,m,q⟩;have hK4:=o.grown f (by omega))
  | (go_at_call 227;(with_reducible refine(zbW q h0 h1 n0 n1).mono ?_);intro e w4 C;obtain⟨g,rfl,H,E,J,v⟩:=C))
 obtain⟨rfl,rfl⟩:x'=O∧y'=P:=by have:=m _ rfl;simpa using this
 go_ret;have D:w.grownBy N (some b):=zdn (zae (zaK s) d) (Nat.le_refl _) f;refine⟨some ⟨g,0,none⟩,1,[w.heap.size],rfl,⟨zdn D (Nat.le_refl _) v,fun i p hp=>?_,rfl,fun i p k' hp hk'=>?_,by simp,fun p hp=>.inr (by rw [List.mem_singleton.1 hp];exact Nat.le_refl _)⟩⟩
 ·cases i with
  | zero=>cases hp;exact⟨g,rfl,Nat.le_trans D.size H,E⟩
  | succ i=>simp at hp
 ·cases i with
  | zero=>cases hp;cases hk';exact J
  | succ i=>simp at hp
theorem ziN{F G:Nat}{w:World}{b:Nat}{bv:Value}{k:Kn}(h:KnM w b bv k)(hbv:bv.oneCell'=true)(l r:Nat)(z:Int)(x y x' y':Rg)
  (hF:∀ W b2,KnM W b2 bv k→Calls Tryz.prog 273 #[.pointer (some ⟨b2,0,none⟩),.int .i64 (l:Int),.int .i64 (r:Int),.func (.func F) #[] #[]] W (zf2 W b2 bv k l r (some (x,y))))
  (hG:∀ W b2,KnM W b2 bv k→Calls Tryz.prog 273 #[.pointer (some ⟨b2,0,none⟩),.int .i64 (l:Int),.int .i64 (r:Int),.func (.func G) #[] #[]] W (zf2 W b2 bv k l r (some (x',y'))))
  (h0:0≤k.steps) (h1:k.steps≤100000) (n0:0≤k.next) (n1:k.next≤100000) :
  Calls Tryz.prog 270 #[.pointer (some ⟨b,0,none⟩),.int .i64 (l:Int),.int .i64 (r:Int),.func (.func F) #[] #[],.func (.func G) #[] #[],.int .i64 z] w (zc5 w b bv [{ k with regs:=updR (updR k.regs l x) r y }.goTo z,{ k with regs:=updR (updR k.regs l x') r y' }.goTo (k.next+1)]):=by
 obtain⟨m,M,n,N,B⟩:=h.row;have D:m.toArray.all (·.oneCell')=true:=all_oneCell_toArray (B hbv);have hi:(Tryz.prog.info? 217).map (·.size)=some m.length:=by rw [M];exact Tryz.size217
 have R:(Tryz.prog.info? 217).map (·.size)=some m.toArray.size:=by rw [show m.toArray.size=51 by simp [M]];exact Tryz.size217
 obtain⟨T,S,t⟩:=h.fresh m M N;have ht:(w.alloc Z217).there w.heap.size 0 m.toArray.size:=by rw [show m.toArray.size=51 by simp [M]];exact zeL w
 have hlt:=h.lt;have s:Tryz.prog.underlying 217=some (.struct _):=Tryz.underlying217;obtain⟨i0,Q,Z,aa,ab⟩:=info_parts Tryz.info197;go_enter Tryz.func270,Tryz.ntmps270;go_wp2_with(first
  | (refine wpList_load_mid rfl 217 _ rfl b 0 rfl m _ n s rfl hi ?_)
  | (refine wpList_store_mid rfl 217 _ _ rfl w.heap.size 0 m.toArray rfl rfl ht R D ?_)
  | (go_at_call 273;(with_reducible refine(hF _ b S).mono ?_);rintro e w2 ⟨rfl,o,x2,y2,Y,E⟩;have A:=T.grown o (by omega))
  | (go_at_call 273;(with_reducible refine(hG w2 w.heap.size A).mono ?_);rintro e w3 ⟨rfl,q,x3,y3,C,H⟩;have I:=E.grown q (by omega))
  | (go_at_call 229;(with_reducible refine(zfZ I z h0 h1).mono ?_);intro e w4 V;obtain⟨g,rfl,hg,hc,hk,v⟩:=V;have J:=H.grown v (by omega))
  | (go_at_call 227;(with_reducible refine(zbW J h0 h1 n0 n1).mono ?_);intro e w5 X;obtain⟨g2,rfl,hg5,K,U,d⟩:=X;have P:g<w4.heap.size:=World.block_lt_of_cell? w4 _ hc;have L:w5.cell? ⟨g,0,none⟩=some (.pointer (some ⟨b,0,none⟩)):=(World.cell?_of_block (w:=w4) (a:=⟨g,0,none⟩) (d.block g P (fun e=>by cases e;have:=t.size;have:=o.size;have:=q.size;have:=A.lt;omega))).trans hc)
  | (at_builtin;(refine wpList_append_grows w5 rfl _ _ 150 rfl 197 i0 (.pointer none) 1 8 Tryz.under150 Q Z aa ab rfl (by decide) (some ⟨g,0,none⟩) 1 1 [.pointer (some ⟨b,0,none⟩)] rfl (fun h=>by cases h) rfl (fun a ha j u s=>by cases ha;cases j with|zero=>cases s;exact L|succ j=>simp at s) ⟨g2,0,none⟩ 1 1 [.pointer (some ⟨w.heap.size,0,none⟩)] rfl rfl (fun j u s=>by cases j with|zero=>cases s;exact K|succ j=>simp at s) (by simp [Value.oneCell']) (by omega) (by unfold maxLen;omega) (by omega) ?_);intro v' w6 c f;obtain⟨g6,c6,rfl,O,hg6l⟩:=c.form (by omega)))
 obtain⟨rfl,rfl⟩:x=x2∧y=y2:=by have:=Y _ rfl;simpa using this
 obtain⟨rfl,rfl⟩:x'=x3∧y'=y3:=by have:=C _ rfl;simpa using this
 go_ret;have G3:w.grownBy w3 (some b):=zdn (zae (zaK t) o) (Nat.le_refl _) q;have G5:w.grownBy w5 (some b):=zdn (zae G3 v) (Nat.le_refl _) d;have e0:=zdy c 0 _ rfl;have e1:=zdy c 1 _ rfl;have q0:=(hk.grown d (by omega)).grown0 f;have q1:=U.grown0 f;refine⟨some ⟨g6,0,none⟩,c6,[b,w.heap.size],rfl,⟨zke G5 f,fun i p hp=>?_,rfl,fun i p k' hp hk'=>?_,by simp;omega,fun p hp=>?_⟩⟩
 ·refine⟨g6,rfl,Nat.le_trans G5.size O,?_⟩;cases i with
  | zero=>cases hp;exact e0
  | succ i=>cases i with
   | zero=>cases hp;exact e1
   | succ i=>simp at hp
 ·cases i with
  | zero=>cases hp;cases hk';exact q0
  | succ i=>cases i with
   | zero=>cases hp;cases hk';exact q1
   | succ i=>simp at hp
 ·rcases List.mem_cons.1 hp with rfl|hp
  ·exact .inl rfl
  ·exact .inr (by rw [List.mem_singleton.1 hp];exact Nat.le_refl _)
structure BhM(w:World)(ao:Option Addr)(cap:Nat)(l:List Int):Prop where
 len:l.length≤15
 le:l.length≤cap
 top:cap≤maxLen
 nil:ao=none→l=[]∧cap=0
 at0:∀ a,ao=some a→∃ g,a=⟨g,0,none⟩
 cell:∀ g,ao=some ⟨g,0,none⟩→g<w.heap.size∧∀(i:Nat) (v:Int),l[i]?=some v→w.cell? ⟨g,i,none⟩=some (.int .i64 v)
theorem zAe(w:World):BhM w none 0 []:=⟨Nat.zero_le _,Nat.zero_le _,Nat.zero_le _,fun _=>⟨rfl,rfl⟩,fun a h=>(by cases h),fun g h=>(by cases h)⟩
theorem BhM.kept{w w':World}{ao:Option Addr}{cap:Nat}{l:List Int}(h:BhM w ao cap l)(hs:w.heap.size≤w'.heap.size)(hb:∀ g,ao=some ⟨g,0,none⟩→w'.heap[g]?=w.heap[g]?):BhM w' ao cap l :=
 ⟨h.len,h.le,h.top,h.nil,h.at0,fun g hg=>⟨Nat.lt_of_lt_of_le (h.cell g hg).1 hs,fun i v hv=>(World.cell?_of_block (w:=w) (a:=⟨g,i,none⟩) (hb g hg)).trans ((h.cell g hg).2 i v hv)⟩⟩
theorem BhM.grown{w w':World}{ao:Option Addr}{cap:Nat}{l:List Int}{b:Nat}(h:BhM w ao cap l)(hg:w.grownBy w' (some b))(ap:∀ a,ao=some a→¬a.block=b):BhM w' ao cap l :=
 h.kept hg.size fun g e=>hg.block g (h.cell g e).1 (fun x=>ap _ e (by cases x;rfl))
theorem BhM.below{w w':World}{ao:Option Addr}{cap:Nat}{l:List Int}(h:BhM w ao cap l)(hb:Below w.heap.size w w'):BhM w' ao cap l :=
 h.kept hb.size fun g e=>hb.block g (h.cell g e).1
theorem zwJ{w:World}(ao:Option Addr)(n cap:Nat)(hn:n≤15)(hc:n≤cap)(hm:cap≤maxLen)(h0:ao=none→n=0∧cap=0):Calls Tryz.prog 283 #[.slice ao n cap] w fun e w'=>e=.returned (.slice ao n n)∧w'=w:=by
 cases ao with
 | none =>
  obtain⟨rfl,rfl⟩:=h0 rfl;go_enter Tryz.func283,Tryz.ntmps283;go_wp2;go_ret;exact⟨rfl,rfl⟩
 | some a =>
  unfold maxLen at hm;go_enter Tryz.func283,Tryz.ntmps283;go_wp2;go_ret;exact⟨rfl,rfl⟩
theorem zAf{w:World}{B g cap n:Nat}{l:List Int}(h:w.ownsRow B 3 1 (.slice (some ⟨g,0,none⟩) n cap) n (i64s l))(hn:n≤15)(hg:g<w.heap.size):BhM w (some ⟨g,0,none⟩) cap l:=by
 have hl:l.length=n:=by have:=h.1;simpa [i64s] using this
 have f:n≤cap∧cap≤maxLen:=by
  rcases h.2 with ⟨h,_⟩|⟨b,cap',cur,h,_,_,c,d,_,_⟩
  ·cases h
  ·cases h;exact⟨c,d⟩
 refine⟨by omega,by omega,f.2,fun e=>(by cases e),fun a ha=>⟨g,by cases ha;rfl⟩,fun b e=>?_⟩;cases e;exact⟨hg,fun i v hv=>zdy h i _ (by unfold i64s;rw [List.getElem?_map,hv];rfl)⟩
theorem zok{P:Program}{ops:Array Oper}{o:Oper}{a:Act}{w:World}{K:Act→World→Prop}{Q:Exit→Act→World→Prop}{E:Prop}(hg:o.guard=none)(f:FuncId)(xs:Array Operand)(ts:Array TypeId)(_hop:o.op=Op.call { callee:=Callee.value (Operand.func f),args:=xs,argTypes:=ts })(args:Array Value)(hrun:(execOp a.eval o).run P w=.ok (.enter f args) w)(v:Value)
  (hc:Calls P f args w fun e w''=>e=.returned v∧w''=w) (hK:K (a.put o.dst v) w):if Region.wanted o (yielded ops a.tmps)=true then Oper.wp P o a w K Q else E:=by
 have b:Region.wanted o (yielded ops a.tmps)=true:=by simp [Region.wanted,hg]
 rw [if_pos b];unfold Oper.wp;rw [hrun,Oper.upon_enter];refine hc.mono fun e w'' hh=>?_;obtain⟨rfl,rfl⟩:=hh;exact hK
def zpB(w:World)(b:Nat)(k:Kn)(z:Int):Ending→World→Prop:=fun e w'=>∃ g c,zaO w b (.slice (some ⟨g,0,none⟩) (k.behind.length+1) c) ({ k with behind:=k.behind++[k.next+1] }.goTo z) e w'∧BhM w' (some ⟨g,0,none⟩) c (k.behind++[k.next+1])∧w.heap.size≤g
theorem ztU{w:World}{b cap:Nat}{ao:Option Addr}{k:Kn}(h:KnM w b (.slice ao k.behind.length cap) k)(B:BhM w ao cap k.behind)(z:Int)(hlen:k.behind.length<15)(h0:0≤k.steps)(h1:k.steps≤100000)(n0:0≤k.next)(n1:k.next≤100000):
  Calls Tryz.prog 282 #[.pointer (some ⟨b,0,none⟩),.int .i64 z] w (zpB w b k z):=by
 have H:=zf1 h B.len;have G:=fun W=>zwJ (w:=W) ao k.behind.length cap B.len B.le B.top (fun e=>by obtain⟨T,S⟩:=B.nil e;rw [T];exact⟨rfl,S⟩);have c:=h.cB;have n:=h.cN;have hlt:=h.lt;obtain⟨V,K,N,O,P⟩:=info_parts Tryz.info3;have t16:(((k.behind.length:Int)+1) == 16)=false:=by simpa using (by omega:¬(k.behind.length:Int)+1=16)
 have s:∀ a,ao=some a→∀(j:Nat) u,(i64s k.behind)[j]?=some u→(w.alloc (.cells #[.int .i64 (k.next+1)] 3)).cell? (a.add j)=some u:=fun a ha j u hu=>by
  obtain⟨g,rfl⟩:=B.at0 a ha;obtain⟨I,F⟩:=B.cell g ha;unfold i64s at hu;rw [List.getElem?_map] at hu;cases hv:k.behind[j]? with
  | none=>rw [hv] at hu;cases hu
  | some v =>
   rw [hv] at hu;cases hu;rw [Addr.add_mid,Nat.zero_add,World.cell?_of_block (w:=w) (a:=⟨g,j,none⟩) (Below.heap_alloc _ _ _ I)];exact F j v hv
 have m:∀ a,ao=some a→∀(j:Nat) u,(i64s k.behind)[j]?=some u→(w.alloc (.cells #[.int .i64 (k.next+1)] 3)).drew.cell? (a.add j)=some u:=s;have l:∀(j:Nat) u,[Value.int .i64 (k.next+1)][j]?=some u→(w.alloc (.cells #[.int .i64 (k.next+1)] 3)).drew.cell? ((⟨w.heap.size,0,none⟩:Addr).add j)=some u:=World.news_of_block (cs:=#[.int .i64 (k.next+1)]) (t:=3) (fr:=(0,0)) (zpk w _ _);have r:ao=none→k.behind.length=0∧k.behind.length=0:=fun e=>by obtain⟨T,S⟩:=B.nil e;rw [T];exact⟨rfl,rfl⟩
 have q:(i64s k.behind).length=k.behind.length*1:=by simp [i64s]
 have x:∀ u∈[Value.int .i64 (k.next+1)],u.oneCell'=true:=by simp [Value.oneCell']
 have D:KnM (w.alloc (.cells #[.int .i64 (k.next+1)] 3)).drew b (.slice ao k.behind.length cap) k:=h.below box1.drew h.lt;have hw1:IntKind.i64.wrap (k.next+1)=k.next+1:=zd6 _ (by omega) (by omega);go_enter Tryz.func282,Tryz.ntmps282;go_wp2_with(first
  | (go_at_call 136;(with_reducible refine H.mono ?_);rintro e wx ⟨rfl,M⟩;have L:=M.symm;subst L))
 go_region_law (first
  | (refine zok rfl 283 #[.tmp 13] #[59] rfl #[.slice ao k.behind.length cap] (by kernel_rfl) (.slice ao k.behind.length k.behind.length) (G _) ?_)
  | (refine step_append_grows rfl (.tmp 14) (.tmp 20) 59 rfl 3 V (.int .i64 0) 1 8 Tryz.under59 K N O P rfl (by decide) ao k.behind.length k.behind.length (i64s k.behind) rfl r q m ⟨w.heap.size,0,none⟩ 1 1 [.int .i64 (k.next+1)] rfl rfl l x (by omega) (by unfold maxLen;omega) (by omega) ?_;intro v' Q d f;obtain⟨C,A,rfl,J,o⟩:=d.form (by omega);have i:=D.grown0 f;have d4:=i.cB;have f4:=i.fz 49;have E:=i.putB (.slice (some ⟨C,0,none⟩) (k.behind.length+1) A) (k.behind++[k.next+1])))
 all_goals go_wp2_with(go_at_call 229;(with_reducible refine(zfZ E z h0 h1).mono ?_);rintro e w6 ⟨g,rfl,I,F,U,p⟩)
 all_goals go_ret
 all_goals have R:w.grownBy Q (some b):=zke (zaK (b:=some b) box1.drew) f
 all_goals have hsz:((w.alloc (.cells #[.int .i64 (k.next+1)] 3)).drew).heap.size=w.heap.size+1:=by simp
 all_goals rw [hsz] at J
 all_goals have y:Q.grownBy (Q.setCell ⟨b,49,none⟩ (.slice (some ⟨C,0,none⟩) (k.behind.length+1) A)) (some b):=zah (Below.refl _ _)
 all_goals have hrow:(i64s k.behind++[Value.int .i64 (k.next+1)])=i64s (k.behind++[k.next+1]):=by simp [i64s]
 all_goals rw [hrow] at d
 all_goals exact⟨C,A,⟨g,rfl,Nat.le_trans (Nat.le_trans R.size y.size) I,F,U,zae (zae R y) p⟩,(zAf d (by omega) o).grown (zae y p) (fun a ha=>by cases ha;show ¬C=b;omega),by omega⟩
end Go.Proofs.YtfpgjkbjbbgciaaGreatDoor
