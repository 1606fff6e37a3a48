import Derived.Test.YtfpgjkbjbbgciaaGreatDoorMi17
set_option maxRecDepth 100000
set_option maxHeartbeats 8000000
namespace Go.Proofs.YtfpgjkbjbbgciaaGreatDoor
open Go.RowKit Sp
theorem KnM.has{w:World}{b:Nat}{bv:Value}{k:Kn}(h:KnM w b bv k)(j:Nat)(hj:j<51):∃ v,w.cell? ⟨b,j,none⟩=some v∧(bv.oneCell'=true→v.oneCell'=true):=by
 by_cases h1:j<16
 ·rcases Nat.mod_two_eq_zero_or_one j with e|e
  ·have:=(h.cR (j/2) (by omega)).1;rw [show j/2*2=j by omega] at this;exact⟨_,this,fun _=>rfl⟩
  ·have:=(h.cR (j/2) (by omega)).2;rw [show j/2*2+1=j by omega] at this;exact⟨_,this,fun _=>rfl⟩
 ·by_cases h2:j<48
  ·rcases Nat.mod_two_eq_zero_or_one j with e|e
   ·have:=(h.cC ((j-16)/2) (by omega)).1;rw [show 16+(j-16)/2*2=j by omega] at this;exact⟨_,this,fun _=>rfl⟩
   ·have:=(h.cC ((j-16)/2) (by omega)).2;rw [show 16+(j-16)/2*2+1=j by omega] at this;exact⟨_,this,fun _=>rfl⟩
  ·rcases(by omega:j=48∨j=49∨j=50) with e|e|e
   ·subst e;exact⟨_,h.cN,fun _=>rfl⟩
   ·subst e;exact⟨_,h.cB,fun h=>h⟩
   ·subst e;exact⟨_,h.cS,fun _=>rfl⟩
theorem KnM.row{w:World}{b:Nat}{bv:Value}{k:Kn}(h:KnM w b bv k):∃ cs:List Value,cs.length=51∧w.rangeAt b 0 cs∧(∀ j,j<51→cs[j]?=w.cell? ⟨b,j,none⟩)∧(bv.oneCell'=true→∀ v∈cs,v.oneCell'=true):=by
 have key:∀ j,j<51→((List.range 51).map fun j=>(w.cell? ⟨b,j,none⟩).getD undef)[j]?=w.cell? ⟨b,j,none⟩:=fun j hj=>by
  obtain⟨v,hv,_⟩:=h.has j hj
  rw [List.getElem?_map,List.getElem?_range hj,hv]
  simp [hv]
 refine⟨(List.range 51).map fun j=>(w.cell? ⟨b,j,none⟩).getD undef,by simp,fun j v hv=>?_,key,fun hb v hv=>?_⟩
 ·have hj:j<51:=by
   have:=(List.getElem?_eq_some_iff.1 hv).1
   simpa using this
  rw [Nat.zero_add,←key j hj]
  exact hv
 ·obtain⟨j,hj,rfl⟩:=List.mem_map.1 hv
  obtain⟨v,hv,ho⟩:=h.has j (List.mem_range.1 hj)
  rw [hv]
  exact ho hb
structure KnR(w:World)(b o:Nat)(bv:Value)(k:Kn):Prop where
 cR:∀ r,r<8→w.cell? ⟨b,o+r*2,none⟩=some (.int .i64 (k.regs r).lo)∧w.cell? ⟨b,o+(r*2+1),none⟩=some (.int .i64 (k.regs r).hi)
 cC:∀ c,c<16→w.cell? ⟨b,o+(16+c*2),none⟩=some (.int .i64 (k.cells c).lo)∧w.cell? ⟨b,o+(16+c*2+1),none⟩=some (.int .i64 (k.cells c).hi)
 cN:w.cell? ⟨b,o+48,none⟩=some (.int .i64 k.next)
 cB:w.cell? ⟨b,o+49,none⟩=some bv
 cS:w.cell? ⟨b,o+50,none⟩=some (.int .i64 k.steps)
theorem KnM.copyR{w w':World}{b b' o:Nat}{bv:Value}{k:Kn}(h:KnM w b bv k)(e:∀ j,j<51→w'.cell? ⟨b',o+j,none⟩=w.cell? ⟨b,j,none⟩):KnR w' b' o bv k :=
 ⟨fun r hr=>⟨(e _ (by omega)).trans (h.cR r hr).1,(e _ (by omega)).trans (h.cR r hr).2⟩,fun r hr=>⟨(e _ (by omega)).trans (h.cC r hr).1,(e _ (by omega)).trans (h.cC r hr).2⟩,(e _ (by omega)).trans h.cN,(e _ (by omega)).trans h.cB,(e _ (by omega)).trans h.cS⟩
theorem KnR.whole{w:World}{b:Nat}{bv:Value}{k:Kn}(h:KnR w b 0 bv k)(fz:∀ j,w.frozen? ⟨b,j,none⟩=false):KnM w b bv k:=by
 obtain⟨h1,h2,h3,h4,h5⟩:=h
 simp only [Nat.zero_add] at h1 h2 h3 h4 h5
 exact⟨h1,h2,h3,h4,h5,fz⟩
theorem KnR.block{w w':World}{b o:Nat}{bv:Value}{k:Kn}(h:KnR w b o bv k)(e:w'.heap[b]?=w.heap[b]?):KnR w' b o bv k:=by
 have c:∀ j,w'.cell? ⟨b,j,none⟩=w.cell? ⟨b,j,none⟩:=fun j=>World.cell?_of_block (w:=w) (a:=⟨b,j,none⟩) e
 exact⟨fun r hr=>⟨(c _).trans (h.cR r hr).1,(c _).trans (h.cR r hr).2⟩,fun r hr=>⟨(c _).trans (h.cC r hr).1,(c _).trans (h.cC r hr).2⟩,(c _).trans h.cN,(c _).trans h.cB,(c _).trans h.cS⟩
structure WaysAt(w w':World)(b:Nat)(bv:Value)(ks:List Kn)(ao:Option Addr)(ps:List Nat):Prop where
 grown:w.grownBy w' (some b)
 ptrs:∀(i p:Nat),ps[i]?=some p→∃ g,ao=some ⟨g,0,none⟩∧w.heap.size≤g∧w'.cell? ⟨g,i,none⟩=some (.pointer (some ⟨p,0,none⟩))
 len:ps.length=ks.length
 kn:∀(i p:Nat) (k:Kn),ps[i]?=some p→ks[i]?=some k→KnM w' p bv k
 nodup:ps.Nodup
 from':∀ p∈ps,p=b∨w.heap.size≤p
def zc5(w:World)(b:Nat)(bv:Value)(ks:List Kn):Ending→World→Prop:=fun e w'=>∃(ao:Option Addr) (cap:Nat) (ps:List Nat),e=.returned (.slice ao ps.length cap)∧WaysAt w w' b bv ks ao ps
theorem zk1{w:World}{b:Nat}{bv:Value}{k:Kn}{e:Ending}{w':World}(h:zaQ w b bv k e w'):zc5 w b bv [k] e w':=by
 obtain⟨g,rfl,hg,hc,hk,hgr⟩:=h
 refine⟨some ⟨g,0,none⟩,1,[b],rfl,⟨hgr,fun i p hp=>?_,rfl,fun i p k' hp hk'=>?_,by simp,fun p hp=>.inl (List.mem_singleton.1 hp)⟩⟩
 ·cases i with
  | zero=>cases hp;exact⟨g,rfl,hg,hc⟩
  | succ i=>simp at hp
 ·cases i with
  | zero=>cases hp;cases hk';exact hk
  | succ i=>simp at hp
abbrev Z217:Obj:=.cells #[.int .i64 0,.int .i64 0,.int .i64 0,.int .i64 0,.int .i64 0,.int .i64 0,.int .i64 0,.int .i64 0,.int .i64 0,.int .i64 0,.int .i64 0,.int .i64 0,.int .i64 0,.int .i64 0,.int .i64 0,.int .i64 0,.int .i64 0,.int .i64 0,.int .i64 0,.int .i64 0,.int .i64 0,.int .i64 0,.int .i64 0,.int .i64 0,.int .i64 0,.int .i64 0,.int .i64 0,.int .i64 0,.int .i64 0,.int .i64 0,.int .i64 0,.int .i64 0,.int .i64 0,.int .i64 0,.int .i64 0,.int .i64 0,.int .i64 0,.int .i64 0,.int .i64 0,.int .i64 0,.int .i64 0,.int .i64 0,.int .i64 0,.int .i64 0,.int .i64 0,.int .i64 0,.int .i64 0,.int .i64 0,.int .i64 0,.slice none 0 0,.int .i64 0] 217
theorem zeV(w:World):(w.alloc Z217).there w.heap.size 0 51:=fun j hj=>by
 refine⟨?_,by simp⟩
 have h:=World.cell?_alloc_new (w:=w) #[.int .i64 0,.int .i64 0,.int .i64 0,.int .i64 0,.int .i64 0,.int .i64 0,.int .i64 0,.int .i64 0,.int .i64 0,.int .i64 0,.int .i64 0,.int .i64 0,.int .i64 0,.int .i64 0,.int .i64 0,.int .i64 0,.int .i64 0,.int .i64 0,.int .i64 0,.int .i64 0,.int .i64 0,.int .i64 0,.int .i64 0,.int .i64 0,.int .i64 0,.int .i64 0,.int .i64 0,.int .i64 0,.int .i64 0,.int .i64 0,.int .i64 0,.int .i64 0,.int .i64 0,.int .i64 0,.int .i64 0,.int .i64 0,.int .i64 0,.int .i64 0,.int .i64 0,.int .i64 0,.int .i64 0,.int .i64 0,.int .i64 0,.int .i64 0,.int .i64 0,.int .i64 0,.int .i64 0,.int .i64 0,.int .i64 0,.slice none 0 0,.int .i64 0] 217 (0+j)
 rw [h,Array.getElem?_eq_getElem (by simpa using hj)]
 rfl
theorem Tryz.size217:(Tryz.prog.info? 217).map (·.size)=some 51:=by kernel_rfl
theorem KnM.fresh{w:World}{b:Nat}{bv:Value}{k:Kn}(h:KnM w b bv k)(cs:List Value)(hl:cs.length=51)(hcs:∀ j,j<51→cs[j]?=w.cell? ⟨b,j,none⟩):
  KnM ((w.alloc Z217).setCells w.heap.size 0 cs) w.heap.size bv k∧KnM ((w.alloc Z217).setCells w.heap.size 0 cs) b bv k∧Below w.heap.size w ((w.alloc Z217).setCells w.heap.size 0 cs):=by
 have hb:Below w.heap.size w ((w.alloc Z217).setCells w.heap.size 0 cs):=zaF _ 0 ((Below.refl w.heap.size w).alloc (Nat.le_refl _) _) (Nat.le_refl _)
 have ht:=zeV w
 rw [←hl] at ht
 have hr:=World.rangeAt_setCells_same (w.alloc Z217) w.heap.size 0 cs ht
 refine⟨(h.copyR (o:=0) fun j hj=>?_).whole fun j=>?_,h.below hb h.lt,hb⟩
 ·rw [←hcs j hj]
  have hjl:j<cs.length:=by omega
  rw [List.getElem?_eq_getElem hjl]
  exact hr j _ (List.getElem?_eq_getElem hjl)
 ·rw [World.frozen?_setCells]
  exact World.frozen?_alloc_at _ _ _ _ (by simp)
theorem KnM.grown{w w':World}{b c:Nat}{bv:Value}{k:Kn}(h:KnM w b bv k)(hg:w.grownBy w' (some c))(hne:¬b=c):KnM w' b bv k:=h.block (hg.block b h.lt (fun e=>hne (by cases e;rfl)))
theorem zaJ{w w':World}{b:Option Nat}(h:Below w.heap.size w w'):w.grownBy w' b:=⟨h.os,h.tape,h.output,h.size,fun q hq _=>h.block q hq⟩
theorem zdq{w w' w2:World}{b h:Nat}(hg:w.grownBy w' (some b))(hh:w.heap.size≤h)(h2:w'.grownBy w2 (some h)):w.grownBy w2 (some b) :=
 ⟨h2.os.trans hg.os,h2.tape.trans hg.tape,h2.output.trans hg.output,Nat.le_trans hg.size h2.size,fun i hi hne=>(h2.block i (Nat.lt_of_lt_of_le hi hg.size) (fun e=>by cases e;omega)).trans (hg.block i hi hne)⟩
theorem zjR{w w' w2:World}{b:Nat}(hg:w.grownBy w' (some b))(h2:w'.grownBy w2 none):w.grownBy w2 (some b) :=
 ⟨h2.os.trans hg.os,h2.tape.trans hg.tape,h2.output.trans hg.output,Nat.le_trans hg.size h2.size,fun i hi hne=>(h2.block i (Nat.lt_of_lt_of_le hi hg.size) (fun e=>by cases e)).trans (hg.block i hi hne)⟩
theorem KnM.grown0{w w':World}{b:Nat}{bv:Value}{k:Kn}(h:KnM w b bv k)(hg:w.grownBy w' none):KnM w' b bv k:=h.block (hg.block b h.lt (fun e=>by cases e))
theorem Tryz.info197:(Tryz.prog.info? 197).map (fun i=>(i.zero,i.size,i.bytes))=some (some (.pointer none),1,8):=by kernel_rfl
theorem Tryz.under150:Tryz.prog.underlying 150=some (.slice 197):=by kernel_rfl
theorem zd2{w:World}{B g cap n:Nat}{e:TypeId}{size:Nat}{xs:List Value}(h:w.ownsRow B e size (.slice (some ⟨g,0,none⟩) n cap) n xs)(j:Nat)(v:Value)(hv:xs[j]?=some v):w.cell? ⟨g,j,none⟩=some v:=by
 obtain⟨hl,h⟩:=h
 rcases h with ⟨h,_⟩|⟨g',cap',cur,h,_,hg,_,_,hs,ht⟩
 ·cases h
 ·cases h
  have hj:=(List.getElem?_eq_some_iff.1 hv).1
  rw [←ht,List.getElem?_take_of_lt (by omega)] at hv
  simp [World.cell?,hg]
  simpa using hv
theorem zi6{F G:Nat}{w:World}{b:Nat}{bv:Value}{k:Kn}(h:KnM w b bv k)(hbv:bv.oneCell'=true)(l r:Nat)(z:Int)(x y:Rg)
  (hF:∀ W b2,KnM W b2 bv k→Calls Tryz.prog 273 #[.pointer (some ⟨b2,0,none⟩),.int .i64 (l:Int),.int .i64 (r:Int),.func (.func F) #[] #[]] W (zf7 W b2 bv k l r (some (x,y))))
  (hG:∀ W b2,KnM W b2 bv k→Calls Tryz.prog 273 #[.pointer (some ⟨b2,0,none⟩),.int .i64 (l:Int),.int .i64 (r:Int),.func (.func G) #[] #[]] W (zf7 W b2 bv k l r (none)))
  (h0:0≤k.steps) (h1:k.steps≤100000) :
  Calls Tryz.prog 270 #[.pointer (some ⟨b,0,none⟩),.int .i64 (l:Int),.int .i64 (r:Int),.func (.func F) #[] #[],.func (.func G) #[] #[],.int .i64 z] w (zc5 w b bv [{ k with regs:=updR (updR k.regs l x) r y }.goTo z]):=by
 obtain⟨cs,hcl,hrange,hcs,hone⟩:=h.row
 have h1c:cs.toArray.all (·.oneCell')=true:=all_oneCell_toArray (hone hbv)
 have hi:(Tryz.prog.info? 217).map (·.size)=some cs.length:=by rw [hcl];exact Tryz.size217
 have hi2:(Tryz.prog.info? 217).map (·.size)=some cs.toArray.size:=by rw [show cs.toArray.size=51 by simp [hcl]];exact Tryz.size217
 obtain⟨hk2,hk1,hb1⟩:=h.fresh cs hcl hcs
 have ht:(w.alloc Z217).there w.heap.size 0 cs.toArray.size:=by rw [show cs.toArray.size=51 by simp [hcl]];exact zeV w
 have hlt:=h.lt
 have hu:Tryz.prog.underlying 217=some (.struct _):=Tryz.underlying217
 go_enter Tryz.func270,Tryz.ntmps270
 go_wp2_with(first
  | (refine wpList_load_mid rfl 217 _ rfl b 0 rfl cs _ hrange hu rfl hi ?_)
  | (refine wpList_store_mid rfl 217 _ _ rfl w.heap.size 0 cs.toArray rfl rfl ht hi2 h1c ?_)
  | (go_at_call 273;(with_reducible refine(hF _ b hk1).mono ?_);rintro e w2 ⟨rfl,hg2,x2,y2,hxy,hK2⟩;have hk3:=hk2.grown hg2 (by omega))
  | (go_at_call 273;(with_reducible refine(hG w2 w.heap.size hk3).mono ?_);rintro e w3 ⟨rfl,hg3,x3,y3,hxy3,hK3⟩;have hK4:=hK2.grown hg3 (by omega))
  | (go_at_call 229;(with_reducible refine(zgb hK4 z h0 h1).mono ?_);intro e w4 hw4;obtain⟨g,rfl,hg,hc,hk,hgr⟩:=hw4))
 obtain⟨rfl,rfl⟩:x=x2∧y=y2:=by have:=hxy _ rfl;simpa using this
 go_ret
 exact zk1 ⟨g,rfl,Nat.le_trans hb1.size (Nat.le_trans hg2.size (Nat.le_trans hg3.size hg)),hc,hk,zae (zdq (zae (zaJ hb1) hg2) (Nat.le_refl _) hg3) hgr⟩
theorem zi7{F G:Nat}{w:World}{b:Nat}{bv:Value}{k:Kn}(h:KnM w b bv k)(hbv:bv.oneCell'=true)(l r:Nat)(z:Int)(x' y':Rg)
  (hF:∀ W b2,KnM W b2 bv k→Calls Tryz.prog 273 #[.pointer (some ⟨b2,0,none⟩),.int .i64 (l:Int),.int .i64 (r:Int),.func (.func F) #[] #[]] W (zf7 W b2 bv k l r (none)))
  (hG:∀ W b2,KnM W b2 bv k→Calls Tryz.prog 273 #[.pointer (some ⟨b2,0,none⟩),.int .i64 (l:Int),.int .i64 (r:Int),.func (.func G) #[] #[]] W (zf7 W b2 bv k l r (some (x',y'))))
  (h0:0≤k.steps) (h1:k.steps≤100000) (n0:0≤k.next) (n1:k.next≤100000) :
  Calls Tryz.prog 270 #[.pointer (some ⟨b,0,none⟩),.int .i64 (l:Int),.int .i64 (r:Int),.func (.func F) #[] #[],.func (.func G) #[] #[],.int .i64 z] w (zc5 w b bv [{ k with regs:=updR (updR k.regs l x') r y' }.goTo (k.next+1)]):=by
 obtain⟨cs,hcl,hrange,hcs,hone⟩:=h.row
 have h1c:cs.toArray.all (·.oneCell')=true:=all_oneCell_toArray (hone hbv)
 have hi:(Tryz.prog.info? 217).map (·.size)=some cs.length:=by rw [hcl];exact Tryz.size217
 have hi2:(Tryz.prog.info? 217).map (·.size)=some cs.toArray.size:=by rw [show cs.toArray.size=51 by simp [hcl]];exact Tryz.size217
 obtain⟨hk2,hk1,hb1⟩:=h.fresh cs hcl hcs
 have ht:(w.alloc Z217).there w.heap.size 0 cs.toArray.size:=by rw [show cs.toArray.size=51 by simp [hcl]];exact zeV w
 have hlt:=h.lt
 have hu:Tryz.prog.underlying 217=some (.struct _):=Tryz.underlying217
 go_enter Tryz.func270,Tryz.ntmps270
 go_wp2_with(first
  | (refine wpList_load_mid rfl 217 _ rfl b 0 rfl cs _ hrange hu rfl hi ?_)
  | (refine wpList_store_mid rfl 217 _ _ rfl w.heap.size 0 cs.toArray rfl rfl ht hi2 h1c ?_)
  | (go_at_call 273;(with_reducible refine(hF _ b hk1).mono ?_);rintro e w2 ⟨rfl,hg2,x2,y2,hxy,hK2⟩;have hk3:=hk2.grown hg2 (by omega))
  | (go_at_call 273;(with_reducible refine(hG w2 w.heap.size hk3).mono ?_);rintro e w3 ⟨rfl,hg3,x3,y3,hxy3,hK3⟩;have hK4:=hK2.grown hg3 (by omega))
  | (go_at_call 227;(with_reducible refine(zcb hK3 h0 h1 n0 n1).mono ?_);intro e w4 hw4;obtain⟨g,rfl,hg,hc,hk,hgr⟩:=hw4))
 obtain⟨rfl,rfl⟩:x'=x3∧y'=y3:=by have:=hxy3 _ rfl;simpa using this
 go_ret
 have G3:w.grownBy w3 (some b):=zdq (zae (zaJ hb1) hg2) (Nat.le_refl _) hg3
 refine⟨some ⟨g,0,none⟩,1,[w.heap.size],rfl,⟨zdq G3 (Nat.le_refl _) hgr,fun i p hp=>?_,rfl,fun i p k' hp hk'=>?_,by simp,fun p hp=>.inr (by rw [List.mem_singleton.1 hp];exact Nat.le_refl _)⟩⟩
 ·cases i with
  | zero=>cases hp;exact⟨g,rfl,Nat.le_trans G3.size hg,hc⟩
  | succ i=>simp at hp
 ·cases i with
  | zero=>cases hp;cases hk';exact hk
  | succ i=>simp at hp
theorem zi8{F G:Nat}{w:World}{b:Nat}{bv:Value}{k:Kn}(h:KnM w b bv k)(hbv:bv.oneCell'=true)(l r:Nat)(z:Int)(x y x' y':Rg)
  (hF:∀ W b2,KnM W b2 bv k→Calls Tryz.prog 273 #[.pointer (some ⟨b2,0,none⟩),.int .i64 (l:Int),.int .i64 (r:Int),.func (.func F) #[] #[]] W (zf7 W b2 bv k l r (some (x,y))))
  (hG:∀ W b2,KnM W b2 bv k→Calls Tryz.prog 273 #[.pointer (some ⟨b2,0,none⟩),.int .i64 (l:Int),.int .i64 (r:Int),.func (.func G) #[] #[]] W (zf7 W b2 bv k l r (some (x',y'))))
  (h0:0≤k.steps) (h1:k.steps≤100000) (n0:0≤k.next) (n1:k.next≤100000) :
  Calls Tryz.prog 270 #[.pointer (some ⟨b,0,none⟩),.int .i64 (l:Int),.int .i64 (r:Int),.func (.func F) #[] #[],.func (.func G) #[] #[],.int .i64 z] w (zc5 w b bv [{ k with regs:=updR (updR k.regs l x) r y }.goTo z,{ k with regs:=updR (updR k.regs l x') r y' }.goTo (k.next+1)]):=by
 obtain⟨cs,hcl,hrange,hcs,hone⟩:=h.row
 have h1c:cs.toArray.all (·.oneCell')=true:=all_oneCell_toArray (hone hbv)
 have hi:(Tryz.prog.info? 217).map (·.size)=some cs.length:=by rw [hcl];exact Tryz.size217
 have hi2:(Tryz.prog.info? 217).map (·.size)=some cs.toArray.size:=by rw [show cs.toArray.size=51 by simp [hcl]];exact Tryz.size217
 obtain⟨hk2,hk1,hb1⟩:=h.fresh cs hcl hcs
 have ht:(w.alloc Z217).there w.heap.size 0 cs.toArray.size:=by rw [show cs.toArray.size=51 by simp [hcl]];exact zeV w
 have hlt:=h.lt
 have hu:Tryz.prog.underlying 217=some (.struct _):=Tryz.underlying217
 obtain⟨i0,hi0,hz0,hz1,hz2⟩:=info_parts Tryz.info197
 go_enter Tryz.func270,Tryz.ntmps270
 go_wp2_with(first
  | (refine wpList_load_mid rfl 217 _ rfl b 0 rfl cs _ hrange hu rfl hi ?_)
  | (refine wpList_store_mid rfl 217 _ _ rfl w.heap.size 0 cs.toArray rfl rfl ht hi2 h1c ?_)
  | (go_at_call 273;(with_reducible refine(hF _ b hk1).mono ?_);rintro e w2 ⟨rfl,hg2,x2,y2,hxy,hK2⟩;have hk3:=hk2.grown hg2 (by omega))
  | (go_at_call 273;(with_reducible refine(hG w2 w.heap.size hk3).mono ?_);rintro e w3 ⟨rfl,hg3,x3,y3,hxy3,hK3⟩;have hK4:=hK2.grown hg3 (by omega))
  | (go_at_call 229;(with_reducible refine(zgb hK4 z h0 h1).mono ?_);intro e w4 hw4;obtain⟨g,rfl,hg,hc,hk,hgr⟩:=hw4;have hK5:=hK3.grown hgr (by omega))
  | (go_at_call 227;(with_reducible refine(zcb hK5 h0 h1 n0 n1).mono ?_);intro e w5 hw5;obtain⟨g2,rfl,hg5,hc5,hk5,hgr5⟩:=hw5;have hgl:g<w4.heap.size:=World.block_lt_of_cell? w4 _ hc;have hc6:w5.cell? ⟨g,0,none⟩=some (.pointer (some ⟨b,0,none⟩)):=(World.cell?_of_block (w:=w4) (a:=⟨g,0,none⟩) (hgr5.block g hgl (fun e=>by cases e;have:=hb1.size;have:=hg2.size;have:=hg3.size;have:=hk3.lt;omega))).trans hc)
  | (at_builtin;(refine wpList_append_grows w5 rfl _ _ 150 rfl 197 i0 (.pointer none) 1 8 Tryz.under150 hi0 hz0 hz1 hz2 rfl (by decide) (some ⟨g,0,none⟩) 1 1 [.pointer (some ⟨b,0,none⟩)] rfl (fun h=>by cases h) rfl (fun a ha j u hu=>by cases ha;cases j with|zero=>cases hu;exact hc6|succ j=>simp at hu) ⟨g2,0,none⟩ 1 1 [.pointer (some ⟨w.heap.size,0,none⟩)] rfl rfl (fun j u hu=>by cases j with|zero=>cases hu;exact hc5|succ j=>simp at hu) (by simp [Value.oneCell']) (by omega) (by unfold maxLen;omega) (by omega) ?_);intro v' w6 hown6 hgr6;obtain⟨g6,c6,rfl,hg6,hg6l⟩:=hown6.form (by omega)))
 obtain⟨rfl,rfl⟩:x=x2∧y=y2:=by have:=hxy _ rfl;simpa using this
 obtain⟨rfl,rfl⟩:x'=x3∧y'=y3:=by have:=hxy3 _ rfl;simpa using this
 go_ret
 have G3:w.grownBy w3 (some b):=zdq (zae (zaJ hb1) hg2) (Nat.le_refl _) hg3
 have G5:w.grownBy w5 (some b):=zdq (zae G3 hgr) (Nat.le_refl _) hgr5
 have e0:=zd2 hown6 0 _ rfl
 have e1:=zd2 hown6 1 _ rfl
 have q0:=(hk.grown hgr5 (by omega)).grown0 hgr6
 have q1:=hk5.grown0 hgr6
 refine⟨some ⟨g6,0,none⟩,c6,[b,w.heap.size],rfl,⟨zjR G5 hgr6,fun i p hp=>?_,rfl,fun i p k' hp hk'=>?_,by simp;omega,fun p hp=>?_⟩⟩
 ·refine⟨g6,rfl,Nat.le_trans G5.size hg6,?_⟩
  cases i with
  | zero=>cases hp;exact e0
  | succ i=>cases i with
   | zero=>cases hp;exact e1
   | succ i=>simp at hp
 ·cases i with
  | zero=>cases hp;cases hk';exact q0
  | succ i=>cases i with
   | zero=>cases hp;cases hk';exact q1
   | succ i=>simp at hp
 ·rcases List.mem_cons.1 hp with rfl|hp
  ·exact .inl rfl
  ·exact .inr (by rw [List.mem_singleton.1 hp];exact Nat.le_refl _)
structure BhM(w:World)(ao:Option Addr)(cap:Nat)(l:List Int):Prop where
 len:l.length≤15
 le:l.length≤cap
 top:cap≤maxLen
 nil:ao=none→l=[]∧cap=0
 at0:∀ a,ao=some a→∃ g,a=⟨g,0,none⟩
 cell:∀ g,ao=some ⟨g,0,none⟩→g<w.heap.size∧∀(i:Nat) (v:Int),l[i]?=some v→w.cell? ⟨g,i,none⟩=some (.int .i64 v)
theorem zz2(w:World):BhM w none 0 []:=⟨Nat.zero_le _,Nat.zero_le _,Nat.zero_le _,fun _=>⟨rfl,rfl⟩,fun a h=>(by cases h),fun g h=>(by cases h)⟩
theorem BhM.kept{w w':World}{ao:Option Addr}{cap:Nat}{l:List Int}(h:BhM w ao cap l)(hs:w.heap.size≤w'.heap.size)(hb:∀ g,ao=some ⟨g,0,none⟩→w'.heap[g]?=w.heap[g]?):BhM w' ao cap l :=
 ⟨h.len,h.le,h.top,h.nil,h.at0,fun g hg=>⟨Nat.lt_of_lt_of_le (h.cell g hg).1 hs,fun i v hv=>(World.cell?_of_block (w:=w) (a:=⟨g,i,none⟩) (hb g hg)).trans ((h.cell g hg).2 i v hv)⟩⟩
theorem BhM.grown{w w':World}{ao:Option Addr}{cap:Nat}{l:List Int}{b:Nat}(h:BhM w ao cap l)(hg:w.grownBy w' (some b))(ap:∀ a,ao=some a→¬a.block=b):BhM w' ao cap l :=
 h.kept hg.size fun g e=>hg.block g (h.cell g e).1 (fun x=>ap _ e (by cases x;rfl))
theorem BhM.below{w w':World}{ao:Option Addr}{cap:Nat}{l:List Int}(h:BhM w ao cap l)(hb:Below w.heap.size w w'):BhM w' ao cap l :=
 h.kept hb.size fun g e=>hb.block g (h.cell g e).1
theorem zwk{w:World}(ao:Option Addr)(n cap:Nat)(hn:n≤15)(hc:n≤cap)(hm:cap≤maxLen)(h0:ao=none→n=0∧cap=0):Calls Tryz.prog 283 #[.slice ao n cap] w fun e w'=>e=.returned (.slice ao n n)∧w'=w:=by
 cases ao with
 | none =>
  obtain⟨rfl,rfl⟩:=h0 rfl
  go_enter Tryz.func283,Tryz.ntmps283
  go_wp2
  go_ret
  exact⟨rfl,rfl⟩
 | some a =>
  unfold maxLen at hm
  go_enter Tryz.func283,Tryz.ntmps283
  go_wp2
  go_ret
  exact⟨rfl,rfl⟩
theorem zz3{w:World}{B g cap n:Nat}{l:List Int}(h:w.ownsRow B 3 1 (.slice (some ⟨g,0,none⟩) n cap) n (i64s l))(hn:n≤15)(hg:g<w.heap.size):BhM w (some ⟨g,0,none⟩) cap l:=by
 have hl:l.length=n:=by have:=h.1;simpa [i64s] using this
 have hb:n≤cap∧cap≤maxLen:=by
  rcases h.2 with ⟨h,_⟩|⟨g',cap',cur,h,_,_,h1,h2,_,_⟩
  ·cases h
  ·cases h;exact⟨h1,h2⟩
 refine⟨by omega,by omega,hb.2,fun e=>(by cases e),fun a ha=>⟨g,by cases ha;rfl⟩,fun g' e=>?_⟩
 cases e
 exact⟨hg,fun i v hv=>zd2 h i _ (by unfold i64s;rw [List.getElem?_map,hv];rfl)⟩
theorem znF{P:Program}{ops:Array Oper}{o:Oper}{a:Act}{w:World}{K:Act→World→Prop}{Q:Exit→Act→World→Prop}{E:Prop}(hg:o.guard=none)(f:FuncId)(xs:Array Operand)(ts:Array TypeId)(_hop:o.op=Op.call { callee:=Callee.value (Operand.func f),args:=xs,argTypes:=ts })(args:Array Value)(hrun:(execOp a.eval o).run P w=.ok (.enter f args) w)(v:Value)
  (hc:Calls P f args w fun e w''=>e=.returned v∧w''=w) (hK:K (a.put o.dst v) w):if Region.wanted o (yielded ops a.tmps)=true then Oper.wp P o a w K Q else E:=by
 have hw:Region.wanted o (yielded ops a.tmps)=true:=by simp [Region.wanted,hg]
 rw [if_pos hw]
 unfold Oper.wp
 rw [hrun,Oper.upon_enter]
 refine hc.mono fun e w'' hh=>?_
 obtain⟨rfl,rfl⟩:=hh
 exact hK
def zpr(w:World)(b:Nat)(k:Kn)(z:Int):Ending→World→Prop:=fun e w'=>∃ g c,zaQ w b (.slice (some ⟨g,0,none⟩) (k.behind.length+1) c) ({ k with behind:=k.behind++[k.next+1] }.goTo z) e w'∧BhM w' (some ⟨g,0,none⟩) c (k.behind++[k.next+1])∧w.heap.size≤g
theorem zt1{w:World}{b cap:Nat}{ao:Option Addr}{k:Kn}(h:KnM w b (.slice ao k.behind.length cap) k)(B:BhM w ao cap k.behind)(z:Int)(hlen:k.behind.length<15)(h0:0≤k.steps)(h1:k.steps≤100000)(n0:0≤k.next)(n1:k.next≤100000):
  Calls Tryz.prog 282 #[.pointer (some ⟨b,0,none⟩),.int .i64 z] w (zpr w b k z):=by
 have hfr:=zf6 h B.len
 have hcl:=fun W=>zwk (w:=W) ao k.behind.length cap B.len B.le B.top (fun e=>by obtain⟨e1,e2⟩:=B.nil e;rw [e1];exact⟨rfl,e2⟩)
 have c:=h.cB
 have n:=h.cN
 have hlt:=h.lt
 obtain⟨i0,hi0,hz0,hz1,hz2⟩:=info_parts Tryz.info3
 have t16:(((k.behind.length:Int)+1) == 16)=false:=by simpa using (by omega:¬(k.behind.length:Int)+1=16)
 have hold:∀ a,ao=some a→∀(j:Nat) u,(i64s k.behind)[j]?=some u→(w.alloc (.cells #[.int .i64 (k.next+1)] 3)).cell? (a.add j)=some u:=fun a ha j u hu=>by
  obtain⟨g,rfl⟩:=B.at0 a ha
  obtain⟨hg,hc⟩:=B.cell g ha
  unfold i64s at hu
  rw [List.getElem?_map] at hu
  cases hv:k.behind[j]? with
  | none=>rw [hv] at hu;cases hu
  | some v =>
   rw [hv] at hu
   cases hu
   rw [Addr.add_mid,Nat.zero_add,World.cell?_of_block (w:=w) (a:=⟨g,j,none⟩) (Below.heap_alloc _ _ _ hg)]
   exact hc j v hv
 have hold2:∀ a,ao=some a→∀(j:Nat) u,(i64s k.behind)[j]?=some u→(w.alloc (.cells #[.int .i64 (k.next+1)] 3)).drew.cell? (a.add j)=some u:=hold
 have hnews:∀(j:Nat) u,[Value.int .i64 (k.next+1)][j]?=some u→(w.alloc (.cells #[.int .i64 (k.next+1)] 3)).drew.cell? ((⟨w.heap.size,0,none⟩:Addr).add j)=some u:=World.news_of_block (cs:=#[.int .i64 (k.next+1)]) (t:=3) (fr:=(0,0)) (zoH w _ _)
 have hnil:ao=none→k.behind.length=0∧k.behind.length=0:=fun e=>by obtain⟨e1,e2⟩:=B.nil e;rw [e1];exact⟨rfl,rfl⟩
 have hl59:(i64s k.behind).length=k.behind.length*1:=by simp [i64s]
 have hone:∀ u∈[Value.int .i64 (k.next+1)],u.oneCell'=true:=by simp [Value.oneCell']
 have hK0:KnM (w.alloc (.cells #[.int .i64 (k.next+1)] 3)).drew b (.slice ao k.behind.length cap) k:=h.below box1.drew h.lt
 have hw1:IntKind.i64.wrap (k.next+1)=k.next+1:=zdD _ (by omega) (by omega)
 go_enter Tryz.func282,Tryz.ntmps282
 go_wp2_with(first
  | (go_at_call 136;(with_reducible refine hfr.mono ?_);rintro e wx ⟨rfl,hww⟩;have hw2:=hww.symm;subst hw2))
 go_region_law (first
  | (refine znF rfl 283 #[.tmp 13] #[59] rfl #[.slice ao k.behind.length cap] (by kernel_rfl) (.slice ao k.behind.length k.behind.length) (hcl _) ?_)
  | (refine step_append_grows rfl (.tmp 14) (.tmp 20) 59 rfl 3 i0 (.int .i64 0) 1 8 Tryz.under59 hi0 hz0 hz1 hz2 rfl (by decide) ao k.behind.length k.behind.length (i64s k.behind) rfl hnil hl59 hold2 ⟨w.heap.size,0,none⟩ 1 1 [.int .i64 (k.next+1)] rfl rfl hnews hone (by omega) (by unfold maxLen;omega) (by omega) ?_;intro v' w4 hown4 hgr4;obtain⟨g4,c4,rfl,hg4,hg4l⟩:=hown4.form (by omega);have hK4:=hK0.grown0 hgr4;have d4:=hK4.cB;have f4:=hK4.fz 49;have hK5:=hK4.putB (.slice (some ⟨g4,0,none⟩) (k.behind.length+1) c4) (k.behind++[k.next+1])))
 all_goals go_wp2_with(go_at_call 229;(with_reducible refine(zgb hK5 z h0 h1).mono ?_);rintro e w6 ⟨g,rfl,hg,hc,hk,hgr⟩)
 all_goals go_ret
 all_goals have G4:w.grownBy w4 (some b):=zjR (zaJ (b:=some b) box1.drew) hgr4
 all_goals have hsz:((w.alloc (.cells #[.int .i64 (k.next+1)] 3)).drew).heap.size=w.heap.size+1:=by simp
 all_goals rw [hsz] at hg4
 all_goals have G5:w4.grownBy (w4.setCell ⟨b,49,none⟩ (.slice (some ⟨g4,0,none⟩) (k.behind.length+1) c4)) (some b):=zah (Below.refl _ _)
 all_goals have hrow:(i64s k.behind++[Value.int .i64 (k.next+1)])=i64s (k.behind++[k.next+1]):=by simp [i64s]
 all_goals rw [hrow] at hown4
 all_goals exact⟨g4,c4,⟨g,rfl,Nat.le_trans (Nat.le_trans G4.size G5.size) hg,hc,hk,zae (zae G4 G5) hgr⟩,(zz3 hown4 (by omega) hg4l).grown (zae G5 hgr) (fun a ha=>by cases ha;show ¬g4=b;omega),by omega⟩
end Go.Proofs.YtfpgjkbjbbgciaaGreatDoor
