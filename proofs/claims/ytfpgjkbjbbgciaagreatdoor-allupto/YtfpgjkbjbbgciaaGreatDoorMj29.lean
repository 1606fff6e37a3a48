import Derived.Test.YtfpgjkbjbbgciaaGreatDoorMj26
set_option maxRecDepth 100000
set_option maxHeartbeats 8000000
namespace Go.Proofs.YtfpgjkbjbbgciaaGreatDoor
section
open Go.RowKit Sp
theorem KnM.gone{w:World}{b:Nat}{bv:Value}{k:Kn}(h:KnM w b bv k)(z:Int):KnM ((w.setCell ⟨b,50,none⟩ (.int .i64 (k.steps+1))).setCell ⟨b,48,none⟩ (.int .i64 z)) b bv (k.goTo z):=by
 have a:KnM (w.setCell ⟨b,50,none⟩ (.int .i64 (k.steps+1))) b bv { k with steps:=k.steps+1 }:=h.set 50 _ _ h.cS (fun r hr=>⟨by rw [if_neg (by omega)],by rw [if_neg (by omega)]⟩) (fun r hr=>⟨by rw [if_neg (by omega)],by rw [if_neg (by omega)]⟩) (by rw [if_neg (by omega)]) (by rw [if_neg (by omega)]) (by rw [if_pos rfl]);exact a.set 48 _ _ a.cN (fun r hr=>⟨by rw [if_neg (by omega)];rfl,by rw [if_neg (by omega)];rfl⟩) (fun r hr=>⟨by rw [if_neg (by omega)];rfl,by rw [if_neg (by omega)];rfl⟩) (by rw [if_pos rfl];rfl) (by rw [if_neg (by omega)]) (by rw [if_neg (by omega)];rfl)
theorem zpz{w:World}{b:Nat}{bv:Value}{k:Kn}(h:KnM w b bv k)(z:Int):zbe w b bv (k.goTo z) (.returned (.slice (some ⟨w.heap.size,0,none⟩) 1 1)) (((w.setCell ⟨b,50,none⟩ (.int .i64 (k.steps+1))).setCell ⟨b,48,none⟩ (.int .i64 z)).alloc (.cells #[.pointer (some ⟨b,0,none⟩)] 197)):=by
 refine⟨w.heap.size,rfl,Nat.le_refl _,?_,(h.gone z).alloc _,?_⟩
 ·have e:((w.setCell ⟨b,50,none⟩ (.int .i64 (k.steps+1))).setCell ⟨b,48,none⟩ (.int .i64 z)).heap.size=w.heap.size:=by rw [World.size_setCell,World.size_setCell]
  rw [←e];exact World.cell?_alloc_new _ _ _ 0
 ·exact zag (zag (zac (Below.refl _ _)) (zac (Below.refl _ _))) (World.grownBy_alloc _ _ _)
theorem zc0{w:World}{b:Nat}{bv:Value}{k:Kn}(h:KnM w b bv k)(h0:0≤k.steps)(h1:k.steps≤100000)(n0:0≤k.next)(n1:k.next≤100000):qC 227 #[.pointer (some ⟨b,0,none⟩)] w (zbe w b bv (k.goTo (k.next+1))):=by
 have c:=h.cS;have n:=h.cN;have f1:=h.fz 50;have f2:=h.fz 48;have hlt:=h.lt;go_enter Tryz.func227,Tryz.ntmps227;go_wp2;go_ret;exact zpz h _
theorem zum{w:World}{b cap:Nat}{ao:Option Addr}{k:Kn}(h:KnM w b (.slice ao 0 cap) k):qC 287 #[.pointer (some ⟨b,0,none⟩)] w fun e w'=>e=.returned (.slice none 0 0)∧w'=w:=by
 have c:=h.cB;go_enter Tryz.func287,Tryz.ntmps287;go_wp2;go_ret;exact⟨rfl,rfl⟩
theorem KnM.putB{w:World}{b:Nat}{bv:Value}{k:Kn}(h:KnM w b bv k)(bv2:Value)(l:List Int):KnM (w.setCell ⟨b,49,none⟩ bv2) b bv2 { k with behind:=l } :=
 h.set 49 _ _ h.cB (fun r hr=>⟨by rw [if_neg (by omega)],by rw [if_neg (by omega)]⟩) (fun r hr=>⟨by rw [if_neg (by omega)],by rw [if_neg (by omega)]⟩) (by rw [if_neg (by omega)]) (by rw [if_pos rfl]) (by rw [if_neg (by omega)])
end
section
open Go.ChangeShapes Go.WideShapes Go.ChangeAt Go.RowKit Sp
open Go.ChangeMaps (open_string shut_string)
theorem Tryz.own:ownKnob Tryz.prog.godebug=none:=by kernel_rfl
theorem gES:Tryz.prog.globalNamed "strconv.ErrSyntax" = some 3:=by kernel_rfl
theorem gER:Tryz.prog.globalNamed "strconv.ErrRange" = some 4:=by kernel_rfl
theorem zyy:(Tryz.prog.globals[3]?).map (·.type)=some 246:=by kernel_rfl
theorem zyz:(Tryz.prog.globals[4]?).map (·.type)=some 246:=by kernel_rfl
theorem star : "*errors.errorString" = "*" ++ "errors.errorString":=by decide
theorem zx0 (u:TypeId) (h:Tryz.prog.typeName? 3 u=some "*errors.errorString"):u=267 :=
 typeName_ptr_named (nm := "errors.errorString") (by rw [←star];kernel_rfl) (by kernel_rfl) (by decide) u (by rw [←star];exact h)
theorem zps:Tryz.prog.cellsOf 269=1:=by kernel_rfl
theorem zx1:Tryz.prog.cellsOf 9=1:=by kernel_rfl
theorem znO{W:World}(hL0:laidMetH Tryz.prog Rows.checksUptoRow.laid W)(hsh:W.ShapedOpen Tryz.prog):LibW W:=by
 have h:laidMet Tryz.prog Rows.checksUptoRow.laid W:=hL0;have b:=Lib.laidMet.reads h (.tail _ (.tail _ (.tail _ (.head _))));have c:=Lib.laidMet.reads h (.tail _ (.tail _ (.tail _ (.tail _ (.tail _ (.tail _ (.head _)))))));obtain⟨a0,s0,i,-,-,-⟩:=laid_sentinel h.tail.tail.tail.tail gER zyz Tryz.underlying246 zx0 Tryz.underlying267 Tryz.underlying269 rfl rfl Tryz.underlying9 zps zx1;obtain⟨a1,s1,j,-,-,-⟩:=laid_sentinel h.tail.tail.tail.tail.tail gES zyy Tryz.underlying246 zx0 Tryz.underlying267 Tryz.underlying269 rfl rfl Tryz.underlying9 zps zx1;have hpf:Rows.laid_unicode_utf8_first=Lib.firstData:=Pinned.utf8First_eq;have hpa:Rows.laid_unicode_utf8_acceptRanges=(Lib.acceptData:DataW Unit):=by kernel_rfl
 rw [hpf] at c;rw [hpa] at b;have d:Lib.Utf8Tabs 1 2 W :=
  utf8Tabs_of_reads (ρ:=Tryz.lays197_ren) { Tryz.lays197 with } ⟨by kernel_rfl,by kernel_rfl,by kernel_rfl,by kernel_rfl,by kernel_rfl,by kernel_rfl,by kernel_rfl⟩ c b
 have f:∃ m,W.cell? ⟨0,0,none⟩=some (.int .i64 m):=cell_of_shapedOpen_int (g:=0) (t:=3) (zero:=#[.int .i64 0]) hsh (of_decide_eq_true (by kernel_rfl)) (by kernel_rfl) rfl (by kernel_rfl) (by kernel_rfl) Tryz.underlying3;have e:=Lib.laidMet.reads h (.tail _ (.head _));refine⟨d,f,⟨_,_,j⟩,⟨_,_,i⟩,?_⟩;obtain⟨g,ty,cs,fuel,pp,k,_,a,_⟩:=e;obtain rfl:g=7:=Option.some.inj (k.symm.trans (show Tryz.prog.globalNamed "math/bits.deBruijn64tab" = some 7 by kernel_rfl));unfold World.var? at a;rw [k] at a;cases hh:W.heap[7]? with
 | none=>simp [hh] at a
 | some o=>exact(Array.getElem?_eq_some_iff.1 hh).1
end
section
open Go.RowKit Sp
theorem KnM.putR{w:World}{b:Nat}{bv:Value}{k:Kn}(h:KnM w b bv k)(a:Nat)(ha:a<8)(v:Rg):KnM ((w.setCell ⟨b,a*2,none⟩ (.int .i64 v.lo)).setCell ⟨b,a*2+1,none⟩ (.int .i64 v.hi)) b bv { k with regs:=updR k.regs a v }:=by
 have d:KnM (w.setCell ⟨b,a*2,none⟩ (.int .i64 v.lo)) b bv { k with regs:=updR k.regs a ⟨v.lo,(k.regs a).hi⟩ }:=h.set (a*2) _ _ (h.cR a ha).1 (fun c hc=>⟨by
  by_cases e:c=a
  ·subst e;rw [if_pos rfl];show _=Value.int .i64 (updR k.regs c ⟨v.lo,(k.regs c).hi⟩ c).lo;rw [zdD]
  ·rw [if_neg (by omega)];show _=Value.int .i64 (updR k.regs a ⟨v.lo,(k.regs a).hi⟩ c).lo;unfold updR;rw [if_neg e],by
  rw [if_neg (by omega)];show _=Value.int .i64 (updR k.regs a ⟨v.lo,(k.regs a).hi⟩ c).hi;unfold updR;by_cases e:c=a
  ·subst e;rw [if_pos rfl]
  ·rw [if_neg e]⟩) (fun r hr=>⟨by rw [if_neg (by omega)],by rw [if_neg (by omega)]⟩) (by rw [if_neg (by omega)]) (by rw [if_neg (by omega)]) (by rw [if_neg (by omega)])
 refine d.set (a*2+1) _ _ (d.cR a ha).2 (fun c hc=>⟨?_,?_⟩) (fun r hr=>⟨by rw [if_neg (by omega)],by rw [if_neg (by omega)]⟩) (by rw [if_neg (by omega)]) (by rw [if_neg (by omega)]) (by rw [if_neg (by omega)])
 ·rw [if_neg (by omega)];show Value.int .i64 (updR k.regs a ⟨v.lo,(k.regs a).hi⟩ c).lo=Value.int .i64 (updR k.regs a v c).lo;unfold updR;by_cases e:c=a
  ·rw [if_pos e,if_pos e]
  ·rw [if_neg e,if_neg e]
 ·show _=Value.int .i64 (updR k.regs a v c).hi;by_cases e:c=a
  ·subst e;rw [if_pos rfl,zdD]
  ·rw [if_neg (by omega)];show Value.int .i64 (updR k.regs a ⟨v.lo,(k.regs a).hi⟩ c).hi=_;unfold updR;rw [if_neg e,if_neg e]
def zfI(w:World)(b:Nat)(bv:Value)(k:Kn)(l r:Nat)(q:Option (Rg × Rg)):Ending→World→Prop:=fun e w'=>e=.returned (.bool q.isSome)∧w.grownBy w' (some b)∧∃ x y,(∀ p,q=some p→p=(x,y))∧KnM w' b bv { k with regs:=updR (updR k.regs l x) r y }
theorem zud{w:World}{l r:Rg}{q:Option (Rg × Rg)}{e:Ending}{w':World}(h:zdR w l r q e w'):∃ x y,e=.returned (.tuple #[rv x,rv y,.bool q.isSome])∧(∀ p,q=some p→p=(x,y))∧qB w w':=by
 obtain⟨a,h⟩:=h;cases q with
 | none=>obtain⟨x,y,rfl⟩:=h;exact⟨x,y,rfl,fun p hp=>(by cases hp),a⟩
 | some p=>obtain⟨x,y⟩:=p;exact⟨x,y,h,fun p hp=>(by cases hp;rfl),a⟩
theorem zpw{F:Nat}(hfn:∀(args:Array Value) (W:World),(callFunc F args).run Tryz.prog W=.ok (.enter F args) W){w:World}{b:Nat}{bv:Value}{k:Kn}(h:KnM w b bv k)(l r:Nat)(hl:l<8)(hr:r<8)(hne:¬l=r)(q:Option (Rg × Rg))(hF:∀ W,qC F #[rv (k.regs l),rv (k.regs r)] W (zdR W (k.regs l) (k.regs r) q)):
  qC 273 #[.pointer (some ⟨b,0,none⟩),.int .i64 (l:Int),.int .i64 (r:Int),.func (.func F) #[] #[]] w (zfI w b bv k l r q):=by
 obtain⟨d0,d1⟩:=h.cR l hl;obtain⟨d2,d3⟩:=h.cR r hr;have g:∀ W,qB w W→KnM W b bv k:=fun W hW=>h.below hW h.lt;have hlt:=h.lt;have hl0:(0:Int)≤(l:Int):=by omega
 have hl1:(l:Int)<8:=by omega
 have hr0:(0:Int)≤(r:Int):=by omega
 have hr1:(r:Int)<8:=by omega
 have n1:¬l*2=r*2:=by omega
 have n2:¬l*2+1=r*2:=by omega
 have n3:¬l*2=r*2+1:=by omega
 have n4:¬l*2+1=r*2+1:=by omega
 have n5:¬r*2=l*2:=by omega
 have n6:¬r*2+1=l*2:=by omega
 have n7:¬r*2=l*2+1:=by omega
 have n8:¬r*2+1=l*2+1:=by omega
 clear h;go_enter Tryz.func273,Tryz.ntmps273;go_wp2;go_region_with(first|((with_reducible refine(hF _).mono ?_);intro e j i;obtain⟨x,y,rfl,c,d⟩:=zud i;have f:qB w j:=(Below.refl _ w).drew.trans d;have a:=g _ f;have y0:=(a.cR l hl).1;have y1:=(a.cR l hl).2;have y2:=a.fz (l*2);have y3:=a.fz (l*2+1);have y4:=(a.cR r hr).1;have y5:=(a.cR r hr).2;have y6:=a.fz (r*2);have y7:=a.fz (r*2+1)))
 all_goals go_wp2
 all_goals go_ret
 all_goals exact⟨rfl,zag (zag (zag (zac f) (zac (Below.refl _ _))) (zac (Below.refl _ _))) (zac (Below.refl _ _)),x,y,c,(a.putR l hl x).putR r hr y⟩
theorem KnM.has{w:World}{b:Nat}{bv:Value}{k:Kn}(h:KnM w b bv k)(j:Nat)(hj:j<51):∃ v,w.cell? ⟨b,j,none⟩=some v∧(bv.oneCell'=true→v.oneCell'=true):=by
 by_cases h1:j<16
 ·rcases Nat.mod_two_eq_zero_or_one j with e|e
  ·have:=(h.cR (j/2) (by omega)).1;rw [show j/2*2=j by omega] at this;exact⟨_,this,fun _=>rfl⟩
  ·have:=(h.cR (j/2) (by omega)).2;rw [show j/2*2+1=j by omega] at this;exact⟨_,this,fun _=>rfl⟩
 ·by_cases h2:j<48
  ·rcases Nat.mod_two_eq_zero_or_one j with e|e
   ·have:=(h.cC ((j-16)/2) (by omega)).1;rw [show 16+(j-16)/2*2=j by omega] at this;exact⟨_,this,fun _=>rfl⟩
   ·have:=(h.cC ((j-16)/2) (by omega)).2;rw [show 16+(j-16)/2*2+1=j by omega] at this;exact⟨_,this,fun _=>rfl⟩
  ·rcases(by omega:j=48∨j=49∨j=50) with e|e|e
   ·subst e;exact⟨_,h.cN,fun _=>rfl⟩
   ·subst e;exact⟨_,h.cB,fun h=>h⟩
   ·subst e;exact⟨_,h.cS,fun _=>rfl⟩
theorem KnM.row{w:World}{b:Nat}{bv:Value}{k:Kn}(h:KnM w b bv k):∃ cs:List Value,cs.length=51∧w.rangeAt b 0 cs∧(∀ j,j<51→cs[j]?=w.cell? ⟨b,j,none⟩)∧(bv.oneCell'=true→∀ v∈cs,v.oneCell'=true):=by
 have d:∀ j,j<51→((List.range 51).map fun j=>(w.cell? ⟨b,j,none⟩).getD undef)[j]?=w.cell? ⟨b,j,none⟩:=fun j c=>by
  obtain⟨v,a,_⟩:=h.has j c;rw [List.getElem?_map,List.getElem?_range c,a];simp [a]
 refine⟨(List.range 51).map fun j=>(w.cell? ⟨b,j,none⟩).getD undef,by simp,fun j v a=>?_,d,fun hb v a=>?_⟩
 ·have c:j<51:=by
   have:=(List.getElem?_eq_some_iff.1 a).1;simpa using this
  rw [Nat.zero_add,←d j c];exact a
 ·obtain⟨j,c,rfl⟩:=List.mem_map.1 a;obtain⟨v,a,e⟩:=h.has j (List.mem_range.1 c);rw [a];exact e hb
structure KnR(w:World)(b o:Nat)(bv:Value)(k:Kn):Prop where
 cR:∀ r,r<8→w.cell? ⟨b,o+r*2,none⟩=some (.int .i64 (k.regs r).lo)∧w.cell? ⟨b,o+(r*2+1),none⟩=some (.int .i64 (k.regs r).hi)
 cC:∀ c,c<16→w.cell? ⟨b,o+(16+c*2),none⟩=some (.int .i64 (k.cells c).lo)∧w.cell? ⟨b,o+(16+c*2+1),none⟩=some (.int .i64 (k.cells c).hi)
 cN:w.cell? ⟨b,o+48,none⟩=some (.int .i64 k.next)
 cB:w.cell? ⟨b,o+49,none⟩=some bv
 cS:w.cell? ⟨b,o+50,none⟩=some (.int .i64 k.steps)
theorem KnM.copyR{w w':World}{b b' o:Nat}{bv:Value}{k:Kn}(h:KnM w b bv k)(e:∀ j,j<51→w'.cell? ⟨b',o+j,none⟩=w.cell? ⟨b,j,none⟩):KnR w' b' o bv k :=
 ⟨fun r hr=>⟨(e _ (by omega)).trans (h.cR r hr).1,(e _ (by omega)).trans (h.cR r hr).2⟩,fun r hr=>⟨(e _ (by omega)).trans (h.cC r hr).1,(e _ (by omega)).trans (h.cC r hr).2⟩,(e _ (by omega)).trans h.cN,(e _ (by omega)).trans h.cB,(e _ (by omega)).trans h.cS⟩
theorem KnR.whole{w:World}{b:Nat}{bv:Value}{k:Kn}(h:KnR w b 0 bv k)(fz:∀ j,w.frozen? ⟨b,j,none⟩=false):KnM w b bv k:=by
 obtain⟨c,d,f,a,e⟩:=h;simp only [Nat.zero_add] at c d f a e;exact⟨c,d,f,a,e,fz⟩
theorem KnR.block{w w':World}{b o:Nat}{bv:Value}{k:Kn}(h:KnR w b o bv k)(e:w'.heap[b]?=w.heap[b]?):KnR w' b o bv k:=by
 have c:∀ j,w'.cell? ⟨b,j,none⟩=w.cell? ⟨b,j,none⟩:=fun j=>World.cell?_of_block (w:=w) (a:=⟨b,j,none⟩) e;exact⟨fun r hr=>⟨(c _).trans (h.cR r hr).1,(c _).trans (h.cR r hr).2⟩,fun r hr=>⟨(c _).trans (h.cC r hr).1,(c _).trans (h.cC r hr).2⟩,(c _).trans h.cN,(c _).trans h.cB,(c _).trans h.cS⟩
structure WaysAt(w w':World)(b:Nat)(bv:Value)(ks:List Kn)(ao:Option Addr)(ps:List Nat):Prop where
 grown:w.grownBy w' (some b)
 ptrs:∀(i p:Nat),ps[i]?=some p→∃ g,ao=some ⟨g,0,none⟩∧w.heap.size≤g∧w'.cell? ⟨g,i,none⟩=some (.pointer (some ⟨p,0,none⟩))
 len:ps.length=ks.length
 kn:∀(i p:Nat) (k:Kn),ps[i]?=some p→ks[i]?=some k→KnM w' p bv k
 nodup:ps.Nodup
 from':∀ p∈ps,p=b∨w.heap.size≤p
def zcU(w:World)(b:Nat)(bv:Value)(ks:List Kn):Ending→World→Prop:=fun e w'=>∃(ao:Option Addr) (cap:Nat) (ps:List Nat),e=.returned (.slice ao ps.length cap)∧WaysAt w w' b bv ks ao ps
theorem zkL{w:World}{b:Nat}{bv:Value}{k:Kn}{e:Ending}{w':World}(h:zbe w b bv k e w'):zcU w b bv [k] e w':=by
 obtain⟨g,rfl,c,f,d,a⟩:=h;refine⟨some ⟨g,0,none⟩,1,[b],rfl,⟨a,fun i p hp=>?_,rfl,fun i p k' hp hk'=>?_,by simp,fun p hp=>.inl (List.mem_singleton.1 hp)⟩⟩
 ·cases i with
  | zero=>cases hp;exact⟨g,rfl,c,f⟩
  | succ i=>simp at hp
 ·cases i with
  | zero=>cases hp;cases hk';exact d
  | succ i=>simp at hp
abbrev Z217:Obj:=.cells #[.int .i64 0,.int .i64 0,.int .i64 0,.int .i64 0,.int .i64 0,.int .i64 0,.int .i64 0,.int .i64 0,.int .i64 0,.int .i64 0,.int .i64 0,.int .i64 0,.int .i64 0,.int .i64 0,.int .i64 0,.int .i64 0,.int .i64 0,.int .i64 0,.int .i64 0,.int .i64 0,.int .i64 0,.int .i64 0,.int .i64 0,.int .i64 0,.int .i64 0,.int .i64 0,.int .i64 0,.int .i64 0,.int .i64 0,.int .i64 0,.int .i64 0,.int .i64 0,.int .i64 0,.int .i64 0,.int .i64 0,.int .i64 0,.int .i64 0,.int .i64 0,.int .i64 0,.int .i64 0,.int .i64 0,.int .i64 0,.int .i64 0,.int .i64 0,.int .i64 0,.int .i64 0,.int .i64 0,.int .i64 0,.int .i64 0,.slice none 0 0,.int .i64 0] 217
theorem zfq(w:World):(w.alloc Z217).there w.heap.size 0 51:=fun j hj=>by
 refine⟨?_,by simp⟩;have h:=World.cell?_alloc_new (w:=w) #[.int .i64 0,.int .i64 0,.int .i64 0,.int .i64 0,.int .i64 0,.int .i64 0,.int .i64 0,.int .i64 0,.int .i64 0,.int .i64 0,.int .i64 0,.int .i64 0,.int .i64 0,.int .i64 0,.int .i64 0,.int .i64 0,.int .i64 0,.int .i64 0,.int .i64 0,.int .i64 0,.int .i64 0,.int .i64 0,.int .i64 0,.int .i64 0,.int .i64 0,.int .i64 0,.int .i64 0,.int .i64 0,.int .i64 0,.int .i64 0,.int .i64 0,.int .i64 0,.int .i64 0,.int .i64 0,.int .i64 0,.int .i64 0,.int .i64 0,.int .i64 0,.int .i64 0,.int .i64 0,.int .i64 0,.int .i64 0,.int .i64 0,.int .i64 0,.int .i64 0,.int .i64 0,.int .i64 0,.int .i64 0,.int .i64 0,.slice none 0 0,.int .i64 0] 217 (0+j);rw [h,Array.getElem?_eq_getElem (by simpa using hj)];rfl
theorem Tryz.size217:(Tryz.prog.info? 217).map (·.size)=some 51:=by kernel_rfl
theorem KnM.fresh{w:World}{b:Nat}{bv:Value}{k:Kn}(h:KnM w b bv k)(cs:List Value)(hl:cs.length=51)(hcs:∀ j,j<51→cs[j]?=w.cell? ⟨b,j,none⟩):
  KnM ((w.alloc Z217).setCells w.heap.size 0 cs) w.heap.size bv k∧KnM ((w.alloc Z217).setCells w.heap.size 0 cs) b bv k∧qB w ((w.alloc Z217).setCells w.heap.size 0 cs):=by
 have c:qB w ((w.alloc Z217).setCells w.heap.size 0 cs):=zal _ 0 ((Below.refl w.heap.size w).alloc (Nat.le_refl _) _) (Nat.le_refl _);have d:=zfq w;rw [←hl] at d;have e:=World.rangeAt_setCells_same (w.alloc Z217) w.heap.size 0 cs d;refine⟨(h.copyR (o:=0) fun j hj=>?_).whole fun j=>?_,h.below c h.lt,c⟩
 ·rw [←hcs j hj];have a:j<cs.length:=by omega
  rw [List.getElem?_eq_getElem a];exact e j _ (List.getElem?_eq_getElem a)
 ·rw [World.frozen?_setCells];exact World.frozen?_alloc_at _ _ _ _ (by simp)
theorem KnM.grown{w w':World}{b c:Nat}{bv:Value}{k:Kn}(h:KnM w b bv k)(hg:w.grownBy w' (some c))(hne:¬b=c):KnM w' b bv k:=h.block (hg.block b h.lt (fun e=>hne (by cases e;rfl)))
theorem zaV{w w':World}{b:Option Nat}(h:qB w w'):w.grownBy w' b:=⟨h.os,h.tape,h.output,h.size,fun q hq _=>h.block q hq⟩
theorem zdE{w w' w2:World}{b h:Nat}(hg:w.grownBy w' (some b))(hh:w.heap.size≤h)(h2:w'.grownBy w2 (some h)):w.grownBy w2 (some b) :=
 ⟨h2.os.trans hg.os,h2.tape.trans hg.tape,h2.output.trans hg.output,Nat.le_trans hg.size h2.size,fun i hi hne=>(h2.block i (Nat.lt_of_lt_of_le hi hg.size) (fun e=>by cases e;omega)).trans (hg.block i hi hne)⟩
theorem zjZ{w w' w2:World}{b:Nat}(hg:w.grownBy w' (some b))(h2:w'.grownBy w2 none):w.grownBy w2 (some b) :=
 ⟨h2.os.trans hg.os,h2.tape.trans hg.tape,h2.output.trans hg.output,Nat.le_trans hg.size h2.size,fun i hi hne=>(h2.block i (Nat.lt_of_lt_of_le hi hg.size) (fun e=>by cases e)).trans (hg.block i hi hne)⟩
theorem KnM.grown0{w w':World}{b:Nat}{bv:Value}{k:Kn}(h:KnM w b bv k)(hg:w.grownBy w' none):KnM w' b bv k:=h.block (hg.block b h.lt (fun e=>by cases e))
theorem Tryz.info197:(Tryz.prog.info? 197).map (fun i=>(i.zero,i.size,i.bytes))=some (some (.pointer none),1,8):=by kernel_rfl
theorem Tryz.under150:Tryz.prog.underlying 150=some (.slice 197):=by kernel_rfl
theorem zgt{w:World}{B g cap n:Nat}{e:TypeId}{size:Nat}{xs:List Value}(h:w.ownsRow B e size (.slice (some ⟨g,0,none⟩) n cap) n xs)(j:Nat)(v:Value)(hv:xs[j]?=some v):w.cell? ⟨g,j,none⟩=some v:=by
 obtain⟨hl,h⟩:=h;rcases h with ⟨h,_⟩|⟨g',cap',cur,h,_,b,_,_,hs,a⟩
 ·cases h
 ·cases h;have hj:=(List.getElem?_eq_some_iff.1 hv).1;rw [←a,List.getElem?_take_of_lt (by omega)] at hv;simp [World.cell?,b];simpa using hv
theorem ziG{F G:Nat}{w:World}{b:Nat}{bv:Value}{k:Kn}(h:KnM w b bv k)(hbv:bv.oneCell'=true)(l r:Nat)(z:Int)(x y:Rg)
  (hF:∀ W b2,KnM W b2 bv k→qC 273 #[.pointer (some ⟨b2,0,none⟩),.int .i64 (l:Int),.int .i64 (r:Int),.func (.func F) #[] #[]] W (zfI W b2 bv k l r (some (x,y))))
  (hG:∀ W b2,KnM W b2 bv k→qC 273 #[.pointer (some ⟨b2,0,none⟩),.int .i64 (l:Int),.int .i64 (r:Int),.func (.func G) #[] #[]] W (zfI W b2 bv k l r (none)))
  (h0:0≤k.steps) (h1:k.steps≤100000) :
  qC 270 #[.pointer (some ⟨b,0,none⟩),.int .i64 (l:Int),.int .i64 (r:Int),.func (.func F) #[] #[],.func (.func G) #[] #[],.int .i64 z] w (zcU w b bv [{ k with regs:=updR (updR k.regs l x) r y }.goTo z]):=by
 obtain⟨a,p,c,o,i⟩:=h.row;have q:a.toArray.all (·.oneCell')=true:=all_oneCell_toArray (i hbv);have I:(Tryz.prog.info? 217).map (·.size)=some a.length:=by rw [p];exact Tryz.size217
 have A:(Tryz.prog.info? 217).map (·.size)=some a.toArray.size:=by rw [show a.toArray.size=51 by simp [p]];exact Tryz.size217
 obtain⟨m,u,j⟩:=h.fresh a p o;have J:(w.alloc Z217).there w.heap.size 0 a.toArray.size:=by rw [show a.toArray.size=51 by simp [p]];exact zfq w
 have hlt:=h.lt;have H:Tryz.prog.underlying 217=some (.struct _):=Tryz.underlying217;go_enter Tryz.func270,Tryz.ntmps270;go_wp2_with(first
  | (refine wpList_load_mid rfl 217 _ rfl b 0 rfl a _ c H rfl I ?_)
  | (refine wpList_store_mid rfl 217 _ _ rfl w.heap.size 0 a.toArray rfl rfl J A q ?_)
  | (go_at_call 273;(with_reducible refine(hF _ b u).mono ?_);rintro e N ⟨rfl,d,M,K,s,C⟩;have B:=m.grown d (by omega))
  | (go_at_call 273;(with_reducible refine(hG N w.heap.size B).mono ?_);rintro e w3 ⟨rfl,f,x3,y3,hxy3,hK3⟩;have v:=C.grown f (by omega))
  | (go_at_call 229;(with_reducible refine(zgr v z h0 h1).mono ?_);intro e w4 n;obtain⟨g,rfl,L,E,D,t⟩:=n))
 obtain⟨rfl,rfl⟩:x=M∧y=K:=by have:=s _ rfl;simpa using this
 go_ret;exact zkL ⟨g,rfl,Nat.le_trans j.size (Nat.le_trans d.size (Nat.le_trans f.size L)),E,D,zag (zdE (zag (zaV j) d) (Nat.le_refl _) f) t⟩
theorem ziH{F G:Nat}{w:World}{b:Nat}{bv:Value}{k:Kn}(h:KnM w b bv k)(hbv:bv.oneCell'=true)(l r:Nat)(z:Int)(x' y':Rg)
  (hF:∀ W b2,KnM W b2 bv k→qC 273 #[.pointer (some ⟨b2,0,none⟩),.int .i64 (l:Int),.int .i64 (r:Int),.func (.func F) #[] #[]] W (zfI W b2 bv k l r (none)))
  (hG:∀ W b2,KnM W b2 bv k→qC 273 #[.pointer (some ⟨b2,0,none⟩),.int .i64 (l:Int),.int .i64 (r:Int),.func (.func G) #[] #[]] W (zfI W b2 bv k l r (some (x',y'))))
  (h0:0≤k.steps) (h1:k.steps≤100000) (n0:0≤k.next) (n1:k.next≤100000) :
  qC 270 #[.pointer (some ⟨b,0,none⟩),.int .i64 (l:Int),.int .i64 (r:Int),.func (.func F) #[] #[],.func (.func G) #[] #[],.int .i64 z] w (zcU w b bv [{ k with regs:=updR (updR k.regs l x') r y' }.goTo (k.next+1)]):=by
 obtain⟨a,s,c,q,f⟩:=h.row;have t:a.toArray.all (·.oneCell')=true:=all_oneCell_toArray (f hbv);have L:(Tryz.prog.info? 217).map (·.size)=some a.length:=by rw [s];exact Tryz.size217
 have y:(Tryz.prog.info? 217).map (·.size)=some a.toArray.size:=by rw [show a.toArray.size=51 by simp [s]];exact Tryz.size217
 obtain⟨n,v,A⟩:=h.fresh a s q;have M:(w.alloc Z217).there w.heap.size 0 a.toArray.size:=by rw [show a.toArray.size=51 by simp [s]];exact zfq w
 have hlt:=h.lt;have J:Tryz.prog.underlying 217=some (.struct _):=Tryz.underlying217;go_enter Tryz.func270,Tryz.ntmps270;go_wp2_with(first
  | (refine wpList_load_mid rfl 217 _ rfl b 0 rfl a _ c J rfl L ?_)
  | (refine wpList_store_mid rfl 217 _ _ rfl w.heap.size 0 a.toArray rfl rfl M y t ?_)
  | (go_at_call 273;(with_reducible refine(hF _ b v).mono ?_);rintro e P ⟨rfl,d,x2,y2,hxy,C⟩;have B:=n.grown d (by omega))
  | (go_at_call 273;(with_reducible refine(hG P w.heap.size B).mono ?_);rintro e N ⟨rfl,j,K,I,m,x⟩;have hK4:=C.grown j (by omega))
  | (go_at_call 227;(with_reducible refine(zc0 x h0 h1 n0 n1).mono ?_);intro e w4 o;obtain⟨g,rfl,O,H,E,u⟩:=o))
 obtain⟨rfl,rfl⟩:x'=K∧y'=I:=by have:=m _ rfl;simpa using this
 go_ret;have D:w.grownBy N (some b):=zdE (zag (zaV A) d) (Nat.le_refl _) j;refine⟨some ⟨g,0,none⟩,1,[w.heap.size],rfl,⟨zdE D (Nat.le_refl _) u,fun i p hp=>?_,rfl,fun i p k' hp hk'=>?_,by simp,fun p hp=>.inr (by rw [List.mem_singleton.1 hp];exact Nat.le_refl _)⟩⟩
 ·cases i with
  | zero=>cases hp;exact⟨g,rfl,Nat.le_trans D.size O,H⟩
  | succ i=>simp at hp
 ·cases i with
  | zero=>cases hp;cases hk';exact E
  | succ i=>simp at hp
theorem ziI{F G:Nat}{w:World}{b:Nat}{bv:Value}{k:Kn}(h:KnM w b bv k)(hbv:bv.oneCell'=true)(l r:Nat)(z:Int)(x y x' y':Rg)
  (hF:∀ W b2,KnM W b2 bv k→qC 273 #[.pointer (some ⟨b2,0,none⟩),.int .i64 (l:Int),.int .i64 (r:Int),.func (.func F) #[] #[]] W (zfI W b2 bv k l r (some (x,y))))
  (hG:∀ W b2,KnM W b2 bv k→qC 273 #[.pointer (some ⟨b2,0,none⟩),.int .i64 (l:Int),.int .i64 (r:Int),.func (.func G) #[] #[]] W (zfI W b2 bv k l r (some (x',y'))))
  (h0:0≤k.steps) (h1:k.steps≤100000) (n0:0≤k.next) (n1:k.next≤100000) :
  qC 270 #[.pointer (some ⟨b,0,none⟩),.int .i64 (l:Int),.int .i64 (r:Int),.func (.func F) #[] #[],.func (.func G) #[] #[],.int .i64 z] w (zcU w b bv [{ k with regs:=updR (updR k.regs l x) r y }.goTo z,{ k with regs:=updR (updR k.regs l x') r y' }.goTo (k.next+1)]):=by
 obtain⟨m,O,n,K,t⟩:=h.row;have R:m.toArray.all (·.oneCell')=true:=all_oneCell_toArray (t hbv);have hi:(Tryz.prog.info? 217).map (·.size)=some m.length:=by rw [O];exact Tryz.size217
 have ab:(Tryz.prog.info? 217).map (·.size)=some m.toArray.size:=by rw [show m.toArray.size=51 by simp [O]];exact Tryz.size217
 obtain⟨H,Y,B⟩:=h.fresh m O K;have ht:(w.alloc Z217).there w.heap.size 0 m.toArray.size:=by rw [show m.toArray.size=51 by simp [O]];exact zfq w
 have hlt:=h.lt;have s:Tryz.prog.underlying 217=some (.struct _):=Tryz.underlying217;obtain⟨i0,E,S,M,D⟩:=info_parts Tryz.info197;go_enter Tryz.func270,Tryz.ntmps270;go_wp2_with(first
  | (refine wpList_load_mid rfl 217 _ rfl b 0 rfl m _ n s rfl hi ?_)
  | (refine wpList_store_mid rfl 217 _ _ rfl w.heap.size 0 m.toArray rfl rfl ht ab R ?_)
  | (go_at_call 273;(with_reducible refine(hF _ b Y).mono ?_);rintro e w2 ⟨rfl,o,x2,y2,V,U⟩;have C:=H.grown o (by omega))
  | (go_at_call 273;(with_reducible refine(hG w2 w.heap.size C).mono ?_);rintro e w3 ⟨rfl,q,x3,y3,A,aa⟩;have Z:=U.grown q (by omega))
  | (go_at_call 229;(with_reducible refine(zgr Z z h0 h1).mono ?_);intro e w4 I;obtain⟨g,rfl,hg,hc,hk,v⟩:=I;have X:=aa.grown v (by omega))
  | (go_at_call 227;(with_reducible refine(zc0 X h0 h1 n0 n1).mono ?_);intro e L J;obtain⟨g2,rfl,hg5,T,P,f⟩:=J;have N:g<w4.heap.size:=World.block_lt_of_cell? w4 _ hc;have Q:L.cell? ⟨g,0,none⟩=some (.pointer (some ⟨b,0,none⟩)):=(World.cell?_of_block (w:=w4) (a:=⟨g,0,none⟩) (f.block g N (fun e=>by cases e;have:=B.size;have:=o.size;have:=q.size;have:=C.lt;omega))).trans hc)
  | (at_builtin;(refine wpList_append_grows L rfl _ _ 150 rfl 197 i0 (.pointer none) 1 8 Tryz.under150 E S M D rfl (by decide) (some ⟨g,0,none⟩) 1 1 [.pointer (some ⟨b,0,none⟩)] rfl (fun h=>by cases h) rfl (fun a ha j u s=>by cases ha;cases j with|zero=>cases s;exact Q|succ j=>simp at s) ⟨g2,0,none⟩ 1 1 [.pointer (some ⟨w.heap.size,0,none⟩)] rfl rfl (fun j u s=>by cases j with|zero=>cases s;exact T|succ j=>simp at s) (by simp [Value.oneCell']) (by omega) (by unfold maxLen;omega) (by omega) ?_);intro v' w6 c d;obtain⟨g6,c6,rfl,ac,hg6l⟩:=c.form (by omega)))
 obtain⟨rfl,rfl⟩:x=x2∧y=y2:=by have:=V _ rfl;simpa using this
 obtain⟨rfl,rfl⟩:x'=x3∧y'=y3:=by have:=A _ rfl;simpa using this
 go_ret;have G3:w.grownBy w3 (some b):=zdE (zag (zaV B) o) (Nat.le_refl _) q;have G5:w.grownBy L (some b):=zdE (zag G3 v) (Nat.le_refl _) f;have e0:=zgt c 0 _ rfl;have e1:=zgt c 1 _ rfl;have q0:=(hk.grown f (by omega)).grown0 d;have q1:=P.grown0 d;refine⟨some ⟨g6,0,none⟩,c6,[b,w.heap.size],rfl,⟨zjZ G5 d,fun i p hp=>?_,rfl,fun i p k' hp hk'=>?_,by simp;omega,fun p hp=>?_⟩⟩
 ·refine⟨g6,rfl,Nat.le_trans G5.size ac,?_⟩;cases i with
  | zero=>cases hp;exact e0
  | succ i=>cases i with
   | zero=>cases hp;exact e1
   | succ i=>simp at hp
 ·cases i with
  | zero=>cases hp;cases hk';exact q0
  | succ i=>cases i with
   | zero=>cases hp;cases hk';exact q1
   | succ i=>simp at hp
 ·rcases List.mem_cons.1 hp with rfl|hp
  ·exact .inl rfl
  ·exact .inr (by rw [List.mem_singleton.1 hp];exact Nat.le_refl _)
structure BhM(w:World)(ao:Option Addr)(cap:Nat)(l:List Int):Prop where
 len:l.length≤15
 le:l.length≤cap
 top:cap≤maxLen
 nil:ao=none→l=[]∧cap=0
 at0:∀ a,ao=some a→∃ g,a=⟨g,0,none⟩
 cell:∀ g,ao=some ⟨g,0,none⟩→g<w.heap.size∧∀(i:Nat) (v:Int),l[i]?=some v→w.cell? ⟨g,i,none⟩=some (.int .i64 v)
theorem zz3(w:World):BhM w none 0 []:=⟨Nat.zero_le _,Nat.zero_le _,Nat.zero_le _,fun _=>⟨rfl,rfl⟩,fun a h=>(by cases h),fun g h=>(by cases h)⟩
theorem BhM.kept{w w':World}{ao:Option Addr}{cap:Nat}{l:List Int}(h:BhM w ao cap l)(hs:w.heap.size≤w'.heap.size)(hb:∀ g,ao=some ⟨g,0,none⟩→w'.heap[g]?=w.heap[g]?):BhM w' ao cap l :=
 ⟨h.len,h.le,h.top,h.nil,h.at0,fun g hg=>⟨Nat.lt_of_lt_of_le (h.cell g hg).1 hs,fun i v hv=>(World.cell?_of_block (w:=w) (a:=⟨g,i,none⟩) (hb g hg)).trans ((h.cell g hg).2 i v hv)⟩⟩
theorem BhM.grown{w w':World}{ao:Option Addr}{cap:Nat}{l:List Int}{b:Nat}(h:BhM w ao cap l)(hg:w.grownBy w' (some b))(ap:∀ a,ao=some a→¬a.block=b):BhM w' ao cap l :=
 h.kept hg.size fun g e=>hg.block g (h.cell g e).1 (fun x=>ap _ e (by cases x;rfl))
theorem BhM.below{w w':World}{ao:Option Addr}{cap:Nat}{l:List Int}(h:BhM w ao cap l)(hb:qB w w'):BhM w' ao cap l :=
 h.kept hb.size fun g e=>hb.block g (h.cell g e).1
theorem zwD{w:World}(ao:Option Addr)(n cap:Nat)(hn:n≤15)(hc:n≤cap)(hm:cap≤maxLen)(h0:ao=none→n=0∧cap=0):qC 283 #[.slice ao n cap] w fun e w'=>e=.returned (.slice ao n n)∧w'=w:=by
 cases ao with
 | none =>
  obtain⟨rfl,rfl⟩:=h0 rfl;go_enter Tryz.func283,Tryz.ntmps283;go_wp2;go_ret;exact⟨rfl,rfl⟩
 | some a =>
  unfold maxLen at hm;go_enter Tryz.func283,Tryz.ntmps283;go_wp2;go_ret;exact⟨rfl,rfl⟩
theorem zz4{w:World}{B g cap n:Nat}{l:List Int}(h:w.ownsRow B 3 1 (.slice (some ⟨g,0,none⟩) n cap) n (i64s l))(hn:n≤15)(hg:g<w.heap.size):BhM w (some ⟨g,0,none⟩) cap l:=by
 have hl:l.length=n:=by have:=h.1;simpa [i64s] using this
 have c:n≤cap∧cap≤maxLen:=by
  rcases h.2 with ⟨h,_⟩|⟨b,cap',cur,h,_,_,d,f,_,_⟩
  ·cases h
  ·cases h;exact⟨d,f⟩
 refine⟨by omega,by omega,c.2,fun e=>(by cases e),fun a ha=>⟨g,by cases ha;rfl⟩,fun b e=>?_⟩;cases e;exact⟨hg,fun i v hv=>zgt h i _ (by unfold i64s;rw [List.getElem?_map,hv];rfl)⟩
theorem znV{P:Program}{ops:Array Oper}{o:Oper}{a:Act}{w:World}{K:Act→World→Prop}{Q:Exit→Act→World→Prop}{E:Prop}(hg:o.guard=none)(f:FuncId)(xs:Array Operand)(ts:Array TypeId)(_hop:o.op=Op.call { callee:=Callee.value (Operand.func f),args:=xs,argTypes:=ts })(args:Array Value)(hrun:(execOp a.eval o).run P w=.ok (.enter f args) w)(v:Value)
  (hc:Calls P f args w fun e w''=>e=.returned v∧w''=w) (hK:K (a.put o.dst v) w):if Region.wanted o (yielded ops a.tmps)=true then Oper.wp P o a w K Q else E:=by
 have b:Region.wanted o (yielded ops a.tmps)=true:=by simp [Region.wanted,hg]
 rw [if_pos b];unfold Oper.wp;rw [hrun,Oper.upon_enter];refine hc.mono fun e w'' hh=>?_;obtain⟨rfl,rfl⟩:=hh;exact hK
def zp0(w:World)(b:Nat)(k:Kn)(z:Int):Ending→World→Prop:=fun e w'=>∃ g c,zbe w b (.slice (some ⟨g,0,none⟩) (k.behind.length+1) c) ({ k with behind:=k.behind++[k.next+1] }.goTo z) e w'∧BhM w' (some ⟨g,0,none⟩) c (k.behind++[k.next+1])∧w.heap.size≤g
theorem zun{w:World}{b cap:Nat}{ao:Option Addr}{k:Kn}(h:KnM w b (.slice ao k.behind.length cap) k)(B:BhM w ao cap k.behind)(z:Int)(hlen:k.behind.length<15)(h0:0≤k.steps)(h1:k.steps≤100000)(n0:0≤k.next)(n1:k.next≤100000):
  qC 282 #[.pointer (some ⟨b,0,none⟩),.int .i64 z] w (zp0 w b k z):=by
 have L:=zfH h B.len;have J:=fun W=>zwD (w:=W) ao k.behind.length cap B.len B.le B.top (fun e=>by obtain⟨U,S⟩:=B.nil e;rw [U];exact⟨rfl,S⟩);have c:=h.cB;have n:=h.cN;have hlt:=h.lt;obtain⟨V,D,K,H,C⟩:=info_parts Tryz.info3;have t16:(((k.behind.length:Int)+1) == 16)=false:=by simpa using (by omega:¬(k.behind.length:Int)+1=16)
 have r:∀ a,ao=some a→∀(j:Nat) u,(i64s k.behind)[j]?=some u→(w.alloc (.cells #[.int .i64 (k.next+1)] 3)).cell? (a.add j)=some u:=fun a ha j u hu=>by
  obtain⟨g,rfl⟩:=B.at0 a ha;obtain⟨P,I⟩:=B.cell g ha;unfold i64s at hu;rw [List.getElem?_map] at hu;cases hv:k.behind[j]? with
  | none=>rw [hv] at hu;cases hu
  | some v =>
   rw [hv] at hu;cases hu;rw [Addr.add_mid,Nat.zero_add,World.cell?_of_block (w:=w) (a:=⟨g,j,none⟩) (Below.heap_alloc _ _ _ P)];exact I j v hv
 have l:∀ a,ao=some a→∀(j:Nat) u,(i64s k.behind)[j]?=some u→(w.alloc (.cells #[.int .i64 (k.next+1)] 3)).drew.cell? (a.add j)=some u:=r;have m:∀(j:Nat) u,[Value.int .i64 (k.next+1)][j]?=some u→(w.alloc (.cells #[.int .i64 (k.next+1)] 3)).drew.cell? ((⟨w.heap.size,0,none⟩:Addr).add j)=some u:=World.news_of_block (cs:=#[.int .i64 (k.next+1)]) (t:=3) (fr:=(0,0)) (zky w _ _);have x:ao=none→k.behind.length=0∧k.behind.length=0:=fun e=>by obtain⟨U,S⟩:=B.nil e;rw [U];exact⟨rfl,rfl⟩
 have q:(i64s k.behind).length=k.behind.length*1:=by simp [i64s]
 have p:∀ u∈[Value.int .i64 (k.next+1)],u.oneCell'=true:=by simp [Value.oneCell']
 have E:KnM (w.alloc (.cells #[.int .i64 (k.next+1)] 3)).drew b (.slice ao k.behind.length cap) k:=h.below box1.drew h.lt;have hw1:IntKind.i64.wrap (k.next+1)=k.next+1:=zcH _ (by omega) (by omega);go_enter Tryz.func282,Tryz.ntmps282;go_wp2_with(first
  | (go_at_call 136;(with_reducible refine L.mono ?_);rintro e wx ⟨rfl,F⟩;have N:=F.symm;subst N))
 go_region_law (first
  | (refine znV rfl 283 #[.tmp 13] #[59] rfl #[.slice ao k.behind.length cap] (by kernel_rfl) (.slice ao k.behind.length k.behind.length) (J _) ?_)
  | (refine step_append_grows rfl (.tmp 14) (.tmp 20) 59 rfl 3 V (.int .i64 0) 1 8 Tryz.under59 D K H C rfl (by decide) ao k.behind.length k.behind.length (i64s k.behind) rfl x q l ⟨w.heap.size,0,none⟩ 1 1 [.int .i64 (k.next+1)] rfl rfl m p (by omega) (by unfold maxLen;omega) (by omega) ?_;intro v' O d f;obtain⟨y,A,rfl,G,o⟩:=d.form (by omega);have i:=E.grown0 f;have d4:=i.cB;have f4:=i.fz 49;have M:=i.putB (.slice (some ⟨y,0,none⟩) (k.behind.length+1) A) (k.behind++[k.next+1])))
 all_goals go_wp2_with(go_at_call 229;(with_reducible refine(zgr M z h0 h1).mono ?_);rintro e w6 ⟨g,rfl,P,I,T,s⟩)
 all_goals go_ret
 all_goals have R:w.grownBy O (some b):=zjZ (zaV (b:=some b) box1.drew) f
 all_goals have hsz:((w.alloc (.cells #[.int .i64 (k.next+1)] 3)).drew).heap.size=w.heap.size+1:=by simp
 all_goals rw [hsz] at G
 all_goals have Q:O.grownBy (O.setCell ⟨b,49,none⟩ (.slice (some ⟨y,0,none⟩) (k.behind.length+1) A)) (some b):=zac (Below.refl _ _)
 all_goals have hrow:(i64s k.behind++[Value.int .i64 (k.next+1)])=i64s (k.behind++[k.next+1]):=by simp [i64s]
 all_goals rw [hrow] at d
 all_goals exact⟨y,A,⟨g,rfl,Nat.le_trans (Nat.le_trans R.size Q.size) P,I,T,zag (zag R Q) s⟩,(zz4 d (by omega) o).grown (zag Q s) (fun a ha=>by cases ha;show ¬y=b;omega),by omega⟩
end
end Go.Proofs.YtfpgjkbjbbgciaaGreatDoor
