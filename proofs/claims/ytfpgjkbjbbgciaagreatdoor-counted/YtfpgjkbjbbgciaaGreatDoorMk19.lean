import Derived.Test.YtfpgjkbjbbgciaaGreatDoorMk14
import Derived.Test.YtfpgjkbjbbgciaaGreatDoorMk15
import Derived.Test.YtfpgjkbjbbgciaaGreatDoorMk16
import Derived.Test.YtfpgjkbjbbgciaaGreatDoorMk18
set_option maxRecDepth 100000
set_option maxHeartbeats 8000000
namespace Go.Proofs.YtfpgjkbjbbgciaaGreatDoor
section
open Go.RowKit Sp
structure PAt(B:Nat)(w:World)(p pm:Nat)(v:Value)(F:List FnM):Prop where
 pin:PIn B w pm v F
 var:w.heap[p]?=some (.cells #[v,.map (some pm)] 83 (0,0))
 low:B≤p
theorem PAt.cells{B:Nat}{w:World}{p pm:Nat}{v:Value}{F:List FnM}(h:PAt B w p pm v F):
  w.cell? ⟨p,0,none⟩=some v∧w.cell? ⟨p,1,none⟩=some (.map (some pm))∧w.frozen? ⟨p,0,none⟩=false:=by
 refine⟨?_,?_,frozen_of_row w p 0 _ _ h.var⟩
 ·rw [cell_of_row w p 0 _ _ _ h.var];rfl
 ·rw [cell_of_row w p 1 _ _ _ h.var];rfl
theorem PAt.of_blocks{B:Nat}{w w':World}{p pm:Nat}{v:Value}{F:List FnM}(h:PAt B w p pm v F)(hb:∀ b,B≤b→b<w.heap.size→w'.heap[b]?=w.heap[b]?):PAt B w' p pm v F :=
 ⟨h.pin.of_blocks hb,(hb p h.low (Array.getElem?_eq_some_iff.1 h.var).1).trans h.var,h.low⟩
theorem PAt.drew{B:Nat}{w:World}{p pm:Nat}{v:Value}{F:List FnM}(h:PAt B w p pm v F):PAt B w.drew p pm v F:=h.of_blocks fun _ _ _=>rfl
theorem PAt.alloc{B:Nat}{w:World}{p pm:Nat}{v:Value}{F:List FnM}(h:PAt B w p pm v F)(o:Obj):PAt B (w.alloc o) p pm v F:=h.of_blocks fun _b _ hb=>Below.heap_alloc _ _ _ hb
theorem zk1(F:List FnM):(F.map FnM.fn).map Fn.name=F.map FnM.name:=by simp [FnM.fn]
theorem PAt.apart{B:Nat}{w:World}{p pm:Nat}{v:Value}{F:List FnM}(h:PAt B w p pm v F):¬p=pm∧v.ownBlock≠some p:=by
 constructor
 ·intro e;obtain⟨em,cm,a⟩:=zet h.pin.places;have:=h.var;rw [e,a] at this;cases this
 ·intro e;obtain⟨c2,hc2⟩:=zbJ h.pin.row e;have:=h.var;rw [hc2] at this;simp at this
theorem zwb{B:Nat}{w:World}{p pm:Nat}{v:Value}{F:List FnM}(h:PAt B w p pm v F)(i:It)(hs:i.sort=0)(hbad:bad0 (F.map FnM.fn) i.key=true)(hn:F.length≤4096)(hnm:i.nm.size≤1048576):
  Calls Tryz.prog 100 #[.pointer (some ⟨p,0,none⟩),stm i.sort i.line i.word i.a i.b i.c i.n i.nm] w fun e w'=>e=zak 3 i.line∧Below w.heap.size w w':=by
 obtain⟨d,f,c3⟩:=h.cells;refine zta w B p pm F.length v (zcn F) i (zbj F) d f h.pin.places h.pin.row hn hnm ?_;unfold bad0 at hbad;rw [if_pos (show i.key.sort=0 from hs),zk1] at hbad;rw [zci];exact hbad
theorem zwc{B:Nat}{w:World}{p pm:Nat}{v:Value}{F:List FnM}(h:PAt B w p pm v F)(i:It)(hs:i.sort=0)(hbad:bad0 (F.map FnM.fn) i.key=false)(hn:F.length≤4096)(hnm:i.nm.size≤1048576)(hB:B≤w.heap.size):
  Calls Tryz.prog 100 #[.pointer (some ⟨p,0,none⟩),stm i.sort i.line i.word i.a i.b i.c i.n i.nm] w fun e w'=>e=.returned (.tuple #[]) ∧
   ∃ v' F',PAt B w' p pm v' F'∧F'.map FnM.fn=addK (F.map FnM.fn) i.key∧F'.length≤F.length+1∧(∀ f∈F',f.its=[]∨∃ f0∈F,f0.its=f.its)∧Below B w w':=by
 obtain⟨l,m,o⟩:=h.cells;obtain⟨j,k⟩:=h.apart;unfold bad0 at hbad;rw [if_pos (show i.key.sort=0 from hs),zk1] at hbad;refine(ztb w B p pm F.length v (zcn F) i (zbj F) l m o h.pin.places h.pin.row k hB hn (by rw [zlS];exact hn) hnm (by rw [zci];exact hbad) j).mono ?_;rintro e w' ⟨rfl,g,cap,w1,w2,rfl,q,r,s,t,u,x,y⟩;obtain⟨z,A,C⟩:=h.pin.begun h.var h.low q r s t u x y;refine⟨rfl,_,_,⟨z,C,h.low⟩,?_,by simp,?_,A⟩
 ·rw [List.map_append,zct _ _ (show i.key.sort=0 from hs)];rfl
 ·intro f d;rw [List.mem_append] at d;rcases d with d|d
  ·exact .inr ⟨f,d,rfl⟩
  ·simp at d;subst d;exact .inl rfl
theorem PIn.last{B:Nat}{w:World}{pm:Nat}{v:Value}{F:List FnM}{f:FnM}(h:PIn B w pm v (F++[f])):
  ∃ fg cap,v=.slice (some ⟨fg,0,none⟩) (F.length+1) cap∧w.cell? ⟨fg,F.length*4+2,none⟩=some f.bv∧w.cell? ⟨fg,F.length*4+3,none⟩=some (.map (some f.m))∧w.frozen? ⟨fg,F.length*4+2,none⟩=false∧f.bv.ownBlock≠some fg∧¬fg=f.m∧F.length+1≤cap:=by
 have d:f∈F++[f]:=by simp
 have a:=h.row;have hlen:(F++[f]).length=F.length+1:=by simp
 rw [hlen] at a;obtain⟨fg,cap,n,_,_⟩:=a.form (by omega);subst n;obtain⟨cr,b⟩:=zbJ a (g:=fg) rfl;obtain⟨em,cm,l⟩:=zet (h.labels f d);have c:∀ j,j<4→w.cell? ⟨fg,F.length*4+j,none⟩=f.cells[j]?:=fun j hj=>by
  rw [World.ownsRow.cellAt a (F.length*4+j) (by omega),zjT (F++[f]) F.length (by simp) j hj];simp
 have i:F.length+1≤cap:=by
  rcases a.2 with ⟨k,_⟩|⟨g',cap',cur,k,_,_,hnc,_⟩
  ·simp at k
  ·simp at k;omega
 refine⟨fg,cap,rfl,c 2 (by omega),c 3 (by omega),World.ownsRow.frozenAt a _,?_,?_,i⟩
 ·intro e;obtain⟨c2,hc2⟩:=zbJ (h.bodies f d) e;rw [hc2] at b;simp at b
 ·intro e;rw [e,l] at b;cases b
theorem zlT(n:Nat)(l:List It):(zbc n l).length≤l.length:=by
 induction l generalizing n with
 | nil=>simp [zbc]
 | cons i l ih =>
  rw [zbU];split
  ·have:=ih n;simp;omega
  ·have:=ih (n+1);simp;omega
theorem zzY{B:Nat}{w:World}{p pm:Nat}{v:Value}{F:List FnM}{f:FnM}(h:PAt B w p pm v (F++[f]))(i:It)(hs:¬i.sort=0)(hbad:bad0 ((F++[f]).map FnM.fn) i.key=true)(hn:f.its.length≤4096)(hnm:i.nm.size≤1048576)(fg cap:Nat)(hv:v=.slice (some ⟨fg,0,none⟩) (F.length+1) cap):
  Calls Tryz.prog 101 #[.pointer (some ⟨fg,F.length*4,none⟩),stm i.sort i.line i.word i.a i.b i.c i.n i.nm] w fun e w'=>e=zak 3 i.line∧Below w.heap.size w w':=by
 have d:f∈F++[f]:=by simp
 obtain⟨fg',cap',g,k,l,c3,c4,c5,c6⟩:=h.pin.last;rw [hv] at g;simp at g;obtain⟨rfl,rfl⟩:=g;unfold bad0 at hbad;rw [if_neg (show ¬i.key.sort=0 from hs)] at hbad;by_cases j:i.sort=1
 ·rw [if_pos (show i.key.sort=1 from j)] at hbad;simp only [List.map_append,List.map_cons,List.map_nil,List.getLast?_append,List.getLast?_singleton,Option.some_or] at hbad;exact zy1 w B fg (F.length*4) f.m f.bv (zal f.its) i _ j k l (h.pin.labels f d) (h.pin.bodies f d) (Nat.le_trans (zdD _) hn) hnm (by rw [zd2];exact hbad)
 ·rw [if_neg (show ¬i.key.sort=1 from j)] at hbad;cases hbad
theorem zzZ{B:Nat}{w:World}{p pm:Nat}{v:Value}{F:List FnM}{f:FnM}(h:PAt B w p pm v (F++[f]))(i:It)(hs:¬i.sort=0)(hbad:bad0 ((F++[f]).map FnM.fn) i.key=false)(hn:f.its.length≤4096)(hnm:i.nm.size≤1048576)(hB:B≤w.heap.size)(fg cap:Nat)(hv:v=.slice (some ⟨fg,0,none⟩) (F.length+1) cap):
  Calls Tryz.prog 101 #[.pointer (some ⟨fg,F.length*4,none⟩),stm i.sort i.line i.word i.a i.b i.c i.n i.nm] w fun e w'=>e=.returned (.tuple #[]) ∧
   ∃ f',PAt B w' p pm v (F++[f'])∧(F++[f']).map FnM.fn=addK ((F++[f]).map FnM.fn) i.key∧f'.its=f.its++[i]∧Below B w w':=by
 have d:f∈F++[f]:=by simp
 obtain⟨fg',cap',l,t,x,y,z,c5,c6⟩:=h.pin.last;rw [hv] at l;simp at l;obtain⟨rfl,rfl⟩:=l;have j:=h.pin;have k:∀ u:Value,(F++[(⟨f.name,f.line,f.its++[i],u,f.m⟩:FnM)]).map FnM.fn=addK ((F++[f]).map FnM.fn) i.key:=by
  intro u;rw [List.map_append,List.map_append];rw [show [f].map FnM.fn=[f.fn] from rfl,zfO _ _ _ (show ¬i.key.sort=0 from hs)];simp [FnM.fn]
 unfold bad0 at hbad;rw [if_neg (show ¬i.key.sort=0 from hs)] at hbad;by_cases o:i.sort=1
 ·rw [if_pos (show i.key.sort=1 from o)] at hbad;simp only [List.map_append,List.map_cons,List.map_nil,List.getLast?_append,List.getLast?_singleton,Option.some_or] at hbad;refine(zy2 w B fg (F.length*4) f.m f.bv (zal f.its) i _ o t x (h.pin.labels f d) (h.pin.bodies f d) (Nat.le_trans (zdD _) hn) (Nat.le_trans (zlT _ _) hn) hnm (by rw [zd2];exact hbad)).mono ?_;rintro e w' ⟨rfl,A,C⟩;obtain⟨q,r,s⟩:=j.labelled o A C;exact⟨rfl,_,⟨q,s p _ h.var,h.low⟩,k _,rfl,r⟩
 ·refine(zsZ w B fg (F.length*4) f.bv (zal f.its) i o t y (h.pin.bodies f d) z hB (Nat.le_trans (zdD _) hn)).mono ?_;rintro e w' ⟨rfl,g,cap2,w1,rfl,D,E,G⟩;rw [hv] at j;obtain⟨q,r,s⟩:=j.added o D E G;exact⟨rfl,_,⟨by rw [hv];exact q,s p _ h.var,h.low⟩,k _,rfl,r⟩
end
section
open Go.RowKit Sp
attribute [local go_sem ↓] Go.wp_at_zero Go.wp_at_succ
def ItOk(i:It):Prop:=i.nm.size≤1048576∧(i.sort=1→i.word=⟨#[]⟩)
def zwd(w:World)(K:List Key):Ending→World→Prop:=fun e w' =>
 Below w.heap.size w w'∧((∃ l,zaP [] K=some l∧e=zak 3 l) ∨
  (zaP [] K=none∧∃ pm v F,e=.returned (.agg #[v,.map (some pm)])∧PIn w.heap.size w' pm v F∧F.map FnM.fn=K.foldl addK []∧F.length≤K.length∧∀ f∈F,f.its.length≤K.length∧∀ i∈f.its,ItOk i))
theorem PIn.mono{B B':Nat}{w:World}{pm:Nat}{v:Value}{F:List FnM}(h:PIn B w pm v F)(hB:B'≤B):PIn B' w pm v F :=
 ⟨zbR h.row hB,fun f hf=>zbR (h.bodies f hf) hB,h.labels,h.places,fun f hf=>Nat.le_trans hB (h.lowm f hf),Nat.le_trans hB h.lowp,h.pmNot,h.maps,h.rows⟩
theorem zq8(K:List Key)(k:Nat)(h:k<K.length):(K.take (k+1)).foldl addK []=addK ((K.take k).foldl addK []) K[k]:=by
 rw [List.take_succ_eq_append_getElem h,List.foldl_append];rfl
theorem zq9(F:List Fn)(K:List Key)(k:Nat)(h:k<K.length):zaP F (K.drop k)=if bad0 F K[k]=true then some K[k].line else zaP (addK F K[k]) (K.drop (k+1)):=by
 rw [List.drop_eq_getElem_cons h];rfl
theorem zaW(w:World)(a:Obj){w1:World}(h:Below (w.alloc a).heap.size (w.alloc a) w1):Below w.heap.size w w1 :=
 ((Below.refl w.heap.size w).alloc (Nat.le_refl _) a).trans (h.mono (by simp))
theorem zlU{B:Nat}{w:World}(a:Obj){w1:World}(hB:B≤w.heap.size)(h:Below B (w.alloc a) w1):Below B w w1 :=
 ((Below.refl B w).alloc hB a).trans h
theorem zy7(F:List FnM)(h:¬F=[]):∃ F0 f,F=F0++[f]:=⟨F.dropLast,F.getLast h,(List.dropLast_concat_getLast h).symm⟩
abbrev W3(w:World):World:=((w.alloc (.cells #[.slice none 0 0,.map none] 83)).alloc (.map #[] 0)).alloc (.cells #[.slice none 0 0,.map (some (w.heap.size+1))] 83)
theorem zlV(w:World)(B0:Nat)(v0:Value)(its:List It)(hown0:w.ownsRow B0 135 8 v0 its.length (zav its))(hn:its.length≤300)(hnm:∀ i∈its,ItOk i)(hpos:0<its.length)(hfirst:Hid (its[0].sort=0)):
  Calls Tryz.prog 68 #[v0] w (zwd w (its.map It.key)):=by
 obtain⟨g0,cap0,rfl,_,ab,H⟩:=zg0 hown0 hpos;have ad:=fun W=>zxR W;have U:Below w.heap.size w (W3 w):=(((Below.refl _ _).alloc (Nat.le_refl _) _).alloc (by simp) _).alloc (by simp;omega) _;have ae:(W3 w).heap.size=w.heap.size+3:=by simp [W3]
 have Y:PAt (w.heap.size+1) (W3 w) (w.heap.size+1+1) (w.heap.size+1) (.slice none 0 0) []:=by
  refine⟨PIn.start _ _ _ ?_ (Nat.le_refl _),?_,by omega⟩
  ·have:=MapIs.made (w.alloc (.cells #[.slice none 0 0,.map none] 83));have:=this.alloc (.cells #[.slice none 0 0,.map (some (w.heap.size+1))] 83);simpa using this
  ·have:=heap_alloc_new ((w.alloc (.cells #[.slice none 0 0,.map none] 83)).alloc (.map #[] 0)) (.cells #[.slice none 0 0,.map (some (w.heap.size+1))] 83);simpa using this
 have y:(W3 w).heap[w.heap.size]?=some (.cells #[.slice none 0 0,.map none] 83 (0,0)):=by
  rw [Below.heap_alloc _ _ _ (by simp;omega),Below.heap_alloc _ _ _ (by simp)];exact heap_alloc_new w _
 go_enter Tryz.func68,Tryz.ntmps68;go_wp2;change Code.wp _ _ _ _ (W3 w);generalize W3 w=W at U ae Y y;clear ad
 go_loopw [10] (fun ti wr=>∃(k:Nat) (v:Value) (F:List FnM),k≤its.length∧ti=.int .i64 (k:Int)∧PAt (w.heap.size+1) wr (w.heap.size+1+1) (w.heap.size+1) v F∧F.map FnM.fn=((its.map It.key).take k).foldl addK []∧Below (w.heap.size+1) W wr∧F.length≤k∧(∀ f∈F,f.its.length≤k)∧zaP [] (its.map It.key)=zaP (F.map FnM.fn) ((its.map It.key).drop k)∧(0<k→¬F=[])∧(∀ f∈F,∀ i∈f.its,ItOk i)) (fun ti _=>its.length-(intOf ti).toNat)
 case atStart=>exact⟨0,_,[],by omega,rfl,Y,rfl,Below.refl _ _,by simp,by simp,rfl,by simp,by simp⟩
 case round =>
  obtain⟨k,v,F,hk,rfl,g,hF,x,T,D,hT,S,E⟩:=hrel;have HF:Hid (F.map FnM.fn=((its.map It.key).take k).foldl addK []):=hF;have HT:Hid (zaP [] (its.map It.key)=zaP (F.map FnM.fn) ((its.map It.key).drop k)):=hT;clear hF hT;have hszr:=x.size;have G:Below w.heap.size w wr:=U.trans (x.mono (by omega));by_cases M:k<its.length
  ·have V:=H k M;have s:=hnm its[k] (List.getElem_mem M);have I:k<(its.map It.key).length:=by simpa using M
   have aa:Hid (zaP [] (its.map It.key)=if bad0 (F.map FnM.fn) its[k].key=true then some its[k].key.line else zaP (addK (F.map FnM.fn) its[k].key) ((its.map It.key).drop (k+1))):=by
    unfold Hid;rw [HT.out,zq9 _ _ k I];simp
   have Q:Hid (((its.map It.key).take (k+1)).foldl addK []=addK (F.map FnM.fn) its[k].key):=by
    unfold Hid;rw [zq8 _ k I,←HF.out];simp
   have H0:Hid (¬its[k].sort=0→¬F=[]):=fun h=>S (by
    rcases Nat.eq_zero_or_pos k with e|e
    ·subst e;exact absurd hfirst.out h
    ·exact e)
   generalize its[k]=i at V s aa Q H0;obtain⟨c0,c1,c2,c3,c4,c5,c6,c7⟩:=V;have z:∀ j,wr.cell? ⟨g0,j,none⟩=w.cell? ⟨g0,j,none⟩:=fun j=>G.cell (p:=⟨g0,j,none⟩) ab;rw [←z] at c0 c1 c2 c3 c4 c5 c6 c7;have hk8:k*8≤2400:=by omega
   clear z S;by_cases A:i.sort=0
   ·cases hbad:bad0 (F.map FnM.fn) i.key with
    | true =>
     have J:Hid (zaP [] (its.map It.key)=some i.line):=by unfold Hid;rw [aa.out,hbad];rfl
     have d:=zwb (g.alloc (.cells #[.int .i64 i.sort,.int .i64 i.line,.string i.word,.int .i64 i.a,.int .i64 i.b,.int .i64 i.c,.int .i64 i.n,.string i.nm] 135)) i A hbad (by omega) s.1;rw [A] at d c0;clear hbad A;go_wp2_with(go_at_call 100;refine d.mono ?_;rintro e w2 ⟨rfl,l⟩)
     exact⟨rfl,G.trans ((zaW _ _ l).mono (by omega)),.inl ⟨_,J.out,rfl⟩⟩
    | false =>
     have J:Hid (zaP [] (its.map It.key)=zaP (addK (F.map FnM.fn) i.key) ((its.map It.key).drop (k+1))):=by unfold Hid;rw [aa.out,hbad];rfl
     have d:=zwc (g.alloc (.cells #[.int .i64 i.sort,.int .i64 i.line,.string i.word,.int .i64 i.a,.int .i64 i.b,.int .i64 i.c,.int .i64 i.n,.string i.nm] 135)) i A hbad (by omega) s.1 (by simp;omega);have HS:Hid (i.sort=0):=A;rw [A] at d c0;clear hbad A;go_wp2_with(go_at_call 100;refine d.mono ?_;rintro e w2 ⟨rfl,v2,F2,r,C,ac,X,l⟩)
     have t:=x.trans (zlU _ (by omega) l);clear l d;go_roundw
     case rel =>
      refine⟨k+1,v2,F2,by omega,by go_num,r,by rw [Q.out];exact C,t,by omega,?_,by rw [C];exact J.out,?_,?_⟩
      ·intro f P;rcases X f P with e|⟨f0,K,e⟩
       ·rw [e];simp
       ·rw [←e];have:=D f0 K;omega
      ·rintro _ rfl;have:=Q.out;have h3:=C;rw [zct _ _ HS.out] at h3;simp at h3
      ·intro f P;rcases X f P with e|⟨f0,K,e⟩
       ·rw [e];simp
       ·rw [←e];exact E f0 K
     case measure=>simp [intOf];omega
   ·obtain⟨B,f,rfl⟩:=zy7 F (H0.out A)
    ·obtain⟨fg,R,rfl,_,_,_,_,_,hcap⟩:=g.pin.last;have hfi:=D f (by simp);have hfl:B.length+1≤300:=by simp at T;omega
     have hpc:=(g.alloc (.cells #[.int .i64 i.sort,.int .i64 i.line,.string i.word,.int .i64 i.a,.int .i64 i.b,.int .i64 i.c,.int .i64 i.n,.string i.nm] 135)).cells.1;have hs':(i.sort == 0)=false:=by simpa using A
     have hf4:(0:Int)≤(B.length:Int):=by omega
     have hne1:¬wr.heap.size=w.heap.size+1+1:=by omega
     have hne2:¬w.heap.size+1+1=wr.heap.size:=by omega
     have hwrap:IntKind.i64.wrap (B.length:Int)=(B.length:Int):=zd6 _ (by omega) (by omega);have hf5:(B.length:Int)<(B.length:Int)+1:=by omega
     cases hbad:bad0 ((B++[f]).map FnM.fn) i.key with
     | true =>
      have J:Hid (zaP [] (its.map It.key)=some i.line):=by unfold Hid;rw [aa.out,hbad];rfl
      have d:=zzY (g.alloc (.cells #[.int .i64 i.sort,.int .i64 i.line,.string i.word,.int .i64 i.a,.int .i64 i.b,.int .i64 i.c,.int .i64 i.n,.string i.nm] 135)).drew i A hbad (by omega) s.1 fg R rfl;clear hbad A;go_wp2_with fail
      go_region_dies
      all_goals(go_at_call 101;refine d.mono ?_;rintro e w2 ⟨rfl,l⟩)
      all_goals exact⟨rfl,G.trans ((zn3 _ _ l).mono (by omega)),.inl ⟨_,J.out,rfl⟩⟩
     | false =>
      have J:Hid (zaP [] (its.map It.key)=zaP (addK ((B++[f]).map FnM.fn) i.key) ((its.map It.key).drop (k+1))):=by unfold Hid;rw [aa.out,hbad];rfl
      have d:=zzZ (g.alloc (.cells #[.int .i64 i.sort,.int .i64 i.line,.string i.word,.int .i64 i.a,.int .i64 i.b,.int .i64 i.c,.int .i64 i.n,.string i.nm] 135)).drew i A hbad (by omega) s.1 (by show w.heap.size+1≤(wr.alloc _).heap.size;simp;omega) fg R rfl;clear hbad A;go_wp2_with fail
      go_region_with(go_at_call 101;refine d.mono ?_;rintro e w2 ⟨rfl,f2,r,C,ac,l⟩)
      all_goals(
       have t:=x.trans (zlU _ (by omega) ((((Below.refl (w.heap.size+1) _).drew)).trans l));clear l d;go_wp2;go_roundw
       case rel =>
        refine⟨k+1,_,B++[f2],by omega,by go_num,r,by rw [Q.out];exact C,t,by simp at T ⊢;omega,?_,by rw [C];exact J.out,by simp,?_⟩
        ·intro f' m;rw [List.mem_append] at m;rcases m with m|m
         ·have:=D f' (by simp [m]);omega
         ·simp at m;subst m;rw [ac];simp;omega
        ·intro f' m j L;rw [List.mem_append] at m;rcases m with m|m
         ·exact E f' (by simp [m]) j L
         ·simp at m;subst m;rw [ac,List.mem_append] at L;rcases L with L|L
          ·exact E f (by simp) j L
          ·simp at L;subst L;exact s
       case measure=>simp [intOf];omega)
  ·have HE:Hid (k=its.length):=by unfold Hid;omega
   obtain⟨O,o,rfl⟩:=zba g.pin.row;obtain⟨y0,y1,_⟩:=g.cells;have q:wr.heap[w.heap.size]?=some (.cells #[.slice none 0 0,.map none] 83 (0,0)):=(x.block _ (by omega)).trans y;have r0:wr.cell? ⟨w.heap.size,0,none⟩=some (.slice none 0 0):=by rw [cell_of_row wr _ 0 _ _ _ q];rfl
   have r1:wr.cell? ⟨w.heap.size,1,none⟩=some (.map none):=by rw [cell_of_row wr _ 1 _ _ _ q];rfl
   have f0:wr.frozen? ⟨w.heap.size,0,none⟩=false:=frozen_of_row wr _ 0 _ _ q;have f1:wr.frozen? ⟨w.heap.size,1,none⟩=false:=frozen_of_row wr _ 1 _ _ q;clear q;go_wp2;have q0:=World.cell?_setCell_same (wr.setCell ⟨w.heap.size,0,none⟩ (.slice O F.length o)) ⟨w.heap.size,1,none⟩ (.map (some (w.heap.size+1))) (u:=.map none) (by rw [World.cell?_setCell_other];exact r1;simp);have q1:((wr.setCell ⟨w.heap.size,0,none⟩ (.slice O F.length o)).setCell ⟨w.heap.size,1,none⟩ (.map (some (w.heap.size+1)))).cell? ⟨w.heap.size,0,none⟩=some (.slice O F.length o):=by
    rw [World.cell?_setCell_other]
    ·exact World.cell?_setCell_same wr _ _ r0
    ·simp
   have l:Below w.heap.size w ((wr.setCell ⟨w.heap.size,0,none⟩ (.slice O F.length o)).setCell ⟨w.heap.size,1,none⟩ (.map (some (w.heap.size+1)))):=(G.setCell (p:=⟨w.heap.size,0,none⟩) (Nat.le_refl _) _).setCell (p:=⟨w.heap.size,1,none⟩) (Nat.le_refl _) _;have N:=g.pin.of_blocks (w':=((wr.setCell ⟨w.heap.size,0,none⟩ (.slice O F.length o)).setCell ⟨w.heap.size,1,none⟩ (.map (some (w.heap.size+1))))) (fun b hb _=>by rw [Below.heap_setCell _ _ _ _ (by show ¬b=w.heap.size;omega),Below.heap_setCell _ _ _ _ (by show ¬b=w.heap.size;omega)]);refine bodyPost_ret (v:=.agg #[.slice O F.length o,.map (some (w.heap.size+1))]) (by simp [results,Tryz.results68,go_sem,q0,q1]) rfl ⟨l,.inr ⟨?_,_,_,F,rfl,N.mono (Nat.le_succ _),?_,?_,?_⟩⟩
   ·rw [HT.out,HE.out,List.drop_of_length_le (by simp)];rfl
   ·rw [HF.out,HE.out,List.take_of_length_le (by simp)]
   ·have:=HE.out;simp;omega
   ·intro f P;refine⟨?_,E f P⟩;have:=D f P;simp;omega
end
section
open Go.RowKit Sp
theorem zqA(A:List ByteArray)(n:Nat):(zaU A n).length≤n:=by
 induction n with
 | zero=>simp [zaU]
 | succ n ih =>
  unfold zaU;rw [List.length_append];split
  ·simp;omega
  ·split <;> simp <;> omega
theorem zqB(A:List ByteArray)(n:Nat)(k:Key)(h:k∈zaU A n):∃ x∈A,∃ l,k=keyQ (say x) l:=by
 induction n with
 | zero=>simp [zaU] at h
 | succ n ih =>
  unfold zaU at h;rw [List.mem_append] at h;rcases h with h|h
  ·exact ih h
  ·split at h
   ·simp at h
   ·rename_i x hx;split at h
    ·simp at h
    ·simp at h;exact⟨x,List.mem_of_getElem? hx,_,h⟩
theorem ziv(l:List ByteArray)(n k:Nat)(h:∀ y∈l,y.size≤n):(l[k]?.getD ⟨#[]⟩).size≤n:=by
 cases hk:l[k]? with
 | none=>exact Nat.zero_le _
 | some y=>exact h y (List.mem_of_getElem? hk)
theorem zqC(sh:List UInt8)(r:List ByteArray)(n k:Nat)(h:∀ y∈r,y.size≤n):(zqr sh r k).size≤n:=by
 induction k with
 | zero=>exact Nat.zero_le _
 | succ k ih =>
  unfold zqr;split
  ·exact ziv r n k h
  ·exact ih
theorem zlW(x:ByteArray):∀ y∈(say x).kept,y.size≤x.size:=by
 unfold say;split
 ·have b:∀ y∈zbu x,y.size≤x.size:=fun y c=>(zhM x y c).2;generalize zbu x=l at b;unfold sayW;split
  ·simp
  ·rename_i a r;split
   ·exact b
   ·split
    ·intro y c;simp at c;subst c;rw [ByteArray.size_extract];have:=b a (by simp);omega
    ·exact b
 ·simp
theorem zqD(x:ByteArray):(zcC (say x)).size≤x.size:=by
 have h:=zlW x;unfold zcC;split
 ·exact ziv _ _ 1 h
 ·split
  ·exact ziv _ _ 0 h
  ·exact zqC _ _ _ _ (fun y hy=>h y (List.mem_of_mem_tail hy))
theorem zy8(K:List Key):¬(sayK K).1=1:=by
 unfold sayK;cases K with
 | nil=>decide
 | cons k r =>
  dsimp only;split
  ·unfold zef;split
   ·exact(by decide:¬(3:Int)=1)
   ·split
    ·exact(by decide:¬(4:Int)=1)
    ·split
     ·exact(by decide:¬(5:Int)=1)
     ·exact(by decide:¬(0:Int)=1)
  ·exact(by decide:¬(2:Int)=1)
theorem zeG(A:List ByteArray)(h:∀ x∈A,(say x).ok=true)(i:Nat):zbS A i=zb5 (A.map say) 0:=by
 by_cases a:i<A.length
 ·rw [zfJ A i a (h _ (List.getElem_mem a))];exact zeG A h (i+1)
 ·exact zij A i a
termination_by A.length-i
abbrev Z33:Obj:=.cells #[.slice none 0 0,.map none] 83
theorem zy9(s:ByteArray)(w:World)(hw:LibW w)(h4:s.size≤4000)(h3:(lines s).length≤300)(hno:¬∀ x∈lines s,(say x).ok=true):
  Calls Tryz.prog 66 #[.string s] w fun e w'=>Below w.heap.size w w'∧¬zbS (lines s) 0=(0,0)∧e=zak (zbS (lines s) 0).1 (zbS (lines s) 0).2:=by
 refine(zpl s w hw h4 h3).mono ?_;rintro e w' ⟨b,⟨i,h1,a⟩|⟨_,h,_⟩⟩
 ·rw [h1];exact⟨b,by simp,a⟩
 ·exact absurd h hno
theorem zwe(s:ByteArray)(w:World)(hw:LibW w)(h4:s.size≤4000)(h3:(lines s).length≤300)(hok:∀ x∈lines s,(say x).ok=true):
  Calls Tryz.prog 66 #[.string s] w fun e w'=>Below w.heap.size w w'∧∃ v its,e=.returned v∧w'.ownsRow w.heap.size 135 8 v its.length (zav its)∧its.map It.key=zaU (lines s) (lines s).length∧its.length≤300∧∀ i∈its,ItOk i:=by
 refine(zpl s w hw h4 h3).mono ?_;rintro e w' ⟨g,⟨i,h1,h2⟩|⟨_,h,v,its,d,f,b⟩⟩
 ·exfalso;have h:=zeG (lines s) hok 0;rw [h1,zeF _ hok] at h;have:=zy8 (zaU (lines s) (lines s).length);rw [←h] at this;exact this rfl
 ·refine⟨g,v,its,d,f,b,?_,?_⟩
  ·have:=zqA (lines s) (lines s).length;rw [←b] at this;simp at this;omega
  ·intro i j;have k:i.key∈zaU (lines s) (lines s).length:=by rw [←b];exact List.mem_map_of_mem j
   obtain⟨x,m,l,c⟩:=zqB _ _ _ k;have e1:i.nm=zcC (say x):=by have:=congrArg Key.nm c;exact this
   refine⟨?_,fun hs=>?_⟩
   ·rw [e1];have:=zqD x;have:=zfs s x m;omega
   ·have e2:i.word=zdQ (say x):=by have:=congrArg Key.word c;exact this
    have a:i.sort=zfq (say x):=by have:=congrArg Key.sort c;exact this
    rw [e2];rw [hs] at a;unfold zdQ;rw [if_neg];intro d;unfold zfq at a;rw [d] at a;simp at a
theorem ztc(s:ByteArray)(hs:s.size≤9223372036854775807)(h:4000<s.size∨300<(lines s).length):zbM s (6,0):=by
 intro w hw;have a:=zsN s (w.alloc Z33) hs h;clear h;go_enter Tryz.func44,Tryz.ntmps44;go_wp2_with(first|(go_at_call 65;refine a.mono ?_;rintro e w1 ⟨rfl,b⟩;subst b))
 exact⟨rfl,(Below.refl _ _).alloc (Nat.le_refl _) _,.inr ⟨by simp,rfl⟩⟩
theorem zwf(s:ByteArray)(h4:s.size≤4000)(h3:(lines s).length≤300)(hno:¬∀ x∈lines s,(say x).ok=true):zbM s (zbS (lines s) 0):=by
 intro w h;have d:LibW (w.alloc Z33):=h.below ((Below.refl _ _).alloc (Nat.le_refl _) _);have b:=zcD s (w.alloc Z33) h4 h3;have a:=zy9 s (w.alloc Z33) d h4 h3 hno;clear hno;generalize zbS (lines s) 0=R at a ⊢;go_enter Tryz.func44,Tryz.ntmps44;go_wp2_with(first
  | (go_at_call 65;refine b.mono ?_;rintro e w1 ⟨rfl,f⟩;subst f)
  | (go_at_call 66;refine a.mono ?_;rintro e w2 ⟨c,g,rfl⟩))
 exact⟨rfl,zaW _ _ c,.inr ⟨g,rfl⟩⟩
structure Sts(s:ByteArray)(K:List Key):Prop where
 h4:s.size≤4000
 h3:(lines s).length≤300
 ok:∀ x∈lines s,(say x).ok=true
 keys:zaU (lines s) (lines s).length=K
theorem Sts.call{s:ByteArray}{K:List Key}(h:Sts s K)(w:World)(hw:LibW w):
  Calls Tryz.prog 66 #[.string s] w fun e w'=>Below w.heap.size w w'∧∃ v its,e=.returned v∧w'.ownsRow w.heap.size 135 8 v its.length (zav its)∧its.map It.key=K∧its.length≤300∧∀ i∈its,ItOk i:=by
 have:=zwe s w hw h.h4 h.h3 h.ok;rw [h.keys] at this;exact this
theorem zpo{its:List It}{k:Key}{r:List Key}(h:its.map It.key=k :: r):∃ i t,its=i :: t∧i.key=k:=by
 cases its with
 | nil=>simp at h
 | cons i t=>simp at h;exact⟨i,t,rfl,h.1⟩
theorem zqE(s:ByteArray)(h:Sts s []):zbM s (2,0):=by
 intro w k;have g:LibW (w.alloc Z33):=k.below ((Below.refl _ _).alloc (Nat.le_refl _) _);have b:=zcD s (w.alloc Z33) h.h4 h.h3;have a:=h.call (w.alloc Z33) g;clear h;go_enter Tryz.func44,Tryz.ntmps44;go_wp2_with(first
  | (go_at_call 65;refine b.mono ?_;rintro e w1 ⟨rfl,c⟩;subst c)
  | (go_at_call 66;refine a.mono ?_;rintro e l ⟨f,v,i,rfl,d,j,hl,hnm⟩;obtain rfl:i=[]:=by simpa using j)
  | (go_at_call 67;refine(znD l _ v d).mono ?_;rintro e w3 ⟨rfl,c⟩;subst c))
 exact⟨rfl,zaW _ _ f,.inr ⟨by simp,rfl⟩⟩
theorem znG(s:ByteArray)(k:Key)(r:List Key)(h:Sts s (k :: r))(hs:¬k.sort=0):zbM s (2,k.line):=by
 intro w q;have j:LibW (w.alloc Z33):=q.below ((Below.refl _ _).alloc (Nat.le_refl _) _);have b:=zcD s (w.alloc Z33) h.h4 h.h3;have a:=(h.call (w.alloc Z33) j).mono (R':=fun e l=>Below (w.alloc Z33).heap.size (w.alloc Z33) l∧∃ v i t,e=.returned v∧l.ownsRow (w.alloc Z33).heap.size 135 8 v (i :: t).length (zav (i :: t))∧t.length≤4096∧¬i.sort=0∧i.line=k.line) (by
  rintro e l ⟨o,v,its,m,n,h3,h4,h5⟩;obtain⟨i,t,rfl,rfl⟩:=zpo h3;exact⟨o,v,i,t,m,n,by simp at h4;omega,hs,rfl⟩)
 clear h hs;go_enter Tryz.func44,Tryz.ntmps44;go_wp2_with(first
  | (go_at_call 65;refine b.mono ?_;rintro e w1 ⟨rfl,c⟩;subst c)
  | (go_at_call 66;refine a.mono ?_;rintro e u ⟨f,v,i,t,rfl,d,p,g,hline⟩)
  | (go_at_call 67;refine(zq7 u _ v i t d p g).mono ?_;rintro e w3 ⟨rfl,c⟩;subst c))
 exact⟨rfl,zaW _ _ f,.inr ⟨by simp,by simp⟩⟩
theorem Sts.begins{s:ByteArray}{k:Key}{r:List Key}(h:Sts s (k :: r))(hs:k.sort=0)(w:World)(hw:LibW w):
  Calls Tryz.prog 66 #[.string s] w fun e w'=>Below w.heap.size w w'∧∃ v i t,e=.returned v∧w'.ownsRow w.heap.size 135 8 v (i :: t).length (zav (i :: t))∧(i :: t).map It.key=k :: r∧(i :: t).length≤300∧(∀ j∈i :: t,ItOk j)∧Hid (i.sort=0):=by
 refine(h.call w hw).mono ?_;rintro e w' ⟨g,v,its,b,c,a,d,f⟩;obtain⟨i,t,rfl,rfl⟩:=zpo a;exact⟨g,v,i,t,b,c,a,d,f,hs⟩
theorem zh2(w:World)(B:Nat)(v:Value)(i:It)(t:List It)(h:w.ownsRow B 135 8 v (i :: t).length (zav (i :: t)))(hl:(i :: t).length≤300)(hs:Hid (i.sort=0)):
  Calls Tryz.prog 67 #[v] w fun e w'=>e=.returned (.tuple #[])∧w'=w:=znE w B v i t h (by simp at hl;omega) hs.out
theorem zyA(w:World)(B:Nat)(v:Value)(i:It)(t:List It)(K:List Key)(h:w.ownsRow B 135 8 v (i :: t).length (zav (i :: t)))(hk:(i :: t).map It.key=K)(hl:(i :: t).length≤300)(hnm:∀ j∈i :: t,ItOk j)(hs:Hid (i.sort=0))(l:Int)(htw:Hid (zaP [] K=some l)):
  Calls Tryz.prog 68 #[v] w fun e w'=>Below w.heap.size w w'∧e=zak 3 l:=by
 have:=zlV w B v (i :: t) h hl hnm (by simp) hs;rw [hk] at this;refine this.mono ?_;rintro e w' ⟨c,⟨l',a,b⟩|⟨a,_⟩⟩
 ·rw [htw.out] at a;cases a;exact⟨c,b⟩
 ·rw [htw.out] at a;cases a
theorem znH(w:World)(B:Nat)(v:Value)(i:It)(t:List It)(K:List Key)(h:w.ownsRow B 135 8 v (i :: t).length (zav (i :: t)))(hk:(i :: t).map It.key=K)(hl:(i :: t).length≤300)(hnm:∀ j∈i :: t,ItOk j)(hs:Hid (i.sort=0))(htw:Hid (zaP [] K=none))(G:List Fn)(hG:Hid (K.foldl addK []=G))(hG0:0<G.length):
  Calls Tryz.prog 68 #[v] w fun e w'=>Below w.heap.size w w'∧∃ pm ao n cap F,e=.returned (.agg #[.slice ao n cap,.map (some pm)])∧PIn w.heap.size w' pm (.slice ao n cap) F∧Hid (F.map FnM.fn=G)∧0<F.length∧F.length≤300∧(∀ f∈F,f.its.length≤300∧∀ i∈f.its,ItOk i):=by
 have:=zlV w B v (i :: t) h hl hnm (by simp) hs;rw [hk] at this;have hKl:K.length≤300:=by rw [←hk];simpa using hl
 refine this.mono ?_;rintro e w' ⟨g,⟨l',a,b⟩|⟨_,pm,v',F,a,b,c,h4,d⟩⟩
 ·rw [htw.out] at a;cases a
 ·rw [hG.out] at c;have hFG:F.length=G.length:=by rw [←c];simp
  obtain⟨ao,cap,rfl⟩:=zba b.row;exact⟨g,pm,ao,_,cap,F,a,b,c,by omega,by omega,fun f hf=>⟨by have:=(d f hf).1;omega,(d f hf).2⟩⟩
theorem znI(s:ByteArray)(k:Key)(r:List Key)(h:Sts s (k :: r))(hs:k.sort=0)(l:Int)(ht:zaP [] (k :: r)=some l):zbM s (3,l):=by
 intro w x;have n:LibW (w.alloc Z33):=x.below ((Below.refl _ _).alloc (Nat.le_refl _) _);have c:=zcD s (w.alloc Z33) h.h4 h.h3;have a:=h.begins hs (w.alloc Z33) n;have o:Hid (zaP [] (k :: r)=some l):=ht;clear h hs ht;generalize k :: r=K at a o;go_enter Tryz.func44,Tryz.ntmps44;go_wp2_with(first
  | (go_at_call 65;refine c.mono ?_;rintro e w1 ⟨rfl,d⟩;subst d)
  | (go_at_call 66;refine a.mono ?_;rintro e y ⟨f,v,i,t,rfl,b,u,p,m,g⟩)
  | (go_at_call 67;refine(zh2 y _ v i t b p g).mono ?_;rintro e w3 ⟨rfl,d⟩;have q:=d.symm;subst q)
  | (go_at_call 68;refine(zyA _ _ v i t K b u p m g l o).mono ?_;rintro e w4 ⟨j,rfl⟩))
 exact⟨rfl,(zaW _ _ f).trans (j.mono (zaW _ _ f).size),.inr ⟨by simp,rfl⟩⟩
end
section
open Sp
structure Good(L:List Said):Prop where
 wf:∀ k (h:k<L.length),Wf L[k]
 form:∀ k (h:k<L.length),L[k].kind=105→Form L[k].kept
 size:∀ k (h:k<L.length),∀ x∈L[k].kept,x.size≤4000
 head:∃ i,∃ h:i<L.length,L[i].kind=102∧∀ j (h':j<L.length),j<i→L[j].kind=0
 twice:∀ k,k<L.length→zeX L k=false
 miss:∀ k,k<L.length→zch L k=false
 endl:∀ k,k<L.length→zdv L k=false
 few:L.length≤300
theorem zfR(L:List Said)(q j:Nat)(c:Int × Int)(h:pass L q j c=(0,0)):c=(0,0)∧∀ k,j≤k→k<L.length→badB L q k=false:=by
 by_cases a:j<L.length
 ·cases hb:badB L q j with
  | true =>
   rw [zfI L q j c a hb] at h;have:=congrArg Prod.fst h;simp at this;omega
  | false =>
   rw [zc3 L q j c a hb] at h;obtain⟨b,d⟩:=zfR L q (j+1) c h;refine⟨b,fun k hk hl=>?_⟩;by_cases e:k=j
   ·subst e;exact hb
   ·exact d k (by omega) hl
 ·rw [zfH L q j c a] at h;exact⟨h,fun k hk hl=>by omega⟩
termination_by L.length-j
theorem zjU(L:List Said)(i:Nat)(h:zb5 L i=(0,0)):(∃ j,∃ hj:j<L.length,i≤j∧L[j].kind=102∧∀ k (hk:k<L.length),i≤k→k<j→L[k].kind=0)∧tail L 0=(0,0):=by
 by_cases b:i<L.length
 ·by_cases c:L[i].kind=0
  ·rw [zjK L i b c] at h;obtain⟨⟨j,hj,h1,a,d⟩,f⟩:=zjU L (i+1) h;refine⟨⟨j,hj,by omega,a,fun k hk ha hb=>?_⟩,f⟩;by_cases e:k=i
   ·subst e;exact c
   ·exact d k hk (by omega) hb
  ·by_cases a:L[i].kind=102
   ·rw [zii L i b c a] at h;exact⟨⟨i,b,Nat.le_refl _,a,fun k hk ha hb=>by omega⟩,h⟩
   ·rw [zl7 L i b c a] at h;have:=congrArg Prod.fst h;simp at this
 ·rw [zih L i b] at h;have:=congrArg Prod.fst h;simp at this
termination_by L.length-i
theorem ztd(s:ByteArray)(h:zcm s=(0,0)):Good ((lines s).map say):=by
 unfold zcm at h;split at h
 ·have:=congrArg Prod.fst h;simp at this
 ·rename_i hfar;have a:∀ x∈lines s,(say x).ok=true:=by
   by_cases a:∀ x∈lines s,(say x).ok=true
   ·exact a
   ·exfalso;have n:∀ i,(∃ j,∃ b:j<(lines s).length,i≤j∧(say (lines s)[j]).ok=false)→¬zbS (lines s) i=(0,0):=by
     intro i;intro⟨j,b,f,m⟩;have hil:i≤j:=f;clear f
     induction hd:j-i generalizing i with
     | zero =>
      obtain rfl:j=i:=by omega
      rw [zfK _ j b m];intro e;have:=congrArg Prod.fst e;simp at this
     | succ d ih =>
      cases g:(say ((lines s)[i]'(by omega))).ok with
      | false =>
       rw [zfK _ i (by omega) g];intro e;have:=congrArg Prod.fst e;simp at this
      | true =>
       rw [zfJ _ i (by omega) g];exact ih (i+1) (by omega) (by omega)
    have:∃ x∈lines s,¬(say x).ok=true:=by
     refine Classical.byContradiction fun hn=>a fun x c=>?_;refine Classical.byContradiction fun hx'=>hn ⟨x,c,hx'⟩
    obtain⟨x,c,m⟩:=this;obtain⟨j,b,rfl⟩:=List.mem_iff_getElem.1 c;exact n 0 ⟨j,b,by omega,by simpa using m⟩ h
  rw [zeG _ a 0] at h;obtain⟨⟨i,g,_,p,q⟩,o⟩:=zjU _ 0 h;have e0:tail ((lines s).map say) 0=pass ((lines s).map say) 0 0 (pass ((lines s).map say) 1 0 (pass ((lines s).map say) 2 0 (0,0))):=rfl;rw [e0] at o;obtain⟨v,r⟩:=zfR _ _ _ _ o;obtain⟨w,t⟩:=zfR _ _ _ _ v;obtain⟨_,u⟩:=zfR _ _ _ _ w;refine⟨fun k hk=>?_,fun k hk l=>?_,fun k hk x c=>?_,⟨i,g,p,fun j b hji=>q j b (by omega) hji⟩,fun k hk=>r k (by omega) hk,fun k hk=>t k (by omega) hk,fun k hk=>u k (by omega) hk,by simp;omega⟩
  ·rw [List.getElem_map];exact zxQ _ (a _ (List.getElem_mem _))
  ·rw [List.getElem_map] at l ⊢;exact zyC _ (a _ (List.getElem_mem _)) l
  ·rw [List.getElem_map] at c;have h4:=zlW _ x c;have l:=zfs s ((lines s)[k]'(by simpa using hk)) (List.getElem_mem _);omega
def ziw(L:List Said)(z:Int):Prop:=∃ j:Nat,z=(j:Int)∧∃ h:j<L.length,L[j].kind=105
theorem zh3(L:List Said)(k:Nat)(h:zfF L k false=true):ziw L (za7 L k):=by
 by_cases a:k<L.length
 ·by_cases c:L[k].kind=102
  ·rw [znu L k _ a c] at h;cases h
  ·by_cases b:L[k].kind=105
   ·rw [zhc L k a b];exact⟨k,rfl,a,b⟩
   ·rw [zfn L k a c b];rw [zeC L k _ a c,if_neg b] at h;refine zh3 L (k+1) ?_;split at h <;> exact h
 ·rw [zhX L k _ a] at h;cases h
termination_by L.length-k
theorem Good.live{L:List Said}(G:Good L)(k:Nat)(hk:k<L.length)(h1:¬L[k].kind=0)(h2:¬L[k].kind=102):∃ e,zfF L k e=true:=by
 obtain⟨i,q,l,o⟩:=G.head;have hik:i<k:=by
  by_cases e:k=i
  ·subst e;exact absurd l h2
  ·by_cases n:k<i
   ·exact absurd (o k hk n) h1
   ·omega
 have a:∀ j (c:j<L.length),L[j].kind=102→zfF L (j+1) false=true:=fun j c h=>by
  have:=G.endl j c;rw [zlX L j c (by simp [h])] at this;simpa using this
 have g:∀ d j,j=i+1+d→j≤L.length→∃ e,zfF L j e=true:=by
  intro d
  induction d with
  | zero=>intro j c _;subst c;exact⟨false,a i q l⟩
  | succ d ih =>
   intro j c hl;obtain⟨e,f⟩:=ih (j-1) (by omega) (by omega);have b:j-1<L.length:=by omega
   obtain⟨p,rfl⟩:∃ p,j=p+1:=⟨j-1,by omega⟩
   simp only [Nat.add_sub_cancel] at f b;by_cases m:L[p].kind=102
   ·exact⟨false,a p b m⟩
   ·rw [zeC L p e b m] at f;exact⟨_,f⟩
 exact g (k-i-1) k (by omega) (by omega)
theorem Good.lab{L:List Said}(G:Good L)(j:Nat)(hj:j<L.length)(h8:L[j].kind=108):ziw L (za7 L j):=by
 obtain⟨e,a⟩:=G.live j hj (by omega) (by omega);rw [zeC L j e hj (by omega),if_pos h8] at a;rw [zfn L j hj (by omega) (by omega)];exact zh3 L _ a
theorem Good.fn{L:List Said}(G:Good L)(j:Nat)(hj:j<L.length)(h2:L[j].kind=102):ziw L (za7 L (j+1)):=by
 have:=G.endl j hj;rw [zlX L j hj (by simp [h2])] at this;exact zh3 L _ (by simpa using this)
theorem Good.next{L:List Said}(G:Good L)(k:Nat)(hk:k<L.length)(h5:L[k].kind=105)(he:ends (L[k].word 0)=false):ziw L (za7 L (k+1)):=by
 obtain⟨e,h⟩:=G.live k hk (by omega) (by omega);rw [zeC L k e hk (by omega),if_neg (by omega),if_pos h5,he] at h;exact zh3 L _ h
def cmpI(a b:Int):Int:=if a<b then -1 else if b<a then 1 else 0
theorem zgb{a b:Int}(h:cmpI a b=0):a=b:=by
 unfold cmpI at h;split at h
 ·omega
 ·split at h <;> omega
theorem zmu(a:Int):cmpI a a=0:=by unfold cmpI;rw [if_neg (by omega),if_neg (by omega)]
def cmpL:List Int→List Int→Int
 | [],[]=>0
 | [],_ :: _=>-1
 | _ :: _,[]=>1
 | a :: x,b :: y=>if cmpI a b=0 then cmpL x y else cmpI a b
def cmpK(k o:Kn):Int:=if k.steps=o.steps then(if k.next=o.next then cmpL k.behind o.behind else cmpI k.next o.next) else cmpI k.steps o.steps
def encL:Nat→List Int→Int
 | 0,_=>0
 | _+1,[]=>0
 | n+1,z :: r=>(z+1)*1024 ^ n+encL n r
def SmallL(n:Nat)(l:List Int):Prop:=l.length≤n∧∀ z∈l,0≤z∧z≤1000
theorem zkM(n:Nat):(0:Int)<1024 ^ n:=Int.pow_pos (by omega)
theorem SmallL.tail{n:Nat}{z:Int}{r:List Int}(h:SmallL (n+1) (z :: r)):SmallL n r:=⟨by have:=h.1;simp at this;omega,fun y hy=>h.2 y (List.mem_cons_of_mem _ hy)⟩
theorem ze0(n:Nat)(l:List Int)(h:SmallL n l):0≤encL n l∧encL n l<1024 ^ n:=by
 induction n generalizing l with
 | zero=>exact⟨Int.le_refl _,by show(0:Int)<1;omega⟩
 | succ n ih =>
  cases l with
  | nil=>exact⟨Int.le_refl _,zkM _⟩
  | cons z r =>
   obtain⟨h1,h2⟩:=ih r h.tail;obtain⟨z0,z1⟩:=h.2 z List.mem_cons_self;have hp:=zkM n;show 0≤(z+1)*1024 ^ n+encL n r∧(z+1)*1024 ^ n+encL n r<1024 ^ (n+1);rw [Int.pow_succ];have hm:(z+1)*1024 ^ n≤1001*1024 ^ n:=Int.mul_le_mul_of_nonneg_right (by omega) (by omega);have hm0:0≤(z+1)*1024 ^ n:=Int.mul_nonneg (by omega) (by omega);omega
theorem zyS(n:Nat)(x y:List Int)(hx:SmallL n x)(hy:SmallL n y):(cmpL x y<0→encL n x<encL n y)∧(cmpL x y=0→x=y)∧(0<cmpL x y→encL n y<encL n x):=by
 induction n generalizing x y with
 | zero =>
  have i:x=[]:=List.length_eq_zero_iff.1 (by have:=hx.1;omega);have j:y=[]:=List.length_eq_zero_iff.1 (by have:=hy.1;omega);subst i;subst j;exact⟨fun h=>absurd h (by decide),fun _=>rfl,fun h=>absurd h (by decide)⟩
 | succ n ih =>
  have hp:=zkM n;cases x with
  | nil =>
   cases y with
   | nil=>exact⟨fun h=>absurd h (by decide),fun _=>rfl,fun h=>absurd h (by decide)⟩
   | cons b y =>
    refine⟨fun _=>?_,fun h=>absurd h (by simp [cmpL]),fun h=>absurd h (by simp [cmpL])⟩;have:=(ze0 n y hy.tail).1;obtain⟨f,g⟩:=hy.2 b List.mem_cons_self;show(0:Int)<(b+1)*1024 ^ n+encL n y;have:1*1024 ^ n≤(b+1)*1024 ^ n:=Int.mul_le_mul_of_nonneg_right (by omega) (by omega);omega
  | cons a x =>
   cases y with
   | nil =>
    refine⟨fun h=>absurd h (by simp [cmpL]),fun h=>absurd h (by simp [cmpL]),fun _=>?_⟩;have:=(ze0 n x hx.tail).1;obtain⟨f,g⟩:=hx.2 a List.mem_cons_self;show(0:Int)<(a+1)*1024 ^ n+encL n x;have:1*1024 ^ n≤(a+1)*1024 ^ n:=Int.mul_le_mul_of_nonneg_right (by omega) (by omega);omega
   | cons b y =>
    obtain⟨k,i2,l⟩:=ih x y hx.tail hy.tail;obtain⟨x0,x1⟩:=ze0 n x hx.tail;obtain⟨y0,y1⟩:=ze0 n y hy.tail;show((if cmpI a b=0 then cmpL x y else cmpI a b)<0→(a+1)*1024 ^ n+encL n x<(b+1)*1024 ^ n+encL n y)∧((if cmpI a b=0 then cmpL x y else cmpI a b)=0→a :: x=b :: y)∧(0<(if cmpI a b=0 then cmpL x y else cmpI a b)→(b+1)*1024 ^ n+encL n y<(a+1)*1024 ^ n+encL n x)
    by_cases c:cmpI a b=0
    ·rw [if_pos c];have e:=zgb c;subst e;exact⟨fun h=>by have:=k h;omega,fun h=>by rw [i2 h],fun h=>by have:=l h;omega⟩
    ·rw [if_neg c];refine⟨fun h=>?_,fun h=>absurd h c,fun h=>?_⟩
     ·have d:a<b:=by unfold cmpI at h;split at h;assumption;split at h <;> omega
      have:(a+1+1)*1024 ^ n≤(b+1)*1024 ^ n:=Int.mul_le_mul_of_nonneg_right (by omega) (by omega);rw [Int.add_mul (a+1) 1] at this;omega
     ·have d:b<a:=by unfold cmpI at h;split at h;omega;split at h;assumption;omega
      have:(b+1+1)*1024 ^ n≤(a+1)*1024 ^ n:=Int.mul_le_mul_of_nonneg_right (by omega) (by omega);rw [Int.add_mul (b+1) 1] at this;omega
theorem zmv(x:List Int):cmpL x x=0:=by
 induction x with
 | nil=>rfl
 | cons a x ih=>show(if cmpI a a=0 then cmpL x x else cmpI a a)=0;rw [if_pos (zmu a),ih]
structure KeyOk(k:Kn):Prop where
 next:0≤k.next∧k.next≤1000
 behind:SmallL 15 k.behind
def keyK(k:Kn):Int:=(k.steps*1024+k.next)*1024 ^ 15+encL 15 k.behind
theorem zol{k o:Kn}(hk:KeyOk k)(ho:KeyOk o):(cmpK k o<0→keyK k<keyK o)∧(cmpK k o=0→k.next=o.next∧k.behind=o.behind∧k.steps=o.steps)∧(0<cmpK k o→keyK o<keyK k):=by
 obtain⟨a0,a1⟩:=ze0 15 k.behind hk.behind;obtain⟨b0,b1⟩:=ze0 15 o.behind ho.behind;obtain⟨k0,k1⟩:=hk.next;obtain⟨o0,o1⟩:=ho.next;obtain⟨c,d,e⟩:=zyS 15 _ _ hk.behind ho.behind;unfold cmpK keyK;by_cases a:k.steps=o.steps
 ·rw [if_pos a,a];by_cases b:k.next=o.next
  ·rw [if_pos b,b];exact⟨fun h=>by have:=c h;omega,fun h=>⟨rfl,d h,rfl⟩,fun h=>by have:=e h;omega⟩
  ·rw [if_neg b];refine⟨fun h=>?_,fun h=>absurd (zgb h) b,fun h=>?_⟩
   ·have:k.next<o.next:=by unfold cmpI at h;split at h;assumption;split at h <;> omega
    omega
   ·have:o.next<k.next:=by unfold cmpI at h;split at h;omega;split at h;assumption;omega
    omega
 ·rw [if_neg a];refine⟨fun h=>?_,fun h=>absurd (zgb h) a,fun h=>?_⟩
  ·have:k.steps<o.steps:=by unfold cmpI at h;split at h;assumption;split at h <;> omega
   omega
  ·have:o.steps<k.steps:=by unfold cmpI at h;split at h;omega;split at h;assumption;omega
   omega
theorem ztV{k o:Kn}(h1:k.next=o.next)(h2:k.behind=o.behind)(h3:k.steps=o.steps):cmpK k o=0:=by
 unfold cmpK;rw [if_pos h3,if_pos h1,h2,zmv]
theorem ztW{k o:Kn}(hk:KeyOk k)(ho:KeyOk o)(h:keyK k≤keyK o):k.steps≤o.steps:=by
 obtain⟨a0,a1⟩:=ze0 15 k.behind hk.behind;obtain⟨b0,b1⟩:=ze0 15 o.behind ho.behind;obtain⟨k0,k1⟩:=hk.next;obtain⟨o0,o1⟩:=ho.next;unfold keyK at h;omega
end
end Go.Proofs.YtfpgjkbjbbgciaaGreatDoor
