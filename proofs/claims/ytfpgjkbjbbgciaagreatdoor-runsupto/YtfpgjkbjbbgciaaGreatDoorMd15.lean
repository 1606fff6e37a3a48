import Derived.Test.YtfpgjkbjbbgciaaGreatDoorMd12
import Derived.Test.YtfpgjkbjbbgciaaGreatDoorMd13
import Derived.Test.YtfpgjkbjbbgciaaGreatDoorMd14
set_option maxRecDepth 100000
set_option maxHeartbeats 8000000
namespace Go.Proofs.YtfpgjkbjbbgciaaGreatDoor
open Go.RowKit Sp
structure PAt(B:Nat)(w:World)(p pm:Nat)(v:Value)(F:List FnM):Prop where
 pin:PIn B w pm v F
 var:w.heap[p]?=some (.cells #[v,.map (some pm)] 83 (0,0))
 low:B≤p
theorem PAt.cells{B:Nat}{w:World}{p pm:Nat}{v:Value}{F:List FnM}(h:PAt B w p pm v F):
  w.cell? ⟨p,0,none⟩=some v∧w.cell? ⟨p,1,none⟩=some (.map (some pm))∧w.frozen? ⟨p,0,none⟩=false:=by
 refine⟨?_,?_,frozen_of_row w p 0 _ _ h.var⟩
 ·rw [cell_of_row w p 0 _ _ _ h.var];rfl
 ·rw [cell_of_row w p 1 _ _ _ h.var];rfl
theorem PAt.of_blocks{B:Nat}{w w':World}{p pm:Nat}{v:Value}{F:List FnM}(h:PAt B w p pm v F)(hb:∀ b,B≤b→b<w.heap.size→w'.heap[b]?=w.heap[b]?):PAt B w' p pm v F :=
 ⟨h.pin.of_blocks hb,(hb p h.low (Array.getElem?_eq_some_iff.1 h.var).1).trans h.var,h.low⟩
theorem PAt.drew{B:Nat}{w:World}{p pm:Nat}{v:Value}{F:List FnM}(h:PAt B w p pm v F):PAt B w.drew p pm v F:=h.of_blocks fun _ _ _=>rfl
theorem PAt.alloc{B:Nat}{w:World}{p pm:Nat}{v:Value}{F:List FnM}(h:PAt B w p pm v F)(o:Obj):PAt B (w.alloc o) p pm v F:=h.of_blocks fun _b _ hb=>Below.heap_alloc _ _ _ hb
theorem zjO(F:List FnM):(F.map FnM.fn).map Fn.name=F.map FnM.name:=by simp [FnM.fn]
theorem PAt.apart{B:Nat}{w:World}{p pm:Nat}{v:Value}{F:List FnM}(h:PAt B w p pm v F):¬p=pm∧v.ownBlock≠some p:=by
 constructor
 ·intro e
  obtain⟨em,cm,hem⟩:=ze1 h.pin.places
  have:=h.var
  rw [e,hem] at this;cases this
 ·intro e
  obtain⟨c2,hc2⟩:=zcj h.pin.row e
  have:=h.var
  rw [hc2] at this;simp at this
theorem zuH{B:Nat}{w:World}{p pm:Nat}{v:Value}{F:List FnM}(h:PAt B w p pm v F)(i:It)(hs:i.sort=0)(hbad:bad0 (F.map FnM.fn) i.key=true)(hn:F.length≤4096)(hnm:i.nm.size≤1048576):
  Calls Tryz.prog 100 #[.pointer (some ⟨p,0,none⟩),stm i.sort i.line i.word i.a i.b i.c i.n i.nm] w fun e w'=>e=zaj 3 i.line∧Below w.heap.size w w':=by
 obtain⟨c1,c2,c3⟩:=h.cells
 refine zsg w B p pm F.length v (zc2 F) i (zbu F) c1 c2 h.pin.places h.pin.row hn hnm ?_
 unfold bad0 at hbad
 rw [if_pos (show i.key.sort=0 from hs),zjO] at hbad
 rw [zcy]
 exact hbad
theorem zuI{B:Nat}{w:World}{p pm:Nat}{v:Value}{F:List FnM}(h:PAt B w p pm v F)(i:It)(hs:i.sort=0)(hbad:bad0 (F.map FnM.fn) i.key=false)(hn:F.length≤4096)(hnm:i.nm.size≤1048576)(hB:B≤w.heap.size):
  Calls Tryz.prog 100 #[.pointer (some ⟨p,0,none⟩),stm i.sort i.line i.word i.a i.b i.c i.n i.nm] w fun e w'=>e=.returned (.tuple #[]) ∧
   ∃ v' F',PAt B w' p pm v' F'∧F'.map FnM.fn=addK (F.map FnM.fn) i.key∧F'.length≤F.length+1∧(∀ f∈F',f.its=[]∨∃ f0∈F,f0.its=f.its)∧Below B w w':=by
 obtain⟨c1,c2,c3⟩:=h.cells
 obtain⟨a1,a2⟩:=h.apart
 unfold bad0 at hbad
 rw [if_pos (show i.key.sort=0 from hs),zjO] at hbad
 refine(zsh w B p pm F.length v (zc2 F) i (zbu F) c1 c2 c3 h.pin.places h.pin.row a2 hB hn (by rw [zkV];exact hn) hnm (by rw [zcy];exact hbad) a1).mono ?_
 rintro e w' ⟨rfl,g,cap,w1,w2,rfl,h1,h2,h3,h4,h5,h6,h7⟩
 obtain⟨q1,q2,q3⟩:=h.pin.begun h.var h.low h1 h2 h3 h4 h5 h6 h7
 refine⟨rfl,_,_,⟨q1,q3,h.low⟩,?_,by simp,?_,q2⟩
 ·rw [List.map_append,zc6 _ _ (show i.key.sort=0 from hs)]
  rfl
 ·intro f hf
  rw [List.mem_append] at hf
  rcases hf with hf|hf
  ·exact .inr ⟨f,hf,rfl⟩
  ·simp at hf;subst hf;exact .inl rfl
theorem PIn.last{B:Nat}{w:World}{pm:Nat}{v:Value}{F:List FnM}{f:FnM}(h:PIn B w pm v (F++[f])):
  ∃ fg cap,v=.slice (some ⟨fg,0,none⟩) (F.length+1) cap∧w.cell? ⟨fg,F.length*4+2,none⟩=some f.bv∧w.cell? ⟨fg,F.length*4+3,none⟩=some (.map (some f.m))∧w.frozen? ⟨fg,F.length*4+2,none⟩=false∧f.bv.ownBlock≠some fg∧¬fg=f.m∧F.length+1≤cap:=by
 have hmem:f∈F++[f]:=by simp
 have hrow:=h.row
 have hlen:(F++[f]).length=F.length+1:=by simp
 rw [hlen] at hrow
 obtain⟨fg,cap,hv,_,_⟩:=hrow.form (by omega)
 subst hv
 obtain⟨cr,hcr⟩:=zcj hrow (g:=fg) rfl
 obtain⟨em,cm,hem⟩:=ze1 (h.labels f hmem)
 have c:∀ j,j<4→w.cell? ⟨fg,F.length*4+j,none⟩=f.cells[j]?:=fun j hj=>by
  rw [World.ownsRow.cellAt hrow (F.length*4+j) (by omega),zjb (F++[f]) F.length (by simp) j hj]
  simp
 have hcap:F.length+1≤cap:=by
  rcases hrow.2 with ⟨h',_⟩|⟨g',cap',cur,h',_,_,hnc,_⟩
  ·simp at h'
  ·simp at h';omega
 refine⟨fg,cap,rfl,c 2 (by omega),c 3 (by omega),World.ownsRow.frozenAt hrow _,?_,?_,hcap⟩
 ·intro e
  obtain⟨c2,hc2⟩:=zcj (h.bodies f hmem) e
  rw [hc2] at hcr;simp at hcr
 ·intro e;rw [e,hem] at hcr;cases hcr
theorem zkW(n:Nat)(l:List It):(zbt n l).length≤l.length:=by
 induction l generalizing n with
 | nil=>simp [zbt]
 | cons i l ih =>
  rw [zco]
  split
  ·have:=ih n;simp;omega
  ·have:=ih (n+1);simp;omega
theorem zxW{B:Nat}{w:World}{p pm:Nat}{v:Value}{F:List FnM}{f:FnM}(h:PAt B w p pm v (F++[f]))(i:It)(hs:¬i.sort=0)(hbad:bad0 ((F++[f]).map FnM.fn) i.key=true)(hn:f.its.length≤4096)(hnm:i.nm.size≤1048576)(fg cap:Nat)(hv:v=.slice (some ⟨fg,0,none⟩) (F.length+1) cap):
  Calls Tryz.prog 101 #[.pointer (some ⟨fg,F.length*4,none⟩),stm i.sort i.line i.word i.a i.b i.c i.n i.nm] w fun e w'=>e=zaj 3 i.line∧Below w.heap.size w w':=by
 have hmem:f∈F++[f]:=by simp
 obtain⟨fg',cap',hv',c1,c2,c3,c4,c5,c6⟩:=h.pin.last
 rw [hv] at hv'
 simp at hv'
 obtain⟨rfl,rfl⟩:=hv'
 unfold bad0 at hbad
 rw [if_neg (show ¬i.key.sort=0 from hs)] at hbad
 by_cases h1:i.sort=1
 ·rw [if_pos (show i.key.sort=1 from h1)] at hbad
  simp only [List.map_append,List.map_cons,List.map_nil,List.getLast?_append,List.getLast?_singleton,Option.some_or] at hbad
  exact zwK w B fg (F.length*4) f.m f.bv (zal f.its) i _ h1 c1 c2 (h.pin.labels f hmem) (h.pin.bodies f hmem) (Nat.le_trans (zdM _) hn) hnm (by rw [zdA];exact hbad)
 ·rw [if_neg (show ¬i.key.sort=1 from h1)] at hbad
  cases hbad
theorem zxX{B:Nat}{w:World}{p pm:Nat}{v:Value}{F:List FnM}{f:FnM}(h:PAt B w p pm v (F++[f]))(i:It)(hs:¬i.sort=0)(hbad:bad0 ((F++[f]).map FnM.fn) i.key=false)(hn:f.its.length≤4096)(hnm:i.nm.size≤1048576)(hB:B≤w.heap.size)(fg cap:Nat)(hv:v=.slice (some ⟨fg,0,none⟩) (F.length+1) cap):
  Calls Tryz.prog 101 #[.pointer (some ⟨fg,F.length*4,none⟩),stm i.sort i.line i.word i.a i.b i.c i.n i.nm] w fun e w'=>e=.returned (.tuple #[]) ∧
   ∃ f',PAt B w' p pm v (F++[f'])∧(F++[f']).map FnM.fn=addK ((F++[f]).map FnM.fn) i.key∧f'.its=f.its++[i]∧Below B w w':=by
 have hmem:f∈F++[f]:=by simp
 obtain⟨fg',cap',hv',c1,c2,c3,c4,c5,c6⟩:=h.pin.last
 rw [hv] at hv'
 simp at hv'
 obtain⟨rfl,rfl⟩:=hv'
 have hpin:=h.pin
 have hadd:∀ u:Value,(F++[(⟨f.name,f.line,f.its++[i],u,f.m⟩:FnM)]).map FnM.fn=addK ((F++[f]).map FnM.fn) i.key:=by
  intro u
  rw [List.map_append,List.map_append]
  rw [show [f].map FnM.fn=[f.fn] from rfl,zfL _ _ _ (show ¬i.key.sort=0 from hs)]
  simp [FnM.fn]
 unfold bad0 at hbad
 rw [if_neg (show ¬i.key.sort=0 from hs)] at hbad
 by_cases h1:i.sort=1
 ·rw [if_pos (show i.key.sort=1 from h1)] at hbad
  simp only [List.map_append,List.map_cons,List.map_nil,List.getLast?_append,List.getLast?_singleton,Option.some_or] at hbad
  refine(zwL w B fg (F.length*4) f.m f.bv (zal f.its) i _ h1 c1 c2 (h.pin.labels f hmem) (h.pin.bodies f hmem) (Nat.le_trans (zdM _) hn) (Nat.le_trans (zkW _ _) hn) hnm (by rw [zdA];exact hbad)).mono ?_
  rintro e w' ⟨rfl,h2,h3⟩
  obtain⟨q1,q2,q3⟩:=hpin.labelled h1 h2 h3
  exact⟨rfl,_,⟨q1,q3 p _ h.var,h.low⟩,hadd _,rfl,q2⟩
 ·refine(zsf w B fg (F.length*4) f.bv (zal f.its) i h1 c1 c3 (h.pin.bodies f hmem) c4 hB (Nat.le_trans (zdM _) hn)).mono ?_
  rintro e w' ⟨rfl,g,cap2,w1,rfl,h4,h5,h6⟩
  rw [hv] at hpin
  obtain⟨q1,q2,q3⟩:=hpin.added h1 h4 h5 h6
  exact⟨rfl,_,⟨by rw [hv];exact q1,q3 p _ h.var,h.low⟩,hadd _,rfl,q2⟩
end Go.Proofs.YtfpgjkbjbbgciaaGreatDoor
namespace Go.Proofs.YtfpgjkbjbbgciaaGreatDoor
open Go.RowKit Sp
attribute [local go_sem ↓] Go.wp_at_zero Go.wp_at_succ
def ItOk(i:It):Prop:=i.nm.size≤1048576∧(i.sort=1→i.word=⟨#[]⟩)
def zuJ(w:World)(K:List Key):Ending→World→Prop:=fun e w' =>
 Below w.heap.size w w'∧((∃ l,zbb [] K=some l∧e=zaj 3 l) ∨
  (zbb [] K=none∧∃ pm v F,e=.returned (.agg #[v,.map (some pm)])∧PIn w.heap.size w' pm v F∧F.map FnM.fn=K.foldl addK []∧F.length≤K.length∧∀ f∈F,f.its.length≤K.length∧∀ i∈f.its,ItOk i))
theorem PIn.mono{B B':Nat}{w:World}{pm:Nat}{v:Value}{F:List FnM}(h:PIn B w pm v F)(hB:B'≤B):PIn B' w pm v F :=
 ⟨zb7 h.row hB,fun f hf=>zb7 (h.bodies f hf) hB,h.labels,h.places,fun f hf=>Nat.le_trans hB (h.lowm f hf),Nat.le_trans hB h.lowp,h.pmNot,h.maps,h.rows⟩
theorem zp3(K:List Key)(k:Nat)(h:k<K.length):(K.take (k+1)).foldl addK []=addK ((K.take k).foldl addK []) K[k]:=by
 rw [List.take_succ_eq_append_getElem h,List.foldl_append]
 rfl
theorem zp4(F:List Fn)(K:List Key)(k:Nat)(h:k<K.length):zbb F (K.drop k)=if bad0 F K[k]=true then some K[k].line else zbb (addK F K[k]) (K.drop (k+1)):=by
 rw [List.drop_eq_getElem_cons h]
 rfl
theorem zbj(w:World)(a:Obj){w1:World}(h:Below (w.alloc a).heap.size (w.alloc a) w1):Below w.heap.size w w1 :=
 ((Below.refl w.heap.size w).alloc (Nat.le_refl _) a).trans (h.mono (by simp))
theorem zkX{B:Nat}{w:World}(a:Obj){w1:World}(hB:B≤w.heap.size)(h:Below B (w.alloc a) w1):Below B w w1 :=
 ((Below.refl B w).alloc hB a).trans h
theorem zwM(F:List FnM)(h:¬F=[]):∃ F0 f,F=F0++[f]:=⟨F.dropLast,F.getLast h,(List.dropLast_concat_getLast h).symm⟩
theorem zc8(x:Int)(h0:0≤x)(h1:x≤1000000):IntKind.i64.wrap x=x:=IntWalk.i64_in x (by omega)
abbrev W3(w:World):World:=((w.alloc (.cells #[.slice none 0 0,.map none] 83)).alloc (.map #[] 0)).alloc (.cells #[.slice none 0 0,.map (some (w.heap.size+1))] 83)
theorem zkY(w:World)(B0:Nat)(v0:Value)(its:List It)(hown0:w.ownsRow B0 135 8 v0 its.length (za0 its))(hn:its.length≤300)(hnm:∀ i∈its,ItOk i)(hpos:0<its.length)(hfirst:Hid (its[0].sort=0)):
  Calls Tryz.prog 68 #[v0] w (zuJ w (its.map It.key)):=by
 obtain⟨g0,cap0,rfl,_,hg0,hcells⟩:=zgr hown0 hpos
 have hmk:=fun W=>zwp W
 have hb3:Below w.heap.size w (W3 w):=(((Below.refl _ _).alloc (Nat.le_refl _) _).alloc (by simp) _).alloc (by simp;omega) _
 have hz3:(W3 w).heap.size=w.heap.size+3:=by simp [W3]
 have hp3:PAt (w.heap.size+1) (W3 w) (w.heap.size+1+1) (w.heap.size+1) (.slice none 0 0) []:=by
  refine⟨PIn.start _ _ _ ?_ (Nat.le_refl _),?_,by omega⟩
  ·have:=MapIs.made (w.alloc (.cells #[.slice none 0 0,.map none] 83))
   have:=this.alloc (.cells #[.slice none 0 0,.map (some (w.heap.size+1))] 83)
   simpa using this
  ·have:=heap_alloc_new ((w.alloc (.cells #[.slice none 0 0,.map none] 83)).alloc (.map #[] 0)) (.cells #[.slice none 0 0,.map (some (w.heap.size+1))] 83)
   simpa using this
 have hres3:(W3 w).heap[w.heap.size]?=some (.cells #[.slice none 0 0,.map none] 83 (0,0)):=by
  rw [Below.heap_alloc _ _ _ (by simp;omega),Below.heap_alloc _ _ _ (by simp)]
  exact heap_alloc_new w _
 go_enter Tryz.func68,Tryz.ntmps68
 go_wp2
 change Code.wp _ _ _ _ (W3 w)
 generalize W3 w=W at hb3 hz3 hp3 hres3
 clear hmk
 go_loopw [10] (fun ti wr=>∃(k:Nat) (v:Value) (F:List FnM),k≤its.length∧ti=.int .i64 (k:Int)∧PAt (w.heap.size+1) wr (w.heap.size+1+1) (w.heap.size+1) v F∧F.map FnM.fn=((its.map It.key).take k).foldl addK []∧Below (w.heap.size+1) W wr∧F.length≤k∧(∀ f∈F,f.its.length≤k)∧zbb [] (its.map It.key)=zbb (F.map FnM.fn) ((its.map It.key).drop k)∧(0<k→¬F=[])∧(∀ f∈F,∀ i∈f.its,ItOk i)) (fun ti _=>its.length-(intOf ti).toNat)
 case atStart=>exact⟨0,_,[],by omega,rfl,hp3,rfl,Below.refl _ _,by simp,by simp,rfl,by simp,by simp⟩
 case round =>
  obtain⟨k,v,F,hk,rfl,hpat,hF,hnx,hFl,hFi,hT,hF0,hFn⟩:=hrel
  have HF:Hid (F.map FnM.fn=((its.map It.key).take k).foldl addK []):=hF
  have HT:Hid (zbb [] (its.map It.key)=zbb (F.map FnM.fn) ((its.map It.key).drop k)):=hT
  clear hF hT
  have hszr:=hnx.size
  have hbw:Below w.heap.size w wr:=hb3.trans (hnx.mono (by omega))
  by_cases hlt:k<its.length
  ·have hck:=hcells k hlt
   have hnk:=hnm its[k] (List.getElem_mem hlt)
   have hltK:k<(its.map It.key).length:=by simpa using hlt
   have HTD:Hid (zbb [] (its.map It.key)=if bad0 (F.map FnM.fn) its[k].key=true then some its[k].key.line else zbb (addK (F.map FnM.fn) its[k].key) ((its.map It.key).drop (k+1))):=by
    unfold Hid;rw [HT.out,zp4 _ _ k hltK];simp
   have HFD:Hid (((its.map It.key).take (k+1)).foldl addK []=addK (F.map FnM.fn) its[k].key):=by
    unfold Hid;rw [zp3 _ k hltK,←HF.out];simp
   have H0:Hid (¬its[k].sort=0→¬F=[]):=fun h=>hF0 (by
    rcases Nat.eq_zero_or_pos k with e|e
    ·subst e;exact absurd hfirst.out h
    ·exact e)
   generalize its[k]=i at hck hnk HTD HFD H0
   obtain⟨c0,c1,c2,c3,c4,c5,c6,c7⟩:=hck
   have z:∀ j,wr.cell? ⟨g0,j,none⟩=w.cell? ⟨g0,j,none⟩:=fun j=>hbw.cell (p:=⟨g0,j,none⟩) hg0
   rw [←z] at c0 c1 c2 c3 c4 c5 c6 c7
   have hk8:k*8≤2400:=by omega
   clear z hF0
   by_cases hs:i.sort=0
   ·cases hbad:bad0 (F.map FnM.fn) i.key with
    | true =>
     have HX:Hid (zbb [] (its.map It.key)=some i.line):=by unfold Hid;rw [HTD.out,hbad];rfl
     have hcall:=zuH (hpat.alloc (.cells #[.int .i64 i.sort,.int .i64 i.line,.string i.word,.int .i64 i.a,.int .i64 i.b,.int .i64 i.c,.int .i64 i.n,.string i.nm] 135)) i hs hbad (by omega) hnk.1
     rw [hs] at hcall c0
     clear hbad hs
     go_wp2_with(go_at_call 100;refine hcall.mono ?_;rintro e w2 ⟨rfl,hb2⟩)
     exact⟨rfl,hbw.trans ((zbj _ _ hb2).mono (by omega)),.inl ⟨_,HX.out,rfl⟩⟩
    | false =>
     have HX:Hid (zbb [] (its.map It.key)=zbb (addK (F.map FnM.fn) i.key) ((its.map It.key).drop (k+1))):=by unfold Hid;rw [HTD.out,hbad];rfl
     have hcall:=zuI (hpat.alloc (.cells #[.int .i64 i.sort,.int .i64 i.line,.string i.word,.int .i64 i.a,.int .i64 i.b,.int .i64 i.c,.int .i64 i.n,.string i.nm] 135)) i hs hbad (by omega) hnk.1 (by simp;omega)
     have HS:Hid (i.sort=0):=hs
     rw [hs] at hcall c0
     clear hbad hs
     go_wp2_with(go_at_call 100;refine hcall.mono ?_;rintro e w2 ⟨rfl,v2,F2,hpat2,hF2,hl2,hi2,hb2⟩)
     have hb12:=hnx.trans (zkX _ (by omega) hb2)
     clear hb2 hcall
     go_roundw
     case rel =>
      refine⟨k+1,v2,F2,by omega,by go_num,hpat2,by rw [HFD.out];exact hF2,hb12,by omega,?_,by rw [hF2];exact HX.out,?_,?_⟩
      ·intro f hf
       rcases hi2 f hf with e|⟨f0,hf0,e⟩
       ·rw [e];simp
       ·rw [←e];have:=hFi f0 hf0;omega
      ·rintro _ rfl
       have:=HFD.out
       have h3:=hF2
       rw [zc6 _ _ HS.out] at h3
       simp at h3
      ·intro f hf
       rcases hi2 f hf with e|⟨f0,hf0,e⟩
       ·rw [e];simp
       ·rw [←e];exact hFn f0 hf0
     case measure=>simp [intOf];omega
   ·obtain⟨F0,f,rfl⟩:=zwM F (H0.out hs)
    ·obtain⟨fg,cap,rfl,_,_,_,_,_,hcap⟩:=hpat.pin.last
     have hfi:=hFi f (by simp)
     have hfl:F0.length+1≤300:=by simp at hFl;omega
     have hpc:=(hpat.alloc (.cells #[.int .i64 i.sort,.int .i64 i.line,.string i.word,.int .i64 i.a,.int .i64 i.b,.int .i64 i.c,.int .i64 i.n,.string i.nm] 135)).cells.1
     have hs':(i.sort == 0)=false:=by simpa using hs
     have hf4:(0:Int)≤(F0.length:Int):=by omega
     have hne1:¬wr.heap.size=w.heap.size+1+1:=by omega
     have hne2:¬w.heap.size+1+1=wr.heap.size:=by omega
     have hwrap:IntKind.i64.wrap (F0.length:Int)=(F0.length:Int):=zc8 _ (by omega) (by omega)
     have hf5:(F0.length:Int)<(F0.length:Int)+1:=by omega
     cases hbad:bad0 ((F0++[f]).map FnM.fn) i.key with
     | true =>
      have HX:Hid (zbb [] (its.map It.key)=some i.line):=by unfold Hid;rw [HTD.out,hbad];rfl
      have hcall:=zxW (hpat.alloc (.cells #[.int .i64 i.sort,.int .i64 i.line,.string i.word,.int .i64 i.a,.int .i64 i.b,.int .i64 i.c,.int .i64 i.n,.string i.nm] 135)).drew i hs hbad (by omega) hnk.1 fg cap rfl
      clear hbad hs
      go_wp2_with fail
      go_region_dies
      all_goals(go_at_call 101;refine hcall.mono ?_;rintro e w2 ⟨rfl,hb2⟩)
      all_goals exact⟨rfl,hbw.trans ((zmI _ _ hb2).mono (by omega)),.inl ⟨_,HX.out,rfl⟩⟩
     | false =>
      have HX:Hid (zbb [] (its.map It.key)=zbb (addK ((F0++[f]).map FnM.fn) i.key) ((its.map It.key).drop (k+1))):=by unfold Hid;rw [HTD.out,hbad];rfl
      have hcall:=zxX (hpat.alloc (.cells #[.int .i64 i.sort,.int .i64 i.line,.string i.word,.int .i64 i.a,.int .i64 i.b,.int .i64 i.c,.int .i64 i.n,.string i.nm] 135)).drew i hs hbad (by omega) hnk.1 (by show w.heap.size+1≤(wr.alloc _).heap.size;simp;omega) fg cap rfl
      clear hbad hs
      go_wp2_with fail
      go_region_with(go_at_call 101;refine hcall.mono ?_;rintro e w2 ⟨rfl,f2,hpat2,hF2,hl2,hb2⟩)
      all_goals(
       have hb12:=hnx.trans (zkX _ (by omega) ((((Below.refl (w.heap.size+1) _).drew)).trans hb2))
       clear hb2 hcall
       go_wp2
       go_roundw
       case rel =>
        refine⟨k+1,_,F0++[f2],by omega,by go_num,hpat2,by rw [HFD.out];exact hF2,hb12,by simp at hFl ⊢;omega,?_,by rw [hF2];exact HX.out,by simp,?_⟩
        ·intro f' hf'
         rw [List.mem_append] at hf'
         rcases hf' with hf'|hf'
         ·have:=hFi f' (by simp [hf']);omega
         ·simp at hf';subst hf';rw [hl2];simp;omega
        ·intro f' hf' j hj
         rw [List.mem_append] at hf'
         rcases hf' with hf'|hf'
         ·exact hFn f' (by simp [hf']) j hj
         ·simp at hf';subst hf';rw [hl2,List.mem_append] at hj
          rcases hj with hj|hj
          ·exact hFn f (by simp) j hj
          ·simp at hj;subst hj;exact hnk
       case measure=>simp [intOf];omega)
  ·have HE:Hid (k=its.length):=by unfold Hid;omega
   obtain⟨ao,capv,rfl⟩:=zb8 hpat.pin.row
   obtain⟨y0,y1,_⟩:=hpat.cells
   have hres:wr.heap[w.heap.size]?=some (.cells #[.slice none 0 0,.map none] 83 (0,0)):=(hnx.block _ (by omega)).trans hres3
   have r0:wr.cell? ⟨w.heap.size,0,none⟩=some (.slice none 0 0):=by rw [cell_of_row wr _ 0 _ _ _ hres];rfl
   have r1:wr.cell? ⟨w.heap.size,1,none⟩=some (.map none):=by rw [cell_of_row wr _ 1 _ _ _ hres];rfl
   have f0:wr.frozen? ⟨w.heap.size,0,none⟩=false:=frozen_of_row wr _ 0 _ _ hres
   have f1:wr.frozen? ⟨w.heap.size,1,none⟩=false:=frozen_of_row wr _ 1 _ _ hres
   clear hres
   go_wp2
   have q0:=World.cell?_setCell_same (wr.setCell ⟨w.heap.size,0,none⟩ (.slice ao F.length capv)) ⟨w.heap.size,1,none⟩ (.map (some (w.heap.size+1))) (u:=.map none) (by rw [World.cell?_setCell_other];exact r1;simp)
   have q1:((wr.setCell ⟨w.heap.size,0,none⟩ (.slice ao F.length capv)).setCell ⟨w.heap.size,1,none⟩ (.map (some (w.heap.size+1)))).cell? ⟨w.heap.size,0,none⟩=some (.slice ao F.length capv):=by
    rw [World.cell?_setCell_other]
    ·exact World.cell?_setCell_same wr _ _ r0
    ·simp
   have hb2:Below w.heap.size w ((wr.setCell ⟨w.heap.size,0,none⟩ (.slice ao F.length capv)).setCell ⟨w.heap.size,1,none⟩ (.map (some (w.heap.size+1)))):=(hbw.setCell (p:=⟨w.heap.size,0,none⟩) (Nat.le_refl _) _).setCell (p:=⟨w.heap.size,1,none⟩) (Nat.le_refl _) _
   have hpin2:=hpat.pin.of_blocks (w':=((wr.setCell ⟨w.heap.size,0,none⟩ (.slice ao F.length capv)).setCell ⟨w.heap.size,1,none⟩ (.map (some (w.heap.size+1))))) (fun b hb _=>by rw [Below.heap_setCell _ _ _ _ (by show ¬b=w.heap.size;omega),Below.heap_setCell _ _ _ _ (by show ¬b=w.heap.size;omega)])
   refine bodyPost_ret (v:=.agg #[.slice ao F.length capv,.map (some (w.heap.size+1))]) (by simp [results,Tryz.results68,go_sem,q0,q1]) rfl ⟨hb2,.inr ⟨?_,_,_,F,rfl,hpin2.mono (Nat.le_succ _),?_,?_,?_⟩⟩
   ·rw [HT.out,HE.out,List.drop_of_length_le (by simp)];rfl
   ·rw [HF.out,HE.out,List.take_of_length_le (by simp)]
   ·have:=HE.out;simp;omega
   ·intro f hf
    refine⟨?_,hFn f hf⟩
    have:=hFi f hf;simp;omega
end Go.Proofs.YtfpgjkbjbbgciaaGreatDoor
namespace Go.Proofs.YtfpgjkbjbbgciaaGreatDoor
open Go.RowKit Sp
theorem LinesIn.drewN{w:World}{g:Nat}{L:List Said}(h:LinesIn w g L)(n:Nat):LinesIn (w.drewN n) g L:=⟨h.kind,h.words,h.wf⟩
theorem zpJ(w:World)(b wb cap g cap2 k:Nat)(bv iv ov:Value)(L:List Said)(m:Mc)(x:ByteArray)(next:Int)(j:Nat)(h:RefM w b (.slice (some ⟨g,0,none⟩) L.length cap2) bv iv ov m)(hL:LinesIn w g L)(hn:L.length≤300)(hk:k<L.length)(hat:m.at'=(k:Int))(hw:WdIn w wb [⟨#[106,117,109,112]⟩,x])(hlab:zbZ L k x=(j:Int))(hj:j≤L.length):
  Calls Tryz.prog 89 #[.pointer (some ⟨b,0,none⟩),.slice (some ⟨wb,0,none⟩) 2 cap,.int .i64 next] w fun e w'=>e=.returned (.tuple #[.int .i64 (zad L j),.bool true])∧∃ n,w'=w.drewN n:=by
 have c0:=hw 0 (by simp)
 have c1:=hw 1 (by simp)
 simp only [List.getElem_cons_zero,List.getElem_cons_succ] at c0 c1
 have hcl:=h.cL
 have hca:=h.cAt
 rw [hat] at hca
 have g1:∀ n,Calls Tryz.prog 78 #[.slice (some ⟨g,0,none⟩) L.length cap2,.int .i64 (k:Int),.string x] (w.drewN n) fun e w'=>e=.returned (.int .i64 (j:Int))∧w'=w.drewN n:=fun n=>by
  rw [←hlab];exact zfn L g cap2 k x _ (hL.drewN n) (by omega) hk
 have g2:∀ n,Calls Tryz.prog 88 #[.slice (some ⟨g,0,none⟩) L.length cap2,.int .i64 (j:Int)] (w.drewN n) fun e w'=>e=.returned (.int .i64 (zad L j))∧w'=w.drewN n:=fun n=>zdb L g cap2 j _ (hL.drewN n) (by omega) (by omega)
 generalize zad L j=to at g2 ⊢
 clear hlab
 go_enter Tryz.func89,Tryz.ntmps89
 go_wp2_with fail
 go_quiet(first|(go_at_call 78;exact Calls.quiet_of_same (g1 _))|(go_at_call 88;exact Calls.quiet_of_same (g2 _)))
 go_wp2
 go_ret2
 exact⟨rfl,_,rfl⟩
theorem zbq(w:World)(b wb cap n:Nat)(l:List ByteArray)(next:Int)(hl:l.length=n+1)(hn:n≤8)(hw:WdIn w wb l)(h0:((l[0]'(by omega)).toList == [106,117,109,112])=false)(h1:((l[0]'(by omega)).toList == [108,101,115,115])=false)(h2:((l[0]'(by omega)).toList == [115,97,109,101])=false)(h3:((l[0]'(by omega)).toList == [99,97,108,108])=false)(h4:((l[0]'(by omega)).toList == [98,97,99,107])=false)(h5:((l[0]'(by omega)).toList == [115,116,111,112])=false):
  Calls Tryz.prog 89 #[.pointer (some ⟨b,0,none⟩),.slice (some ⟨wb,0,none⟩) (n+1) cap,.int .i64 next] w fun e w'=>e=.returned (.tuple #[.int .i64 next,.bool false])∧w'=w:=by
 have c0:=hw 0 (by omega)
 have cn:=hw n (by omega)
 generalize l[0]=x0 at c0 h0 h1 h2 h3 h4 h5
 generalize l[n]=xn at cn
 have hwrap:IntKind.i64.wrap (n:Int)=(n:Int):=zc8 _ (by omega) (by omega)
 have hf0:(0:Int)≤(n:Int):=by omega
 have hf1:(n:Int)<(n:Int)+1:=by omega
 have hf2:(0:Int)<(n:Int)+1:=by omega
 clear hw hl
 go_enter Tryz.func89,Tryz.ntmps89
 go_wp2
 go_ret2
 exact⟨rfl,rfl⟩
theorem zpK(w:World)(b wb cap:Nat)(lv bv iv ov:Value)(m:Mc)(next:Int)(h:RefM w b lv bv iv ov m)(hw:WdIn w wb [⟨#[115,116,111,112]⟩]):
  Calls Tryz.prog 89 #[.pointer (some ⟨b,0,none⟩),.slice (some ⟨wb,0,none⟩) 1 cap,.int .i64 next] w fun e w'=>e=.returned (.tuple #[.int .i64 (-1),.bool true])∧RefM w' b lv bv iv ov { m with fin:=1 }∧w.grownBy w' (some b):=by
 have c0:=hw 0 (by simp)
 simp only [List.getElem_cons_zero] at c0
 have hce:=h.cE
 have hfe:=h.fz 33
 go_enter Tryz.func89,Tryz.ntmps89
 go_wp2
 go_ret2
 exact⟨rfl,h.setE 1,zac (Below.refl _ _)⟩
theorem zhN(w:World)(b wb cap k:Nat)(lv bv iv ov:Value)(m:Mc)(x:ByteArray)(next:Int)(h:RefM w b lv bv iv ov m)(hat:m.at'=(k:Int))(hw:WdIn w wb [⟨#[99,97,108,108]⟩,x])(hf:m.frames=16):
  Calls Tryz.prog 89 #[.pointer (some ⟨b,0,none⟩),.slice (some ⟨wb,0,none⟩) 2 cap,.int .i64 next] w fun e w'=>e=.returned (.tuple #[.int .i64 (k:Int),.bool true])∧RefM w' b lv bv iv ov { m with fin:=4 }∧w.grownBy w' (some b):=by
 have c0:=hw 0 (by simp)
 have c1:=hw 1 (by simp)
 simp only [List.getElem_cons_zero,List.getElem_cons_succ] at c0 c1
 have hca:=h.cAt
 rw [hat] at hca
 have hcf:=h.cF
 rw [hf] at hcf
 have hce:=h.cE
 have hfe:=h.fz 33
 go_enter Tryz.func89,Tryz.ntmps89
 go_wp2
 go_ret2
 exact⟨rfl,h.setE 4,zac (Below.refl _ _)⟩
theorem ziE(w:World)(b wb cap:Nat)(lv bv iv ov:Value)(m:Mc)(next:Int)(h:RefM w b lv bv iv ov m)(hw:WdIn w wb [⟨#[98,97,99,107]⟩])(hf:m.frames=1):
  Calls Tryz.prog 89 #[.pointer (some ⟨b,0,none⟩),.slice (some ⟨wb,0,none⟩) 1 cap,.int .i64 next] w fun e w'=>e=.returned (.tuple #[.int .i64 (-1),.bool true])∧RefM w' b lv bv iv ov { m with frames:=0,fin:=2 }∧w.grownBy w' (some b):=by
 have c0:=hw 0 (by simp)
 simp only [List.getElem_cons_zero] at c0
 have hcf:=h.cF
 rw [hf] at hcf
 have hff:=h.fz 30
 have hce:=h.cE
 have hfe:=h.fz 33
 go_enter Tryz.func89,Tryz.ntmps89
 go_wp2
 go_ret2
 exact⟨rfl,(h.setF 0).setE 2,zae (zac (Below.refl _ _)) (zac (Below.refl _ _))⟩
theorem zjV(w:World)(b wb cap g c n f:Nat)(lv bv iv ov:Value)(m:Mc)(next to:Int)(l:List Int)(h:RefM w b lv bv iv ov m)(hw:WdIn w wb [⟨#[98,97,99,107]⟩])(hf:m.frames=(f:Int)+1)(hf0:0<f)(hf1:f≤16)(hbv:bv=.slice (some ⟨g,0,none⟩) (n+1) c)(hcg:w.cell? ⟨g,n,none⟩=some (.int .i64 to))(hgb:¬g=b)(hn:n≤16)(hc:n+1≤c):
  Calls Tryz.prog 89 #[.pointer (some ⟨b,0,none⟩),.slice (some ⟨wb,0,none⟩) 1 cap,.int .i64 next] w fun e w'=>e=.returned (.tuple #[.int .i64 to,.bool true])∧RefM w' b lv (.slice (some ⟨g,0,none⟩) n c) iv ov { m with frames:=m.frames-1,backs:=l }∧w.grownBy w' (some b):=by
 have c0:=hw 0 (by simp)
 simp only [List.getElem_cons_zero] at c0
 have hcf:=h.cF
 rw [hf] at hcf
 have hff:=h.fz 30
 have hcb:=h.cB
 rw [hbv] at hcb
 have hfb:=h.fz 2
 have hbg:¬b=g:=fun e=>hgb e.symm
 have hz:((f:Int) == 0)=false:=by simp;omega
 have hw1:IntKind.i64.wrap (f:Int)=(f:Int):=zc8 _ (by omega) (by omega)
 have hw2:IntKind.i64.wrap (n:Int)=(n:Int):=zc8 _ (by omega) (by omega)
 have hn0:(0:Int)≤(n:Int):=by omega
 have hn1:(n:Int)<(n:Int)+1:=by omega
 have h1:=h.setF (f:Int)
 have hg1:w.grownBy (w.setCell ⟨b,30,none⟩ (.int .i64 (f:Int))) (some b):=zac (Below.refl _ _)
 go_enter Tryz.func89,Tryz.ntmps89
 go_wp2_with fail
 have hcg1:(w.setCell ⟨b,30,none⟩ (.int .i64 (f:Int))).cell? ⟨g,n,none⟩=some (.int .i64 to):=(hg1.cell_far ⟨g,n,none⟩ (World.block_lt_of_cell? w _ hcg) (by simpa using hgb)).trans hcg
 clear hcf hff hcb hfb hcg c0 hw
 generalize w.setCell ⟨b,30,none⟩ (.int .i64 (f:Int))=w1 at h1 hg1 hcg1 ⊢
 have hcb:=h1.cB
 rw [hbv] at hcb
 go_quiet(fail)
 replace h1:=h1.drewN nq
 replace hg1:w.grownBy (w1.drewN nq) (some b):=⟨hg1.os,hg1.tape,hg1.output,hg1.size,hg1.block⟩
 clear hcb hcg1
 generalize w1.drewN nq=w2 at h1 hg1 ⊢
 have hcb:=h1.cB
 rw [hbv] at hcb
 have hfb:=h1.fz 2
 go_wp2_with fail
 refine zak 14 (by kernel_rfl) (by kernel_rfl) ?_
 simp only [List.take,List.drop]
 repeat(go_big_quiet_step (fail))
 refine wpQuiet_nil ?_
 rintro _ ⟨nr,rfl⟩
 go_wp2
 go_ret2
 have hR:=(h1.drewN nr).setB (.slice (some ⟨g,0,none⟩) n c) l
 have e:m.frames-1=(f:Int):=by omega
 rw [e]
 exact⟨rfl,hR,zae hg1 (zac (zaN _ _))⟩
end Go.Proofs.YtfpgjkbjbbgciaaGreatDoor
