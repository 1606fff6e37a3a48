import Derived.Test.YtfpgjkbjbbgciaaGreatDoorMf14
import Derived.Test.YtfpgjkbjbbgciaaGreatDoorMf15
import Derived.Test.YtfpgjkbjbbgciaaGreatDoorMf17
import Derived.Test.YtfpgjkbjbbgciaaGreatDoorMf18
set_option maxRecDepth 100000
set_option maxHeartbeats 8000000
namespace Go.Proofs.YtfpgjkbjbbgciaaGreatDoor
open Go.RowKit Sp
structure PAt (B : Nat) (w : World) (p pm : Nat) (v : Value) (F : List FnM) : Prop where
 pin : PIn B w pm v F
 var : w.heap[p]? = some (.cells #[v,.map (some pm)] 83 (0,0))
 low : B ≤ p
theorem PAt.cells {B : Nat} {w : World} {p pm : Nat} {v : Value} {F : List FnM} (h : PAt B w p pm v F) :
  w.cell? ⟨p,0,none⟩ = some v ∧ w.cell? ⟨p,1,none⟩ = some (.map (some pm)) ∧ w.frozen? ⟨p,0,none⟩ = false:=by
 refine ⟨?_,?_,frozen_of_row w p 0 _ _ h.var⟩
 ·rw [cell_of_row w p 0 _ _ _ h.var]; rfl
 ·rw [cell_of_row w p 1 _ _ _ h.var]; rfl
theorem PAt.of_blocks {B : Nat} {w w' : World} {p pm : Nat} {v : Value} {F : List FnM} (h : PAt B w p pm v F) (hb : ∀ b,B ≤ b → b < w.heap.size → w'.heap[b]? = w.heap[b]?) : PAt B w' p pm v F :=
 ⟨h.pin.of_blocks hb,(hb p h.low (Array.getElem?_eq_some_iff.1 h.var).1).trans h.var,h.low⟩
theorem PAt.drew {B : Nat} {w : World} {p pm : Nat} {v : Value} {F : List FnM} (h : PAt B w p pm v F) : PAt B w.drew p pm v F:=h.of_blocks fun _ _ _ => rfl
theorem PAt.alloc {B : Nat} {w : World} {p pm : Nat} {v : Value} {F : List FnM} (h : PAt B w p pm v F) (o : Obj) : PAt B (w.alloc o) p pm v F:=h.of_blocks fun _b _ hb => Below.heap_alloc _ _ _ hb
theorem zhp (F : List FnM) : (F.map FnM.fn).map Fn.name = F.map FnM.name:=by simp [FnM.fn]
theorem PAt.apart {B : Nat} {w : World} {p pm : Nat} {v : Value} {F : List FnM} (h : PAt B w p pm v F) : ¬ p = pm ∧ v.ownBlock ≠ some p:=by
 constructor
 ·intro e
  obtain ⟨em,cm,hem⟩:=zcZ h.pin.places
  have:=h.var
  rw [e,hem] at this; cases this
 ·intro e
  obtain ⟨c2,hc2⟩:=zbk h.pin.row e
  have:=h.var
  rw [hc2] at this; simp at this
theorem zpk {B : Nat} {w : World} {p pm : Nat} {v : Value} {F : List FnM} (h : PAt B w p pm v F) (i : It) (hs : i.sort = 0) (hbad : bad0 (F.map FnM.fn) i.key = true) (hn : F.length ≤ 4096) (hnm : i.nm.size ≤ 1048576) :
  Calls Tryz.prog 100 #[.pointer (some ⟨p,0,none⟩),stm i.sort i.line i.word i.a i.b i.c i.n i.nm] w fun e w' => e = zap 3 i.line ∧ Below w.heap.size w w':=by
 obtain ⟨c1,c2,c3⟩:=h.cells
 refine zni w B p pm F.length v (zb5 F) i (zaR F) c1 c2 h.pin.places h.pin.row hn hnm ?_
 unfold bad0 at hbad
 rw [if_pos (show i.key.sort = 0 from hs),zhp] at hbad
 rw [zb3]
 exact hbad
theorem zpl {B : Nat} {w : World} {p pm : Nat} {v : Value} {F : List FnM} (h : PAt B w p pm v F) (i : It) (hs : i.sort = 0) (hbad : bad0 (F.map FnM.fn) i.key = false) (hn : F.length ≤ 4096) (hnm : i.nm.size ≤ 1048576) (hB : B ≤ w.heap.size) :
  Calls Tryz.prog 100 #[.pointer (some ⟨p,0,none⟩),stm i.sort i.line i.word i.a i.b i.c i.n i.nm] w fun e w' => e = .returned (.tuple #[]) ∧
   ∃ v' F',PAt B w' p pm v' F' ∧ F'.map FnM.fn = addK (F.map FnM.fn) i.key ∧ F'.length ≤ F.length + 1 ∧ (∀ f ∈ F',f.its = [] ∨ ∃ f0 ∈ F,f0.its = f.its) ∧ Below B w w':=by
 obtain ⟨c1,c2,c3⟩:=h.cells
 obtain ⟨a1,a2⟩:=h.apart
 unfold bad0 at hbad
 rw [if_pos (show i.key.sort = 0 from hs),zhp] at hbad
 refine (znj w B p pm F.length v (zb5 F) i (zaR F) c1 c2 c3 h.pin.places h.pin.row a2 hB hn (by rw [zid]; exact hn) hnm (by rw [zb3]; exact hbad) a1).mono ?_
 rintro e w' ⟨rfl,g,cap,w1,w2,rfl,h1,h2,h3,h4,h5,h6,h7⟩
 obtain ⟨q1,q2,q3⟩:=h.pin.begun h.var h.low h1 h2 h3 h4 h5 h6 h7
 refine ⟨rfl,_,_,⟨q1,q3,h.low⟩,?_,by simp,?_,q2⟩
 ·rw [List.map_append,zbB _ _ (show i.key.sort = 0 from hs)]
  rfl
 ·intro f hf
  rw [List.mem_append] at hf
  rcases hf with hf | hf
  ·exact .inr ⟨f,hf,rfl⟩
  ·simp at hf; subst hf; exact .inl rfl
theorem PIn.last {B : Nat} {w : World} {pm : Nat} {v : Value} {F : List FnM} {f : FnM} (h : PIn B w pm v (F ++ [f])) :
  ∃ fg cap,v = .slice (some ⟨fg,0,none⟩) (F.length + 1) cap ∧ w.cell? ⟨fg,F.length * 4 + 2,none⟩ = some f.bv ∧ w.cell? ⟨fg,F.length * 4 + 3,none⟩ = some (.map (some f.m)) ∧ w.frozen? ⟨fg,F.length * 4 + 2,none⟩ = false ∧ f.bv.ownBlock ≠ some fg ∧ ¬ fg = f.m ∧ F.length + 1 ≤ cap:=by
 have hmem : f ∈ F ++ [f]:=by simp
 have hrow:=h.row
 have hlen : (F ++ [f]).length = F.length + 1:=by simp
 rw [hlen] at hrow
 obtain ⟨fg,cap,hv,_,_⟩:=hrow.form (by omega)
 subst hv
 obtain ⟨cr,hcr⟩:=zbk hrow (g:=fg) rfl
 obtain ⟨em,cm,hem⟩:=zcZ (h.labels f hmem)
 have c : ∀ j,j < 4 → w.cell? ⟨fg,F.length * 4 + j,none⟩ = f.cells[j]?:=fun j hj => by
  rw [World.ownsRow.cellAt hrow (F.length * 4 + j) (by omega),zgM (F ++ [f]) F.length (by simp) j hj]
  simp
 have hcap : F.length + 1 ≤ cap:=by
  rcases hrow.2 with ⟨h',_⟩ | ⟨g',cap',cur,h',_,_,hnc,_⟩
  ·simp at h'
  ·simp at h'; omega
 refine ⟨fg,cap,rfl,c 2 (by omega),c 3 (by omega),World.ownsRow.frozenAt hrow _,?_,?_,hcap⟩
 ·intro e
  obtain ⟨c2,hc2⟩:=zbk (h.bodies f hmem) e
  rw [hc2] at hcr; simp at hcr
 ·intro e; rw [e,hem] at hcr; cases hcr
theorem zie (n : Nat) (l : List It) : (zaG n l).length ≤ l.length:=by
 induction l generalizing n with
 | nil => simp [zaG]
 | cons i l ih =>
  rw [zbx]
  split
  ·have:=ih n; simp; omega
  ·have:=ih (n + 1); simp; omega
theorem zrG {B : Nat} {w : World} {p pm : Nat} {v : Value} {F : List FnM} {f : FnM} (h : PAt B w p pm v (F ++ [f])) (i : It) (hs : ¬ i.sort = 0) (hbad : bad0 ((F ++ [f]).map FnM.fn) i.key = true) (hn : f.its.length ≤ 4096) (hnm : i.nm.size ≤ 1048576) (fg cap : Nat) (hv : v = .slice (some ⟨fg,0,none⟩) (F.length + 1) cap) :
  Calls Tryz.prog 101 #[.pointer (some ⟨fg,F.length * 4,none⟩),stm i.sort i.line i.word i.a i.b i.c i.n i.nm] w fun e w' => e = zap 3 i.line ∧ Below w.heap.size w w':=by
 have hmem : f ∈ F ++ [f]:=by simp
 obtain ⟨fg',cap',hv',c1,c2,c3,c4,c5,c6⟩:=h.pin.last
 rw [hv] at hv'
 simp at hv'
 obtain ⟨rfl,rfl⟩:=hv'
 unfold bad0 at hbad
 rw [if_neg (show ¬ i.key.sort = 0 from hs)] at hbad
 by_cases h1 : i.sort = 1
 ·rw [if_pos (show i.key.sort = 1 from h1)] at hbad
  simp only [List.map_append,List.map_cons,List.map_nil,List.getLast?_append,List.getLast?_singleton,Option.some_or] at hbad
  exact zqN w B fg (F.length * 4) f.m f.bv (zaf f.its) i _ h1 c1 c2 (h.pin.labels f hmem) (h.pin.bodies f hmem) (Nat.le_trans (zc7 _) hn) hnm (by rw [zc1]; exact hbad)
 ·rw [if_neg (show ¬ i.key.sort = 1 from h1)] at hbad
  cases hbad
theorem zrH {B : Nat} {w : World} {p pm : Nat} {v : Value} {F : List FnM} {f : FnM} (h : PAt B w p pm v (F ++ [f])) (i : It) (hs : ¬ i.sort = 0) (hbad : bad0 ((F ++ [f]).map FnM.fn) i.key = false) (hn : f.its.length ≤ 4096) (hnm : i.nm.size ≤ 1048576) (hB : B ≤ w.heap.size) (fg cap : Nat) (hv : v = .slice (some ⟨fg,0,none⟩) (F.length + 1) cap) :
  Calls Tryz.prog 101 #[.pointer (some ⟨fg,F.length * 4,none⟩),stm i.sort i.line i.word i.a i.b i.c i.n i.nm] w fun e w' => e = .returned (.tuple #[]) ∧
   ∃ f',PAt B w' p pm v (F ++ [f']) ∧ (F ++ [f']).map FnM.fn = addK ((F ++ [f]).map FnM.fn) i.key ∧ f'.its = f.its ++ [i] ∧ Below B w w':=by
 have hmem : f ∈ F ++ [f]:=by simp
 obtain ⟨fg',cap',hv',c1,c2,c3,c4,c5,c6⟩:=h.pin.last
 rw [hv] at hv'
 simp at hv'
 obtain ⟨rfl,rfl⟩:=hv'
 have hpin:=h.pin
 have hadd : ∀ u : Value,(F ++ [(⟨f.name,f.line,f.its ++ [i],u,f.m⟩ : FnM)]).map FnM.fn = addK ((F ++ [f]).map FnM.fn) i.key:=by
  intro u
  rw [List.map_append,List.map_append]
  rw [show [f].map FnM.fn = [f.fn] from rfl,zep _ _ _ (show ¬ i.key.sort = 0 from hs)]
  simp [FnM.fn]
 unfold bad0 at hbad
 rw [if_neg (show ¬ i.key.sort = 0 from hs)] at hbad
 by_cases h1 : i.sort = 1
 ·rw [if_pos (show i.key.sort = 1 from h1)] at hbad
  simp only [List.map_append,List.map_cons,List.map_nil,List.getLast?_append,List.getLast?_singleton,Option.some_or] at hbad
  refine (zqO w B fg (F.length * 4) f.m f.bv (zaf f.its) i _ h1 c1 c2 (h.pin.labels f hmem) (h.pin.bodies f hmem) (Nat.le_trans (zc7 _) hn) (Nat.le_trans (zie _ _) hn) hnm (by rw [zc1]; exact hbad)).mono ?_
  rintro e w' ⟨rfl,h2,h3⟩
  obtain ⟨q1,q2,q3⟩:=hpin.labelled h1 h2 h3
  exact ⟨rfl,_,⟨q1,q3 p _ h.var,h.low⟩,hadd _,rfl,q2⟩
 ·refine (znh w B fg (F.length * 4) f.bv (zaf f.its) i h1 c1 c3 (h.pin.bodies f hmem) c4 hB (Nat.le_trans (zc7 _) hn)).mono ?_
  rintro e w' ⟨rfl,g,cap2,w1,rfl,h4,h5,h6⟩
  rw [hv] at hpin
  obtain ⟨q1,q2,q3⟩:=hpin.added h1 h4 h5 h6
  exact ⟨rfl,_,⟨by rw [hv]; exact q1,q3 p _ h.var,h.low⟩,hadd _,rfl,q2⟩
end Go.Proofs.YtfpgjkbjbbgciaaGreatDoor
namespace Go.Proofs.YtfpgjkbjbbgciaaGreatDoor
open Go.RowKit Sp
attribute [local go_sem ↓] Go.wp_at_zero Go.wp_at_succ
def ItOk (i : It) : Prop:=i.nm.size ≤ 1048576 ∧ (i.sort = 1 → i.word = ⟨#[]⟩)
def zpm (w : World) (K : List Key) : Ending → World → Prop:=fun e w' =>
 Below w.heap.size w w' ∧ ((∃ l,za5 [] K = some l ∧ e = zap 3 l) ∨
  (za5 [] K = none ∧ ∃ pm v F,e = .returned (.agg #[v,.map (some pm)]) ∧ PIn w.heap.size w' pm v F ∧ F.map FnM.fn = K.foldl addK [] ∧ F.length ≤ K.length ∧ ∀ f ∈ F,f.its.length ≤ K.length ∧ ∀ i ∈ f.its,ItOk i))
theorem PIn.mono {B B' : Nat} {w : World} {pm : Nat} {v : Value} {F : List FnM} (h : PIn B w pm v F) (hB : B' ≤ B) : PIn B' w pm v F :=
 ⟨zbu h.row hB,fun f hf => zbu (h.bodies f hf) hB,h.labels,h.places,fun f hf => Nat.le_trans hB (h.lowm f hf),Nat.le_trans hB h.lowp,h.pmNot,h.maps,h.rows⟩
theorem zl1 (K : List Key) (k : Nat) (h : k < K.length) : (K.take (k + 1)).foldl addK [] = addK ((K.take k).foldl addK []) K[k]:=by
 rw [List.take_succ_eq_append_getElem h,List.foldl_append]
 rfl
theorem zl2 (F : List Fn) (K : List Key) (k : Nat) (h : k < K.length) : za5 F (K.drop k) = if bad0 F K[k] = true then some K[k].line else za5 (addK F K[k]) (K.drop (k + 1)):=by
 rw [List.drop_eq_getElem_cons h]
 rfl
theorem zaA (w : World) (a : Obj) {w1 : World} (h : Below (w.alloc a).heap.size (w.alloc a) w1) : Below w.heap.size w w1 :=
 ((Below.refl w.heap.size w).alloc (Nat.le_refl _) a).trans (h.mono (by simp))
theorem zif {B : Nat} {w : World} (a : Obj) {w1 : World} (hB : B ≤ w.heap.size) (h : Below B (w.alloc a) w1) : Below B w w1 :=
 ((Below.refl B w).alloc hB a).trans h
theorem zqP (F : List FnM) (h : ¬ F = []) : ∃ F0 f,F = F0 ++ [f]:=⟨F.dropLast,F.getLast h,(List.dropLast_concat_getLast h).symm⟩
theorem zeI (x : Int) (h0 : 0 ≤ x) (h1 : x ≤ 1000000) : IntKind.i64.wrap x = x:=IntWalk.i64_in x (by omega)
abbrev W3 (w : World) : World:=((w.alloc (.cells #[.slice none 0 0,.map none] 83)).alloc (.map #[] 0)).alloc (.cells #[.slice none 0 0,.map (some (w.heap.size + 1))] 83)
theorem zig (w : World) (B0 : Nat) (v0 : Value) (its : List It) (hown0 : w.ownsRow B0 135 8 v0 its.length (zam its)) (hn : its.length ≤ 300) (hnm : ∀ i ∈ its,ItOk i) (hpos : 0 < its.length) (hfirst : Hid (its[0].sort = 0)) :
  Calls Tryz.prog 68 #[v0] w (zpm w (its.map It.key)):=by
 obtain ⟨g0,cap0,rfl,_,hg0,hcells⟩:=zeG hown0 hpos
 have hmk:=fun W => zqr W
 have hb3 : Below w.heap.size w (W3 w):=(((Below.refl _ _).alloc (Nat.le_refl _) _).alloc (by simp) _).alloc (by simp; omega) _
 have hz3 : (W3 w).heap.size = w.heap.size + 3:=by simp [W3]
 have hp3 : PAt (w.heap.size + 1) (W3 w) (w.heap.size + 1 + 1) (w.heap.size + 1) (.slice none 0 0) []:=by
  refine ⟨PIn.start _ _ _ ?_ (Nat.le_refl _),?_,by omega⟩
  ·have:=MapIs.made (w.alloc (.cells #[.slice none 0 0,.map none] 83))
   have:=this.alloc (.cells #[.slice none 0 0,.map (some (w.heap.size + 1))] 83)
   simpa using this
  ·have:=heap_alloc_new ((w.alloc (.cells #[.slice none 0 0,.map none] 83)).alloc (.map #[] 0)) (.cells #[.slice none 0 0,.map (some (w.heap.size + 1))] 83)
   simpa using this
 have hres3 : (W3 w).heap[w.heap.size]? = some (.cells #[.slice none 0 0,.map none] 83 (0,0)):=by
  rw [Below.heap_alloc _ _ _ (by simp; omega),Below.heap_alloc _ _ _ (by simp)]
  exact heap_alloc_new w _
 go_enter Tryz.func68,Tryz.ntmps68
 go_wp2
 change Code.wp _ _ _ _ (W3 w)
 generalize W3 w = W at hb3 hz3 hp3 hres3
 clear hmk
 go_loopw [10] (fun ti wr => ∃ (k : Nat) (v : Value) (F : List FnM),k ≤ its.length ∧ ti = .int .i64 (k : Int) ∧ PAt (w.heap.size + 1) wr (w.heap.size + 1 + 1) (w.heap.size + 1) v F ∧ F.map FnM.fn = ((its.map It.key).take k).foldl addK [] ∧ Below (w.heap.size + 1) W wr ∧ F.length ≤ k ∧ (∀ f ∈ F,f.its.length ≤ k) ∧ za5 [] (its.map It.key) = za5 (F.map FnM.fn) ((its.map It.key).drop k) ∧ (0 < k → ¬ F = []) ∧ (∀ f ∈ F,∀ i ∈ f.its,ItOk i)) (fun ti _ => its.length - (intOf ti).toNat)
 case atStart => exact ⟨0,_,[],by omega,rfl,hp3,rfl,Below.refl _ _,by simp,by simp,rfl,by simp,by simp⟩
 case round =>
  obtain ⟨k,v,F,hk,rfl,hpat,hF,hnx,hFl,hFi,hT,hF0,hFn⟩:=hrel
  have HF : Hid (F.map FnM.fn = ((its.map It.key).take k).foldl addK []):=hF
  have HT : Hid (za5 [] (its.map It.key) = za5 (F.map FnM.fn) ((its.map It.key).drop k)):=hT
  clear hF hT
  have hszr:=hnx.size
  have hbw : Below w.heap.size w wr:=hb3.trans (hnx.mono (by omega))
  by_cases hlt : k < its.length
  ·have hck:=hcells k hlt
   have hnk:=hnm its[k] (List.getElem_mem hlt)
   have hltK : k < (its.map It.key).length:=by simpa using hlt
   have HTD : Hid (za5 [] (its.map It.key) = if bad0 (F.map FnM.fn) its[k].key = true then some its[k].key.line else za5 (addK (F.map FnM.fn) its[k].key) ((its.map It.key).drop (k + 1))):=by
    unfold Hid; rw [HT.out,zl2 _ _ k hltK]; simp
   have HFD : Hid (((its.map It.key).take (k + 1)).foldl addK [] = addK (F.map FnM.fn) its[k].key):=by
    unfold Hid; rw [zl1 _ k hltK,← HF.out]; simp
   have H0 : Hid (¬ its[k].sort = 0 → ¬ F = []):=fun h => hF0 (by
    rcases Nat.eq_zero_or_pos k with e | e
    ·subst e; exact absurd hfirst.out h
    ·exact e)
   generalize its[k] = i at hck hnk HTD HFD H0
   obtain ⟨c0,c1,c2,c3,c4,c5,c6,c7⟩:=hck
   have z : ∀ j,wr.cell? ⟨g0,j,none⟩ = w.cell? ⟨g0,j,none⟩:=fun j => hbw.cell (p:=⟨g0,j,none⟩) hg0
   rw [← z] at c0 c1 c2 c3 c4 c5 c6 c7
   have hk8 : k * 8 ≤ 2400:=by omega
   clear z hF0
   by_cases hs : i.sort = 0
   ·cases hbad : bad0 (F.map FnM.fn) i.key with
    | true =>
     have HX : Hid (za5 [] (its.map It.key) = some i.line):=by unfold Hid; rw [HTD.out,hbad]; rfl
     have hcall:=zpk (hpat.alloc (.cells #[.int .i64 i.sort,.int .i64 i.line,.string i.word,.int .i64 i.a,.int .i64 i.b,.int .i64 i.c,.int .i64 i.n,.string i.nm] 135)) i hs hbad (by omega) hnk.1
     rw [hs] at hcall c0
     clear hbad hs
     go_wp2_with (go_at_call 100; refine hcall.mono ?_; rintro e w2 ⟨rfl,hb2⟩)
     exact ⟨rfl,hbw.trans ((zaA _ _ hb2).mono (by omega)),.inl ⟨_,HX.out,rfl⟩⟩
    | false =>
     have HX : Hid (za5 [] (its.map It.key) = za5 (addK (F.map FnM.fn) i.key) ((its.map It.key).drop (k + 1))):=by unfold Hid; rw [HTD.out,hbad]; rfl
     have hcall:=zpl (hpat.alloc (.cells #[.int .i64 i.sort,.int .i64 i.line,.string i.word,.int .i64 i.a,.int .i64 i.b,.int .i64 i.c,.int .i64 i.n,.string i.nm] 135)) i hs hbad (by omega) hnk.1 (by simp; omega)
     have HS : Hid (i.sort = 0):=hs
     rw [hs] at hcall c0
     clear hbad hs
     go_wp2_with (go_at_call 100; refine hcall.mono ?_; rintro e w2 ⟨rfl,v2,F2,hpat2,hF2,hl2,hi2,hb2⟩)
     have hb12:=hnx.trans (zif _ (by omega) hb2)
     clear hb2 hcall
     go_roundw
     case rel =>
      refine ⟨k + 1,v2,F2,by omega,by go_num,hpat2,by rw [HFD.out]; exact hF2,hb12,by omega,?_,by rw [hF2]; exact HX.out,?_,?_⟩
      ·intro f hf
       rcases hi2 f hf with e | ⟨f0,hf0,e⟩
       ·rw [e]; simp
       ·rw [← e]; have:=hFi f0 hf0; omega
      ·rintro _ rfl
       have:=HFD.out
       have h3:=hF2
       rw [zbB _ _ HS.out] at h3
       simp at h3
      ·intro f hf
       rcases hi2 f hf with e | ⟨f0,hf0,e⟩
       ·rw [e]; simp
       ·rw [← e]; exact hFn f0 hf0
     case measure => simp [intOf]; omega
   ·obtain ⟨F0,f,rfl⟩:=zqP F (H0.out hs)
    ·obtain ⟨fg,cap,rfl,_,_,_,_,_,hcap⟩:=hpat.pin.last
     have hfi:=hFi f (by simp)
     have hfl : F0.length + 1 ≤ 300:=by simp at hFl; omega
     have hpc:=(hpat.alloc (.cells #[.int .i64 i.sort,.int .i64 i.line,.string i.word,.int .i64 i.a,.int .i64 i.b,.int .i64 i.c,.int .i64 i.n,.string i.nm] 135)).cells.1
     have hs' : (i.sort == 0) = false:=by simpa using hs
     have hf4 : (0 : Int) ≤ (F0.length : Int):=by omega
     have hne1 : ¬ wr.heap.size = w.heap.size + 1 + 1:=by omega
     have hne2 : ¬ w.heap.size + 1 + 1 = wr.heap.size:=by omega
     have hwrap : IntKind.i64.wrap (F0.length : Int) = (F0.length : Int):=zeI _ (by omega) (by omega)
     have hf5 : (F0.length : Int) < (F0.length : Int) + 1:=by omega
     cases hbad : bad0 ((F0 ++ [f]).map FnM.fn) i.key with
     | true =>
      have HX : Hid (za5 [] (its.map It.key) = some i.line):=by unfold Hid; rw [HTD.out,hbad]; rfl
      have hcall:=zrG (hpat.alloc (.cells #[.int .i64 i.sort,.int .i64 i.line,.string i.word,.int .i64 i.a,.int .i64 i.b,.int .i64 i.c,.int .i64 i.n,.string i.nm] 135)).drew i hs hbad (by omega) hnk.1 fg cap rfl
      clear hbad hs
      go_wp2_with fail
      go_region_dies
      all_goals (go_at_call 101; refine hcall.mono ?_; rintro e w2 ⟨rfl,hb2⟩)
      all_goals exact ⟨rfl,hbw.trans ((zj4 _ _ hb2).mono (by omega)),.inl ⟨_,HX.out,rfl⟩⟩
     | false =>
      have HX : Hid (za5 [] (its.map It.key) = za5 (addK ((F0 ++ [f]).map FnM.fn) i.key) ((its.map It.key).drop (k + 1))):=by unfold Hid; rw [HTD.out,hbad]; rfl
      have hcall:=zrH (hpat.alloc (.cells #[.int .i64 i.sort,.int .i64 i.line,.string i.word,.int .i64 i.a,.int .i64 i.b,.int .i64 i.c,.int .i64 i.n,.string i.nm] 135)).drew i hs hbad (by omega) hnk.1 (by show w.heap.size + 1 ≤ (wr.alloc _).heap.size; simp; omega) fg cap rfl
      clear hbad hs
      go_wp2_with fail
      go_region_with (go_at_call 101; refine hcall.mono ?_; rintro e w2 ⟨rfl,f2,hpat2,hF2,hl2,hb2⟩)
      all_goals (
       have hb12:=hnx.trans (zif _ (by omega) ((((Below.refl (w.heap.size + 1) _).drew)).trans hb2))
       clear hb2 hcall
       go_wp2
       go_roundw
       case rel =>
        refine ⟨k + 1,_,F0 ++ [f2],by omega,by go_num,hpat2,by rw [HFD.out]; exact hF2,hb12,by simp at hFl ⊢; omega,?_,by rw [hF2]; exact HX.out,by simp,?_⟩
        ·intro f' hf'
         rw [List.mem_append] at hf'
         rcases hf' with hf' | hf'
         ·have:=hFi f' (by simp [hf']); omega
         ·simp at hf'; subst hf'; rw [hl2]; simp; omega
        ·intro f' hf' j hj
         rw [List.mem_append] at hf'
         rcases hf' with hf' | hf'
         ·exact hFn f' (by simp [hf']) j hj
         ·simp at hf'; subst hf'; rw [hl2,List.mem_append] at hj
          rcases hj with hj | hj
          ·exact hFn f (by simp) j hj
          ·simp at hj; subst hj; exact hnk
       case measure => simp [intOf]; omega)
  ·have HE : Hid (k = its.length):=by unfold Hid; omega
   obtain ⟨ao,capv,rfl⟩:=za9 hpat.pin.row
   obtain ⟨y0,y1,_⟩:=hpat.cells
   have hres : wr.heap[w.heap.size]? = some (.cells #[.slice none 0 0,.map none] 83 (0,0)):=(hnx.block _ (by omega)).trans hres3
   have r0 : wr.cell? ⟨w.heap.size,0,none⟩ = some (.slice none 0 0):=by rw [cell_of_row wr _ 0 _ _ _ hres]; rfl
   have r1 : wr.cell? ⟨w.heap.size,1,none⟩ = some (.map none):=by rw [cell_of_row wr _ 1 _ _ _ hres]; rfl
   have f0 : wr.frozen? ⟨w.heap.size,0,none⟩ = false:=frozen_of_row wr _ 0 _ _ hres
   have f1 : wr.frozen? ⟨w.heap.size,1,none⟩ = false:=frozen_of_row wr _ 1 _ _ hres
   clear hres
   go_wp2
   have q0:=World.cell?_setCell_same (wr.setCell ⟨w.heap.size,0,none⟩ (.slice ao F.length capv)) ⟨w.heap.size,1,none⟩ (.map (some (w.heap.size + 1))) (u:=.map none) (by rw [World.cell?_setCell_other]; exact r1; simp)
   have q1 : ((wr.setCell ⟨w.heap.size,0,none⟩ (.slice ao F.length capv)).setCell ⟨w.heap.size,1,none⟩ (.map (some (w.heap.size + 1)))).cell? ⟨w.heap.size,0,none⟩ = some (.slice ao F.length capv):=by
    rw [World.cell?_setCell_other]
    ·exact World.cell?_setCell_same wr _ _ r0
    ·simp
   have hb2 : Below w.heap.size w ((wr.setCell ⟨w.heap.size,0,none⟩ (.slice ao F.length capv)).setCell ⟨w.heap.size,1,none⟩ (.map (some (w.heap.size + 1)))):=(hbw.setCell (p:=⟨w.heap.size,0,none⟩) (Nat.le_refl _) _).setCell (p:=⟨w.heap.size,1,none⟩) (Nat.le_refl _) _
   have hpin2:=hpat.pin.of_blocks (w':=((wr.setCell ⟨w.heap.size,0,none⟩ (.slice ao F.length capv)).setCell ⟨w.heap.size,1,none⟩ (.map (some (w.heap.size + 1))))) (fun b hb _ => by rw [Below.heap_setCell _ _ _ _ (by show ¬ b = w.heap.size; omega),Below.heap_setCell _ _ _ _ (by show ¬ b = w.heap.size; omega)])
   refine bodyPost_ret (v:=.agg #[.slice ao F.length capv,.map (some (w.heap.size + 1))]) (by simp [results,Tryz.results68,go_sem,q0,q1]) rfl ⟨hb2,.inr ⟨?_,_,_,F,rfl,hpin2.mono (Nat.le_succ _),?_,?_,?_⟩⟩
   ·rw [HT.out,HE.out,List.drop_of_length_le (by simp)]; rfl
   ·rw [HF.out,HE.out,List.take_of_length_le (by simp)]
   ·have:=HE.out; simp; omega
   ·intro f hf
    refine ⟨?_,hFn f hf⟩
    have:=hFi f hf; simp; omega
end Go.Proofs.YtfpgjkbjbbgciaaGreatDoor
namespace Go.Proofs.YtfpgjkbjbbgciaaGreatDoor
open Go.RowKit Sp
theorem PIn.fns {B : Nat} {w : World} {pm : Nat} {v : Value} {F : List FnM} (h : PIn B w pm v F) (hF : 0 < F.length) :
  ∃ fg cap,v = .slice (some ⟨fg,0,none⟩) F.length cap ∧ fg < w.heap.size ∧ F.length ≤ cap ∧ ∀ k (hk : k < F.length),
   w.cell? ⟨fg,k * 4,none⟩ = some (.string F[k].name) ∧ w.cell? ⟨fg,k * 4 + 1,none⟩ = some (.int .i64 F[k].line) ∧ w.cell? ⟨fg,k * 4 + 2,none⟩ = some F[k].bv ∧ w.cell? ⟨fg,k * 4 + 3,none⟩ = some (.map (some F[k].m)):=by
 have hrow:=h.row
 obtain ⟨fg,cap,hv,_,hlt⟩:=hrow.form hF
 subst hv
 have hcap : F.length ≤ cap:=by
  rcases hrow.2 with ⟨h',_⟩ | ⟨g',cap',cur,h',_,_,hnc,_⟩
  ·simp at h'
  ·simp at h'; omega
 refine ⟨fg,cap,rfl,hlt,hcap,fun k hk => ?_⟩
 have c : ∀ j,j < 4 → w.cell? ⟨fg,k * 4 + j,none⟩ = F[k].cells[j]?:=fun j hj => by
  rw [World.ownsRow.cellAt hrow (k * 4 + j) (by omega),zgM F k hk j hj]
 exact ⟨c 0 (by omega),c 1 (by omega),c 2 (by omega),c 3 (by omega)⟩
def zqQ (w : World) (F : List Fn) : Ending → World → Prop:=fun e w' =>
 Below w.heap.size w w' ∧ ((∃ l,endK F = some l ∧ e = zap 5 l) ∨ (endK F = none ∧ e = .returned (.tuple #[])))
theorem znn (F : List Fn) (k : Nat) (h : k < F.length) : endK (F.drop k) = if zlw F[k].body = true then endK (F.drop (k + 1)) else some F[k].line:=by
 rw [List.drop_eq_getElem_cons h]
 rfl
theorem zk1 {wr w2 : World} {a b c d : Value} (hb : Below (wr.alloc (.cells #[a,b,c,d] 131)).heap.size (wr.alloc (.cells #[a,b,c,d] 131)) w2) :
  w2.cell? ⟨wr.heap.size,1,none⟩ = some b ∧ w2.cell? ⟨wr.heap.size,2,none⟩ = some c ∧ w2.cell? ⟨wr.heap.size,3,none⟩ = some d:=by
 have h:=World.cell?_alloc_new (w:=wr) #[a,b,c,d] 131
 refine ⟨?_,?_,?_⟩
 ·rw [hb.cell (by simp)]; exact h 1
 ·rw [hb.cell (by simp)]; exact h 2
 ·rw [hb.cell (by simp)]; exact h 3
theorem zl3 (b : List Key) (k : Key) : zlw (b ++ [k]) = ends k.word:=by simp [zlw]
def zcF (its : List It) : Bool:=match its.getLast? with | none => false | some i => ends i.word
theorem zes (I : List It) (i : It) : zcF (I ++ [i]) = ends i.word:=by simp [zcF]
def zno (its : List It) : Bool:=(zb1 its).all (fun p => !decide (p.2 = (zaf its).length)) && zcF (zaf its)
theorem zj6 (n : Nat) (l : List It) : ∀ p ∈ zaG n l,p.2 ≤ n + (zaf l).length:=by
 induction l generalizing n with
 | nil => simp [zaG]
 | cons i l ih =>
  intro p hp
  rw [zbx] at hp
  by_cases h : i.sort = 1
  ·rw [if_pos h] at hp
   rw [show zaf (i :: l) = zaf l by simp [zaf,h]]
   simp only [List.mem_cons] at hp
   rcases hp with rfl | hp
   ·show n ≤ _; omega
   ·exact ih n p hp
  ·rw [if_neg h] at hp
   rw [show zaf (i :: l) = i :: zaf l by simp [zaf,h]]
   have:=ih (n + 1) p hp
   simp; omega
theorem zl4 : ends ⟨#[]⟩ = false:=by kernel_rfl
theorem zpo (its : List It) (hl : ∀ i ∈ its,ItOk i) : zno its = zlw (its.map It.key):=by
 rcases List.eq_nil_or_concat its with rfl | ⟨I,i,hI⟩
 ·rfl
 ·rw [List.concat_eq_append] at hI
  subst hI
  rw [List.map_append,show [i].map It.key = [i.key] from rfl,zl3]
  unfold zno
  by_cases h : i.sort = 1
  ·rw [show i.key.word = ⟨#[]⟩ from (hl i (by simp)).2 h,zl4,zgK _ _ h,zic _ _ h]
   simp
  ·rw [zgL _ _ h,zib _ _ h]
   have : (zb1 I).all (fun p => !decide (p.2 = (zaf I ++ [i]).length)) = true:=by
    rw [List.all_eq_true]
    intro p hp
    have:=zj6 0 I p hp
    simp; omega
   rw [this,zes]
   simp [It.key]
theorem znp (E : List (ByteArray × Nat)) (x : ByteArray) (p : Nat) (h : zbc E x = some p) : ∃ q ∈ E,q.2 = p ∧ eqW q.1 x = true:=by
 induction E with
 | nil => cases h
 | cons q r ih =>
  unfold zbc at h
  by_cases e : eqW q.1 x = true
  ·rw [if_pos e] at h
   simp only [Option.some.injEq] at h
   exact ⟨q,by simp,h,e⟩
  ·rw [if_neg e] at h
   obtain ⟨q',h1,h2⟩:=ih h
   exact ⟨q',by simp [h1],h2⟩
theorem zl5 (E : List (ByteArray × Nat)) (hp : E.Pairwise (fun a b => eqW a.1 b.1 = false)) (x : ByteArray) (p : Nat) (h : zbc E x = some p) (q : ByteArray × Nat) (hq : q ∈ E) (hx : eqW q.1 x = true) : q.2 = p:=by
 induction E with
 | nil => cases hq
 | cons a r ih =>
  obtain ⟨h1,h2⟩:=List.pairwise_cons.1 hp
  unfold zbc at h
  simp only [List.mem_cons] at hq
  by_cases e : eqW a.1 x = true
  ·rw [if_pos e] at h
   simp only [Option.some.injEq] at h
   rcases hq with rfl | hq
   ·exact h
   ·have:=h1 q hq
    have e1:=(zcD _ _).1 e
    have e2:=(zcD _ _).1 hx
    have : eqW a.1 q.1 = true:=(zcD _ _).2 (e1.trans e2.symm)
    simp_all
  ·rw [if_neg e] at h
   rcases hq with rfl | hq
   ·exact absurd hx e
   ·exact ih h2 h hq
theorem zj7 (E : List (ByteArray × Nat)) (n : Nat) (h : ∀ p ∈ E,¬ p.2 = n) : E.all (fun p => !decide (p.2 = n)) = true:=by
 rw [List.all_eq_true]
 intro p hp
 simpa using h p hp
theorem zj8 (E : List (ByteArray × Nat)) (n : Nat) (p : ByteArray × Nat) (hp : p ∈ E) (h : p.2 = n) : E.all (fun p => !decide (p.2 = n)) = false:=by
 rw [List.all_eq_false]
 exact ⟨p,hp,by simpa using h⟩
end Go.Proofs.YtfpgjkbjbbgciaaGreatDoor
