import Derived.Test.YtfpgjkbjbbgciaaGreatDoorMk26
import Derived.Test.YtfpgjkbjbbgciaaGreatDoorMk28
import Derived.Test.YtfpgjkbjbbgciaaGreatDoorMk33
import Derived.Test.YtfpgjkbjbbgciaaGreatDoorMk34
import Derived.Test.YtfpgjkbjbbgciaaGreatDoorMk35
set_option maxRecDepth 100000
set_option maxHeartbeats 8000000
namespace Go.Proofs.YtfpgjkbjbbgciaaGreatDoor
section
open Go.RowKit Sp
theorem zuu{l r:Rg}(hl:l.Ok)(hr:r.Ok)(h:zdl l r=none)(h':zaD l r=none):False:=by
 unfold Rg.Ok at hl hr;unfold zdl at h;unfold zaD at h';split at h
 ·split at h'
  ·omega
  ·cases h'
 ·cases h
theorem zuv{l r:Rg}(h:zex l r=none)(h':zbd l r=none):False:=by
 unfold zex at h;unfold zbd at h';split at h
 ·cases h
 ·split at h'
  ·omega
  ·cases h'
theorem zmC{w:World}{b:Nat}{bv:Value}{k:Kn}(h:KnM w b bv k)(hbv:bv.oneCell'=true)(K:KnOk k)(l r:Nat)(hl:l<8)(hr:r<8)(hne:¬l=r)(z:Int)(h0:0≤k.steps)(h1:k.steps≤100000)(n0:0≤k.next)(n1:k.next≤100000):
  Calls Tryz.prog 270 #[.pointer (some ⟨b,0,none⟩),.int .i64 (l:Int),.int .i64 (r:Int),.func (.func 271) #[] #[],.func (.func 272) #[] #[],.int .i64 z] w (zc5 w b bv (zaX k l r zdl zaD z)):=by
 have a:=fun(q:Option (Rg × Rg)) (hq:zdl (k.regs l) (k.regs r)=q) W b2 (hk:KnM W b2 bv k)=>zp7 (F:=271) (fun _ _=>by kernel_rfl) hk l r hl hr hne q (fun W=>by rw [←hq];exact zwI _ _ W (K.regs l hl) (K.regs r hr));have c:=fun(q:Option (Rg × Rg)) (hq:zaD (k.regs l) (k.regs r)=q) W b2 (hk:KnM W b2 bv k)=>zp7 (F:=272) (fun _ _=>by kernel_rfl) hk l r hl hr hne q (fun W=>by rw [←hq];exact zog _ _ W);unfold zaX;cases hh:zdl (k.regs l) (k.regs r) with
 | none=>cases hf:zaD (k.regs l) (k.regs r) with
  | none=>exact(zuu (K.regs l hl) (K.regs r hr) hh hf).elim
  | some p=>obtain⟨x,y⟩:=p;exact ziM h hbv l r z x y (a _ hh) (c _ hf) h0 h1 n0 n1
 | some p =>
  obtain⟨x,y⟩:=p;cases hf:zaD (k.regs l) (k.regs r) with
  | none=>exact ziL h hbv l r z x y (a _ hh) (c _ hf) h0 h1
  | some p=>obtain⟨d,e⟩:=p;exact ziN h hbv l r z x y d e (a _ hh) (c _ hf) h0 h1 n0 n1
theorem zmD{w:World}{b:Nat}{bv:Value}{k:Kn}(h:KnM w b bv k)(hbv:bv.oneCell'=true)(K:KnOk k)(l r:Nat)(hl:l<8)(hr:r<8)(hne:¬l=r)(z:Int)(h0:0≤k.steps)(h1:k.steps≤100000)(n0:0≤k.next)(n1:k.next≤100000):
  Calls Tryz.prog 270 #[.pointer (some ⟨b,0,none⟩),.int .i64 (l:Int),.int .i64 (r:Int),.func (.func 276) #[] #[],.func (.func 277) #[] #[],.int .i64 z] w (zc5 w b bv (zaX k l r zex zbd z)):=by
 have a:=fun(q:Option (Rg × Rg)) (hq:zex (k.regs l) (k.regs r)=q) W b2 (hk:KnM W b2 bv k)=>zp7 (F:=276) (fun _ _=>by kernel_rfl) hk l r hl hr hne q (fun W=>by rw [←hq];exact zxd _ _ W);have c:=fun(q:Option (Rg × Rg)) (hq:zbd (k.regs l) (k.regs r)=q) W b2 (hk:KnM W b2 bv k)=>zp7 (F:=277) (fun _ _=>by kernel_rfl) hk l r hl hr hne q (fun W=>by rw [←hq];exact zo1 _ _ W (K.regs l hl) (K.regs r hr));unfold zaX;cases hh:zex (k.regs l) (k.regs r) with
 | none=>cases hf:zbd (k.regs l) (k.regs r) with
  | none=>exact(zuv hh hf).elim
  | some p=>obtain⟨x,y⟩:=p;exact ziM h hbv l r z x y (a _ hh) (c _ hf) h0 h1 n0 n1
 | some p =>
  obtain⟨x,y⟩:=p;cases hf:zbd (k.regs l) (k.regs r) with
  | none=>exact ziL h hbv l r z x y (a _ hh) (c _ hf) h0 h1
  | some p=>obtain⟨d,e⟩:=p;exact ziN h hbv l r z x y d e (a _ hh) (c _ hf) h0 h1 n0 n1
theorem zmk{fn:Func}{a b c:Tmp}{w X:World}{T:Told}{ao:Option Addr}{no co:Nat}{act:Act}(pr:Nat)(hpr:w.heap.size≤pr)(hr3:fn.results=#[.cell a 34,.tmp b,.tmp c])(ds:List Value)(hds:zaH T.m (.slice ao no co) T.at_=ds)(ht:X.there pr 0 ds.toArray.size)(hb:Below w.heap.size w X)(how:X.ownsRow w.heap.size 2 1 (.slice ao no co) T.m.out.length (i64s T.m.out))
  (hne:∀ q,(Value.slice ao no co).ownBlock=some q→¬q=pr)
  (hp:act.tmps.getD a undef=.pointer (some ⟨pr,0,none⟩)) (h1:act.tmps.getD b undef=.int .i64 T.err) (h2:act.tmps.getD c undef=.int .i64 T.line) (hd:act.defers=[]) :
  bodyPost Tryz.prog fn (zdk w T) .ret act (X.setCells pr 0 ds):=by
 have hl:ds.length=30:=by rw [←hds];exact zbF _ _ _
 have f:Tryz.prog.underlying 34=some (.struct _):=Tryz.underlying34;have g:=World.rangeAt_setCells_same X pr 0 ds (by rw [show ds.length=ds.toArray.size by simp];exact ht);have e:=run_loadVar_mid (X.setCells pr 0 ds) pr 0 34 ds _ g f rfl (by rw [hl];exact Tryz.info34);have d:=zky hr3 act.tmps ⟨pr,0,none⟩ hp e;rw [h1,h2] at d;refine bodyPost_ret d hd ⟨ao,no,co,by rw [hds],?_,za8 ds 0 hb hpr⟩;exact zaj how (fun q hq=>zbG ds X _ _ _ (hne q hq))
theorem zeJ(w:World):Below w.heap.size w (OutW w):=((Below.refl _ _).alloc (Nat.le_refl _) _).alloc (by simp) _
theorem zoa{w w':World}{B b o:Nat}{cs:List Value}(h:w.rangeAt b o cs)(hb:Below B w w')(hB:b<B):w'.rangeAt b o cs:=fun j u hj=>(hb.cell (p:=⟨b,o+j,none⟩) hB).trans (h j u hj)
theorem zob{w w':World}{b o:Nat}{cs:List Value}(h:w.rangeAt b o cs)(e:w'.heap[b]?=w.heap[b]?):w'.rangeAt b o cs:=fun j u hj=>(World.cell?_of_block (w:=w) (a:=⟨b,o+j,none⟩) e).trans (h j u hj)
theorem zoc{w w':World}{b o n:Nat}(h:w.there b o n)(e:w'.heap[b]?=w.heap[b]?):w'.there b o n:=fun j hj=>by
 obtain⟨h1,h2⟩:=h j hj;exact⟨by rw [World.cell?_of_block (w:=w) (a:=⟨b,o+j,none⟩) e];exact h1,by rw [World.frozen?_of_block (w:=w) (a:=⟨b,o+j,none⟩) e];exact h2⟩
theorem zqY{W w1:World}{pr:Nat}{m:Mc}{line:Int}(hpr:pr<W.heap.size)(h:ztA (OutW W) pr m line w1):
  w1.cell? ⟨W.heap.size,0,none⟩=some (.int .i64 0)∧w1.cell? ⟨W.heap.size+1,0,none⟩=some (.int .i64 0)∧w1.frozen? ⟨W.heap.size,0,none⟩=false∧w1.frozen? ⟨W.heap.size+1,0,none⟩=false:=by
 obtain⟨b,c,i,d,rfl,g,_⟩:=h;have hs:(OutW W).heap.size=W.heap.size+1+1:=by simp
 have e:(b.setCells pr 0 (zaH m (.slice c i d) line)).heap[W.heap.size]?=(OutW W).heap[W.heap.size]?:=(zbG _ b pr 0 _ (by omega)).trans (g.block _ (by omega));have f:(b.setCells pr 0 (zaH m (.slice c i d) line)).heap[W.heap.size+1]?=(OutW W).heap[W.heap.size+1]?:=(zbG _ b pr 0 _ (by omega)).trans (g.block _ (by omega));refine⟨?_,?_,?_,?_⟩
 ·rw [World.cell?_of_block (w:=OutW W) (a:=⟨W.heap.size,0,none⟩) e];simp [OutW]
 ·rw [World.cell?_of_block (w:=OutW W) (a:=⟨W.heap.size+1,0,none⟩) f];simp [OutW]
 ·rw [World.frozen?_of_block (w:=OutW W) (a:=⟨W.heap.size,0,none⟩) e];simp [OutW]
 ·rw [World.frozen?_of_block (w:=OutW W) (a:=⟨W.heap.size+1,0,none⟩) f];simp [OutW]
theorem ziZ{w:World}{b:Nat}{bv:Value}{k:Kn}(h:KnM w b bv k)(r:Nat)(z:Int)(h0:0≤k.steps)(h1:k.steps≤100000)(n0:0≤k.next)(n1:k.next≤100000):
  Calls Tryz.prog 268 #[.agg #[.int .i64 (r:Int),.int .i64 (r:Int),.int .i64 z],.pointer (some ⟨b,0,none⟩)] w (zaO w b bv (k.goTo (k.next+1))):=by
 have f:=h.alloc (.cells #[.int .i64 (r:Int),.int .i64 (r:Int),.int .i64 z] 187);go_enter Tryz.func268,Tryz.ntmps268;go_wp2_with(go_at_call 227;(with_reducible refine(zbW f h0 h1 n0 n1).mono ?_);intro e w6 a;have d:=zcN (zaK (b:=some b) box1) a;clear a;obtain⟨g,rfl,j,i,l,c⟩:=d)
 go_ret;exact⟨g,rfl,j,i,l,c⟩
theorem zja{w:World}{b:Nat}{bv:Value}{k:Kn}(h:KnM w b bv k)(r:Nat)(z:Int)(h0:0≤k.steps)(h1:k.steps≤100000):
  Calls Tryz.prog 275 #[.agg #[.int .i64 (r:Int),.int .i64 (r:Int),.int .i64 z],.pointer (some ⟨b,0,none⟩)] w (zaO w b bv (k.goTo z)):=by
 have f:=h.alloc (.cells #[.int .i64 (r:Int),.int .i64 (r:Int),.int .i64 z] 188);go_enter Tryz.func275,Tryz.ntmps275;go_wp2_with(go_at_call 229;(with_reducible refine(zfZ f z h0 h1).mono ?_);intro e w6 a;have d:=zcN (zaK (b:=some b) box1) a;clear a;obtain⟨g,rfl,j,i,l,c⟩:=d)
 go_ret;exact⟨g,rfl,j,i,l,c⟩
theorem zhw{w:World}{b:Nat}{bv:Value}{k:Kn}(h:KnM w b bv k)(hbv:bv.oneCell'=true)(K:KnOk k)(l r:Nat)(hl:l<8)(hr:r<8)(hne:¬l=r)(z:Int)(h0:0≤k.steps)(h1:k.steps≤100000)(n0:0≤k.next)(n1:k.next≤100000):
  Calls Tryz.prog 268 #[.agg #[.int .i64 (l:Int),.int .i64 (r:Int),.int .i64 z],.pointer (some ⟨b,0,none⟩)] w (zc5 w b bv (zaX k l r zdl zaD z)):=by
 have g:=h.alloc (.cells #[.int .i64 (l:Int),.int .i64 (r:Int),.int .i64 z] 187);have t0:((l:Int) == (r:Int))=false:=by simpa using (by omega:¬(l:Int)=(r:Int))
 go_enter Tryz.func268,Tryz.ntmps268;go_wp2_with(go_at_call 270;(with_reducible refine(zmC g hbv K l r hl hr hne z h0 h1 n0 n1).mono ?_);intro e w6 a;have d:=zkj (zaK (b:=some b) box1) a;clear a;obtain⟨f,c,i,rfl,A⟩:=d)
 go_ret;exact⟨f,c,i,rfl,A⟩
theorem zhx{w:World}{b:Nat}{bv:Value}{k:Kn}(h:KnM w b bv k)(hbv:bv.oneCell'=true)(K:KnOk k)(l r:Nat)(hl:l<8)(hr:r<8)(hne:¬l=r)(z:Int)(h0:0≤k.steps)(h1:k.steps≤100000)(n0:0≤k.next)(n1:k.next≤100000):
  Calls Tryz.prog 275 #[.agg #[.int .i64 (l:Int),.int .i64 (r:Int),.int .i64 z],.pointer (some ⟨b,0,none⟩)] w (zc5 w b bv (zaX k l r zex zbd z)):=by
 have g:=h.alloc (.cells #[.int .i64 (l:Int),.int .i64 (r:Int),.int .i64 z] 188);have t0:((l:Int) == (r:Int))=false:=by simpa using (by omega:¬(l:Int)=(r:Int))
 go_enter Tryz.func275,Tryz.ntmps275;go_wp2_with(go_at_call 270;(with_reducible refine(zmD g hbv K l r hl hr hne z h0 h1 n0 n1).mono ?_);intro e w6 a;have d:=zkj (zaK (b:=some b) box1) a;clear a;obtain⟨f,c,i,rfl,A⟩:=d)
 go_ret;exact⟨f,c,i,rfl,A⟩
end
section
open Go.RowKit Sp
attribute [local go_sem ↓] Go.wp_at_zero Go.wp_at_succ
def wrL(px:Nat)(most:Int)(kv:Value):List Value:=[.pointer (some ⟨px,0,none⟩),.slice none 0 0,.int .i64 0,.bool false,.bool false,.bool false,.bool false,.bool false,.bool false,.bool false,.bool false,.slice none 0 0,.bool false,.bool false,.bool false,.bool false,.bool false,.bool false,.bool false,.bool false,.int .i64 0,.int .i64 most,.int .i64 1,kv]
def wrV(px:Nat)(most:Int)(kv:Value):Nat→Value:=fun j=>((wrL px most kv)[j]?).getD kv
theorem zyg{w:World}{q:Nat}{c:Array Value}{t:TypeId}(h:w.heap[q]?=some (.cells c t (0,0)))(j:Nat):w.frozen? ⟨q,j,none⟩=false:=by
 exact frozen_of_row w q j c t h
theorem DiM.new{w:World}{cv:Value}{code:List Int}(hc:SlB w w.heap.size cv code)(hl:code.length≤9223372036854775807)(hn:∀ x∈code,i64 x):DiM w.heap.size (w.alloc (.cells #[cv,.int .i64 0] 76)) w.heap.size cv code 0:=by
 have b:Below w.heap.size w (w.alloc (.cells #[cv,.int .i64 0] 76)):=(Below.refl _ _).alloc (Nat.le_refl _) _;have a:(w.alloc (.cells #[cv,.int .i64 0] 76)).heap[w.heap.size]?=some (.cells #[cv,.int .i64 0] 76 (0,0)):=heap_alloc_new w _;refine⟨by rw [cell_of_row _ _ 0 _ _ _ a];rfl,hc.below b,by rw [cell_of_row _ _ 1 _ _ _ a];rfl,Nat.zero_le _,fun j=>?_,hl,hn,Nat.le_refl _,⟨_,a⟩⟩;exact zyg a j
theorem WrM.new{B:Nat}{w:World}{px:Nat}{cv:Value}{code:List Int}{k nk:Nat}{fs:Nat→Fw}{kv:Value}{most:Int}(hd:DiM B w px cv code k)(hk:KnRow B w kv nk fs):
  WrM B (w.alloc (.cells (wrL px most kv).toArray 109)) w.heap.size px cv code ⟨[],0,fun _=>false,[],0,most,nk,fs⟩ k (wrV px most kv):=by
 have f:=hd.lt;have hB:=hd.hB;have d:Below w.heap.size w (w.alloc (.cells (wrL px most kv).toArray 109)):=(Below.refl _ _).alloc (Nat.le_refl _) _;have e:(w.alloc (.cells (wrL px most kv).toArray 109)).heap[w.heap.size]?=some (.cells (wrL px most kv).toArray 109 (0,0)):=heap_alloc_new w _;refine⟨⟨hd.block (d.mono (by omega)) (d.block px f),fun j hj=>?_,fun j=>zyg e j,⟨_,e⟩,by omega⟩,rfl,World.ownsRow_nil _ _ _ _,rfl,fun i hi=>?_,World.ownsRow_nil _ _ _ _,(fun c hc=>(by cases hc)),fun i hi=>?_,rfl,rfl,⟨1,rfl,by omega⟩,?_⟩
 ·rw [cell_of_row _ _ j _ _ _ e];unfold wrV;have hlen:(wrL px most kv).length=24:=rfl;rw [List.getElem?_toArray,List.getElem?_eq_getElem (by omega)];rfl
 ·have b:i=0∨i=1∨i=2∨i=3∨i=4∨i=5∨i=6∨i=7:=by omega
  rcases b with rfl|rfl|rfl|rfl|rfl|rfl|rfl|rfl <;> rfl
 ·have b:i=0∨i=1∨i=2∨i=3∨i=4∨i=5∨i=6∨i=7:=by omega
  rcases b with rfl|rfl|rfl|rfl|rfl|rfl|rfl|rfl <;> exact⟨false,rfl⟩
 ·obtain⟨m,h,l⟩:=hk;refine⟨m,zaj h (fun g hg=>d.block g (h.lt g hg).2),l⟩
theorem KnRow.nil(B:Nat)(w:World)(fs:Nat→Fw):KnRow B w (.slice none 0 0) 0 fs:=⟨[],World.ownsRow_nil _ _ _ _,fun j hj=>by omega⟩
end
section
open Go.RowKit Sp
def insL:Ins→Nat
 | .set _ _=>224|.mov _ _=>231|.alu o _ _ _=>if o=0 then 233 else if o=1 then 240 else 244|.inc _ _=>250|.load _ _=>252|.store _ _=>257
 | .read _=>260|.write _=>263|.jump _=>266|.less _ _ _=>268|.same _ _ _=>275|.call _=>280|.back=>285|.stop=>289
def zdI(w:World)(b:Nat)(ao:Option Addr):Option (List Kn)→Ending→World→Prop
 | none=>fun e w'=>e=zak 8 0∧w.grownBy w' (some b)
 | some ks=>fun e w'=>∃(so:Option Addr) (sc:Nat) (ps:List Nat) (ao':Option Addr) (cap' n':Nat),e=.returned (.slice so ps.length sc)∧WaysAt w w' b (.slice ao' n' cap') ks so ps∧(∀ k'∈ks,n'=k'.behind.length∧BhM w' ao' cap' k'.behind)∧(ao'=ao∨∀ a,ao'=some a→w.heap.size≤a.block)∧∀ p∈ps,∀ a,ao'=some a→¬a.block=p
theorem zjb{w:World}{b f:Nat}{ao:Option Addr}{args:Array Value}(h:Calls Tryz.prog f args w fun e w'=>e=zak 8 0∧Below w.heap.size w w'):Calls Tryz.prog f args w (zdI w b ao none) :=
 h.mono fun _ _ hh=>⟨hh.1,zaK hh.2⟩
theorem zkT{w:World}{b f cap:Nat}{ao:Option Addr}{args:Array Value}{l:List Int}{ks:List Kn}(_hlt:b<w.heap.size)(B:BhM w ao cap l)(ap:∀ a,ao=some a→¬a.block=b)(hks:∀ k'∈ks,k'.behind=l)(h:Calls Tryz.prog f args w (zc5 w b (.slice ao l.length cap) ks)):Calls Tryz.prog f args w (zdI w b ao (some ks)):=by
 refine h.mono ?_;rintro e w' ⟨i,d,c,rfl,A⟩;refine⟨i,d,c,ao,cap,l.length,rfl,A,fun k' hk'=>?_,.inl rfl,fun p hp a ha=>?_⟩
 ·rw [hks k' hk'];exact⟨rfl,B.grown A.grown ap⟩
 ·obtain⟨g,rfl⟩:=B.at0 a ha;rcases A.from' p hp with e|e
  ·rw [e];exact ap _ ha
  ·have:=(B.cell g ha).1;show ¬g=p;omega
theorem zb0{w:World}{b f cap:Nat}{ao:Option Addr}{args:Array Value}{l:List Int}{k':Kn}(hlt:b<w.heap.size)(B:BhM w ao cap l)(ap:∀ a,ao=some a→¬a.block=b)(hk:k'.behind=l)(h:Calls Tryz.prog f args w (zaO w b (.slice ao l.length cap) k')):Calls Tryz.prog f args w (zdI w b ao (some [k'])) :=
 zkT hlt B ap (fun x hx=>by rw [List.mem_singleton.1 hx];exact hk) (h.mono fun _ _ hh=>zkL hh)
theorem zmE{w:World}{b f:Nat}{ao:Option Addr}{args:Array Value}(h:Calls Tryz.prog f args w fun e w'=>e=.returned (.slice none 0 0)∧Below w.heap.size w w'):Calls Tryz.prog f args w (zdI w b ao (some [])):=by
 refine h.mono ?_;rintro e w' ⟨rfl,a⟩;exact⟨none,0,[],ao,0,0,rfl,⟨zaK a,fun i p hp=>by simp at hp,rfl,fun i p k hp=>by simp at hp,List.nodup_nil,fun p hp=>by cases hp⟩,fun k' hk'=>(by cases hk'),.inl rfl,fun p hp=>(by cases hp)⟩
theorem zAk{w:World}{b:Nat}{bv:Value}{k:Kn}{e:Ending}{w':World}(h:zaO w b bv k e w'):∃ g,e=.returned (.slice (some ⟨g,0,none⟩) [b].length 1)∧WaysAt w w' b bv [k] (some ⟨g,0,none⟩) [b]:=by
 obtain⟨g,rfl,d,c,f,a⟩:=h;refine⟨g,rfl,⟨a,fun i p hp=>?_,rfl,fun i p k' hp hk'=>?_,by simp,fun p hp=>.inl (List.mem_singleton.1 hp)⟩⟩
 ·cases i with
  | zero=>cases hp;exact⟨g,rfl,d,c⟩
  | succ i=>simp at hp
 ·cases i with
  | zero=>cases hp;cases hk';exact f
  | succ i=>simp at hp
theorem zge{k:Kn}{l r:Nat}{f g:Rg→Rg→Option (Rg × Rg)}{z:Int}:∀ k'∈zaX k l r f g z,k'.behind=k.behind:=by
 intro k' a;unfold zaX at a;split at a
 ·rcases List.mem_cons.1 a with rfl|h
  ·rfl
  ·rw [List.mem_singleton.1 h];rfl
 ·rw [List.mem_singleton.1 a];rfl
 ·rw [List.mem_singleton.1 a];rfl
 ·rw [List.mem_singleton.1 a];rfl
theorem zo3{l:List Int}(h:l≠[]):l=l.dropLast++[l.getLastD 0]:=by
 rw [List.getLastD_eq_getLast?,List.getLast?_eq_some_getLast h];exact(List.dropLast_concat_getLast h).symm
theorem zuw{w:World}{b cap:Nat}{ao:Option Addr}{k:Kn}(i:Ins)(hi:zhs i)(h:KnM w b (.slice ao k.behind.length cap) k)(B:BhM w ao cap k.behind)(ap:∀ a,ao=some a→¬a.block=b)(K:KnOk k)(h0:0≤k.steps)(h1:k.steps≤100000)(n0:0≤k.next)(n1:k.next≤100000):
  Calls Tryz.prog (insL i) #[.agg (insA i),.pointer (some ⟨b,0,none⟩)] w (zdI w b ao (zam i k)):=by
 have d:=h.lt;cases i with
 | set r n=>exact zb0 d B ap rfl (zua h r hi n h0 h1 n0 n1)
 | mov r s=>exact zb0 d B ap rfl (zup h r hi.1 s hi.2 h0 h1 n0 n1)
 | alu o r s t =>
  obtain⟨ho,v,j,y⟩:=hi;rcases(by omega:o=0∨o=1∨o=2) with rfl|rfl|rfl
  ·exact zb0 d B ap rfl (zum h r v s j t y h0 h1 n0 n1)
  ·exact zb0 d B ap rfl (zus h r v s j t y h0 h1 n0 n1)
  ·exact zb0 d B ap rfl (zun h K r v s j t y h0 h1 n0 n1)
 | inc r n=>exact zb0 d B ap rfl (zuo h r hi n h0 h1 n0 n1)
 | load r s =>
  have j:=(K.regs s hi.2)
  by_cases f:0≤(k.regs s).lo∧(k.regs s).hi≤15
  ·have e:zam (.load r s) k=some [{ k with regs:=updR k.regs r (zbz k.cells (k.regs s).lo.toNat ((k.regs s).hi.toNat-(k.regs s).lo.toNat)) }.goTo (k.next+1)]:=by simp only [zam,zbm,if_pos f]
   rw [e];exact zb0 d B ap rfl (zr6 h r hi.1 s hi.2 j.2.2 f.1 f.2 h0 h1 n0 n1)
  ·have e:zam (.load r s) k=none:=by simp only [zam,zbm,if_neg f]
   rw [e];exact zjb (zj7 h r s hi.2 j f)
 | store r s =>
  have j:=(K.regs r hi.1)
  by_cases f:0≤(k.regs r).lo∧(k.regs r).hi≤15
  ·have e:zam (.store r s) k=some [{ k with cells:=zaw k.cells (k.regs r).lo.toNat (k.regs r).hi.toNat (k.regs s) }.goTo (k.next+1)]:=by simp only [zam,zbm,if_pos f]
   rw [e];exact zb0 d B ap rfl (zoz h r hi.1 s hi.2 j.2.2 f.1 f.2 h0 h1 n0 n1)
  ·have e:zam (.store r s) k=none:=by simp only [zam,zbm,if_neg f]
   rw [e];exact zjb (ziV h r hi.1 s hi.2 j f)
 | read r=>exact zb0 d B ap rfl (zr1 h r hi h0 h1 n0 n1)
 | write r=>exact zb0 d B ap rfl (zo2 h r h0 h1 n0 n1)
 | jump to=>exact zb0 d B ap rfl (zrC h to h0 h1)
 | less l r to =>
  by_cases e:l=r
  ·subst e;have m:zam (.less l l to) k=some [k.goTo (k.next+1)]:=by simp only [zam,if_true]
   rw [m];exact zb0 d B ap rfl (ziZ h l to h0 h1 n0 n1)
  ·have m:zam (.less l r to) k=some (zaX k l r zdl zaD to):=by simp only [zam,if_neg e]
   rw [m];exact zkT d B ap zge (zhw h rfl K l r hi.1 hi.2 e to h0 h1 n0 n1)
 | same l r to =>
  by_cases e:l=r
  ·subst e;have m:zam (.same l l to) k=some [k.goTo to]:=by simp only [zam,if_true]
   rw [m];exact zb0 d B ap rfl (zja h l to h0 h1)
  ·have m:zam (.same l r to) k=some (zaX k l r zex zbd to):=by simp only [zam,if_neg e]
   rw [m];exact zkT d B ap zge (zhx h rfl K l r hi.1 hi.2 e to h0 h1 n0 n1)
 | call to =>
  have hl:=B.len;by_cases e:k.behind.length+1=16
  ·have m:zam (.call to) k=none:=by simp only [zam,if_pos e]
   rw [m];exact zjb (ziW h to (by omega))
  ·have m:zam (.call to) k=some [{ k with behind:=k.behind++[k.next+1] }.goTo to]:=by simp only [zam,if_neg e]
   rw [m];refine(zrE h B to (by omega) h0 h1 n0 n1).mono ?_;rintro e H ⟨g,c,z,q,D⟩;obtain⟨C,rfl,A⟩:=zAk z;refine⟨some ⟨C,0,none⟩,1,[b],some ⟨g,0,none⟩,c,_,rfl,A,fun k' hk'=>?_,.inr fun a ha=>(by cases ha;exact D),fun p hp a ha=>?_⟩
   ·rw [List.mem_singleton.1 hk'];exact⟨by show _=(k.behind++[k.next+1]).length;simp,q⟩
   ·cases ha;rw [List.mem_singleton.1 hp];show ¬g=b;omega
 | back =>
  cases hb:k.behind with
  | nil =>
   have m:zam .back k=some []:=by simp only [zam,hb]
   rw [m];rw [hb] at h;exact zmE (ziX h)
  | cons x r =>
   have u:k.behind≠[]:=by rw [hb];simp
   have m:zam .back k=some [{ k with behind:=k.behind.dropLast }.goTo (k.behind.getLastD 0)]:=by simp only [zam,hb]
   rw [m];refine(ziY h B (zo3 u) ap h0 h1).mono ?_;rintro e H ⟨z,q⟩;obtain⟨G,F,E,rfl,A⟩:=zkL z;refine⟨G,F,E,ao,cap,_,rfl,A,fun k' hk'=>?_,.inl rfl,fun p hp a ha=>?_⟩
   ·rw [List.mem_singleton.1 hk'];exact⟨rfl,q⟩
   ·obtain⟨g,rfl⟩:=B.at0 a ha;rcases A.from' p hp with e|e
    ·rw [e];exact ap _ ha
    ·have:=(B.cell g ha).1;show ¬g=p;omega
 | stop=>exact zmE (zrD _)
end
section
open Go.RowKit Sp Go.WideMaps Go.Maps
theorem MapIs.look{w:World}{b:Nat}{E:List (ByteArray × Nat)}(h:MapIs w b E)(x:ByteArray)(hx:x.size≤1048576)(p:Nat)(hp:zb6 E x=some p):(Instr.lookup 81 (.map (some b)) (.string x) false).run Tryz.prog w=.ok (.int .i64 (p:Int)) w:=by
 obtain⟨D,d,hD,hhas,hat0,hpw⟩:=h;obtain⟨c,hrun,a,_⟩:=d.lookup_int lawS Tryz.under81 Tryz.underlying3 (zsR _) (keyS x (by unfold maxLen;omega));rw [hat0 x p _ hp] at a;simp at a;rw [hrun,a]
theorem MapIs.drewN{w:World}{b:Nat}{E:List (ByteArray × Nat)}(h:MapIs w b E)(n:Nat):MapIs (w.drewN n) b E:=h
theorem zk4(w:World)(pm bg k:Nat)(v:Value)(F:List FnM)(cap:Nat)(x:ByteArray)(hM:MapIs w pm (zbj F))(hx:x.size≤1048576)(hk:zb6 (zbj F) x=some k)(hkl:k<F.length)(_hn:F.length≤300)(hc:w.cell? ⟨bg,k,none⟩=some (.int .i64 (lenF (F.take k):Int)))(bo cv:Nat)(hv:v=.slice (some ⟨bo,0,none⟩) F.length cv):
  Calls Tryz.prog 109 #[.agg #[v,.map (some pm),.slice (some ⟨bg,0,none⟩) F.length cap],.string x] w fun e w'=>e=.returned (.int .i64 (lenF (F.take k):Int))∧Below w.heap.size w w':=by
 subst hv;have hl:=(hM.alloc (.cells #[.slice (some ⟨bo,0,none⟩) F.length cv,.map (some pm),.slice (some ⟨bg,0,none⟩) F.length cap] 128)).look x hx k hk;have hlt:bg<w.heap.size:=World.block_lt_of_cell? w _ hc;have hk0:(0:Int)≤(k:Int):=by omega
 have hk1:(k:Int)<(F.length:Int):=by omega
 have hne4:¬w.heap.size=bg:=by omega
 have hne5:¬bg=w.heap.size:=by omega
 go_enter Tryz.func109,Tryz.ntmps109;go_wp2;go_ret;exact⟨rfl,(Below.refl _ _).alloc (Nat.le_refl _) _⟩
theorem zqU(w:World)(pm bg k j p bo cv cap:Nat)(F:List FnM)(x:ByteArray)(m:Nat)(E:List (ByteArray × Nat))(hM:MapIs w m E)(hx:x.size≤1048576)(hp:zb6 E x=some p)(hp1:p≤300)(hkl:k<F.length)(hn:F.length≤300)(hj:j≤300)(hc:w.cell? ⟨bg,k,none⟩=some (.int .i64 (j:Int)))(hm:w.cell? ⟨bo,k*4+3,none⟩=some (.map (some m))):
  Calls Tryz.prog 108 #[.agg #[.slice (some ⟨bo,0,none⟩) F.length cv,.map (some pm),.slice (some ⟨bg,0,none⟩) F.length cap],.string x,.int .i64 (k:Int)] w fun e w'=>e=.returned (.int .i64 ((j:Int)+(p:Int)))∧Below w.heap.size w w':=by
 have hl:=fun n=>((hM.alloc (.cells #[.slice (some ⟨bo,0,none⟩) F.length cv,.map (some pm),.slice (some ⟨bg,0,none⟩) F.length cap] 128)).drewN n).look x hx p hp;have hlt:bg<w.heap.size:=World.block_lt_of_cell? w _ hc;have hlt2:bo<w.heap.size:=World.block_lt_of_cell? w _ hm;have hk0:(0:Int)≤(k:Int):=by omega
 have hk1:(k:Int)<(F.length:Int):=by omega
 have hne4:¬w.heap.size=bg:=by omega
 have hne5:¬bg=w.heap.size:=by omega
 have hne6:¬w.heap.size=bo:=by omega
 have hne7:¬bo=w.heap.size:=by omega
 have hk4:k*4≤1200:=by omega
 go_enter Tryz.func108,Tryz.ntmps108;go_wp2_with fail
 go_quiet(fail)
 go_wp2;go_ret;exact⟨rfl,((Below.refl _ _).alloc (Nat.le_refl _) _).trans ((zhZ _ nq).mono (by simp))⟩
end
section
open Go.RowKit Sp
theorem zrF (v:Value) (w:World):(method 422 171 v "Learn").run Tryz.prog w=.ok (233,v) w:=by kernel_rfl
theorem zo4(args:Array Value)(w:World):(callFunc 233 args).run Tryz.prog w=.ok (.enter 233 args) w:=by kernel_rfl
theorem zrG (v:Value) (w:World):(method 422 172 v "Learn").run Tryz.prog w=.ok (240,v) w:=by kernel_rfl
theorem zo5(args:Array Value)(w:World):(callFunc 240 args).run Tryz.prog w=.ok (.enter 240 args) w:=by kernel_rfl
theorem zrH (v:Value) (w:World):(method 422 173 v "Learn").run Tryz.prog w=.ok (244,v) w:=by kernel_rfl
theorem zo6(args:Array Value)(w:World):(callFunc 244 args).run Tryz.prog w=.ok (.enter 244 args) w:=by kernel_rfl
theorem zux (i:Ins) (hi:zhs i) (w:World):(method 422 (insT i) (.agg (insA i)) "Learn").run Tryz.prog w=.ok (insL i,.agg (insA i)) w:=by
 cases i with
 | alu o r s t =>
  have ho:=hi.1;clear hi;rcases(by omega:o=0∨o=1∨o=2) with rfl|rfl|rfl
  ·exact zrF _ w
  ·exact zrG _ w
  ·exact zrH _ w
 | _=>kernel_rfl
theorem zrI(i:Ins)(hi:zhs i)(args:Array Value)(w:World):(callFunc (insL i) args).run Tryz.prog w=.ok (.enter (insL i) args) w:=by
 cases i with
 | alu o r s t =>
  have ho:=hi.1;clear hi;rcases(by omega:o=0∨o=1∨o=2) with rfl|rfl|rfl
  ·exact zo4 args w
  ·exact zo5 args w
  ·exact zo6 args w
 | _=>kernel_rfl
theorem zuy{w:World}{S b:Nat}{bv:Value}{k:Kn}(X:KnM w b bv k)(e:k.steps=100000):
  Calls Tryz.prog 116 #[.pointer (some ⟨S,0,none⟩),.pointer (some ⟨b,0,none⟩)] w fun e w'=>e=zak 8 0∧w'=w:=by
 have d:=zbI X;rw [e] at d;go_enter Tryz.func116,Tryz.ntmps116;go_wp2_with(go_at_call 134;(with_reducible refine d.mono ?_);rintro e wx ⟨rfl,c⟩;have a:=c.symm;subst a)
 all_goals go_wp2
 exact⟨rfl,rfl,rfl,rfl,rfl⟩
theorem zrJ{w:World}{S b:Nat}{bv:Value}{k:Kn}(X:KnM w b bv k)(e:¬k.steps=100000)(h:Calls Tryz.prog 135 #[.pointer (some ⟨S,2,none⟩),.pointer (some ⟨b,0,none⟩)] w fun e w'=>e=.returned (.bool true)∧Below w.heap.size w w'):
  Calls Tryz.prog 116 #[.pointer (some ⟨S,0,none⟩),.pointer (some ⟨b,0,none⟩)] w fun e w'=>e=zak 8 0∧Below w.heap.size w w':=by
 have f:=zbI X;have t:(k.steps == 100000)=false:=by simpa using e
 go_enter Tryz.func116,Tryz.ntmps116;go_wp2_with(first
  | (go_at_call 134;(with_reducible refine f.mono ?_);rintro e wx ⟨rfl,d⟩;have c:=d.symm;subst c)
  | (go_at_call 135;(with_reducible refine h.mono ?_);rintro e wy ⟨rfl,a⟩))
 all_goals go_wp2
 exact⟨rfl,rfl,rfl,rfl,a⟩
def zgG(ao:Option Addr)(cap:Nat)(ps:List Nat)(ks:List Kn):List Wy:=List.zipWith (fun p k=>(⟨p,ao,cap,k⟩:Wy)) ps ks
theorem zmF{ao:Option Addr}{cap:Nat}{ps:List Nat}{ks:List Kn}(h:ps.length=ks.length):(zgG ao cap ps ks).length=ks.length:=by simp [zgG,h]
theorem zpF{ao:Option Addr}{cap:Nat}{ps:List Nat}{ks:List Kn}(i:Nat)(y:Wy)(h:(zgG ao cap ps ks)[i]?=some y):∃ p k,ps[i]?=some p∧ks[i]?=some k∧y=⟨p,ao,cap,k⟩:=by
 unfold zgG at h;rw [List.getElem?_zipWith] at h;cases hp:ps[i]? with
 | none=>rw [hp] at h;cases h
 | some p =>
  cases hk:ks[i]? with
  | none=>rw [hp,hk] at h;cases h
  | some k=>rw [hp,hk] at h;exact⟨p,k,rfl,rfl,by simpa using h.symm⟩
theorem zzd{ao:Option Addr}{cap:Nat}{ps:List Nat}{ks:List Kn}(h:ps.length=ks.length):(zgG ao cap ps ks).map Wy.b=ps:=by
 unfold zgG;rw [List.map_zipWith];show List.zipWith (fun p _=>p) ps ks=ps;clear ao cap
 induction ps generalizing ks with
 | nil=>rfl
 | cons p r ih =>
  cases ks with
  | nil=>simp at h
  | cons k t=>rw [List.zipWith_cons_cons,ih (by simpa using h)]
theorem zgf{ao:Option Addr}{cap:Nat}{ps:List Nat}{ks:List Kn}{y:Wy}(h:y∈zgG ao cap ps ks):∃(i p:Nat) (k:Kn),ps[i]?=some p∧ks[i]?=some k∧y=⟨p,ao,cap,k⟩:=by
 obtain⟨i,d⟩:=List.mem_iff_getElem?.1 h;obtain⟨p,k,a,b,c⟩:=zpF i y d;exact⟨i,p,k,a,b,c⟩
theorem zrK{w w':World}{B S g:Nat}{C:List (Ins × Int)}{v mv:Value}{xs:List Wy}{ms:List Mk}{x:Wy}{ks:List Kn}{so:Option Addr}{ps:List Nat}{ao':Option Addr}{cap' n':Nat}(O:SO w B S g C v mv xs [x] ms)(A:WaysAt w w' x.b (.slice ao' n' cap') ks so ps)(hb:∀ k'∈ks,n'=k'.behind.length∧BhM w' ao' cap' k'.behind)(ha:ao'=x.ao∨∀ a,ao'=some a→w.heap.size≤a.block)(hf:∀ p∈ps,∀ a,ao'=some a→¬a.block=p)(hkey:∀ k'∈ks,KeyOk k'):
  SO w' B S g C v mv xs (zgG ao' cap' ps ks) ms:=by
 have:=O.turn (rs:=zgG ao' cap' ps ks) A.grown (fun y hy=>?_) (fun y hy=>?_) (by rw [zzd A.len];exact A.nodup) (fun y hy a hya=>?_)
 ·rw [List.append_nil] at this;exact this
 ·obtain⟨i,p,k,f,d,rfl⟩:=zgf hy;have c:=List.mem_of_getElem? d;obtain⟨h1,l⟩:=hb k c;have j:=A.kn i p k f d;rw [h1] at j;exact⟨hkey k c,j,l⟩
 ·obtain⟨i,p,k,f,d,rfl⟩:=zgf hy;exact A.from' p (List.mem_of_getElem? f)
 ·obtain⟨i,p,k,f,d,rfl⟩:=zgf hy;refine⟨?_,fun z hz=>?_⟩
  ·rcases ha with e|e
   ·exact .inl (by rw [←e];exact hya)
   ·exact .inr (e a hya)
  ·obtain⟨i2,m,k2,h,_,rfl⟩:=zgf hz;exact hf m (List.mem_of_getElem? h) a hya
theorem zAl{w w0:World}{B S g:Nat}{C:List (Ins × Int)}{cv v mv:Value}{R:Rs}{looks:Nat}{bs bf:Int}{xs hs:List Wy}{x:Wy}(O:SO w B S g C v mv xs (x :: hs) R.marked)(c:SC w S cv v mv R looks bs bf)(hb:Below B w0 w)(hlen:xs.length<100000):
  Calls Tryz.prog 138 #[.pointer (some ⟨S,1,none⟩),.pointer (some ⟨x.b,0,none⟩)] w fun e w'=>e=.returned (.tuple #[])∧∃(v':Value) (ys:List Wy),ys.Perm (xs++[x])∧SO w' B S g C v' mv ys hs R.marked∧SC w' S cv v' mv R looks bs bf∧Below B w0 w'∧Kept2 w w' S 1 v.ownBlock∧(∀ q,v'.ownBlock=some q→v.ownBlock=some q∨w.heap.size≤q):=by
 have d:B≤w.heap.size:=by have:=O.SB;have:=O.SL;omega
 obtain⟨_,k,l⟩:=O.far x List.mem_cons_self;have i:∀ y,y∈xs++[x]→y∈x :: hs++xs:=fun y hy=>by
  rcases List.mem_append.1 hy with e|e
  ·exact List.mem_append_right _ e
  ·rw [List.mem_singleton.1 e];exact List.mem_cons_self
 refine(zwN (B:=B) c.c1 (c.fz 1) O.hp O.ord (O.hand x List.mem_cons_self) hlen d O.vS (fun q hq=>⟨fun e=>k.2.1 (by rw [hq,e]),fun a ha e=>(l a ha).1.2.1 (by rw [hq,e])⟩) (fun y hy=>?_)).mono ?_
 ·obtain⟨_,m,n⟩:=O.far y (i y hy);exact⟨m.1,fun a ha=>(n a ha).1.1⟩
 ·rintro e w' ⟨rfl,H,h,ys,s,hp,r,p,j,f⟩;refine⟨rfl,.slice (some ⟨H,0,none⟩) ys.length h,ys,hp,O.added f hp r p j,(c.one (o:=1) f.cell f.fz s).1 rfl,hb.trans (ziR f O.SB d (fun q hq=>(O.hp.row.lt q hq).1)),f,fun q hq=>?_⟩;have e:H=q:=by have:some H=some q:=hq;simpa using this
  rw [←e];exact j
theorem SC.kept4{w w':World}{S:Nat}{cv v mv mv':Value}{R R':Rs}{looks:Nat}{bs bf:Int}{hb:Option Nat}(h:SC w S cv v mv R looks bs bf)(hk:Kept4 w w' S 2 hb)(hr:RsC w' S 2 mv' R'):SC w' S cv v mv' R' looks bs bf:=by
 have c:∀ j,¬j=2→¬j=3→¬j=4→¬j=5→w'.cell? ⟨S,j,none⟩=w.cell? ⟨S,j,none⟩:=fun j a b c d=>hk.cell j a b c d;exact⟨(c _ (by omega) (by omega) (by omega) (by omega)).trans h.c0,(c _ (by omega) (by omega) (by omega) (by omega)).trans h.c1,hr,(c _ (by omega) (by omega) (by omega) (by omega)).trans h.c6,(c _ (by omega) (by omega) (by omega) (by omega)).trans h.c7,(c _ (by omega) (by omega) (by omega) (by omega)).trans h.c8,fun j=>(hk.fz j).trans (h.fz j)⟩
theorem zuz{w:World}{B S g o:Nat}{C:List (Ins × Int)}{v mv u:Value}{xs hs:List Wy}{ms:List Mk}(O:SO w B S g C v mv xs hs ms):SO (w.setCell ⟨S,o,none⟩ u) B S g C v mv xs hs ms :=
 O.stay (by rw [World.size_setCell];exact Nat.le_refl _) (fun q _ hq=>Below.heap_setCell w _ _ q hq)
theorem SC.set7{w:World}{S:Nat}{cv v mv:Value}{R:Rs}{looks:Nat}{bs bf:Int}(h:SC w S cv v mv R looks bs bf)(n:Int):SC (w.setCell ⟨S,7,none⟩ (.int .i64 n)) S cv v mv R looks n bf :=
 (h.one (o:=7) (fun j hj=>by rw [zat w S 7 j _ _ h.c7,if_neg hj]) (fun j=>zcG) (World.cell?_setCell_same _ _ _ h.c7)).2.2.1 n rfl rfl
theorem SC.set8{w:World}{S:Nat}{cv v mv:Value}{R:Rs}{looks:Nat}{bs bf:Int}(h:SC w S cv v mv R looks bs bf)(n:Int):SC (w.setCell ⟨S,8,none⟩ (.int .i64 n)) S cv v mv R looks bs n :=
 (h.one (o:=8) (fun j hj=>by rw [zat w S 8 j _ _ h.c8,if_neg hj]) (fun j=>zcG) (World.cell?_setCell_same _ _ _ h.c8)).2.2.2 n rfl rfl
theorem SC.set6{w:World}{S:Nat}{cv v mv:Value}{R:Rs}{looks:Nat}{bs bf:Int}(h:SC w S cv v mv R looks bs bf)(n:Nat):SC (w.setCell ⟨S,6,none⟩ (.int .i64 (n:Int))) S cv v mv R n bs bf :=
 (h.one (o:=6) (fun j hj=>by rw [zat w S 6 j _ _ h.c6,if_neg hj]) (fun j=>zcG) (World.cell?_setCell_same _ _ _ h.c6)).2.1 n rfl rfl
end
end Go.Proofs.YtfpgjkbjbbgciaaGreatDoor
