import Derived.Test.YtfpgjkbjbbgciaaGreatDoorMk31
import Derived.Test.YtfpgjkbjbbgciaaGreatDoorMk36
import Derived.Test.YtfpgjkbjbbgciaaGreatDoorMk40
set_option maxRecDepth 100000
set_option maxHeartbeats 8000000
namespace Go.Proofs.YtfpgjkbjbbgciaaGreatDoor
open Go.RowKit Sp
theorem zkV(V:World)(cs:Array Value)(t:TypeId)(j:Nat):(V.alloc (.cells cs t)).frozen? ⟨V.heap.size,j,none⟩=false:=by simp
abbrev VfW(w:World)(s:ByteArray):World:=(w.alloc (.cells #[.string s] 9)).alloc (.cells #[.int .i64 0,.int .i64 0] 42)
theorem zkW(w:World)(s:ByteArray):(VfW w s).heap.size=w.heap.size+1+1:=by simp
theorem zjf(w:World)(s:ByteArray):Below w.heap.size w (VfW w s):=((Below.refl _ _).alloc (Nat.le_refl _) _).alloc (by simp) _
theorem zu8(w:World)(s:ByteArray):(VfW w s).cell? ⟨w.heap.size,0,none⟩=some (.string s)∧(VfW w s).cell? ⟨w.heap.size+1,0,none⟩=some (.int .i64 0)∧(VfW w s).cell? ⟨w.heap.size+1,1,none⟩=some (.int .i64 0)∧∀ j,(VfW w s).frozen? ⟨w.heap.size+1,j,none⟩=false:=by
 have e:(w.alloc (.cells #[.string s] 9)).heap.size=w.heap.size+1:=by simp
 have c:=World.cell?_alloc_new (w:=w) #[.string s] 9 0;have b:=fun j=>World.cell?_alloc_new (w:=w.alloc (.cells #[.string s] 9)) #[.int .i64 0,.int .i64 0] 42 j;rw [e] at b;refine⟨?_,b 0,b 1,fun j=>?_⟩
 ·exact(World.cell?_of_block (a:=⟨w.heap.size,0,none⟩) (Below.heap_alloc _ _ _ (by show w.heap.size<_;rw [e];omega))).trans c
 ·have:∀ j,((w.alloc (.cells #[.string s] 9)).alloc (.cells #[.int .i64 0,.int .i64 0] 42)).frozen? ⟨(w.alloc (.cells #[.string s] 9)).heap.size,j,none⟩=false:=fun j=>by simp
  rw [e] at this;exact this j
def zpI(w:World)(bs bf er ln:Int):Ending→World→Prop:=fun e w'=>e=.returned (.tuple #[.agg #[.int .i64 bs,.int .i64 bf],.int .i64 er,.int .i64 ln])∧Below w.heap.size w w'
theorem ze2(w:World)(s:ByteArray)(er ln:Int)(hcall:Calls Tryz.prog 59 #[.pointer (some ⟨w.heap.size,0,none⟩),.pointer (some ⟨w.heap.size+1,0,none⟩)] (OutW (VfW w s)) fun e w'=>e=zak er ln∧Below (OutW (VfW w s)).heap.size (OutW (VfW w s)) w'):
  Calls Tryz.prog 26 #[.string s] w (zpI w 0 0 er ln):=by
 have hmf:∀(fn:Go.Fn) (first cap:Array Value) (w:World),(Instr.makeFunc fn first cap).run Tryz.prog w=.ok (.func fn first cap) w:=fun _ _ _ _=>rfl;have d:=zel 59 _ (VfW w s) er ln (fun W=>by kernel_rfl) hcall;have i:=zkW w s;have f:=zjf w s;obtain⟨_,j,k,z⟩:=zu8 w s;go_enter Tryz.func26,Tryz.ntmps26;go_wp2_with(first|(go_at_call 42;refine d.mono ?_;rintro e h ⟨rfl,b⟩;refine Hid.out ?_))
 unfold Hid;have c:w.heap.size+1<(VfW w s).heap.size:=by rw [i];omega
 have l:h.cell? ⟨w.heap.size+1,0,none⟩=some (.int .i64 0):=(World.cell?_of_block (a:=⟨w.heap.size+1,0,none⟩) (b.block _ c)).trans j;have m:h.cell? ⟨w.heap.size+1,1,none⟩=some (.int .i64 0):=(World.cell?_of_block (a:=⟨w.heap.size+1,1,none⟩) (b.block _ c)).trans k;have z0:h.frozen? ⟨w.heap.size+1,0,none⟩=false:=(World.frozen?_of_block (a:=⟨w.heap.size+1,0,none⟩) (b.block _ c)).trans (z 0);have z1:h.frozen? ⟨w.heap.size+1,1,none⟩=false:=(World.frozen?_of_block (a:=⟨w.heap.size+1,1,none⟩) (b.block _ c)).trans (z 1);have g:Below w.heap.size w h:=f.trans (b.mono f.size);clear d hcall j k z f i b c;go_wp2;refine bodyPost_ret (v:=.tuple #[.agg #[.int .i64 0,.int .i64 0],.int .i64 er,.int .i64 ln]) (by simp [results,Tryz.results26,go_sem,l,m]) rfl ⟨rfl,?_⟩;exact(g.setCell (p:=⟨w.heap.size+1,0,none⟩) (Nat.le_succ _) _).setCell (p:=⟨w.heap.size+1,1,none⟩) (Nat.le_succ _) _
theorem zrN(w:World)(s:ByteArray)(bs bf:Int)(hcall:Calls Tryz.prog 59 #[.pointer (some ⟨w.heap.size,0,none⟩),.pointer (some ⟨w.heap.size+1,0,none⟩)] (OutW (VfW w s)) fun e w'=>e=.returned (.tuple #[])∧∃ w1,Below (OutW (VfW w s)).heap.size (OutW (VfW w s)) w1∧w'=(w1.setCell ⟨w.heap.size+1,0,none⟩ (.int .i64 bs)).setCell ⟨w.heap.size+1,1,none⟩ (.int .i64 bf)):
  Calls Tryz.prog 26 #[.string s] w (zpI w bs bf 0 0):=by
 have hmf:∀(fn:Go.Fn) (first cap:Array Value) (w:World),(Instr.makeFunc fn first cap).run Tryz.prog w=.ok (.func fn first cap) w:=fun _ _ _ _=>rfl;have y:=zkW w s;have l:=zjf w s;obtain⟨_,G,H,z⟩:=zu8 w s;have B:(OutW (VfW w s)).heap.size=w.heap.size+1+1+1+1:=by simp
 have k:=zeJ (VfW w s);have o:(OutW (VfW w s)).cell? ⟨(VfW w s).heap.size,0,none⟩=some (.int .i64 0):=by
  have g:=World.cell?_alloc_new (w:=VfW w s) #[.int .i64 0] 22 0;exact(World.cell?_of_block (a:=⟨(VfW w s).heap.size,0,none⟩) (Below.heap_alloc _ _ _ (by simp))).trans g
 have r:(OutW (VfW w s)).cell? ⟨(VfW w s).heap.size+1,0,none⟩=some (.int .i64 0):=by
  have g:=World.cell?_alloc_new (w:=(VfW w s).alloc (.cells #[.int .i64 0] 22)) #[.int .i64 0] 3 0;rw [show((VfW w s).alloc (.cells #[.int .i64 0] 22)).heap.size=(VfW w s).heap.size+1 by simp] at g;exact g
 have m:(OutW (VfW w s)).frozen? ⟨(VfW w s).heap.size,0,none⟩=false:=by
  have g:=zkV (VfW w s) #[.int .i64 0] 22 0;exact(World.frozen?_of_block (a:=⟨(VfW w s).heap.size,0,none⟩) (Below.heap_alloc _ _ _ (by simp))).trans g
 have n:(OutW (VfW w s)).frozen? ⟨(VfW w s).heap.size+1,0,none⟩=false:=by
  have g:=zkV ((VfW w s).alloc (.cells #[.int .i64 0] 22)) #[.int .i64 0] 3 0;rw [show((VfW w s).alloc (.cells #[.int .i64 0] 22)).heap.size=(VfW w s).heap.size+1 by simp] at g;exact g
 have d:∀ w1 b,Below (OutW (VfW w s)).heap.size (OutW (VfW w s)) w1→b<w.heap.size+4→¬b=w.heap.size+1→((w1.setCell ⟨w.heap.size+1,0,none⟩ (.int .i64 bs)).setCell ⟨w.heap.size+1,1,none⟩ (.int .i64 bf)).heap[b]?=(OutW (VfW w s)).heap[b]?:=fun w1 b hb x hne=>(Below.heap_setCell _ _ _ b hne).trans ((Below.heap_setCell _ _ _ b hne).trans (hb.block b (by rw [B];omega)));have h:=zhN 59 _ (VfW w s) _ (fun W=>by kernel_rfl) hcall (fun w2 ⟨w1,hb,e⟩=>by
  subst e;rw [y];rw [y] at o r m n;exact⟨(World.cell?_of_block (a:=⟨w.heap.size+1+1,0,none⟩) (d w1 _ hb (by show w.heap.size+1+1<_;omega) (by show ¬w.heap.size+1+1=_;omega))).trans o,(World.cell?_of_block (a:=⟨w.heap.size+1+1+1,0,none⟩) (d w1 _ hb (by show w.heap.size+1+1+1<_;omega) (by show ¬w.heap.size+1+1+1=_;omega))).trans r,(World.frozen?_of_block (a:=⟨w.heap.size+1+1,0,none⟩) (d w1 _ hb (by show w.heap.size+1+1<_;omega) (by show ¬w.heap.size+1+1=_;omega))).trans m,(World.frozen?_of_block (a:=⟨w.heap.size+1+1+1,0,none⟩) (d w1 _ hb (by show w.heap.size+1+1+1<_;omega) (by show ¬w.heap.size+1+1+1=_;omega))).trans n⟩)
 have C:Hid (∀ w1,Below (OutW (VfW w s)).heap.size (OutW (VfW w s)) w1→∀ f,f=(((w1.setCell ⟨w.heap.size+1,0,none⟩ (.int .i64 bs)).setCell ⟨w.heap.size+1,1,none⟩ (.int .i64 bf)).setCell ⟨(VfW w s).heap.size,0,none⟩ (.int .i64 0)).setCell ⟨(VfW w s).heap.size+1,0,none⟩ (.int .i64 0)→f.cell? ⟨w.heap.size+1,0,none⟩=some (.int .i64 bs)∧f.cell? ⟨w.heap.size+1,1,none⟩=some (.int .i64 bf)∧f.frozen? ⟨w.heap.size+1,0,none⟩=false∧f.frozen? ⟨w.heap.size+1,1,none⟩=false∧Below w.heap.size w f):=fun w1 hb f e5=>by
  have x:w.heap.size+1<(OutW (VfW w s)).heap.size:=by rw [B];omega
  have q:∀ b,b<(VfW w s).heap.size→(OutW (VfW w s)).heap[b]?=(VfW w s).heap[b]?:=fun b hlb=>k.block b hlb;have i:w1.heap[w.heap.size+1]?=(VfW w s).heap[w.heap.size+1]?:=(hb.block _ x).trans (q _ (by rw [y];omega));have D:w1.cell? ⟨w.heap.size+1,0,none⟩=some (.int .i64 0):=(World.cell?_of_block (a:=⟨w.heap.size+1,0,none⟩) i).trans G;have I:w1.cell? ⟨w.heap.size+1,1,none⟩=some (.int .i64 0):=(World.cell?_of_block (a:=⟨w.heap.size+1,1,none⟩) i).trans H;have E:∀ j,w1.frozen? ⟨w.heap.size+1,j,none⟩=false:=fun j=>(World.frozen?_of_block (a:=⟨w.heap.size+1,j,none⟩) i).trans (z j);have F:(w1.setCell ⟨w.heap.size+1,0,none⟩ (.int .i64 bs)).cell? ⟨w.heap.size+1,1,none⟩=some (.int .i64 0):=by rw [zat _ (w.heap.size+1) 0 1 _ _ D,if_neg (by omega)];exact I
  have J:(w1.setCell ⟨w.heap.size+1,0,none⟩ (.int .i64 bs)).cell? ⟨w.heap.size+1,0,none⟩=some (.int .i64 bs):=World.cell?_setCell_same _ _ _ D;have e:f.heap[w.heap.size+1]?=((w1.setCell ⟨w.heap.size+1,0,none⟩ (.int .i64 bs)).setCell ⟨w.heap.size+1,1,none⟩ (.int .i64 bf)).heap[w.heap.size+1]?:=by
   rw [e5,y];exact(Below.heap_setCell _ _ _ _ (by show ¬w.heap.size+1=w.heap.size+1+1+1;omega)).trans (Below.heap_setCell _ _ _ _ (by show ¬w.heap.size+1=w.heap.size+1+1;omega))
  refine⟨(World.cell?_of_block (a:=⟨w.heap.size+1,0,none⟩) e).trans ?_,(World.cell?_of_block (a:=⟨w.heap.size+1,1,none⟩) e).trans (World.cell?_setCell_same _ _ _ F),(World.frozen?_of_block (a:=⟨w.heap.size+1,0,none⟩) e).trans ?_,(World.frozen?_of_block (a:=⟨w.heap.size+1,1,none⟩) e).trans ?_,?_⟩
  ·rw [zat _ (w.heap.size+1) 1 0 _ _ F,if_neg (by omega)];exact J
  ·rw [zcG,zcG];exact E 0
  ·rw [zcG,zcG];exact E 1
  ·rw [e5,y];exact((((l.trans ((k.mono l.size).trans (hb.mono (by rw [B];omega)))).setCell (p:=⟨w.heap.size+1,0,none⟩) (Nat.le_succ _) _).setCell (p:=⟨w.heap.size+1,1,none⟩) (Nat.le_succ _) _).setCell (p:=⟨w.heap.size+1+1,0,none⟩) (by show w.heap.size≤w.heap.size+1+1;omega) _).setCell (p:=⟨w.heap.size+1+1+1,0,none⟩) (by show w.heap.size≤w.heap.size+1+1+1;omega) _
 clear d o r m n G H z hcall;go_enter Tryz.func26,Tryz.ntmps26;go_wp2_with(first|(go_at_call 42;refine h.mono ?_;rintro e f ⟨rfl,w1,⟨N,A,M⟩,c⟩;have t:Hid _:=c;clear c;refine Hid.out ?_))
 have c:=t.out;clear t;unfold Hid;rw [M] at c;obtain⟨K,L,z0,z1,u⟩:=C.out N A f c;clear c M h C k B l;go_wp2;refine bodyPost_ret (v:=.tuple #[.agg #[.int .i64 bs,.int .i64 bf],.int .i64 0,.int .i64 0]) (by simp [results,Tryz.results26,go_sem,K,L]) rfl ⟨rfl,?_⟩;exact(u.setCell (p:=⟨w.heap.size+1,0,none⟩) (Nat.le_succ _) _).setCell (p:=⟨w.heap.size+1,1,none⟩) (Nat.le_succ _) _
section
attribute [local go_sem ↓] Go.wp_at_zero Go.wp_at_succ
def zvw(z:Int)(i:Nat):Int:=if i=0 then 0 else if i=1 then 1 else if i=2 then -1 else if i=3 then 7 else if i=4 then 4611686018427387904 else if i=5 then 9223372036854775807 else if i=6 then -9223372036854775808 else z
theorem zvx{z:Int}(hz:i64 z)(i:Nat):i64 (zvw z i):=by
 unfold zvw
 repeat' split
 all_goals first|exact hz|exact⟨by omega,by omega⟩
theorem zsm{w2 w3:World}{z:Int}{i px:Nat}(hi:(i:Int)<8)(hpx:px<w2.heap.size)(g3:(w2.alloc (.cells #[.int .i64 0,.int .i64 1,.int .i64 (-1),.int .i64 7,.int .i64 4611686018427387904,.int .i64 9223372036854775807,.int .i64 (-9223372036854775808),.int .i64 z] 2)).grownBy w3 (some px)):w3.cell? ⟨w2.heap.size,i,none⟩=some (.int .i64 (zvw z i)):=by
 have e:=g3.block w2.heap.size (by simp) (fun e=>by have:=Option.some.inj e;omega);rw [World.cell?_of_block (a:=⟨w2.heap.size,i,none⟩) e,World.cell?_alloc_new];have c:i=0∨i=1∨i=2∨i=3∨i=4∨i=5∨i=6∨i=7:=by omega
 rcases c with rfl|rfl|rfl|rfl|rfl|rfl|rfl|rfl <;> rfl
theorem zvy(w3:World){z:Int}{i:Nat}(hi:(i:Int)<8):(w3.alloc (.cells #[.int .i64 0,.int .i64 1,.int .i64 (-1),.int .i64 7,.int .i64 4611686018427387904,.int .i64 9223372036854775807,.int .i64 (-9223372036854775808),.int .i64 z] 2)).cell? ⟨w3.heap.size,i,none⟩=some (.int .i64 (zvw z i)):=by
 rw [World.cell?_alloc_new];have b:i=0∨i=1∨i=2∨i=3∨i=4∨i=5∨i=6∨i=7:=by omega
 rcases b with rfl|rfl|rfl|rfl|rfl|rfl|rfl|rfl <;> rfl
def PCut(R:Act→World→Prop):Exit→Act→World→Prop
 | .normal,a,w=>R a w
 | _,_,_=>False
theorem zyi{P:Program}{c:Code}{Q:Exit→Act→World→Prop}{a:Act}{w:World}(R:Act→World→Prop)(h:∀ a w,R a w→Q .normal a w)(hw:c.wp P (PCut R) a w):c.wp P Q a w :=
 Code.wp_mono (fun e a w hq=>by cases e <;> first|exact h _ _ hq|exact(show False from hq).elim) hw
def aluB(i:Nat):ByteArray:=ba (aluW i++[32])
abbrev aluO:Obj:=.cells #[.string ⟨#[97,100,100,32]⟩,.string ⟨#[115,117,98,32]⟩,.string ⟨#[109,117,108,32]⟩] 9
theorem zcI{w:World}{q i:Nat}(h:w.heap[q]?=some aluO)(hi:(i:Int)<3):w.cell? ⟨q,i,none⟩=some (.string (aluB i)):=by
 have b:i=0∨i=1∨i=2:=by omega
 rw [cell_of_row w q i _ _ _ h];rcases b with rfl|rfl|rfl <;> rfl
theorem zjz(i:Nat):(aluB i).size=4:=by
 unfold aluB aluW;split
 ·rfl
 ·split <;> rfl
theorem zqb(i:Nat){r c d:Nat}{A1 A2 A3:ByteArray}(h1:Hid (A1=ba (regW r)))(h2:Hid (A2=ba (regW c)))(h3:Hid (A3=ba (regW d))):ba (aluL i r c d).bytes=ba [9]++(aluB i++A1++⟨#[32]⟩++A2++⟨#[32]⟩++A3):=by
 rw [show A1=_ from h1,show A2=_ from h2,show A3=_ from h3];exact ln3 _ _ _ _
theorem zna(i:Nat){A1 A2 A3:ByteArray}(h1:A1.size=2)(h2:A2.size=2)(h3:A3.size=2):(aluB i++A1++(⟨#[32]⟩:ByteArray)++A2++(⟨#[32]⟩:ByteArray)++A3).size≤1000:=by
 have:=zjz i;have e:(⟨#[32]⟩:ByteArray).size=1:=rfl;simp only [ByteArray.size_append];omega
theorem zdr(w:World){i:Nat}(hi:(i:Int)<3):(w.alloc (.cells #[.string ⟨#[97,100,100,32]⟩,.string ⟨#[115,117,98,32]⟩,.string ⟨#[109,117,108,32]⟩] 9)).cell? ⟨w.heap.size,i,none⟩=some (.string (aluB i)):=zcI (heap_alloc_new w _) hi
theorem znb{w w':World}{r:Option Nat}(h:w.drew.grownBy w' r):w.grownBy w' r:=⟨h.os,h.tape,h.output,h.size,h.block⟩
theorem zd4(w:World){x:Obj}:w.heap.size<(w.alloc x).heap.size:=by simp
theorem zxJ{w w':World}{x:Obj}{r:Option Nat}(g:(w.alloc x).grownBy w' r):w.heap.size+1≤w'.heap.size:=by
 have:=g.size;simpa using this
theorem zvz{w w':World}{x:Obj}{px:Nat}(g:(w.alloc x).grownBy w' (some px))(h:px<w.heap.size):w'.heap[w.heap.size]?=some x :=
 (g.block _ (zd4 w) (fun e=>by have:=Option.some.inj e;omega)).trans (heap_alloc_new w x)
theorem WrM.newNot{B:Nat}{w:World}{b px:Nat}{cv:Value}{code:List Int}{S:Wst}{k:Nat}{V:Nat→Value}(h:WrM B w b px cv code S k V):¬Mine b px V w.heap.size:=fun hm=>by
 rcases hm with e|e|e|e
 ·have:=h.blk.lt;omega
 ·have:=h.blk.di.lt;omega
 ·have:=(h.lines.lt _ e).2;omega
 ·have:=(h.counts.lt _ e).2;omega
theorem zll{B:Nat}{w:World}{b px:Nat}{cv:Value}{code:List Int}{S:Wst}{k:Nat}{V:Nat→Value}(M:WrM B w b px cv code S k V)(rf:Nat)(hrf:rf<8)(hf:S.held rf=false)(hn:S.lines.length≤10000):
  Calls Tryz.prog 94 #[.pointer (some ⟨b,0,none⟩)] w fun e w'=>e=.returned (.int .i64 1)∧zoQ B w b px cv code V S w':=by
 have c0:=M.cx;obtain⟨V0,aE⟩:∃ V0,V0=V:=⟨V,rfl⟩
 have F:Fr b px w V0 w V:=by rw [aE];exact Fr.refl b px w V
 go_enter Tryz.func94,Tryz.ntmps94;go_wp2_with(first
  | (go_at_call 41;(with_reducible refine(zax M 8 (by omega)).mono ?_);rintro e w1 ⟨c,rfl,hc,k,V,M,aG⟩;have F:=F.trans aG;have c0:=M.cx))
 have H1:=c0;rename_i c1 g _ _ _ _ _ _ _ _;refine zyi (fun a' W=>∃(K:Int) (u1 u2 u3 u4 u5:Value) (k':Nat) (V':Nat→Value),a'=⟨#[.pointer (some ⟨b,0,none⟩),undef,.int .i64 0,.int .i64 (c1:Int),.int .i64 (c:Int),.int .i64 K,.pointer (some ⟨b,0,none⟩),.pointer (some ⟨b,0,none⟩),.pointer (some ⟨b,0,none⟩),.pointer (some ⟨px,0,none⟩),.int .i64 (c1:Int),.pointer (some ⟨b,0,none⟩),.pointer (some ⟨b,0,none⟩),.pointer (some ⟨b,0,none⟩),.pointer (some ⟨px,0,none⟩),.int .i64 (c:Int),.pointer (some ⟨b,0,none⟩),.pointer (some ⟨b,0,none⟩),.pointer (some ⟨b,0,none⟩),.pointer (some ⟨px,0,none⟩),u1,u2,.pointer (some ⟨b,0,none⟩),.pointer (some ⟨b,0,none⟩),.pointer (some ⟨b,0,none⟩),.pointer (some ⟨px,0,none⟩),u3,u4,u5,undef,undef,undef,undef,undef,undef,undef,undef,undef,undef,undef,undef,undef,undef,undef,undef,undef,undef,undef,undef,undef,undef,undef,undef,undef,undef,undef,undef,undef,undef,undef,undef,undef,undef,undef,undef,undef,undef,undef,undef,undef,undef,undef,undef,undef,undef,undef,undef,undef,undef,undef,undef,undef,undef,undef,undef,undef,undef,undef,undef,undef,undef,undef,undef,undef,undef,undef,undef,undef,undef,undef,undef,undef,undef,undef,undef,undef,undef],[]⟩∧i64 K∧WrM B W b px cv code S k' V'∧Fr b px w V0 W V') ?_ ?_
 ·subst aE;rintro a' W ⟨K,u1,u2,u3,u4,u5,k3,V3,rfl,hK,M3,F3⟩;have c3:=M3.cx;go_wp2_with(first
   | (go_at_call 41;(with_reducible refine(zax M3 7 (by omega)).mono ?_);rintro e w4 ⟨s,rfl,hs,k4,V4,C,f4⟩;have P:=F3.trans f4;refine Hid.out ?_))
  unfold Hid;have g:c1<8:=by omega
  have X:c<8:=by omega
  have aH:s=0∨s=1∨s=2∨s=3∨s=4∨s=5∨s=6:=by omega
  clear H1 c0 F3 f4 c3;rcases aH with rfl|rfl|rfl|rfl|rfl|rfl|rfl
  ·skip
   go_wp2_with(first
    | (go_at_call 118;(with_reducible refine(zca C rf hrf hf).mono ?_);rintro e w5 ⟨r,rfl,p,J,k5,V5,H,U,u5⟩;have f:=P.trans U)
    | (go_at_call 38;(with_reducible refine(zbp r p _).mono ?_);rintro e Q ⟨A,rfl,zA,I,a⟩;have n:=H.below a H.base;have G:=f.trans (.low a))
    | (go_at_call 36;(with_reducible refine(zfb K hK _).mono ?_);rintro e R ⟨D,rfl,zD,hD,t⟩;have h:=n.below t n.base;have F7:=G.trans (.low t))
    | (go_at_call 62;refine Hid.out ?_))
   unfold Hid;refine(zbE h (setL r K) _ (by rw [Hid.out2 I,Hid.out2 hD];exact ln2 _ _ _) (by simp only [ByteArray.size_append];show 4+A.size+1+D.size≤1000;omega) (by omega)).mono ?_;rintro e w8 ⟨rfl,y,x,v,o⟩;dsimp only;go_wp2;go_ret;exact⟨rfl,_,ze7 p hK,y,x,v,F7.trans o,.set p hK J (o.gv _ u5)⟩
  ·skip
   go_wp2_with(first
    | (go_at_call 118;(with_reducible refine(zca C rf hrf hf).mono ?_);rintro e w5 ⟨r,rfl,p,J,k5,V5,H,U,u5⟩;have f:=P.trans U)
    | (go_at_call 38;first
        | ((with_reducible refine(zbp r p _).mono ?_);rintro e Q ⟨A,rfl,zA,I,a⟩;have n:=H.below a H.base;have G:=f.trans (.low a))
        | ((with_reducible refine(zbp c1 g _).mono ?_);rintro e R ⟨D,rfl,zD,hD,t⟩;have h:=n.below t n.base;have F7:=G.trans (.low t)))
    | (go_at_call 62;refine Hid.out ?_))
   unfold Hid;refine(zbE h (movL r c1) _ (by rw [Hid.out2 I,Hid.out2 hD];exact ln2 _ _ _) (by simp only [ByteArray.size_append];show 4+A.size+1+D.size≤1000;omega) (by omega)).mono ?_;rintro e w8 ⟨rfl,y,x,v,o⟩;dsimp only;go_wp2;go_ret;exact⟨rfl,_,zve p g,y,x,v,F7.trans o,.mov p g J (o.gv _ u5)⟩
  ·have c4:=C.cx;have L:=C.blk.lt;have H0:w4.drew.cell? ⟨b,0,none⟩=some (.pointer (some ⟨px,0,none⟩)):=c4;have M:=C.drew;have f:=P.trans (Fr.low (Below.refl _ _).drew);go_wp2_with fail
   refine zyi (fun a' W=>∃(l:Ln) (ad ae af ag ah ai aj ak al am an ao ap aq ar au av aw ax ay az aA:Value) (k':Nat) (V':Nat→Value),a'=⟨#[.pointer (some ⟨b,0,none⟩),undef,.int .i64 0,.int .i64 (c1:Int),.int .i64 (c:Int),.int .i64 K,.pointer (some ⟨b,0,none⟩),.pointer (some ⟨b,0,none⟩),.pointer (some ⟨b,0,none⟩),.pointer (some ⟨px,0,none⟩),.int .i64 (c1:Int),.pointer (some ⟨b,0,none⟩),.pointer (some ⟨b,0,none⟩),.pointer (some ⟨b,0,none⟩),.pointer (some ⟨px,0,none⟩),.int .i64 (c:Int),.pointer (some ⟨b,0,none⟩),.pointer (some ⟨b,0,none⟩),.pointer (some ⟨b,0,none⟩),.pointer (some ⟨px,0,none⟩),u1,u2,.pointer (some ⟨b,0,none⟩),.pointer (some ⟨b,0,none⟩),.pointer (some ⟨b,0,none⟩),.pointer (some ⟨px,0,none⟩),u3,u4,u5,.pointer (some ⟨b,0,none⟩),.pointer (some ⟨b,0,none⟩),.pointer (some ⟨b,0,none⟩),.pointer (some ⟨px,0,none⟩),.int .i64 ((2:Nat):Int),undef,undef,undef,undef,undef,.bool false,.bool false,undef,undef,undef,undef,undef,undef,undef,undef,undef,undef,.bool false,.bool false,undef,undef,undef,undef,undef,undef,undef,undef,undef,undef,.bool true,.bool true,ad,ae,af,ag,ah,ai,aj,ak,al,am,an,ao,ap,aq,ar,au,av,aw,ax,ay,az,aA,undef,undef,undef,undef,undef,undef,undef,undef,undef,undef,undef,undef,undef,undef,undef,undef,undef,undef,undef,undef],[]⟩∧Plain l∧WrM B W b px cv code { S with lines:=S.lines++[l] } k' V'∧Fr b px w V0 W V'∧Sq S.nk S.fs S.held S.counts [l] 1 (gvOf V') 1) ?_ ?_
   ·rintro a' W ⟨l,ad,ae,af,ag,ah,ai,aj,ak,al,am,an,ao,ap,aq,ar,au,av,aw,ax,ay,az,aA,y,x,rfl,hP,v,F8,Q8⟩;go_wp2;go_ret;exact⟨rfl,l,hP,y,x,v,F8,Q8⟩
   ·go_region_with(first
     | (go_at_call 41;first
         | ((with_reducible refine(ze5 M.blk.di 3 (by omega)).mono ?_);rintro e w5 ⟨i,rfl,q,k5,D5,O⟩;have f:=f.trans (Fr.grown O);have M:=M.threw D5 O;have L:=M.blk.lt;have Y:(0:Int)≤(i:Int):=Int.natCast_nonneg _;have E:=zdr w5 q;have aF:=zjz i)
         | ((with_reducible refine(ze5 (C.alloc _).drew.blk.di 3 (by omega)).mono ?_);rintro e w5 ⟨i,rfl,q,k5,D5,O⟩;have O:=znb O;have m:=zvz O C.blk.di.lt;have d:=Nat.lt_of_lt_of_le (Nat.lt_succ_self _) (zxJ O);have f:=(P.trans (Fr.low ((Below.refl _ _).alloc (Nat.le_refl _) _))).trans (Fr.grown O);have Z:=C.newNot;have M:=(C.alloc _).threw D5 O;have L:=M.blk.lt;have Y:(0:Int)≤(i:Int):=Int.natCast_nonneg _;have j:=zcI m q;have aF:=zjz i))
     | (go_at_call 118;first
         | ((with_reducible refine(zca M rf hrf hf).mono ?_);rintro e Q ⟨r,rfl,p,J,k6,V6,n,N,u6⟩;(try have m:=(N.keep _ d Z).trans m);(try have Z:=fun e=>Z (N.mine _ d e));(try have d:=Nat.lt_of_lt_of_le d N.size);have f:=f.trans N;have M:=n;have L:=n.blk.lt;(try have j:=zcI m q);have E:=zdr Q q)
         | ((with_reducible refine(zca (M.alloc _) rf hrf hf).mono ?_);rintro e Q ⟨r,rfl,p,J,k6,V6,n,N,u6⟩;have m:=(N.keep _ (zd4 _) M.newNot).trans (heap_alloc_new _ _);have Z:=fun e=>M.newNot (N.mine _ (zd4 _) e);have d:=Nat.lt_of_lt_of_le (zd4 _) N.size;have f:=(f.trans (Fr.low ((Below.refl _ _).alloc (Nat.le_refl _) _))).trans N;have M:=n;have L:=n.blk.lt;have j:=zcI m q))
     | (go_at_call 38;first
         | ((with_reducible refine(zbp r p _).mono ?_);rintro e R ⟨A1,rfl,aB,aa,a⟩;first
             | (have h:=M.below a M.base;(try have m:=(a.block _ d).trans m);(try have d:=Nat.lt_of_lt_of_le d a.size);have f:=f.trans (.low a);have M:=h;have L:=h.blk.lt;(try have j:=zcI m q);have E:=zdr R q)
             | (have h:=(M.alloc _).below a (M.alloc _).base;have m:=(a.block _ (zd4 _)).trans (heap_alloc_new _ _);have Z:=M.newNot;have d:=Nat.lt_of_lt_of_le (zd4 _) a.size;have f:=(f.trans (Fr.low ((Below.refl _ _).alloc (Nat.le_refl _) _))).trans (.low a);have M:=h;have L:=h.blk.lt;have j:=zcI m q))
         | ((with_reducible refine(zbp c1 g _).mono ?_);rintro e R ⟨A2,rfl,aC,ab,a⟩;first
             | (have h:=M.below a M.base;(try have m:=(a.block _ d).trans m);(try have d:=Nat.lt_of_lt_of_le d a.size);have f:=f.trans (.low a);have M:=h;have L:=h.blk.lt;(try have j:=zcI m q);have E:=zdr R q)
             | (have h:=(M.alloc _).below a (M.alloc _).base;have m:=(a.block _ (zd4 _)).trans (heap_alloc_new _ _);have Z:=M.newNot;have d:=Nat.lt_of_lt_of_le (zd4 _) a.size;have f:=(f.trans (Fr.low ((Below.refl _ _).alloc (Nat.le_refl _) _))).trans (.low a);have M:=h;have L:=h.blk.lt;have j:=zcI m q))
         | ((with_reducible refine(zbp c X _).mono ?_);rintro e R ⟨A3,rfl,aD,ac,a⟩;first
             | (have h:=M.below a M.base;(try have m:=(a.block _ d).trans m);(try have d:=Nat.lt_of_lt_of_le d a.size);have f:=f.trans (.low a);have M:=h;have L:=h.blk.lt;(try have j:=zcI m q);have E:=zdr R q)
             | (have h:=(M.alloc _).below a (M.alloc _).base;have m:=(a.block _ (zd4 _)).trans (heap_alloc_new _ _);have Z:=M.newNot;have d:=Nat.lt_of_lt_of_le (zd4 _) a.size;have f:=(f.trans (Fr.low ((Below.refl _ _).alloc (Nat.le_refl _) _))).trans (.low a);have M:=h;have L:=h.blk.lt;have j:=zcI m q)))
     | (go_at_call 62;first
         | ((with_reducible refine(zbE M (aluL i r c1 c) _ (zqb i aa ab ac) (zna i aB aC aD) (by omega)).mono ?_);rintro e w8 ⟨rfl,y,x,v,o⟩;have F8:=f.trans o)
         | ((with_reducible refine(zbE (M.alloc _) (aluL i r c1 c) _ (zqb i aa ab ac) (zna i aB aC aD) (by omega)).mono ?_);rintro e w8 ⟨rfl,y,x,v,o⟩;have F8:=(f.trans (Fr.low ((Below.refl _ _).alloc (Nat.le_refl _) _))).trans o)))
    all_goals exact⟨aluL i r c1 c,_,_,_,_,_,_,_,_,_,_,_,_,_,_,_,_,_,_,_,_,_,_,y,x,rfl,zvf i p g X,v,F8,.alu i p g X J (o.gv _ u6)⟩
  ·skip
   go_wp2_with(first
    | (go_at_call 118;(with_reducible refine(zca C rf hrf hf).mono ?_);rintro e w5 ⟨r,rfl,p,J,k5,V5,H,U,u5⟩;have f:=P.trans U)
    | (go_at_call 38;(with_reducible refine(zbp r p _).mono ?_);rintro e Q ⟨A,rfl,zA,I,a⟩;have n:=H.below a H.base;have G:=f.trans (.low a))
    | (go_at_call 36;(with_reducible refine(zfb K hK _).mono ?_);rintro e R ⟨D,rfl,zD,hD,t⟩;have h:=n.below t n.base;have F7:=G.trans (.low t))
    | (go_at_call 62;refine Hid.out ?_))
   unfold Hid;refine(zbE h (incL r K) _ (by rw [Hid.out2 I,Hid.out2 hD];exact ln2 _ _ _) (by simp only [ByteArray.size_append];show 4+A.size+1+D.size≤1000;omega) (by omega)).mono ?_;rintro e w8 ⟨rfl,y,x,v,o⟩;dsimp only;go_wp2;go_ret;exact⟨rfl,_,zmX p hK,y,x,v,F7.trans o,.inc p hK J (o.gv _ u5)⟩
  ·skip
   go_wp2_with(first
    | (go_at_call 118;(with_reducible refine(zca C rf hrf hf).mono ?_);rintro e w5 ⟨r,rfl,p,J,k5,V5,H,U,u5⟩;have f:=P.trans U)
    | (go_at_call 38;(with_reducible refine(zbp r p _).mono ?_);rintro e Q ⟨A,rfl,zA,I,a⟩;have n:=H.below a H.base;have G:=f.trans (.low a))
    | (go_at_call 62;refine Hid.out ?_))
   unfold Hid;refine(zbE n (zse r) _ (by rw [Hid.out2 I];exact ln1 _ _) (by simp only [ByteArray.size_append];show 5+A.size≤1000;omega) (by omega)).mono ?_;rintro e w8 ⟨rfl,y,x,v,o⟩;dsimp only;go_wp2;go_ret;exact⟨rfl,_,zsf p,y,x,v,G.trans o,.read p J (o.gv _ u5)⟩
  ·skip
   go_wp2_with(first
    | (go_at_call 38;(with_reducible refine(zbp c1 g _).mono ?_);rintro e Q ⟨A,rfl,zA,I,a⟩;have n:=C.below a C.base;have G:=P.trans (.low a))
    | (go_at_call 62;refine Hid.out ?_))
   unfold Hid;refine(zbE n (zjw c1) _ (by rw [Hid.out2 I];exact ln1 _ _) (by simp only [ByteArray.size_append];show 6+A.size≤1000;omega) (by omega)).mono ?_;rintro e w8 ⟨rfl,y,x,v,o⟩;dsimp only;go_wp2;go_ret;exact⟨rfl,_,zjx g,y,x,v,G.trans o,.write g⟩
  ·skip
   go_wp2_with(first
    | (go_at_call 38;(with_reducible refine(zbp c1 g _).mono ?_);rintro e Q ⟨A,rfl,zA,I,a⟩;have n:=C.below a C.base;have G:=P.trans (.low a))
    | (go_at_call 62;refine Hid.out ?_))
   unfold Hid;refine(zbE n (zjw c1) _ (by rw [Hid.out2 I];exact ln1 _ _) (by simp only [ByteArray.size_append];show 6+A.size≤1000;omega) (by omega)).mono ?_;rintro e w8 ⟨rfl,y,x,v,o⟩;dsimp only;go_wp2;go_ret;exact⟨rfl,_,zjx g,y,x,v,G.trans o,.write g⟩
 ·have H0:w1.drew.cell? ⟨b,0,none⟩=some (.pointer (some ⟨px,0,none⟩)):=H1;go_region_with(first
   | (go_at_call 121;(with_reducible refine(zyf M.drew.blk.di).mono ?_);rintro e w2 ⟨z,rfl,hz,k2,D2,g2⟩;have T:=M.drew.threw D2 g2;have H2:=T.cx;have lb2:=T.blk.lt;have F2:=(F.trans (Fr.low (Below.refl _ _).drew)).trans (Fr.grown g2))
   | (go_at_call 41;first
       | ((with_reducible refine(ze5 (T.alloc _).blk.di 8 (by omega)).mono ?_);rintro e w3 ⟨i,rfl,q,k3,D3,g3⟩;have M3:=(T.alloc _).threw D3 g3;have j:=zsm (z:=z) q T.blk.di.lt g3;have Y:(0:Int)≤(i:Int):=Int.natCast_nonneg _;have F3:=(F2.trans (Fr.low ((Below.refl _ _).alloc (Nat.le_refl _) _))).trans (Fr.grown g3))
       | ((with_reducible refine(ze5 T.blk.di 8 (by omega)).mono ?_);rintro e w3 ⟨i,rfl,q,k3,D3,g3⟩;have M3:=(T.threw D3 g3);have j:=zvy (z:=z) w3 q;have Y:(0:Int)≤(i:Int):=Int.natCast_nonneg _;have F3:=F2.trans (Fr.grown g3))))
  all_goals refine⟨zvw z i,_,_,_,_,_,k3,V,rfl,zvx hz i,?_,?_⟩
  all_goals first
   | exact M3
   | exact M3.alloc _
   | exact F3
   | exact F3.trans (Fr.low ((Below.refl _ _).alloc (Nat.le_refl _) _))
end
end Go.Proofs.YtfpgjkbjbbgciaaGreatDoor
