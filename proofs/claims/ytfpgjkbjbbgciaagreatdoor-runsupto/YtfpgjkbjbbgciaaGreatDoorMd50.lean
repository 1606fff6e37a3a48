import Derived.Test.YtfpgjkbjbbgciaaGreatDoorMd49
set_option maxRecDepth 100000
set_option maxHeartbeats 8000000
namespace Go.Proofs.YtfpgjkbjbbgciaaGreatDoor
open Go.RowKit Sp
theorem zlD{fn:Func}{a b c:Tmp}{w X:World}{T:Told}{ao:Option Addr}{no co:Nat}{act:Act}(pr:Nat)(hpr:w.heap.size≤pr)(hr3:fn.results=#[.cell a 34,.tmp b,.tmp c])(ds:List Value)(hds:zav T.m (.slice ao no co) T.at_=ds)(ht:X.there pr 0 ds.toArray.size)(hb:Below w.heap.size w X)(how:X.ownsRow w.heap.size 2 1 (.slice ao no co) T.m.out.length (i64s T.m.out))
  (hne:∀ q,(Value.slice ao no co).ownBlock=some q→¬q=pr)
  (hp:act.tmps.getD a undef=.pointer (some ⟨pr,0,none⟩)) (h1:act.tmps.getD b undef=.int .i64 T.err) (h2:act.tmps.getD c undef=.int .i64 T.line) (hd:act.defers=[]) :
  bodyPost Tryz.prog fn (ze6 w T) .ret act (X.setCells pr 0 ds):=by
 have hl:ds.length=30:=by rw [←hds];exact zaS _ _ _
 have hu34:Tryz.prog.underlying 34=some (.struct _):=Tryz.underlying34
 have hr:=World.rangeAt_setCells_same X pr 0 ds (by rw [show ds.length=ds.toArray.size by simp];exact ht)
 have hres:=run_loadVar_mid (X.setCells pr 0 ds) pr 0 34 ds _ hr hu34 rfl (by rw [hl];exact Tryz.info34)
 have hr2:=zjZ hr3 act.tmps ⟨pr,0,none⟩ hp hres
 rw [h1,h2] at hr2
 refine bodyPost_ret hr2 hd ⟨ao,no,co,by rw [hds],?_,zar ds 0 hb hpr⟩
 exact zas how (fun q hq=>zb4 ds X _ _ _ (hne q hq))
theorem zeY(w:World):Below w.heap.size w (OutW w):=((Below.refl _ _).alloc (Nat.le_refl _) _).alloc (by simp) _
theorem zfx{w w':World}{B b o:Nat}{cs:List Value}(h:w.rangeAt b o cs)(hb:Below B w w')(hB:b<B):w'.rangeAt b o cs:=fun j u hj=>(hb.cell (p:=⟨b,o+j,none⟩) hB).trans (h j u hj)
theorem znh{w w':World}{b o:Nat}{cs:List Value}(h:w.rangeAt b o cs)(e:w'.heap[b]?=w.heap[b]?):w'.rangeAt b o cs:=fun j u hj=>(World.cell?_of_block (w:=w) (a:=⟨b,o+j,none⟩) e).trans (h j u hj)
theorem zni{w w':World}{b o n:Nat}(h:w.there b o n)(e:w'.heap[b]?=w.heap[b]?):w'.there b o n:=fun j hj=>by
 obtain⟨h1,h2⟩:=h j hj
 exact⟨by rw [World.cell?_of_block (w:=w) (a:=⟨b,o+j,none⟩) e];exact h1,by rw [World.frozen?_of_block (w:=w) (a:=⟨b,o+j,none⟩) e];exact h2⟩
theorem zql{W w1:World}{pr:Nat}{m:Mc}{line:Int}(hpr:pr<W.heap.size)(h:zsV (OutW W) pr m line w1):
  w1.cell? ⟨W.heap.size,0,none⟩=some (.int .i64 0)∧w1.cell? ⟨W.heap.size+1,0,none⟩=some (.int .i64 0)∧w1.frozen? ⟨W.heap.size,0,none⟩=false∧w1.frozen? ⟨W.heap.size+1,0,none⟩=false:=by
 obtain⟨wz,ao,no,co,rfl,hb,_⟩:=h
 have hs:(OutW W).heap.size=W.heap.size+1+1:=by simp
 have e0:(wz.setCells pr 0 (zav m (.slice ao no co) line)).heap[W.heap.size]?=(OutW W).heap[W.heap.size]?:=(zb4 _ wz pr 0 _ (by omega)).trans (hb.block _ (by omega))
 have e1:(wz.setCells pr 0 (zav m (.slice ao no co) line)).heap[W.heap.size+1]?=(OutW W).heap[W.heap.size+1]?:=(zb4 _ wz pr 0 _ (by omega)).trans (hb.block _ (by omega))
 refine⟨?_,?_,?_,?_⟩
 ·rw [World.cell?_of_block (w:=OutW W) (a:=⟨W.heap.size,0,none⟩) e0];simp [OutW]
 ·rw [World.cell?_of_block (w:=OutW W) (a:=⟨W.heap.size+1,0,none⟩) e1];simp [OutW]
 ·rw [World.frozen?_of_block (w:=OutW W) (a:=⟨W.heap.size,0,none⟩) e0];simp [OutW]
 ·rw [World.frozen?_of_block (w:=OutW W) (a:=⟨W.heap.size+1,0,none⟩) e1];simp [OutW]
end Go.Proofs.YtfpgjkbjbbgciaaGreatDoor
namespace Go.Proofs.YtfpgjkbjbbgciaaGreatDoor
open Go.ChangeShapes Go.WideShapes Go.ChangeAt Go.RowKit Sp
open Go.ChangeMaps (open_string shut_string)
theorem znI{H:Type}{enc:TypeId × Value→H}{W:World}{base:Nat}{v:Value}{d:DataW H}{p:List MemPlace}(hval:Value.okWide Tryz.prog W .any base 29 v)(h:DataW.Trod enc Tryz.prog W 0 (fun _=>true) true 29 v d p):
  ∃(ao:Option Addr) (icap:Nat) (inp:List Int),v=.slice ao inp.length icap∧SlB W W.heap.size (.slice ao inp.length icap) inp∧inp.length≤Rows.uptoBulk d∧(∀ x∈inp,i64 x)∧inp.length≤9223372036854775807 ∧
   ∀ W',Below W.heap.size W W'→DataW.Trod enc Tryz.prog W' 0 (fun b=>decide (b<W.heap.size)) true 29 v d p:=by
 obtain⟨a0,len0,cap0,rfl⟩:=okWide_slice Tryz.underlying29 hval
 obtain⟨fuel,hf⟩:=h
 have hc:Tryz.prog.cellsOf 2=1:=by kernel_rfl
 rcases open_ints Tryz.underlying29 Tryz.underlying2 hc hf with ⟨hcs,hx⟩|⟨a,len,cap,zs,hcs,_,hle,hmax,hall,hx,hcell,hwf⟩
 ·simp [Value.cells] at hcs
  obtain⟨rfl,rfl,rfl⟩:=hcs
  simp only [Prod.mk.injEq] at hx
  obtain⟨rfl,rfl⟩:=hx
  refine⟨none,0,[],rfl,⟨none,0,rfl,Nat.le_refl _,fun h=>by simp at h⟩,Nat.zero_le _,(fun x hx=>(by cases hx)),Nat.zero_le _,fun W' _=>⟨1,?_⟩⟩
  simp [DataW.trod,Value.cells,Tryz.underlying29]
 ·simp [Value.cells] at hcs
  obtain⟨rfl,rfl,rfl⟩:=hcs
  simp only [Prod.mk.injEq] at hx
  obtain⟨rfl,rfl⟩:=hx
  simp only [if_true] at hall
  have hlt:(zs.take len0).length=len0:=by rw [List.length_take];omega
  refine⟨some a,cap0,zs.take len0,by rw [hlt],⟨some a,cap0,rfl,by omega,fun hp=>?_⟩,?_,fun x hx=>?_,by rw [hlt];exact Nat.le_trans hle (Nat.le_trans hmax (by decide)),fun W' hb=>⟨2,?_⟩⟩
  ·obtain⟨b,off,rfl,hat⟩:=ints_at hcell (by omega)
   have hbl:b<W.heap.size:=World.block_lt_of_cell? W _ (hat 0 (by omega))
   refine⟨b,off,rfl,hbl,hbl,fun j hj=>?_⟩
   rw [hat j (by omega)]
   simp [List.getD,show j<zs.length by omega]
  ·have:=zqn (lits (H:=H) .i64 (zs.take len0)) (lits .i64 (zs.drop len0))
   have hll:(lits (H:=H) .i64 (zs.take len0)).length=(zs.take len0).length:=by simp [lits]
   rw [hll] at this
   exact Nat.le_trans (Nat.le_add_right _ _) this
  ·have:=hwf x (List.mem_of_mem_take hx)
   simp only [Lit.wf,Bool.and_eq_true,decide_eq_true_eq] at this
   exact this
  ·have hz:zs.length=(if decide (a.block<W.heap.size)=true then cap0 else len0):=by
    by_cases h0:0<zs.length
    ·have:a.block<W.heap.size:=by
      have:=World.block_lt_of_cell? W _ (hcell 0 h0)
      simpa [Addr.add] using this
     rw [if_pos (by simpa using this)];exact hall
    ·split <;> omega
   have:=shut_ints (enc:=enc) (P:=Tryz.prog) (w:=W') (base:=0) (spare:=fun b=>decide (b<W.heap.size)) (held:=true) 0 Tryz.underlying29 Tryz.underlying2 hc (Nat.zero_le _) hle hmax hz (fun i hi=>zaC hb (hcell i hi)) hwf
   simpa [Value.cells] using this
end Go.Proofs.YtfpgjkbjbbgciaaGreatDoor
namespace Go.Proofs.YtfpgjkbjbbgciaaGreatDoor
open Go.RowKit Sp
theorem zgg(V:World)(cs:Array Value)(t:TypeId)(j:Nat):(V.alloc (.cells cs t)).frozen? ⟨V.heap.size,j,none⟩=false:=by simp
abbrev VfW(w:World)(s:ByteArray):World:=(w.alloc (.cells #[.string s] 9)).alloc (.cells #[.int .i64 0,.int .i64 0] 42)
theorem zkw(w:World)(s:ByteArray):(VfW w s).heap.size=w.heap.size+1+1:=by simp
theorem zi2(w:World)(s:ByteArray):Below w.heap.size w (VfW w s):=((Below.refl _ _).alloc (Nat.le_refl _) _).alloc (by simp) _
theorem ztT(w:World)(s:ByteArray):(VfW w s).cell? ⟨w.heap.size,0,none⟩=some (.string s)∧(VfW w s).cell? ⟨w.heap.size+1,0,none⟩=some (.int .i64 0)∧(VfW w s).cell? ⟨w.heap.size+1,1,none⟩=some (.int .i64 0)∧∀ j,(VfW w s).frozen? ⟨w.heap.size+1,j,none⟩=false:=by
 have e:(w.alloc (.cells #[.string s] 9)).heap.size=w.heap.size+1:=by simp
 have h1:=World.cell?_alloc_new (w:=w) #[.string s] 9 0
 have h2:=fun j=>World.cell?_alloc_new (w:=w.alloc (.cells #[.string s] 9)) #[.int .i64 0,.int .i64 0] 42 j
 rw [e] at h2
 refine⟨?_,h2 0,h2 1,fun j=>?_⟩
 ·exact(World.cell?_of_block (a:=⟨w.heap.size,0,none⟩) (Below.heap_alloc _ _ _ (by show w.heap.size<_;rw [e];omega))).trans h1
 ·have:∀ j,((w.alloc (.cells #[.string s] 9)).alloc (.cells #[.int .i64 0,.int .i64 0] 42)).frozen? ⟨(w.alloc (.cells #[.string s] 9)).heap.size,j,none⟩=false:=fun j=>by simp
  rw [e] at this
  exact this j
def zmo(w:World)(bs bf er ln:Int):Ending→World→Prop:=fun e w'=>e=.returned (.tuple #[.agg #[.int .i64 bs,.int .i64 bf],.int .i64 er,.int .i64 ln])∧Below w.heap.size w w'
theorem zeG(w:World)(s:ByteArray)(er ln:Int)(hcall:Calls Tryz.prog 59 #[.pointer (some ⟨w.heap.size,0,none⟩),.pointer (some ⟨w.heap.size+1,0,none⟩)] (OutW (VfW w s)) fun e w'=>e=zaj er ln∧Below (OutW (VfW w s)).heap.size (OutW (VfW w s)) w'):
  Calls Tryz.prog 26 #[.string s] w (zmo w 0 0 er ln):=by
 have hmf:∀(fn:Go.Fn) (first cap:Array Value) (w:World),(Instr.makeFunc fn first cap).run Tryz.prog w=.ok (.func fn first cap) w:=fun _ _ _ _=>rfl
 have hout:=ze2 59 _ (VfW w s) er ln (fun W=>by kernel_rfl) hcall
 have hsz:=zkw w s
 have hbw:=zi2 w s
 obtain⟨_,d0,d1,z⟩:=ztT w s
 go_enter Tryz.func26,Tryz.ntmps26
 go_wp2_with(first|(go_at_call 42;refine hout.mono ?_;rintro e w5 ⟨rfl,hb5⟩;refine Hid.out ?_))
 unfold Hid
 have hlt:w.heap.size+1<(VfW w s).heap.size:=by rw [hsz];omega
 have e0:w5.cell? ⟨w.heap.size+1,0,none⟩=some (.int .i64 0):=(World.cell?_of_block (a:=⟨w.heap.size+1,0,none⟩) (hb5.block _ hlt)).trans d0
 have e1:w5.cell? ⟨w.heap.size+1,1,none⟩=some (.int .i64 0):=(World.cell?_of_block (a:=⟨w.heap.size+1,1,none⟩) (hb5.block _ hlt)).trans d1
 have z0:w5.frozen? ⟨w.heap.size+1,0,none⟩=false:=(World.frozen?_of_block (a:=⟨w.heap.size+1,0,none⟩) (hb5.block _ hlt)).trans (z 0)
 have z1:w5.frozen? ⟨w.heap.size+1,1,none⟩=false:=(World.frozen?_of_block (a:=⟨w.heap.size+1,1,none⟩) (hb5.block _ hlt)).trans (z 1)
 have hb05:Below w.heap.size w w5:=hbw.trans (hb5.mono hbw.size)
 clear hout hcall d0 d1 z hbw hsz hb5 hlt
 go_wp2
 refine bodyPost_ret (v:=.tuple #[.agg #[.int .i64 0,.int .i64 0],.int .i64 er,.int .i64 ln]) (by simp [results,Tryz.results26,go_sem,e0,e1]) rfl ⟨rfl,?_⟩
 exact(hb05.setCell (p:=⟨w.heap.size+1,0,none⟩) (Nat.le_succ _) _).setCell (p:=⟨w.heap.size+1,1,none⟩) (Nat.le_succ _) _
theorem zqY(w:World)(s:ByteArray)(bs bf:Int)(hcall:Calls Tryz.prog 59 #[.pointer (some ⟨w.heap.size,0,none⟩),.pointer (some ⟨w.heap.size+1,0,none⟩)] (OutW (VfW w s)) fun e w'=>e=.returned (.tuple #[])∧∃ w1,Below (OutW (VfW w s)).heap.size (OutW (VfW w s)) w1∧w'=(w1.setCell ⟨w.heap.size+1,0,none⟩ (.int .i64 bs)).setCell ⟨w.heap.size+1,1,none⟩ (.int .i64 bf)):
  Calls Tryz.prog 26 #[.string s] w (zmo w bs bf 0 0):=by
 have hmf:∀(fn:Go.Fn) (first cap:Array Value) (w:World),(Instr.makeFunc fn first cap).run Tryz.prog w=.ok (.func fn first cap) w:=fun _ _ _ _=>rfl
 have hsz:=zkw w s
 have hbw:=zi2 w s
 obtain⟨_,d0,d1,z⟩:=ztT w s
 have hso:(OutW (VfW w s)).heap.size=w.heap.size+1+1+1+1:=by simp
 have hbo:=zeY (VfW w s)
 have ho0:(OutW (VfW w s)).cell? ⟨(VfW w s).heap.size,0,none⟩=some (.int .i64 0):=by
  have h1:=World.cell?_alloc_new (w:=VfW w s) #[.int .i64 0] 22 0
  exact(World.cell?_of_block (a:=⟨(VfW w s).heap.size,0,none⟩) (Below.heap_alloc _ _ _ (by simp))).trans h1
 have ho1:(OutW (VfW w s)).cell? ⟨(VfW w s).heap.size+1,0,none⟩=some (.int .i64 0):=by
  have h1:=World.cell?_alloc_new (w:=(VfW w s).alloc (.cells #[.int .i64 0] 22)) #[.int .i64 0] 3 0
  rw [show((VfW w s).alloc (.cells #[.int .i64 0] 22)).heap.size=(VfW w s).heap.size+1 by simp] at h1
  exact h1
 have hf0:(OutW (VfW w s)).frozen? ⟨(VfW w s).heap.size,0,none⟩=false:=by
  have h1:=zgg (VfW w s) #[.int .i64 0] 22 0
  exact(World.frozen?_of_block (a:=⟨(VfW w s).heap.size,0,none⟩) (Below.heap_alloc _ _ _ (by simp))).trans h1
 have hf1:(OutW (VfW w s)).frozen? ⟨(VfW w s).heap.size+1,0,none⟩=false:=by
  have h1:=zgg ((VfW w s).alloc (.cells #[.int .i64 0] 22)) #[.int .i64 0] 3 0
  rw [show((VfW w s).alloc (.cells #[.int .i64 0] 22)).heap.size=(VfW w s).heap.size+1 by simp] at h1
  exact h1
 have hbk:∀ w1 b,Below (OutW (VfW w s)).heap.size (OutW (VfW w s)) w1→b<w.heap.size+4→¬b=w.heap.size+1→((w1.setCell ⟨w.heap.size+1,0,none⟩ (.int .i64 bs)).setCell ⟨w.heap.size+1,1,none⟩ (.int .i64 bf)).heap[b]?=(OutW (VfW w s)).heap[b]?:=fun w1 b hb hlt hne=>(Below.heap_setCell _ _ _ b hne).trans ((Below.heap_setCell _ _ _ b hne).trans (hb.block b (by rw [hso];omega)))
 have hout:=zhJ 59 _ (VfW w s) _ (fun W=>by kernel_rfl) hcall (fun w2 ⟨w1,hb,e⟩=>by
  subst e
  rw [hsz]
  rw [hsz] at ho0 ho1 hf0 hf1
  exact⟨(World.cell?_of_block (a:=⟨w.heap.size+1+1,0,none⟩) (hbk w1 _ hb (by show w.heap.size+1+1<_;omega) (by show ¬w.heap.size+1+1=_;omega))).trans ho0,(World.cell?_of_block (a:=⟨w.heap.size+1+1+1,0,none⟩) (hbk w1 _ hb (by show w.heap.size+1+1+1<_;omega) (by show ¬w.heap.size+1+1+1=_;omega))).trans ho1,(World.frozen?_of_block (a:=⟨w.heap.size+1+1,0,none⟩) (hbk w1 _ hb (by show w.heap.size+1+1<_;omega) (by show ¬w.heap.size+1+1=_;omega))).trans hf0,(World.frozen?_of_block (a:=⟨w.heap.size+1+1+1,0,none⟩) (hbk w1 _ hb (by show w.heap.size+1+1+1<_;omega) (by show ¬w.heap.size+1+1+1=_;omega))).trans hf1⟩)
 have HV:Hid (∀ w1,Below (OutW (VfW w s)).heap.size (OutW (VfW w s)) w1→∀ w5,w5=(((w1.setCell ⟨w.heap.size+1,0,none⟩ (.int .i64 bs)).setCell ⟨w.heap.size+1,1,none⟩ (.int .i64 bf)).setCell ⟨(VfW w s).heap.size,0,none⟩ (.int .i64 0)).setCell ⟨(VfW w s).heap.size+1,0,none⟩ (.int .i64 0)→w5.cell? ⟨w.heap.size+1,0,none⟩=some (.int .i64 bs)∧w5.cell? ⟨w.heap.size+1,1,none⟩=some (.int .i64 bf)∧w5.frozen? ⟨w.heap.size+1,0,none⟩=false∧w5.frozen? ⟨w.heap.size+1,1,none⟩=false∧Below w.heap.size w w5):=fun w1 hb w5 e5=>by
  have hlt:w.heap.size+1<(OutW (VfW w s)).heap.size:=by rw [hso];omega
  have q:∀ b,b<(VfW w s).heap.size→(OutW (VfW w s)).heap[b]?=(VfW w s).heap[b]?:=fun b hlb=>hbo.block b hlb
  have hb1:w1.heap[w.heap.size+1]?=(VfW w s).heap[w.heap.size+1]?:=(hb.block _ hlt).trans (q _ (by rw [hsz];omega))
  have a0:w1.cell? ⟨w.heap.size+1,0,none⟩=some (.int .i64 0):=(World.cell?_of_block (a:=⟨w.heap.size+1,0,none⟩) hb1).trans d0
  have a1:w1.cell? ⟨w.heap.size+1,1,none⟩=some (.int .i64 0):=(World.cell?_of_block (a:=⟨w.heap.size+1,1,none⟩) hb1).trans d1
  have af:∀ j,w1.frozen? ⟨w.heap.size+1,j,none⟩=false:=fun j=>(World.frozen?_of_block (a:=⟨w.heap.size+1,j,none⟩) hb1).trans (z j)
  have b1:(w1.setCell ⟨w.heap.size+1,0,none⟩ (.int .i64 bs)).cell? ⟨w.heap.size+1,1,none⟩=some (.int .i64 0):=by rw [zan _ (w.heap.size+1) 0 1 _ _ a0,if_neg (by omega)];exact a1
  have b0:(w1.setCell ⟨w.heap.size+1,0,none⟩ (.int .i64 bs)).cell? ⟨w.heap.size+1,0,none⟩=some (.int .i64 bs):=World.cell?_setCell_same _ _ _ a0
  have e:w5.heap[w.heap.size+1]?=((w1.setCell ⟨w.heap.size+1,0,none⟩ (.int .i64 bs)).setCell ⟨w.heap.size+1,1,none⟩ (.int .i64 bf)).heap[w.heap.size+1]?:=by
   rw [e5,hsz]
   exact(Below.heap_setCell _ _ _ _ (by show ¬w.heap.size+1=w.heap.size+1+1+1;omega)).trans (Below.heap_setCell _ _ _ _ (by show ¬w.heap.size+1=w.heap.size+1+1;omega))
  refine⟨(World.cell?_of_block (a:=⟨w.heap.size+1,0,none⟩) e).trans ?_,(World.cell?_of_block (a:=⟨w.heap.size+1,1,none⟩) e).trans (World.cell?_setCell_same _ _ _ b1),(World.frozen?_of_block (a:=⟨w.heap.size+1,0,none⟩) e).trans ?_,(World.frozen?_of_block (a:=⟨w.heap.size+1,1,none⟩) e).trans ?_,?_⟩
  ·rw [zan _ (w.heap.size+1) 1 0 _ _ b1,if_neg (by omega)];exact b0
  ·rw [zcZ,zcZ];exact af 0
  ·rw [zcZ,zcZ];exact af 1
  ·rw [e5,hsz]
   exact((((hbw.trans ((hbo.mono hbw.size).trans (hb.mono (by rw [hso];omega)))).setCell (p:=⟨w.heap.size+1,0,none⟩) (Nat.le_succ _) _).setCell (p:=⟨w.heap.size+1,1,none⟩) (Nat.le_succ _) _).setCell (p:=⟨w.heap.size+1+1,0,none⟩) (by show w.heap.size≤w.heap.size+1+1;omega) _).setCell (p:=⟨w.heap.size+1+1+1,0,none⟩) (by show w.heap.size≤w.heap.size+1+1+1;omega) _
 clear hbk ho0 ho1 hf0 hf1 d0 d1 z hcall
 go_enter Tryz.func26,Tryz.ntmps26
 go_wp2_with(first|(go_at_call 42;refine hout.mono ?_;rintro e w5 ⟨rfl,w1,⟨wz,hbz,hq⟩,hw5⟩;have HW5:Hid _:=hw5;clear hw5;refine Hid.out ?_))
 have hw5:=HW5.out
 clear HW5
 unfold Hid
 rw [hq] at hw5
 obtain⟨e0,e1,z0,z1,hb05⟩:=HV.out wz hbz w5 hw5
 clear hw5 hq hout HV hbo hso hbw
 go_wp2
 refine bodyPost_ret (v:=.tuple #[.agg #[.int .i64 bs,.int .i64 bf],.int .i64 0,.int .i64 0]) (by simp [results,Tryz.results26,go_sem,e0,e1]) rfl ⟨rfl,?_⟩
 exact(hb05.setCell (p:=⟨w.heap.size+1,0,none⟩) (Nat.le_succ _) _).setCell (p:=⟨w.heap.size+1,1,none⟩) (Nat.le_succ _) _
end Go.Proofs.YtfpgjkbjbbgciaaGreatDoor
