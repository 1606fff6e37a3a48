import Derived.Test.YtfpgjkbjbbgciaaGreatDoorMd08
import Derived.Test.YtfpgjkbjbbgciaaGreatDoorMd10
import Derived.Maps.Own
import Derived.Maps.OwnOps
import Derived.Maps.OwnSet
import Derived.Maps.AppendAt
import Derived.Maps.Views
import Derived.Deep.AppendLies
import Derived.Deep.DrawnRows
import Derived.RegionDies
set_option maxRecDepth 100000
set_option maxHeartbeats 8000000
namespace Go.Proofs.YtfpgjkbjbbgciaaGreatDoor
open Go.RowKit Sp
theorem zrT(w:World)(g cap:Nat)(x:ByteArray)(line:Int)(hl:WordsIn w g [x])(HS:Hid (zaa x=[])):
  Calls Tryz.prog 130 #[.slice (some ⟨g,0,none⟩) 1 cap,.int .i64 line] w fun e w'=>Below w.heap.size w w'∧e=.returned (stm 2 line x 0 0 0 0 ⟨#[]⟩):=by
 have hc0:=hl 0 (by simp)
 simp only [List.getElem_cons_zero] at hc0
 have hlt:g<w.heap.size:=by
  have:=World.block_lt_of_cell? w _ hc0;simpa using this
 go_enter Tryz.func130,Tryz.ntmps130
 go_wp2_with(first
  | (go_at_call 149;refine(zkD x _ HS).mono ?_;rintro e wx ⟨rfl,hww⟩;have h2:=hww.symm;subst h2))
 refine wp_loop_rounds 1 ?_
 rw [rounds_succ]
 go_wp2
 refine bodyPost_ret (v:=stm 2 line x 0 0 0 0 ⟨#[]⟩) (by simp [results,Tryz.results130,go_sem]) rfl ⟨?_,rfl⟩
 exact((Below.refl _ _).alloc (Nat.le_refl _) _).alloc (by simp) _
theorem zuC(w:World)(hw:LibW w)(g cap:Nat)(x:ByteArray)(r:List ByteArray)(line:Int)(hl:WordsIn w g (x :: r))(hsz:∀ j (hj:j<r.length),r[j].size≤1048576)(hn:r.length≤1048576):
  Calls Tryz.prog 130 #[.slice (some ⟨g,0,none⟩) (r.length+1) cap,.int .i64 line] w (zrQ w x r line):=by
 have hs3:=zk3 x
 by_cases h63:zaa x=[63]
 ·refine(zrS w g cap x r line hl hn h63).mono ?_
  rintro e w' ⟨h1,h2⟩
  exact⟨h2,.inr ⟨by unfold zgV;rw [if_pos (.inl h63)],h1⟩⟩
 ·by_cases hlen:r.length=(zaa x).length
  ·have hio:zgV x r=zaT (zaa x) r:=by unfold zgV;rw [if_neg];rintro(h|h);exact h63 h;exact h hlen
   by_cases h0:zaa x=[]
   ·have hr:r=[]:=List.eq_nil_of_length_eq_zero (by rw [hlen,h0];rfl)
    subst hr
    refine(zrT w g cap x line hl h0).mono ?_
    rintro e w' ⟨h1,h2⟩
    refine⟨h1,.inl ⟨by rw [hio,h0];rfl,?_⟩⟩
    rw [h2,h0];rfl
   ·refine(zuB w hw g cap x r line hl hsz (zaa x) rfl h63 h0 hs3 (by omega) (by omega)).mono ?_
    rintro e w' ⟨h1,h2⟩
    refine⟨h1,?_⟩
    rw [hio]
    exact h2
  ·refine(zu8 w g cap x r line hl hn (zaa x) rfl h63 hs3 (by simp;omega)).mono ?_
   rintro e w' ⟨h1,h2⟩
   exact⟨h2,.inr ⟨by unfold zgV;rw [if_pos (.inr hlen)],h1⟩⟩
def zfq(q:Said):Int:=if q.kind=102 then 0 else if q.kind=108 then 1 else 2
def zew(q:Said):ByteArray:=if q.kind=105 then q.word 0 else⟨#[]⟩
def zd9(q:Said):ByteArray:=if q.kind=102 then q.word 1 else if q.kind=108 then q.word 0 else zpt (zaa (q.word 0)) q.kept.tail q.kept.tail.length
def opQ(q:Said):Opd:=if q.kind=105 then opK (zaa (q.word 0)) q.kept.tail q.kept.tail.length else opd0
def zwC(w:World)(q:Said)(line:Int):Ending→World→Prop:=fun e w' =>
 Below w.heap.size w w'∧(q.ok=true∧e=.returned (stm (zfq q) line (zew q) (opQ q).a (opQ q).b (opQ q).c (opQ q).n (zd9 q))∨q.ok=false∧e=zaj 1 line)
theorem ziU(x:ByteArray)(h:1≤x.size):∃ l c,x.data.toList=l++[c]∧zfA x=(c.toNat:Int)∧l.length=x.size-1:=by
 have hl:x.data.toList.length=x.size:=by simp
 have hne:x.data.toList≠[]:=by intro e;rw [e] at hl;simp at hl;omega
 obtain⟨l,c,e⟩:∃ l c,x.data.toList=l++[c]:=⟨x.data.toList.dropLast,x.data.toList.getLast hne,(List.dropLast_concat_getLast hne).symm⟩
 have hll:l.length=x.size-1:=by rw [e] at hl;simp at hl;omega
 refine⟨l,c,e,?_,hll⟩
 unfold zfA bt
 rw [←Array.getElem?_toList,e,←hll]
 simp
theorem zea(x:ByteArray)(h:1≤x.size):Lib.hasSuffix x.data.toList [58]=decide (zfA x=58):=by
 obtain⟨l,c,e,h1,_⟩:=ziU x h
 rw [h1,e]
 unfold Lib.hasSuffix List.isSuffixOf
 rw [List.reverse_append]
 by_cases hc:c=58
 ·subst hc;simp [List.isPrefixOf]
 ·have h2:¬58=c:=fun e=>hc e.symm
  have h3:¬(c.toNat:Int)=58:=by
   intro e;apply hc;exact UInt8.toNat_inj.1 (by simp;omega)
  simp [List.isPrefixOf,h2,h3]
theorem zkE(x:ByteArray)(h:1≤x.size)(hs:zfA x=58):(⟨(Lib.trimSuffix x.data.toList [58]).toArray⟩:ByteArray)=x.extract 0 (x.size-1):=by
 obtain⟨l,c,e,_,h2⟩:=ziU x h
 unfold Lib.trimSuffix
 rw [zea x h,hs]
 simp only [decide_true,if_true]
 apply ByteArray.ext
 rw [ByteArray.data_extract]
 apply Array.ext'
 rw [Array.toList_extract,List.extract_eq_take_drop]
 simp only [List.drop_zero,Nat.sub_zero]
 congr 1
theorem zm7(x:ByteArray)(_h:1≤x.size)(hs:zfA x=58):zaa x=[63]:=by
 have key:∀ l:List UInt8,(isW x l=true)→zfA ⟨l.toArray⟩=58:=by
  intro l hl
  have:=zaw x l hl
  rw [←this];exact hs
 unfold zaa
 repeat' split
 all_goals first
  | rfl
  | (exfalso;rename_i hh;simp only [Bool.or_eq_true] at hh;rcases hh with hh|hh <;> (first|(have:=key _ hh;revert this;decide)|(rcases hh with hh|hh <;> (have:=key _ hh;revert this;decide))))
theorem WordsIn.alloc{w:World}{g:Nat}{l:List ByteArray}(h:WordsIn w g l)(o:Obj):WordsIn (w.alloc o) g l:=by
 intro j hj
 have hc:=h j hj
 rw [World.cell?_alloc_lt w o ⟨g,j,none⟩ (by have:=World.block_lt_of_cell? w _ hc;simpa using this)]
 exact hc
abbrev zdm:Obj:=.cells #[.int .i64 0,.int .i64 0,.string ⟨#[]⟩,.int .i64 0,.int .i64 0,.int .i64 0,.int .i64 0,.string ⟨#[]⟩] 135
theorem zdK{w w1:World}{o:Obj}(hb:Below (w.alloc o).heap.size (w.alloc o) w1):Below w.heap.size w w1:=((Below.refl _ _).alloc (Nat.le_refl _) _).trans (hb.mono (by simp))
theorem zjI(w:World)(g cap:Nat)(r:List ByteArray)(line:Int)(hl:WordsIn w g (⟨#[102,117,110,99]⟩ :: r))(hsz:∀ y∈(⟨#[102,117,110,99]⟩ :: r:List ByteArray),y.size≤1048576)(hn:r.length≤1048576)(h:¬((⟨#[102,117,110,99]⟩ :: r:List ByteArray).length=2∧za2 ((⟨#[102,117,110,99]⟩ :: r:List ByteArray).getLast?.getD ByteArray.empty)=true)):
  Calls Tryz.prog 99 #[.slice (some ⟨g,0,none⟩) (r.length+1) cap,.int .i64 line] w fun e w'=>e=zaj 1 line∧Below w.heap.size w w':=by
 have hc0:=hl 0 (by simp)
 simp only [List.getElem_cons_zero] at hc0
 have hlt:g<w.heap.size:=by have:=World.block_lt_of_cell? w _ hc0;simpa using this
 have hcall:=zpr (w.alloc zdm) g cap _ line (hl.alloc _) hsz (by simp;omega) h
 simp only [List.length_cons] at hcall
 go_enter Tryz.func99,Tryz.ntmps99
 go_wp2_with(go_at_call 127;refine hcall.mono ?_;rintro e w1 ⟨rfl,hb⟩)
 exact⟨rfl,rfl,zdK hb⟩
theorem zi8(w:World)(g cap:Nat)(y:ByteArray)(line:Int)(hl:WordsIn w g [⟨#[102,117,110,99]⟩,y])(hy:y.size≤1048576)(hnm:za2 y=true):
  Calls Tryz.prog 99 #[.slice (some ⟨g,0,none⟩) 2 cap,.int .i64 line] w fun e w'=>e=.returned (stm 0 line ⟨#[]⟩ 0 0 0 0 y)∧Below w.heap.size w w':=by
 have hc0:=hl 0 (by simp)
 simp only [List.getElem_cons_zero] at hc0
 have hlt:g<w.heap.size:=by have:=World.block_lt_of_cell? w _ hc0;simpa using this
 have hcall:=zm5 (w.alloc zdm) g cap _ y line (hl.alloc _) hy hnm
 go_enter Tryz.func99,Tryz.ntmps99
 go_wp2_with(go_at_call 127;refine hcall.mono ?_;rintro e w1 ⟨rfl,hb⟩;obtain⟨hc,hf⟩:=zdU hb)
 obtain⟨f0,f1,f2,f3,f4,f5,f6,f7⟩:=zpq (new8 rfl hb)
 refine bodyPost_ret (v:=stm 0 line ⟨#[]⟩ 0 0 0 0 y) (by simp [results,Tryz.results99,go_sem,f0,f1,f2,f3,f4,f5,f6,f7]) rfl ⟨rfl,?_⟩
 exact ziS (zdK hb) (Nat.le_refl _) _ _ _ _ _ _ _ _
theorem zkF(w:World)(g cap:Nat)(x:ByteArray)(r:List ByteArray)(line:Int)(hl:WordsIn w g (x :: r))(hx:x.size≤1048576)(hx1:1≤x.size)(hn:r.length≤1048576)(hnf:(x.toList == [102,117,110,99])=false)(hs:zfA x=58)(h:¬(r.length+1=1∧za2 (x.extract 0 (x.size-1))=true)):
  Calls Tryz.prog 99 #[.slice (some ⟨g,0,none⟩) (r.length+1) cap,.int .i64 line] w fun e w'=>e=zaj 1 line∧Below w.heap.size w w':=by
 have hc0:=hl 0 (by simp)
 simp only [List.getElem_cons_zero] at hc0
 have hlt:g<w.heap.size:=by have:=World.block_lt_of_cell? w _ hc0;simpa using this
 have hcut:=Tryz.strings_CutSuffix x ⟨#[58]⟩ (w.alloc zdm) (by omega)
 rw [show(⟨#[58]⟩:ByteArray).data.toList=[58] from rfl,zea x hx1,zkE x hx1 hs,hs] at hcut
 simp only [decide_true] at hcut
 have hcall:=zps (w.alloc zdm) (some ⟨g,0,none⟩) (r.length+1) cap (x.extract 0 (x.size-1)) line (by rw [ByteArray.size_extract];omega) (by omega) h
 clear hs
 go_enter Tryz.func99,Tryz.ntmps99
 go_wp2_with(first|(go_at_call 128;refine hcut.mono ?_;rintro e wx ⟨rfl,hww⟩;subst hww)|(go_at_call 129;refine hcall.mono ?_;rintro e w1 ⟨rfl,hb⟩))
 exact⟨rfl,rfl,zdK hb⟩
theorem zjJ(w:World)(g cap:Nat)(x:ByteArray)(line:Int)(hl:WordsIn w g [x])(hx:x.size≤1048576)(hx1:1≤x.size)(hnf:(x.toList == [102,117,110,99])=false)(hs:zfA x=58)(h:za2 (x.extract 0 (x.size-1))=true):
  Calls Tryz.prog 99 #[.slice (some ⟨g,0,none⟩) 1 cap,.int .i64 line] w fun e w'=>e=.returned (stm 1 line ⟨#[]⟩ 0 0 0 0 (x.extract 0 (x.size-1)))∧Below w.heap.size w w':=by
 have hc0:=hl 0 (by simp)
 simp only [List.getElem_cons_zero] at hc0
 have hlt:g<w.heap.size:=by have:=World.block_lt_of_cell? w _ hc0;simpa using this
 have hcut:=Tryz.strings_CutSuffix x ⟨#[58]⟩ (w.alloc zdm) (by omega)
 rw [show(⟨#[58]⟩:ByteArray).data.toList=[58] from rfl,zea x hx1,zkE x hx1 hs,hs] at hcut
 simp only [decide_true] at hcut
 have hcall:=zm6 (w.alloc zdm) (some ⟨g,0,none⟩) cap (x.extract 0 (x.size-1)) line (by rw [ByteArray.size_extract];omega) h
 clear hs
 go_enter Tryz.func99,Tryz.ntmps99
 go_wp2_with(first|(go_at_call 128;refine hcut.mono ?_;rintro e wx ⟨rfl,hww⟩;subst hww)|(go_at_call 129;refine hcall.mono ?_;rintro e w1 ⟨rfl,hb⟩;obtain⟨hc,hf⟩:=zdU hb))
 obtain⟨f0,f1,f2,f3,f4,f5,f6,f7⟩:=zpq (new8 rfl hb)
 refine bodyPost_ret (v:=stm 1 line ⟨#[]⟩ 0 0 0 0 (x.extract 0 (x.size-1))) (by simp [results,Tryz.results99,go_sem,f0,f1,f2,f3,f4,f5,f6,f7]) rfl ⟨rfl,?_⟩
 exact ziS (zdK hb) (Nat.le_refl _) _ _ _ _ _ _ _ _
theorem zuD(w:World)(hw:LibW w)(g cap:Nat)(x:ByteArray)(r:List ByteArray)(line:Int)(hl:WordsIn w g (x :: r))(hsz:∀ j (hj:j<r.length),r[j].size≤1048576)(hx:x.size≤1048576)(hx1:1≤x.size)(hn:r.length≤1048576)(hnf:(x.toList == [102,117,110,99])=false)(hs:¬zfA x=58):
  Calls Tryz.prog 99 #[.slice (some ⟨g,0,none⟩) (r.length+1) cap,.int .i64 line] w (zrQ w x r line):=by
 have hc0:=hl 0 (by simp)
 simp only [List.getElem_cons_zero] at hc0
 have hlt:g<w.heap.size:=by have:=World.block_lt_of_cell? w _ hc0;simpa using this
 have hcut:=Tryz.strings_CutSuffix x ⟨#[58]⟩ (w.alloc zdm) (by omega)
 rw [show(⟨#[58]⟩:ByteArray).data.toList=[58] from rfl,zea x hx1] at hcut
 simp only [hs,decide_false] at hcut
 generalize (⟨(Lib.trimSuffix x.data.toList [58]).toArray⟩:ByteArray)=tr at hcut
 have hcall:=zuC (w.alloc zdm) (hw.below ((Below.refl _ _).alloc (Nat.le_refl _) _)) g cap x r line (hl.alloc _) hsz hn
 cases hok:zgV x r with
 | true =>
  have hcall2:=hcall.mono (R':=fun e w'=>e=.returned ((opK (zaa x) r r.length).stm line x)∧Below (w.alloc zdm).heap.size (w.alloc zdm) w') (by
   rintro e w' ⟨h1,h2|h2⟩
   ·exact⟨h2.2,h1⟩
   ·rw [hok] at h2;exact absurd h2.1 (by simp))
  clear hs hcall
  generalize hop:opK (zaa x) r r.length=op at hcall2
  obtain⟨nm,r0,r1,r2,n⟩:=op
  have HO:Hid (opK (zaa x) r r.length=⟨nm,r0,r1,r2,n⟩):=hop
  clear hop
  go_enter Tryz.func99,Tryz.ntmps99
  go_wp2_with(first|(go_at_call 128;refine hcut.mono ?_;rintro e wx ⟨rfl,hww⟩;subst hww)|(go_at_call 130;refine hcall2.mono ?_;rintro e w1 ⟨rfl,hb⟩;obtain⟨hc,hf⟩:=zdU hb))
  obtain⟨f0,f1,f2,f3,f4,f5,f6,f7⟩:=zpq (new8 rfl hb)
  refine bodyPost_ret (v:=stm 2 line x r0 r1 r2 n nm) (by simp [results,Tryz.results99,go_sem,f0,f1,f2,f3,f4,f5,f6,f7]) rfl ⟨?_,.inl ⟨hok,by rw [HO.out]⟩⟩
  exact ziS (zdK hb) (Nat.le_refl _) _ _ _ _ _ _ _ _
 | false =>
  have hcall2:=hcall.mono (R':=fun e w'=>e=zaj 1 line∧Below (w.alloc zdm).heap.size (w.alloc zdm) w') (by
   rintro e w' ⟨h1,h2|h2⟩
   ·rw [hok] at h2;exact absurd h2.1 (by simp)
   ·exact⟨h2.2,h1⟩)
  clear hs hcall
  go_enter Tryz.func99,Tryz.ntmps99
  go_wp2_with(first|(go_at_call 128;refine hcut.mono ?_;rintro e wx ⟨rfl,hww⟩;subst hww)|(go_at_call 130;refine hcall2.mono ?_;rintro e w1 ⟨rfl,hb⟩))
  exact⟨rfl,zdK hb,.inr ⟨hok,rfl⟩⟩
theorem znW(w:World)(hw:LibW w)(g cap:Nat)(x:ByteArray)(r:List ByteArray)(line:Int)(hl:WordsIn w g (x :: r))(hsz:∀ y∈(x :: r:List ByteArray),1≤y.size∧y.size≤1048576)(hn:r.length≤1048576):
  Calls Tryz.prog 99 #[.slice (some ⟨g,0,none⟩) (r.length+1) cap,.int .i64 line] w (zwC w (sayW (x :: r)) line):=by
 have hx:=hsz x (by simp)
 cases hf:zk0 x with
 | true =>
  have e1:sayW (x :: r)=⟨102,x :: r,decide ((x :: r).length=2)&&za2 ((x :: r).getLast?.getD ByteArray.empty)⟩:=by simp only [sayW,hf,if_true]
  rw [e1]
  have:=zr7 x hf
  subst this
  by_cases hg:(⟨#[102,117,110,99]⟩ :: r:List ByteArray).length=2∧za2 ((⟨#[102,117,110,99]⟩ :: r:List ByteArray).getLast?.getD ByteArray.empty)=true
  ·match r,hg,hl,hsz with
   | [y],hg,hl,hsz =>
    have hnm:za2 y=true:=by simpa using hg.2
    refine(zi8 w g cap y line hl (hsz y (by simp)).2 hnm).mono ?_
    rintro e w' ⟨h1,h2⟩
    exact⟨h2,.inl ⟨by simp [hnm],h1⟩⟩
  ·refine(zjI w g cap r line hl (fun y hy=>(hsz y hy).2) hn hg).mono ?_
   rintro e w' ⟨h1,h2⟩
   exact⟨h2,.inr ⟨by simpa using hg,h1⟩⟩
 | false =>
  have hnf:(x.toList == [102,117,110,99])=false:=hf
  by_cases hs:zfA x=58
  ·by_cases hg:r.length+1=1∧za2 (x.extract 0 (x.size-1))=true
   ·have hr:r=[]:=List.eq_nil_of_length_eq_zero (by omega)
    subst hr
    have e1:sayW [x]=⟨108,[x.extract 0 (x.size-1)],za2 (x.extract 0 (x.size-1))⟩:=by simp only [sayW,hf];rw [if_neg (by simp),if_pos ⟨rfl,hs⟩]
    rw [e1]
    refine(zjJ w g cap x line hl hx.2 hx.1 hnf hs hg.2).mono ?_
    rintro e w' ⟨h1,h2⟩
    exact⟨h2,.inl ⟨hg.2,h1⟩⟩
   ·refine(zkF w g cap x r line hl hx.2 hx.1 hn hnf hs hg).mono ?_
    rintro e w' ⟨h1,h2⟩
    refine⟨h2,.inr ⟨?_,h1⟩⟩
    by_cases hr:r=[]
    ·subst hr
     have e1:sayW [x]=⟨108,[x.extract 0 (x.size-1)],za2 (x.extract 0 (x.size-1))⟩:=by simp only [sayW,hf];rw [if_neg (by simp),if_pos ⟨rfl,hs⟩]
     rw [e1]
     simpa using hg
    ·have hr1:¬(x :: r).length=1:=by cases r with|nil=>exact absurd rfl hr|cons a b=>simp
     have e1:(sayW (x :: r)).ok=if zaa x=[63]∨¬(x :: r).length=(zaa x).length+1 then false else zaT (zaa x) r:=by
      simp only [sayW,hf];rw [if_neg (by simp),if_neg (fun h=>hr1 h.1)]
     rw [e1,if_pos (.inl (zm7 x hx.1 hs))]
  ·have e1:sayW (x :: r)=⟨105,x :: r,if zaa x=[63]∨¬(x :: r).length=(zaa x).length+1 then false else zaT (zaa x) r⟩:=by simp only [sayW,hf];rw [if_neg (by simp),if_neg (fun h=>hs h.2)]
   rw [e1]
   have e2:(if zaa x=[63]∨¬(x :: r).length=(zaa x).length+1 then false else zaT (zaa x) r)=zgV x r:=by
    unfold zgV
    simp only [List.length_cons,Nat.add_right_cancel_iff]
   rw [e2]
   refine(zuD w hw g cap x r line hl (fun j hj=>(hsz r[j] (List.mem_cons_of_mem _ (List.getElem_mem hj))).2) hx.2 hx.1 hn hnf hs).mono ?_
   rintro e w' ⟨h1,h2|h2⟩
   ·refine⟨h1,.inl ⟨h2.1,?_⟩⟩
    rw [h2.2]
    show Ending.returned (stm 2 line x (opK (zaa x) r r.length).a (opK (zaa x) r r.length).b (opK (zaa x) r r.length).c (opK (zaa x) r r.length).n (opK (zaa x) r r.length).nm)=_
    rw [zxR]
    rfl
   ·exact⟨h1,.inr h2⟩
theorem zrV(s:ByteArray)(w:World)(hs:s.size≤9223372036854775807)(h:4000<s.size∨300<(lines s).length):
  Calls Tryz.prog 65 #[.string s] w fun e w'=>e=zaj 6 0∧w'=w:=by
 have hcl:=(zfr s).1
 have hll:=zfH s
 have hcall:=Tryz.strings_Count_one s 10 w
 generalize Lib.countByte s.data.toList 10=c at hcl hcall
 by_cases h4:4000<s.size
 ·go_enter Tryz.func65,Tryz.ntmps65
  go_wp2_with(first|(go_at_call 96;refine hcall.mono ?_;rintro e wx ⟨rfl,hww⟩;have h2:=hww.symm;subst h2)|(go_at_call 79;refine(za3 _ _ _).mono ?_;rintro e wx ⟨rfl,hww⟩;have h2:=hww.symm;subst h2))
  exact⟨rfl,rfl,rfl⟩
 ·have h3:300<c+1:=by omega
  have hc:c≤1048576:=by omega
  clear hcl
  go_enter Tryz.func65,Tryz.ntmps65
  go_wp2_with(first|(go_at_call 96;refine hcall.mono ?_;rintro e wx ⟨rfl,hww⟩;have h2:=hww.symm;subst h2)|(go_at_call 79;refine(za3 _ _ _).mono ?_;rintro e wx ⟨rfl,hww⟩;have h2:=hww.symm;subst h2))
  exact⟨rfl,rfl,rfl⟩
theorem zcT(s:ByteArray)(w:World)(h4:s.size≤4000)(h3:(lines s).length≤300):
  Calls Tryz.prog 65 #[.string s] w fun e w'=>e=.returned (.tuple #[])∧w'=w:=by
 have hcl:=(zfr s).1
 have hcall:=Tryz.strings_Count_one s 10 w
 generalize Lib.countByte s.data.toList 10=c at hcl hcall
 have h5:c+1≤300:=by omega
 clear hcl
 go_enter Tryz.func65,Tryz.ntmps65
 go_wp2_with(first|(go_at_call 96;refine hcall.mono ?_;rintro e wx ⟨rfl,hww⟩;have h2:=hww.symm;subst h2))
 go_end0
 exact⟨rfl,rfl⟩
structure It where
 sort:Int
 line:Int
 word:ByteArray
 nm:ByteArray
 a:Int
 b:Int
 c:Int
 n:Int
abbrev It.cells(i:It):List Value:=[.int .i64 i.sort,.int .i64 i.line,.string i.word,.int .i64 i.a,.int .i64 i.b,.int .i64 i.c,.int .i64 i.n,.string i.nm]
def za0(l:List It):List Value:=l.flatMap It.cells
structure Key where
 sort:Int
 line:Int
 word:ByteArray
 nm:ByteArray
 a:Int
 b:Int
 c:Int
 n:Int
def It.key(i:It):Key:=⟨i.sort,i.line,i.word,i.nm,i.a,i.b,i.c,i.n⟩
def keyQ(q:Said)(line:Int):Key:=⟨zfq q,line,zew q,zd9 q,(opQ q).a,(opQ q).b,(opQ q).c,(opQ q).n⟩
def zbe(A:List ByteArray):Nat→List Key
 | 0=>[]
 | k+1=>zbe A k++(match A[k]? with|none=>[]|some x=>if(say x).kind=0 then [] else [keyQ (say x) ((k:Int)+1)])
theorem zfK(l:List It)(i:It):za0 (l++[i])=za0 l++i.cells:=by simp [za0]
theorem Tryz.info135:(Tryz.prog.info? 135).map (fun i=>(i.zero,i.size,i.bytes))=some (some (.agg #[.int .i64 0,.int .i64 0,.string ByteArray.empty,.int .i64 0,.int .i64 0,.int .i64 0,.int .i64 0,.string ByteArray.empty]),8,80):=by kernel_rfl
theorem Tryz.under116:Tryz.prog.underlying 116=some (.slice 135):=by kernel_rfl
theorem zhA(A:List ByteArray)(k:Nat)(h:k<A.length)(h0:(say A[k]).kind=0):zbe A (k+1)=zbe A k:=by
 simp [zbe,List.getElem?_eq_getElem h,h0]
theorem ziV(A:List ByteArray)(k:Nat)(h:k<A.length)(h0:¬(say A[k]).kind=0):zbe A (k+1)=zbe A k++[keyQ (say A[k]) ((k:Int)+1)]:=by
 simp [zbe,List.getElem?_eq_getElem h,h0]
theorem zrW(x:ByteArray)(hv:zao x 0=true)(hw:words x=[]):say x=⟨0,[],true⟩:=by
 simp [say,hv,hw,sayW]
theorem zhB(x:ByteArray)(hv:zao x 0=true):say x=sayW (words x):=by simp [say,hv]
theorem zfs(x:ByteArray)(hv:zao x 0=false):(say x).ok=false:=by simp [say,hv]
theorem zrX(x:ByteArray)(r:List ByteArray):¬(sayW (x :: r)).kind=0:=by
 unfold sayW
 dsimp only
 repeat' split
 all_goals simp
def zwF(w:World)(A:List ByteArray):Ending→World→Prop:=fun e w' =>
 Below w.heap.size w w'∧((∃ i:Nat,zbG A 0=(1,(i:Int)+1)∧e=zaj 1 ((i:Int)+1)) ∨
  (zbG A 0=zbn (A.map say) 0∧(∀ x∈A,(say x).ok=true)∧∃ v its,e=.returned v∧w'.ownsRow w.heap.size 135 8 v its.length (za0 its)∧its.map It.key=zbe A A.length))
theorem zm9(w:World)(a b c d e f g h:Value)(t:TypeId):∀ j u,[a,b,c,d,e,f,g,h][j]?=some u→(w.alloc (.cells #[a,b,c,d,e,f,g,h] t)).cell? ((⟨w.heap.size,0,none⟩:Addr).add j)=some u:=by
 intro j u hj
 have h1:=World.cell?_alloc_new (w:=w) #[a,b,c,d,e,f,g,h] t j
 have h2:(⟨w.heap.size,0,none⟩:Addr).add j=⟨w.heap.size,j,none⟩:=by simp [Addr.add];omega
 rw [h2,h1]
 rw [←List.getElem?_toArray] at hj
 exact hj
theorem zkH(i:It):∀ u∈i.cells,u.oneCell'=true:=by
 intro u hu
 simp at hu
 rcases hu with rfl|rfl|rfl|rfl|rfl|rfl|rfl|rfl <;> rfl
theorem zhC(s:ByteArray)(line:Int)(w:World)(hw:LibW w)(hs:s.size≤1048576)(hv:zao s 0=true)(l:List ByteArray)(hl:Hid (words s=l))(h0:0<l.length):
  Calls Tryz.prog 98 #[.string s,.int .i64 line] w fun e w'=>∃ g cap,e=.returned (.slice (some ⟨g,0,none⟩) l.length cap)∧w.heap.size≤g∧WordsIn w' g l∧Below w.heap.size w w':=by
 refine(zgo s line w hw hs).mono ?_
 rintro e w' ⟨hb,⟨_,v,rfl,hown⟩|⟨h,_⟩⟩
 ·rw [hl.out] at hown
  obtain⟨g,cap,rfl,_,_,h3,_,h5⟩:=znR hown h0
  exact⟨g,cap,rfl,h3,h5,hb⟩
 ·rw [hv] at h;cases h
theorem zmA(s:ByteArray)(line:Int)(w:World)(hw:LibW w)(hs:s.size≤1048576)(hv:zao s 0=true)(hl:Hid (words s=[])):
  Calls Tryz.prog 98 #[.string s,.int .i64 line] w fun e w'=>∃ ao cap,e=.returned (.slice ao 0 cap)∧Below w.heap.size w w':=by
 refine(zgo s line w hw hs).mono ?_
 rintro e w' ⟨hb,⟨_,v,rfl,hown⟩|⟨h,_⟩⟩
 ·rw [hl.out] at hown
  rcases hown.2 with ⟨h1,_⟩|⟨g,cap,cur,h1,_⟩
  ·subst h1;exact⟨none,0,rfl,hb⟩
  ·subst h1;exact⟨_,cap,rfl,hb⟩
 ·rw [hv] at h;cases h
theorem zpw(s:ByteArray)(line:Int)(w:World)(hw:LibW w)(hs:s.size≤1048576)(hv:zao s 0=false):
  Calls Tryz.prog 98 #[.string s,.int .i64 line] w fun e w'=>e=zaj 1 line∧Below w.heap.size w w':=by
 refine(zgo s line w hw hs).mono ?_
 rintro e w' ⟨hb,⟨h,_⟩|⟨_,h⟩⟩
 ·rw [hv] at h;cases h
 ·exact⟨h,hb⟩
theorem zrY(w:World)(hw:LibW w)(g cap:Nat)(x:ByteArray)(r:List ByteArray)(line:Int)(hl:WordsIn w g (x :: r))(hsz:∀ y∈(x :: r:List ByteArray),1≤y.size∧y.size≤1048576)(hn:r.length≤1048576)(q:Said)(hq:Hid (sayW (x :: r)=q))(hok:q.ok=true):
  Calls Tryz.prog 99 #[.slice (some ⟨g,0,none⟩) (r.length+1) cap,.int .i64 line] w fun e w'=>e=.returned (stm (zfq q) line (zew q) (opQ q).a (opQ q).b (opQ q).c (opQ q).n (zd9 q))∧Below w.heap.size w w':=by
 refine(znW w hw g cap x r line hl hsz hn).mono ?_
 rw [hq.out]
 rintro e w' ⟨hb,⟨_,h⟩|⟨h,_⟩⟩
 ·exact⟨h,hb⟩
 ·rw [hok] at h;cases h
theorem zkI(w:World)(hw:LibW w)(g cap:Nat)(x:ByteArray)(r:List ByteArray)(line:Int)(hl:WordsIn w g (x :: r))(hsz:∀ y∈(x :: r:List ByteArray),1≤y.size∧y.size≤1048576)(hn:r.length≤1048576)(q:Said)(hq:Hid (sayW (x :: r)=q))(hok:q.ok=false):
  Calls Tryz.prog 99 #[.slice (some ⟨g,0,none⟩) (r.length+1) cap,.int .i64 line] w fun e w'=>e=zaj 1 line∧Below w.heap.size w w':=by
 refine(znW w hw g cap x r line hl hsz hn).mono ?_
 rw [hq.out]
 rintro e w' ⟨hb,⟨h,_⟩|⟨_,h⟩⟩
 ·rw [hok] at h;cases h
 ·exact⟨h,hb⟩
end Go.Proofs.YtfpgjkbjbbgciaaGreatDoor
namespace Go.Proofs.YtfpgjkbjbbgciaaGreatDoor
open Go.RowKit Sp Go.WideMaps Go.Maps
theorem Tryz.under81:Tryz.prog.underlying 81=some (.map 9 3):=by kernel_rfl
theorem lawS:Keyed Tryz.prog 9:=string_keyed Tryz.underlying9
theorem zse(w:World):(zeroValue 3).run Tryz.prog w=.ok (.int .i64 0) w:=by kernel_rfl
theorem keyS(x:ByteArray)(h:x.size≤maxLen):keyOf Tryz.prog 9 (.string x)=some (.string x.data.toList):=keyOf_string_mk Tryz.underlying9 h
def zbO:List (ByteArray × Nat)→ByteArray→Option Nat
 | [],_=>none
 | p :: r,x=>if eqW p.1 x=true then some p.2 else zbO r x
abbrev zbA(E:List (ByteArray × Nat)):List ByteArray:=E.map Prod.fst
theorem zpz(E:List (ByteArray × Nat))(x:ByteArray)(h:(zbA E).any (fun y=>eqW y x)=false):zbO E x=none:=by
 induction E with
 | nil=>rfl
 | cons p r ih =>
  simp only [zbA,List.map_cons,List.any_cons,Bool.or_eq_false_iff] at h
  unfold zbO
  rw [if_neg (by rw [h.1];simp)]
  exact ih h.2
theorem zkN(E G:List (ByteArray × Nat))(x:ByteArray):zbO (E++G) x=match zbO E x with|some p=>some p|none=>zbO G x:=by
 induction E with
 | nil=>rfl
 | cons p r ih =>
  show(if eqW p.1 x=true then some p.2 else zbO (r++G) x)=match (if eqW p.1 x=true then some p.2 else zbO r x) with|some p=>some p|none=>zbO G x
  split
  ·rfl
  ·exact ih
theorem zp0(E:List (ByteArray × Nat))(x:ByteArray)(h:(zbA E).any (fun y=>eqW y x)=true):∃ p,zbO E x=some p:=by
 induction E with
 | nil=>simp at h
 | cons p r ih =>
  simp only [zbA,List.map_cons,List.any_cons,Bool.or_eq_true] at h
  unfold zbO
  by_cases e:eqW p.1 x=true
  ·exact⟨_,if_pos e⟩
  ·rw [if_neg e]
   rcases h with h|h
   ·exact absurd h e
   ·exact ih h
def MapIs(w:World)(b:Nat)(E:List (ByteArray × Nat)):Prop:=∃ D:DataW Unit,w.ownsMap Tryz.prog 9 (plainElem Tryz.prog 3) b E.length D∧IsMap D∧(∀ x:ByteArray,Maps.has D (.string x.data.toList)=(zbA E).any (fun y=>eqW y x)) ∧
 (∀(x:ByteArray) (p:Nat) (z:DataW Unit),zbO E x=some p→D.atKey (.string x.data.toList) z=.lit (.int .i64 (p:Int)))∧E.Pairwise (fun a b=>eqW a.1 b.1=false)
theorem MapIs.kept{w w':World}{b:Nat}{E:List (ByteArray × Nat)}{row:Option Nat}(h:MapIs w b E)(hg:w.grownBy w' row)(hne:some b≠row):MapIs w' b E:=by
 obtain⟨D,h1,h2⟩:=h
 exact⟨D,h1.kept hg hne,h2⟩
theorem MapIs.alloc{w:World}{b:Nat}{E:List (ByteArray × Nat)}(h:MapIs w b E)(o:Obj):MapIs (w.alloc o) b E:=h.kept (World.grownBy_alloc w o none) (by simp)
theorem MapIs.lt{w:World}{b:Nat}{E:List (ByteArray × Nat)}(h:MapIs w b E):b<w.heap.size:=by
 obtain⟨D,h1,_⟩:=h
 exact h1.lt
theorem MapIs.below{w w':World}{b:Nat}{E:List (ByteArray × Nat)}{B:Nat}(h:MapIs w b E)(hb:Below B w w')(hB:b<B):MapIs w' b E:=by
 obtain⟨D,⟨es,clock,hh,r⟩,h2⟩:=h
 exact⟨D,⟨es,clock,(hb.block b hB).trans hh,r⟩,h2⟩
theorem MapIs.made(w:World):MapIs (w.alloc (.map #[] 0)) w.heap.size []:=⟨.map [],World.ownsMap_made _ _ _ _,⟨[],rfl⟩,fun _x=>rfl,fun _x _p _z h=>(nomatch h),List.Pairwise.nil⟩
theorem zwI{w:World}{b base:Nat}{E:List (ByteArray × Nat)}{e:TypeId}{size n:Nat}{v:Value}{xs:List Value}(h:MapIs w b E)(hr:w.ownsRow base e size v n xs):some b≠v.ownBlock:=by
 obtain⟨D,⟨es,clock,hh,_⟩,_⟩:=h
 intro e1
 rcases hr.2 with ⟨hv,_⟩|⟨g,cap,cur,hv,_,hg,_⟩
 ·subst hv;simp [Value.ownBlock] at e1
 ·subst hv
  simp [Value.ownBlock] at e1
  subst e1
  rw [hh] at hg
  cases hg
theorem zeb(a b:ByteArray):eqW a b=true↔a.data.toList=b.data.toList:=by
 unfold eqW
 rw [ByteArray.toList_eq,ByteArray.toList_eq,beq_iff_eq]
theorem zwJ{D:DataW Unit}{names:List ByteArray}(hD:IsMap D)(h:∀ x:ByteArray,Maps.has D (.string x.data.toList)=names.any (fun y=>eqW y x))(nm:ByteArray)(d:DataW Unit):∀ x:ByteArray,Maps.has (D.put (.string nm.data.toList) d) (.string x.data.toList)=(names++[nm]).any (fun y=>eqW y x):=by
 intro x
 rw [List.any_append]
 by_cases e:x.data.toList=nm.data.toList
 ·rw [e,has_put_same hD (k:=.string nm.data.toList) trivial d]
  have:eqW nm x=true:=(zeb nm x).2 e.symm
  simp [this]
 ·have hne:(Lit.string x.data.toList)≠.string nm.data.toList:=by intro e2;apply e;simpa using e2
  rw [has_put_other hne d,h x]
  have:eqW nm x=false:=by
   cases hq:eqW nm x with
   | false=>rfl
   | true=>exact absurd ((zeb nm x).1 hq).symm e
  simp [this]
theorem zxV{D:DataW Unit}{E:List (ByteArray × Nat)}(hD:IsMap D)(h:∀(x:ByteArray) (p:Nat) (z:DataW Unit),zbO E x=some p→D.atKey (.string x.data.toList) z=.lit (.int .i64 (p:Int)))(nm:ByteArray)(hno:(zbA E).any (fun y=>eqW y nm)=false)(place:Nat):
  ∀(x:ByteArray) (p:Nat) (z:DataW Unit),zbO (E++[(nm,place)]) x=some p→(D.put (.string nm.data.toList) (.lit (.int .i64 (place:Int)))).atKey (.string x.data.toList) z=.lit (.int .i64 (p:Int)):=by
 intro x p z hf
 rw [zkN] at hf
 by_cases e:x.data.toList=nm.data.toList
 ·have hx:x=nm:=by
   have:x.data=nm.data:=by rw [←Array.toArray_toList (xs:=x.data),e,Array.toArray_toList]
   cases x;cases nm;simp at this;rw [this]
  subst hx
  rw [zpz E x hno] at hf
  have:eqW x x=true:=(zeb x x).2 rfl
  simp only [zbO,this,if_true,Option.some.injEq] at hf
  subst hf
  exact atKey_put_same hD (k:=.string x.data.toList) trivial _ z
 ·have hne:(Lit.string x.data.toList)≠.string nm.data.toList:=by intro e2;apply e;simpa using e2
  rw [atKey_put_other hne]
  have hq:eqW nm x=false:=by
   cases hq:eqW nm x with
   | false=>rfl
   | true=>exact absurd ((zeb nm x).1 hq).symm e
  cases hE:zbO E x with
  | some q=>rw [hE] at hf;simp only [Option.some.injEq] at hf;subst hf;exact h x q z hE
  | none=>rw [hE] at hf;simp [zbO,hq] at hf
theorem zuF{E:List (ByteArray × Nat)}(h:E.Pairwise (fun a b=>eqW a.1 b.1=false))(nm:ByteArray)(hno:(zbA E).any (fun y=>eqW y nm)=false)(place:Nat):(E++[(nm,place)]).Pairwise (fun a b=>eqW a.1 b.1=false):=by
 refine List.pairwise_append.2 ⟨h,by simp,fun a ha b hb=>?_⟩
 simp at hb
 subst hb
 rw [List.any_eq_false] at hno
 have:=hno a.1 (List.mem_map_of_mem ha)
 simpa using this
theorem zkO(w:World)(b:Nat)(E:List (ByteArray × Nat))(hM:MapIs w b E)(sort line:Int)(word:ByteArray)(x y z n:Int)(nm:ByteArray)(place:Nat)(hp:place≤4096)(hn:E.length≤4096)(hnm:nm.size≤1048576)(hno:(zbA E).any (fun y=>eqW y nm)=false):
  Calls Tryz.prog 131 #[.map (some b),stm sort line word x y z n nm,.int .i64 (place:Int)] w fun e w'=>e=.returned (.tuple #[])∧MapIs w' b (E++[(nm,place)])∧w.grownBy w' (some b):=by
 obtain⟨D,hown,hD,hhas,hat0,hpw⟩:=hM
 have hk:=keyS nm (by unfold maxLen;omega)
 have hf:=hhas nm
 rw [hno] at hf
 have hlt:=hown.lt
 go_enter Tryz.func131,Tryz.ntmps131
 go_wp2_with(first
  | (at_lookup;refine wpList_lookup_own_ok_int _ rfl _ _ 81 rfl 9 3 .i64 lawS Tryz.under81 Tryz.underlying3 (zse _) b E.length D rfl (hown.alloc _) _ _ rfl hk ?_;intro c hat hwc)
  | (at_mapUpdate;refine wpList_mapUpdate_own _ rfl _ _ _ 81 rfl 9 3 lawS Tryz.under81 _ b E.length D rfl (hown.alloc _) (by unfold maxLen;omega) _ _ _ rfl rfl hk _ [] (plainElem_int Tryz.underlying3 (WalkArith.wf_i64 (by omega))) ?_;intro w1 hown1 hgrow1))
 go_end0
 refine⟨rfl,⟨_,by simpa using hown1,hD.put _ _,by simpa using zwJ hD hhas nm _,zxV hD hat0 nm hno place,zuF hpw nm hno place⟩,(World.grownBy_alloc w _ _).trans hgrow1⟩
theorem zkP(w:World)(b:Nat)(E:List (ByteArray × Nat))(hM:MapIs w b E)(sort line:Int)(word:ByteArray)(x y z n:Int)(nm:ByteArray)(place:Int)(hnm:nm.size≤1048576)(hno:(zbA E).any (fun y=>eqW y nm)=true):
  Calls Tryz.prog 131 #[.map (some b),stm sort line word x y z n nm,.int .i64 place] w fun e w'=>e=zaj 3 line∧Below w.heap.size w w':=by
 obtain⟨D,hown,hD,hhas,hat0,hpw⟩:=hM
 have hk:=keyS nm (by unfold maxLen;omega)
 have hf:=hhas nm
 rw [hno] at hf
 have hlt:=hown.lt
 go_enter Tryz.func131,Tryz.ntmps131
 go_wp2_with(first
  | (at_lookup;refine wpList_lookup_own_ok_int _ rfl _ _ 81 rfl 9 3 .i64 lawS Tryz.under81 Tryz.underlying3 (zse _) b E.length D rfl (hown.alloc _) _ _ rfl hk ?_;intro c hat hwc)
  | (go_at_call 79;refine(za3 _ _ _).mono ?_;rintro e wx ⟨rfl,hww⟩;subst hww))
 exact⟨rfl,rfl,(Below.refl _ _).alloc (Nat.le_refl _) _⟩
theorem ziX(w:World)(b:Nat)(E:List (ByteArray × Nat))(hM:MapIs w b E)(sort line:Int)(word:ByteArray)(x y z n:Int)(nm:ByteArray)(hnm:nm.size≤1048576)(hno:(zbA E).any (fun y=>eqW y nm)=true):
  Calls Tryz.prog 103 #[.map (some b),stm sort line word x y z n nm] w fun e w'=>e=.returned (.tuple #[])∧Below w.heap.size w w':=by
 obtain⟨D,hown,hD,hhas,hat0,hpw⟩:=hM
 have hk:=keyS nm (by unfold maxLen;omega)
 have hf:=hhas nm
 rw [hno] at hf
 have hlt:=hown.lt
 go_enter Tryz.func103,Tryz.ntmps103
 go_wp2_with(first
  | (at_lookup;refine wpList_lookup_own_ok_int _ rfl _ _ 81 rfl 9 3 .i64 lawS Tryz.under81 Tryz.underlying3 (zse _) b E.length D rfl (hown.alloc _) _ _ rfl hk ?_;intro c hat hwc))
 go_end0
 exact⟨rfl,(Below.refl _ _).alloc (Nat.le_refl _) _⟩
theorem zkQ(w:World)(b:Nat)(E:List (ByteArray × Nat))(hM:MapIs w b E)(sort line:Int)(word:ByteArray)(x y z n:Int)(nm:ByteArray)(hnm:nm.size≤1048576)(hno:(zbA E).any (fun y=>eqW y nm)=false):
  Calls Tryz.prog 103 #[.map (some b),stm sort line word x y z n nm] w fun e w'=>e=zaj 4 line∧Below w.heap.size w w':=by
 obtain⟨D,hown,hD,hhas,hat0,hpw⟩:=hM
 have hk:=keyS nm (by unfold maxLen;omega)
 have hf:=hhas nm
 rw [hno] at hf
 have hlt:=hown.lt
 go_enter Tryz.func103,Tryz.ntmps103
 go_wp2_with(first
  | (at_lookup;refine wpList_lookup_own_ok_int _ rfl _ _ 81 rfl 9 3 .i64 lawS Tryz.under81 Tryz.underlying3 (zse _) b E.length D rfl (hown.alloc _) _ _ rfl hk ?_;intro c hat hwc)
  | (go_at_call 79;refine(za3 _ _ _).mono ?_;rintro e wx ⟨rfl,hww⟩;subst hww))
 exact⟨rfl,rfl,(Below.refl _ _).alloc (Nat.le_refl _) _⟩
end Go.Proofs.YtfpgjkbjbbgciaaGreatDoor
namespace Go.Proofs.YtfpgjkbjbbgciaaGreatDoor
open Sp
structure Fn where
 name:ByteArray
 line:Int
 body:List Key
def zcb(b:List Key):List ByteArray:=(b.filter (fun k=>decide (k.sort=1))).map Key.nm
def addK(F:List Fn)(k:Key):List Fn :=
 if k.sort=0 then F++[⟨k.nm,k.line,[]⟩]
 else match F.getLast? with
  | none=>F
  | some f=>F.dropLast++[⟨f.name,f.line,f.body++[k]⟩]
theorem zc6(F:List Fn)(k:Key)(h:k.sort=0):addK F k=F++[⟨k.nm,k.line,[]⟩]:=by simp [addK,h]
theorem zfL(F:List Fn)(f:Fn)(k:Key)(h:¬k.sort=0):addK (F++[f]) k=F++[⟨f.name,f.line,f.body++[k]⟩]:=by simp [addK,h]
def bad0(F:List Fn)(k:Key):Bool :=
 if k.sort=0 then(F.map Fn.name).any (fun y=>eqW y k.nm)
 else if k.sort=1 then(match F.getLast? with|none=>false|some f=>(zcb f.body).any (fun y=>eqW y k.nm)) else false
def zam(L:List Said)(i:Nat):List Key :=
 if h:i<L.length then(if L[i].kind=102 then [] else if L[i].kind=0 then zam L (i+1) else keyQ L[i] ((i:Int)+1) :: zam L (i+1)) else []
termination_by L.length-i
def zaX(L:List Said)(i:Nat):List Fn :=
 if h:i<L.length then(if L[i].kind=102 then⟨L[i].word 1,(i:Int)+1,zam L (i+1)⟩ :: zaX L (i+1) else zaX L (i+1)) else []
termination_by L.length-i
def zbo(L:List Said)(i:Nat):List Key :=
 if h:i<L.length then(if L[i].kind=0 then zbo L (i+1) else keyQ L[i] ((i:Int)+1) :: zbo L (i+1)) else []
termination_by L.length-i
theorem zc7(L:List Said)(i:Nat)(h:¬i<L.length):zam L i=[]:=by rw [zam,dif_neg h]
theorem zcU(L:List Said)(i:Nat)(h:i<L.length)(h1:L[i].kind=102):zam L i=[]:=by rw [zam,dif_pos h,if_pos h1]
theorem zcn(L:List Said)(i:Nat)(h:i<L.length)(h0:L[i].kind=0):zam L i=zam L (i+1):=by rw [zam,dif_pos h,if_neg (by omega),if_pos h0]
theorem zbK(L:List Said)(i:Nat)(h:i<L.length)(h0:¬L[i].kind=0)(h1:¬L[i].kind=102):zam L i=keyQ L[i] ((i:Int)+1) :: zam L (i+1):=by rw [zam,dif_pos h,if_neg h1,if_neg h0]
theorem zcV(L:List Said)(i:Nat)(h:¬i<L.length):zaX L i=[]:=by rw [zaX,dif_neg h]
theorem zci(L:List Said)(i:Nat)(h:i<L.length)(h1:L[i].kind=102):zaX L i=⟨L[i].word 1,(i:Int)+1,zam L (i+1)⟩ :: zaX L (i+1):=by rw [zaX,dif_pos h,if_pos h1]
theorem zbT(L:List Said)(i:Nat)(h:i<L.length)(h1:¬L[i].kind=102):zaX L i=zaX L (i+1):=by rw [zaX,dif_pos h,if_neg h1]
theorem zdg(L:List Said)(i:Nat)(h:¬i<L.length):zbo L i=[]:=by rw [zbo,dif_neg h]
theorem zdt(L:List Said)(i:Nat)(h:i<L.length)(h0:L[i].kind=0):zbo L i=zbo L (i+1):=by rw [zbo,dif_pos h,if_pos h0]
theorem zb3(L:List Said)(i:Nat)(h:i<L.length)(h0:¬L[i].kind=0):zbo L i=keyQ L[i] ((i:Int)+1) :: zbo L (i+1):=by rw [zbo,dif_pos h,if_neg h0]
theorem zex(q:Said)(h:q.kind=102):zfq q=0:=by simp [zfq,h]
theorem zft(q:Said)(h:q.kind=108):zfq q=1:=by simp [zfq,h]
theorem zey(q:Said)(h1:¬q.kind=102)(h2:¬q.kind=108):zfq q=2:=by simp [zfq,h1,h2]
theorem zfu(q:Said)(h1:¬q.kind=102):¬zfq q=0:=by unfold zfq;rw [if_neg h1];split <;> decide
theorem zgp(q:Said)(h:q.kind=102):zd9 q=q.word 1:=by simp [zd9,h]
theorem zjL(q:Said)(h:q.kind=108):zd9 q=q.word 0:=by simp [zd9,h]
theorem zfM(L:List Said)(i:Nat)(F:List Fn)(f:Fn):(zbo L i).foldl addK (F++[f])=F++(⟨f.name,f.line,f.body++zam L i⟩ :: zaX L i):=by
 by_cases h:i<L.length
 ·by_cases h0:L[i].kind=0
  ·rw [zdt L i h h0,zcn L i h h0,zbT L i h (by omega)]
   exact zfM L (i+1) F f
  ·rw [zb3 L i h h0,List.foldl_cons]
   by_cases h1:L[i].kind=102
   ·rw [zc6 _ _ (zex _ h1),zfM L (i+1) (F++[f]) _,zcU L i h h1,zci L i h h1]
    simp [keyQ,zgp _ h1]
   ·rw [zfL _ _ _ (zfu _ h1),zfM L (i+1) F _,zbK L i h h0 h1,zbT L i h h1]
    simp
 ·rw [zdg L i h,zc7 L i h,zcV L i h]
  simp
termination_by L.length-i
theorem zhD(A:List ByteArray)(i:Nat):zbe A A.length=zbe A (min i A.length)++zbo (A.map say) i:=by
 by_cases h:i<A.length
 ·have hL:i<(A.map say).length:=by simpa using h
  have hg:(A.map say)[i]=say A[i]:=by simp
  rw [zhD A (i+1),Nat.min_eq_left (show i+1≤A.length from h),Nat.min_eq_left (Nat.le_of_lt h)]
  by_cases h0:(say A[i]).kind=0
  ·rw [zhA A i h h0,zdt _ i hL (by rw [hg];exact h0)]
  ·rw [ziV A i h h0,zb3 _ i hL (by rw [hg];exact h0),hg]
   simp
 ·rw [zdg _ i (by simpa using h),Nat.min_eq_right (by omega)]
  simp
termination_by A.length-i
theorem zjM(A:List ByteArray):zbe A A.length=zbo (A.map say) 0:=by
 rw [zhD A 0];simp [zbe]
theorem zfN(L:List Said)(i:Nat)(x:ByteArray):(zcb (zam L i)).any (fun y=>eqW y x)=decide (0≤zaU L x i):=by
 by_cases h:i<L.length
 ·by_cases h1:L[i].kind=102
  ·rw [zcU L i h h1,zfB L x i h h1];rfl
  ·by_cases h0:L[i].kind=0
   ·rw [zcn L i h h0,zbS L x i h h1 (by simp [zcR,h0])]
    exact zfN L (i+1) x
   ·rw [zbK L i h h0 h1]
    by_cases h2:L[i].kind=108
    ·have e:zcb (keyQ L[i] ((i:Int)+1) :: zam L (i+1))=L[i].word 0 :: zcb (zam L (i+1)):=by
      simp [zcb,keyQ,zft _ h2,zjL _ h2]
     rw [e,List.any_cons]
     by_cases h3:eqW (L[i].word 0) x=true
     ·rw [zcS L x i h h1 (by simp [zcR,h2,h3]),h3]
      simp
     ·rw [zbS L x i h h1 (by simp [zcR,h3]),zfN L (i+1) x]
      simp [h3]
    ·have e:zcb (keyQ L[i] ((i:Int)+1) :: zam L (i+1))=zcb (zam L (i+1)):=by
      simp [zcb,keyQ,zey _ h1 h2]
     rw [e,zbS L x i h h1 (by simp [zcR,h2])]
     exact zfN L (i+1) x
 ·rw [zc7 L i h,zdV L x i h];rfl
termination_by L.length-i
theorem zmC(L:List Said)(i:Nat)(x:ByteArray):((zaX L i).map Fn.name).any (fun y=>eqW y x)=decide (0≤zaJ L x i):=by
 by_cases h:i<L.length
 ·by_cases h1:L[i].kind=102
  ·rw [zci L i h h1,List.map_cons,List.any_cons]
   by_cases h3:eqW (L[i].word 1) x=true
   ·rw [zds L x i h (by simp [isFn,h1,h3])]
    simp [h3]
   ·rw [zdf L x i h (by simp [isFn,h3]),zmC L (i+1) x]
    simp [h3]
  ·rw [zbT L i h h1,zdf L x i h (by simp [isFn,h1])]
   exact zmC L (i+1) x
 ·rw [zcV L i h,zeN L x i h];rfl
termination_by L.length-i
def zpy(b:List Key):Bool:=match b.getLast? with|none=>false|some k=>ends k.word
theorem zrZ:ends ⟨#[]⟩=false:=by simp [ends,isW,ByteArray.toList_eq]
def WfAll(L:List Said):Prop:=∀ q∈L,Wf q
theorem WfAll.at{L:List Said}(hw:WfAll L)(i:Nat)(h:i<L.length):Wf L[i]:=hw _ (List.getElem_mem h)
theorem zsa(L:List Said)(hw:WfAll L)(i:Nat)(e:Bool):zdW L i e=(match (zam L i).getLast? with|none=>e|some k=>ends k.word):=by
 by_cases h:i<L.length
 ·by_cases h1:L[i].kind=102
  ·rw [zcU L i h h1,zm3 L i e h h1];rfl
  ·rw [zd4 L i e h h1,zsa L hw (i+1)]
   by_cases h0:L[i].kind=0
   ·rw [zcn L i h h0]
    simp [h0]
   ·rw [zbK L i h h0 h1,List.getLast?_cons]
    cases hb:(zam L (i+1)).getLast? with
    | some k=>rfl
    | none =>
     by_cases h2:L[i].kind=108
     ·simp [h2,keyQ,zew,zrZ]
     ·have h5:L[i].kind=105:=by
       have:=hw.at i h
       unfold Wf at this;omega
      simp [h5,keyQ,zew]
 ·rw [zc7 L i h,zhw L i e h];rfl
termination_by L.length-i
end Go.Proofs.YtfpgjkbjbbgciaaGreatDoor
namespace Go.Proofs.YtfpgjkbjbbgciaaGreatDoor
open Go.RowKit Sp
attribute [local go_sem ↓] Go.wp_at_zero Go.wp_at_succ
theorem MapIs.drew{w:World}{b:Nat}{E:List (ByteArray × Nat)}(h:MapIs w b E):MapIs w.drew b E:=h
theorem zmI(w:World)(a:Obj){w1:World}(h:Below (w.alloc a).drew.heap.size (w.alloc a).drew w1):Below w.heap.size w w1 :=
 (((Below.refl w.heap.size w).alloc (Nat.le_refl _) a).drew).trans (h.mono (by show w.heap.size≤(w.alloc a).heap.size;simp))
theorem zwK(w:World)(B fg o m:Nat)(bv:Value)(its:List It)(i:It)(E:List (ByteArray × Nat))(hs:i.sort=1)
  (hc:w.cell? ⟨fg,o+2,none⟩=some bv) (hm:w.cell? ⟨fg,o+3,none⟩=some (.map (some m))) (hM:MapIs w m E) (hown:w.ownsRow B 135 8 bv its.length (za0 its)) (_hn:its.length≤4096)
  (hnm:i.nm.size≤1048576) (hold:(zbA E).any (fun y=>eqW y i.nm)=true) :
  Calls Tryz.prog 101 #[.pointer (some ⟨fg,o,none⟩),stm i.sort i.line i.word i.a i.b i.c i.n i.nm] w fun e w'=>e=zaj 3 i.line∧Below w.heap.size w w':=by
 have lg:fg<w.heap.size:=World.block_lt_of_cell? w _ hc
 have hne4:¬w.heap.size=fg:=by omega
 have hne5:¬fg=w.heap.size:=by omega
 have hv:∃ ao cap,bv=.slice ao its.length cap:=by
  rcases hown.2 with ⟨hv,h0⟩|⟨g,cap,cur,hv,_⟩
  ·exact⟨none,0,by rw [hv,h0]⟩
  ·exact⟨_,cap,hv⟩
 obtain⟨ao,cap,rfl⟩:=hv
 rw [hs]
 have hcall:=zkP ((w.alloc (.cells #[.int .i64 1,.int .i64 i.line,.string i.word,.int .i64 i.a,.int .i64 i.b,.int .i64 i.c,.int .i64 i.n,.string i.nm] 135)).drew) m E (hM.alloc _).drew 1 i.line i.word i.a i.b i.c i.n i.nm (its.length:Int) hnm hold
 go_enter Tryz.func101,Tryz.ntmps101
 go_wp2_with fail
 go_region_dies
 all_goals(go_at_call 131;refine hcall.mono ?_;rintro e w2 ⟨rfl,hb⟩)
 all_goals exact⟨rfl,rfl,zmI _ _ hb⟩
theorem zuG(w:World)(s l:Int)(x:ByteArray)(a b c n:Int)(y:ByteArray):
  ((w.alloc (.cells #[.int .i64 s,.int .i64 l,.string x,.int .i64 a,.int .i64 b,.int .i64 c,.int .i64 n,.string y] 135)).drew).cell? ⟨w.heap.size,0,none⟩=some (.int .i64 s) ∧
  ((w.alloc (.cells #[.int .i64 s,.int .i64 l,.string x,.int .i64 a,.int .i64 b,.int .i64 c,.int .i64 n,.string y] 135)).drew).cell? ⟨w.heap.size,1,none⟩=some (.int .i64 l) ∧
  ((w.alloc (.cells #[.int .i64 s,.int .i64 l,.string x,.int .i64 a,.int .i64 b,.int .i64 c,.int .i64 n,.string y] 135)).drew).cell? ⟨w.heap.size,2,none⟩=some (.string x) ∧
  ((w.alloc (.cells #[.int .i64 s,.int .i64 l,.string x,.int .i64 a,.int .i64 b,.int .i64 c,.int .i64 n,.string y] 135)).drew).cell? ⟨w.heap.size,3,none⟩=some (.int .i64 a) ∧
  ((w.alloc (.cells #[.int .i64 s,.int .i64 l,.string x,.int .i64 a,.int .i64 b,.int .i64 c,.int .i64 n,.string y] 135)).drew).cell? ⟨w.heap.size,4,none⟩=some (.int .i64 b) ∧
  ((w.alloc (.cells #[.int .i64 s,.int .i64 l,.string x,.int .i64 a,.int .i64 b,.int .i64 c,.int .i64 n,.string y] 135)).drew).cell? ⟨w.heap.size,5,none⟩=some (.int .i64 c) ∧
  ((w.alloc (.cells #[.int .i64 s,.int .i64 l,.string x,.int .i64 a,.int .i64 b,.int .i64 c,.int .i64 n,.string y] 135)).drew).cell? ⟨w.heap.size,6,none⟩=some (.int .i64 n) ∧
  ((w.alloc (.cells #[.int .i64 s,.int .i64 l,.string x,.int .i64 a,.int .i64 b,.int .i64 c,.int .i64 n,.string y] 135)).drew).cell? ⟨w.heap.size,7,none⟩=some (.string y):=by
 have h:=World.cell?_alloc_new (w:=w) #[.int .i64 s,.int .i64 l,.string x,.int .i64 a,.int .i64 b,.int .i64 c,.int .i64 n,.string y] 135
 exact⟨h 0,h 1,h 2,h 3,h 4,h 5,h 6,h 7⟩
theorem zgs(w:World)(b:Obj)(p:Addr)(h:p.block<w.heap.size):(w.alloc b).drew.frozen? p=w.frozen? p :=
 World.frozen?_of_block (w:=w) (((Below.refl w.heap.size w).alloc (Nat.le_refl _) b).drew.block p.block h)
theorem zfO(w:World)(b:Obj)(p:Addr)(h:p.block<w.heap.size):(w.alloc b).drew.cell? p=w.cell? p :=
 World.cell?_of_block (w:=w) (((Below.refl w.heap.size w).alloc (Nat.le_refl _) b).drew.block p.block h)
theorem zjN(w:World)(cs:Array Value)(t:TypeId):(w.alloc (.cells cs t)).drew.heap[w.heap.size]?=some (.cells cs t (0,0)):=heap_alloc_new w (.cells cs t)
theorem zfP{w w1:World}{a:Obj}{row:Option Nat}(h:(w.alloc a).drew.grownBy w1 row):w.grownBy w1 row :=
 (World.grownBy_alloc w a row).trans ⟨h.os,h.tape,h.output,h.size,h.block⟩
theorem zwL(w:World)(B fg o m:Nat)(bv:Value)(its:List It)(i:It)(E:List (ByteArray × Nat))(hs:i.sort=1)
  (hc:w.cell? ⟨fg,o+2,none⟩=some bv) (hm:w.cell? ⟨fg,o+3,none⟩=some (.map (some m))) (hM:MapIs w m E) (hown:w.ownsRow B 135 8 bv its.length (za0 its)) (hn:its.length≤4096) (hnn:E.length≤4096)
  (hnm:i.nm.size≤1048576) (hold:(zbA E).any (fun y=>eqW y i.nm)=false) :
  Calls Tryz.prog 101 #[.pointer (some ⟨fg,o,none⟩),stm i.sort i.line i.word i.a i.b i.c i.n i.nm] w fun e w'=>e=.returned (.tuple #[])∧w.grownBy w' (some m)∧MapIs w' m (E++[(i.nm,its.length)]):=by
 have lg:fg<w.heap.size:=World.block_lt_of_cell? w _ hc
 have hne4:¬w.heap.size=fg:=by omega
 have hne5:¬fg=w.heap.size:=by omega
 have hv:∃ ao cap,bv=.slice ao its.length cap:=by
  rcases hown.2 with ⟨hv,h0⟩|⟨g,cap,cur,hv,_⟩
  ·exact⟨none,0,by rw [hv,h0]⟩
  ·exact⟨_,cap,hv⟩
 obtain⟨ao,cap0,rfl⟩:=hv
 rw [hs]
 have hcall:=zkO ((w.alloc (.cells #[.int .i64 1,.int .i64 i.line,.string i.word,.int .i64 i.a,.int .i64 i.b,.int .i64 i.c,.int .i64 i.n,.string i.nm] 135)).drew) m E (hM.alloc _).drew 1 i.line i.word i.a i.b i.c i.n i.nm its.length hn hnn hnm hold
 go_enter Tryz.func101,Tryz.ntmps101
 go_wp2_with fail
 go_region_with(go_at_call 131;refine hcall.mono ?_;rintro e w2 ⟨rfl,hM2,hg2⟩)
 all_goals go_wp2
 all_goals go_end0
 all_goals exact⟨rfl,zfP hg2,hM2⟩
end Go.Proofs.YtfpgjkbjbbgciaaGreatDoor
