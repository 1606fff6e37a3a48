import Derived.Test.YtfpgjkbjbbgciaaGreatDoorMk07
import Derived.Test.YtfpgjkbjbbgciaaGreatDoorMk09
import Derived.Test.YtfpgjkbjbbgciaaGreatDoorMk10
set_option maxRecDepth 100000
set_option maxHeartbeats 8000000
namespace Go.Proofs.YtfpgjkbjbbgciaaGreatDoor
open Go.RowKit Sp
theorem zsL(w:World)(g cap:Nat)(x:ByteArray)(line:Int)(hl:WordsIn w g [x])(HS:Hid (zaa x=[])):
  Calls Tryz.prog 130 #[.slice (some ⟨g,0,none⟩) 1 cap,.int .i64 line] w fun e w'=>Below w.heap.size w w'∧e=.returned (stm 2 line x 0 0 0 0 ⟨#[]⟩):=by
 have a:=hl 0 (by simp);simp only [List.getElem_cons_zero] at a;have hlt:g<w.heap.size:=by
  have:=World.block_lt_of_cell? w _ a;simpa using this
 go_enter Tryz.func130,Tryz.ntmps130;go_wp2_with(first
  | (go_at_call 149;refine(zl4 x _ HS).mono ?_;rintro e wx ⟨rfl,b⟩;have c:=b.symm;subst c))
 refine wp_loop_rounds 1 ?_;rw [rounds_succ];go_wp2;refine bodyPost_ret (v:=stm 2 line x 0 0 0 0 ⟨#[]⟩) (by simp [results,Tryz.results130,go_sem]) rfl ⟨?_,rfl⟩;exact((Below.refl _ _).alloc (Nat.le_refl _) _).alloc (by simp) _
theorem zvS(w:World)(hw:LibW w)(g cap:Nat)(x:ByteArray)(r:List ByteArray)(line:Int)(hl:WordsIn w g (x :: r))(hsz:∀ j (hj:j<r.length),r[j].size≤1048576)(hn:r.length≤1048576):
  Calls Tryz.prog 130 #[.slice (some ⟨g,0,none⟩) (r.length+1) cap,.int .i64 line] w (zsF w x r line):=by
 have i:=zsK x;by_cases a:zaa x=[63]
 ·refine(zsH w g cap x r line hl hn a).mono ?_;rintro e k ⟨c,d⟩;exact⟨d,.inr ⟨by unfold zhr;rw [if_pos (.inl a)],c⟩⟩
 ·by_cases b:r.length=(zaa x).length
  ·have hio:zhr x r=za1 (zaa x) r:=by unfold zhr;rw [if_neg];rintro(h|h);exact a h;exact h b
   by_cases f:zaa x=[]
   ·have l:r=[]:=List.eq_nil_of_length_eq_zero (by rw [b,f];rfl);subst l;refine(zsL w g cap x line hl f).mono ?_;rintro e k ⟨c,d⟩;refine⟨c,.inl ⟨by rw [hio,f];rfl,?_⟩⟩;rw [d,f];rfl
   ·refine(zvR w hw g cap x r line hl hsz (zaa x) rfl a f i (by omega) (by omega)).mono ?_;rintro e k ⟨c,d⟩;refine⟨c,?_⟩;rw [hio];exact d
  ·refine(zvO w g cap x r line hl hn (zaa x) rfl a i (by simp;omega)).mono ?_;rintro e k ⟨c,d⟩;exact⟨d,.inr ⟨by unfold zhr;rw [if_pos (.inr b)],c⟩⟩
def zfq(q:Said):Int:=if q.kind=102 then 0 else if q.kind=108 then 1 else 2
def zdQ(q:Said):ByteArray:=if q.kind=105 then q.word 0 else⟨#[]⟩
def zcC(q:Said):ByteArray:=if q.kind=102 then q.word 1 else if q.kind=108 then q.word 0 else zqr (zaa (q.word 0)) q.kept.tail q.kept.tail.length
def opQ(q:Said):Opd:=if q.kind=105 then opK (zaa (q.word 0)) q.kept.tail q.kept.tail.length else opd0
def zyv(w:World)(q:Said)(line:Int):Ending→World→Prop:=fun e w' =>
 Below w.heap.size w w'∧(q.ok=true∧e=.returned (stm (zfq q) line (zdQ q) (opQ q).a (opQ q).b (opQ q).c (opQ q).n (zcC q))∨q.ok=false∧e=zak 1 line)
theorem zjJ(x:ByteArray)(h:1≤x.size):∃ l c,x.data.toList=l++[c]∧zfi x=(c.toNat:Int)∧l.length=x.size-1:=by
 have d:x.data.toList.length=x.size:=by simp
 have b:x.data.toList≠[]:=by intro e;rw [e] at d;simp at d;omega
 obtain⟨l,c,e⟩:∃ l c,x.data.toList=l++[c]:=⟨x.data.toList.dropLast,x.data.toList.getLast b,(List.dropLast_concat_getLast b).symm⟩
 have a:l.length=x.size-1:=by rw [e] at d;simp at d;omega
 refine⟨l,c,e,?_,a⟩;unfold zfi bt;rw [←Array.getElem?_toList,e,←a];simp
theorem zdR(x:ByteArray)(h:1≤x.size):Lib.hasSuffix x.data.toList [58]=decide (zfi x=58):=by
 obtain⟨l,c,e,h1,_⟩:=zjJ x h;rw [h1,e];unfold Lib.hasSuffix List.isSuffixOf;rw [List.reverse_append];by_cases a:c=58
 ·subst a;simp [List.isPrefixOf]
 ·have b:¬58=c:=fun e=>a e.symm;have d:¬(c.toNat:Int)=58:=by
   intro e;apply a;exact UInt8.toNat_inj.1 (by simp;omega)
  simp [List.isPrefixOf,b,d]
theorem zl5(x:ByteArray)(h:1≤x.size)(hs:zfi x=58):(⟨(Lib.trimSuffix x.data.toList [58]).toArray⟩:ByteArray)=x.extract 0 (x.size-1):=by
 obtain⟨l,c,e,_,h2⟩:=zjJ x h;unfold Lib.trimSuffix;rw [zdR x h,hs];simp only [decide_true,if_true];apply ByteArray.ext;rw [ByteArray.data_extract];apply Array.ext';rw [Array.toList_extract,List.extract_eq_take_drop];simp only [List.drop_zero,Nat.sub_zero];congr 1
theorem znz(x:ByteArray)(_h:1≤x.size)(hs:zfi x=58):zaa x=[63]:=by
 have b:∀ l:List UInt8,(isW x l=true)→zfi ⟨l.toArray⟩=58:=by
  intro l d;have:=zaB x l d;rw [←this];exact hs
 unfold zaa
 repeat' split
 all_goals first
  | rfl
  | (exfalso;rename_i a;simp only [Bool.or_eq_true] at a;rcases a with a|a <;> (first|(have:=b _ a;revert this;decide)|(rcases a with a|a <;> (have:=b _ a;revert this;decide))))
theorem WordsIn.alloc{w:World}{g:Nat}{l:List ByteArray}(h:WordsIn w g l)(o:Obj):WordsIn (w.alloc o) g l:=by
 intro j b;have a:=h j b;rw [World.cell?_alloc_lt w o ⟨g,j,none⟩ (by have:=World.block_lt_of_cell? w _ a;simpa using this)];exact a
abbrev zcP:Obj:=.cells #[.int .i64 0,.int .i64 0,.string ⟨#[]⟩,.int .i64 0,.int .i64 0,.int .i64 0,.int .i64 0,.string ⟨#[]⟩] 135
theorem zdC{w w1:World}{o:Obj}(hb:Below (w.alloc o).heap.size (w.alloc o) w1):Below w.heap.size w w1:=((Below.refl _ _).alloc (Nat.le_refl _) _).trans (hb.mono (by simp))
theorem zkv(w:World)(g cap:Nat)(r:List ByteArray)(line:Int)(hl:WordsIn w g (⟨#[102,117,110,99]⟩ :: r))(hsz:∀ y∈(⟨#[102,117,110,99]⟩ :: r:List ByteArray),y.size≤1048576)(hn:r.length≤1048576)(h:¬((⟨#[102,117,110,99]⟩ :: r:List ByteArray).length=2∧za6 ((⟨#[102,117,110,99]⟩ :: r:List ByteArray).getLast?.getD ByteArray.empty)=true)):
  Calls Tryz.prog 99 #[.slice (some ⟨g,0,none⟩) (r.length+1) cap,.int .i64 line] w fun e w'=>e=zak 1 line∧Below w.heap.size w w':=by
 have b:=hl 0 (by simp);simp only [List.getElem_cons_zero] at b;have hlt:g<w.heap.size:=by have:=World.block_lt_of_cell? w _ b;simpa using this
 have a:=zqj (w.alloc zcP) g cap _ line (hl.alloc _) hsz (by simp;omega) h;simp only [List.length_cons] at a;go_enter Tryz.func99,Tryz.ntmps99;go_wp2_with(go_at_call 127;refine a.mono ?_;rintro e w1 ⟨rfl,c⟩)
 exact⟨rfl,rfl,zdC c⟩
theorem zj4(w:World)(g cap:Nat)(y:ByteArray)(line:Int)(hl:WordsIn w g [⟨#[102,117,110,99]⟩,y])(hy:y.size≤1048576)(hnm:za6 y=true):
  Calls Tryz.prog 99 #[.slice (some ⟨g,0,none⟩) 2 cap,.int .i64 line] w fun e w'=>e=.returned (stm 0 line ⟨#[]⟩ 0 0 0 0 y)∧Below w.heap.size w w':=by
 have b:=hl 0 (by simp);simp only [List.getElem_cons_zero] at b;have hlt:g<w.heap.size:=by have:=World.block_lt_of_cell? w _ b;simpa using this
 have a:=zns (w.alloc zcP) g cap _ y line (hl.alloc _) hy hnm;go_enter Tryz.func99,Tryz.ntmps99;go_wp2_with(go_at_call 127;refine a.mono ?_;rintro e w1 ⟨rfl,c⟩;obtain⟨hc,hf⟩:=zhL c)
 obtain⟨d,f,h,i,j,k,l,m⟩:=zqi (new8 rfl c);refine bodyPost_ret (v:=stm 0 line ⟨#[]⟩ 0 0 0 0 y) (by simp [results,Tryz.results99,go_sem,d,f,h,i,j,k,l,m]) rfl ⟨rfl,?_⟩;exact zjG (zdC c) (Nat.le_refl _) _ _ _ _ _ _ _ _
theorem zl6(w:World)(g cap:Nat)(x:ByteArray)(r:List ByteArray)(line:Int)(hl:WordsIn w g (x :: r))(hx:x.size≤1048576)(hx1:1≤x.size)(hn:r.length≤1048576)(hnf:(x.toList == [102,117,110,99])=false)(hs:zfi x=58)(h:¬(r.length+1=1∧za6 (x.extract 0 (x.size-1))=true)):
  Calls Tryz.prog 99 #[.slice (some ⟨g,0,none⟩) (r.length+1) cap,.int .i64 line] w fun e w'=>e=zak 1 line∧Below w.heap.size w w':=by
 have b:=hl 0 (by simp);simp only [List.getElem_cons_zero] at b;have hlt:g<w.heap.size:=by have:=World.block_lt_of_cell? w _ b;simpa using this
 have hcut:=Tryz.strings_CutSuffix x ⟨#[58]⟩ (w.alloc zcP) (by omega);rw [show(⟨#[58]⟩:ByteArray).data.toList=[58] from rfl,zdR x hx1,zl5 x hx1 hs,hs] at hcut;simp only [decide_true] at hcut;have a:=zqk (w.alloc zcP) (some ⟨g,0,none⟩) (r.length+1) cap (x.extract 0 (x.size-1)) line (by rw [ByteArray.size_extract];omega) (by omega) h;clear hs;go_enter Tryz.func99,Tryz.ntmps99;go_wp2_with(first|(go_at_call 128;refine hcut.mono ?_;rintro e wx ⟨rfl,c⟩;subst c)|(go_at_call 129;refine a.mono ?_;rintro e w1 ⟨rfl,d⟩))
 exact⟨rfl,rfl,zdC d⟩
theorem zkw(w:World)(g cap:Nat)(x:ByteArray)(line:Int)(hl:WordsIn w g [x])(hx:x.size≤1048576)(hx1:1≤x.size)(hnf:(x.toList == [102,117,110,99])=false)(hs:zfi x=58)(h:za6 (x.extract 0 (x.size-1))=true):
  Calls Tryz.prog 99 #[.slice (some ⟨g,0,none⟩) 1 cap,.int .i64 line] w fun e w'=>e=.returned (stm 1 line ⟨#[]⟩ 0 0 0 0 (x.extract 0 (x.size-1)))∧Below w.heap.size w w':=by
 have b:=hl 0 (by simp);simp only [List.getElem_cons_zero] at b;have hlt:g<w.heap.size:=by have:=World.block_lt_of_cell? w _ b;simpa using this
 have hcut:=Tryz.strings_CutSuffix x ⟨#[58]⟩ (w.alloc zcP) (by omega);rw [show(⟨#[58]⟩:ByteArray).data.toList=[58] from rfl,zdR x hx1,zl5 x hx1 hs,hs] at hcut;simp only [decide_true] at hcut;have a:=znt (w.alloc zcP) (some ⟨g,0,none⟩) cap (x.extract 0 (x.size-1)) line (by rw [ByteArray.size_extract];omega) h;clear hs;go_enter Tryz.func99,Tryz.ntmps99;go_wp2_with(first|(go_at_call 128;refine hcut.mono ?_;rintro e wx ⟨rfl,d⟩;subst d)|(go_at_call 129;refine a.mono ?_;rintro e w1 ⟨rfl,c⟩;obtain⟨hc,hf⟩:=zhL c))
 obtain⟨f,i,j,k,l,m,n,o⟩:=zqi (new8 rfl c);refine bodyPost_ret (v:=stm 1 line ⟨#[]⟩ 0 0 0 0 (x.extract 0 (x.size-1))) (by simp [results,Tryz.results99,go_sem,f,i,j,k,l,m,n,o]) rfl ⟨rfl,?_⟩;exact zjG (zdC c) (Nat.le_refl _) _ _ _ _ _ _ _ _
theorem zvT(w:World)(hw:LibW w)(g cap:Nat)(x:ByteArray)(r:List ByteArray)(line:Int)(hl:WordsIn w g (x :: r))(hsz:∀ j (hj:j<r.length),r[j].size≤1048576)(hx:x.size≤1048576)(hx1:1≤x.size)(hn:r.length≤1048576)(hnf:(x.toList == [102,117,110,99])=false)(hs:¬zfi x=58):
  Calls Tryz.prog 99 #[.slice (some ⟨g,0,none⟩) (r.length+1) cap,.int .i64 line] w (zsF w x r line):=by
 have h:=hl 0 (by simp);simp only [List.getElem_cons_zero] at h;have hlt:g<w.heap.size:=by have:=World.block_lt_of_cell? w _ h;simpa using this
 have hcut:=Tryz.strings_CutSuffix x ⟨#[58]⟩ (w.alloc zcP) (by omega);rw [show(⟨#[58]⟩:ByteArray).data.toList=[58] from rfl,zdR x hx1] at hcut;simp only [hs,decide_false] at hcut;generalize (⟨(Lib.trimSuffix x.data.toList [58]).toArray⟩:ByteArray)=tr at hcut;have b:=zvS (w.alloc zcP) (hw.below ((Below.refl _ _).alloc (Nat.le_refl _) _)) g cap x r line (hl.alloc _) hsz hn;cases hok:zhr x r with
 | true =>
  have a:=b.mono (R':=fun e k=>e=.returned ((opK (zaa x) r r.length).stm line x)∧Below (w.alloc zcP).heap.size (w.alloc zcP) k) (by
   rintro e k ⟨l,c|c⟩
   ·exact⟨c.2,l⟩
   ·rw [hok] at c;exact absurd c.1 (by simp))
  clear hs b;generalize i:opK (zaa x) r r.length=op at a;obtain⟨o,p,q,s,n⟩:=op;have HO:Hid (opK (zaa x) r r.length=⟨o,p,q,s,n⟩):=i;clear i;go_enter Tryz.func99,Tryz.ntmps99;go_wp2_with(first|(go_at_call 128;refine hcut.mono ?_;rintro e F ⟨rfl,d⟩;subst d)|(go_at_call 130;refine a.mono ?_;rintro e E ⟨rfl,f⟩;obtain⟨hc,hf⟩:=zhL f))
  obtain⟨t,u,y,z,A,B,C,D⟩:=zqi (new8 rfl f);refine bodyPost_ret (v:=stm 2 line x p q s n o) (by simp [results,Tryz.results99,go_sem,t,u,y,z,A,B,C,D]) rfl ⟨?_,.inl ⟨hok,by rw [HO.out]⟩⟩;exact zjG (zdC f) (Nat.le_refl _) _ _ _ _ _ _ _ _
 | false =>
  have a:=b.mono (R':=fun e k=>e=zak 1 line∧Below (w.alloc zcP).heap.size (w.alloc zcP) k) (by
   rintro e k ⟨l,c|c⟩
   ·rw [hok] at c;exact absurd c.1 (by simp)
   ·exact⟨c.2,l⟩)
  clear hs b;go_enter Tryz.func99,Tryz.ntmps99;go_wp2_with(first|(go_at_call 128;refine hcut.mono ?_;rintro e F ⟨rfl,d⟩;subst d)|(go_at_call 130;refine a.mono ?_;rintro e E ⟨rfl,f⟩))
  exact⟨rfl,zdC f,.inr ⟨hok,rfl⟩⟩
theorem zpj(w:World)(hw:LibW w)(g cap:Nat)(x:ByteArray)(r:List ByteArray)(line:Int)(hl:WordsIn w g (x :: r))(hsz:∀ y∈(x :: r:List ByteArray),1≤y.size∧y.size≤1048576)(hn:r.length≤1048576):
  Calls Tryz.prog 99 #[.slice (some ⟨g,0,none⟩) (r.length+1) cap,.int .i64 line] w (zyv w (sayW (x :: r)) line):=by
 have m:=hsz x (by simp);cases hf:zek x with
 | true =>
  have o:sayW (x :: r)=⟨102,x :: r,decide ((x :: r).length=2)&&za6 ((x :: r).getLast?.getD ByteArray.empty)⟩:=by simp only [sayW,hf,if_true]
  rw [o];have:=zyu x hf;subst this;by_cases i:(⟨#[102,117,110,99]⟩ :: r:List ByteArray).length=2∧za6 ((⟨#[102,117,110,99]⟩ :: r:List ByteArray).getLast?.getD ByteArray.empty)=true
  ·match r,i,hl,hsz with
   | [y],i,hl,hsz =>
    have s:za6 y=true:=by simpa using i.2
    refine(zj4 w g cap y line hl (hsz y (by simp)).2 s).mono ?_;rintro e q ⟨d,f⟩;exact⟨f,.inl ⟨by simp [s],d⟩⟩
  ·refine(zkv w g cap r line hl (fun y hy=>(hsz y hy).2) hn i).mono ?_;rintro e q ⟨d,f⟩;exact⟨f,.inr ⟨by simpa using i,d⟩⟩
 | false =>
  have k:(x.toList == [102,117,110,99])=false:=hf;by_cases l:zfi x=58
  ·by_cases i:r.length+1=1∧za6 (x.extract 0 (x.size-1))=true
   ·have p:r=[]:=List.eq_nil_of_length_eq_zero (by omega);subst p;have o:sayW [x]=⟨108,[x.extract 0 (x.size-1)],za6 (x.extract 0 (x.size-1))⟩:=by simp only [sayW,hf];rw [if_neg (by simp),if_pos ⟨rfl,l⟩]
    rw [o];refine(zkw w g cap x line hl m.2 m.1 k l i.2).mono ?_;rintro e q ⟨d,f⟩;exact⟨f,.inl ⟨i.2,d⟩⟩
   ·refine(zl6 w g cap x r line hl m.2 m.1 hn k l i).mono ?_;rintro e q ⟨d,f⟩;refine⟨f,.inr ⟨?_,d⟩⟩;by_cases p:r=[]
    ·subst p;have o:sayW [x]=⟨108,[x.extract 0 (x.size-1)],za6 (x.extract 0 (x.size-1))⟩:=by simp only [sayW,hf];rw [if_neg (by simp),if_pos ⟨rfl,l⟩]
     rw [o];simpa using i
    ·have t:¬(x :: r).length=1:=by cases r with|nil=>exact absurd rfl p|cons a b=>simp
     have o:(sayW (x :: r)).ok=if zaa x=[63]∨¬(x :: r).length=(zaa x).length+1 then false else za1 (zaa x) r:=by
      simp only [sayW,hf];rw [if_neg (by simp),if_neg (fun h=>t h.1)]
     rw [o,if_pos (.inl (znz x m.1 l))]
  ·have o:sayW (x :: r)=⟨105,x :: r,if zaa x=[63]∨¬(x :: r).length=(zaa x).length+1 then false else za1 (zaa x) r⟩:=by simp only [sayW,hf];rw [if_neg (by simp),if_neg (fun h=>l h.2)]
   rw [o];have e2:(if zaa x=[63]∨¬(x :: r).length=(zaa x).length+1 then false else za1 (zaa x) r)=zhr x r:=by
    unfold zhr;simp only [List.length_cons,Nat.add_right_cancel_iff]
   rw [e2];refine(zvT w hw g cap x r line hl (fun j hj=>(hsz r[j] (List.mem_cons_of_mem _ (List.getElem_mem hj))).2) m.2 m.1 hn k l).mono ?_;rintro e q ⟨d,f|f⟩
   ·refine⟨d,.inl ⟨f.1,?_⟩⟩;rw [f.2];show Ending.returned (stm 2 line x (opK (zaa x) r r.length).a (opK (zaa x) r r.length).b (opK (zaa x) r r.length).c (opK (zaa x) r r.length).n (opK (zaa x) r r.length).nm)=_;rw [zzS];rfl
   ·exact⟨d,.inr f⟩
theorem zsN(s:ByteArray)(w:World)(hs:s.size≤9223372036854775807)(h:4000<s.size∨300<(lines s).length):
  Calls Tryz.prog 65 #[.string s] w fun e w'=>e=zak 6 0∧w'=w:=by
 have f:=(zdT s).1;have hll:=zsM s;have a:=Tryz.strings_Count_one s 10 w;generalize Lib.countByte s.data.toList 10=c at f a;by_cases h4:4000<s.size
 ·go_enter Tryz.func65,Tryz.ntmps65;go_wp2_with(first|(go_at_call 96;refine a.mono ?_;rintro e g ⟨rfl,b⟩;have d:=b.symm;subst d)|(go_at_call 79;refine(zay _ _ _).mono ?_;rintro e g ⟨rfl,b⟩;have d:=b.symm;subst d))
  exact⟨rfl,rfl,rfl⟩
 ·have h3:300<c+1:=by omega
  have hc:c≤1048576:=by omega
  clear f;go_enter Tryz.func65,Tryz.ntmps65;go_wp2_with(first|(go_at_call 96;refine a.mono ?_;rintro e g ⟨rfl,b⟩;have d:=b.symm;subst d)|(go_at_call 79;refine(zay _ _ _).mono ?_;rintro e g ⟨rfl,b⟩;have d:=b.symm;subst d))
  exact⟨rfl,rfl,rfl⟩
theorem zcD(s:ByteArray)(w:World)(h4:s.size≤4000)(h3:(lines s).length≤300):
  Calls Tryz.prog 65 #[.string s] w fun e w'=>e=.returned (.tuple #[])∧w'=w:=by
 have b:=(zdT s).1;have a:=Tryz.strings_Count_one s 10 w;generalize Lib.countByte s.data.toList 10=c at b a;have h5:c+1≤300:=by omega
 clear b;go_enter Tryz.func65,Tryz.ntmps65;go_wp2_with(first|(go_at_call 96;refine a.mono ?_;rintro e wx ⟨rfl,d⟩;have f:=d.symm;subst f))
 go_end0
 exact⟨rfl,rfl⟩
structure It where
 sort:Int
 line:Int
 word:ByteArray
 nm:ByteArray
 a:Int
 b:Int
 c:Int
 n:Int
abbrev It.cells(i:It):List Value:=[.int .i64 i.sort,.int .i64 i.line,.string i.word,.int .i64 i.a,.int .i64 i.b,.int .i64 i.c,.int .i64 i.n,.string i.nm]
def zav(l:List It):List Value:=l.flatMap It.cells
structure Key where
 sort:Int
 line:Int
 word:ByteArray
 nm:ByteArray
 a:Int
 b:Int
 c:Int
 n:Int
def It.key(i:It):Key:=⟨i.sort,i.line,i.word,i.nm,i.a,i.b,i.c,i.n⟩
def keyQ(q:Said)(line:Int):Key:=⟨zfq q,line,zdQ q,zcC q,(opQ q).a,(opQ q).b,(opQ q).c,(opQ q).n⟩
def zaU(A:List ByteArray):Nat→List Key
 | 0=>[]
 | k+1=>zaU A k++(match A[k]? with|none=>[]|some x=>if(say x).kind=0 then [] else [keyQ (say x) ((k:Int)+1)])
theorem zfL(l:List It)(i:It):zav (l++[i])=zav l++i.cells:=by simp [zav]
theorem Tryz.info135:(Tryz.prog.info? 135).map (fun i=>(i.zero,i.size,i.bytes))=some (some (.agg #[.int .i64 0,.int .i64 0,.string ByteArray.empty,.int .i64 0,.int .i64 0,.int .i64 0,.int .i64 0,.string ByteArray.empty]),8,80):=by kernel_rfl
theorem Tryz.under116:Tryz.prog.underlying 116=some (.slice 135):=by kernel_rfl
theorem zim(A:List ByteArray)(k:Nat)(h:k<A.length)(h0:(say A[k]).kind=0):zaU A (k+1)=zaU A k:=by
 simp [zaU,List.getElem?_eq_getElem h,h0]
theorem zjL(A:List ByteArray)(k:Nat)(h:k<A.length)(h0:¬(say A[k]).kind=0):zaU A (k+1)=zaU A k++[keyQ (say A[k]) ((k:Int)+1)]:=by
 simp [zaU,List.getElem?_eq_getElem h,h0]
theorem zsO(x:ByteArray)(hv:zaz x 0=true)(hw:zbu x=[]):say x=⟨0,[],true⟩:=by
 simp [say,hv,hw,sayW]
theorem zin(x:ByteArray)(hv:zaz x 0=true):say x=sayW (zbu x):=by simp [say,hv]
theorem zft(x:ByteArray)(hv:zaz x 0=false):(say x).ok=false:=by simp [say,hv]
theorem zsP(x:ByteArray)(r:List ByteArray):¬(sayW (x :: r)).kind=0:=by
 unfold sayW;dsimp only
 repeat' split
 all_goals simp
def zyy(w:World)(A:List ByteArray):Ending→World→Prop:=fun e w' =>
 Below w.heap.size w w'∧((∃ i:Nat,zbS A 0=(1,(i:Int)+1)∧e=zak 1 ((i:Int)+1)) ∨
  (zbS A 0=zb5 (A.map say) 0∧(∀ x∈A,(say x).ok=true)∧∃ v its,e=.returned v∧w'.ownsRow w.heap.size 135 8 v its.length (zav its)∧its.map It.key=zaU A A.length))
theorem zn1(w:World)(a b c d e f g h:Value)(t:TypeId):∀ j u,[a,b,c,d,e,f,g,h][j]?=some u→(w.alloc (.cells #[a,b,c,d,e,f,g,h] t)).cell? ((⟨w.heap.size,0,none⟩:Addr).add j)=some u:=by
 intro j u i;have k:=World.cell?_alloc_new (w:=w) #[a,b,c,d,e,f,g,h] t j;have h2:(⟨w.heap.size,0,none⟩:Addr).add j=⟨w.heap.size,j,none⟩:=by simp [Addr.add];omega
 rw [h2,k];rw [←List.getElem?_toArray] at i;exact i
theorem zl8(i:It):∀ u∈i.cells,u.oneCell'=true:=by
 intro u b;simp at b;rcases b with rfl|rfl|rfl|rfl|rfl|rfl|rfl|rfl <;> rfl
theorem zio(s:ByteArray)(line:Int)(w:World)(hw:LibW w)(hs:s.size≤1048576)(hv:zaz s 0=true)(l:List ByteArray)(hl:Hid (zbu s=l))(h0:0<l.length):
  Calls Tryz.prog 98 #[.string s,.int .i64 line] w fun e w'=>∃ g cap,e=.returned (.slice (some ⟨g,0,none⟩) l.length cap)∧w.heap.size≤g∧WordsIn w' g l∧Below w.heap.size w w':=by
 refine(zgx s line w hw hs).mono ?_;rintro e w' ⟨d,⟨_,v,rfl,a⟩|⟨h,_⟩⟩
 ·rw [hl.out] at a;obtain⟨g,cap,rfl,_,_,b,_,c⟩:=zzL a h0;exact⟨g,cap,rfl,b,c,d⟩
 ·rw [hv] at h;cases h
theorem zn2(s:ByteArray)(line:Int)(w:World)(hw:LibW w)(hs:s.size≤1048576)(hv:zaz s 0=true)(hl:Hid (zbu s=[])):
  Calls Tryz.prog 98 #[.string s,.int .i64 line] w fun e w'=>∃ ao cap,e=.returned (.slice ao 0 cap)∧Below w.heap.size w w':=by
 refine(zgx s line w hw hs).mono ?_;rintro e w' ⟨c,⟨_,v,rfl,a⟩|⟨h,_⟩⟩
 ·rw [hl.out] at a;rcases a.2 with ⟨b,_⟩|⟨g,cap,cur,b,_⟩
  ·subst b;exact⟨none,0,rfl,c⟩
  ·subst b;exact⟨_,cap,rfl,c⟩
 ·rw [hv] at h;cases h
theorem zqu(s:ByteArray)(line:Int)(w:World)(hw:LibW w)(hs:s.size≤1048576)(hv:zaz s 0=false):
  Calls Tryz.prog 98 #[.string s,.int .i64 line] w fun e w'=>e=zak 1 line∧Below w.heap.size w w':=by
 refine(zgx s line w hw hs).mono ?_;rintro e w' ⟨a,⟨h,_⟩|⟨_,h⟩⟩
 ·rw [hv] at h;cases h
 ·exact⟨h,a⟩
theorem zsQ(w:World)(hw:LibW w)(g cap:Nat)(x:ByteArray)(r:List ByteArray)(line:Int)(hl:WordsIn w g (x :: r))(hsz:∀ y∈(x :: r:List ByteArray),1≤y.size∧y.size≤1048576)(hn:r.length≤1048576)(q:Said)(hq:Hid (sayW (x :: r)=q))(hok:q.ok=true):
  Calls Tryz.prog 99 #[.slice (some ⟨g,0,none⟩) (r.length+1) cap,.int .i64 line] w fun e w'=>e=.returned (stm (zfq q) line (zdQ q) (opQ q).a (opQ q).b (opQ q).c (opQ q).n (zcC q))∧Below w.heap.size w w':=by
 refine(zpj w hw g cap x r line hl hsz hn).mono ?_;rw [hq.out];rintro e w' ⟨d,⟨_,h⟩|⟨h,_⟩⟩
 ·exact⟨h,d⟩
 ·rw [hok] at h;cases h
theorem zl9(w:World)(hw:LibW w)(g cap:Nat)(x:ByteArray)(r:List ByteArray)(line:Int)(hl:WordsIn w g (x :: r))(hsz:∀ y∈(x :: r:List ByteArray),1≤y.size∧y.size≤1048576)(hn:r.length≤1048576)(q:Said)(hq:Hid (sayW (x :: r)=q))(hok:q.ok=false):
  Calls Tryz.prog 99 #[.slice (some ⟨g,0,none⟩) (r.length+1) cap,.int .i64 line] w fun e w'=>e=zak 1 line∧Below w.heap.size w w':=by
 refine(zpj w hw g cap x r line hl hsz hn).mono ?_;rw [hq.out];rintro e w' ⟨a,⟨h,_⟩|⟨_,h⟩⟩
 ·rw [hok] at h;cases h
 ·exact⟨h,a⟩
section
attribute [local go_sem ↓] Go.wp_at_zero Go.wp_at_succ
theorem MapIs.drew{w:World}{b:Nat}{E:List (ByteArray × Nat)}(h:MapIs w b E):MapIs w.drew b E:=h
theorem zn3(w:World)(a:Obj){w1:World}(h:Below (w.alloc a).drew.heap.size (w.alloc a).drew w1):Below w.heap.size w w1 :=
 (((Below.refl w.heap.size w).alloc (Nat.le_refl _) a).drew).trans (h.mono (by show w.heap.size≤(w.alloc a).heap.size;simp))
theorem zy1(w:World)(B fg o m:Nat)(bv:Value)(its:List It)(i:It)(E:List (ByteArray × Nat))(hs:i.sort=1)
  (hc:w.cell? ⟨fg,o+2,none⟩=some bv) (hm:w.cell? ⟨fg,o+3,none⟩=some (.map (some m))) (hM:MapIs w m E) (hown:w.ownsRow B 135 8 bv its.length (zav its)) (_hn:its.length≤4096)
  (hnm:i.nm.size≤1048576) (hold:(zbx E).any (fun y=>eqW y i.nm)=true) :
  Calls Tryz.prog 101 #[.pointer (some ⟨fg,o,none⟩),stm i.sort i.line i.word i.a i.b i.c i.n i.nm] w fun e w'=>e=zak 3 i.line∧Below w.heap.size w w':=by
 have lg:fg<w.heap.size:=World.block_lt_of_cell? w _ hc;have hne4:¬w.heap.size=fg:=by omega
 have hne5:¬fg=w.heap.size:=by omega
 have h:∃ j d,bv=.slice j its.length d:=by
  rcases hown.2 with ⟨h,k⟩|⟨g,d,cur,h,_⟩
  ·exact⟨none,0,by rw [h,k]⟩
  ·exact⟨_,d,h⟩
 obtain⟨j,d,rfl⟩:=h;rw [hs];have f:=zlC ((w.alloc (.cells #[.int .i64 1,.int .i64 i.line,.string i.word,.int .i64 i.a,.int .i64 i.b,.int .i64 i.c,.int .i64 i.n,.string i.nm] 135)).drew) m E (hM.alloc _).drew 1 i.line i.word i.a i.b i.c i.n i.nm (its.length:Int) hnm hold;go_enter Tryz.func101,Tryz.ntmps101;go_wp2_with fail
 go_region_dies
 all_goals(go_at_call 131;refine f.mono ?_;rintro e w2 ⟨rfl,l⟩)
 all_goals exact⟨rfl,rfl,zn3 _ _ l⟩
theorem zvV(w:World)(s l:Int)(x:ByteArray)(a b c n:Int)(y:ByteArray):
  ((w.alloc (.cells #[.int .i64 s,.int .i64 l,.string x,.int .i64 a,.int .i64 b,.int .i64 c,.int .i64 n,.string y] 135)).drew).cell? ⟨w.heap.size,0,none⟩=some (.int .i64 s) ∧
  ((w.alloc (.cells #[.int .i64 s,.int .i64 l,.string x,.int .i64 a,.int .i64 b,.int .i64 c,.int .i64 n,.string y] 135)).drew).cell? ⟨w.heap.size,1,none⟩=some (.int .i64 l) ∧
  ((w.alloc (.cells #[.int .i64 s,.int .i64 l,.string x,.int .i64 a,.int .i64 b,.int .i64 c,.int .i64 n,.string y] 135)).drew).cell? ⟨w.heap.size,2,none⟩=some (.string x) ∧
  ((w.alloc (.cells #[.int .i64 s,.int .i64 l,.string x,.int .i64 a,.int .i64 b,.int .i64 c,.int .i64 n,.string y] 135)).drew).cell? ⟨w.heap.size,3,none⟩=some (.int .i64 a) ∧
  ((w.alloc (.cells #[.int .i64 s,.int .i64 l,.string x,.int .i64 a,.int .i64 b,.int .i64 c,.int .i64 n,.string y] 135)).drew).cell? ⟨w.heap.size,4,none⟩=some (.int .i64 b) ∧
  ((w.alloc (.cells #[.int .i64 s,.int .i64 l,.string x,.int .i64 a,.int .i64 b,.int .i64 c,.int .i64 n,.string y] 135)).drew).cell? ⟨w.heap.size,5,none⟩=some (.int .i64 c) ∧
  ((w.alloc (.cells #[.int .i64 s,.int .i64 l,.string x,.int .i64 a,.int .i64 b,.int .i64 c,.int .i64 n,.string y] 135)).drew).cell? ⟨w.heap.size,6,none⟩=some (.int .i64 n) ∧
  ((w.alloc (.cells #[.int .i64 s,.int .i64 l,.string x,.int .i64 a,.int .i64 b,.int .i64 c,.int .i64 n,.string y] 135)).drew).cell? ⟨w.heap.size,7,none⟩=some (.string y):=by
 have h:=World.cell?_alloc_new (w:=w) #[.int .i64 s,.int .i64 l,.string x,.int .i64 a,.int .i64 b,.int .i64 c,.int .i64 n,.string y] 135;exact⟨h 0,h 1,h 2,h 3,h 4,h 5,h 6,h 7⟩
theorem zjN(w:World)(b:Obj)(p:Addr)(h:p.block<w.heap.size):(w.alloc b).drew.frozen? p=w.frozen? p :=
 World.frozen?_of_block (w:=w) (((Below.refl w.heap.size w).alloc (Nat.le_refl _) b).drew.block p.block h)
theorem zh1(w:World)(b:Obj)(p:Addr)(h:p.block<w.heap.size):(w.alloc b).drew.cell? p=w.cell? p :=
 World.cell?_of_block (w:=w) (((Below.refl w.heap.size w).alloc (Nat.le_refl _) b).drew.block p.block h)
theorem zpk(w:World)(cs:Array Value)(t:TypeId):(w.alloc (.cells cs t)).drew.heap[w.heap.size]?=some (.cells cs t (0,0)):=heap_alloc_new w (.cells cs t)
theorem zip{w w1:World}{a:Obj}{row:Option Nat}(h:(w.alloc a).drew.grownBy w1 row):w.grownBy w1 row :=
 (World.grownBy_alloc w a row).trans ⟨h.os,h.tape,h.output,h.size,h.block⟩
theorem zy2(w:World)(B fg o m:Nat)(bv:Value)(its:List It)(i:It)(E:List (ByteArray × Nat))(hs:i.sort=1)
  (hc:w.cell? ⟨fg,o+2,none⟩=some bv) (hm:w.cell? ⟨fg,o+3,none⟩=some (.map (some m))) (hM:MapIs w m E) (hown:w.ownsRow B 135 8 bv its.length (zav its)) (hn:its.length≤4096) (hnn:E.length≤4096)
  (hnm:i.nm.size≤1048576) (hold:(zbx E).any (fun y=>eqW y i.nm)=false) :
  Calls Tryz.prog 101 #[.pointer (some ⟨fg,o,none⟩),stm i.sort i.line i.word i.a i.b i.c i.n i.nm] w fun e w'=>e=.returned (.tuple #[])∧w.grownBy w' (some m)∧MapIs w' m (E++[(i.nm,its.length)]):=by
 have lg:fg<w.heap.size:=World.block_lt_of_cell? w _ hc;have hne4:¬w.heap.size=fg:=by omega
 have hne5:¬fg=w.heap.size:=by omega
 have h:∃ l d,bv=.slice l its.length d:=by
  rcases hown.2 with ⟨h,p⟩|⟨g,d,cur,h,_⟩
  ·exact⟨none,0,by rw [h,p]⟩
  ·exact⟨_,d,h⟩
 obtain⟨l,cap0,rfl⟩:=h;rw [hs];have f:=zlB ((w.alloc (.cells #[.int .i64 1,.int .i64 i.line,.string i.word,.int .i64 i.a,.int .i64 i.b,.int .i64 i.c,.int .i64 i.n,.string i.nm] 135)).drew) m E (hM.alloc _).drew 1 i.line i.word i.a i.b i.c i.n i.nm its.length hn hnn hnm hold;go_enter Tryz.func101,Tryz.ntmps101;go_wp2_with fail
 go_region_with(go_at_call 131;refine f.mono ?_;rintro e w2 ⟨rfl,j,k⟩)
 all_goals go_wp2
 all_goals go_end0
 all_goals exact⟨rfl,zip k,j⟩
end
end Go.Proofs.YtfpgjkbjbbgciaaGreatDoor
