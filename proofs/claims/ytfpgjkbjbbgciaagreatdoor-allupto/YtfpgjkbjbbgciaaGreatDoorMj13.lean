import Derived.Test.YtfpgjkbjbbgciaaGreatDoorMj10
import Derived.Test.YtfpgjkbjbbgciaaGreatDoorMj11
import Derived.Test.YtfpgjkbjbbgciaaGreatDoorMj12
set_option maxRecDepth 100000
set_option maxHeartbeats 8000000
namespace Go.Proofs.YtfpgjkbjbbgciaaGreatDoor
open Go.RowKit Sp
theorem zsM(w:World)(g cap:Nat)(x:ByteArray)(line:Int)(hl:WordsIn w g [x])(HS:Hid (zaa x=[])):
  qC 130 #[.slice (some ⟨g,0,none⟩) 1 cap,.int .i64 line] w fun e w'=>qB w w'∧e=.returned (stm 2 line x 0 0 0 0 ⟨#[]⟩):=by
 have a:=hl 0 (by simp);simp only [List.getElem_cons_zero] at a;have hlt:g<w.heap.size:=by
  have:=World.block_lt_of_cell? w _ a;simpa using this
 go_enter Tryz.func130,Tryz.ntmps130;go_wp2_with(first
  | (go_at_call 149;refine(zlm x _ HS).mono ?_;rintro e wx ⟨rfl,b⟩;have c:=b.symm;subst c))
 refine wp_loop_rounds 1 ?_;rw [rounds_succ];go_wp2;refine bodyPost_ret (v:=stm 2 line x 0 0 0 0 ⟨#[]⟩) (by simp [results,Tryz.results130,go_sem]) rfl ⟨?_,rfl⟩;exact((Below.refl _ _).alloc (Nat.le_refl _) _).alloc (by simp) _
theorem zvH(w:World)(hw:LibW w)(g cap:Nat)(x:ByteArray)(r:List ByteArray)(line:Int)(hl:WordsIn w g (x :: r))(hsz:∀ j (hj:j<r.length),r[j].size≤1048576)(hn:r.length≤1048576):
  qC 130 #[.slice (some ⟨g,0,none⟩) (r.length+1) cap,.int .i64 line] w (zsD w x r line):=by
 have i:=zlo x;by_cases a:zaa x=[63]
 ·refine(zsF w g cap x r line hl hn a).mono ?_;rintro e k ⟨c,d⟩;exact⟨d,.inr ⟨by unfold zhv;rw [if_pos (.inl a)],c⟩⟩
 ·by_cases b:r.length=(zaa x).length
  ·have hio:zhv x r=zaX (zaa x) r:=by unfold zhv;rw [if_neg];rintro(h|h);exact a h;exact h b
   by_cases f:zaa x=[]
   ·have l:r=[]:=List.eq_nil_of_length_eq_zero (by rw [b,f];rfl);subst l;refine(zsM w g cap x line hl f).mono ?_;rintro e k ⟨c,d⟩;refine⟨c,.inl ⟨by rw [hio,f];rfl,?_⟩⟩;rw [d,f];rfl
   ·refine(zvE w hw g cap x r line hl hsz (zaa x) rfl a f i (by omega) (by omega)).mono ?_;rintro e k ⟨c,d⟩;refine⟨c,?_⟩;rw [hio];exact d
  ·refine(zvB w g cap x r line hl hn (zaa x) rfl a i (by simp;omega)).mono ?_;rintro e k ⟨c,d⟩;exact⟨d,.inr ⟨by unfold zhv;rw [if_pos (.inr b)],c⟩⟩
def zf6(q:Said):Int:=if q.kind=102 then 0 else if q.kind=108 then 1 else 2
def zeH(q:Said):ByteArray:=if q.kind=105 then q.word 0 else⟨#[]⟩
def zdP(q:Said):ByteArray:=if q.kind=102 then q.word 1 else if q.kind=108 then q.word 0 else zql (zaa (q.word 0)) q.kept.tail q.kept.tail.length
def opQ(q:Said):Opd:=if q.kind=105 then opK (zaa (q.word 0)) q.kept.tail q.kept.tail.length else opd0
def zxJ(w:World)(q:Said)(line:Int):Ending→World→Prop:=fun e w' =>
 qB w w'∧(q.ok=true∧e=.returned (stm (zf6 q) line (zeH q) (opQ q).a (opQ q).b (opQ q).c (opQ q).n (zdP q))∨q.ok=false∧e=zak 1 line)
theorem zj3(x:ByteArray)(h:1≤x.size):∃ l c,x.data.toList=l++[c]∧zfS x=(c.toNat:Int)∧l.length=x.size-1:=by
 have d:x.data.toList.length=x.size:=by simp
 have b:x.data.toList≠[]:=by intro e;rw [e] at d;simp at d;omega
 obtain⟨l,c,e⟩:∃ l c,x.data.toList=l++[c]:=⟨x.data.toList.dropLast,x.data.toList.getLast b,(List.dropLast_concat_getLast b).symm⟩
 have a:l.length=x.size-1:=by rw [e] at d;simp at d;omega
 refine⟨l,c,e,?_,a⟩;unfold zfS bt;rw [←Array.getElem?_toList,e,←a];simp
theorem zet(x:ByteArray)(h:1≤x.size):Lib.hasSuffix x.data.toList [58]=decide (zfS x=58):=by
 obtain⟨l,c,e,h1,_⟩:=zj3 x h;rw [h1,e];unfold Lib.hasSuffix List.isSuffixOf;rw [List.reverse_append];by_cases a:c=58
 ·subst a;simp [List.isPrefixOf]
 ·have d:¬58=c:=fun e=>a e.symm;have b:¬(c.toNat:Int)=58:=by
   intro e;apply a;exact UInt8.toNat_inj.1 (by simp;omega)
  simp [List.isPrefixOf,d,b]
theorem zlp(x:ByteArray)(h:1≤x.size)(hs:zfS x=58):(⟨(Lib.trimSuffix x.data.toList [58]).toArray⟩:ByteArray)=x.extract 0 (x.size-1):=by
 obtain⟨l,c,e,_,h2⟩:=zj3 x h;unfold Lib.trimSuffix;rw [zet x h,hs];simp only [decide_true,if_true];apply ByteArray.ext;rw [ByteArray.data_extract];apply Array.ext';rw [Array.toList_extract,List.extract_eq_take_drop];simp only [List.drop_zero,Nat.sub_zero];congr 1
theorem znp(x:ByteArray)(_h:1≤x.size)(hs:zfS x=58):zaa x=[63]:=by
 have b:∀ l:List UInt8,(isW x l=true)→zfS ⟨l.toArray⟩=58:=by
  intro l d;have:=za0 x l d;rw [←this];exact hs
 unfold zaa
 repeat' split
 all_goals first
  | rfl
  | (exfalso;rename_i a;simp only [Bool.or_eq_true] at a;rcases a with a|a <;> (first|(have:=b _ a;revert this;decide)|(rcases a with a|a <;> (have:=b _ a;revert this;decide))))
theorem WordsIn.alloc{w:World}{g:Nat}{l:List ByteArray}(h:WordsIn w g l)(o:Obj):WordsIn (w.alloc o) g l:=by
 intro j b;have a:=h j b;rw [World.cell?_alloc_lt w o ⟨g,j,none⟩ (by have:=World.block_lt_of_cell? w _ a;simpa using this)];exact a
abbrev zdw:Obj:=.cells #[.int .i64 0,.int .i64 0,.string ⟨#[]⟩,.int .i64 0,.int .i64 0,.int .i64 0,.int .i64 0,.string ⟨#[]⟩] 135
theorem zea{w w1:World}{o:Obj}(hb:Below (w.alloc o).heap.size (w.alloc o) w1):qB w w1:=((Below.refl _ _).alloc (Nat.le_refl _) _).trans (hb.mono (by simp))
theorem zkw(w:World)(g cap:Nat)(r:List ByteArray)(line:Int)(hl:WordsIn w g (⟨#[102,117,110,99]⟩ :: r))(hsz:∀ y∈(⟨#[102,117,110,99]⟩ :: r:List ByteArray),y.size≤1048576)(hn:r.length≤1048576)(h:¬((⟨#[102,117,110,99]⟩ :: r:List ByteArray).length=2∧za8 ((⟨#[102,117,110,99]⟩ :: r:List ByteArray).getLast?.getD ByteArray.empty)=true)):
  qC 99 #[.slice (some ⟨g,0,none⟩) (r.length+1) cap,.int .i64 line] w fun e w'=>e=zak 1 line∧qB w w':=by
 have b:=hl 0 (by simp);simp only [List.getElem_cons_zero] at b;have hlt:g<w.heap.size:=by have:=World.block_lt_of_cell? w _ b;simpa using this
 have a:=zqa (w.alloc zdw) g cap _ line (hl.alloc _) hsz (by simp;omega) h;simp only [List.length_cons] at a;go_enter Tryz.func99,Tryz.ntmps99;go_wp2_with(go_at_call 127;refine a.mono ?_;rintro e w1 ⟨rfl,c⟩)
 exact⟨rfl,rfl,zea c⟩
theorem zjj(w:World)(g cap:Nat)(y:ByteArray)(line:Int)(hl:WordsIn w g [⟨#[102,117,110,99]⟩,y])(hy:y.size≤1048576)(hnm:za8 y=true):
  qC 99 #[.slice (some ⟨g,0,none⟩) 2 cap,.int .i64 line] w (qR w (stm 0 line ⟨#[]⟩ 0 0 0 0 y)):=by
 have b:=hl 0 (by simp);simp only [List.getElem_cons_zero] at b;have hlt:g<w.heap.size:=by have:=World.block_lt_of_cell? w _ b;simpa using this
 have a:=zni (w.alloc zdw) g cap _ y line (hl.alloc _) hy hnm;go_enter Tryz.func99,Tryz.ntmps99;go_wp2_with(go_at_call 127;refine a.mono ?_;rintro e w1 ⟨rfl,c⟩;obtain⟨hc,hf⟩:=zdH c)
 obtain⟨h,d,j,l,i,f,k,m⟩:=zpZ (new8 rfl c);refine bodyPost_ret (v:=stm 0 line ⟨#[]⟩ 0 0 0 0 y) (by simp [results,Tryz.results99,go_sem,h,d,j,l,i,f,k,m]) rfl ⟨rfl,?_⟩;exact zjz (zea c) (Nat.le_refl _) _ _ _ _ _ _ _ _
theorem zlq(w:World)(g cap:Nat)(x:ByteArray)(r:List ByteArray)(line:Int)(hl:WordsIn w g (x :: r))(hx:x.size≤1048576)(hx1:1≤x.size)(hn:r.length≤1048576)(hnf:(x.toList == [102,117,110,99])=false)(hs:zfS x=58)(h:¬(r.length+1=1∧za8 (x.extract 0 (x.size-1))=true)):
  qC 99 #[.slice (some ⟨g,0,none⟩) (r.length+1) cap,.int .i64 line] w fun e w'=>e=zak 1 line∧qB w w':=by
 have b:=hl 0 (by simp);simp only [List.getElem_cons_zero] at b;have hlt:g<w.heap.size:=by have:=World.block_lt_of_cell? w _ b;simpa using this
 have hcut:=Tryz.strings_CutSuffix x ⟨#[58]⟩ (w.alloc zdw) (by omega);rw [show(⟨#[58]⟩:ByteArray).data.toList=[58] from rfl,zet x hx1,zlp x hx1 hs,hs] at hcut;simp only [decide_true] at hcut;have a:=zqb (w.alloc zdw) (some ⟨g,0,none⟩) (r.length+1) cap (x.extract 0 (x.size-1)) line (by rw [ByteArray.size_extract];omega) (by omega) h;clear hs;go_enter Tryz.func99,Tryz.ntmps99;go_wp2_with(first|(go_at_call 128;refine hcut.mono ?_;rintro e wx ⟨rfl,c⟩;subst c)|(go_at_call 129;refine a.mono ?_;rintro e w1 ⟨rfl,d⟩))
 exact⟨rfl,rfl,zea d⟩
theorem zkx(w:World)(g cap:Nat)(x:ByteArray)(line:Int)(hl:WordsIn w g [x])(hx:x.size≤1048576)(hx1:1≤x.size)(hnf:(x.toList == [102,117,110,99])=false)(hs:zfS x=58)(h:za8 (x.extract 0 (x.size-1))=true):
  qC 99 #[.slice (some ⟨g,0,none⟩) 1 cap,.int .i64 line] w (qR w (stm 1 line ⟨#[]⟩ 0 0 0 0 (x.extract 0 (x.size-1)))):=by
 have b:=hl 0 (by simp);simp only [List.getElem_cons_zero] at b;have hlt:g<w.heap.size:=by have:=World.block_lt_of_cell? w _ b;simpa using this
 have hcut:=Tryz.strings_CutSuffix x ⟨#[58]⟩ (w.alloc zdw) (by omega);rw [show(⟨#[58]⟩:ByteArray).data.toList=[58] from rfl,zet x hx1,zlp x hx1 hs,hs] at hcut;simp only [decide_true] at hcut;have a:=znj (w.alloc zdw) (some ⟨g,0,none⟩) cap (x.extract 0 (x.size-1)) line (by rw [ByteArray.size_extract];omega) h;clear hs;go_enter Tryz.func99,Tryz.ntmps99;go_wp2_with(first|(go_at_call 128;refine hcut.mono ?_;rintro e wx ⟨rfl,c⟩;subst c)|(go_at_call 129;refine a.mono ?_;rintro e w1 ⟨rfl,d⟩;obtain⟨hc,hf⟩:=zdH d))
 obtain⟨l,f,m,o,k,i,j,n⟩:=zpZ (new8 rfl d);refine bodyPost_ret (v:=stm 1 line ⟨#[]⟩ 0 0 0 0 (x.extract 0 (x.size-1))) (by simp [results,Tryz.results99,go_sem,l,f,m,o,k,i,j,n]) rfl ⟨rfl,?_⟩;exact zjz (zea d) (Nat.le_refl _) _ _ _ _ _ _ _ _
theorem zvI(w:World)(hw:LibW w)(g cap:Nat)(x:ByteArray)(r:List ByteArray)(line:Int)(hl:WordsIn w g (x :: r))(hsz:∀ j (hj:j<r.length),r[j].size≤1048576)(hx:x.size≤1048576)(hx1:1≤x.size)(hn:r.length≤1048576)(hnf:(x.toList == [102,117,110,99])=false)(hs:¬zfS x=58):
  qC 99 #[.slice (some ⟨g,0,none⟩) (r.length+1) cap,.int .i64 line] w (zsD w x r line):=by
 have i:=hl 0 (by simp);simp only [List.getElem_cons_zero] at i;have hlt:g<w.heap.size:=by have:=World.block_lt_of_cell? w _ i;simpa using this
 have hcut:=Tryz.strings_CutSuffix x ⟨#[58]⟩ (w.alloc zdw) (by omega);rw [show(⟨#[58]⟩:ByteArray).data.toList=[58] from rfl,zet x hx1] at hcut;simp only [hs,decide_false] at hcut;generalize (⟨(Lib.trimSuffix x.data.toList [58]).toArray⟩:ByteArray)=tr at hcut;have b:=zvH (w.alloc zdw) (hw.below ((Below.refl _ _).alloc (Nat.le_refl _) _)) g cap x r line (hl.alloc _) hsz hn;cases hok:zhv x r with
 | true =>
  have a:=b.mono (R':=fun e k=>e=.returned ((opK (zaa x) r r.length).stm line x)∧Below (w.alloc zdw).heap.size (w.alloc zdw) k) (by
   rintro e k ⟨l,d|d⟩
   ·exact⟨d.2,l⟩
   ·rw [hok] at d;exact absurd d.1 (by simp))
  clear hs b;generalize f:opK (zaa x) r r.length=op at a;obtain⟨o,s,q,p,n⟩:=op;have HO:Hid (opK (zaa x) r r.length=⟨o,s,q,p,n⟩):=f;clear f;go_enter Tryz.func99,Tryz.ntmps99;go_wp2_with(first|(go_at_call 128;refine hcut.mono ?_;rintro e F ⟨rfl,c⟩;subst c)|(go_at_call 130;refine a.mono ?_;rintro e A ⟨rfl,h⟩;obtain⟨hc,hf⟩:=zdH h))
  obtain⟨C,z,D,E,u,B,t,y⟩:=zpZ (new8 rfl h);refine bodyPost_ret (v:=stm 2 line x s q p n o) (by simp [results,Tryz.results99,go_sem,C,z,D,E,u,B,t,y]) rfl ⟨?_,.inl ⟨hok,by rw [HO.out]⟩⟩;exact zjz (zea h) (Nat.le_refl _) _ _ _ _ _ _ _ _
 | false =>
  have a:=b.mono (R':=fun e k=>e=zak 1 line∧Below (w.alloc zdw).heap.size (w.alloc zdw) k) (by
   rintro e k ⟨l,d|d⟩
   ·rw [hok] at d;exact absurd d.1 (by simp)
   ·exact⟨d.2,l⟩)
  clear hs b;go_enter Tryz.func99,Tryz.ntmps99;go_wp2_with(first|(go_at_call 128;refine hcut.mono ?_;rintro e F ⟨rfl,c⟩;subst c)|(go_at_call 130;refine a.mono ?_;rintro e A ⟨rfl,h⟩))
  exact⟨rfl,zea h,.inr ⟨hok,rfl⟩⟩
theorem zoE(w:World)(hw:LibW w)(g cap:Nat)(x:ByteArray)(r:List ByteArray)(line:Int)(hl:WordsIn w g (x :: r))(hsz:∀ y∈(x :: r:List ByteArray),1≤y.size∧y.size≤1048576)(hn:r.length≤1048576):
  qC 99 #[.slice (some ⟨g,0,none⟩) (r.length+1) cap,.int .i64 line] w (zxJ w (sayW (x :: r)) line):=by
 have m:=hsz x (by simp);cases hf:zlb x with
 | true =>
  have o:sayW (x :: r)=⟨102,x :: r,decide ((x :: r).length=2)&&za8 ((x :: r).getLast?.getD ByteArray.empty)⟩:=by simp only [sayW,hf,if_true]
  rw [o];have:=zsL x hf;subst this;by_cases i:(⟨#[102,117,110,99]⟩ :: r:List ByteArray).length=2∧za8 ((⟨#[102,117,110,99]⟩ :: r:List ByteArray).getLast?.getD ByteArray.empty)=true
  ·match r,i,hl,hsz with
   | [y],i,hl,hsz =>
    have t:za8 y=true:=by simpa using i.2
    refine(zjj w g cap y line hl (hsz y (by simp)).2 t).mono ?_;rintro e p ⟨d,f⟩;exact⟨f,.inl ⟨by simp [t],d⟩⟩
  ·refine(zkw w g cap r line hl (fun y hy=>(hsz y hy).2) hn i).mono ?_;rintro e p ⟨d,f⟩;exact⟨f,.inr ⟨by simpa using i,d⟩⟩
 | false =>
  have l:(x.toList == [102,117,110,99])=false:=hf;by_cases k:zfS x=58
  ·by_cases i:r.length+1=1∧za8 (x.extract 0 (x.size-1))=true
   ·have q:r=[]:=List.eq_nil_of_length_eq_zero (by omega);subst q;have o:sayW [x]=⟨108,[x.extract 0 (x.size-1)],za8 (x.extract 0 (x.size-1))⟩:=by simp only [sayW,hf];rw [if_neg (by simp),if_pos ⟨rfl,k⟩]
    rw [o];refine(zkx w g cap x line hl m.2 m.1 l k i.2).mono ?_;rintro e p ⟨d,f⟩;exact⟨f,.inl ⟨i.2,d⟩⟩
   ·refine(zlq w g cap x r line hl m.2 m.1 hn l k i).mono ?_;rintro e p ⟨d,f⟩;refine⟨f,.inr ⟨?_,d⟩⟩;by_cases q:r=[]
    ·subst q;have o:sayW [x]=⟨108,[x.extract 0 (x.size-1)],za8 (x.extract 0 (x.size-1))⟩:=by simp only [sayW,hf];rw [if_neg (by simp),if_pos ⟨rfl,k⟩]
     rw [o];simpa using i
    ·have s:¬(x :: r).length=1:=by cases r with|nil=>exact absurd rfl q|cons a b=>simp
     have o:(sayW (x :: r)).ok=if zaa x=[63]∨¬(x :: r).length=(zaa x).length+1 then false else zaX (zaa x) r:=by
      simp only [sayW,hf];rw [if_neg (by simp),if_neg (fun h=>s h.1)]
     rw [o,if_pos (.inl (znp x m.1 k))]
  ·have o:sayW (x :: r)=⟨105,x :: r,if zaa x=[63]∨¬(x :: r).length=(zaa x).length+1 then false else zaX (zaa x) r⟩:=by simp only [sayW,hf];rw [if_neg (by simp),if_neg (fun h=>k h.2)]
   rw [o];have e2:(if zaa x=[63]∨¬(x :: r).length=(zaa x).length+1 then false else zaX (zaa x) r)=zhv x r:=by
    unfold zhv;simp only [List.length_cons,Nat.add_right_cancel_iff]
   rw [e2];refine(zvI w hw g cap x r line hl (fun j hj=>(hsz r[j] (List.mem_cons_of_mem _ (List.getElem_mem hj))).2) m.2 m.1 hn l k).mono ?_;rintro e p ⟨d,f|f⟩
   ·refine⟨d,.inl ⟨f.1,?_⟩⟩;rw [f.2];show Ending.returned (stm 2 line x (opK (zaa x) r r.length).a (opK (zaa x) r r.length).b (opK (zaa x) r r.length).c (opK (zaa x) r r.length).n (opK (zaa x) r r.length).nm)=_;rw [zze];rfl
   ·exact⟨d,.inr f⟩
theorem zsP(s:ByteArray)(w:World)(hs:s.size≤9223372036854775807)(h:4000<s.size∨300<(lines s).length):
  qC 65 #[.string s] w fun e w'=>e=zak 6 0∧w'=w:=by
 have f:=(zf8 s).1;have hll:=zgb s;have b:=Tryz.strings_Count_one s 10 w;generalize Lib.countByte s.data.toList 10=c at f b;by_cases h4:4000<s.size
 ·go_enter Tryz.func65,Tryz.ntmps65;go_wp2_with(first|(go_at_call 96;refine b.mono ?_;rintro e g ⟨rfl,a⟩;have d:=a.symm;subst d)|(go_at_call 79;refine(za1 _ _ _).mono ?_;rintro e g ⟨rfl,a⟩;have d:=a.symm;subst d))
  exact⟨rfl,rfl,rfl⟩
 ·have h3:300<c+1:=by omega
  have hc:c≤1048576:=by omega
  clear f;go_enter Tryz.func65,Tryz.ntmps65;go_wp2_with(first|(go_at_call 96;refine b.mono ?_;rintro e g ⟨rfl,a⟩;have d:=a.symm;subst d)|(go_at_call 79;refine(za1 _ _ _).mono ?_;rintro e g ⟨rfl,a⟩;have d:=a.symm;subst d))
  exact⟨rfl,rfl,rfl⟩
theorem zde(s:ByteArray)(w:World)(h4:s.size≤4000)(h3:(lines s).length≤300):
  qC 65 #[.string s] w fun e w'=>e=.returned (.tuple #[])∧w'=w:=by
 have b:=(zf8 s).1;have a:=Tryz.strings_Count_one s 10 w;generalize Lib.countByte s.data.toList 10=c at b a;have h5:c+1≤300:=by omega
 clear b;go_enter Tryz.func65,Tryz.ntmps65;go_wp2_with(first|(go_at_call 96;refine a.mono ?_;rintro e wx ⟨rfl,d⟩;have f:=d.symm;subst f))
 go_end0
 exact⟨rfl,rfl⟩
structure It where
 sort:Int
 line:Int
 word:ByteArray
 nm:ByteArray
 a:Int
 b:Int
 c:Int
 n:Int
abbrev It.cells(i:It):List Value:=[.int .i64 i.sort,.int .i64 i.line,.string i.word,.int .i64 i.a,.int .i64 i.b,.int .i64 i.c,.int .i64 i.n,.string i.nm]
def za5(l:List It):List Value:=l.flatMap It.cells
structure Key where
 sort:Int
 line:Int
 word:ByteArray
 nm:ByteArray
 a:Int
 b:Int
 c:Int
 n:Int
def It.key(i:It):Key:=⟨i.sort,i.line,i.word,i.nm,i.a,i.b,i.c,i.n⟩
def keyQ(q:Said)(line:Int):Key:=⟨zf6 q,line,zeH q,zdP q,(opQ q).a,(opQ q).b,(opQ q).c,(opQ q).n⟩
def zbl(A:List ByteArray):Nat→List Key
 | 0=>[]
 | k+1=>zbl A k++(match A[k]? with|none=>[]|some x=>if(say x).kind=0 then [] else [keyQ (say x) ((k:Int)+1)])
theorem zgc(l:List It)(i:It):za5 (l++[i])=za5 l++i.cells:=by simp [za5]
theorem Tryz.info135:(Tryz.prog.info? 135).map (fun i=>(i.zero,i.size,i.bytes))=some (some (.agg #[.int .i64 0,.int .i64 0,.string ByteArray.empty,.int .i64 0,.int .i64 0,.int .i64 0,.int .i64 0,.string ByteArray.empty]),8,80):=by kernel_rfl
theorem Tryz.under116:Tryz.prog.underlying 116=some (.slice 135):=by kernel_rfl
theorem zif(A:List ByteArray)(k:Nat)(h:k<A.length)(h0:(say A[k]).kind=0):zbl A (k+1)=zbl A k:=by
 simp [zbl,List.getElem?_eq_getElem h,h0]
theorem zj4(A:List ByteArray)(k:Nat)(h:k<A.length)(h0:¬(say A[k]).kind=0):zbl A (k+1)=zbl A k++[keyQ (say A[k]) ((k:Int)+1)]:=by
 simp [zbl,List.getElem?_eq_getElem h,h0]
theorem zsQ(x:ByteArray)(hv:zau x 0=true)(hw:words x=[]):say x=⟨0,[],true⟩:=by
 simp [say,hv,hw,sayW]
theorem zig(x:ByteArray)(hv:zau x 0=true):say x=sayW (words x):=by simp [say,hv]
theorem zf9(x:ByteArray)(hv:zau x 0=false):(say x).ok=false:=by simp [say,hv]
theorem zsR(x:ByteArray)(r:List ByteArray):¬(sayW (x :: r)).kind=0:=by
 unfold sayW;dsimp only
 repeat' split
 all_goals simp
def zxM(w:World)(A:List ByteArray):Ending→World→Prop:=fun e w' =>
 qB w w'∧((∃ i:Nat,zbO A 0=(1,(i:Int)+1)∧e=zak 1 ((i:Int)+1)) ∨
  (zbO A 0=zbt (A.map say) 0∧(∀ x∈A,(say x).ok=true)∧∃ v its,e=.returned v∧w'.ownsRow w.heap.size 135 8 v its.length (za5 its)∧its.map It.key=zbl A A.length))
theorem znr(w:World)(a b c d e f g h:Value)(t:TypeId):∀ j u,[a,b,c,d,e,f,g,h][j]?=some u→(w.alloc (.cells #[a,b,c,d,e,f,g,h] t)).cell? ((⟨w.heap.size,0,none⟩:Addr).add j)=some u:=by
 intro j u i;have k:=World.cell?_alloc_new (w:=w) #[a,b,c,d,e,f,g,h] t j;have h2:(⟨w.heap.size,0,none⟩:Addr).add j=⟨w.heap.size,j,none⟩:=by simp [Addr.add];omega
 rw [h2,k];rw [←List.getElem?_toArray] at i;exact i
theorem zls(i:It):∀ u∈i.cells,u.oneCell'=true:=by
 intro u b;simp at b;rcases b with rfl|rfl|rfl|rfl|rfl|rfl|rfl|rfl <;> rfl
theorem zih(s:ByteArray)(line:Int)(w:World)(hw:LibW w)(hs:s.size≤1048576)(hv:zau s 0=true)(l:List ByteArray)(hl:Hid (words s=l))(h0:0<l.length):
  qC 98 #[.string s,.int .i64 line] w fun e w'=>∃ g cap,e=.returned (.slice (some ⟨g,0,none⟩) l.length cap)∧w.heap.size≤g∧WordsIn w' g l∧qB w w':=by
 refine(zg8 s line w hw hs).mono ?_;rintro e w' ⟨b,⟨_,v,rfl,a⟩|⟨h,_⟩⟩
 ·rw [hl.out] at a;obtain⟨g,cap,rfl,_,_,c,_,d⟩:=zo4 a h0;exact⟨g,cap,rfl,c,d,b⟩
 ·rw [hv] at h;cases h
theorem zns(s:ByteArray)(line:Int)(w:World)(hw:LibW w)(hs:s.size≤1048576)(hv:zau s 0=true)(hl:Hid (words s=[])):
  qC 98 #[.string s,.int .i64 line] w fun e w'=>∃ ao cap,e=.returned (.slice ao 0 cap)∧qB w w':=by
 refine(zg8 s line w hw hs).mono ?_;rintro e w' ⟨c,⟨_,v,rfl,a⟩|⟨h,_⟩⟩
 ·rw [hl.out] at a;rcases a.2 with ⟨b,_⟩|⟨g,cap,cur,b,_⟩
  ·subst b;exact⟨none,0,rfl,c⟩
  ·subst b;exact⟨_,cap,rfl,c⟩
 ·rw [hv] at h;cases h
theorem zqo(s:ByteArray)(line:Int)(w:World)(hw:LibW w)(hs:s.size≤1048576)(hv:zau s 0=false):
  qC 98 #[.string s,.int .i64 line] w fun e w'=>e=zak 1 line∧qB w w':=by
 refine(zg8 s line w hw hs).mono ?_;rintro e w' ⟨a,⟨h,_⟩|⟨_,h⟩⟩
 ·rw [hv] at h;cases h
 ·exact⟨h,a⟩
theorem zsS(w:World)(hw:LibW w)(g cap:Nat)(x:ByteArray)(r:List ByteArray)(line:Int)(hl:WordsIn w g (x :: r))(hsz:∀ y∈(x :: r:List ByteArray),1≤y.size∧y.size≤1048576)(hn:r.length≤1048576)(q:Said)(hq:Hid (sayW (x :: r)=q))(hok:q.ok=true):
  qC 99 #[.slice (some ⟨g,0,none⟩) (r.length+1) cap,.int .i64 line] w (qR w (stm (zf6 q) line (zeH q) (opQ q).a (opQ q).b (opQ q).c (opQ q).n (zdP q))):=by
 refine(zoE w hw g cap x r line hl hsz hn).mono ?_;rw [hq.out];rintro e w' ⟨d,⟨_,h⟩|⟨h,_⟩⟩
 ·exact⟨h,d⟩
 ·rw [hok] at h;cases h
theorem zlt(w:World)(hw:LibW w)(g cap:Nat)(x:ByteArray)(r:List ByteArray)(line:Int)(hl:WordsIn w g (x :: r))(hsz:∀ y∈(x :: r:List ByteArray),1≤y.size∧y.size≤1048576)(hn:r.length≤1048576)(q:Said)(hq:Hid (sayW (x :: r)=q))(hok:q.ok=false):
  qC 99 #[.slice (some ⟨g,0,none⟩) (r.length+1) cap,.int .i64 line] w fun e w'=>e=zak 1 line∧qB w w':=by
 refine(zoE w hw g cap x r line hl hsz hn).mono ?_;rw [hq.out];rintro e w' ⟨a,⟨h,_⟩|⟨_,h⟩⟩
 ·rw [hok] at h;cases h
 ·exact⟨h,a⟩
section
attribute [local go_sem ↓] Go.wp_at_zero Go.wp_at_succ
theorem MapIs.drew{w:World}{b:Nat}{E:List (ByteArray × Nat)}(h:MapIs w b E):MapIs w.drew b E:=h
theorem znt(w:World)(a:Obj){w1:World}(h:Below (w.alloc a).drew.heap.size (w.alloc a).drew w1):qB w w1 :=
 (((Below.refl w.heap.size w).alloc (Nat.le_refl _) a).drew).trans (h.mono (by show w.heap.size≤(w.alloc a).heap.size;simp))
theorem zxP(w:World)(B fg o m:Nat)(bv:Value)(its:List It)(i:It)(E:List (ByteArray × Nat))(hs:i.sort=1)
  (hc:w.cell? ⟨fg,o+2,none⟩=some bv) (hm:w.cell? ⟨fg,o+3,none⟩=some (.map (some m))) (hM:MapIs w m E) (hown:w.ownsRow B 135 8 bv its.length (za5 its)) (_hn:its.length≤4096)
  (hnm:i.nm.size≤1048576) (hold:(zbH E).any (fun y=>eqW y i.nm)=true) :
  qC 101 #[.pointer (some ⟨fg,o,none⟩),stm i.sort i.line i.word i.a i.b i.c i.n i.nm] w fun e w'=>e=zak 3 i.line∧qB w w':=by
 have lg:fg<w.heap.size:=World.block_lt_of_cell? w _ hc;have hne4:¬w.heap.size=fg:=by omega
 have hne5:¬fg=w.heap.size:=by omega
 have h:∃ j d,bv=.slice j its.length d:=by
  rcases hown.2 with ⟨h,k⟩|⟨g,d,cur,h,_⟩
  ·exact⟨none,0,by rw [h,k]⟩
  ·exact⟨_,d,h⟩
 obtain⟨j,d,rfl⟩:=h;rw [hs];have f:=zlw ((w.alloc (.cells #[.int .i64 1,.int .i64 i.line,.string i.word,.int .i64 i.a,.int .i64 i.b,.int .i64 i.c,.int .i64 i.n,.string i.nm] 135)).drew) m E (hM.alloc _).drew 1 i.line i.word i.a i.b i.c i.n i.nm (its.length:Int) hnm hold;go_enter Tryz.func101,Tryz.ntmps101;go_wp2_with fail
 go_region_dies
 all_goals(go_at_call 131;refine f.mono ?_;rintro e w2 ⟨rfl,l⟩)
 all_goals exact⟨rfl,rfl,znt _ _ l⟩
theorem zvK(w:World)(s l:Int)(x:ByteArray)(a b c n:Int)(y:ByteArray):
  ((w.alloc (.cells #[.int .i64 s,.int .i64 l,.string x,.int .i64 a,.int .i64 b,.int .i64 c,.int .i64 n,.string y] 135)).drew).cell? ⟨w.heap.size,0,none⟩=some (.int .i64 s) ∧
  ((w.alloc (.cells #[.int .i64 s,.int .i64 l,.string x,.int .i64 a,.int .i64 b,.int .i64 c,.int .i64 n,.string y] 135)).drew).cell? ⟨w.heap.size,1,none⟩=some (.int .i64 l) ∧
  ((w.alloc (.cells #[.int .i64 s,.int .i64 l,.string x,.int .i64 a,.int .i64 b,.int .i64 c,.int .i64 n,.string y] 135)).drew).cell? ⟨w.heap.size,2,none⟩=some (.string x) ∧
  ((w.alloc (.cells #[.int .i64 s,.int .i64 l,.string x,.int .i64 a,.int .i64 b,.int .i64 c,.int .i64 n,.string y] 135)).drew).cell? ⟨w.heap.size,3,none⟩=some (.int .i64 a) ∧
  ((w.alloc (.cells #[.int .i64 s,.int .i64 l,.string x,.int .i64 a,.int .i64 b,.int .i64 c,.int .i64 n,.string y] 135)).drew).cell? ⟨w.heap.size,4,none⟩=some (.int .i64 b) ∧
  ((w.alloc (.cells #[.int .i64 s,.int .i64 l,.string x,.int .i64 a,.int .i64 b,.int .i64 c,.int .i64 n,.string y] 135)).drew).cell? ⟨w.heap.size,5,none⟩=some (.int .i64 c) ∧
  ((w.alloc (.cells #[.int .i64 s,.int .i64 l,.string x,.int .i64 a,.int .i64 b,.int .i64 c,.int .i64 n,.string y] 135)).drew).cell? ⟨w.heap.size,6,none⟩=some (.int .i64 n) ∧
  ((w.alloc (.cells #[.int .i64 s,.int .i64 l,.string x,.int .i64 a,.int .i64 b,.int .i64 c,.int .i64 n,.string y] 135)).drew).cell? ⟨w.heap.size,7,none⟩=some (.string y):=by
 have h:=World.cell?_alloc_new (w:=w) #[.int .i64 s,.int .i64 l,.string x,.int .i64 a,.int .i64 b,.int .i64 c,.int .i64 n,.string y] 135;exact⟨h 0,h 1,h 2,h 3,h 4,h 5,h 6,h 7⟩
theorem zg9(w:World)(b:Obj)(p:Addr)(h:p.block<w.heap.size):(w.alloc b).drew.frozen? p=w.frozen? p :=
 World.frozen?_of_block (w:=w) (((Below.refl w.heap.size w).alloc (Nat.le_refl _) b).drew.block p.block h)
theorem zgd(w:World)(b:Obj)(p:Addr)(h:p.block<w.heap.size):(w.alloc b).drew.cell? p=w.cell? p :=
 World.cell?_of_block (w:=w) (((Below.refl w.heap.size w).alloc (Nat.le_refl _) b).drew.block p.block h)
theorem zky(w:World)(cs:Array Value)(t:TypeId):(w.alloc (.cells cs t)).drew.heap[w.heap.size]?=some (.cells cs t (0,0)):=heap_alloc_new w (.cells cs t)
theorem zge{w w1:World}{a:Obj}{row:Option Nat}(h:(w.alloc a).drew.grownBy w1 row):w.grownBy w1 row :=
 (World.grownBy_alloc w a row).trans ⟨h.os,h.tape,h.output,h.size,h.block⟩
theorem zxQ(w:World)(B fg o m:Nat)(bv:Value)(its:List It)(i:It)(E:List (ByteArray × Nat))(hs:i.sort=1)
  (hc:w.cell? ⟨fg,o+2,none⟩=some bv) (hm:w.cell? ⟨fg,o+3,none⟩=some (.map (some m))) (hM:MapIs w m E) (hown:w.ownsRow B 135 8 bv its.length (za5 its)) (hn:its.length≤4096) (hnn:E.length≤4096)
  (hnm:i.nm.size≤1048576) (hold:(zbH E).any (fun y=>eqW y i.nm)=false) :
  qC 101 #[.pointer (some ⟨fg,o,none⟩),stm i.sort i.line i.word i.a i.b i.c i.n i.nm] w fun e w'=>e=.returned (.tuple #[])∧w.grownBy w' (some m)∧MapIs w' m (E++[(i.nm,its.length)]):=by
 have lg:fg<w.heap.size:=World.block_lt_of_cell? w _ hc;have hne4:¬w.heap.size=fg:=by omega
 have hne5:¬fg=w.heap.size:=by omega
 have h:∃ l d,bv=.slice l its.length d:=by
  rcases hown.2 with ⟨h,p⟩|⟨g,d,cur,h,_⟩
  ·exact⟨none,0,by rw [h,p]⟩
  ·exact⟨_,d,h⟩
 obtain⟨l,cap0,rfl⟩:=h;rw [hs];have f:=zlv ((w.alloc (.cells #[.int .i64 1,.int .i64 i.line,.string i.word,.int .i64 i.a,.int .i64 i.b,.int .i64 i.c,.int .i64 i.n,.string i.nm] 135)).drew) m E (hM.alloc _).drew 1 i.line i.word i.a i.b i.c i.n i.nm its.length hn hnn hnm hold;go_enter Tryz.func101,Tryz.ntmps101;go_wp2_with fail
 go_region_with(go_at_call 131;refine f.mono ?_;rintro e w2 ⟨rfl,k,j⟩)
 all_goals go_wp2
 all_goals go_end0
 all_goals exact⟨rfl,zge j,k⟩
end
section
attribute [local go_sem ↓] Go.wp_at_zero Go.wp_at_succ
theorem Tryz.info2:(Tryz.prog.info? 2).map (fun i=>(i.zero,i.size,i.bytes))=some (some (.int .i64 0),1,8):=by kernel_rfl
theorem Tryz.info3:(Tryz.prog.info? 3).map (fun i=>(i.zero,i.size,i.bytes))=some (some (.int .i64 0),1,8):=by kernel_rfl
theorem Tryz.under29:Tryz.prog.underlying 29=some (.slice 2):=by kernel_rfl
theorem Tryz.under59:Tryz.prog.underlying 59=some (.slice 3):=by kernel_rfl
theorem zqr(w:World)(b wb cap r B:Nat)(lv bv iv ov:Value)(m:Mc)(x1:ByteArray)(h:RefM w b lv bv iv ov m)(hw:WdIn w wb [⟨#[119,114,105,116,101]⟩,x1])(_hne:¬wb=b)(hr:r<8)(hreg:reg x1=(r:Int))(hx1:x1.size≤1048576)
  (hown:w.ownsRow B 2 1 ov m.out.length (i64s m.out)) (hno:ov.ownBlock≠some b) (hB:B≤w.heap.size) (hlen:m.out.length≤100000) :
  qC 90 #[.pointer (some ⟨b,0,none⟩),.slice (some ⟨wb,0,none⟩) 2 cap] w fun e w'=>e=.returned (.tuple #[]) ∧
   ∃ g c w1,w'=w1.setCell ⟨b,29,none⟩ (.slice (some ⟨g,0,none⟩) (m.out.length+1) c)∧w.grownBy w1 ov.ownBlock∧w1.ownsRow B 2 1 (.slice (some ⟨g,0,none⟩) (m.out.length+1) c) (m.out.length+1) (i64s (m.out++[m.regs r]))∧(ov.ownBlock=some g∨w.heap.size≤g):=by
 have y:=hw 0 (by simp);have s:=hw 1 (by simp);simp only [List.getElem_cons_zero,List.getElem_cons_succ] at y s;have hcr:=h.cR r hr;have hr0:(0:Int)≤(r:Int):=by omega
 have hr8:(r:Int)<8:=by omega
 have v:=zav x1 r hreg hx1;have u:=h.cO;have z:=h.fz 29;have q:=h.lt;obtain⟨x,k,n,p,j⟩:=info_parts Tryz.info2;have hlt:∀ b,ov.ownBlock=some b→b<w.heap.size:=fun b hb=>(hown.lt b hb).2;have d:some b≠ov.ownBlock:=fun e=>hno e.symm;have hne4:¬w.heap.size=b:=by omega
 have hne5:¬b=w.heap.size:=by omega
 go_enter Tryz.func90,Tryz.ntmps90;go_wp2_with(first|(go_at_call 75;refine(v _).mono ?_;rintro e wx ⟨rfl,l⟩;have o:=l.symm;subst o))
 go_region_law
  ((refine step_append_lies _ (by rfl) _ _ _ (by rfl) B 2 x _ 1 8 Tryz.under29 k n p j rfl (by omega) ov m.out.length (i64s m.out) (by rfl) ((hown.alloc _).drew)
     ⟨w.heap.size,0,none⟩ 1 1 [.int .i64 (m.regs r)] (by rfl) (by rfl) (World.news_of_block (cs:=#[.int .i64 (m.regs r)]) (t:=2) (fr:=(0,0)) (zky w _ _)) (by simp [Value.oneCell'])
     (by omega) (by unfold maxLen;omega) (by omega) (by simp;omega) (w.heap.size+1) (by simp) ?_;intro g c w1 f a i hltg;have hfz:w1.frozen? ⟨b,29,none⟩=false:=(a.frozen_far _ (by simp;omega) d).trans ((zg9 w _ _ q).trans z);have hcz:w1.cell? ⟨b,29,none⟩=some ov:=(a.cell_far _ (by simp;omega) d).trans ((zgd w _ _ q).trans u)))
 all_goals go_wp2
 all_goals go_end0
 all_goals exact⟨rfl,g,c,w1,rfl,zge a,by simpa [i64s] using f,by rcases i with h|h;exact .inl h;exact .inr (by omega)⟩
end
end Go.Proofs.YtfpgjkbjbbgciaaGreatDoor
