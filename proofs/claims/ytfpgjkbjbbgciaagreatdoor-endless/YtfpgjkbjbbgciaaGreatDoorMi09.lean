import Derived.Test.YtfpgjkbjbbgciaaGreatDoorMi05
import Derived.Test.YtfpgjkbjbbgciaaGreatDoorMi08
set_option maxRecDepth 100000
set_option maxHeartbeats 8000000
namespace Go.Proofs.YtfpgjkbjbbgciaaGreatDoor
open Go.RowKit Sp
section
section
variable {w w':World} {q B:Nat} {line:Int} {word nm:ByteArray} {r0 r1 r2 n:Int}
theorem StmAt.below(h:StmAt w q line word nm r0 r1 r2 n)(hb:Below B w w')(hq:q<B):StmAt w' q line word nm r0 r1 r2 n:=by
 obtain⟨c,f⟩:=zhF hb
 exact⟨(c q 0 hq).trans h.c0,(c q 1 hq).trans h.c1,(c q 2 hq).trans h.c2,(c q 3 hq).trans h.c3,(c q 4 hq).trans h.c4,(c q 5 hq).trans h.c5,(c q 6 hq).trans h.c6,(c q 7 hq).trans h.c7,fun o=>(f q o hq).trans (h.fz o)⟩
theorem StmAt.drew(h:StmAt w q line word nm r0 r1 r2 n):StmAt w.drew q line word nm r0 r1 r2 n:=⟨h.c0,h.c1,h.c2,h.c3,h.c4,h.c5,h.c6,h.c7,h.fz⟩
theorem StmAt.set3(h:StmAt w q line word nm r0 r1 r2 n)(a:Int):StmAt (w.setCell ⟨q,3,none⟩ (.int .i64 a)) q line word nm a r1 r2 n:=by
 refine⟨?_,?_,?_,?_,?_,?_,?_,?_,fun o=>?_⟩
 ·rw [World.cell?_setCell_other];exact h.c0;simp
 ·rw [World.cell?_setCell_other];exact h.c1;simp
 ·rw [World.cell?_setCell_other];exact h.c2;simp
 ·exact World.cell?_setCell_same w _ _ h.c3
 ·rw [World.cell?_setCell_other];exact h.c4;simp
 ·rw [World.cell?_setCell_other];exact h.c5;simp
 ·rw [World.cell?_setCell_other];exact h.c6;simp
 ·rw [World.cell?_setCell_other];exact h.c7;simp
 ·rw [World.frozen?_setCell];exact h.fz o
theorem StmAt.set4(h:StmAt w q line word nm r0 r1 r2 n)(a:Int):StmAt (w.setCell ⟨q,4,none⟩ (.int .i64 a)) q line word nm r0 a r2 n:=by
 refine⟨?_,?_,?_,?_,?_,?_,?_,?_,fun o=>?_⟩
 ·rw [World.cell?_setCell_other];exact h.c0;simp
 ·rw [World.cell?_setCell_other];exact h.c1;simp
 ·rw [World.cell?_setCell_other];exact h.c2;simp
 ·rw [World.cell?_setCell_other];exact h.c3;simp
 ·exact World.cell?_setCell_same w _ _ h.c4
 ·rw [World.cell?_setCell_other];exact h.c5;simp
 ·rw [World.cell?_setCell_other];exact h.c6;simp
 ·rw [World.cell?_setCell_other];exact h.c7;simp
 ·rw [World.frozen?_setCell];exact h.fz o
theorem StmAt.set5(h:StmAt w q line word nm r0 r1 r2 n)(a:Int):StmAt (w.setCell ⟨q,5,none⟩ (.int .i64 a)) q line word nm r0 r1 a n:=by
 refine⟨?_,?_,?_,?_,?_,?_,?_,?_,fun o=>?_⟩
 ·rw [World.cell?_setCell_other];exact h.c0;simp
 ·rw [World.cell?_setCell_other];exact h.c1;simp
 ·rw [World.cell?_setCell_other];exact h.c2;simp
 ·rw [World.cell?_setCell_other];exact h.c3;simp
 ·rw [World.cell?_setCell_other];exact h.c4;simp
 ·exact World.cell?_setCell_same w _ _ h.c5
 ·rw [World.cell?_setCell_other];exact h.c6;simp
 ·rw [World.cell?_setCell_other];exact h.c7;simp
 ·rw [World.frozen?_setCell];exact h.fz o
theorem StmAt.set6(h:StmAt w q line word nm r0 r1 r2 n)(a:Int):StmAt (w.setCell ⟨q,6,none⟩ (.int .i64 a)) q line word nm r0 r1 r2 a:=by
 refine⟨?_,?_,?_,?_,?_,?_,?_,?_,fun o=>?_⟩
 ·rw [World.cell?_setCell_other];exact h.c0;simp
 ·rw [World.cell?_setCell_other];exact h.c1;simp
 ·rw [World.cell?_setCell_other];exact h.c2;simp
 ·rw [World.cell?_setCell_other];exact h.c3;simp
 ·rw [World.cell?_setCell_other];exact h.c4;simp
 ·rw [World.cell?_setCell_other];exact h.c5;simp
 ·exact World.cell?_setCell_same w _ _ h.c6
 ·rw [World.cell?_setCell_other];exact h.c7;simp
 ·rw [World.frozen?_setCell];exact h.fz o
theorem StmAt.set7(h:StmAt w q line word nm r0 r1 r2 n)(y:ByteArray):StmAt (w.setCell ⟨q,7,none⟩ (.string y)) q line word y r0 r1 r2 n:=by
 refine⟨?_,?_,?_,?_,?_,?_,?_,?_,fun o=>?_⟩
 ·rw [World.cell?_setCell_other];exact h.c0;simp
 ·rw [World.cell?_setCell_other];exact h.c1;simp
 ·rw [World.cell?_setCell_other];exact h.c2;simp
 ·rw [World.cell?_setCell_other];exact h.c3;simp
 ·rw [World.cell?_setCell_other];exact h.c4;simp
 ·rw [World.cell?_setCell_other];exact h.c5;simp
 ·rw [World.cell?_setCell_other];exact h.c6;simp
 ·exact World.cell?_setCell_same w _ _ h.c7
 ·rw [World.frozen?_setCell];exact h.fz o
theorem StmAt.lt(h:StmAt w q line word nm r0 r1 r2 n):q<w.heap.size:=by have:=World.block_lt_of_cell? w _ h.c0;simpa using this
end
theorem zah{w w1:World}{q o:Nat}{v:Value}(hb:Below w.heap.size w w1):w.grownBy (w1.setCell ⟨q,o,none⟩ v) (some q) :=
 ⟨hb.os,hb.tape,hb.output,by have:=hb.size;simpa [World.setCell] using this,fun k hk hne=>(Below.heap_setCell w1 _ _ k (fun e=>hne (by rw [e]))).trans (hb.block k hk)⟩
theorem zdG{w w':World}{r:Option Nat}(h:w.grownBy w' r):w.grownBy w'.drew r:=⟨h.os,h.tape,h.output,h.size,h.block⟩
theorem zoB(w:World)(hw:LibW w)(q:Nat)(place line:Int)(word nm x:ByteArray)(r0 r1 r2 n:Int)(hS:StmAt w q line word nm r0 r1 r2 n)(hx:x.size≤1048576):
  Calls Tryz.prog 150 #[.pointer (some ⟨q,0,none⟩),.int .i64 place,.int .i64 1,.string x] w fun e w'=>e=.returned (.bool (zbc x).2)∧w.grownBy w' (some q)∧StmAt w' q line word nm r0 r1 r2 (zcD x):=by
 have hq:=hS.lt
 have hc6:=hS.c6
 have hf6:=hS.fz 6
 go_enter Tryz.func150,Tryz.ntmps150
 go_wp2_with(first|(go_at_call 166;refine(zve x _ hw hx).mono ?_;rintro e w1 ⟨rfl,hb⟩;obtain⟨hc,hf⟩:=zhF hb))
 go_ret
 exact⟨rfl,zah hb,(hS.below hb hq).set6 _⟩
theorem zkT(w:World)(q:Nat)(place line:Int)(word nm x:ByteArray)(r0 r1 r2 n:Int)(hS:StmAt w q line word nm r0 r1 r2 n)(hx:x.size≤1048576):
  Calls Tryz.prog 150 #[.pointer (some ⟨q,0,none⟩),.int .i64 place,.int .i64 2,.string x] w fun e w'=>e=.returned (.bool (za5 x))∧w.grownBy w' (some q)∧StmAt w' q line word x r0 r1 r2 n:=by
 have hq:=hS.lt
 have hc7:=hS.c7
 have hf7:=hS.fz 7
 go_enter Tryz.func150,Tryz.ntmps150
 go_wp2_with(first|(go_at_call 147;refine(zer x _ hx).mono ?_;rintro e w1 ⟨rfl,hb⟩;obtain⟨hc,hf⟩:=zhF hb))
 go_ret
 exact⟨rfl,zah hb,(hS.below hb hq).set7 _⟩
theorem zkU(w:World)(q:Nat)(line:Int)(word nm x:ByteArray)(r0 r1 r2 n:Int)(hS:StmAt w q line word nm r0 r1 r2 n)(hx:x.size≤1048576):
  Calls Tryz.prog 150 #[.pointer (some ⟨q,0,none⟩),.int .i64 0,.int .i64 0,.string x] w fun e w'=>e=.returned (.bool (zfd x))∧w.grownBy w' (some q)∧StmAt w' q line word nm (za4 x) r1 r2 n:=by
 have hq:=hS.lt
 have hc:=hS.c3
 have hf:=hS.fz 3
 go_enter Tryz.func150,Tryz.ntmps150
 go_wp2
 go_region_with(go_at_call 165;refine(zki x _ (by unfold maxLen;omega)).mono ?_;rintro e wx ⟨rfl,hww⟩;have h2:=hww.symm;subst h2)
 all_goals go_wp2
 all_goals go_ret
 all_goals refine⟨rfl,?_,?_⟩
 ·exact zdG (zah (Below.refl _ _))
 ·exact(hS.set3 _).drew
theorem zkV(w:World)(q:Nat)(line:Int)(word nm x:ByteArray)(r0 r1 r2 n:Int)(hS:StmAt w q line word nm r0 r1 r2 n)(hx:x.size≤1048576):
  Calls Tryz.prog 150 #[.pointer (some ⟨q,0,none⟩),.int .i64 1,.int .i64 0,.string x] w fun e w'=>e=.returned (.bool (zfd x))∧w.grownBy w' (some q)∧StmAt w' q line word nm r0 (za4 x) r2 n:=by
 have hq:=hS.lt
 have hc:=hS.c4
 have hf:=hS.fz 4
 go_enter Tryz.func150,Tryz.ntmps150
 go_wp2
 go_region_with(go_at_call 165;refine(zki x _ (by unfold maxLen;omega)).mono ?_;rintro e wx ⟨rfl,hww⟩;have h2:=hww.symm;subst h2)
 all_goals go_wp2
 all_goals go_ret
 all_goals refine⟨rfl,?_,?_⟩
 ·exact zdG (zah (Below.refl _ _))
 ·exact(hS.set4 _).drew
theorem zkW(w:World)(q:Nat)(line:Int)(word nm x:ByteArray)(r0 r1 r2 n:Int)(hS:StmAt w q line word nm r0 r1 r2 n)(hx:x.size≤1048576):
  Calls Tryz.prog 150 #[.pointer (some ⟨q,0,none⟩),.int .i64 2,.int .i64 0,.string x] w fun e w'=>e=.returned (.bool (zfd x))∧w.grownBy w' (some q)∧StmAt w' q line word nm r0 r1 (za4 x) n:=by
 have hq:=hS.lt
 have hc:=hS.c5
 have hf:=hS.fz 5
 go_enter Tryz.func150,Tryz.ntmps150
 go_wp2
 go_region_with(go_at_call 165;refine(zki x _ (by unfold maxLen;omega)).mono ?_;rintro e wx ⟨rfl,hww⟩;have h2:=hww.symm;subst h2)
 all_goals go_wp2
 all_goals go_ret
 all_goals refine⟨rfl,?_,?_⟩
 ·exact zdG (zah (Below.refl _ _))
 ·exact(hS.set5 _).drew
end
theorem zx5(a b:Int):wrap64 (a+b)=zc1 0 a b:=by simp [zc1,w64,wrap64]
theorem zx6(a b:Int):wrap64 (a-b)=zc1 1 a b:=by simp [zc1,w64,wrap64]
theorem zx7(a b:Int):wrap64 (a*b)=zc1 2 a b:=by simp [zc1,w64,wrap64]
abbrev i64s(l:List Int):List Value:=l.map (Value.int .i64)
theorem zaq(w:World)(b o j:Nat)(v u:Value)(hu:w.cell? ⟨b,o,none⟩=some u):(w.setCell ⟨b,o,none⟩ v).cell? ⟨b,j,none⟩=if j=o then some v else w.cell? ⟨b,j,none⟩:=by
 by_cases h:j=o
 ·subst h;rw [if_pos rfl];exact World.cell?_setCell_same w _ _ hu
 ·rw [if_neg h,World.cell?_setCell_other];simp
theorem zcE(w:World)(b o j:Nat)(v:Value)(h:w.frozen? ⟨b,j,none⟩=false):(w.setCell ⟨b,o,none⟩ v).frozen? ⟨b,j,none⟩=false:=by simpa using h
theorem zcZ{w:World}{b:Nat}{e:TypeId}{size n:Nat}{v:Value}{xs:List Value}(h:w.ownsRow (b+1) e size v n xs):v.ownBlock≠some b:=fun hb=>by have:=(h.lt b hb).1;omega
theorem zfz{w w':World}{b:Nat}(hb:b<w.heap.size)(hg:w.grownBy w' (some b)):Below b w w':=(Below.refl b w).grown hg (by omega) (fun j hj=>by cases hj;exact Nat.le_refl _)
theorem zhQ(w:World)(n:Nat):Below w.heap.size w (w.drewN n):=⟨rfl,rfl,rfl,Nat.le_refl _,fun _ _=>rfl⟩
theorem zc2(x:Int):wrap64 x=w64 x:=by simp [w64,wrap64]
theorem zl2(L:List Said)(k:Nat)(h:k<L.length)(h1:(L[k].kind != 102)=false):zdy L k=!zfM L (k+1) false:=by
 simp at h1
 unfold zdy;rw [List.getElem?_eq_getElem h];simp only [h1,if_true]
def zfA(l:List Int):Nat→Int
 | 0=>l.headD 0
 | k+1=>min (zfA l k) (l[k+1]?.getD 0)
def zfB(l:List Int):Nat→Int
 | 0=>l.headD 0
 | k+1=>max (zfB l k) (l[k+1]?.getD 0)
theorem zpv(w:World)(b cap:Nat)(l:List Int)(h0:0<l.length)(hn:l.length≤1000)(hc:∀ j (h:j<l.length),w.cell? ⟨b,j,none⟩=some (.int .i64 l[j])):
  Calls Tryz.prog 247 #[.slice (some ⟨b,0,none⟩) l.length cap] w fun e w'=>e=.returned (.int .i64 (zfA l (l.length-1)))∧w'=w:=by
 have c0:=hc 0 h0
 have e0:zfA l 0=l[0]:=by cases l with|nil=>simp at h0|cons x r=>rfl
 go_enter Tryz.func247,Tryz.ntmps247
 go_wp2
 go_loopw [4,3] (fun ti tm wr=>∃ k:Nat,1≤k∧k≤l.length∧ti=.int .i64 (k:Int)∧tm=.int .i64 (zfA l (k-1))∧wr=w) (fun ti _ _=>l.length-(intOf ti).toNat)
 case atStart=>exact⟨1,by omega,by omega,rfl,by rw [e0],rfl⟩
 case round =>
  obtain⟨k,h1,hk,rfl,rfl,rfl⟩:=hrel
  by_cases hlt:k<l.length
  ·have ck:=hc k hlt
   have hk0:(0:Int)≤(k:Int):=by omega
   have hk1:(k:Int)<(l.length:Int):=by omega
   have HM:Hid (zfA l k=min (zfA l (k-1)) l[k]):=by
    obtain⟨k',rfl⟩:∃ k',k=k'+1:=⟨k-1,by omega⟩
    show min (zfA l k') (l[k'+1]?.getD 0)=_
    rw [List.getElem?_eq_getElem hlt];rfl
   clear hc c0
   generalize l[k]=x at ck HM
   generalize zfA l (k-1)=y at HM
   go_wp2
   go_roundw
   case rel=>exact⟨k+1,by omega,by omega,by go_num,by simp only [Nat.add_sub_cancel];rw [HM.out],by first|rfl|trivial⟩
   case measure=>simp [intOf];omega
  ·obtain rfl:k=l.length:=by omega
   go_wp2
   go_ret
   exact⟨rfl,rfl⟩
theorem zpw(w:World)(b cap:Nat)(l:List Int)(h0:0<l.length)(hn:l.length≤1000)(hc:∀ j (h:j<l.length),w.cell? ⟨b,j,none⟩=some (.int .i64 l[j])):
  Calls Tryz.prog 248 #[.slice (some ⟨b,0,none⟩) l.length cap] w fun e w'=>e=.returned (.int .i64 (zfB l (l.length-1)))∧w'=w:=by
 have c0:=hc 0 h0
 have e0:zfB l 0=l[0]:=by cases l with|nil=>simp at h0|cons x r=>rfl
 go_enter Tryz.func248,Tryz.ntmps248
 go_wp2
 go_loopw [4,3] (fun ti tm wr=>∃ k:Nat,1≤k∧k≤l.length∧ti=.int .i64 (k:Int)∧tm=.int .i64 (zfB l (k-1))∧wr=w) (fun ti _ _=>l.length-(intOf ti).toNat)
 case atStart=>exact⟨1,by omega,by omega,rfl,by rw [e0],rfl⟩
 case round =>
  obtain⟨k,h1,hk,rfl,rfl,rfl⟩:=hrel
  by_cases hlt:k<l.length
  ·have ck:=hc k hlt
   have hk0:(0:Int)≤(k:Int):=by omega
   have hk1:(k:Int)<(l.length:Int):=by omega
   have HM:Hid (zfB l k=max (zfB l (k-1)) l[k]):=by
    obtain⟨k',rfl⟩:∃ k',k=k'+1:=⟨k-1,by omega⟩
    show max (zfB l k') (l[k'+1]?.getD 0)=_
    rw [List.getElem?_eq_getElem hlt];rfl
   clear hc c0
   generalize l[k]=x at ck HM
   generalize zfB l (k-1)=y at HM
   go_wp2
   go_roundw
   case rel=>exact⟨k+1,by omega,by omega,by go_num,by simp only [Nat.add_sub_cancel];rw [HM.out],by first|rfl|trivial⟩
   case measure=>simp [intOf];omega
  ·obtain rfl:k=l.length:=by omega
   go_wp2
   go_ret
   exact⟨rfl,rfl⟩
end Go.Proofs.YtfpgjkbjbbgciaaGreatDoor
