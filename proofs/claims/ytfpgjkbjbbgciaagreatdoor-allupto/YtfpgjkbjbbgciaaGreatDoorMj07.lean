import Derived.Test.YtfpgjkbjbbgciaaGreatDoorMj04
import Derived.Deep.MidRow
import Derived.Laws.Small
import Derived.Great.Ranges
import Derived.Laws.Tables
import Derived.Laws.Externs
set_option maxRecDepth 100000
set_option maxHeartbeats 8000000
namespace Go.Proofs.YtfpgjkbjbbgciaaGreatDoor
open Go.RowKit Sp
theorem zcn(s:ByteArray)(w:World)(hs:s.size≤140737488355328):
  qC 71 #[.string s] w fun e w'=>e=.returned (.bool (zau s 0))∧w'=w:=by
 go_enter Tryz.func71,Tryz.ntmps71;go_wp2
 go_loop [3] (fun ti=>∃ j:Nat,j≤s.size∧ti=.int .i64 (j:Int)∧zau s 0=zau s j) (fun ti=>s.size-(intOf ti).toNat)
 case atStart=>exact⟨0,by omega,rfl,rfl⟩
 case round =>
  obtain⟨j,hj,rfl,f⟩:=hrel;have HR:Hid (zau s 0=zau s j):=f;clear f;by_cases a:j<s.size
  ·by_cases c:(chr s j).1=0
   ·go_wp2_with(go_at_call 106;refine(zhH s j _ hs a).mono ?_;rintro e w' ⟨rfl,rfl⟩)
    go_ret;exact⟨zaE (by rw [HR.out,zhJ s j a c]),rfl⟩
   ·have g:=zcN s j a c;obtain⟨b,hp2,hp3,hp4,_,_⟩:=g;have d:Hid (((chrN s j:Nat):Int)=(chr s j).1):=b;have hq1:1≤(chr s j).1:=by omega
    have hq2:(chr s j).1≤4:=by omega
    have hq:((chr s j).1 == 0)=false:=by simpa using c
    clear b;go_wp2_with(go_at_call 106;refine(zhH s j _ hs a).mono ?_;rintro e w' ⟨rfl,rfl⟩)
    go_round
    case rel=>have e:=d.out;exact⟨j+chrN s j,by omega,by go_num,by rw [HR.out,zhb s j a c]⟩
    case measure=>have e:=d.out;simp [intOf];omega
  ·go_wp2;go_ret;exact⟨zaE (by rw [HR.out,zhI s j a]),rfl⟩
theorem zrk(x y:Int)(hx:0≤x)(hy:0≤y)(W:World):(callFunc 236 #[.int .u64 x,.int .u64 y,.int .u64 0]).run Tryz.prog W=.ok (.value (.tuple #[.int .u64 ((x+y)%18446744073709551616),.int .u64 ((x+y)/18446744073709551616)])) W:=by
 rw [run_callFunc_extern Tryz.func236 (by kernel_rfl) (by kernel_rfl) (by kernel_rfl) (e:=add64Entry) (by kernel_rfl),run_add64 _ _ 0 hx hy (by omega) (by omega)];simp only [Result.andThen,Int.add_zero]
theorem zo4{w:World}{B:Nat}{v:Value}{l:List ByteArray}(h:w.ownsRow B 9 1 v l.length (l.map Value.string))(hl:0<l.length):
  ∃ g cap,v=.slice (some ⟨g,0,none⟩) l.length cap∧l.length≤cap∧cap≤maxLen∧B≤g∧g<w.heap.size∧∀ j (hj:j<l.length),w.cell? ⟨g,j,none⟩=some (.string l[j]):=by
 rcases h.2 with ⟨_,a⟩|⟨g,cap,cur,b,d,e,c,f,hs,hx⟩
 ·simp at a;subst a;simp at hl
 ·refine⟨g,cap,b,c,f,d,(Array.getElem?_eq_some_iff.1 e).1,fun j hj=>?_⟩;subst b;rw [World.ownsRow.cellAt h j (by omega)];simp [hj]
theorem zjx(s:ByteArray)(w:World)(hs:s.size≤1048576)(l:List ByteArray)(hl:Hid (words s=l))(h0:0<l.length):
  qC 72 #[.string s] w fun e w'=>∃ g cap,e=.returned (.slice (some ⟨g,0,none⟩) l.length cap)∧l.length≤cap∧cap≤maxLen∧w.heap.size≤g∧g<w'.heap.size∧(∀ j (hj:j<l.length),w'.cell? ⟨g,j,none⟩=some (.string l[j]))∧w'.ownsRow w.heap.size 9 1 (.slice (some ⟨g,0,none⟩) l.length cap) l.length (l.map Value.string)∧qB w w':=by
 refine(zhM s w hs).mono ?_;rintro e w' ⟨v,rfl,a,h⟩;rw [hl.out] at a;obtain⟨g,cap,rfl,c,d,i,b,f⟩:=zo4 a h0;exact⟨g,cap,rfl,c,d,i,b,f,a,h⟩
theorem zpM(s:ByteArray)(w:World)(hs:s.size≤1048576)(hl:Hid (words s=[])):
  qC 72 #[.string s] w fun e w'=>∃ ao cap,e=.returned (.slice ao 0 cap)∧qB w w':=by
 refine(zhM s w hs).mono ?_;rintro e w' ⟨v,rfl,a,b⟩;rw [hl.out] at a;rcases a.2 with ⟨d,h2⟩|⟨g,cap,cur,c,r⟩
 ·subst d;exact⟨none,0,rfl,b⟩
 ·subst c;exact⟨_,cap,rfl,b⟩
def zcv(B:Nat)(w:World)(q:Said):Ending→World→Prop:=fun e w' =>
 ∃ v,e=.returned (.tuple #[.agg #[.int .u8 q.kind,v],.bool q.ok])∧w'.ownsRow B 9 1 v q.kept.length (q.kept.map Value.string)∧Below B w w'
theorem zck{W:World}{b:Nat}{a c:Value}(h0:W.cell? ⟨b,0,none⟩=some a)(h1:W.cell? ⟨b,1,none⟩=some c):
  (∀ x,(W.setCell ⟨b,0,none⟩ x).cell? ⟨b,0,none⟩=some x)∧(∀ x y,((W.setCell ⟨b,0,none⟩ x).setCell ⟨b,1,none⟩ y).cell? ⟨b,1,none⟩=some y):=by
 refine⟨fun x=>World.cell?_setCell_same W _ _ h0,fun x y=>World.cell?_setCell_same (u:=c) _ _ _ ?_⟩;rw [World.cell?_setCell_other]
 ·exact h1
 ·simp
theorem zx8(s:ByteArray)(w:World)(hs:s.size≤1048576)(hv:zau s 0=false):
  qC 46 #[.string s] w (zcv w.heap.size w ⟨0,[],false⟩):=by
 go_enter Tryz.func46,Tryz.ntmps46;go_wp2_with(first
  | (go_at_call 71;refine(zcn s _ (by omega)).mono ?_;rintro e w' ⟨rfl,rfl⟩)
  | (go_at_call 72;refine(zhM s _ (by omega)).mono ?_;rintro e f ⟨v,rfl,hown,d⟩;obtain⟨hc,hf⟩:=zdH d))
 have hz:w.heap.size+1<f.heap.size:=by have:=d.size;simp at this;omega
 obtain⟨h,g⟩:=zck (W:=f) (b:=w.heap.size) (a:=.int .u8 0) (c:=.slice none 0 0) (by rw [hc _ _ (by simp;omega)];simp) (by rw [hc _ _ (by simp;omega)];simp);refine bodyPost_ret (v:=.tuple #[.agg #[.int .u8 0,.slice none 0 0],.bool false]) (by simp [results,Tryz.results46,go_sem,h,g]) rfl ⟨_,rfl,World.ownsRow_nil _ _ _ _,?_⟩;exact(((((Below.refl _ _).alloc (Nat.le_refl _) _).alloc (by simp) _).trans (d.mono (by simp;omega))).setCell (by simp) _).setCell (by simp) _
theorem zvp(s:ByteArray)(w:World)(hs:s.size≤1048576)(hv:zau s 0=true)(hl:Hid (words s=[])):
  qC 46 #[.string s] w (zcv w.heap.size w ⟨0,[],true⟩):=by
 go_enter Tryz.func46,Tryz.ntmps46;go_wp2_with(first
  | (go_at_call 71;refine(zcn s _ (by omega)).mono ?_;rintro e w' ⟨rfl,rfl⟩)
  | (go_at_call 72;refine(zpM s _ (by omega) hl).mono ?_;rintro e f ⟨ao,cap,rfl,d⟩;obtain⟨hc,hf⟩:=zdH d))
 have hz:w.heap.size+1<f.heap.size:=by have:=d.size;simp at this;omega
 obtain⟨h,g⟩:=zck (W:=f) (b:=w.heap.size) (a:=.int .u8 0) (c:=.slice none 0 0) (by rw [hc _ _ (by simp;omega)];simp) (by rw [hc _ _ (by simp;omega)];simp);refine bodyPost_ret (v:=.tuple #[.agg #[.int .u8 0,.slice none 0 0],.bool true]) (by simp [results,Tryz.results46,go_sem,h,g]) rfl ⟨_,rfl,World.ownsRow_nil _ _ _ _,?_⟩;exact(((((Below.refl _ _).alloc (Nat.le_refl _) _).alloc (by simp) _).trans (d.mono (by simp;omega))).setCell (by simp) _).setCell (by simp) _
theorem zbk{w:World}{b b':Nat}{e:TypeId}{size n:Nat}{v:Value}{xs:List Value}(h:w.ownsRow b e size v n xs)(hb:b'≤b):w.ownsRow b' e size v n xs:=by
 refine⟨h.1,?_⟩;rcases h.2 with f|⟨g,a,c,d,hg,r⟩
 ·exact .inl f
 ·exact .inr ⟨g,a,c,d,by omega,r⟩
abbrev zeD(w w1:World)(k:Int)(v:Value):World:=(w1.setCell ⟨w.heap.size+1,1,none⟩ v).setCell ⟨w.heap.size+1,0,none⟩ (.int .u8 k)
theorem zaC{w w1:World}{k:Int}{v:Value}{o:Nat}{x:Value}(h:w1.cell? ⟨w.heap.size,o,none⟩=some x):(zeD w w1 k v).cell? ⟨w.heap.size,o,none⟩=some x:=by
 unfold zeD;rw [World.cell?_setCell_other,World.cell?_setCell_other]
 ·exact h
 ·simp
 ·simp
theorem zco{w w1:World}{k:Int}{v:Value}{l:List ByteArray}{ok:Bool}(hown:w1.ownsRow (w.heap.size+2) 9 1 v l.length (l.map Value.string))(hb:qB w w1):
  zcv w.heap.size w ⟨k,l,ok⟩ (.returned (.tuple #[.agg #[.int .u8 k,v],.bool ok])) (((zeD w w1 k v).setCell ⟨w.heap.size,0,none⟩ (.int .u8 k)).setCell ⟨w.heap.size,1,none⟩ v):=by
 refine⟨v,rfl,zbk ?_ (Nat.le_add_right _ 2),(((hb.setCell (by simp) _).setCell (by simp) _).setCell (by simp) _).setCell (by simp) _⟩;exact ownsRow_setCell_below (ownsRow_setCell_below (ownsRow_setCell_below (ownsRow_setCell_below hown (by simp) _) (by simp) _) (by simp) _) (by simp) _
theorem zhN(w:World)(o1 o2:Obj){w1:World}(hb:Below ((w.alloc o1).alloc o2).heap.size ((w.alloc o1).alloc o2) w1):qB w w1 :=
 (((Below.refl _ _).alloc (Nat.le_refl _) _).alloc (by simp) _).trans (hb.mono (by simp;omega))
structure TwoKept(w w':World)(g:Nat):Prop where
 far:w.heap.size+2≤g
 lt:g<w'.heap.size
 below:qB w w'
 c0:w'.cell? ⟨w.heap.size,0,none⟩=some (.int .u8 0)
 c1:w'.cell? ⟨w.heap.size,1,none⟩=some (.slice none 0 0)
 d0:w'.cell? ⟨w.heap.size+1,0,none⟩=some (.int .u8 0)
 d1:w'.cell? ⟨w.heap.size+1,1,none⟩=some (.slice none 0 0)
 e0:w'.frozen? ⟨w.heap.size,0,none⟩=false
 e1:w'.frozen? ⟨w.heap.size,1,none⟩=false
 f0:w'.frozen? ⟨w.heap.size+1,0,none⟩=false
 f1:w'.frozen? ⟨w.heap.size+1,1,none⟩=false
theorem zdq(s:ByteArray)(w:World)(hs:s.size≤1048576)(l:List ByteArray)(hl:Hid (words s=l))(h0:0<l.length):
  qC 72 #[.string s] ((w.alloc (.cells #[.int .u8 0,.slice none 0 0] 87)).alloc (.cells #[.int .u8 0,.slice none 0 0] 87)) fun e w'=>∃ g cap,e=.returned (.slice (some ⟨g,0,none⟩) l.length cap)∧l.length≤cap∧cap≤maxLen∧(∀ j (hj:j<l.length),w'.cell? ⟨g,j,none⟩=some (.string l[j]))∧w'.ownsRow (w.heap.size+2) 9 1 (.slice (some ⟨g,0,none⟩) l.length cap) l.length (l.map Value.string)∧TwoKept w w' g:=by
 refine(zjx s _ hs l hl h0).mono ?_;rintro e w1 ⟨g,cap,rfl,b,d,i,c,f,a,h⟩;obtain⟨hc,hf⟩:=zdH h;refine⟨g,cap,rfl,b,d,f,by simpa using a,?_⟩;refine⟨by simp at i;omega,c,zhN _ _ _ h,?_,?_,?_,?_,?_,?_,?_,?_⟩
 ·rw [hc _ _ (by simp;omega)];simp
 ·rw [hc _ _ (by simp;omega)];simp
 ·rw [hc _ _ (by simp)];simp
 ·rw [hc _ _ (by simp)];simp
 ·rw [hf _ _ (by simp;omega)];simp
 ·rw [hf _ _ (by simp;omega)];simp
 ·rw [hf _ _ (by simp)];simp
 ·rw [hf _ _ (by simp)];simp
theorem zlc(s:ByteArray)(w:World)(hs:s.size≤1048576)(hv:zau s 0=true)(r:List ByteArray)(hl:Hid (words s=⟨#[102,117,110,99]⟩ :: r))(hr:¬r.length=1):
  qC 46 #[.string s] w (zcv w.heap.size w ⟨102,⟨#[102,117,110,99]⟩ :: r,false⟩):=by
 go_enter Tryz.func46,Tryz.ntmps46;go_wp2_with(first
  | (go_at_call 71;refine(zcn s _ (by omega)).mono ?_;rintro e w' ⟨rfl,rfl⟩)
  | (go_at_call 72;refine(zjx s _ (by omega) _ hl (by simp)).mono ?_;rintro e l ⟨g,d,rfl,hcap,hmx,hg,hg2,i,f,j⟩;obtain⟨hc,hf⟩:=zdH j;have h:=i 0 (by simp);simp only [List.getElem_cons_zero] at h))
 go_light
 obtain⟨m,k⟩:=zck (W:=zeD w l 102 (.slice (some ⟨g,0,none⟩) (r.length+1) d)) (b:=w.heap.size) (a:=.int .u8 0) (c:=.slice none 0 0) (zaC (by rw [hc _ _ (by simp;omega)];simp)) (zaC (by rw [hc _ _ (by simp;omega)];simp));exact bodyPost_ret (v:=.tuple #[.agg #[.int .u8 102,.slice (some ⟨g,0,none⟩) (r.length+1) d],.bool false]) (by simp [results,Tryz.results46,go_sem,m,k]) rfl (zco (by simpa using f) (zhN _ _ _ j))
theorem zsh(s:ByteArray)(w:World)(hs:s.size≤1048576)(hv:zau s 0=true)(y:ByteArray)(hl:Hid (words s=[⟨#[102,117,110,99]⟩,y]))(hy:y.size≤1048576):
  qC 46 #[.string s] w (zcv w.heap.size w ⟨102,[⟨#[102,117,110,99]⟩,y],za8 y⟩):=by
 go_enter Tryz.func46,Tryz.ntmps46;go_wp2_with(first
  | (go_at_call 71;refine(zcn s _ (by omega)).mono ?_;rintro e i ⟨rfl,rfl⟩)
  | (go_at_call 73;refine(zhz y _ (by omega)).mono ?_;rintro e i ⟨rfl,rfl⟩)
  | (go_at_call 72;refine(zdq s w (by omega) _ hl (by simp)).mono ?_;rintro e k ⟨g,c,rfl,hcap,hmx,a,d,K⟩;obtain⟨hg3,hg2,o,m,j,d0,d1,e0,e1,f0,f1⟩:=K;have hne:¬w.heap.size+1=g:=(by omega);have hne0:¬w.heap.size=g:=(by omega);have h:=a 0 (by simp);simp only [List.getElem_cons_zero] at h;have f:=a 1 (by simp);simp only [List.getElem_cons_zero,List.getElem_cons_succ] at f))
 go_light
 obtain⟨l,n⟩:=zck (W:=zeD w k 102 (.slice (some ⟨g,0,none⟩) 2 c)) (b:=w.heap.size) (zaC m) (zaC j);exact bodyPost_ret (v:=.tuple #[.agg #[.int .u8 102,.slice (some ⟨g,0,none⟩) 2 c],.bool (za8 y)]) (by simp [results,Tryz.results46,go_sem,l,n]) rfl (zco (by simpa using d) o)
theorem zsi(s:ByteArray)(w:World)(hs:s.size≤1048576)(hv:zau s 0=true)(x:ByteArray)(hl:Hid (words s=[x]))(hx:x.size≤1048576)(hx1:1≤x.size)(hnf:(x.toList == [102,117,110,99])=false)(hlast:((x[x.size-1].toNat:Int) == 58)=true):
  qC 46 #[.string s] w (zcv w.heap.size w ⟨108,[x.extract 0 (x.size-1)],za8 (x.extract 0 (x.size-1))⟩):=by
 go_enter Tryz.func46,Tryz.ntmps46;go_wp2_with(first
  | (go_at_call 71;refine(zcn s _ (by omega)).mono ?_;rintro e i ⟨rfl,rfl⟩)
  | (go_at_call 73;refine(zhz _ _ (by simp;omega)).mono ?_;rintro e i ⟨rfl,rfl⟩)
  | (go_at_call 72;refine(zdq s w (by omega) _ hl (by simp)).mono ?_;rintro e a ⟨g,b,rfl,hcap,hmx,d,hown,K⟩;obtain⟨hg3,hg2,o,m,j,d0,d1,e0,e1,f0,f1⟩:=K;have hne:¬w.heap.size+1=g:=(by omega);have hne0:¬w.heap.size=g:=(by omega);have hz:w.heap.size+1<a.heap.size:=(by omega);have f:w.heap.size<a.heap.size:=(by omega);have c:=d 0 (by simp);simp only [List.getElem_cons_zero] at c))
 go_light
 have l:((zeD w a 108 (.slice (some ⟨g,0,none⟩) 1 b)).setCell ⟨w.heap.size+1,1,none⟩ (.slice (some ⟨a.heap.size,0,none⟩) 1 1)).cell? ⟨w.heap.size,0,none⟩=some (.int .u8 0):=by
  rw [World.cell?_setCell_other]
  ·exact zaC m
  ·simp
 have p:((zeD w a 108 (.slice (some ⟨g,0,none⟩) 1 b)).setCell ⟨w.heap.size+1,1,none⟩ (.slice (some ⟨a.heap.size,0,none⟩) 1 1)).cell? ⟨w.heap.size,1,none⟩=some (.slice none 0 0):=by
  rw [World.cell?_setCell_other]
  ·exact zaC j
  ·simp
 obtain⟨k,n⟩:=zck l p;refine bodyPost_ret (v:=.tuple #[.agg #[.int .u8 108,.slice (some ⟨a.heap.size,0,none⟩) 1 1],.bool (za8 (x.extract 0 (x.size-1)))]) (by simp [results,Tryz.results46,go_sem,k,n,f]) rfl ⟨_,rfl,?_,?_⟩
 ·have h:=World.ownsRow_lit (base:=w.heap.size) (e:=9) (size:=1) ((((zeD w a 108 (.slice (some ⟨g,0,none⟩) 1 b)).setCell ⟨w.heap.size+1,1,none⟩ (.slice (some ⟨a.heap.size,0,none⟩) 1 1)).setCell ⟨w.heap.size,0,none⟩ (.int .u8 108)).setCell ⟨w.heap.size,1,none⟩ (.slice (some ⟨a.heap.size,0,none⟩) 1 1)) #[Value.string (x.extract 0 (x.size-1))] 1 (by simp [World.setCell];omega) (by unfold maxLen;omega) rfl;simpa [World.setCell] using h
 ·exact(((((o.setCell (by simp) _).setCell (by simp) _).setCell (by simp) _).setCell (by simp) _).setCell (by simp) _).alloc (by simp [World.setCell];omega) _
end Go.Proofs.YtfpgjkbjbbgciaaGreatDoor
