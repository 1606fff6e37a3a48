import Derived.Test.YtfpgjkbjbbgciaaGreatDoorMj41
import Derived.Laws.OwnMore
set_option maxRecDepth 100000
set_option maxHeartbeats 8000000
namespace Go.Proofs.YtfpgjkbjbbgciaaGreatDoor
section
open Go.RowKit Sp
theorem zfE{e:Int}{o:Option Int}{c:Int × Int}(h:ze8 e o c=(0,0))(he:¬e=0):o=none∧c=(0,0):=by
 cases o with
 | none=>exact⟨rfl,h⟩
 | some l=>exact absurd (congrArg Prod.fst h) he
theorem zkG(A:List ByteArray)(i j:Nat)(hj:j<A.length)(hij:i≤j)(hb:(say A[j]).ok=false):¬zbO A i=(0,0):=by
 have a:i<A.length:=by omega
 cases hc:(say A[i]).ok with
 | false=>rw [zeb A i a hc];exact fun e=>absurd (congrArg Prod.fst e) (show ¬(1:Int)=0 by decide)
 | true =>
  rw [zfh A i a hc];have hne:¬i=j:=fun e=>by subst e;rw [hb] at hc;cases hc
  exact zkG A (i+1) j hj (by omega) hb
termination_by A.length-i
theorem zh9(s:ByteArray)(h:zaQ s=(0,0)):zi3 s ((lines s).map say):=by
 have c:=ziu s h;unfold zaQ at h;by_cases p:4000<s.size∨300<(lines s).length
 ·rw [if_pos p] at h;exact absurd (congrArg Prod.fst h) (by decide)
 ·rw [if_neg p] at h;have u:s.size≤4000:=by omega
  have z:(lines s).length≤300:=by omega
  by_cases a:∀ x∈lines s,(say x).ok=true
  ·rw [zfl _ a 0,zfk _ a] at h;have S:Sts s (zbl (lines s) (lines s).length):=⟨u,z,a,rfl⟩
   have b:=zk7 (lines s);generalize zbl (lines s) (lines s).length=K at S h b;cases K with
   | nil=>exact absurd (congrArg Prod.fst h) (by decide)
   | cons k r =>
    unfold sayK at h;dsimp only at h;by_cases d:k.sort=0
    ·rw [if_pos d] at h;obtain⟨A,h⟩:=zfE h (by decide);obtain⟨D,h⟩:=zfE h (by decide);obtain⟨B,_⟩:=zfE h (by decide);intro w v;refine(zjK s k r S d A _ rfl D B w v).mono ?_;rintro e w' ⟨g,t,C,n,m,F,rfl,y,hG,i,l,f⟩;refine⟨g,t,C,n,m,F,rfl,y,⟨c,zi0 _ 0 k r b.symm d,?_,i⟩,l,f⟩;rw [hG.out];exact znL _ 0 k r b.symm d
    ·rw [if_neg d] at h;exact absurd (congrArg Prod.fst h) (show ¬(2:Int)=0 by decide)
  ·exfalso;have:∃ x∈lines s,¬(say x).ok=true:=by
    refine Classical.byContradiction fun hn=>a fun x o=>?_;refine Classical.byContradiction fun hx'=>hn ⟨x,o,hx'⟩
   obtain⟨x,o,g⟩:=this;obtain⟨j,q,rfl⟩:=List.mem_iff_getElem.1 o;exact zkG (lines s) 0 j q (by omega) (by simpa using g) h
theorem zra(s:ByteArray)(w:World)(hw:LibW w)(ao:Option Addr)(icap:Nat)(n:Int)(inp:List Int)(hs:s.size≤9223372036854775807)(hiv:SlB w w.heap.size (.slice ao inp.length icap) inp)(hin:inp.length≤9223372036854775807):
  qC 18 #[.string s,.slice ao inp.length icap,.int .i64 n] w (zaT w (ziw s inp n)):=by
 have d:=zi4 w s (.slice ao inp.length icap) n;have c:=zd6 (TrW w s (.slice ao inp.length icap) n);have b:qB w (OutW (TrW w s (.slice ao inp.length icap) n)):=d.trans (c.mono d.size);have a:=hw.below b;have T:=(ztQ w s (.slice ao inp.length icap) n).below c;unfold ziw;by_cases e:zaQ s=(0,0)
 ·rw [if_neg (by simpa using e)];by_cases f:n<0∨100000<n
  ·rw [if_pos f];exact zfw w s ao _ icap n 7 0 (ztO _ a _ _ _ _ s _ n T _ (zh9 s e) f)
  ·rw [if_neg f];obtain⟨k,rfl⟩:=Int.eq_ofNat_of_zero_le (show 0≤n by omega);exact ztR w s ao _ icap _ _ (zw2 _ a _ _ _ _ s ao icap k inp T _ (zh9 s e) (by omega) (hiv.mono b) hin _ rfl)
 ·rw [if_pos e];exact zfw w s ao _ icap n _ _ (zw0 _ a _ _ _ _ s _ n T (zaQ s) e (zgm s hs))
end
section
open Go.RowKit
def MarkV(w:World)(X:Nat→Prop)(m:Int)(N:Nat)(v:Value):Prop:=∃ ao n cap,v=.slice ao n cap∧n≤N∧(0<n→∃ g cur,ao=some ⟨g,0,none⟩∧X g∧w.heap[g]?=some (.cells cur 2 (0,0))∧∀ j,j<n→cur[j]?=some (.int .i64 m))
def HoldIn(w:World)(X:Nat→Prop)(b:Nat):Prop:=∃(m:Int) (c cap:Nat) (vs:List Value) (cur:Array Value),X b∧X c∧w.heap[b]?=some (.cells #[.slice (some ⟨c,0,none⟩) vs.length cap,.int .i64 m] 104 (0,0))∧w.heap[c]?=some (.cells cur 29 (0,0))∧vs.length≤17∧(∀ j (h:j<vs.length),cur[j]?=some vs[j])∧∀ v∈vs,MarkV w X m 1100000 v
theorem MarkV.keep{w w':World}{X Y:Nat→Prop}{m:Int}{N:Nat}{v:Value}(h:MarkV w X m N v)(hk:∀ q cur t,X q→¬t=56→w.heap[q]?=some (.cells cur t (0,0))→Y q∧w'.heap[q]?=some (.cells cur t (0,0))):MarkV w' Y m N v:=by
 obtain⟨j,n,b,e,o,k⟩:=h;refine⟨j,n,b,e,o,fun hp=>?_⟩;obtain⟨g,cur,c,l,i,d⟩:=k hp;obtain⟨f,a⟩:=hk g cur 2 l (by decide) i;exact⟨g,cur,c,f,a,d⟩
theorem HoldIn.keep{w w':World}{X Y:Nat→Prop}{b:Nat}(h:HoldIn w X b)(hk:∀ q cur t,X q→¬t=56→w.heap[q]?=some (.cells cur t (0,0))→Y q∧w'.heap[q]?=some (.cells cur t (0,0))):HoldIn w' Y b:=by
 obtain⟨m,c,d,f,cur,l,o,n,g,r,j,p⟩:=h;obtain⟨i,a⟩:=hk b _ 104 l (by decide) n;obtain⟨k,e⟩:=hk c _ 29 o (by decide) g;exact⟨m,c,d,f,cur,i,k,a,e,r,j,fun v hvm=>(p v hvm).keep hk⟩
theorem zrU{w:World}{X:Nat→Prop}{b:Nat}(h:HoldIn w X b):qC 29 #[.pointer (some ⟨b,0,none⟩)] w fun e w'=>e=.returned (.bool true)∧∃ n,w'=w.drewN n:=by
 obtain⟨m,c,f,d,cur,xb,xc,s,B,hl,D,F⟩:=h;have v:w.cell? ⟨b,0,none⟩=some (.slice (some ⟨c,0,none⟩) d.length f):=cell_of_row w b 0 _ _ _ s;have x:w.cell? ⟨b,1,none⟩=some (.int .i64 m):=cell_of_row w b 1 _ _ _ s;have C:∀ j (h:j<d.length),w.cell? ⟨c,j,none⟩=some d[j]:=fun j y=>(cell_of_row w c j _ _ _ B).trans (D j y);clear s B D;go_enter Tryz.func29,Tryz.ntmps29;go_wp2
 go_loopw [3] (fun ti wr=>∃ j n:Nat,j≤d.length∧ti=.int .i64 (j:Int)∧wr=w.drewN n) (fun ti _=>d.length-(intOf ti).toNat)
 case atStart=>exact⟨0,0,by omega,rfl,rfl⟩
 case round =>
  obtain⟨j,n,y,rfl,rfl⟩:=hrel;have A:(w.drewN n).cell? ⟨b,0,none⟩=some (.slice (some ⟨c,0,none⟩) d.length f):=v;by_cases p:j<d.length
  ·obtain⟨J,k,l,t,hk,a⟩:=F d[j] (List.getElem_mem p);have hj0:(0:Int)≤(j:Int):=by omega
   have hj1:(j:Int)<(d.length:Int):=by omega
   go_wp2
   go_loopw [4] (fun ti wr=>∃ i n:Nat,i≤k∧ti=.int .i64 (i:Int)∧wr=w.drewN n) (fun ti _=>k-(intOf ti).toNat)
   case atStart=>exact⟨0,n,by omega,rfl,rfl⟩
   case round =>
    obtain⟨i,n,hi,rfl,rfl⟩:=hrel;have A:(w.drewN n).cell? ⟨b,0,none⟩=some (.slice (some ⟨c,0,none⟩) d.length f):=v;have H:(w.drewN n).cell? ⟨b,1,none⟩=some (.int .i64 m):=x;have G:(w.drewN n).cell? ⟨c,j,none⟩=some (.slice J k l):=by rw [←t];exact C j p
    by_cases r:i<k
    ·obtain⟨g,cur2,rfl,_,E,o⟩:=a (by omega);have I:(w.drewN n).cell? ⟨g,i,none⟩=some (.int .i64 m):=(cell_of_row w g i _ _ _ E).trans (o i r);have q:∀ k,(w.drewN n).drewN k=w.drewN (n+k):=fun k=>by rw [World.drewN_drewN]
     have z:Hid (∀ k,(w.drewN n).drewN k=w.drewN (n+k)):=q;have hi0:(0:Int)≤(i:Int):=by omega
     have u:(i:Int)<(k:Int):=by omega
     clear q o a F C E v x;generalize w.drewN n=W at A H G I z ⊢;go_wp2_with fail
     go_quiet(fail)
     go_wp2;go_roundw
     case rel=>exact⟨i+1,_,by omega,by go_num,z.out nq⟩
     case measure=>simp [intOf];omega
    ·have u:¬(i:Int)<(k:Int):=by omega
     go_wp2;go_roundw
     case rel=>exact⟨j+1,n,by omega,by go_num,rfl⟩
     case measure=>simp [intOf];omega
  ·go_wp2;go_ret;exact⟨rfl,n,rfl⟩
end
section
open Go.RowKit Sp
theorem zgz(V:World)(cs:Array Value)(t:TypeId)(j:Nat):(V.alloc (.cells cs t)).frozen? ⟨V.heap.size,j,none⟩=false:=by simp
abbrev VfW(w:World)(s:ByteArray):World:=(w.alloc (.cells #[.string s] 9)).alloc (.cells #[.int .i64 0,.int .i64 0] 42)
theorem zkV(w:World)(s:ByteArray):(VfW w s).heap.size=w.heap.size+1+1:=by simp
theorem zja(w:World)(s:ByteArray):qB w (VfW w s):=((Below.refl _ _).alloc (Nat.le_refl _) _).alloc (by simp) _
theorem zuQ(w:World)(s:ByteArray):(VfW w s).cell? ⟨w.heap.size,0,none⟩=some (.string s)∧(VfW w s).cell? ⟨w.heap.size+1,0,none⟩=some (.int .i64 0)∧(VfW w s).cell? ⟨w.heap.size+1,1,none⟩=some (.int .i64 0)∧∀ j,(VfW w s).frozen? ⟨w.heap.size+1,j,none⟩=false:=by
 have e:(w.alloc (.cells #[.string s] 9)).heap.size=w.heap.size+1:=by simp
 have c:=World.cell?_alloc_new (w:=w) #[.string s] 9 0;have b:=fun j=>World.cell?_alloc_new (w:=w.alloc (.cells #[.string s] 9)) #[.int .i64 0,.int .i64 0] 42 j;rw [e] at b;refine⟨?_,b 0,b 1,fun j=>?_⟩
 ·exact(World.cell?_of_block (a:=⟨w.heap.size,0,none⟩) (Below.heap_alloc _ _ _ (by show w.heap.size<_;rw [e];omega))).trans c
 ·have:∀ j,((w.alloc (.cells #[.string s] 9)).alloc (.cells #[.int .i64 0,.int .i64 0] 42)).frozen? ⟨(w.alloc (.cells #[.string s] 9)).heap.size,j,none⟩=false:=fun j=>by simp
  rw [e] at this;exact this j
def zmO(w:World)(bs bf er ln:Int):Ending→World→Prop:=fun e w'=>e=.returned (.tuple #[.agg #[.int .i64 bs,.int .i64 bf],.int .i64 er,.int .i64 ln])∧qB w w'
theorem zeV(w:World)(s:ByteArray)(er ln:Int)(hcall:qC 59 #[.pointer (some ⟨w.heap.size,0,none⟩),.pointer (some ⟨w.heap.size+1,0,none⟩)] (OutW (VfW w s)) fun e w'=>e=zak er ln∧Below (OutW (VfW w s)).heap.size (OutW (VfW w s)) w'):
  qC 26 #[.string s] w (zmO w 0 0 er ln):=by
 have hmf:∀(fn:Go.Fn) (first cap:Array Value) (w:World),(Instr.makeFunc fn first cap).run Tryz.prog w=.ok (.func fn first cap) w:=fun _ _ _ _=>rfl;have d:=zd8 59 _ (VfW w s) er ln (fun W=>by kernel_rfl) hcall;have i:=zkV w s;have f:=zja w s;obtain⟨_,j,k,z⟩:=zuQ w s;go_enter Tryz.func26,Tryz.ntmps26;go_wp2_with(first|(go_at_call 42;refine d.mono ?_;rintro e h ⟨rfl,b⟩;refine Hid.out ?_))
 unfold Hid;have c:w.heap.size+1<(VfW w s).heap.size:=by rw [i];omega
 have m:h.cell? ⟨w.heap.size+1,0,none⟩=some (.int .i64 0):=(World.cell?_of_block (a:=⟨w.heap.size+1,0,none⟩) (b.block _ c)).trans j;have l:h.cell? ⟨w.heap.size+1,1,none⟩=some (.int .i64 0):=(World.cell?_of_block (a:=⟨w.heap.size+1,1,none⟩) (b.block _ c)).trans k;have z0:h.frozen? ⟨w.heap.size+1,0,none⟩=false:=(World.frozen?_of_block (a:=⟨w.heap.size+1,0,none⟩) (b.block _ c)).trans (z 0);have z1:h.frozen? ⟨w.heap.size+1,1,none⟩=false:=(World.frozen?_of_block (a:=⟨w.heap.size+1,1,none⟩) (b.block _ c)).trans (z 1);have g:qB w h:=f.trans (b.mono f.size);clear d hcall j k z f i b c;go_wp2;refine bodyPost_ret (v:=.tuple #[.agg #[.int .i64 0,.int .i64 0],.int .i64 er,.int .i64 ln]) (by simp [results,Tryz.results26,go_sem,m,l]) rfl ⟨rfl,?_⟩;exact(g.setCell (p:=⟨w.heap.size+1,0,none⟩) (Nat.le_succ _) _).setCell (p:=⟨w.heap.size+1,1,none⟩) (Nat.le_succ _) _
theorem zrM(w:World)(s:ByteArray)(bs bf:Int)(hcall:qC 59 #[.pointer (some ⟨w.heap.size,0,none⟩),.pointer (some ⟨w.heap.size+1,0,none⟩)] (OutW (VfW w s)) fun e w'=>e=.returned (.tuple #[])∧∃ w1,Below (OutW (VfW w s)).heap.size (OutW (VfW w s)) w1∧w'=(w1.setCell ⟨w.heap.size+1,0,none⟩ (.int .i64 bs)).setCell ⟨w.heap.size+1,1,none⟩ (.int .i64 bf)):
  qC 26 #[.string s] w (zmO w bs bf 0 0):=by
 have hmf:∀(fn:Go.Fn) (first cap:Array Value) (w:World),(Instr.makeFunc fn first cap).run Tryz.prog w=.ok (.func fn first cap) w:=fun _ _ _ _=>rfl;have t:=zkV w s;have m:=zja w s;obtain⟨_,G,F,z⟩:=zuQ w s;have B:(OutW (VfW w s)).heap.size=w.heap.size+1+1+1+1:=by simp
 have o:=zd6 (VfW w s);have k:(OutW (VfW w s)).cell? ⟨(VfW w s).heap.size,0,none⟩=some (.int .i64 0):=by
  have g:=World.cell?_alloc_new (w:=VfW w s) #[.int .i64 0] 22 0;exact(World.cell?_of_block (a:=⟨(VfW w s).heap.size,0,none⟩) (Below.heap_alloc _ _ _ (by simp))).trans g
 have l:(OutW (VfW w s)).cell? ⟨(VfW w s).heap.size+1,0,none⟩=some (.int .i64 0):=by
  have g:=World.cell?_alloc_new (w:=(VfW w s).alloc (.cells #[.int .i64 0] 22)) #[.int .i64 0] 3 0;rw [show((VfW w s).alloc (.cells #[.int .i64 0] 22)).heap.size=(VfW w s).heap.size+1 by simp] at g;exact g
 have i:(OutW (VfW w s)).frozen? ⟨(VfW w s).heap.size,0,none⟩=false:=by
  have g:=zgz (VfW w s) #[.int .i64 0] 22 0;exact(World.frozen?_of_block (a:=⟨(VfW w s).heap.size,0,none⟩) (Below.heap_alloc _ _ _ (by simp))).trans g
 have n:(OutW (VfW w s)).frozen? ⟨(VfW w s).heap.size+1,0,none⟩=false:=by
  have g:=zgz ((VfW w s).alloc (.cells #[.int .i64 0] 22)) #[.int .i64 0] 3 0;rw [show((VfW w s).alloc (.cells #[.int .i64 0] 22)).heap.size=(VfW w s).heap.size+1 by simp] at g;exact g
 have d:∀ w1 b,Below (OutW (VfW w s)).heap.size (OutW (VfW w s)) w1→b<w.heap.size+4→¬b=w.heap.size+1→((w1.setCell ⟨w.heap.size+1,0,none⟩ (.int .i64 bs)).setCell ⟨w.heap.size+1,1,none⟩ (.int .i64 bf)).heap[b]?=(OutW (VfW w s)).heap[b]?:=fun w1 b hb u hne=>(Below.heap_setCell _ _ _ b hne).trans ((Below.heap_setCell _ _ _ b hne).trans (hb.block b (by rw [B];omega)));have h:=zf2 59 _ (VfW w s) _ (fun W=>by kernel_rfl) hcall (fun w2 ⟨w1,hb,e⟩=>by
  subst e;rw [t];rw [t] at k l i n;exact⟨(World.cell?_of_block (a:=⟨w.heap.size+1+1,0,none⟩) (d w1 _ hb (by show w.heap.size+1+1<_;omega) (by show ¬w.heap.size+1+1=_;omega))).trans k,(World.cell?_of_block (a:=⟨w.heap.size+1+1+1,0,none⟩) (d w1 _ hb (by show w.heap.size+1+1+1<_;omega) (by show ¬w.heap.size+1+1+1=_;omega))).trans l,(World.frozen?_of_block (a:=⟨w.heap.size+1+1,0,none⟩) (d w1 _ hb (by show w.heap.size+1+1<_;omega) (by show ¬w.heap.size+1+1=_;omega))).trans i,(World.frozen?_of_block (a:=⟨w.heap.size+1+1+1,0,none⟩) (d w1 _ hb (by show w.heap.size+1+1+1<_;omega) (by show ¬w.heap.size+1+1+1=_;omega))).trans n⟩)
 have C:Hid (∀ w1,Below (OutW (VfW w s)).heap.size (OutW (VfW w s)) w1→∀ f,f=(((w1.setCell ⟨w.heap.size+1,0,none⟩ (.int .i64 bs)).setCell ⟨w.heap.size+1,1,none⟩ (.int .i64 bf)).setCell ⟨(VfW w s).heap.size,0,none⟩ (.int .i64 0)).setCell ⟨(VfW w s).heap.size+1,0,none⟩ (.int .i64 0)→f.cell? ⟨w.heap.size+1,0,none⟩=some (.int .i64 bs)∧f.cell? ⟨w.heap.size+1,1,none⟩=some (.int .i64 bf)∧f.frozen? ⟨w.heap.size+1,0,none⟩=false∧f.frozen? ⟨w.heap.size+1,1,none⟩=false∧qB w f):=fun w1 hb f e5=>by
  have u:w.heap.size+1<(OutW (VfW w s)).heap.size:=by rw [B];omega
  have q:∀ b,b<(VfW w s).heap.size→(OutW (VfW w s)).heap[b]?=(VfW w s).heap[b]?:=fun b hlb=>o.block b hlb;have r:w1.heap[w.heap.size+1]?=(VfW w s).heap[w.heap.size+1]?:=(hb.block _ u).trans (q _ (by rw [t];omega));have D:w1.cell? ⟨w.heap.size+1,0,none⟩=some (.int .i64 0):=(World.cell?_of_block (a:=⟨w.heap.size+1,0,none⟩) r).trans G;have J:w1.cell? ⟨w.heap.size+1,1,none⟩=some (.int .i64 0):=(World.cell?_of_block (a:=⟨w.heap.size+1,1,none⟩) r).trans F;have E:∀ j,w1.frozen? ⟨w.heap.size+1,j,none⟩=false:=fun j=>(World.frozen?_of_block (a:=⟨w.heap.size+1,j,none⟩) r).trans (z j);have H:(w1.setCell ⟨w.heap.size+1,0,none⟩ (.int .i64 bs)).cell? ⟨w.heap.size+1,1,none⟩=some (.int .i64 0):=by rw [zat _ (w.heap.size+1) 0 1 _ _ D,if_neg (by omega)];exact J
  have M:(w1.setCell ⟨w.heap.size+1,0,none⟩ (.int .i64 bs)).cell? ⟨w.heap.size+1,0,none⟩=some (.int .i64 bs):=World.cell?_setCell_same _ _ _ D;have e:f.heap[w.heap.size+1]?=((w1.setCell ⟨w.heap.size+1,0,none⟩ (.int .i64 bs)).setCell ⟨w.heap.size+1,1,none⟩ (.int .i64 bf)).heap[w.heap.size+1]?:=by
   rw [e5,t];exact(Below.heap_setCell _ _ _ _ (by show ¬w.heap.size+1=w.heap.size+1+1+1;omega)).trans (Below.heap_setCell _ _ _ _ (by show ¬w.heap.size+1=w.heap.size+1+1;omega))
  refine⟨(World.cell?_of_block (a:=⟨w.heap.size+1,0,none⟩) e).trans ?_,(World.cell?_of_block (a:=⟨w.heap.size+1,1,none⟩) e).trans (World.cell?_setCell_same _ _ _ H),(World.frozen?_of_block (a:=⟨w.heap.size+1,0,none⟩) e).trans ?_,(World.frozen?_of_block (a:=⟨w.heap.size+1,1,none⟩) e).trans ?_,?_⟩
  ·rw [zat _ (w.heap.size+1) 1 0 _ _ H,if_neg (by omega)];exact M
  ·rw [zdj,zdj];exact E 0
  ·rw [zdj,zdj];exact E 1
  ·rw [e5,t];exact((((m.trans ((o.mono m.size).trans (hb.mono (by rw [B];omega)))).setCell (p:=⟨w.heap.size+1,0,none⟩) (Nat.le_succ _) _).setCell (p:=⟨w.heap.size+1,1,none⟩) (Nat.le_succ _) _).setCell (p:=⟨w.heap.size+1+1,0,none⟩) (by show w.heap.size≤w.heap.size+1+1;omega) _).setCell (p:=⟨w.heap.size+1+1+1,0,none⟩) (by show w.heap.size≤w.heap.size+1+1+1;omega) _
 clear d k l i n G F z hcall;go_enter Tryz.func26,Tryz.ntmps26;go_wp2_with(first|(go_at_call 42;refine h.mono ?_;rintro e f ⟨rfl,w1,⟨L,A,I⟩,c⟩;have y:Hid _:=c;clear c;refine Hid.out ?_))
 have c:=y.out;clear y;unfold Hid;rw [I] at c;obtain⟨N,K,z0,z1,x⟩:=C.out L A f c;clear c I h C o B m;go_wp2;refine bodyPost_ret (v:=.tuple #[.agg #[.int .i64 bs,.int .i64 bf],.int .i64 0,.int .i64 0]) (by simp [results,Tryz.results26,go_sem,N,K]) rfl ⟨rfl,?_⟩;exact(x.setCell (p:=⟨w.heap.size+1,0,none⟩) (Nat.le_succ _) _).setCell (p:=⟨w.heap.size+1,1,none⟩) (Nat.le_succ _) _
end
end Go.Proofs.YtfpgjkbjbbgciaaGreatDoor
