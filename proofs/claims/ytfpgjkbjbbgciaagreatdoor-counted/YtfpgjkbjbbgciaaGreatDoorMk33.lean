import Derived.Test.YtfpgjkbjbbgciaaGreatDoorMk29
import Derived.Test.YtfpgjkbjbbgciaaGreatDoorMk32
set_option maxRecDepth 100000
set_option maxHeartbeats 8000000
namespace Go.Proofs.YtfpgjkbjbbgciaaGreatDoor
section
open Sp
def zeI(F:List FnM)(k:Nat)(l:List It):List (Ins × Int):=l.map (fun i=>(insM F k i,i.line))
def zc4(F:List FnM):Nat→List FnM→List (Ins × Int)
 | _,[]=>[]
 | k,f :: r=>zeI F k (zal f.its)++zc4 F (k+1) r
def zao(F:List FnM):List (Ins × Int):=zc4 F 0 F
theorem zmh(F:List FnM)(k:Nat)(R:List FnM):(zc4 F k R).length=lenF R:=by
 induction R generalizing k with
 | nil=>rfl
 | cons f R ih=>rw [zev,zc4,List.length_append,ih];simp [zeI]
theorem zdF(F:List FnM):(zao F).length=lenF F:=zmh F 0 F
theorem zfV(F:List FnM)(n:Nat)(R:List FnM)(k:Nat)(f:FnM)(hk:R[k]?=some f)(m:Nat)(it:It)(hm:(zal f.its)[m]?=some it):
  (zc4 F n R)[lenF (R.take k)+m]?=some (insM F (n+k) it,it.line):=by
 induction R generalizing n k with
 | nil=>simp at hk
 | cons g R ih =>
  have a:(zeI F n (zal g.its)).length=(zal g.its).length:=by simp [zeI]
  cases k with
  | zero =>
   have e:g=f:=by simpa using hk
   subst e;have hlt:m<(zal g.its).length:=(List.getElem?_eq_some_iff.1 hm).1;rw [zc4,List.take_zero,show lenF []+m=m by simp [lenF],List.getElem?_append_left (by omega)];unfold zeI;rw [List.getElem?_map,hm];rfl
  | succ k =>
   rw [List.getElem?_cons_succ] at hk;rw [zc4,List.take_succ_cons,zev,List.getElem?_append_right (by omega),a];rw [show(zal g.its).length+lenF (R.take k)+m-(zal g.its).length=lenF (R.take k)+m by omega,ih (n+1) k hk];rw [show n+1+k=n+(k+1) by omega]
theorem zkF(R:List FnM)(p:Nat)(hp:p<lenF R):∃ k f m it,R[k]?=some f∧(zal f.its)[m]?=some it∧p=lenF (R.take k)+m:=by
 induction R generalizing p with
 | nil=>simp [lenF] at hp
 | cons g R ih =>
  rw [zev] at hp;by_cases h:p<(zal g.its).length
  ·exact⟨0,g,p,(zal g.its)[p],rfl,List.getElem?_eq_getElem h,by simp [lenF]⟩
  ·obtain⟨k,f,m,it,a,b,c⟩:=ih (p-(zal g.its).length) (by omega);exact⟨k+1,f,m,it,by rw [List.getElem?_cons_succ];exact a,b,by rw [List.take_succ_cons,zev];omega⟩
structure Right(L:List Said)(F:List FnM):Prop where
 good:Good L
 first:zar L 0=[]
 fns:F.map FnM.fn=zaN L 0
 some_:0<F.length
def zgA(C:List (Ins × Int))(z:Int):Int:=(C[z.toNat]?.map (·.2)).getD 0-1
theorem zp0{C:List (Ins × Int)}{p:Nat}{q:Ins × Int}(h:C[p]?=some q):zgA C (p:Int)=q.2-1:=by
 unfold zgA;rw [Int.toNat_natCast,h];rfl
theorem zw6(L:List Said)(o d:Nat)(ho:o<L.length)(h1:L[o].kind=102)(hd:o+d<L.length)(hno:NoFn L (o+1) (o+d)):zfl L (o+d)=(o:Int):=by
 induction d with
 | zero=>exact zfE L o ho h1
 | succ d ih =>
  rw [show o+(d+1)=o+d+1 by omega,zdB L (o+d) hd (hno _ hd (by omega) (Nat.le_refl _))];exact ih (by omega) (fun m hm a b=>hno m hm a (by omega))
theorem zw7(L:List Said){o j:Nat}(ho:o<L.length)(h1:L[o].kind=102)(hoj:o≤j)(hj:j<L.length)(hno:NoFn L (o+1) j)(x:ByteArray):zhV L j x=zbg L x (o+1):=by
 obtain⟨d,rfl⟩:=Nat.exists_eq_add_of_le hoj;unfold zhV;rw [zw6 L o d ho h1 hj hno];congr 1
theorem zw8{i:Ins}(h:Ends i)(h1:∀ to,i≠.jump to)(h2:i≠.back)(h3:i≠.stop):False:=by
 cases i <;> first|exact absurd rfl (h1 _)|exact h2 rfl|exact h3 rfl|exact h
namespace Right
variable {L:List Said} {F:List FnM}
theorem wf(R:Right L F):WfAll L:=fun q hq=>by
 obtain⟨k,hk,rfl⟩:=List.mem_iff_getElem.1 hq;exact R.good.wf k hk
theorem fn_at(R:Right L F){k:Nat}{f:FnM}(hk:F[k]?=some f):∃ o,∃ ho:o<L.length,L[o].kind=102∧f.line=(o:Int)+1∧f.its.map It.key=zar L (o+1)∧cnt L (o+1)=lenF (F.take k):=by
 obtain⟨o,ho,_,b,c,d,e⟩:=zpx L R.wf 0 [] (by rw [R.first];rfl) F R.fns k f hk;refine⟨o,ho,b,c,d,?_⟩;rw [zdE L o ho (by omega),e];simp [cnt,zal]
theorem place(R:Right L F){k o:Nat}{f:FnM}(hk:F[k]?=some f)(hb:f.its.map It.key=zar L (o+1))(hc:cnt L (o+1)=lenF (F.take k)){j:Nat}(hj:j<L.length)(hoj:o+1≤j)(h5:L[j].kind=105)(hno:NoFn L (o+1) j):
  ∃ it,(zao F)[cnt L j]?=some (insM F k it,it.line)∧it.key=keyQ L[j] ((j:Int)+1):=by
 obtain⟨it,a,b⟩:=zi0 L R.wf (o+1) f.its hb j hj hoj h5 hno;refine⟨it,?_,b⟩;have:=zfV F 0 F k f hk _ it a;rw [←hc,Nat.zero_add] at this;have hle:=zmb L hoj;rw [show cnt L (o+1)+(cnt L j-cnt L (o+1))=cnt L j by omega] at this;exact this
theorem next(R:Right L F){k o:Nat}{f:FnM}(hk:F[k]?=some f)(hb:f.its.map It.key=zar L (o+1))(hc:cnt L (o+1)=lenF (F.take k)){i:Nat}(hoi:o+1≤i)(hno:NoFn L (o+1) (i-1))(hn:ziw L (za7 L i)):
  cnt L i<(zao F).length∧zgA (zao F) (cnt L i:Int)=za7 L i:=by
 obtain⟨j,hn,_,_⟩:=hn;obtain⟨g,hij,e,hcj,c⟩:=zpv L i j hn;obtain⟨d,b,a⟩:=R.place hk hb hc g (by omega) e (hno.trans c (by omega));rw [hcj] at b;refine⟨(List.getElem?_eq_some_iff.1 b).1,?_⟩;rw [zp0 b,hn];have:d.line=(j:Int)+1:=congrArg Key.line a;show d.line-1=_;omega
theorem label(R:Right L F){k o:Nat}{f:FnM}(hk:F[k]?=some f)(hb:f.its.map It.key=zar L (o+1))(hc:cnt L (o+1)=lenF (F.take k)){x:ByteArray}(hx:0≤zbg L x (o+1)):
  ∃ p:Nat,zb6 (zbO f.its) x=some p∧labM F k x=((lenF (F.take k)+p:Nat):Int)∧lenF (F.take k)+p<(zao F).length∧zgA (zao F) (labM F k x)=za7 L (zbg L x (o+1)).toNat:=by
 obtain⟨j,c⟩:=Int.eq_ofNat_of_zero_le hx;obtain⟨a,h,d,g,e⟩:=zfT L R.wf x (o+1) f.its hb 0 j c;rw [Nat.zero_add] at a;have hle:=zmb L d;have i:labM F k x=((lenF (F.take k)+(cnt L j-cnt L (o+1)):Nat):Int):=by
  unfold labM;rw [hk];show(lenF (F.take k):Int)+(((zb6 (zbO f.its) x).getD 0:Nat):Int)=_;rw [a];simp
 have l:lenF (F.take k)+(cnt L j-cnt L (o+1))=cnt L j:=by omega
 obtain⟨n,q⟩:=R.next hk hb hc d (fun m hm a b=>e m hm a (by omega)) (R.good.lab j h g);refine⟨_,a,i,by rw [l];exact n,?_⟩;rw [i,l,q,c];rfl
theorem function(R:Right L F){x:ByteArray}(hx:0≤zb1 L x 0):
  ∃ k,∃ _:k<F.length,zb6 (zbj F) x=some k∧fnM F x=(lenF (F.take k):Int)∧lenF (F.take k)<(zao F).length∧zgA (zao F) (fnM F x)=fnTo L x:=by
 obtain⟨o,h⟩:=Int.eq_ofNat_of_zero_le hx;obtain⟨k,f,g,c,hline⟩:=zh5 L x 0 F R.fns 0 o h;rw [Nat.zero_add] at c;obtain⟨j,p,l,hl',n,d⟩:=R.fn_at g;have e:j=o:=by omega
 subst e;have i:fnM F x=(lenF (F.take k):Int):=by unfold fnM;rw [c];rfl
 obtain⟨q,r⟩:=R.next g n d (Nat.le_refl _) (fun m i a b=>by omega) (R.good.fn j p l);refine⟨k,(List.getElem?_eq_some_iff.1 g).1,c,i,by rw [←d];exact q,?_⟩;rw [i,←d,r];unfold fnTo;rw [h];congr 1
theorem asks_l(R:Right L F){j:Nat}(hj:j<L.length)(h5:L[j].kind=105)(ha:zaF (L[j].word 0)=true):0≤zhV L j L[j].last:=by
 have:=R.good.miss j hj;unfold zch at this;rw [List.getElem?_eq_getElem hj] at this;simp only [h5,if_true,ha] at this;simpa using this
theorem asks_f(R:Right L F){j:Nat}(hj:j<L.length)(h5:L[j].kind=105)(ha:zbt (L[j].word 0)=true):0≤zb1 L L[j].last 0:=by
 have:=R.good.miss j hj;have a:zaF (L[j].word 0)=false:=by
  cases h:zaF (L[j].word 0) with
  | false=>rfl
  | true=>rw [zis _ h] at ha;cases ha
 unfold zch at this;rw [List.getElem?_eq_getElem hj] at this;simp only [h5,if_true,ha,a] at this;simpa using this
theorem it_at(R:Right L F){k m:Nat}{f:FnM}{it:It}(hk:F[k]?=some f)(hm:(zal f.its)[m]?=some it):
  ∃ j,∃ hj:j<L.length,L[j].kind=105∧it.key=keyQ L[j] ((j:Int)+1)∧lenF (F.take k)+m=cnt L j ∧
   (zaF (L[j].word 0)=true→∃ p:Nat,zb6 (zbO f.its) L[j].last=some p∧labM F k L[j].last=((lenF (F.take k)+p:Nat):Int)∧lenF (F.take k)+p<(zao F).length∧zgA (zao F) (labM F k L[j].last)=zhq L j L[j].last) ∧
   (zbt (L[j].word 0)=true→∃ k2,∃ _:k2<F.length,zb6 (zbj F) L[j].last=some k2∧fnM F L[j].last=(lenF (F.take k2):Int)∧lenF (F.take k2)<(zao F).length∧zgA (zao F) (fnM F L[j].last)=fnTo L L[j].last) ∧
   (ends (L[j].word 0)=false→cnt L j+1<(zao F).length∧zgA (zao F) ((cnt L j+1:Nat):Int)=za7 L (j+1)):=by
 obtain⟨o,u,t,_,l,q⟩:=R.fn_at hk;obtain⟨j,hj,hoj,g,h,hcj,i⟩:=zh4 L R.wf (o+1) f.its l m it hm;refine⟨j,hj,g,h,by omega,fun ha=>?_,fun ha=>R.function (R.asks_f hj g ha),fun he=>?_⟩
 ·have n:=R.asks_l hj g ha;have e:=zw7 L u t (by omega) hj i L[j].last;rw [e] at n;obtain⟨p,a,b,c,d⟩:=R.label hk l q n;exact⟨p,a,b,c,by rw [d];unfold zhq;rw [e]⟩
 ·have v:=R.good.next j hj g he;obtain⟨r,s⟩:=R.next hk l q (show o+1≤j+1 by omega) (by simpa using i) v;rw [zg4 L j hj g] at r s;exact⟨r,s⟩
theorem at_(R:Right L F){p:Nat}(hp:p<(zao F).length):
  ∃ k it j,∃ hj:j<L.length,(zao F)[p]?=some (insM F k it,it.line)∧it.line=(j:Int)+1∧insQ L j L[j]=zmd (zgA (zao F)) (insM F k it)∧zhs (insM F k it)∧Goes (zao F).length (insM F k it) ∧
   (Ends (insM F k it)∨(p+1<(zao F).length∧za7 L (j+1)=zgA (zao F) ((p:Int)+1))):=by
 rw [zdF] at hp;obtain⟨k,f,m,it,s,t,e⟩:=zkF F p hp;have h:=zfV F 0 F k f s m it t;rw [Nat.zero_add,←e] at h;obtain⟨j,hj,r,g,hpl,i,n,o⟩:=R.it_at s t;obtain⟨u,v,w,l⟩:=zw5 L[j] r (R.good.form j hj r) it _ g F k L j (zao F).length (zgA (zao F))
  (fun ha=>by obtain⟨p',_,b,c,d⟩:=i ha;exact⟨d,_,b,c⟩) (fun ha=>by obtain⟨k2,_,_,b,c,d⟩:=n ha;exact⟨d,_,b,c⟩)
 refine⟨k,it,j,hj,h,congrArg Key.line g,u,v,w,?_⟩;rcases l with l|l
 ·obtain⟨a,b⟩:=o l;have q:p=cnt L j:=by omega
  exact .inr ⟨by omega,by rw [←b,q];rfl⟩
 ·exact .inl l
theorem sim(R:Right L F):SimOk L (zao F) (zgA (zao F)):=⟨fun p hp=>by
 obtain⟨k,it,j,hj,hput,hl,hq,_,_,hn⟩:=R.at_ hp;have e:(zao F)[p]=(insM F k it,it.line):=(List.getElem?_eq_some_iff.1 hput).2;refine⟨j,by rw [zp0 hput];show it.line-1=_;omega,hj,by rw [e];exact hq,by rw [e];exact hl,?_⟩;rw [e];intro _ _ h1 h2 h3;rcases hn with hn|hn
 ·exact(zw8 hn h1 h2 h3).elim
 ·exact hn.2⟩
theorem codeOk(R:Right L F):CodeOk (zao F):=by
 refine⟨?_,?_,fun p hp=>?_,fun p hp=>?_⟩
 ·obtain⟨f,q⟩:∃ f,F[0]?=some f:=⟨F[0]'R.some_,List.getElem?_eq_getElem R.some_⟩
  obtain⟨o,y,t,_,u,v⟩:=R.fn_at q;exact Nat.lt_of_le_of_lt (Nat.zero_le _) (R.next q u v (Nat.le_refl _) (fun m s a b=>by omega) (R.good.fn o y t)).1
 ·by_cases h:0<(zao F).length
  ·obtain⟨k,f,m,d,w,s,e⟩:=zkF F ((zao F).length-1) (by rw [←zdF];omega);obtain⟨j,r,_,_,hpl,_⟩:=R.it_at w s;have:=zyG L j;have:=R.good.few;omega
  ·omega
 ·obtain⟨k,d,j,r,c,x,z,n,_⟩:=R.at_ hp;have e:(zao F)[p]=(insM F k d,d.line):=(List.getElem?_eq_some_iff.1 c).2;rw [e];exact n
 ·obtain⟨k,d,j,r,c,x,z,n,l,g⟩:=R.at_ hp;have e:(zao F)[p]=(insM F k d,d.line):=(List.getElem?_eq_some_iff.1 c).2;rw [e];show ztm _ _ (insM F k d)
  revert g l
  generalize insM F k d=i;intro l g;cases i <;> first|trivial|exact l|(rcases g with g|g;exact False.elim g;first|exact g.1|exact⟨l,g.1⟩)
end Right
theorem zp1(L:List Said)(i:Nat)(f:Fn)(r:List Fn)(h:zaN L i=f :: r):f.line=(zgs L i:Int)+1:=by
 by_cases a:i<L.length
 ·by_cases b:L[i].kind=102
  ·rw [zbN L i a b] at h;rw [zgs,dif_pos a,if_pos b];injection h with h _
   rw [←h]
  ·rw [zbH L i a b] at h;rw [zgs,dif_pos a,if_neg b];exact zp1 L (i+1) f r h
 ·rw [zcF L i a] at h;cases h
termination_by L.length-i
theorem Right.begin{L:List Said}{F:List FnM}(R:Right L F)(inp:List Int):zhY L inp=lift (zgA (zao F)) (zaY inp):=by
 obtain⟨f,c⟩:∃ f,F[0]?=some f:=⟨F[0]'R.some_,List.getElem?_eq_getElem R.some_⟩
 obtain⟨o,l,i,hl,j,k⟩:=R.fn_at c;obtain⟨q1,h⟩:=R.next c j k (Nat.le_refl _) (fun m hm a b=>by omega) (R.good.fn o l i);have d:=R.fns;cases F with
 | nil=>simp at c
 | cons g r =>
  have e:g=f:=by simpa using c
  subst e;have h2:=zp1 L 0 g.fn (r.map FnM.fn) (by rw [←d];rfl);have h3:zgs L 0=o:=by
   have:g.fn.line=g.line:=rfl;omega
  rw [k] at h;unfold zhY;rw [h3,←h];rfl
end
section
open Go.RowKit Sp
def znZ(s:ByteArray)(L:List Said):Prop:=∀ w,LibW w→Calls Tryz.prog 44 #[.string s] w fun e w'=>Below w.heap.size w w'∧∃ pm ao m cap F,e=.returned (.agg #[.slice ao m cap,.map (some pm)])∧PIn w.heap.size w' pm (.slice ao m cap) F∧Right L F∧F.length≤300∧(∀ f∈F,f.its.length≤300∧∀ i∈f.its,ItOk i)
def ztA(w:World)(pr:Nat)(m:Mc)(line:Int)(w':World):Prop:=∃ w1 ao no co,w'=w1.setCells pr 0 (zaH m (.slice ao no co) line)∧Below w.heap.size w w1∧w1.ownsRow w.heap.size 2 1 (.slice ao no co) m.out.length (i64s m.out)
end
section
open Go.ChangeShapes Go.WideShapes Go.ChangeAt Go.RowKit Sp
open Go.ChangeMaps (open_string shut_string)
theorem zjZ{H:Type}(l r:List (DataW H)):l.length+r.length≤Rows.uptoBulk (.slice l r):=by
 have a:∀ l:List (DataW H),l.length≤Rows.uptoBulkAll l:=by
  intro l
  induction l with
  | nil=>simp
  | cons d l ih =>
   have:1≤Rows.uptoBulk d:=by
    cases d with
    | lit l=>cases l <;> simp [Rows.uptoBulk]
    | _=>simp [Rows.uptoBulk]
   simp only [Rows.uptoBulkAll,List.length_cons];omega
 have h1:=a l;have h2:=a r;simp only [Rows.uptoBulk];omega
end
section
open Go.RowKit Sp
theorem zxh:Tryz.prog.built 217 []=some (zaS (.slice none 0 0) kn0).toArray:=by kernel_rfl
theorem zu2(w:World):KnM (w.alloc (.cells (zaS (.slice none 0 0) kn0).toArray 217)) w.heap.size (.slice none 0 0) kn0:=by
 have b:=zix w (zaS (.slice none 0 0) kn0) 217;refine(ziQ (o:=0) fun j hj=>?_).whole (fun j=>by simp);have a:j<(zaS (.slice none 0 0) kn0).length:=by rw [zdo];exact hj
 exact(b j _ (List.getElem?_eq_getElem a)).trans (List.getElem?_eq_getElem a).symm
theorem zo7(w:World):Calls Tryz.prog 113 #[] w fun e w'=>e=.returned (.pointer (some ⟨w.heap.size,0,none⟩))∧KnM w' w.heap.size (.slice none 0 0) kn0∧Below w.heap.size w w'∧w'.heap.size=w.heap.size+1:=by
 have b:=zxh;have a:=zu2 w;generalize zaS (.slice none 0 0) kn0=ds at b a;go_enter Tryz.func113,Tryz.ntmps113;go_wp2_with(first
  | (refine wpList_build rfl 217 _ rfl ?_ ?_
     ·simp [b]
     simp only [List.map_toArray,List.map_nil,Act.eval];refine Hid.out ?_))
 unfold Hid
 erw [b]
 simp only [Option.getD_some,Act.put,List.setIfInBounds_toArray,List.set_cons_succ,List.set_cons_zero];go_wp2_with(first|(refine Go.Great.wpList_boxTo rfl 217 _ rfl _ rfl w.heap.size rfl ds.toArray rfl ?_))
 go_ret;exact⟨rfl,a,(Below.refl _ _).alloc (Nat.le_refl _) _,by simp⟩
def zbs(c:Nat→Rg)(a j:Nat)(v:Rg):Nat→Rg:=fun i=>if a≤i∧i<a+j then(c i).or v else c i
theorem zm9(c:Nat→Rg)(a:Nat)(v:Rg):zbs c a 0 v=c:=by
 funext i;unfold zbs;rw [if_neg (by omega)]
theorem zkh(c:Nat→Rg)(a j:Nat)(v:Rg):zbs c a j v (a+j)=c (a+j):=by unfold zbs;rw [if_neg (by omega)]
theorem zmA(c:Nat→Rg)(a j:Nat)(v:Rg):updR (zbs c a j v) (a+j) ((c (a+j)).or v)=zbs c a (j+1) v:=by
 funext i
 unfold updR zbs;by_cases e:i=a+j
 ·subst e;rw [if_pos rfl,if_pos (by omega)]
 ·rw [if_neg e];by_cases b:a≤i∧i<a+j
  ·rw [if_pos b,if_pos (by omega)]
  ·rw [if_neg b,if_neg (by omega)]
theorem zox(c:Nat→Rg)(a n:Nat)(v:Rg)(hn:1≤n):zbs c a (n+1) v=zaw c a (a+n) v:=by
 funext i
 have e0:zaw c a (a+n) v=fun j=>if a≤j∧j≤a+n then(c j).or v else c j:=by unfold zaw;rw [if_neg (by omega)]
 rw [e0];unfold zbs;show _=if a≤i∧i≤a+n then(c i).or v else c i
 by_cases e:a≤i∧i<a+(n+1)
 ·rw [if_pos e,if_pos (by omega)]
 ·rw [if_neg e,if_neg (by omega)]
structure StM(w wr:World)(b:Nat)(bv:Value)(k:Kn)(v:Rg):Prop where
 kn:KnM wr b bv k
 lo:wr.cell? ⟨w.heap.size+1,0,none⟩=some (.int .i64 v.lo)
 hi:wr.cell? ⟨w.heap.size+1,1,none⟩=some (.int .i64 v.hi)
 low:w.grownBy wr (some b)
theorem StM.below{w wr wy:World}{b:Nat}{bv:Value}{k:Kn}{v:Rg}(L:StM w wr b bv k v)(hb:Below wr.heap.size wr wy):StM w wy b bv k v:=by
 have d:w.heap.size+1<wr.heap.size:=World.block_lt_of_cell? wr _ L.lo;have c:∀ q j,q<wr.heap.size→wy.cell? ⟨q,j,none⟩=wr.cell? ⟨q,j,none⟩:=fun q j hq=>World.cell?_of_block (w:=wr) (a:=⟨q,j,none⟩) (hb.block q hq);exact⟨L.kn.below hb L.kn.lt,(c _ _ d).trans L.lo,(c _ _ d).trans L.hi,zae L.low ⟨hb.os,hb.tape,hb.output,hb.size,fun q hq _=>hb.block q hq⟩⟩
theorem StM.put{w wr:World}{b:Nat}{bv:Value}{k:Kn}{v:Rg}(L:StM w wr b bv k v)(hb:b<w.heap.size)(a:Nat)(ha:a<16)(u:Rg):StM w ((wr.setCell ⟨b,16+a*2,none⟩ (.int .i64 u.lo)).setCell ⟨b,16+a*2+1,none⟩ (.int .i64 u.hi)) b bv { k with cells:=updR k.cells a u } v:=by
 have c:∀ x j,(⟨w.heap.size+1,x,none⟩:Addr)≠⟨b,j,none⟩:=fun x j e=>by
  have:=congrArg Addr.block e;have:w.heap.size+1=b:=this;omega
 refine⟨L.kn.putC a ha u,?_,?_,zae L.low (zae (zah (Below.refl _ _)) (zah (Below.refl _ _)))⟩
 ·rw [World.cell?_setCell_other (h:=(c _ _).symm),World.cell?_setCell_other (h:=(c _ _).symm)];exact L.lo
 ·rw [World.cell?_setCell_other (h:=(c _ _).symm),World.cell?_setCell_other (h:=(c _ _).symm)];exact L.hi
theorem zoy{w:World}{b:Nat}{bv:Value}{k:Kn}(h:KnM w b bv k)(a n:Nat)(hn:1≤n)(ha:a+n≤15)(v:Rg):Calls Tryz.prog 258 #[.pointer (some ⟨b,0,none⟩),rv ⟨(a:Int),(a:Int)+(n:Int)⟩,rv v] w (zmp w b bv { k with cells:=zaw k.cells a (a+n) v }):=by
 have x:=h.lt;have D:∀(W:World),KnM W b bv k→Calls Tryz.prog 255 #[.pointer (some ⟨b,0,none⟩),rv ⟨(a:Int),(a:Int)+(n:Int)⟩] W fun e w'=>e=.returned (.slice (some ⟨b,16+a*2,none⟩) (n+1) (16-a))∧Below W.heap.size W w':=fun W hW=>by
  have t:=zdY hW ⟨(a:Int),(a:Int)+(n:Int)⟩ ⟨⟨by show _≤(a:Int);omega,by show(a:Int)≤_;omega⟩,⟨by show _≤(a:Int)+(n:Int);omega,by show(a:Int)+(n:Int)≤_;omega⟩,by show(a:Int)≤(a:Int)+(n:Int);omega⟩ (by show(0:Int)≤(a:Int);omega) (by show(a:Int)+(n:Int)≤15;omega);have e1:((a:Int)+(n:Int)+1).toNat=a+n+1:=by omega
  have G:((a:Nat):Int).toNat=a:=by omega
  have H:a+n+1-a=n+1:=by omega
  simp only [e1,G,H] at t;exact t
 have t1:((n:Int)+1 == 1)=false:=by simpa using (by omega:¬((n:Int)+1=1))
 have t2:¬n=0:=by omega
 go_enter Tryz.func258,Tryz.ntmps258;go_wp2_with(go_at_call 255;(with_reducible refine(D _ ((h.alloc _).alloc _)).mono ?_);rintro e E ⟨rfl,d⟩)
 have A:StM w E b bv { k with cells:=zbs k.cells a 0 v } v:=by
  rw [zm9];have r:Below w.heap.size w E:=box2.trans (d.mono (by simp;omega));exact⟨((h.alloc _).alloc _).below d (by simp;omega),zdx d 0,zdx d 1,⟨r.os,r.tape,r.output,r.size,fun q hq _=>r.block q hq⟩⟩
 clear d D
 go_loopw [19] (fun ti wr=>∃ j:Nat,j≤n+1∧ti=.int .i64 (j:Int)∧StM w wr b bv { k with cells:=zbs k.cells a j v } v) (fun ti _=>n+1-(intOf ti).toNat)
 case atStart=>exact⟨0,by omega,rfl,A⟩
 case round =>
  obtain⟨j,hj,rfl,L⟩:=hrel;clear A;by_cases hjn:j<n+1
  ·obtain⟨B,C⟩:=L.kn.cC (a+j) (by omega);have I:=L.kn.fz (16+(a+j)*2);have J:=L.kn.fz (16+(a+j)*2+1);have z:∀ f,StM w f b bv { k with cells:=zbs k.cells a j v } v→StM w ((f.setCell ⟨b,16+a*2+j*2,none⟩ (.int .i64 ((k.cells (a+j)).or v).lo)).setCell ⟨b,16+a*2+j*2+1,none⟩ (.int .i64 ((k.cells (a+j)).or v).hi)) b bv { k with cells:=zbs k.cells a (j+1) v } v:=fun f Ly=>by
    have t:=Ly.put x (a+j) (by omega) ((k.cells (a+j)).or v);have e:updR (zbs k.cells a j v) (a+j) ((k.cells (a+j)).or v)=zbs k.cells a (j+1) v:=zmA _ _ _ _;rw [show 16+(a+j)*2=16+a*2+j*2 by omega] at t;show StM w _ b bv { k with cells:=zbs k.cells a (j+1) v } v;rw [←e];exact t
   rw [show 16+(a+j)*2=16+a*2+j*2 by omega] at B C I J;have m:wr.cell? ⟨b,16+a*2+j*2,none⟩=some (.int .i64 (k.cells (a+j)).lo):=by rw [B];show some (Value.int .i64 (zbs k.cells a j v (a+j)).lo)=_;rw [zkh]
   have o:wr.cell? ⟨b,16+a*2+j*2+1,none⟩=some (.int .i64 (k.cells (a+j)).hi):=by rw [C];show some (Value.int .i64 (zbs k.cells a j v (a+j)).hi)=_;rw [zkh]
   clear B C;have hj0:(0:Int)≤(j:Int):=by omega
   have hj1:(j:Int)<(n:Int)+1:=by omega
   have u:=L.kn.lt;have f0:=L.lo;have f1:=L.hi;have y:Hid (∀ f,StM w f b bv { k with cells:=zbs k.cells a j v } v→StM w ((f.setCell ⟨b,16+a*2+j*2,none⟩ (.int .i64 ((k.cells (a+j)).or v).lo)).setCell ⟨b,16+a*2+j*2+1,none⟩ (.int .i64 ((k.cells (a+j)).or v).hi)) b bv { k with cells:=zbs k.cells a (j+1) v } v):=z;clear z;generalize k.cells (a+j)=c at m o y;have g:∀ W,Below wr.heap.size wr W→StM w W b bv { k with cells:=zbs k.cells a j v } v∧W.cell? ⟨b,16+a*2+j*2,none⟩=some (.int .i64 c.lo)∧W.cell? ⟨b,16+a*2+j*2+1,none⟩=some (.int .i64 c.hi)∧W.frozen? ⟨b,16+a*2+j*2,none⟩=false∧W.frozen? ⟨b,16+a*2+j*2+1,none⟩=false∧W.cell? ⟨w.heap.size+1,0,none⟩=some (.int .i64 v.lo)∧W.cell? ⟨w.heap.size+1,1,none⟩=some (.int .i64 v.hi):=fun W hW=>by
    have l:=L.below hW;have e:∀ i,W.cell? ⟨b,i,none⟩=wr.cell? ⟨b,i,none⟩:=fun i=>World.cell?_of_block (w:=wr) (a:=⟨b,i,none⟩) (hW.block b u);exact⟨l,(e _).trans m,(e _).trans o,l.kn.fz _,l.kn.fz _,l.lo,l.hi⟩
   clear L;go_wp2;go_region_with(first|(go_at_call 156;(with_reducible refine(zp5 c v _).mono ?_);rintro e f ⟨rfl,s⟩;have p:Below wr.heap.size wr f:=(Below.refl _ wr).drew.trans s;have F:=(g _ p).1;have y0:=(g _ p).2.1;have y1:=(g _ p).2.2.1;have y2:=(g _ p).2.2.2.1;have y3:=(g _ p).2.2.2.2.1))
   all_goals go_wp2
   all_goals exact⟨⟨j+1,by omega,by go_num,y.out _ F⟩,by simp [intOf];omega⟩
  ·obtain rfl:j=n+1:=by omega
   go_wp2;refine bodyPost_end (results_none rfl _ _ _) rfl ⟨rfl,?_,L.low⟩;rw [←zox k.cells a n v hn];exact L.kn
theorem zr4{w:World}{b:Nat}{bv:Value}{k:Kn}(h:KnM w b bv k)(r v:Rg)(hr:r.lo≤r.hi)(h0:0≤r.lo)(h1:r.hi≤15):Calls Tryz.prog 258 #[.pointer (some ⟨b,0,none⟩),rv r,rv v] w (zmp w b bv { k with cells:=zaw k.cells r.lo.toNat r.hi.toNat v }):=by
 obtain⟨lo,hi⟩:=r;obtain⟨a,rfl⟩:∃ a:Nat,lo=(a:Int):=⟨lo.toNat,by have:0≤lo:=h0;omega⟩
 obtain⟨n,rfl⟩:∃ n:Nat,hi=(a:Int)+(n:Int):=⟨(hi-a).toNat,by have:(a:Int)≤hi:=hr;omega⟩
 have h1':(a:Int)+(n:Int)≤15:=h1;have e1:((a:Int)+(n:Int)).toNat=a+n:=by omega
 have c:((a:Nat):Int).toNat=a:=by omega
 show Calls Tryz.prog 258 #[.pointer (some ⟨b,0,none⟩),rv ⟨(a:Int),(a:Int)+(n:Int)⟩,rv v] w (zmp w b bv { k with cells:=zaw k.cells ((a:Nat):Int).toNat ((a:Int)+(n:Int)).toNat v });rw [e1,c];by_cases d:n=0
 ·subst d;have e3:zaw k.cells a (a+0) v=updR k.cells a v:=by unfold zaw;rw [if_pos (by omega)]
  rw [e3];have e4:(a:Int)+((0:Nat):Int)=(a:Int):=by omega
  rw [e4];exact zrg h a (by omega) v
 ·exact zoy h a n (by omega) (by omega) v
theorem zus{w:World}{b:Nat}{bv:Value}{k:Kn}(h:KnM w b bv k)(r:Nat)(hr:r<8)(s:Nat)(hs:s<8)(t:Nat)(ht:t<8)(h0:0≤k.steps)(h1:k.steps≤100000)(n0:0≤k.next)(n1:k.next≤100000):
  Calls Tryz.prog 240 #[.agg #[.int .i64 (r:Int),.int .i64 (s:Int),.int .i64 (t:Int)],.pointer (some ⟨b,0,none⟩)] w (zaO w b bv ({ k with regs:=updR k.regs r (subR k s t) }.goTo (k.next+1))):=by
 have hlt:=h.lt;have r0:(0:Int)≤(r:Int):=by omega
 have r1:(r:Int)<8:=by omega
 have s0:(0:Int)≤(s:Int):=by omega
 have s1:(s:Int)<8:=by omega
 have t0:(0:Int)≤(t:Int):=by omega
 have t1:(t:Int)<8:=by omega
 obtain⟨A,i⟩:∃ A,w.alloc (.cells #[.int .i64 (r:Int),.int .i64 (s:Int),.int .i64 (t:Int)] 172)=A:=⟨_,rfl⟩
 have f:∀ W,Below A.heap.size A W→KnM W b bv k:=fun W a=>by subst i;exact(h.alloc _).below a (by simp;omega)
 have n:∀ W,Below A.heap.size A W→(W.cell? ⟨w.heap.size,0,none⟩=some (.int .i64 (r:Int))∧W.cell? ⟨w.heap.size,1,none⟩=some (.int .i64 (s:Int))∧W.cell? ⟨w.heap.size,2,none⟩=some (.int .i64 (t:Int)))∧(W.cell? ⟨b,s*2,none⟩=some (.int .i64 (k.regs s).lo)∧W.cell? ⟨b,s*2+1,none⟩=some (.int .i64 (k.regs s).hi))∧(W.cell? ⟨b,t*2,none⟩=some (.int .i64 (k.regs t).lo)∧W.cell? ⟨b,t*2+1,none⟩=some (.int .i64 (k.regs t).hi)):=fun W a=>⟨by subst i;exact⟨za0 a 0,za0 a 1,za0 a 2⟩,(f W a).cR s hs,(f W a).cR t ht⟩
 go_enter Tryz.func240,Tryz.ntmps240;go_wp2;refine zad 8 (fun W=>Below A.heap.size A W) (Below.refl _ _).drew (by kernel_rfl) (by kernel_rfl) ?_;simp only [List.take_succ_cons,List.take_zero,List.drop_succ_cons,List.drop_zero];repeat(refine zab rfl ?_ (fun W a=>?_) ?_;rotate_left 1;· (obtain⟨⟨q,u,v⟩,⟨x,o⟩,⟨y,p⟩⟩:=n W a;go_simp;with_reducible rfl))
 refine zaJ rfl 241 #[.agg #[.int .i64 (r:Int),.int .i64 (s:Int),.int .i64 (t:Int)],.pointer (some ⟨b,0,none⟩)] (rv (subR k s t)) (fun W a=>?_) (fun W a=>(zxc (f W a) r s hs t ht).mono (fun e w' hh=>⟨hh.1,a.trans (hh.2.mono a.size)⟩)) ?_
 ·go_simp
 repeat(refine zab rfl ?_ (fun W a=>?_) ?_;rotate_left 1;· (obtain⟨⟨q,u,v⟩,⟨x,o⟩,⟨y,p⟩⟩:=n W a;go_simp;with_reducible rfl))
 refine wpQuiet_nil ?_;intro W a;have c:=f W a;have c0:=(c.cR r hr).1;have c1:=(c.cR r hr).2;have z0:=c.fz (r*2);have z1:=c.fz (r*2+1);have j:=c.putR r hr (subR k s t);go_wp2_with(go_at_call 227;(with_reducible refine(zbW j h0 h1 n0 n1).mono ?_);intro e w6 d;have m:=ze1 (i▸a) d;clear d;obtain⟨g,rfl,B,z,C,l⟩:=m)
 go_ret;exact⟨g,rfl,B,z,C,l⟩
theorem zr6{w:World}{b:Nat}{bv:Value}{k:Kn}(h:KnM w b bv k)(r:Nat)(hr:r<8)(s:Nat)(hs:s<8)(hle:(k.regs s).lo≤(k.regs s).hi)(q0:0≤(k.regs s).lo)(q1:(k.regs s).hi≤15)(h0:0≤k.steps)(h1:k.steps≤100000)(n0:0≤k.next)(n1:k.next≤100000):
  Calls Tryz.prog 252 #[.agg #[.int .i64 (r:Int),.int .i64 (s:Int)],.pointer (some ⟨b,0,none⟩)] w (zaO w b bv ({ k with regs:=updR k.regs r (zbz k.cells (k.regs s).lo.toNat ((k.regs s).hi.toNat-(k.regs s).lo.toNat)) }.goTo (k.next+1))):=by
 have hlt:=h.lt;have r0:(0:Int)≤(r:Int):=by omega
 have r1:(r:Int)<8:=by omega
 have s0:(0:Int)≤(s:Int):=by omega
 have s1:(s:Int)<8:=by omega
 obtain⟨A,i⟩:∃ A,w.alloc (.cells #[.int .i64 (r:Int),.int .i64 (s:Int)] 176)=A:=⟨_,rfl⟩
 have f:∀ W,Below A.heap.size A W→KnM W b bv k:=fun W a=>by subst i;exact(h.alloc _).below a (by simp;omega)
 have n:∀ W,Below A.heap.size A W→(W.cell? ⟨w.heap.size,0,none⟩=some (.int .i64 (r:Int))∧W.cell? ⟨w.heap.size,1,none⟩=some (.int .i64 (s:Int)))∧(W.cell? ⟨b,s*2,none⟩=some (.int .i64 (k.regs s).lo)∧W.cell? ⟨b,s*2+1,none⟩=some (.int .i64 (k.regs s).hi)):=fun W a=>⟨by subst i;exact⟨za0 a 0,za0 a 1⟩,(f W a).cR s hs⟩
 go_enter Tryz.func252,Tryz.ntmps252;go_wp2;refine zad 14 (fun W=>Below A.heap.size A W) (Below.refl _ _).drew (by kernel_rfl) (by kernel_rfl) ?_;simp only [List.take_succ_cons,List.take_zero,List.drop_succ_cons,List.drop_zero];repeat(refine zab rfl ?_ (fun W a=>?_) ?_;rotate_left 1;· (obtain⟨⟨p,q⟩,⟨t,o⟩⟩:=n W a;go_simp;with_reducible rfl))
 refine zaJ rfl 254 #[.pointer (some ⟨b,0,none⟩),rv (k.regs s)] (rv (zbz k.cells (k.regs s).lo.toNat ((k.regs s).hi.toNat-(k.regs s).lo.toNat))) (fun W a=>?_) (fun W a=>(zuq (f W a) (k.regs s) hle q0 q1).mono (fun e w' hh=>⟨hh.1,a.trans (hh.2.mono a.size)⟩)) ?_
 ·go_simp
 repeat(refine zab rfl ?_ (fun W a=>?_) ?_;rotate_left 1;· (obtain⟨⟨p,q⟩,⟨t,o⟩⟩:=n W a;go_simp;with_reducible rfl))
 refine wpQuiet_nil ?_;intro W a;have c:=f W a;have c0:=(c.cR r hr).1;have c1:=(c.cR r hr).2;have z0:=c.fz (r*2);have z1:=c.fz (r*2+1);have j:=c.putR r hr (zbz k.cells (k.regs s).lo.toNat ((k.regs s).hi.toNat-(k.regs s).lo.toNat));go_wp2_with(go_at_call 227;(with_reducible refine(zbW j h0 h1 n0 n1).mono ?_);intro e w6 d;have m:=ze1 (i▸a) d;clear d;obtain⟨g,rfl,v,u,x,l⟩:=m)
 go_ret;exact⟨g,rfl,v,u,x,l⟩
theorem zoz{w:World}{b:Nat}{bv:Value}{k:Kn}(h:KnM w b bv k)(r:Nat)(hr:r<8)(s:Nat)(hs:s<8)(hle:(k.regs r).lo≤(k.regs r).hi)(q0:0≤(k.regs r).lo)(q1:(k.regs r).hi≤15)(h0:0≤k.steps)(h1:k.steps≤100000)(n0:0≤k.next)(n1:k.next≤100000):
  Calls Tryz.prog 257 #[.agg #[.int .i64 (r:Int),.int .i64 (s:Int)],.pointer (some ⟨b,0,none⟩)] w (zaO w b bv ({ k with cells:=zaw k.cells (k.regs r).lo.toNat (k.regs r).hi.toNat (k.regs s) }.goTo (k.next+1))):=by
 have hlt:=h.lt;have r0:(0:Int)≤(r:Int):=by omega
 have r1:(r:Int)<8:=by omega
 have s0:(0:Int)≤(s:Int):=by omega
 have s1:(s:Int)<8:=by omega
 obtain⟨A,f⟩:∃ A,w.alloc (.cells #[.int .i64 (r:Int),.int .i64 (s:Int)] 178)=A:=⟨_,rfl⟩
 have d:∀ W,Below A.heap.size A W→KnM W b bv k:=fun W a=>by subst f;exact(h.alloc _).below a (by simp;omega)
 have q:∀ W,Below A.heap.size A W→Below w.heap.size w W:=fun W a=>by subst f;exact box1.trans (a.mono (by simp))
 have o:∀ W,Below A.heap.size A W→(W.cell? ⟨w.heap.size,0,none⟩=some (.int .i64 (r:Int))∧W.cell? ⟨w.heap.size,1,none⟩=some (.int .i64 (s:Int)))∧(W.cell? ⟨b,r*2,none⟩=some (.int .i64 (k.regs r).lo)∧W.cell? ⟨b,r*2+1,none⟩=some (.int .i64 (k.regs r).hi))∧(W.cell? ⟨b,s*2,none⟩=some (.int .i64 (k.regs s).lo)∧W.cell? ⟨b,s*2+1,none⟩=some (.int .i64 (k.regs s).hi)):=fun W a =>
  ⟨by subst f;exact⟨za0 a 0,za0 a 1⟩,(d W a).cR r hr,(d W a).cR s hs⟩
 go_enter Tryz.func257,Tryz.ntmps257;go_wp2;refine zad 15 (fun W=>Below A.heap.size A W) (Below.refl _ _).drew (by kernel_rfl) (by kernel_rfl) ?_;simp only [List.take_succ_cons,List.take_zero,List.drop_succ_cons,List.drop_zero];repeat(refine zab rfl ?_ (fun W a=>?_) ?_;rotate_left 1;· (obtain⟨⟨f0,f1⟩,⟨f2,f3⟩,f4,f5⟩:=o W a;go_simp;with_reducible rfl))
 refine wpQuiet_nil ?_;intro W a;have p:=d W a;have j:=q W a;go_wp2_with(first|(go_at_call 258;(with_reducible refine(zr4 p (k.regs r) (k.regs s) hle q0 q1).mono ?_);rintro e w5 ⟨rfl,i,l⟩)|(go_at_call 227;(with_reducible refine(zbW i h0 h1 n0 n1).mono ?_);intro e w6 c;have n:=zcN (zae (zaK j) l) c;clear c;obtain⟨g,rfl,u,t,v,m⟩:=n))
 go_ret;exact⟨g,rfl,u,t,v,m⟩
theorem zww(w:World)(ao bo:Option Addr)(n1 c1 n2 c2 pm:Nat)(sort line a b c n k:Int)(nm:ByteArray):
  Calls Tryz.prog 81 #[.agg #[.slice ao n1 c1,.map (some pm),.slice bo n2 c2],stm sort line ⟨#[115,101,116]⟩ a b c n nm,.int .i64 k] w fun e w'=>e=.returned (.iface 167 (.agg #[.int .i64 a,.int .i64 n]))∧Below w.heap.size w w':=by
 have hrb:∀ W,(Instr.build 167 #[(0,.int .i64 a),(1,.int .i64 n)]).run Tryz.prog W=.ok (.agg #[.int .i64 a,.int .i64 n]) W:=fun W=>run_build W 167 _ _ (by kernel_rfl);go_enter Tryz.func81,Tryz.ntmps81;go_wp2;go_ret;exact⟨rfl,(((Below.refl _ _).alloc (Nat.le_refl _) _).alloc (by simp) _).alloc (by simp;omega) _⟩
theorem zwx(w:World)(ao bo:Option Addr)(n1 c1 n2 c2 pm:Nat)(sort line a b c n k:Int)(nm:ByteArray):
  Calls Tryz.prog 81 #[.agg #[.slice ao n1 c1,.map (some pm),.slice bo n2 c2],stm sort line ⟨#[109,111,118]⟩ a b c n nm,.int .i64 k] w fun e w'=>e=.returned (.iface 169 (.agg #[.int .i64 a,.int .i64 b]))∧Below w.heap.size w w':=by
 have hrb:∀ W,(Instr.build 169 #[(0,.int .i64 a),(1,.int .i64 b)]).run Tryz.prog W=.ok (.agg #[.int .i64 a,.int .i64 b]) W:=fun W=>run_build W 169 _ _ (by kernel_rfl);go_enter Tryz.func81,Tryz.ntmps81;go_wp2;go_ret;exact⟨rfl,(((Below.refl _ _).alloc (Nat.le_refl _) _).alloc (by simp) _).alloc (by simp;omega) _⟩
theorem zwy(w:World)(ao bo:Option Addr)(n1 c1 n2 c2 pm:Nat)(sort line a b c n k:Int)(nm:ByteArray):
  Calls Tryz.prog 81 #[.agg #[.slice ao n1 c1,.map (some pm),.slice bo n2 c2],stm sort line ⟨#[97,100,100]⟩ a b c n nm,.int .i64 k] w fun e w'=>e=.returned (.iface 171 (.agg #[.int .i64 a,.int .i64 b,.int .i64 c]))∧Below w.heap.size w w':=by
 have hrb:∀ W,(Instr.build 171 #[(0,.int .i64 a),(1,.int .i64 b),(2,.int .i64 c)]).run Tryz.prog W=.ok (.agg #[.int .i64 a,.int .i64 b,.int .i64 c]) W:=fun W=>run_build W 171 _ _ (by kernel_rfl);go_enter Tryz.func81,Tryz.ntmps81;go_wp2;go_ret;exact⟨rfl,(((Below.refl _ _).alloc (Nat.le_refl _) _).alloc (by simp) _).alloc (by simp;omega) _⟩
theorem zwz(w:World)(ao bo:Option Addr)(n1 c1 n2 c2 pm:Nat)(sort line a b c n k:Int)(nm:ByteArray):
  Calls Tryz.prog 81 #[.agg #[.slice ao n1 c1,.map (some pm),.slice bo n2 c2],stm sort line ⟨#[115,117,98]⟩ a b c n nm,.int .i64 k] w fun e w'=>e=.returned (.iface 172 (.agg #[.int .i64 a,.int .i64 b,.int .i64 c]))∧Below w.heap.size w w':=by
 have hrb:∀ W,(Instr.build 172 #[(0,.int .i64 a),(1,.int .i64 b),(2,.int .i64 c)]).run Tryz.prog W=.ok (.agg #[.int .i64 a,.int .i64 b,.int .i64 c]) W:=fun W=>run_build W 172 _ _ (by kernel_rfl);go_enter Tryz.func81,Tryz.ntmps81;go_wp2;go_ret;exact⟨rfl,(((Below.refl _ _).alloc (Nat.le_refl _) _).alloc (by simp) _).alloc (by simp;omega) _⟩
theorem zw0(w:World)(ao bo:Option Addr)(n1 c1 n2 c2 pm:Nat)(sort line a b c n k:Int)(nm:ByteArray):
  Calls Tryz.prog 81 #[.agg #[.slice ao n1 c1,.map (some pm),.slice bo n2 c2],stm sort line ⟨#[109,117,108]⟩ a b c n nm,.int .i64 k] w fun e w'=>e=.returned (.iface 173 (.agg #[.int .i64 a,.int .i64 b,.int .i64 c]))∧Below w.heap.size w w':=by
 have hrb:∀ W,(Instr.build 173 #[(0,.int .i64 a),(1,.int .i64 b),(2,.int .i64 c)]).run Tryz.prog W=.ok (.agg #[.int .i64 a,.int .i64 b,.int .i64 c]) W:=fun W=>run_build W 173 _ _ (by kernel_rfl);go_enter Tryz.func81,Tryz.ntmps81;go_wp2;go_ret;exact⟨rfl,(((Below.refl _ _).alloc (Nat.le_refl _) _).alloc (by simp) _).alloc (by simp;omega) _⟩
theorem zw1(w:World)(ao bo:Option Addr)(n1 c1 n2 c2 pm:Nat)(sort line a b c n k:Int)(nm:ByteArray):
  Calls Tryz.prog 81 #[.agg #[.slice ao n1 c1,.map (some pm),.slice bo n2 c2],stm sort line ⟨#[105,110,99]⟩ a b c n nm,.int .i64 k] w fun e w'=>e=.returned (.iface 174 (.agg #[.int .i64 a,.int .i64 n]))∧Below w.heap.size w w':=by
 have hrb:∀ W,(Instr.build 174 #[(0,.int .i64 a),(1,.int .i64 n)]).run Tryz.prog W=.ok (.agg #[.int .i64 a,.int .i64 n]) W:=fun W=>run_build W 174 _ _ (by kernel_rfl);go_enter Tryz.func81,Tryz.ntmps81;go_wp2;go_ret;exact⟨rfl,(((Below.refl _ _).alloc (Nat.le_refl _) _).alloc (by simp) _).alloc (by simp;omega) _⟩
theorem ztz(w:World)(ao bo:Option Addr)(n1 c1 n2 c2 pm:Nat)(sort line a b c n k:Int)(nm:ByteArray):
  Calls Tryz.prog 81 #[.agg #[.slice ao n1 c1,.map (some pm),.slice bo n2 c2],stm sort line ⟨#[108,111,97,100]⟩ a b c n nm,.int .i64 k] w fun e w'=>e=.returned (.iface 176 (.agg #[.int .i64 a,.int .i64 b]))∧Below w.heap.size w w':=by
 have hrb:∀ W,(Instr.build 176 #[(0,.int .i64 a),(1,.int .i64 b)]).run Tryz.prog W=.ok (.agg #[.int .i64 a,.int .i64 b]) W:=fun W=>run_build W 176 _ _ (by kernel_rfl);go_enter Tryz.func81,Tryz.ntmps81;go_wp2;go_ret;exact⟨rfl,(((Below.refl _ _).alloc (Nat.le_refl _) _).alloc (by simp) _).alloc (by simp;omega) _⟩
theorem zqV(w:World)(ao bo:Option Addr)(n1 c1 n2 c2 pm:Nat)(sort line a b c n k:Int)(nm:ByteArray):
  Calls Tryz.prog 81 #[.agg #[.slice ao n1 c1,.map (some pm),.slice bo n2 c2],stm sort line ⟨#[115,116,111,114,101]⟩ a b c n nm,.int .i64 k] w fun e w'=>e=.returned (.iface 178 (.agg #[.int .i64 a,.int .i64 b]))∧Below w.heap.size w w':=by
 have hrb:∀ W,(Instr.build 178 #[(0,.int .i64 a),(1,.int .i64 b)]).run Tryz.prog W=.ok (.agg #[.int .i64 a,.int .i64 b]) W:=fun W=>run_build W 178 _ _ (by kernel_rfl);go_enter Tryz.func81,Tryz.ntmps81;go_wp2;go_ret;exact⟨rfl,(((Below.refl _ _).alloc (Nat.le_refl _) _).alloc (by simp) _).alloc (by simp;omega) _⟩
theorem zt0(w:World)(ao bo:Option Addr)(n1 c1 n2 c2 pm:Nat)(sort line a b c n k:Int)(nm:ByteArray):
  Calls Tryz.prog 81 #[.agg #[.slice ao n1 c1,.map (some pm),.slice bo n2 c2],stm sort line ⟨#[114,101,97,100]⟩ a b c n nm,.int .i64 k] w fun e w'=>e=.returned (.iface 180 (.agg #[.int .i64 a]))∧Below w.heap.size w w':=by
 have hrb:∀ W,(Instr.build 180 #[(0,.int .i64 a)]).run Tryz.prog W=.ok (.agg #[.int .i64 a]) W:=fun W=>run_build W 180 _ _ (by kernel_rfl);go_enter Tryz.func81,Tryz.ntmps81;go_wp2;go_ret;exact⟨rfl,(((Below.refl _ _).alloc (Nat.le_refl _) _).alloc (by simp) _).alloc (by simp;omega) _⟩
theorem zqW(w:World)(ao bo:Option Addr)(n1 c1 n2 c2 pm:Nat)(sort line a b c n k:Int)(nm:ByteArray):
  Calls Tryz.prog 81 #[.agg #[.slice ao n1 c1,.map (some pm),.slice bo n2 c2],stm sort line ⟨#[119,114,105,116,101]⟩ a b c n nm,.int .i64 k] w fun e w'=>e=.returned (.iface 182 (.agg #[.int .i64 a]))∧Below w.heap.size w w':=by
 have hrb:∀ W,(Instr.build 182 #[(0,.int .i64 a)]).run Tryz.prog W=.ok (.agg #[.int .i64 a]) W:=fun W=>run_build W 182 _ _ (by kernel_rfl);go_enter Tryz.func81,Tryz.ntmps81;go_wp2;go_ret;exact⟨rfl,(((Below.refl _ _).alloc (Nat.le_refl _) _).alloc (by simp) _).alloc (by simp;omega) _⟩
theorem zt1(w:World)(ao bo:Option Addr)(n1 c1 n2 c2 pm:Nat)(sort line a b c n k:Int)(nm:ByteArray):
  Calls Tryz.prog 81 #[.agg #[.slice ao n1 c1,.map (some pm),.slice bo n2 c2],stm sort line ⟨#[98,97,99,107]⟩ a b c n nm,.int .i64 k] w fun e w'=>e=.returned (.iface 192 (.agg #[]))∧Below w.heap.size w w':=by
 have hrb:∀ W,(Instr.build 192 #[]).run Tryz.prog W=.ok (.agg #[]) W:=fun W=>run_build W 192 _ _ (by kernel_rfl);go_enter Tryz.func81,Tryz.ntmps81;go_wp2;go_ret;exact⟨rfl,(((Below.refl _ _).alloc (Nat.le_refl _) _).alloc (by simp) _).alloc (by simp;omega) _⟩
theorem zt2(w:World)(ao bo:Option Addr)(n1 c1 n2 c2 pm:Nat)(sort line a b c n k:Int)(nm:ByteArray):
  Calls Tryz.prog 81 #[.agg #[.slice ao n1 c1,.map (some pm),.slice bo n2 c2],stm sort line ⟨#[115,116,111,112]⟩ a b c n nm,.int .i64 k] w fun e w'=>e=.returned (.iface 193 (.agg #[]))∧Below w.heap.size w w':=by
 have hrb:∀ W,(Instr.build 193 #[]).run Tryz.prog W=.ok (.agg #[]) W:=fun W=>run_build W 193 _ _ (by kernel_rfl);go_enter Tryz.func81,Tryz.ntmps81;go_wp2;go_ret;exact⟨rfl,(((Below.refl _ _).alloc (Nat.le_refl _) _).alloc (by simp) _).alloc (by simp;omega) _⟩
end
end Go.Proofs.YtfpgjkbjbbgciaaGreatDoor
