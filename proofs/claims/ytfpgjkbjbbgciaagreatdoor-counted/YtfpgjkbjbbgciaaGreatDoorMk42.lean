import Derived.Test.YtfpgjkbjbbgciaaGreatDoorMk31
import Derived.Test.YtfpgjkbjbbgciaaGreatDoorMk34
import Derived.Test.YtfpgjkbjbbgciaaGreatDoorMk38
import Derived.Test.YtfpgjkbjbbgciaaGreatDoorMk41
set_option maxRecDepth 100000
set_option maxHeartbeats 8000000
namespace Go.Proofs.YtfpgjkbjbbgciaaGreatDoor
open Go.RowKit Sp
theorem zyZ{w:World}{B g cap:Nat}{ms:List Mk}(M:w.ownsRow B 217 51 (.slice (some ⟨g,0,none⟩) ms.length cap) ms.length (zbi ms)){i:Nat}(hi:i<ms.length):KnR w g (i*51) (.slice (ms.getD i mk0).ao (ms.getD i mk0).k.behind.length (ms.getD i mk0).cap) (ms.getD i mk0).k:=by
 have e:ms[i]?=some (ms.getD i mk0):=by simp [List.getD,hi]
 refine ziQ fun j hj=>?_;have a:=zrq e j hj;have c:j<(ms.getD i mk0).cells.length:=by rw [show(ms.getD i mk0).cells.length=51 from zdo _ _];exact hj
 have b:(ms.getD i mk0).cells[j]?=some (ms.getD i mk0).cells[j]:=List.getElem?_eq_getElem c;rw [b] at a;have:=zdy M (51*i+j) _ a;rw [show i*51+j=51*i+j by omega,this];exact b.symm
theorem zue{w:World}{S o B:Nat}{mv:Value}{R:Rs}{x:Wy}(h:RsC w S o mv R)(fz:∀ j,w.frozen? ⟨S,j,none⟩=false)(s0:0≤R.steps)(s1:R.steps≤100000)(M:w.ownsRow B 217 51 mv R.marked.length (zbi R.marked))(mbh:∀ m∈R.marked,BhM w m.ao m.cap m.k.behind)(X:WyM w x)(hB:B≤w.heap.size)(hmS:mv.ownBlock≠some S)(hl:R.marked.length≤500000)(hn:R.seen≤500000):
  Calls Tryz.prog 152 #[.pointer (some ⟨S,o,none⟩),.pointer (some ⟨x.b,0,none⟩)] w (zcR w S o B mv (R.see ⟨x.ao,x.cap,x.k⟩)):=by
 obtain⟨ao,cap,rfl,_,_,_⟩:=zd7 M;cases hm:zbn R.steps with
 | true=>exact zwV h fz hm s0 s1 M X hB hmS hl hn
 | false =>
  cases hcv:R.covers with
  | false=>exact zrt h fz hm s0 s1 M hmS hl hn hcv
  | true =>
   by_cases a:R.seen<R.marked.length
   ·refine zrv h fz hm s0 s1 M hmS hl hn hcv a _ rfl (fun g hg W hW=>?_);subst hg;have c:R.marked.getD R.seen mk0∈R.marked:=by simp [List.getD,a]
    have f:W.ownsRow B 217 51 (.slice (some ⟨g,0,none⟩) R.marked.length cap) R.marked.length (zbi R.marked):=zbX M (fun q hq=>hW.block q (M.lt q hq).2);have d:=X.below hW;exact(zoo d.kn (zyZ f a) d.bh ((mbh _ c).below hW)).mono fun e w' hh=>⟨hh.1,hW.trans (hh.2.mono hW.size)⟩
   ·exact zru h fz hm s0 s1 M hmS hl hn hcv a
def Rs.kn(R:Rs):RsK:=⟨R.marked.map Mk.k,R.steps,R.seen,R.covers⟩
theorem zxV(R:Rs)(m:Mk):(R.see m).kn=R.kn.see m.k:=by
 unfold Rs.see Rs.kn RsK.see;simp only [RsK.mk.injEq,true_and];refine⟨?_,?_⟩
 ·split <;> simp
 ·have e:(R.marked.map Mk.k).getD R.seen kn0=(R.marked.getD R.seen mk0).k:=by
   simp only [List.getD,List.getElem?_map];cases R.marked[R.seen]? <;> rfl
  rw [e,List.length_map]
theorem zwW(R:Rs)(s:Int):(R.begin s).kn=R.kn.begin s:=by
 unfold Rs.begin Rs.kn RsK.begin;simp only [RsK.mk.injEq,and_true];split <;> simp
def Rs.endless(R:Rs)(m:Mk):Option Rs :=
 if m.k.steps=R.steps then some (R.see m) else if R.covers&&decide (R.seen=R.marked.length) then none else some ((R.begin m.k.steps).see m)
theorem zrw(R:Rs)(m:Mk):R.kn.endless m.k=(R.endless m).map Rs.kn:=by
 unfold Rs.endless RsK.endless;show(if m.k.steps=R.steps then _ else if R.covers&&decide (R.seen=(R.marked.map Mk.k).length) then _ else _)=_;rw [List.length_map];split
 ·rw [Option.map_some,zxV]
 ·split
  ·rfl
  ·rw [Option.map_some,zxV,zwW]
theorem zwX{w:World}{B e size n cap:Nat}{ao:Option Addr}{l:List Value}(h:w.ownsRow B e size (.slice ao n cap) n l):w.ownsRow B e size (.slice ao 0 cap) 0 []:=by
 refine⟨by simp,?_⟩;rcases h.2 with ⟨b,e2⟩|⟨g,c,a,b,i,j,h1,d,f,h4⟩
 ·cases b;exact .inl ⟨rfl,rfl⟩
 ·cases b;exact .inr ⟨g,cap,a,rfl,i,j,Nat.zero_le _,d,f,by simp⟩
theorem zon{w:World}{ao:Option Addr}{cap:Nat}:Calls Tryz.prog 169 #[.slice ao 0 cap,.int .i64 0] w fun e w'=>e=.returned (.int .i64 0)∧Below w.heap.size w w':=by
 go_enter Tryz.func169,Tryz.ntmps169;go_wp2
 go_loopw [5,6] (fun tl tb wr=>tl=.int .i64 0∧tb=.int .i64 1∧Below w.heap.size w wr) (fun _ _ _=>0)
 case atStart=>exact⟨rfl,rfl,Below.refl _ _⟩
 case round =>
  obtain⟨rfl,rfl,a⟩:=hrel;go_wp2;go_ret;exact⟨rfl,a⟩
theorem zrm{w:World}{ao:Option Addr}{cap:Nat}:Calls Tryz.prog 154 #[.slice ao 0 cap,.int .i64 0] w fun e w'=>e=.returned (.tuple #[])∧Below w.heap.size w w':=by
 go_enter Tryz.func154,Tryz.ntmps154;go_wp2
 go_loopw [1] (fun ti wr=>ti=.int .i64 0∧Below w.heap.size w wr) (fun _ _=>0)
 case atStart=>exact⟨rfl,Below.refl _ _⟩
 case round =>
  obtain⟨rfl,b⟩:=hrel;go_wp2_with(go_at_call 169;(with_reducible refine zon.mono ?_);rintro e wx ⟨rfl,a⟩)
  refine bodyPost_ret (results_none rfl _ _ _) rfl ⟨rfl,b.trans (a.mono b.size)⟩
theorem zwM{w:World}{H C cap n:Nat}{xs:List Wy}(h:HpM w H C xs)(hl:xs.length=n)(a:Nat)(ha:a<n)(hn:n≤100000)(hR:SinkI (stp xs) n a):Calls Tryz.prog 154 #[.slice (some ⟨H,0,none⟩) n cap,.int .i64 (a:Int)] w (zkO w H C xs):=by
 have u:∃ b:List Wy,b.Perm xs∧HpM w H C b∧SinkI (stp b) n a∧w.grownBy w (some H):=⟨xs,List.Perm.refl _,h,hR,⟨rfl,rfl,rfl,Nat.le_refl _,fun _ _ _=>rfl⟩⟩
 have A:Hid (xs.length=n):=hl;clear hl h hR;go_enter Tryz.func154,Tryz.ntmps154;go_wp2
 go_loopw [1] (fun ti wr=>∃ a:Nat,ti=.int .i64 (a:Int)∧a<n∧∃ b:List Wy,b.Perm xs∧HpM wr H C b∧SinkI (stp b) n a∧w.grownBy wr (some H)) (fun ti _=>n-(intOf ti).toNat)
 case atStart=>exact⟨a,rfl,ha,u⟩
 case round =>
  obtain⟨a,rfl,ha,b,t,i,hR,v⟩:=hrel;clear u;have hl:b.length=n:=t.length_eq.trans A.out;have j:=ztX (cap:=cap) i a (by omega) (by omega);rw [hl] at j;go_wp2_with(go_at_call 169;(with_reducible refine j.mono ?_);rintro e wx ⟨m,rfl,f,y,F,z,p,q⟩)
  ·have l:((m:Int) == (a:Int))=true:=by assumption
   have E:(m:Int)=(a:Int):=by simpa using l
   obtain rfl:m=a:=by omega
   rw [hl] at p q;exact bodyPost_ret (results_none rfl _ _ _) rfl ⟨rfl,b,t,i.below f,by rw [hl];exact hR.done p q,zae v (zaK f)⟩
  ·have l:((m:Int) == (a:Int))=false:=by assumption
   have E:¬(m:Int)=(a:Int):=by simpa using l
   have o:¬a=m:=by omega
   have c:a<b.length:=by omega
   have d:m<b.length:=y;have B:=((i.below f).at' c).1;have D:=((i.below f).at' d).1;have z1:=(i.below f).fz a;have z2:=(i.below f).fz m;have g:=(i.below f).swap c d o;rw [hl] at p q;have r:SinkI (stp (zdZ wy0 b a m)) n m:=by
    have e:stp (zdZ wy0 b a m)=zoj (stp b) a m:=ztS c d o (fun x=>keyK x.k);rw [e];exact hR.step (by omega) (by omega) z p q
   have a0:(0:Int)≤(a:Int):=by omega
   have a1:(a:Int)<(n:Int):=by omega
   have q0:(0:Int)≤(m:Int):=by omega
   have q1:(m:Int)<(n:Int):=by omega
   have hmm:a<m:=by omega
   have s:m<n:=by omega
   generalize b.getD a wy0=xa at B g;generalize b.getD m wy0=xm at D g;clear y F z p q j
   go_region
   all_goals go_wp2
   all_goals exact⟨⟨m,rfl,s,zdZ wy0 b a m,(zgC c d).trans t,g.drew,r,zd9 (zae v (zae (zah f) (zah (Below.refl _ _))))⟩,by simp [intOf];omega⟩
def zza(w:World)(B S g:Nat)(C:List (Ins × Int))(v mv:Value)(xs hs:List Wy):Option Rs→Ending→World→Prop
 | none=>fun e w'=>e=.returned (.bool true)∧Below w.heap.size w w'
 | some R=>fun e w'=>e=.returned (.bool false)∧∃ mv',RsC w' S 2 mv' R∧SO w' B S g C v mv' xs hs R.marked∧Kept4 w w' S 2 mv.ownBlock
theorem zm5(R:Rs)(s:Int):∀ m∈(R.begin s).marked,m∈R.marked:=by
 intro m a;have h:m∈(if zbn s then [] else R.marked):=a;split at h
 ·cases h
 ·exact h
theorem begin_len(R:Rs)(s:Int):(R.begin s).marked.length=begN s R.marked.length:=by
 show(if zbn s then [] else R.marked).length=if zbn s then 0 else R.marked.length
 split <;> rfl
theorem zzb(R:Rs)(m:Mk):∀ q∈(R.see m).marked,q∈R.marked∨q=m:=by
 intro q a;have h:q∈(if zbn R.steps then R.marked++[m] else R.marked):=a;split at h
 ·rcases List.mem_append.1 h with e|e
  ·exact .inl e
  ·exact .inr (List.mem_singleton.1 e)
 ·exact .inl h
theorem zm6{w w':World}{S o:Nat}{hb:Option Nat}(h:Kept4 w w' S o hb)(fz:∀ j,w.frozen? ⟨S,j,none⟩=false):∀ j,w'.frozen? ⟨S,j,none⟩=false:=fun j=>(h.fz j).trans (fz j)
theorem zxW{w w0:World}{B S g:Nat}{C:List (Ins × Int)}{v mv:Value}{x:Wy}{xs hs:List Wy}{R:Rs}(O:SO w B S g C v mv xs (x :: hs) R.marked){hb:Option Nat}(h0:Kept4 w0 w S 2 hb)(hbb:∀ q,mv.ownBlock=some q→hb=some q∨w0.heap.size≤q){e:Ending}{w':World}(h:zcR w S 2 B mv (R.see ⟨x.ao,x.cap,x.k⟩) e w'):
  e=.returned (.tuple #[])∧∃ mv',RsC w' S 2 mv' (R.see ⟨x.ao,x.cap,x.k⟩)∧SO w' B S g C v mv' xs (x :: hs) (R.see ⟨x.ao,x.cap,x.k⟩).marked∧Kept4 w0 w' S 2 hb:=by
 obtain⟨rfl,mv',l,n,o,f⟩:=h;refine⟨rfl,mv',l,O.remark f n o (fun m hm=>?_),⟨f.os.trans h0.os,f.tape.trans h0.tape,f.output.trans h0.output,Nat.le_trans h0.size f.size,fun q hq h5 h6=>?_,fun j a b c d=>(f.cell j a b c d).trans (h0.cell j a b c d),fun j=>(f.fz j).trans (h0.fz j)⟩⟩
 ·rcases zzb R _ m hm with e|e
  ·exact .inl e
  ·subst e;exact .inr ⟨x,by simp,rfl,rfl,rfl⟩
 ·refine(f.block q (Nat.lt_of_lt_of_le hq h0.size) h5 (fun e=>?_)).trans (h0.block q hq h5 h6);rcases hbb q e.symm with i|i
  ·exact h6 i.symm
  ·omega
theorem zhk{w:World}{B S g:Nat}{C:List (Ins × Int)}{v mv:Value}{x:Wy}{xs hs:List Wy}{R:Rs}(h:RsC w S 2 mv R)(fz:∀ j,w.frozen? ⟨S,j,none⟩=false)(O:SO w B S g C v mv xs (x :: hs) R.marked)(s0:0≤R.steps)(s1:R.steps≤100000)(k0:0≤x.k.steps)(k1:x.k.steps≤100000)(hl:R.marked.length≤500000)(hn:R.seen≤500000):
  Calls Tryz.prog 135 #[.pointer (some ⟨S,2,none⟩),.pointer (some ⟨x.b,0,none⟩)] w (zza w B S g C v mv xs (x :: hs) (R.endless ⟨x.ao,x.cap,x.k⟩)):=by
 obtain⟨ao,cap,rfl,y,z,u⟩:=zd7 O.mkr;have X:=O.hand x List.mem_cons_self;have H:B≤w.heap.size:=by have:=O.SB;have:=O.SL;omega
 have hrefl:Kept4 w w S 2 (Value.slice ao R.marked.length cap).ownBlock:=zc7 O.SL (Below.refl _ _);by_cases l:x.k.steps=R.steps
 ·have E:R.endless ⟨x.ao,x.cap,x.k⟩=some (R.see ⟨x.ao,x.cap,x.k⟩):=if_pos l;rw [E];refine zuf h X.kn l _ (fun W hW=>?_);have i:=O.below hW;have I:=O.SL;have n:∀ j,W.frozen? ⟨S,j,none⟩=false:=fun j=>(World.frozen?_of_block (a:=⟨S,j,none⟩) (hW.block S I)).trans (fz j);refine(zue (h.below hW) n s0 s1 i.mkr i.mbh (i.hand x List.mem_cons_self) (Nat.le_trans H hW.size) i.mS hl hn).mono fun e d hh=>?_;exact zxW i (zc7 O.SL hW) (fun q f=>.inl f) hh
 ·by_cases o:R.covers=true∧R.seen=R.marked.length
  ·have E:R.endless ⟨x.ao,x.cap,x.k⟩=none:=by
    unfold Rs.endless;rw [if_neg l,o.1,o.2];simp
   rw [E];exact zwY h X.kn l o.1 o.2 hl
  ·have E:R.endless ⟨x.ao,x.cap,x.k⟩=some ((R.begin x.k.steps).see ⟨x.ao,x.cap,x.k⟩):=by
    unfold Rs.endless;rw [if_neg l,if_neg];simpa using o
   rw [E];have F:∀ W,Below w.heap.size w W→Calls Tryz.prog 151 #[.pointer (some ⟨S,2,none⟩),.int .i64 x.k.steps] W fun e d=>e=.returned (.tuple #[])∧RsC d S 2 (.slice ao (R.begin x.k.steps).marked.length cap) (R.begin x.k.steps)∧SO d B S g C v (.slice ao (R.begin x.k.steps).marked.length cap) xs (x :: hs) (R.begin x.k.steps).marked∧Kept4 w d S 2 (Value.slice ao R.marked.length cap).ownBlock:=fun W hW=>by
    have i:=O.below hW;have n:∀ j,W.frozen? ⟨S,j,none⟩=false:=fun j=>(World.frozen?_of_block (a:=⟨S,j,none⟩) (hW.block S O.SL)).trans (fz j);refine(zrr (h.below hW) n y z u x.k.steps k0 k1).mono ?_;rintro e d ⟨rfl,t,c⟩;rw [←begin_len] at t;have r:Kept4 W d S 2 (Value.slice ao R.marked.length cap).ownBlock:=⟨c.os,c.tape,c.output,c.size,fun q f h1 _=>c.block q f h1 (by simp),c.cell,c.fz⟩
    refine⟨rfl,t,i.remark (mv':=.slice ao (R.begin x.k.steps).marked.length cap) r ?_ ?_ (fun m s=>.inl (zm5 R _ m s)),(zc7 O.SL hW).trans r⟩
    ·have D:d.ownsRow B 217 51 (.slice ao R.marked.length cap) R.marked.length (zbi R.marked):=zbX i.mkr (fun q f=>c.block q (i.mkr.lt q f).2 (fun e=>i.mS (by rw [f,e])) (by simp));by_cases s:zbn x.k.steps=true
     ·have G:(R.begin x.k.steps).marked=[]:=if_pos s;rw [G];exact zwX D
     ·have G:(R.begin x.k.steps).marked=R.marked:=if_neg s;rw [G];exact D
    ·intro q f;left;cases ao with
     | none=>cases f
     | some a=>exact f
   have p:∀ W,(RsC W S 2 (.slice ao (R.begin x.k.steps).marked.length cap) (R.begin x.k.steps)∧SO W B S g C v (.slice ao (R.begin x.k.steps).marked.length cap) xs (x :: hs) (R.begin x.k.steps).marked∧Kept4 w W S 2 (Value.slice ao R.marked.length cap).ownBlock)→Calls Tryz.prog 152 #[.pointer (some ⟨S,2,none⟩),.pointer (some ⟨x.b,0,none⟩)] W fun e d=>e=.returned (.tuple #[])∧∃ mv',RsC d S 2 mv' ((R.begin x.k.steps).see ⟨x.ao,x.cap,x.k⟩)∧SO d B S g C v mv' xs (x :: hs) ((R.begin x.k.steps).see ⟨x.ao,x.cap,x.k⟩).marked∧Kept4 w d S 2 (Value.slice ao R.marked.length cap).ownBlock:=fun W ⟨t,c,r3⟩=>by
    have A:(R.begin x.k.steps).marked.length≤500000:=by
     rw [begin_len];unfold begN;split <;> omega
    refine(zue t (zm6 r3 fz) k0 k1 c.mkr c.mbh (c.hand x List.mem_cons_self) (by have:=c.SB;have:=c.SL;omega) c.mS A (Nat.zero_le _)).mono fun e d hh=>?_;refine zxW c r3 (fun q f=>.inl ?_) hh;cases ao with
    | none=>cases f
    | some a=>exact f
   cases hcv:R.covers with
   | false=>exact zuh h X.kn l hcv _ _ F p
   | true=>exact zug h X.kn l hcv (fun e=>o ⟨hcv,e⟩) hl hn _ _ F p
end Go.Proofs.YtfpgjkbjbbgciaaGreatDoor
