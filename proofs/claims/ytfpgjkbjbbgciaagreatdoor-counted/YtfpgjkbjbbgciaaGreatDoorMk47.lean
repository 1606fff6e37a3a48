import Derived.Test.YtfpgjkbjbbgciaaGreatDoorMk46
set_option maxRecDepth 100000
set_option maxHeartbeats 8000000
namespace Go.Proofs.YtfpgjkbjbbgciaaGreatDoor
section
open Go.RowKit Sp
abbrev RnW(w:World)(s:ByteArray)(iv:Value):World:=((w.alloc (.cells #[.string s] 9)).alloc (.cells #[iv] 29)).alloc Z34
theorem zpK(w:World)(s:ByteArray)(iv:Value):(RnW w s iv).heap.size=w.heap.size+1+1+1:=by simp
theorem zjj(w:World)(s:ByteArray)(iv:Value):Below w.heap.size w (RnW w s iv):=(((Below.refl _ _).alloc (Nat.le_refl _) _).alloc (by simp) _).alloc (by simp;omega) _
theorem zuC(w:World)(s:ByteArray)(iv:Value):RnIn (RnW w s iv) w.heap.size (w.heap.size+1) (w.heap.size+1+1) s iv:=by
 have b:Below (w.alloc (.cells #[.string s] 9)).heap.size (w.alloc (.cells #[.string s] 9)) (RnW w s iv):=((Below.refl _ _).alloc (Nat.le_refl _) _).alloc (by simp) _;have c:Below ((w.alloc (.cells #[.string s] 9)).alloc (.cells #[iv] 29)).heap.size ((w.alloc (.cells #[.string s] 9)).alloc (.cells #[iv] 29)) (RnW w s iv):=(Below.refl _ _).alloc (Nat.le_refl _) _;have d:=World.cell?_alloc_new (w:=w) #[.string s] 9 0;have a:=World.cell?_alloc_new (w:=w.alloc (.cells #[.string s] 9)) #[iv] 29 0;rw [show(w.alloc (.cells #[.string s] 9)).heap.size=w.heap.size+1 by simp] at a;refine⟨za5 b d,za5 c a,?_,by omega⟩;have:=zfM ((w.alloc (.cells #[.string s] 9)).alloc (.cells #[iv] 29));rwa [show((w.alloc (.cells #[.string s] 9)).alloc (.cells #[iv] 29)).heap.size=w.heap.size+1+1 by simp] at this
theorem zxr(w:World)(s:ByteArray)(iv:Value):(RnW w s iv).rangeAt (w.heap.size+1+1) 0 (zaH zeZ (.slice none 0 0) 0):=by
 rw [zA8];have:=zix ((w.alloc (.cells #[.string s] 9)).alloc (.cells #[iv] 29)) [.int .i64 0,.int .i64 0,.int .i64 0,.int .i64 0,.int .i64 0,.int .i64 0,.int .i64 0,.int .i64 0,.int .i64 0,.int .i64 0,.int .i64 0,.int .i64 0,.int .i64 0,.int .i64 0,.int .i64 0,.int .i64 0,.int .i64 0,.int .i64 0,.int .i64 0,.int .i64 0,.int .i64 0,.int .i64 0,.int .i64 0,.int .i64 0,.int .i64 0,.slice none 0 0,.int .i64 0,.int .i64 0,.int .i64 0,.int .i64 0] 34;rwa [show((w.alloc (.cells #[.string s] 9)).alloc (.cells #[iv] 29)).heap.size=w.heap.size+1+1 by simp] at this
theorem RnIn.below{w w':World}{pt pi pr:Nat}{s:ByteArray}{iv:Value}(T:RnIn w pt pi pr s iv)(hb:Below w.heap.size w w'):RnIn w' pt pi pr s iv:=by
 obtain⟨c,d,a,e⟩:=T;refine⟨za5 hb c,za5 hb d,za9 a hb ?_,e⟩;obtain⟨u,b⟩:=Option.isSome_iff_exists.1 (a 0 (by omega)).1;exact World.block_lt_of_cell? w _ b
theorem zgg(w:World)(s:ByteArray)(ao:Option Addr)(m icap:Nat)(er ln:Int)
  (hcall:Calls Tryz.prog 57 (zpJ w.heap.size (w.heap.size+1) (w.heap.size+1+1)) (OutW (RnW w s (.slice ao m icap))) fun e w'=>e=zak er ln∧Below (OutW (RnW w s (.slice ao m icap))).heap.size (OutW (RnW w s (.slice ao m icap))) w') :
  Calls Tryz.prog 25 #[.string s,.slice ao m icap] w (zdk w ⟨zeZ,0,er,ln⟩):=by
 have hmf:∀(fn:Go.Fn) (first cap:Array Value) (w:World),(Instr.makeFunc fn first cap).run Tryz.prog w=.ok (.func fn first cap) w:=fun _ _ _ _=>rfl;have a:=zel 57 _ (RnW w s (.slice ao m icap)) er ln (fun W=>by kernel_rfl) hcall;have p:=zxr w s (.slice ao m icap);have hsz:=zpK w s (.slice ao m icap);have d:=zjj w s (.slice ao m icap);have j:=(zuC w s (.slice ao m icap)).state;go_enter Tryz.func25,Tryz.ntmps25;go_wp2_with(first|(go_at_call 42;refine a.mono ?_;rintro e q ⟨rfl,b⟩;refine Hid.out ?_))
 unfold Hid;have n:=zoa p b (by rw [hsz];omega);have f:=za9 j b (by rw [hsz];omega);have c:Below w.heap.size w q:=d.trans (b.mono d.size);have l:=zbF zeZ (.slice none 0 0) 0;have k:=zcs zeZ none 0 0 0;generalize h:zaH zeZ (.slice none 0 0) 0=ds at n l k;have r:=zcv ds l;have i:(Tryz.prog.info? 34).map (·.size)=some ds.length:=by rw [l];exact Tryz.info34
 have g:Tryz.prog.underlying 34=some (.struct _):=Tryz.underlying34;have o:q.there (w.heap.size+1+1) 0 ds.toArray.size:=by rw [show ds.toArray.size=30 by simp [l]];exact f
 clear p a;repeat(first
  | (refine wpList_load_mid rfl 34 _ rfl (w.heap.size+1+1) 0 rfl ds _ n g rfl i ?_)
  | (refine wpList_store_mid rfl 34 _ _ rfl (w.heap.size+1+1) 0 ds.toArray rfl rfl o r k ?_)
  | go_values|go_skip|go_guarded|go_step|go_upon|go_back)
 exact zmk (T:=⟨zeZ,0,er,ln⟩) (w.heap.size+1+1) (by omega) Tryz.results25 ds h o c (World.ownsRow_nil _ _ _ _) (by simp [Value.ownBlock]) rfl rfl rfl rfl
theorem zxs(w:World)(s:ByteArray)(ao:Option Addr)(m icap:Nat)(FIN:Mc)
  (hcall:Calls Tryz.prog 57 (zpJ w.heap.size (w.heap.size+1) (w.heap.size+1+1)) (OutW (RnW w s (.slice ao m icap))) fun e w'=>e=.returned (.tuple #[])∧ztA (OutW (RnW w s (.slice ao m icap))) (w.heap.size+1+1) FIN FIN.line w') :
  Calls Tryz.prog 25 #[.string s,.slice ao m icap] w (zdk w ⟨FIN,FIN.line,0,0⟩):=by
 have hmf:∀(fn:Go.Fn) (first cap:Array Value) (w:World),(Instr.makeFunc fn first cap).run Tryz.prog w=.ok (.func fn first cap) w:=fun _ _ _ _=>rfl;have hsz:=zpK w s (.slice ao m icap);have k:=zhN 57 _ (RnW w s (.slice ao m icap)) _ (fun W=>by kernel_rfl) hcall (fun N h=>zqY (by rw [hsz];omega) h);have x:=zjj w s (.slice ao m icap);have H:=(zuC w s (.slice ao m icap)).state;have v:=zeJ (RnW w s (.slice ao m icap));have hso:(OutW (RnW w s (.slice ao m icap))).heap.size=w.heap.size+1+1+1+1+1:=by simp
 go_enter Tryz.func25,Tryz.ntmps25;go_wp2_with(first|(go_at_call 42;refine k.mono ?_;rintro e E ⟨rfl,N,l,d⟩;have r:Hid _:=d;clear d;refine Hid.out ?_))
 have d:=r.out;clear r;unfold Hid;obtain⟨C,B,A,t,rfl,n,g⟩:=l;have J:=zbF FIN (.slice B A t) FIN.line;have I:=zcs FIN B A t FIN.line;generalize F:zaH FIN (.slice B A t) FIN.line=ds at d J I;have j:=za9 (za9 H v (by rw [hsz];omega)) n (by rw [hso];omega);have o:=World.rangeAt_setCells_same C (w.heap.size+1+1) 0 ds (by rw [J];exact j);have c:=World.there_setCells j (w.heap.size+1+1) 0 ds;have f:Below w.heap.size w (C.setCells (w.heap.size+1+1) 0 ds):=za8 ds 0 (x.trans ((v.mono x.size).trans (n.mono (by rw [hso];omega)))) (by omega);have a:(C.setCells (w.heap.size+1+1) 0 ds).ownsRow (OutW (RnW w s (.slice ao m icap))).heap.size 2 1 (.slice B A t) FIN.out.length (i64s FIN.out):=zaj g (fun q l=>zbG ds C _ _ _ (by have:=(g.lt q l).1;omega));generalize C.setCells (w.heap.size+1+1) 0 ds=X at d o c f a;have D:∀ b,¬b=(RnW w s (.slice ao m icap)).heap.size→¬b=(RnW w s (.slice ao m icap)).heap.size+1→E.heap[b]?=X.heap[b]?:=fun b n0 n1=>by
  rw [d,Below.heap_setCell _ _ _ _ (by exact n1),Below.heap_setCell _ _ _ _ (by exact n0)]
 have M:=zob o (D _ (by omega) (by omega));have y:=zoc c (D _ (by omega) (by omega));have u:Below w.heap.size w E:=by
  rw [d];exact(f.setCell (p:=⟨(RnW w s (.slice ao m icap)).heap.size,0,none⟩) (by show w.heap.size≤(RnW w s (.slice ao m icap)).heap.size;omega) _).setCell (p:=⟨(RnW w s (.slice ao m icap)).heap.size+1,0,none⟩) (by show w.heap.size≤(RnW w s (.slice ao m icap)).heap.size+1;omega) _
 have i:E.ownsRow (OutW (RnW w s (.slice ao m icap))).heap.size 2 1 (.slice B A t) FIN.out.length (i64s FIN.out):=zaj a (fun q l=>D q (by have:=(a.lt q l).1;omega) (by have:=(a.lt q l).1;omega));have L:=zcv ds J;have G:(Tryz.prog.info? 34).map (·.size)=some ds.length:=by rw [J];exact Tryz.info34
 have z:Tryz.prog.underlying 34=some (.struct _):=Tryz.underlying34;have K:E.there (w.heap.size+1+1) 0 ds.toArray.size:=by rw [show ds.toArray.size=30 by simp [J]];exact y
 clear k d D o c a f g n j;repeat(first
  | (refine wpList_load_mid rfl 34 _ rfl (w.heap.size+1+1) 0 rfl ds _ M z rfl G ?_)
  | (refine wpList_store_mid rfl 34 _ _ rfl (w.heap.size+1+1) 0 ds.toArray rfl rfl K L I ?_)
  | go_values|go_skip|go_guarded|go_step|go_upon|go_back)
 exact zmk (T:=⟨FIN,FIN.line,0,0⟩) (w.heap.size+1+1) (by omega) Tryz.results25 ds F K u (zbR i (by omega)) (fun q l=>by have:=(i.lt q l).1;omega) rfl rfl rfl rfl
def RunS(s:ByteArray)(inp:List Int)(T:Told):Prop:=(¬zcm s=(0,0)∧T=⟨zeZ,0,(zcm s).1,(zcm s).2⟩)∨(zcm s=(0,0)∧VerdL ((lines s).map say) none∧T=⟨zeZ,0,8,0⟩)∨(zcm s=(0,0)∧∃ bs bf,VerdL ((lines s).map say) (some (bs,bf))∧T=⟨ranL ((lines s).map say) inp bs,(ranL ((lines s).map say) inp bs).line,0,0⟩)
theorem zmK(s:ByteArray)(w:World)(hw:LibW w)(hs:s.size≤9223372036854775807)(ao:Option Addr)(icap:Nat)(inp:List Int)(hiv:SlB w w.heap.size (.slice ao inp.length icap) inp)(hin:inp.length≤9223372036854775807):Calls Tryz.prog 25 #[.string s,.slice ao inp.length icap] w fun e w'=>∃ T,RunS s inp T∧zdk w T e w':=by
 have g:=zjj w s (.slice ao inp.length icap);have f:=zeJ (RnW w s (.slice ao inp.length icap));have d:Below w.heap.size w (OutW (RnW w s (.slice ao inp.length icap))):=g.trans (f.mono g.size);have i:=hw.below d;have o:=(zuC w s (.slice ao inp.length icap)).below f;by_cases c:zcm s=(0,0)
 ·have l:=zuB _ i _ _ _ s ao icap inp o _ (zp2 s c) (hiv.mono d) hin;by_cases k:VerdL ((lines s).map say) none
  ·refine(zgg w s ao inp.length icap 8 0 (l.mono ?_)).mono fun e w' h=>⟨_,.inr (.inl ⟨c,k,rfl⟩),h⟩
   rintro e w' (⟨rfl,_,hb⟩|⟨m,n,_,a,_⟩)
   ·exact⟨rfl,hb⟩
   ·have:=k.unique a;cases this
  ·by_cases j:∃ b,VerdL ((lines s).map say) (some b)
   ·obtain⟨⟨m,n⟩,j⟩:=j;refine(zxs w s ao inp.length icap (ranL ((lines s).map say) inp m) (l.mono ?_)).mono fun e w' h=>⟨_,.inr (.inr ⟨c,m,n,j,rfl⟩),h⟩
    rintro e w' (⟨_,a,_⟩|⟨bs2,bf2,rfl,a,hp⟩)
    ·exact absurd a k
    ·have:=j.unique a;cases this;exact⟨rfl,hp⟩
   ·exfalso;obtain⟨F,R⟩:=zed s c;obtain⟨v,a⟩:=zjg R;cases v with
    | none=>exact k a
    | some b=>exact j ⟨b,a⟩
 ·have l:=zxq _ i _ _ _ s _ o (zcm s) c (ziy s hs);exact(zgg w s ao inp.length icap _ _ l).mono fun e w' h=>⟨_,.inl ⟨c,rfl⟩,h⟩
theorem VerdL.ends{L:List Said}{bs bf:Int}(h:VerdL L (some (bs,bf)))(inp:List Int)(hin:∀ x∈inp,i64 x)(N:Nat)(hN:bs≤(N:Int)):
  ((runS (zl1 L) N (zhY L inp)).fin=1∨(runS (zl1 L) N (zhY L inp)).fin=2)∧(runS (zl1 L) N (zhY L inp)).steps≤bs∧(runS (zl1 L) N (zhY L inp)).peak≤bf:=by
 obtain⟨F,R,a⟩:=h;have e:=(znS R.sim R.codeOk N (zda R.codeOk inp)).1;rw [←R.begin inp] at e;rw [e];exact a.ends R.sure inp hin N hN
theorem VerdL.bound{L:List Said}{bs bf:Int}(h:VerdL L (some (bs,bf))):1≤bs∧bs≤100000∧1≤bf∧bf≤16:=by
 obtain⟨F,R,a⟩:=h;exact a.bound R.sure
theorem zu9(m:Mc)(ov:Value)(line:Int):(zaH m ov line)[27]?=some (.int .i64 m.peak):=by simp [zaH]
theorem zkl(m:Mc)(ov:Value)(line:Int):(zaH m ov line)[29]?=some (.int .i64 m.fin):=by simp [zaH]
theorem RunS.inn{s:ByteArray}{inp:List Int}{T:Told}{bs bf:Int}(h:RunS s inp T)(hR:zcm s=(0,0))(hv:VerdL ((lines s).map say) (some (bs,bf))):T=⟨ranL ((lines s).map say) inp bs,(ranL ((lines s).map say) inp bs).line,0,0⟩:=by
 rcases h with ⟨n,rfl⟩|⟨r,v,rfl⟩|⟨r,bs',bf',v,rfl⟩
 ·exact absurd hR n
 ·have:=v.unique hv;cases this
 ·have:=v.unique hv;cases this;rfl
theorem zrQ{s:ByteArray}{bs bf er ln:Int}(h:VerS s bs bf er ln)(w:World)(hw:LibW w)(hs:s.size≤9223372036854775807):Calls Tryz.prog 26 #[.string s] w (zpI w bs bf er ln):=by
 refine(zoA s w hw hs).mono ?_;rintro e w' ⟨a,b,c,d,f,g⟩;obtain⟨rfl,rfl,rfl,rfl⟩:=h.unique f;exact g
end
section
open Sp
variable {C:List (Ins × Int)} {k k':Kn} {l:List Kn}
theorem zsu{i:Ins}{m:Mc}(h:m.fin=0)(hf:(za2 i m).fin=1∨(za2 i m).fin=2):i=.stop∨(i=.back∧m.frames=1):=by
 have e:(za2 i m).fin=(exec i (m.at'+1) m).fin:=by unfold za2;split <;> rfl
 rw [e] at hf;clear e;cases i with
 | set r n=>exact absurd (show m.fin=1∨m.fin=2 from hf) (by omega)
 | mov r s=>exact absurd (show m.fin=1∨m.fin=2 from hf) (by omega)
 | alu o r s t=>exact absurd (show m.fin=1∨m.fin=2 from hf) (by omega)
 | inc r n=>exact absurd (show m.fin=1∨m.fin=2 from hf) (by omega)
 | load r s =>
  unfold exec at hf;by_cases a:m.regs s<0∨15<m.regs s
  ·simp only [if_pos a] at hf;omega
  ·simp only [if_neg a] at hf;exact absurd (show m.fin=1∨m.fin=2 from hf) (by omega)
 | store r s =>
  unfold exec at hf;by_cases a:m.regs r<0∨15<m.regs r
  ·simp only [if_pos a] at hf;omega
  ·simp only [if_neg a] at hf;exact absurd (show m.fin=1∨m.fin=2 from hf) (by omega)
 | read r=>exact absurd (show m.fin=1∨m.fin=2 from hf) (by omega)
 | write r=>exact absurd (show m.fin=1∨m.fin=2 from hf) (by omega)
 | jump to=>exact absurd (show m.fin=1∨m.fin=2 from hf) (by omega)
 | less r s to=>exact absurd (show m.fin=1∨m.fin=2 from hf) (by omega)
 | same r s to=>exact absurd (show m.fin=1∨m.fin=2 from hf) (by omega)
 | call to =>
  unfold exec at hf;by_cases a:m.frames=16
  ·simp only [if_pos a] at hf;omega
  ·simp only [if_neg a] at hf;exact absurd (show m.fin=1∨m.fin=2 from hf) (by omega)
 | back =>
  unfold exec at hf;by_cases a:m.frames=1
  ·exact .inr ⟨rfl,a⟩
  ·simp only [if_neg a] at hf;exact absurd (show m.fin=1∨m.fin=2 from hf) (by omega)
 | stop=>exact .inl rfl
theorem zAz(S:CodeSure C){inp:List Int}(ht:Tr C k l k'):∀(n:Nat) (m:Mc),RunAtC C inp n m→m.fin=0→Cov k m→KnOk k→∃ n' m',RunAtC C inp n' m'∧m'.fin=0∧Cov k' m':=by
 induction ht with
 | nil k=>intro n m R c h _;exact⟨n,m,R,c,h⟩
 | @cons k k1 k' l f _ ih =>
  intro n m R c h K;obtain⟨p,a,v,d⟩:=f;have g:m.at'=(p:Int):=h.next.trans v;have j:=R.inv.frames;rw [if_neg (by omega)] at j;have f:zce C m=za2 C[p].1 m:=zeH g a;have A:=ziE h K R.m64 (S.ok.ok p a) (S.n64 p a) c j d;have F:=zfx C[p].1 m c;have w:=zcx K (S.ok.ok p a) (S.n64 p a) d k1 (List.mem_singleton.2 rfl);have o:(za2 C[p].1 m).fin=0∧Cov k1 (za2 C[p].1 m):=by
   rcases A with ⟨q,x,y,i⟩|q
   ·rw [List.mem_singleton.1 y] at i;exact⟨q,i⟩
   ·exfalso;rcases zsu c q with e|⟨e,e2⟩
    ·rw [e] at d;simp [zam] at d
    ·rw [e] at d;have u:k.behind=[]:=by
      rw [←h.behind];exact List.length_eq_zero_iff.1 (by omega)
     have e3:zam .back k=(match k.behind with|[]=>some []|b :: r=>some [{ k with behind:=(b :: r).dropLast }.goTo ((b :: r).getLastD 0)]):=rfl;rw [e3,u] at d;simp at d
  have s:(za2 C[p].1 m).steps=m.steps+1:=by
   rcases F.1 with ⟨_,s⟩|⟨q,_⟩
   ·exact s
   ·have:=o.1;omega
  have t:RunAtC C inp (n+1) (za2 C[p].1 m):=by
   refine⟨?_,R.inv.step c g (S.ok.leads p a),zoh R.m64 (S.ok.ok p a) (S.n64 p a),by rw [s,R.steps];rfl⟩;rw [ziH _ _ _ (by rw [←R.run];exact c),←R.run,f]
  exact ih (n+1) _ t o.1 o.2 w.2
theorem zz8(S:CodeSure C){e wt fr:Nat}{Gf:Nat→Bool}(F:FnSem C 0 e wt Gf fr)(hF:fr≤16)(inp:List Int)(hin:∀ x∈inp,i64 x):∃ n m,RunAtC C inp n m∧m.fin=2∧m.frames=0:=by
 obtain⟨l,kb,t,R,_⟩:=F.body kn0 rfl ⟨zqc,fun r hr=>(by cases hr),fun c j=>(by cases j)⟩ (by show 0+fr≤16;omega);have u:RunAtC C inp 0 (zaY inp):=⟨rfl,zda S.ok inp,⟨fun _ _=>by show i64 0;unfold i64;omega,fun _ _=>by show i64 0;unfold i64;omega,hin⟩,rfl⟩
 obtain⟨n,m,d,s,j⟩:=zAz S t 0 (zaY inp) u rfl ⟨fun _ _=>zew 0,fun _ _=>zew 0,rfl,rfl,rfl⟩ zqc;obtain⟨k,v⟩:=F.back;have g:m.at'=(e:Int):=j.next.trans R.next;have p:=d.inv.frames;rw [if_neg (by omega)] at p;have o:m.backs=[]:=j.behind.trans R.behind;have b:m.frames=1:=by rw [p,o];rfl
 have q:zce C m=za2 .back m:=by rw [zeH g k,v]
 have h:(za2 .back m).fin=2:=by
  unfold za2 exec;simp only [if_pos b];rfl
 have i:(za2 .back m).frames=0:=by
  unfold za2 exec;simp only [if_pos b];rfl
 have hstp:(za2 .back m).steps=m.steps+1:=by
  unfold za2 exec;simp only [if_pos b];rfl
 have a:=d.inv.step s g (S.ok.leads e k);have f:=zoh d.m64 (S.ok.ok e k) (S.n64 e k);rw [v] at a f;refine⟨n+1,za2 .back m,⟨?_,a,f,by rw [hstp,d.steps];rfl⟩,h,i⟩;rw [ziH _ _ _ (by rw [←d.run];exact s),←d.run,q]
theorem znk(f:Mc→Mc)(n d:Nat)(a:Mc)(h:¬(runS f n a).fin=0):runS f (n+d) a=runS f n a:=by
 induction n generalizing a with
 | zero=>rw [Nat.zero_add];exact zbB _ _ _ h
 | succ n ih =>
  by_cases b:a.fin=0
  ·rw [zbv _ _ _ b] at h;rw [show n+1+d=n+d+1 by omega,zbv _ _ _ b,zbv _ _ _ b];exact ih _ h
  ·rw [zbB _ _ _ b,zbB _ _ _ b]
theorem zv5(f:Mc→Mc)(n d:Nat)(a:Mc)(h:¬(runS f n a).fin=0)(h':¬(runS f d a).fin=0):runS f n a=runS f d a:=by
 rcases Nat.le_total n d with e|e
 ·obtain⟨x,rfl⟩:=Nat.exists_eq_add_of_le e;exact(znk f n x a h).symm
 ·obtain⟨x,rfl⟩:=Nat.exists_eq_add_of_le e;exact znk f d x a h'
theorem znl{L:List Said}{F:List FnM}(R:Right L F){e wt fr:Nat}{Gf:Nat→Bool}(hF:FnSem (zao F) 0 e wt Gf fr)(hfr:fr≤16){bs bf:Int}(hv:VerdL L (some (bs,bf)))(inp:List Int)(hin:∀ x∈inp,i64 x):
  (ranL L inp bs).fin=2∧(ranL L inp bs).frames=0:=by
 have hb:=hv.bound;have f:=(hv.at_ R).ends R.sure inp hin bs.toNat (by show bs≤_;omega);obtain⟨n,m,a,d,c⟩:=zz8 R.sure hF hfr inp hin;have b:=zv5 (zce (zao F)) bs.toNat n (zaY inp) (by rcases f.1 with e|e <;> omega) (by rw [←a.run];omega);rw [←a.run] at b;have e:=(znS R.sim R.codeOk bs.toNat (zda R.codeOk inp)).1;rw [←R.begin inp,b] at e;unfold ranL;rw [e];exact⟨d,c⟩
end
end Go.Proofs.YtfpgjkbjbbgciaaGreatDoor
