import Derived.Test.YtfpgjkbjbbgciaaGreatDoorMd27
import Derived.Laws.Externs
set_option maxRecDepth 100000
set_option maxHeartbeats 8000000
namespace Go.Proofs.YtfpgjkbjbbgciaaGreatDoor
open Go.RowKit Sp
theorem zoq{F:List FnM}{G:List Fn}(hG:Hid (F.map FnM.fn=G)):F.map FnM.name=G.map Fn.name:=by
 rw [←hG.out,zjO]
theorem PIn.alloc{B:Nat}{w:World}{pm:Nat}{v:Value}{F:List FnM}(h:PIn B w pm v F)(o:Obj):PIn B (w.alloc o) pm v F:=h.of_blocks fun _b _ hb=>Below.heap_alloc _ _ _ hb
theorem PIn.below{B:Nat}{w w':World}{pm:Nat}{v:Value}{F:List FnM}(h:PIn B w pm v F)(hb:Below w.heap.size w w'):PIn B w' pm v F:=h.of_blocks fun b _ hl=>hb.block b hl
theorem zyC{B:Nat}{w:World}{pm:Nat}{v:Value}{F:List FnM}{G:List Fn}(h:PIn B w pm v F)(hG:Hid (F.map FnM.fn=G))(hF:0<F.length)(hn:F.length≤300)(hb:∀ f∈F,f.its.length≤300∧∀ i∈f.its,ItOk i)(l:Int)(hm:Hid (zcM (G.map Fn.name) G=some l)):
  Calls Tryz.prog 69 #[.agg #[v,.map (some pm)]] w fun e w'=>e=zaj 4 l∧Below w.heap.size w w':=by
 have:=zjd w B pm v F h hF hn hb
 rw [zoq hG,hG.out] at this
 refine this.mono ?_
 rintro e w' ⟨hbb,⟨l',h1,h2⟩|⟨h1,_⟩⟩
 ·rw [hm.out] at h1;cases h1;exact⟨h2,hbb⟩
 ·rw [hm.out] at h1;cases h1
theorem zwr{B:Nat}{w:World}{pm:Nat}{v:Value}{F:List FnM}{G:List Fn}(h:PIn B w pm v F)(hG:Hid (F.map FnM.fn=G))(hF:0<F.length)(hn:F.length≤300)(hb:∀ f∈F,f.its.length≤300∧∀ i∈f.its,ItOk i)(hm:Hid (zcM (G.map Fn.name) G=none)):
  Calls Tryz.prog 69 #[.agg #[v,.map (some pm)]] w fun e w'=>e=.returned (.tuple #[])∧Below w.heap.size w w':=by
 have:=zjd w B pm v F h hF hn hb
 rw [zoq hG,hG.out] at this
 refine this.mono ?_
 rintro e w' ⟨hbb,⟨l',h1,h2⟩|⟨_,h1⟩⟩
 ·rw [hm.out] at h1;cases h1
 ·exact⟨h1,hbb⟩
theorem zyo{B:Nat}{w:World}{pm:Nat}{v:Value}{F:List FnM}{G:List Fn}(h:PIn B w pm v F)(hG:Hid (F.map FnM.fn=G))(hF:0<F.length)(hn:F.length≤300)(hb:∀ f∈F,f.its.length≤300∧∀ i∈f.its,ItOk i)(l:Int)(hm:Hid (endK G=some l)):
  Calls Tryz.prog 70 #[.agg #[v,.map (some pm)]] w fun e w'=>e=zaj 5 l∧Below w.heap.size w w':=by
 have:=zlv w B pm v F h hF hn hb
 rw [hG.out] at this
 refine this.mono ?_
 rintro e w' ⟨hbb,⟨l',h1,h2⟩|⟨h1,_⟩⟩
 ·rw [hm.out] at h1;cases h1;exact⟨h2,hbb⟩
 ·rw [hm.out] at h1;cases h1
theorem zxk{B:Nat}{w:World}{pm:Nat}{v:Value}{F:List FnM}{G:List Fn}(h:PIn B w pm v F)(hG:Hid (F.map FnM.fn=G))(hF:0<F.length)(hn:F.length≤300)(hb:∀ f∈F,f.its.length≤300∧∀ i∈f.its,ItOk i)(hm:Hid (endK G=none)):
  Calls Tryz.prog 70 #[.agg #[v,.map (some pm)]] w fun e w'=>e=.returned (.tuple #[])∧Below w.heap.size w w':=by
 have:=zlv w B pm v F h hF hn hb
 rw [hG.out] at this
 refine this.mono ?_
 rintro e w' ⟨hbb,⟨l',h1,h2⟩|⟨_,h1⟩⟩
 ·rw [hm.out] at h1;cases h1
 ·exact⟨h1,hbb⟩
theorem zvh(F:List Fn)(k:Key)(h:0<F.length):0<(addK F k).length:=by
 unfold addK
 split
 ·simp
 ·split
  ·exact h
  ·simp
theorem zvi(K:List Key)(F:List Fn)(h:0<F.length):0<(K.foldl addK F).length:=by
 induction K generalizing F with
 | nil=>exact h
 | cons k r ih=>exact ih _ (zvh F k h)
theorem zg0(k:Key)(r:List Key)(hs:k.sort=0):0<((k :: r).foldl addK []).length:=by
 rw [List.foldl_cons,zc6 _ _ hs]
 exact zvi r _ (by simp)
theorem zor{w w':World}{a b:Value}(hb:Below (w.alloc (.cells #[a,b] 83)).heap.size (w.alloc (.cells #[a,b] 83)) w'):
  w'.cell? ⟨w.heap.size,0,none⟩=some a∧w'.cell? ⟨w.heap.size,1,none⟩=some b∧w'.frozen? ⟨w.heap.size,0,none⟩=false∧w'.frozen? ⟨w.heap.size,1,none⟩=false:=by
 have hh:w'.heap[w.heap.size]?=some (.cells #[a,b] 83 (0,0)):=(hb.block _ (by simp)).trans (heap_alloc_new w _)
 exact⟨by rw [cell_of_row w' _ 0 _ _ _ hh];rfl,by rw [cell_of_row w' _ 1 _ _ _ hh];rfl,frozen_of_row w' _ 0 _ _ hh,frozen_of_row w' _ 1 _ _ hh⟩
theorem zqf(s:ByteArray)(k:Key)(r:List Key)(h:Sts s (k :: r))(hs:k.sort=0)(ht:zbb [] (k :: r)=none)(G:List Fn)(hG:(k :: r).foldl addK []=G)(l:Int)(hm:zcM (G.map Fn.name) G=some l):zdv s (4,l):=by
 intro w hw
 have hw1:LibW (w.alloc Z33):=hw.below ((Below.refl _ _).alloc (Nat.le_refl _) _)
 have hcall:=zcT s (w.alloc Z33) h.h4 h.h3
 have hcall2:=h.begins hs (w.alloc Z33) hw1
 have HT:Hid (zbb [] (k :: r)=none):=ht
 have HG:Hid ((k :: r).foldl addK []=G):=hG
 have HM:Hid (zcM (G.map Fn.name) G=some l):=hm
 have hG0:0<G.length:=by rw [←hG];exact zg0 k r hs
 clear h hs ht hG hm
 generalize k :: r=K at hcall2 HT HG
 go_enter Tryz.func44,Tryz.ntmps44
 go_wp2_with(first
  | (go_at_call 65;refine hcall.mono ?_;rintro e w1 ⟨rfl,hww⟩;subst hww)
  | (go_at_call 66;refine hcall2.mono ?_;rintro e w2 ⟨hb2,v,i,t,rfl,hown,hk,hl,hnm,hns⟩)
  | (go_at_call 67;refine(zhe w2 _ v i t hown hl hns).mono ?_;rintro e w3 ⟨rfl,hww⟩;have h2:=hww.symm;subst h2)
  | (go_at_call 68;refine(zmO _ _ v i t K hown hk hl hnm hns HT G HG hG0).mono ?_;rintro e w4 ⟨hb4,pm,ao,n,cap,F,rfl,hpin,hFG,hF0,hFn,hFi⟩)
  | (go_at_call 69;refine(zyC (hpin.alloc _) hFG hF0 hFn hFi l HM).mono ?_;rintro e w5 ⟨rfl,hb5⟩))
 exact⟨rfl,((zbj _ _ hb2).trans (hb4.mono (zbj _ _ hb2).size)).trans ((zbj _ _ hb5).mono ((zbj _ _ hb2).trans (hb4.mono (zbj _ _ hb2).size)).size),.inr ⟨by simp,rfl⟩⟩
theorem zsB(s:ByteArray)(k:Key)(r:List Key)(h:Sts s (k :: r))(hs:k.sort=0)(ht:zbb [] (k :: r)=none)(G:List Fn)(hG:(k :: r).foldl addK []=G)(hm:zcM (G.map Fn.name) G=none)(l:Int)(he:endK G=some l):zdv s (5,l):=by
 intro w hw
 have hw1:LibW (w.alloc Z33):=hw.below ((Below.refl _ _).alloc (Nat.le_refl _) _)
 have hcall:=zcT s (w.alloc Z33) h.h4 h.h3
 have hcall2:=h.begins hs (w.alloc Z33) hw1
 have HT:Hid (zbb [] (k :: r)=none):=ht
 have HG:Hid ((k :: r).foldl addK []=G):=hG
 have HM:Hid (zcM (G.map Fn.name) G=none):=hm
 have HE:Hid (endK G=some l):=he
 have hG0:0<G.length:=by rw [←hG];exact zg0 k r hs
 clear h hs ht hG hm he
 generalize k :: r=K at hcall2 HT HG
 go_enter Tryz.func44,Tryz.ntmps44
 go_wp2_with(first
  | (go_at_call 65;refine hcall.mono ?_;rintro e w1 ⟨rfl,hww⟩;subst hww)
  | (go_at_call 66;refine hcall2.mono ?_;rintro e w2 ⟨hb2,v,i,t,rfl,hown,hk,hl,hnm,hns⟩)
  | (go_at_call 67;refine(zhe w2 _ v i t hown hl hns).mono ?_;rintro e w3 ⟨rfl,hww⟩;have h2:=hww.symm;subst h2)
  | (go_at_call 68;refine(zmO _ _ v i t K hown hk hl hnm hns HT G HG hG0).mono ?_;rintro e w4 ⟨hb4,pm,ao,n,cap,F,rfl,hpin,hFG,hF0,hFn,hFi⟩)
  | (go_at_call 69;refine(zwr (hpin.alloc _) hFG hF0 hFn hFi HM).mono ?_;rintro e w5 ⟨rfl,hb5⟩;obtain⟨t0,t1,_,_⟩:=zor hb5)
  | (go_at_call 70;refine(zyo ((hpin.alloc _).below hb5) hFG hF0 hFn hFi l HE).mono ?_;rintro e w6 ⟨rfl,hb6⟩))
 exact⟨rfl,((zbj _ _ hb2).trans (hb4.mono (zbj _ _ hb2).size)).trans ((zbj _ _ (hb5.trans (hb6.mono hb5.size))).mono ((zbj _ _ hb2).trans (hb4.mono (zbj _ _ hb2).size)).size),.inr ⟨by simp,rfl⟩⟩
theorem zjn(s:ByteArray)(k:Key)(r:List Key)(h:Sts s (k :: r))(hs:k.sort=0)(ht:zbb [] (k :: r)=none)(G:List Fn)(hG:(k :: r).foldl addK []=G)(hm:zcM (G.map Fn.name) G=none)(he:endK G=none)(w:World)(hw:LibW w):
  Calls Tryz.prog 44 #[.string s] w fun e w'=>Below w.heap.size w w'∧∃ pm ao n cap F,e=.returned (.agg #[.slice ao n cap,.map (some pm)])∧PIn w.heap.size w' pm (.slice ao n cap) F∧Hid (F.map FnM.fn=G)∧0<F.length∧F.length≤300∧(∀ f∈F,f.its.length≤300∧∀ i∈f.its,ItOk i):=by
 have hw1:LibW (w.alloc Z33):=hw.below ((Below.refl _ _).alloc (Nat.le_refl _) _)
 have hcall:=zcT s (w.alloc Z33) h.h4 h.h3
 have hcall2:=h.begins hs (w.alloc Z33) hw1
 have HT:Hid (zbb [] (k :: r)=none):=ht
 have HG:Hid ((k :: r).foldl addK []=G):=hG
 have HM:Hid (zcM (G.map Fn.name) G=none):=hm
 have HE:Hid (endK G=none):=he
 have hG0:0<G.length:=by rw [←hG];exact zg0 k r hs
 clear h hs ht hG hm he
 generalize k :: r=K at hcall2 HT HG
 go_enter Tryz.func44,Tryz.ntmps44
 go_wp2_with(first
  | (go_at_call 65;refine hcall.mono ?_;rintro e w1 ⟨rfl,hww⟩;subst hww)
  | (go_at_call 66;refine hcall2.mono ?_;rintro e w2 ⟨hb2,v,i,t,rfl,hown,hk,hl,hnm,hns⟩)
  | (go_at_call 67;refine(zhe w2 _ v i t hown hl hns).mono ?_;rintro e w3 ⟨rfl,hww⟩;have h2:=hww.symm;subst h2)
  | (go_at_call 68;refine(zmO _ _ v i t K hown hk hl hnm hns HT G HG hG0).mono ?_;rintro e w4 ⟨hb4,pm,ao,n,cap,F,rfl,hpin,hFG,hF0,hFn,hFi⟩)
  | (go_at_call 69;refine(zwr (hpin.alloc _) hFG hF0 hFn hFi HM).mono ?_;rintro e w5 ⟨rfl,hb5⟩;obtain⟨t0,t1,_,_⟩:=zor hb5)
  | (go_at_call 70;refine(zxk ((hpin.alloc _).below hb5) hFG hF0 hFn hFi HE).mono ?_;rintro e w6 ⟨rfl,hb6⟩;have hb56:=hb5.trans (hb6.mono hb5.size);have hbz:=zbj _ _ hb56;have hz:=(hb2.trans (hb4.mono hb2.size)).trans (hbz.mono (hb2.trans (hb4.mono hb2.size)).size);obtain⟨s0,s1,_,_⟩:=zor hb56;obtain⟨r0,r1,f0,f1⟩:=zor hz))
 have q0:=World.cell?_setCell_same (w6.setCell ⟨w.heap.size,0,none⟩ (.slice ao n cap)) ⟨w.heap.size,1,none⟩ (.map (some pm)) (u:=.map none) (by rw [World.cell?_setCell_other];exact r1;simp)
 have q1:((w6.setCell ⟨w.heap.size,0,none⟩ (.slice ao n cap)).setCell ⟨w.heap.size,1,none⟩ (.map (some pm))).cell? ⟨w.heap.size,0,none⟩=some (.slice ao n cap):=by
  rw [World.cell?_setCell_other]
  ·exact World.cell?_setCell_same w6 _ _ r0
  ·simp
 refine bodyPost_ret (v:=.agg #[.slice ao n cap,.map (some pm)]) (by simp [results,Tryz.results44,go_sem,q0,q1]) rfl ⟨?_,pm,ao,n,cap,F,rfl,?_,hFG,hF0,hFn,hFi⟩
 ·exact((zbj _ _ hz).setCell (p:=⟨w.heap.size,0,none⟩) (Nat.le_refl _) _).setCell (p:=⟨w.heap.size,1,none⟩) (Nat.le_refl _) _
 ·have hw4:(w.alloc Z33).heap.size≤w2.heap.size:=hb2.size
  have hz3:(w.alloc Z33).heap.size=w.heap.size+1:=by simp
  have p6:=((hpin.alloc (.cells #[.slice ao n cap,.map (some pm)] 83)).below hb56)
  exact(p6.of_blocks (w':=((w6.setCell ⟨w.heap.size,0,none⟩ (.slice ao n cap)).setCell ⟨w.heap.size,1,none⟩ (.map (some pm)))) (fun b hb _=>by rw [Below.heap_setCell _ _ _ _ (by show ¬b=w.heap.size;omega),Below.heap_setCell _ _ _ _ (by show ¬b=w.heap.size;omega)])).mono (by omega)
theorem zvj(s:ByteArray)(k:Key)(r:List Key)(h:Sts s (k :: r))(hs:k.sort=0)(ht:zbb [] (k :: r)=none)(G:List Fn)(hG:(k :: r).foldl addK []=G)(hm:zcM (G.map Fn.name) G=none)(he:endK G=none):zdv s (0,0):=by
 intro w hw
 refine(zjn s k r h hs ht G hG hm he w hw).mono ?_
 rintro e w' ⟨hb,pm,ao,n,cap,F,rfl,_⟩
 exact⟨hb,.inl ⟨rfl,_,rfl⟩⟩
theorem zlw(s:ByteArray)(hs:s.size≤9223372036854775807):zdv s (zbw s):=by
 unfold zbw
 by_cases h:4000<s.size∨300<(lines s).length
 ·rw [if_pos h];exact zsl s hs h
 ·rw [if_neg h]
  have h4:s.size≤4000:=by omega
  have h3:(lines s).length≤300:=by omega
  by_cases hok:∀ x∈lines s,(say x).ok=true
  ·rw [zeS _ hok 0,zeR _ hok]
   have S:Sts s (zbe (lines s) (lines s).length):=⟨h4,h3,hok,rfl⟩
   generalize zbe (lines s) (lines s).length=K at S
   cases K with
   | nil=>exact zpE s S
   | cons k r =>
    unfold sayK
    dsimp only
    by_cases h0:k.sort=0
    ·rw [if_pos h0]
     cases ht:zbb [] (k :: r) with
     | some l=>exact zmP s k r S h0 l ht
     | none =>
      generalize hG:(k :: r).foldl addK []=G
      cases hm:zcM (G.map Fn.name) G with
      | some l=>exact zqf s k r S h0 ht G hG l hm
      | none =>
       cases he:endK G with
       | some l=>exact zsB s k r S h0 ht G hG hm l he
       | none=>exact zvj s k r S h0 ht G hG hm he
    ·rw [if_neg h0]
     exact zmN s k r S h0
  ·exact zuN s h4 h3 hok
end Go.Proofs.YtfpgjkbjbbgciaaGreatDoor
namespace Go.Proofs.YtfpgjkbjbbgciaaGreatDoor
open Sp
theorem zie{k:Kn}{l r:Nat}{holds fails:Rg→Rg→Option (Rg × Rg)}{to:Int}(K:KnOk k)(_hl:l<8)(_hr:r<8)
  (h1:∀ a b,holds (k.regs l) (k.regs r)=some (a,b)→a.Ok∧b.Ok) (h2:∀ a b,fails (k.regs l) (k.regs r)=some (a,b)→a.Ok∧b.Ok) :
  ∀ k'∈zb5 k l r holds fails to,k'.steps=k.steps+1∧KnOk k':=by
 intro k' hk'
 unfold zb5 at hk'
 have key:∀ a b,a.Ok∧b.Ok→∀ z,({ k with regs:=updR (updR k.regs l a) r b }.goTo z).steps=k.steps+1∧KnOk ({ k with regs:=updR (updR k.regs l a) r b }.goTo z):=fun a b h z=>⟨rfl,⟨zei (zei K.regs h.1) h.2,K.cells⟩⟩
 cases hh:holds (k.regs l) (k.regs r) with
 | none =>
  cases hf:fails (k.regs l) (k.regs r) with
  | none=>rw [hh,hf] at hk';rw [List.mem_singleton.1 hk'];exact⟨rfl,⟨K.regs,K.cells⟩⟩
  | some q=>obtain⟨c,d⟩:=q;rw [hh,hf] at hk';rw [List.mem_singleton.1 hk'];exact key c d (h2 c d hf) _
 | some q =>
  obtain⟨a,b⟩:=q
  cases hf:fails (k.regs l) (k.regs r) with
  | none=>rw [hh,hf] at hk';rw [List.mem_singleton.1 hk'];exact key a b (h1 a b hh) _
  | some q =>
   obtain⟨c,d⟩:=q
   rw [hh,hf] at hk'
   rcases List.mem_cons.1 hk' with e|e
   ·rw [e];exact key a b (h1 a b hh) _
   ·rw [List.mem_singleton.1 e];exact key c d (h2 c d hf) _
theorem zjw{k:Kn}{i:Ins}{ks:List Kn}(K:KnOk k)(hi:zgW i)(h64:zkj i)(h:za1 i k=some ks):∀ k'∈ks,k'.steps=k.steps+1∧KnOk k':=by
 have one:∀(f g:Nat→Rg) (z:Int) (b:List Int),(∀ r,r<8→(f r).Ok)→(∀ r,r<16→(g r).Ok)→∀ k'∈[({ k with regs:=f,cells:=g,behind:=b }:Kn).goTo z],k'.steps=k.steps+1∧KnOk k':=fun f g z b h1 h2 k' hk'=>by
  rw [List.mem_singleton.1 hk'];exact⟨rfl,⟨h1,h2⟩⟩
 cases i with
 | set r n =>
  simp only [za1,Option.some.injEq] at h;subst h
  exact one _ _ _ _ (zei K.regs (zib h64)) K.cells
 | mov r s =>
  simp only [za1,Option.some.injEq] at h;subst h
  exact one _ _ _ _ (zei K.regs (K.regs s hi.2)) K.cells
 | alu o r s t =>
  simp only [za1,Option.some.injEq] at h;subst h
  refine one _ _ _ _ (zei K.regs ?_) K.cells
  split
  ·exact ztc _ _
  ·split
   ·split
    ·exact zib (by unfold i64;omega)
    ·exact zv4 _ _
   ·exact zv6 (K.regs s hi.2.2.1) (K.regs t hi.2.2.2)
 | inc r n =>
  simp only [za1,Option.some.injEq] at h;subst h
  exact one _ _ _ _ (zei K.regs (ztc _ _)) K.cells
 | load r s =>
  simp only [za1] at h
  cases ht:zcc (k.regs s) with
  | none=>rw [ht] at h;cases h
  | some q =>
   obtain⟨a,b⟩:=q
   rw [ht] at h
   simp only [Option.some.injEq] at h;subst h
   obtain⟨h1,h2⟩:=zqu ht (K.regs s hi.2)
   exact one _ _ _ _ (zei K.regs (zqt (fun j _ hj=>K.cells j (by omega)))) K.cells
 | store r s =>
  simp only [za1] at h
  cases ht:zcc (k.regs r) with
  | none=>rw [ht] at h;cases h
  | some q =>
   obtain⟨a,b⟩:=q
   rw [ht] at h
   simp only [Option.some.injEq] at h;subst h
   exact one _ _ _ _ K.regs (zv8 K.cells (K.regs s hi.2))
 | read r =>
  simp only [za1,Option.some.injEq] at h;subst h
  exact one _ _ _ _ (zei K.regs zsY) K.cells
 | write r =>
  simp only [za1,Option.some.injEq] at h;subst h
  exact one _ _ _ _ K.regs K.cells
 | jump to =>
  simp only [za1,Option.some.injEq] at h;subst h
  exact one _ _ _ _ K.regs K.cells
 | less r s to =>
  simp only [za1] at h
  split at h
  ·simp only [Option.some.injEq] at h;subst h
   exact one _ _ _ _ K.regs K.cells
  ·simp only [Option.some.injEq] at h;subst h
   exact zie K hi.1 hi.2 (fun a b=>zxt (K.regs r hi.1) (K.regs s hi.2)) (fun a b=>zqq (K.regs r hi.1) (K.regs s hi.2))
 | same r s to =>
  simp only [za1] at h
  split at h
  ·simp only [Option.some.injEq] at h;subst h
   exact one _ _ _ _ K.regs K.cells
  ·simp only [Option.some.injEq] at h;subst h
   exact zie K hi.1 hi.2 (fun a b=>zxu (K.regs r hi.1) (K.regs s hi.2)) (fun a b=>zqr (K.regs r hi.1) (K.regs s hi.2))
 | call to =>
  simp only [za1] at h
  split at h
  ·cases h
  ·simp only [Option.some.injEq] at h;subst h
   exact one _ _ _ _ K.regs K.cells
 | back =>
  simp only [za1] at h
  cases hb:k.behind with
  | nil=>rw [hb] at h;simp only [Option.some.injEq] at h;subst h;intro k' hk';cases hk'
  | cons b r =>
   rw [hb] at h
   simp only [Option.some.injEq] at h;subst h
   exact one _ _ _ _ K.regs K.cells
 | stop =>
  simp only [za1,Option.some.injEq] at h;subst h
  intro k' hk';cases hk'
theorem zxw{m:Mc}{i:Ins}(M:Mc64 m)(hi:zgW i)(h64:zkj i):Mc64 (zaW i m):=by
 have key:Mc64 (exec i (m.at'+1) m):=by
  cases i with
  | set r n=>exact⟨zid M.regs h64,M.cells,M.inp⟩
  | mov r s=>exact⟨zid M.regs (M.regs s hi.2),M.cells,M.inp⟩
  | alu o r s t =>
   refine⟨zid M.regs ?_,M.cells,M.inp⟩
   unfold zbr
   repeat' split
   all_goals exact zdO _
  | inc r n=>exact⟨zid M.regs (zdO _),M.cells,M.inp⟩
  | load r s =>
   by_cases hc:m.regs s<0∨15<m.regs s
   ·have e9:exec (.load r s) (m.at'+1) m={ m with fin:=3 }:=if_pos hc;rw [e9];exact⟨M.regs,M.cells,M.inp⟩
   ·have e9:exec (.load r s) (m.at'+1) m={ m with regs:=upd m.regs r (m.cells (m.regs s).toNat) }.goes (m.at'+1):=if_neg hc;rw [e9];exact⟨zid M.regs (M.cells _ (by omega)),M.cells,M.inp⟩
  | store r s =>
   by_cases hc:m.regs r<0∨15<m.regs r
   ·have e9:exec (.store r s) (m.at'+1) m={ m with fin:=3 }:=if_pos hc;rw [e9];exact⟨M.regs,M.cells,M.inp⟩
   ·have e9:exec (.store r s) (m.at'+1) m={ m with cells:=upd m.cells (m.regs r).toNat (m.regs s) }.goes (m.at'+1):=if_neg hc;rw [e9];exact⟨M.regs,zid M.cells (M.regs s hi.2),M.inp⟩
  | read r =>
   refine⟨zid M.regs ?_,M.cells,fun x hx=>M.inp x (List.mem_of_mem_tail hx)⟩
   cases hin:m.inp with
   | nil=>unfold i64;simp
   | cons x t=>exact M.inp x (by rw [hin];exact List.mem_cons_self)
  | write r=>exact⟨M.regs,M.cells,M.inp⟩
  | jump to=>exact⟨M.regs,M.cells,M.inp⟩
  | less r s to=>exact⟨M.regs,M.cells,M.inp⟩
  | same r s to=>exact⟨M.regs,M.cells,M.inp⟩
  | call to =>
   by_cases hc:m.frames=16
   ·have e9:exec (.call to) (m.at'+1) m={ m with fin:=4 }:=if_pos hc;rw [e9];exact⟨M.regs,M.cells,M.inp⟩
   ·have e9:exec (.call to) (m.at'+1) m={ m with backs:=m.backs++[m.at'+1],frames:=m.frames+1,peak:=max m.peak (m.frames+1) }.goes to:=if_neg hc;rw [e9];exact⟨M.regs,M.cells,M.inp⟩
  | back =>
   by_cases hc:m.frames=1
   ·have e9:exec .back (m.at'+1) m={ m with frames:=0,fin:=2 }.goes (-1):=if_pos hc;rw [e9];exact⟨M.regs,M.cells,M.inp⟩
   ·have e9:exec .back (m.at'+1) m={ m with frames:=m.frames-1,backs:=m.backs.dropLast }.goes (m.backs.getLastD 0):=if_neg hc;rw [e9];exact⟨M.regs,M.cells,M.inp⟩
  | stop=>exact⟨M.regs,M.cells,M.inp⟩
 unfold zaW
 split
 ·exact⟨key.regs,key.cells,key.inp⟩
 ·exact key
theorem zlG(i:Ins)(m:Mc):(zaW i m).peak=m.peak∨(zaW i m).peak=max m.peak (zaW i m).frames∧(zaW i m).fin=m.fin:=by
 have e1:(zaW i m).peak=(exec i (m.at'+1) m).peak:=by unfold zaW;split <;> rfl
 cases i with
 | call to =>
  by_cases h:m.frames=16
  ·left;rw [e1,show exec (.call to) (m.at'+1) m={ m with fin:=4 } from if_pos h]
  ·right
   have e0:exec (.call to) (m.at'+1) m={ m with backs:=m.backs++[m.at'+1],frames:=m.frames+1,peak:=max m.peak (m.frames+1) }.goes to:=if_neg h
   have e2:(zaW (.call to) m).frames=m.frames+1:=by unfold zaW;rw [e0];split <;> rfl
   have e3:(zaW (.call to) m).fin=m.fin:=by unfold zaW;rw [e0];split <;> rfl
   exact⟨by rw [e1,e2,e0];rfl,e3⟩
 | load r s =>
  left;rw [e1]
  by_cases hc:m.regs s<0∨15<m.regs s
  ·have e9:exec (.load r s) (m.at'+1) m={ m with fin:=3 }:=if_pos hc;rw [e9]
  ·have e9:exec (.load r s) (m.at'+1) m={ m with regs:=upd m.regs r (m.cells (m.regs s).toNat) }.goes (m.at'+1):=if_neg hc;rw [e9];rfl
 | store r s =>
  left;rw [e1]
  by_cases hc:m.regs r<0∨15<m.regs r
  ·have e9:exec (.store r s) (m.at'+1) m={ m with fin:=3 }:=if_pos hc;rw [e9]
  ·have e9:exec (.store r s) (m.at'+1) m={ m with cells:=upd m.cells (m.regs r).toNat (m.regs s) }.goes (m.at'+1):=if_neg hc;rw [e9];rfl
 | back =>
  left;rw [e1]
  by_cases hc:m.frames=1
  ·have e9:exec .back (m.at'+1) m={ m with frames:=0,fin:=2 }.goes (-1):=if_pos hc;rw [e9];rfl
  ·have e9:exec .back (m.at'+1) m={ m with frames:=m.frames-1,backs:=m.backs.dropLast }.goes (m.backs.getLastD 0):=if_neg hc;rw [e9];rfl
 | _=>left;rw [e1];rfl
theorem ztf(f:Mc→Mc)(n:Nat)(m:Mc)(h:(runS f n m).fin=0):runS f (n+1) m=f (runS f n m):=by
 induction n generalizing m with
 | zero =>
  have h':m.fin=0:=h
  rw [zcH _ _ _ h'];rfl
 | succ n ih =>
  by_cases h0:m.fin=0
  ·rw [zcH _ _ _ h0] at h
   rw [zcH _ _ _ h0,ih _ h,zcH _ _ _ h0]
  ·rw [zcG _ _ _ h0] at h
   exact absurd h h0
structure CodeSure(C:List (Ins × Int)):Prop where
 ok:CodeOk C
 n64:∀ j (h:j<C.length),zkj C[j].1
structure RunAtC(C:List (Ins × Int))(inp:List Int)(n:Nat)(m:Mc):Prop where
 run:m=runS (zfT C) n (zdo inp)
 inv:InvD C.length m
 m64:Mc64 m
 steps:m.steps=(n:Int)
def ziG(C:List (Ins × Int))(W:List Kn)(bs bf:Int)(inp:List Int):Prop :=
 ∃ n m,RunAtC C inp n m∧((m.fin=0∧(∃ k∈W,Cov k m)∧m.peak≤max bf m.frames)∨((m.fin=1∨m.fin=2)∧m.steps≤bs∧m.peak≤bf))
theorem znl{C:List (Ins × Int)}(S:CodeSure C)(inp:List Int)(hin:∀ x∈inp,i64 x)(bs bf:Int):ziG C [kn0] bs bf inp:=by
 refine⟨0,zdo inp,⟨rfl,zgz S.ok inp,⟨fun _ _=>by show i64 0;unfold i64;omega,fun _ _=>by show i64 0;unfold i64;omega,hin⟩,rfl⟩,.inl ⟨rfl,⟨kn0,zbL _,⟨fun _ _=>zg2 0,fun _ _=>zg2 0,rfl,rfl,rfl⟩⟩,?_⟩⟩
 show(1:Int)≤max bf 1
 omega
theorem zqv{C:List (Ins × Int)}(S:CodeSure C){W W' ks:List Kn}{k:Kn}{bs bf:Int}{inp:List Int}{p:Nat}(hp:p<C.length)(hk:k.next=(p:Int))(K:KnOk k)(hbs:bs≤k.steps+1)
  (hl:za1 C[p].1 k=some ks) (hW:∀ x∈W,x=k∨x∈W') (T:ziG C W bs bf inp):ziG C (W'++ks) (k.steps+1) (max bf ((k.behind.length:Int)+1)) inp:=by
 obtain⟨n,m,R,h⟩:=T
 rcases h with ⟨h0,⟨x,hx,hc⟩,hpk⟩|⟨h0,h1,h2⟩
 ·rcases hW x hx with rfl|hx'
  ·have hat:m.at'=(p:Int):=hc.next.trans hk
   have hfr:=R.inv.frames
   rw [if_neg (by omega)] at hfr
   have hbl:=congrArg List.length hc.behind
   have hst:zfT C m=zaW C[p].1 m:=zhg hat hp
   have A:=znk hc K R.m64 (S.ok.ok p hp) (S.n64 p hp) h0 hfr hl
   have F:=zhT C[p].1 m h0
   have hcs:=hc.steps
   have hR:RunAtC C inp (n+1) (zaW C[p].1 m)∨((zaW C[p].1 m).fin=3∨(zaW C[p].1 m).fin=4):=by
    rcases F.1 with ⟨_,hs⟩|⟨hf,_⟩
    ·refine .inl ⟨?_,R.inv.step h0 hat (S.ok.leads p hp),zxw R.m64 (S.ok.ok p hp) (S.n64 p hp),by rw [hs,R.steps];rfl⟩
     rw [ztf _ _ _ (by rw [←R.run];exact h0),←R.run,hst]
    ·exact .inr hf
   have hpeak:(zaW C[p].1 m).peak≤max (max bf ((x.behind.length:Int)+1)) (zaW C[p].1 m).frames:=by
    rcases zlG C[p].1 m with e|⟨e,_⟩ <;> rw [e] <;> omega
   rcases A with ⟨hf,k',hk',hc'⟩|hf
   ·rcases hR with hR|hR
    ·exact⟨n+1,_,hR,.inl ⟨hf,⟨k',List.mem_append_right _ hk',hc'⟩,hpeak⟩⟩
    ·omega
   ·rcases hR with hR|hR
    ·refine⟨n+1,_,hR,.inr ⟨hf,?_,?_⟩⟩
     ·have:=hR.steps
      have:=R.steps
      omega
     ·rcases zlG C[p].1 m with e|⟨_,e⟩
      ·rw [e];omega
      ·omega
    ·omega
  ·exact⟨n,m,R,.inl ⟨h0,⟨x,List.mem_append_left _ hx',hc⟩,by omega⟩⟩
 ·exact⟨n,m,R,.inr ⟨h0,by omega,by omega⟩⟩
def zf1(k o:Kn):Kn:={ k with regs:=fun r=>(k.regs r).or (o.regs r),cells:=fun c=>(k.cells c).or (o.cells c) }
theorem ztg{k o:Kn}{m:Mc}(h:Cov k m):Cov (zf1 k o) m:=⟨fun r hr=>zki (h.regs r hr) _,fun c hc=>zki (h.cells c hc) _,h.next,h.behind,h.steps⟩
theorem zqw{k o:Kn}{m:Mc}(h:Cov o m)(h1:o.next=k.next)(h2:o.behind=k.behind)(h3:o.steps=k.steps):Cov (zf1 k o) m :=
 ⟨fun r hr=>zhj (h.regs r hr) _,fun c hc=>zhj (h.cells c hc) _,h.next.trans h1,h.behind.trans h2,h.steps.trans h3⟩
theorem zxx{k o:Kn}(h:KnOk k)(h':KnOk o):KnOk (zf1 k o):=⟨fun r hr=>zv2 (h.regs r hr) (h'.regs r hr),fun c hc=>zv2 (h.cells c hc) (h'.cells c hc)⟩
theorem zqx{C:List (Ins × Int)}{W W':List Kn}{k o:Kn}{bs bf:Int}{inp:List Int}(h1:o.next=k.next)(h2:o.behind=k.behind)(h3:o.steps=k.steps)(hW:∀ x∈W,x=k∨x=o∨x∈W')(T:ziG C W bs bf inp):ziG C (zf1 k o :: W') bs bf inp:=by
 obtain⟨n,m,R,h⟩:=T
 refine⟨n,m,R,?_⟩
 rcases h with ⟨h0,⟨x,hx,hc⟩,hpk⟩|h
 ·refine .inl ⟨h0,?_,hpk⟩
  rcases hW x hx with rfl|rfl|hx'
  ·exact⟨_,List.mem_cons_self,ztg hc⟩
  ·exact⟨_,List.mem_cons_self,zqw hc h1 h2 h3⟩
  ·exact⟨x,List.mem_cons_of_mem _ hx',hc⟩
 ·exact .inr h
theorem zjx{C:List (Ins × Int)}{W W':List Kn}{bs bf:Int}{inp:List Int}(hW:∀ x∈W,x∈W')(T:ziG C W bs bf inp):ziG C W' bs bf inp:=by
 obtain⟨n,m,R,h⟩:=T
 refine⟨n,m,R,?_⟩
 rcases h with ⟨h0,⟨x,hx,hc⟩,hpk⟩|h
 ·exact .inl ⟨h0,⟨x,hW x hx,hc⟩,hpk⟩
 ·exact .inr h
end Go.Proofs.YtfpgjkbjbbgciaaGreatDoor
namespace Go.Proofs.YtfpgjkbjbbgciaaGreatDoor
open Go.RowKit Sp
abbrev rv(r:Rg):Value:=.agg #[.int .i64 r.lo,.int .i64 r.hi]
theorem Tryz.info213:(Tryz.prog.info? 213).map (·.size)=some 2:=by kernel_rfl
theorem zcp(a b:Int):∀ W,(Instr.build 213 #[(0,.int .i64 a),(1,.int .i64 b)]).run Tryz.prog W=.ok (.agg #[.int .i64 a,.int .i64 b]) W:=fun W=>run_build W 213 _ _ (by kernel_rfl)
theorem znm{X:World}{b o:Nat}{r:Rg}(h0:X.cell? ⟨b,o,none⟩=some (.int .i64 r.lo))(h1:X.cell? ⟨b,o+1,none⟩=some (.int .i64 r.hi)):(loadVar 213 ⟨b,o,none⟩).run Tryz.prog X=.ok (rv r) X:=by
 have hu:Tryz.prog.underlying 213=some (.struct _):=Tryz.underlying213
 refine run_loadVar_mid X b o 213 [.int .i64 r.lo,.int .i64 r.hi] _ ?_ hu rfl Tryz.info213
 intro j u hj
 match j,hj with
 | 0,hj=>simp at hj;subst hj;exact h0
 | 1,hj=>simp at hj;subst hj;exact h1
theorem zbD{fn:Func}{a:Tmp}{Q:Ending→World→Prop}{X:World}{act:Act}{b:Nat}{r:Rg}(hr:fn.results=#[.cell a 213])(hp:act.tmps.getD a undef=.pointer (some ⟨b,0,none⟩))(hd:act.defers=[])
  (h0:X.cell? ⟨b,0,none⟩=some (.int .i64 r.lo)) (h1:X.cell? ⟨b,1,none⟩=some (.int .i64 r.hi)) (hq:Q (.returned (rv r)) X):bodyPost Tryz.prog fn Q .ret act X :=
 bodyPost_ret (zbz hr act.tmps ⟨b,0,none⟩ hp (znm h0 h1)) hd hq
theorem box1{w:World}{a:Obj}:Below w.heap.size w (w.alloc a):=(Below.refl _ _).alloc (Nat.le_refl _) _
theorem box2{w:World}{a b:Obj}:Below w.heap.size w ((w.alloc a).alloc b):=box1.alloc (by simp) _
theorem zkk(x:Int):IntKind.u64.wrap x=x%18446744073709551616:=by
 simp [IntKind.wrap,IntKind.bits,IntKind.signed]
theorem zhl(n:Int)(w:World):Calls Tryz.prog 226 #[.int .i64 n] w fun e w'=>e=.returned (rv (only n))∧Below w.heap.size w w':=by
 have hb:=zcp n n
 go_enter Tryz.func226,Tryz.ntmps226
 go_wp2
 exact zbD (r:=only n) Tryz.results226 rfl rfl (by simp [only]) (by simp [only]) ⟨rfl,box1⟩
theorem zif(w:World):Calls Tryz.prog 238 #[] w fun e w'=>e=.returned (rv anyR)∧Below w.heap.size w w':=by
 have hb:=zcp (-9223372036854775808) 9223372036854775807
 go_enter Tryz.func238,Tryz.ntmps238
 go_wp2
 exact zbD (r:=anyR) Tryz.results238 rfl rfl (by simp [anyR]) (by simp [anyR]) ⟨rfl,box1⟩
theorem zoD(r o:Rg)(w:World):Calls Tryz.prog 156 #[rv r,rv o] w fun e w'=>e=.returned (rv (r.or o))∧Below w.heap.size w w':=by
 have hb:=zcp (min r.lo o.lo) (max r.hi o.hi)
 go_enter Tryz.func156,Tryz.ntmps156
 go_wp2
 exact zbD (r:=r.or o) Tryz.results156 rfl rfl (zaB _ _ _ _ _ 0) (zaB _ _ _ _ _ 1) ⟨rfl,zaK⟩
theorem zjy(r o:Rg)(w:World):Calls Tryz.prog 182 #[rv r,rv o] w fun e w'=>e=.returned (.bool (r.within o))∧Below w.heap.size w w':=by
 by_cases h:o.lo≤r.lo
 ·go_enter Tryz.func182,Tryz.ntmps182
  go_wp2
  go_ret
  exact⟨by simp [Rg.within,h],box2⟩
 ·have hd:decide (o.lo≤r.lo)=false:=by simpa using h
  go_enter Tryz.func182,Tryz.ntmps182
  go_wp2
  go_ret
  exact⟨by unfold Rg.within;rw [hd];rfl,box2⟩
theorem zlH(r:Rg)(w:World):Calls Tryz.prog 237 #[rv r] w fun e w'=>e=.returned (.int .u64 r.width)∧Below w.heap.size w w':=by
 have e:IntKind.u64.wrap (IntKind.u64.wrap r.hi-IntKind.u64.wrap r.lo)=r.width:=by
  rw [zkk,zkk,zkk];unfold Rg.width;omega
 go_enter Tryz.func237,Tryz.ntmps237
 go_wp2
 go_ret
 exact⟨rfl,box1⟩
theorem zxy{x a:Int}(hx:i64 x)(h1:¬a=-1):i64 (x.tdiv a):=by
 have hn:(x.tdiv a).natAbs=x.natAbs/a.natAbs:=Int.natAbs_tdiv x a
 by_cases h0:a=0
 ·subst h0;simp [i64]
 ·by_cases h2:a=1
  ·subst h2;simpa using hx
  ·have:x.natAbs/a.natAbs≤x.natAbs/2:=Nat.div_le_div_left (by omega) (by omega)
   unfold i64 at *
   omega
theorem zdk(a b:Int)(w:World):Calls Tryz.prog 246 #[.int .i64 a,.int .i64 b] w fun e w'=>e=.returned (.bool (zbC a b))∧w'=w:=by
 by_cases h1:a=-1
 ·subst h1
  have e0:zbC (-1) b=(b == -9223372036854775808):=by unfold zbC;rw [if_pos rfl];rfl
  rw [e0]
  go_enter Tryz.func246,Tryz.ntmps246
  go_wp2
  go_ret
  exact⟨rfl,rfl⟩
 ·have e0:zbC a b=(a != 0&&wrap64 ((wrap64 (a*b)).tdiv a) != b):=by
   unfold zbC
   rw [if_neg h1,zcz,zcz,zfV (zxy (zdO _) h1)]
   by_cases h0:a=0 <;> by_cases h2:(w64 (a*b)).tdiv a=b <;> simp [h0,h2,bne]
  have h1':(a == -1)=false:=by simpa using h1
  by_cases h0:a=0
  ·rw [e0]
   clear e0
   subst h0
   go_enter Tryz.func246,Tryz.ntmps246
   go_wp2
   go_ret
   exact⟨rfl,rfl⟩
  ·rw [e0]
   clear e0
   have h0':(a != 0)=true:=by simpa using h0
   go_enter Tryz.func246,Tryz.ntmps246
   go_wp2
   go_ret
   exact⟨by rw [h0',Bool.true_and];rfl,rfl⟩
def zf2(l:List Int):Nat→Int
 | 0=>l.headD 0
 | k+1=>min (zf2 l k) (l[k+1]?.getD 0)
def zf3(l:List Int):Nat→Int
 | 0=>l.headD 0
 | k+1=>max (zf3 l k) (l[k+1]?.getD 0)
theorem zoG(w:World)(b cap:Nat)(l:List Int)(h0:0<l.length)(hn:l.length≤1000)(hc:∀ j (h:j<l.length),w.cell? ⟨b,j,none⟩=some (.int .i64 l[j])):
  Calls Tryz.prog 247 #[.slice (some ⟨b,0,none⟩) l.length cap] w fun e w'=>e=.returned (.int .i64 (zf2 l (l.length-1)))∧w'=w:=by
 have c0:=hc 0 h0
 have e0:zf2 l 0=l[0]:=by cases l with|nil=>simp at h0|cons x r=>rfl
 go_enter Tryz.func247,Tryz.ntmps247
 go_wp2
 go_loopw [4,3] (fun ti tm wr=>∃ k:Nat,1≤k∧k≤l.length∧ti=.int .i64 (k:Int)∧tm=.int .i64 (zf2 l (k-1))∧wr=w) (fun ti _ _=>l.length-(intOf ti).toNat)
 case atStart=>exact⟨1,by omega,by omega,rfl,by rw [e0],rfl⟩
 case round =>
  obtain⟨k,h1,hk,rfl,rfl,rfl⟩:=hrel
  by_cases hlt:k<l.length
  ·have ck:=hc k hlt
   have hk0:(0:Int)≤(k:Int):=by omega
   have hk1:(k:Int)<(l.length:Int):=by omega
   have HM:Hid (zf2 l k=min (zf2 l (k-1)) l[k]):=by
    obtain⟨k',rfl⟩:∃ k',k=k'+1:=⟨k-1,by omega⟩
    show min (zf2 l k') (l[k'+1]?.getD 0)=_
    rw [List.getElem?_eq_getElem hlt];rfl
   clear hc c0
   generalize l[k]=x at ck HM
   generalize zf2 l (k-1)=y at HM
   go_wp2
   go_roundw
   case rel=>exact⟨k+1,by omega,by omega,by go_num,by simp only [Nat.add_sub_cancel];rw [HM.out],by first|rfl|trivial⟩
   case measure=>simp [intOf];omega
  ·obtain rfl:k=l.length:=by omega
   go_wp2
   go_ret
   exact⟨rfl,rfl⟩
theorem zoH(w:World)(b cap:Nat)(l:List Int)(h0:0<l.length)(hn:l.length≤1000)(hc:∀ j (h:j<l.length),w.cell? ⟨b,j,none⟩=some (.int .i64 l[j])):
  Calls Tryz.prog 248 #[.slice (some ⟨b,0,none⟩) l.length cap] w fun e w'=>e=.returned (.int .i64 (zf3 l (l.length-1)))∧w'=w:=by
 have c0:=hc 0 h0
 have e0:zf3 l 0=l[0]:=by cases l with|nil=>simp at h0|cons x r=>rfl
 go_enter Tryz.func248,Tryz.ntmps248
 go_wp2
 go_loopw [4,3] (fun ti tm wr=>∃ k:Nat,1≤k∧k≤l.length∧ti=.int .i64 (k:Int)∧tm=.int .i64 (zf3 l (k-1))∧wr=w) (fun ti _ _=>l.length-(intOf ti).toNat)
 case atStart=>exact⟨1,by omega,by omega,rfl,by rw [e0],rfl⟩
 case round =>
  obtain⟨k,h1,hk,rfl,rfl,rfl⟩:=hrel
  by_cases hlt:k<l.length
  ·have ck:=hc k hlt
   have hk0:(0:Int)≤(k:Int):=by omega
   have hk1:(k:Int)<(l.length:Int):=by omega
   have HM:Hid (zf3 l k=max (zf3 l (k-1)) l[k]):=by
    obtain⟨k',rfl⟩:∃ k',k=k'+1:=⟨k-1,by omega⟩
    show max (zf3 l k') (l[k'+1]?.getD 0)=_
    rw [List.getElem?_eq_getElem hlt];rfl
   clear hc c0
   generalize l[k]=x at ck HM
   generalize zf3 l (k-1)=y at HM
   go_wp2
   go_roundw
   case rel=>exact⟨k+1,by omega,by omega,by go_num,by simp only [Nat.add_sub_cancel];rw [HM.out],by first|rfl|trivial⟩
   case measure=>simp [intOf];omega
  ·obtain rfl:k=l.length:=by omega
   go_wp2
   go_ret
   exact⟨rfl,rfl⟩
end Go.Proofs.YtfpgjkbjbbgciaaGreatDoor
