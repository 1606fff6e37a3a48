import Derived.Test.YtfpgjkbjbbgciaaGreatDoorMk13
set_option maxRecDepth 100000
set_option maxHeartbeats 8000000
namespace Go.Proofs.YtfpgjkbjbbgciaaGreatDoor
section
open Go.RowKit Sp
def zbM(s:ByteArray)(R:Int × Int):Prop:=∀ w,LibW w→Calls Tryz.prog 44 #[.string s] w fun e w' =>
 Below w.heap.size w w'∧(R=(0,0)∧(∃ v,e=.returned v)∨¬R=(0,0)∧e=zak R.1 R.2)
theorem zy3(s:ByteArray)(h:zbM s (0,0))(w:World)(hw:LibW w)(p:Addr)(hp:w.cell? p=some (.string s)):
  Calls Tryz.prog 43 #[.pointer (some p)] w fun e w'=>e=.returned (.tuple #[])∧Below w.heap.size w w':=by
 have b:=(h w hw).mono (R':=fun e w'=>(∃ v,e=.returned v)∧Below w.heap.size w w') (by
  rintro e w' ⟨a,⟨_,h⟩|⟨h,_⟩⟩
  ·exact⟨h,a⟩
  ·exact absurd rfl h)
 go_enter Tryz.func43,Tryz.ntmps43;go_wp2_with(go_at_call 44;refine b.mono ?_;rintro e w1 ⟨⟨v,rfl⟩,a⟩)
 go_end0
 exact⟨rfl,a⟩
theorem zy4(s:ByteArray)(R:Int × Int)(hR:¬R=(0,0))(h:zbM s R)(w:World)(hw:LibW w)(p:Addr)(hp:w.cell? p=some (.string s)):
  Calls Tryz.prog 43 #[.pointer (some p)] w fun e w'=>e=zak R.1 R.2∧Below w.heap.size w w':=by
 have b:=(h w hw).mono (R':=fun e w'=>e=zak R.1 R.2∧Below w.heap.size w w') (by
  rintro e w' ⟨a,⟨h,_⟩|⟨_,h⟩⟩
  ·exact absurd h hR
  ·exact⟨h,a⟩)
 go_enter Tryz.func43,Tryz.ntmps43;go_wp2_with(go_at_call 44;refine b.mono ?_;rintro e w1 ⟨rfl,a⟩)
 exact⟨rfl,rfl,a⟩
theorem zq3(s:ByteArray)(h:zbM s (0,0))(w:World)(hw:LibW w)(p:Addr)(hp:w.cell? p=some (.string s)):
  Calls Tryz.prog 42 #[.func (.func 43) #[] #[.pointer (some p)]] w fun e w'=>e=.returned (.tuple #[.int .i64 0,.int .i64 0])∧Below w.heap.size w w':=by
 have hmf:∀(fn:Go.Fn) (first cap:Array Value) (w:World),(Instr.makeFunc fn first cap).run Tryz.prog w=.ok (.func fn first cap) w:=fun _ _ _ _=>rfl;have d:=World.block_lt_of_cell? w p hp;have i:LibW ((w.alloc (.cells #[.int .i64 0] 22)).alloc (.cells #[.int .i64 0] 3)):=hw.below (((Below.refl _ _).alloc (Nat.le_refl _) _).alloc (by simp) _);have g:((w.alloc (.cells #[.int .i64 0] 22)).alloc (.cells #[.int .i64 0] 3)).cell? p=some (.string s):=by
  rw [World.cell?_alloc_lt _ _ p (by simp;omega),World.cell?_alloc_lt _ _ p d];exact hp
 have a:=zy3 s h _ i p g
 go_enter_defers Tryz.func42,Tryz.ntmps42
 go_wp2_with(go_at_call 43;refine a.mono ?_;rintro e b ⟨rfl,j⟩;obtain⟨hc,hf⟩:=zhL j)
 have m:b.cell? ⟨w.heap.size,0,none⟩=some (.int .i64 0):=by rw [hc _ _ (by simp;omega)];simp
 have n:b.cell? ⟨w.heap.size+1,0,none⟩=some (.int .i64 0):=by rw [hc _ _ (by simp)];simp
 have k:((b.setCell ⟨w.heap.size,0,none⟩ (.int .i64 0)).setCell ⟨w.heap.size+1,0,none⟩ (.int .i64 0)).cell? ⟨w.heap.size,0,none⟩=some (.int .i64 0):=by
  rw [World.cell?_setCell_other]
  ·exact World.cell?_setCell_same b _ _ m
  ·simp
 have l:((b.setCell ⟨w.heap.size,0,none⟩ (.int .i64 0)).setCell ⟨w.heap.size+1,0,none⟩ (.int .i64 0)).cell? ⟨w.heap.size+1,0,none⟩=some (.int .i64 0):=by
  refine World.cell?_setCell_same (u:=.int .i64 0) _ _ _ ?_;rw [World.cell?_setCell_other]
  ·exact n
  ·simp
 have c:=((znp _ _ _ j).setCell (p:=⟨w.heap.size,0,none⟩) (Nat.le_refl _) (.int .i64 0)).setCell (p:=⟨w.heap.size+1,0,none⟩) (Nat.le_succ _) (.int .i64 0);generalize (b.setCell ⟨w.heap.size,0,none⟩ (.int .i64 0)).setCell ⟨w.heap.size+1,0,none⟩ (.int .i64 0)=X at k l c ⊢;refine leaves_cons (f:=64) (args:=#[.pointer (some ⟨w.heap.size,0,none⟩),.pointer (some ⟨w.heap.size+1,0,none⟩)]) (by simp) (by simp [go_sem]) ?_;refine(zjD w.heap.size _).mono ?_;rintro e u' w'' ⟨rfl,rfl,rfl⟩;exact⟨.tuple #[.int .i64 0,.int .i64 0],by simp [results,Tryz.results42,go_sem,k,l],rfl,c⟩
theorem zq4(s:ByteArray)(R:Int × Int)(hR:¬R=(0,0))(h:zbM s R)(w:World)(hw:LibW w)(p:Addr)(hp:w.cell? p=some (.string s)):
  Calls Tryz.prog 42 #[.func (.func 43) #[] #[.pointer (some p)]] w fun e w'=>e=.returned (.tuple #[.int .i64 R.1,.int .i64 R.2])∧Below w.heap.size w w':=by
 have hmf:∀(fn:Go.Fn) (first cap:Array Value) (w:World),(Instr.makeFunc fn first cap).run Tryz.prog w=.ok (.func fn first cap) w:=fun _ _ _ _=>rfl;have b:=World.block_lt_of_cell? w p hp;have i:LibW ((w.alloc (.cells #[.int .i64 0] 22)).alloc (.cells #[.int .i64 0] 3)):=hw.below (((Below.refl _ _).alloc (Nat.le_refl _) _).alloc (by simp) _);have g:((w.alloc (.cells #[.int .i64 0] 22)).alloc (.cells #[.int .i64 0] 3)).cell? p=some (.string s):=by
  rw [World.cell?_alloc_lt _ _ p (by simp;omega),World.cell?_alloc_lt _ _ p b];exact hp
 have a:=zy4 s R hR h _ i p g
 go_enter_defers Tryz.func42,Tryz.ntmps42
 go_wp2_with(go_at_call 43;refine a.mono ?_;rintro e c ⟨rfl,j⟩;obtain⟨hc,hf⟩:=zhL j)
 have o:c.cell? ⟨w.heap.size,0,none⟩=some (.int .i64 0):=by rw [hc _ _ (by simp;omega)];simp
 have q:c.cell? ⟨w.heap.size+1,0,none⟩=some (.int .i64 0):=by rw [hc _ _ (by simp)];simp
 have k:c.frozen? ⟨w.heap.size,0,none⟩=false:=by rw [hf _ _ (by simp;omega)];simp
 have l:c.frozen? ⟨w.heap.size+1,0,none⟩=false:=by rw [hf _ _ (by simp)];simp
 refine leaves_cons (f:=64) (args:=#[.pointer (some ⟨w.heap.size,0,none⟩),.pointer (some ⟨w.heap.size+1,0,none⟩)]) (by simp) (by simp [go_sem]) ?_;refine(zf9 w.heap.size 0 0 R.1 R.2 _ o q k l).mono ?_;rintro e u' w'' ⟨rfl,rfl,d,m,n⟩;exact⟨.tuple #[.int .i64 R.1,.int .i64 R.2],by simp [results,Tryz.results42,go_sem,m,n],rfl,(znp _ _ _ j).trans d⟩
theorem zn8(s:ByteArray)(R:Int × Int)(h:zbM s R)(w:World)(hw:LibW w)(p:Addr)(hp:w.cell? p=some (.string s)):
  Calls Tryz.prog 42 #[.func (.func 43) #[] #[.pointer (some p)]] w fun e w'=>e=.returned (.tuple #[.int .i64 R.1,.int .i64 R.2])∧Below w.heap.size w w':=by
 by_cases a:R=(0,0)
 ·subst a;exact zq3 s h w hw p hp
 ·exact zq4 s R a h w hw p hp
theorem zsT(s:ByteArray)(R:Int × Int)(h:zbM s R)(w:World)(hw:LibW w):
  Calls Tryz.prog 15 #[.string s] w fun e w'=>e=.returned (.tuple #[.int .i64 R.1,.int .i64 R.2])∧Below w.heap.size w w':=by
 have hmf:∀(fn:Go.Fn) (first cap:Array Value) (w:World),(Instr.makeFunc fn first cap).run Tryz.prog w=.ok (.func fn first cap) w:=fun _ _ _ _=>rfl;have b:LibW (w.alloc (.cells #[.string s] 9)):=hw.below ((Below.refl _ _).alloc (Nat.le_refl _) _);have a:=zn8 s R h (w.alloc (.cells #[.string s] 9)) b ⟨w.heap.size,0,none⟩ (by simp);go_enter Tryz.func15,Tryz.ntmps15;go_wp2_with(go_at_call 42;refine a.mono ?_;rintro e w1 ⟨rfl,c⟩)
 go_ret2;exact⟨rfl,((Below.refl _ _).alloc (Nat.le_refl _) _).trans (c.mono (by simp))⟩
theorem znB(sort line:Int)(word:ByteArray)(a b c n:Int)(nm:ByteArray)(w:World):
  Calls Tryz.prog 104 #[stm sort line word a b c n nm] w fun e w'=>e=.returned (.bool (zbt word))∧Below w.heap.size w w':=by
 cases h:(word.toList == [99,97,108,108]) with
 | true =>
  have e:zbt word=true:=h;rw [e];have d:=zaB word _ h;subst d;clear h e;go_enter Tryz.func104,Tryz.ntmps104;go_wp2;go_ret;exact⟨rfl,(Below.refl _ _).alloc (Nat.le_refl _) _⟩
 | false =>
  have e:zbt word=false:=h;rw [e];clear e;go_enter Tryz.func104,Tryz.ntmps104;go_wp2;go_ret;exact⟨rfl,(Below.refl _ _).alloc (Nat.le_refl _) _⟩
theorem zlO(sort line:Int)(word:ByteArray)(a b c n:Int)(nm:ByteArray)(w:World):
  Calls Tryz.prog 102 #[stm sort line word a b c n nm] w fun e w'=>e=.returned (.bool (zaF word))∧Below w.heap.size w w':=by
 have e:zaF word=(word.toList == [106,117,109,112]||word.toList == [108,101,115,115]||word.toList == [115,97,109,101]):=rfl;rw [e];clear e;cases h1:(word.toList == [106,117,109,112]) with
 | true =>
  have d:=zaB word _ h1;subst d;clear h1;go_enter Tryz.func102,Tryz.ntmps102;go_wp2;go_ret;exact⟨rfl,(Below.refl _ _).alloc (Nat.le_refl _) _⟩
 | false =>
  cases h2:(word.toList == [108,101,115,115]) with
  | true =>
   have d:=zaB word _ h2;subst d;clear h1 h2;go_enter Tryz.func102,Tryz.ntmps102;go_wp2;go_ret;exact⟨rfl,(Below.refl _ _).alloc (Nat.le_refl _) _⟩
  | false =>
   cases h3:(word.toList == [115,97,109,101]) with
   | true =>
    have d:=zaB word _ h3;subst d;clear h1 h2 h3;go_enter Tryz.func102,Tryz.ntmps102;go_wp2;go_ret;exact⟨rfl,(Below.refl _ _).alloc (Nat.le_refl _) _⟩
   | false =>
    go_enter Tryz.func102,Tryz.ntmps102;go_wp2;go_ret;exact⟨rfl,(Below.refl _ _).alloc (Nat.le_refl _) _⟩
theorem zq6(sort line:Int)(word:ByteArray)(a b c n:Int)(nm:ByteArray)(w:World):
  Calls Tryz.prog 132 #[stm sort line word a b c n nm] w fun e w'=>e=.returned (.bool (ends word))∧Below w.heap.size w w':=by
 have e:ends word=(word.toList == [106,117,109,112]||word.toList == [98,97,99,107]||word.toList == [115,116,111,112]):=rfl;rw [e];clear e;cases h1:(word.toList == [106,117,109,112]) with
 | true =>
  have d:=zaB word _ h1;subst d;clear h1;go_enter Tryz.func132,Tryz.ntmps132;go_wp2;go_ret;exact⟨rfl,(Below.refl _ _).alloc (Nat.le_refl _) _⟩
 | false =>
  cases h2:(word.toList == [98,97,99,107]) with
  | true =>
   have d:=zaB word _ h2;subst d;clear h1 h2;go_enter Tryz.func132,Tryz.ntmps132;go_wp2;go_ret;exact⟨rfl,(Below.refl _ _).alloc (Nat.le_refl _) _⟩
  | false =>
   cases h3:(word.toList == [115,116,111,112]) with
   | true =>
    have d:=zaB word _ h3;subst d;clear h1 h2 h3;go_enter Tryz.func132,Tryz.ntmps132;go_wp2;go_ret;exact⟨rfl,(Below.refl _ _).alloc (Nat.le_refl _) _⟩
   | false =>
    go_enter Tryz.func132,Tryz.ntmps132;go_wp2;go_ret;exact⟨rfl,(Below.refl _ _).alloc (Nat.le_refl _) _⟩
theorem znC(l:List It)(k:Nat)(h:k<l.length)(j:Nat)(hj:j<8):(zav l)[k*8+j]?=l[k].cells[j]?:=by
 induction l generalizing k with
 | nil=>simp at h
 | cons i l ih =>
  have e:zav (i :: l)=i.cells++zav l:=by simp [zav]
  rw [e];cases k with
  | zero =>
   rw [List.getElem?_append_left (by simp;omega)];simp
  | succ k =>
   rw [List.getElem?_append_right (by simp;omega)];have:=ih k (by simpa using h);simp only [List.getElem_cons_succ];rw [←this];congr 1;simp;omega
theorem zg0{w:World}{B:Nat}{v:Value}{its:List It}(h:w.ownsRow B 135 8 v its.length (zav its))(hp:0<its.length):
  ∃ g cap,v=.slice (some ⟨g,0,none⟩) its.length cap∧B≤g∧g<w.heap.size∧∀ k (hk:k<its.length),
   w.cell? ⟨g,k*8,none⟩=some (.int .i64 its[k].sort)∧w.cell? ⟨g,k*8+1,none⟩=some (.int .i64 its[k].line)∧w.cell? ⟨g,k*8+2,none⟩=some (.string its[k].word) ∧
   w.cell? ⟨g,k*8+3,none⟩=some (.int .i64 its[k].a)∧w.cell? ⟨g,k*8+4,none⟩=some (.int .i64 its[k].b)∧w.cell? ⟨g,k*8+5,none⟩=some (.int .i64 its[k].c) ∧
   w.cell? ⟨g,k*8+6,none⟩=some (.int .i64 its[k].n)∧w.cell? ⟨g,k*8+7,none⟩=some (.string its[k].nm):=by
 obtain⟨g,cap,rfl,e,d⟩:=h.form hp;refine⟨g,cap,rfl,e,d,fun k hk=>?_⟩;have H:∀ j,j<8→w.cell? ⟨g,k*8+j,none⟩=its[k].cells[j]?:=fun j hj=>by
  rw [World.ownsRow.cellAt h (k*8+j) (by omega),znC its k hk j hj]
 exact⟨H 0 (by omega),H 1 (by omega),H 2 (by omega),H 3 (by omega),H 4 (by omega),H 5 (by omega),H 6 (by omega),H 7 (by omega)⟩
theorem znD(w:World)(B:Nat)(v:Value)(h:w.ownsRow B 135 8 v 0 (zav [])):
  Calls Tryz.prog 67 #[v] w fun e w'=>e=zak 2 0∧w'=w:=by
 have b:∃ d a,v=.slice d 0 a:=by
  rcases h.2 with ⟨b,_⟩|⟨g,a,cur,b,_⟩
  ·exact⟨none,0,b⟩
  ·exact⟨_,a,b⟩
 obtain⟨d,a,rfl⟩:=b;go_enter Tryz.func67,Tryz.ntmps67;go_wp2_with(go_at_call 79;refine(zay _ _ _).mono ?_;rintro e wx ⟨rfl,c⟩;subst c)
 exact⟨rfl,rfl,rfl⟩
theorem zq7(w:World)(B:Nat)(v:Value)(i:It)(r:List It)(h:w.ownsRow B 135 8 v (i :: r).length (zav (i :: r)))(hn:r.length≤4096)(hs:¬i.sort=0):
  Calls Tryz.prog 67 #[v] w fun e w'=>e=zak 2 i.line∧w'=w:=by
 obtain⟨g,cap,rfl,_,_,c⟩:=zg0 h (by simp);obtain⟨d,f,_⟩:=c 0 (by simp);simp only [List.getElem_cons_zero,Nat.zero_mul,Nat.zero_add] at d f;have a:(i :: r).length=r.length+1:=by simp
 rw [a];have hs':(i.sort == 0)=false:=by simpa using hs
 clear c a h;go_enter Tryz.func67,Tryz.ntmps67;go_wp2_with(go_at_call 79;refine(zay _ _ _).mono ?_;rintro e wx ⟨rfl,b⟩;subst b)
 all_goals exact⟨rfl,rfl,rfl⟩
theorem znE(w:World)(B:Nat)(v:Value)(i:It)(r:List It)(h:w.ownsRow B 135 8 v (i :: r).length (zav (i :: r)))(hn:r.length≤4096)(hs:i.sort=0):
  Calls Tryz.prog 67 #[v] w fun e w'=>e=.returned (.tuple #[])∧w'=w:=by
 obtain⟨g,cap,rfl,_,_,c⟩:=zg0 h (by simp);obtain⟨b,d,_⟩:=c 0 (by simp);simp only [List.getElem_cons_zero,Nat.zero_mul,Nat.zero_add] at b d;have a:(i :: r).length=r.length+1:=by simp
 rw [a];rw [hs] at b;clear c a h;go_enter Tryz.func67,Tryz.ntmps67;go_wp2
 go_end0
 exact⟨rfl,rfl⟩
end
section
open Sp
def zdi(names labs:List ByteArray)(k:Key):Bool :=
 (zaF k.word&&!labs.any (fun y=>eqW y k.nm))||(zbt k.word&&!names.any (fun y=>eqW y k.nm))
def zaI(names labs:List ByteArray)(b:List Key):Option Int:=(b.find? (zdi names labs)).map Key.line
def zc9(names:List ByteArray):List Fn→Option Int
 | []=>none
 | f :: r=>match zaI names (labsOf f.body) f.body with|some l=>some l|none=>zc9 names r
def endK:List Fn→Option Int
 | []=>none
 | f :: r=>if zq5 f.body=true then endK r else some f.line
def zaP:List Fn→List Key→Option Int
 | _,[]=>none
 | F,k :: r=>if bad0 F k=true then some k.line else zaP (addK F k) r
def zef(e:Int)(o:Option Int)(c:Int × Int):Int × Int:=match o with|some l=>(e,l)|none=>c
theorem zy5(L:List Said)(hw:WfAll L)(i:Nat)(c:Int × Int):pass L 2 i c=zef 5 (endK (zaN L i)) c:=by
 by_cases h:i<L.length
 ·have b:badB L 2 i=(if L[i].kind=102 then !zfF L (i+1) false else false):=by
   simp [badB,zdv,List.getElem?_eq_getElem h]
  by_cases a:L[i].kind=102
  ·rw [if_pos a,zsV L hw (i+1) false] at b;change badB L 2 i=!zq5 (zar L (i+1)) at b;rw [zbN L i h a];cases he:zq5 (zar L (i+1)) with
   | true =>
    rw [zc3 L 2 i c h (by rw [b,he];rfl),zy5 L hw (i+1) c];simp [endK,he]
   | false =>
    rw [zfI L 2 i c h (by rw [b,he];rfl)];simp [endK,he,zef]
  ·rw [if_neg a] at b;rw [zc3 L 2 i c h b,zbH L i h a];exact zy5 L hw (i+1) c
 ·rw [zfH L 2 i c h,zcF L i h];rfl
termination_by L.length-i
def NmOk(L:List Said):Prop:=∀ q∈L,q.kind=105→(zaF (q.word 0)=true∨zbt (q.word 0)=true)→zcC q=q.last
theorem zis(x:ByteArray)(h:zaF x=true):zbt x=false:=by
 unfold zaF isW at h;unfold zbt isW;simp only [Bool.or_eq_true,beq_iff_eq] at h;rcases h with (h|h)|h <;> rw [h] <;> decide
theorem zlL:zaF ⟨#[]⟩=false:=by simp [zaF,isW,ByteArray.toList_eq]
theorem znA:zbt ⟨#[]⟩=false:=by simp [zbt,isW,ByteArray.toList_eq]
theorem zy6(L:List Said)(_hw:WfAll L)(hn:NmOk L)(names labs:List ByteArray)(i o:Nat)(h:i<L.length)(ho:zfl L i=(o:Int))
  (hN:∀ x,names.any (fun y=>eqW y x)=decide (0≤zb1 L x 0)) (hL:∀ x,labs.any (fun y=>eqW y x)=decide (0≤zbg L x (o+1))) :
  badB L 1 i=zdi names labs (keyQ L[i] ((i:Int)+1)):=by
 have e:badB L 1 i=zch L i:=by simp [badB]
 rw [e];unfold zch;rw [List.getElem?_eq_getElem h];dsimp only;by_cases a:L[i].kind=105
 ·rw [if_pos a];have d:zhV L i L[i].last=zbg L L[i].last (o+1):=by
   unfold zhV;rw [ho];congr 1
  have f:zdQ L[i]=L[i].word 0:=by simp [zdQ,a]
  unfold zdi keyQ;dsimp only;rw [f,d,hN,hL];by_cases b:zaF (L[i].word 0)=true
  ·rw [if_pos b,hn _ (List.getElem_mem h) a (.inl b),b,zis _ b];simp [←Int.not_le]
  ·rw [if_neg b];by_cases c:zbt (L[i].word 0)=true
   ·rw [if_pos c,hn _ (List.getElem_mem h) a (.inr c),c];simp [b,←Int.not_le]
   ·rw [if_neg c];simp [b,c]
 ·rw [if_neg a];have f:zdQ L[i]=⟨#[]⟩:=by simp [zdQ,a]
  unfold zdi keyQ;dsimp only;rw [f,zlL,znA];rfl
theorem zer(names labs:List ByteArray)(k:Key)(b:List Key):zaI names labs (k :: b)=if zdi names labs k=true then some k.line else zaI names labs b:=by
 unfold zaI;rw [List.find?_cons];cases zdi names labs k <;> rfl
theorem zwa(L:List Said)(hw:WfAll L)(hn:NmOk L)(names:List ByteArray)(hN:∀ x,names.any (fun y=>eqW y x)=decide (0≤zb1 L x 0))(c:Int × Int)(i o:Nat)(ho:zfl L i=(o:Int))(labs:List ByteArray)
  (hL:∀ x,labs.any (fun y=>eqW y x)=decide (0≤zbg L x (o+1))) :
  pass L 1 (i+1) c=zef 4 (match zaI names labs (zar L (i+1)) with|some l=>some l|none=>zc9 names (zaN L (i+1))) c:=by
 by_cases h:i+1<L.length
 ·by_cases b:L[i+1].kind=102
  ·have a:=zfE L (i+1) h b;have d:badB L 1 (i+1)=false:=by simp [badB,zch,List.getElem?_eq_getElem h,b]
   rw [zc3 L 1 (i+1) c h d,zcE L (i+1) h b,zbN L (i+1) h b,zwa L hw hn names hN c (i+1) (i+1) a (labsOf (zar L (i+1+1))) (fun x=>zfQ L (i+1+1) x)];rfl
  ·have a:zfl L (i+1)=(o:Int):=(zdB L i h b).trans ho;have d:=zy6 L hw hn names labs (i+1) o h a hN hL;rw [zbH L (i+1) h b];by_cases e:L[i+1].kind=0
   ·have d:badB L 1 (i+1)=false:=by simp [badB,zch,List.getElem?_eq_getElem h,e]
    rw [zc3 L 1 (i+1) c h d,zbT L (i+1) h e];exact zwa L hw hn names hN c (i+1) o a labs hL
   ·rw [zb7 L (i+1) h e b,zer];cases hk:zdi names labs (keyQ L[i+1] (((i+1:Nat):Int)+1)) with
    | true=>rw [zfI L 1 (i+1) c h (d.trans hk)];rfl
    | false =>
     rw [zc3 L 1 (i+1) c h (d.trans hk)];exact zwa L hw hn names hN c (i+1) o a labs hL
 ·rw [zfH L 1 (i+1) c h,zcu L _ h,zcF L _ h];rfl
termination_by L.length-i
end
section
open Go.RowKit Sp
structure DiM(B:Nat)(w:World)(px:Nat)(cv:Value)(code:List Int)(k:Nat):Prop where
 c0:w.cell? ⟨px,0,none⟩=some cv
 row:SlB w B cv code
 c1:w.cell? ⟨px,1,none⟩=some (.int .i64 (k:Int))
 le:k≤code.length
 fz:∀ j,w.frozen? ⟨px,j,none⟩=false
 len:code.length≤9223372036854775807
 num:∀ x∈code,i64 x
 hB:B≤px
 kx:∃ c,w.heap[px]?=some (.cells c 76 (0,0))
theorem zpT{w:World}{q o:Nat}{v:Value}{b:Nat}{t:TypeId}(h:∃ c,w.heap[b]?=some (.cells c t (0,0))):∃ c,(w.setCell ⟨q,o,none⟩ v).heap[b]?=some (.cells c t (0,0)):=by
 obtain⟨c,h⟩:=h;by_cases e:b=q
 ·subst e;exact⟨_,heap_setCell_same w b o c t v h⟩
 ·exact⟨c,(Below.heap_setCell _ _ _ _ e).trans h⟩
theorem DiM.lt{B:Nat}{w:World}{px:Nat}{cv:Value}{code:List Int}{k:Nat}(h:DiM B w px cv code k):px<w.heap.size:=World.block_lt_of_cell? w _ h.c0
theorem DiM.block{B:Nat}{w w':World}{px:Nat}{cv:Value}{code:List Int}{k:Nat}(h:DiM B w px cv code k)(hb:Below B w w')(e:w'.heap[px]?=w.heap[px]?):DiM B w' px cv code k:=by
 have c:∀ j,w'.cell? ⟨px,j,none⟩=w.cell? ⟨px,j,none⟩:=fun j=>World.cell?_of_block (w:=w) (a:=⟨px,j,none⟩) e;exact⟨(c _).trans h.c0,h.row.below hb,(c _).trans h.c1,h.le,fun j=>(World.frozen?_of_block (w:=w) (a:=⟨px,j,none⟩) e).trans (h.fz j),h.len,h.num,h.hB,by rw [e];exact h.kx⟩
theorem DiM.set{B:Nat}{w:World}{px:Nat}{cv:Value}{code:List Int}{k:Nat}(h:DiM B w px cv code k)(k2:Nat)(hk:k2≤code.length):DiM B (w.setCell ⟨px,1,none⟩ (.int .i64 (k2:Int))) px cv code k2:=by
 have a:Below B w (w.setCell ⟨px,1,none⟩ (.int .i64 (k2:Int))):=(Below.refl B w).setCell (p:=⟨px,1,none⟩) h.hB _;refine⟨?_,h.row.below a,?_,hk,fun j=>zcB w _ _ j _ (h.fz j),h.len,h.num,h.hB,zpT h.kx⟩
 ·rw [zat w px 1 0 _ _ h.c1,if_neg (by omega)];exact h.c0
 ·rw [zat w px 1 1 _ _ h.c1,if_pos rfl]
theorem DiM.drewN{B:Nat}{w:World}{px:Nat}{cv:Value}{code:List Int}{k:Nat}(h:DiM B w px cv code k)(n:Nat):DiM B (w.drewN n) px cv code k:=⟨h.c0,h.row,h.c1,h.le,h.fz,h.len,h.num,h.hB,h.kx⟩
theorem zkp(w:World)(n:Nat)(r:Option Nat):w.grownBy (w.drewN n) r:=⟨rfl,rfl,rfl,Nat.le_refl _,fun _ _ _=>rfl⟩
theorem zbD(w:World)(n B:Nat):Below B w (w.drewN n):=⟨rfl,rfl,rfl,Nat.le_refl _,fun _ _=>rfl⟩
theorem zmT{w w':World}{r:Option Nat}(h:w.grownBy w' r){n:Nat}:w.grownBy (w'.drewN n) r:=⟨h.os,h.tape,h.output,h.size,h.block⟩
def zye(B:Nat)(w:World)(px:Nat)(cv:Value)(code:List Int)(w':World):Prop:=∃ k,DiM B w' px cv code k∧w.grownBy w' (some px)
theorem ze5{B:Nat}{w:World}{px:Nat}{cv:Value}{code:List Int}{k:Nat}(h:DiM B w px cv code k)(n:Int)(hn:0<n):
  Calls Tryz.prog 41 #[.pointer (some ⟨px,0,none⟩),.int .i64 n] w fun e w'=>∃ c:Nat,e=.returned (.int .i64 (c:Int))∧(c:Int)<n∧zye B w px cv code w':=by
 have c0:=h.c0;have c1:=h.c1;have f1:=h.fz 1;have hle:=h.le;have hln:=h.len;obtain⟨ao,cap,rfl,hcap,b⟩:=h.row;by_cases l:k<code.length
 ·obtain⟨g,o,rfl,hg,hgs,a⟩:=b (by omega);have m:=a k l;have q:=h.num _ (List.getElem_mem l);have f:0≤zkX code[k] n:=Int.emod_nonneg _ (by omega);have d:zkX code[k] n<n:=Int.emod_lt_of_pos _ hn;have i:=fun W=>zpM code[k] n W hn q;clear a b;generalize code[k]=x at m i f d;obtain⟨c,hc⟩:=Int.eq_ofNat_of_zero_le f;rw [hc] at i d;have hk0:(0:Int)≤(k:Int):=by omega
  have hk1:(k:Int)<(code.length:Int):=by omega
  go_enter Tryz.func41,Tryz.ntmps41;go_wp2_with fail
  go_quiet(fail)
  go_wp2_with fail
  go_region_with(go_at_call 37;(with_reducible refine(i _).mono ?_);rintro e wx ⟨rfl,j⟩;have p:=j.symm;subst p)
  all_goals go_wp2
  all_goals go_ret
  all_goals exact⟨c,rfl,d,k+1,(h.drewN _).set (k+1) (by omega),zah (zbD _ _ _)⟩
 ·go_enter Tryz.func41,Tryz.ntmps41;go_wp2_with fail
  go_quiet(fail)
  go_wp2;go_ret;exact⟨0,rfl,hn,k,h.drewN _,zkp _ _ _⟩
theorem zyf{B:Nat}{w:World}{px:Nat}{cv:Value}{code:List Int}{k:Nat}(h:DiM B w px cv code k):
  Calls Tryz.prog 121 #[.pointer (some ⟨px,0,none⟩)] w fun e w'=>∃ z:Int,e=.returned (.int .i64 z)∧i64 z∧zye B w px cv code w':=by
 have c0:=h.c0;have c1:=h.c1;have f1:=h.fz 1;have hle:=h.le;have hln:=h.len;obtain⟨ao,cap,rfl,hcap,b⟩:=h.row;by_cases i:k<code.length
 ·obtain⟨g,o,rfl,hg,hgs,a⟩:=b (by omega);have l:=a k i;have j:=h.num _ (List.getElem_mem i);have c:¬g=px:=by have:=h.hB;omega
  have hne2:¬px=g:=fun e=>c e.symm;clear a b;generalize code[k]=x at l j;obtain⟨d,f⟩:=j;have hk0:(0:Int)≤(k:Int):=by omega
  have hk1:(k:Int)<(code.length:Int):=by omega
  go_enter Tryz.func121,Tryz.ntmps121;go_wp2_with fail
  go_quiet(fail)
  go_wp2_with fail
  go_quiet(fail)
  go_wp2;go_ret;exact⟨x,rfl,⟨d,f⟩,k+1,((h.drewN _).set (k+1) (by omega)).drewN _,zmT (zah (zbD _ _ _))⟩
 ·go_enter Tryz.func121,Tryz.ntmps121;go_wp2_with fail
  go_quiet(fail)
  go_wp2;go_ret;exact⟨0,rfl,⟨by omega,by omega⟩,k,h.drewN _,zkp _ _ _⟩
end
section
open Sp
theorem zit(L:List Said)(x:ByteArray)(k:Nat)(hk:k<L.length)(hx:isFn L[k] x=true)(i:Nat)(hi:i≤k):decide (zb1 L x i<k)=true↔∃ j,∃ h:j<L.length,i≤j∧j<k∧isFn L[j] x=true:=by
 by_cases e:i=k
 ·subst e;rw [zdA L x i hk hx];simp;intro j a c b;omega
 ·have h:i<L.length:=by omega
  by_cases d:isFn L[i] x=true
  ·rw [zdA L x i h d];constructor
   ·intro _;exact⟨i,h,Nat.le_refl _,by omega,d⟩
   ·intro _;simp;omega
  ·rw [zdg L x i h (by simpa using d),zit L x k hk hx (i+1) (by omega)];constructor
   ·rintro⟨j,f,a,c,b⟩;exact⟨j,f,by omega,c,b⟩
   ·rintro⟨j,f,a,c,b⟩;refine⟨j,f,?_,c,b⟩;rcases Nat.lt_or_eq_of_le a with a|a
    ·omega
    ·subst a;exact absurd b d
termination_by k-i
theorem zjP(L:List Said)(x:ByteArray)(k:Nat)(hk:k<L.length)(hx:zcO L[k] x=true)(hk1:¬L[k].kind=102)(i:Nat)(hi:i≤k)(hno:∀ j,∀ h:j<L.length,i≤j→j<k→¬L[j].kind=102):decide (zbg L x i<k)=true↔∃ j,∃ h:j<L.length,i≤j∧j<k∧zcO L[j] x=true:=by
 by_cases g:i=k
 ·subst g;rw [zdh L x i hk hk1 hx];simp;intro j c e d;omega
 ·have h:i<L.length:=by omega
  have c:=hno i h (Nat.le_refl _) (by omega);by_cases f:zcO L[i] x=true
  ·rw [zdh L x i h c f];constructor
   ·intro _;exact⟨i,h,Nat.le_refl _,by omega,f⟩
   ·intro _;simp;omega
  ·rw [zcq L x i h c (by simpa using f),zjP L x k hk hx hk1 (i+1) (by omega) (fun j h a b=>hno j h (by omega) b)];constructor
   ·rintro⟨j,l,c,e,d⟩;exact⟨j,l,by omega,e,d⟩
   ·rintro⟨j,l,c,e,d⟩;refine⟨j,l,?_,e,d⟩;rcases Nat.lt_or_eq_of_le c with c|c
    ·omega
    ·subst c;exact absurd d f
termination_by k-i
structure Inv(L:List Said)(j o:Nat)(F:List Fn)(f:Fn):Prop where
 own:zfl L j=(o:Int)
 le:o≤j
 names:∀ x,((F++[f]).map Fn.name).any (fun y=>eqW y x)=true↔∃ i,∃ h:i<L.length,i<j+1∧isFn L[i] x=true
 labs:∀ x,(labsOf f.body).any (fun y=>eqW y x)=true↔∃ i,∃ h:i<L.length,o+1≤i∧i<j+1∧zcO L[i] x=true
 nof:∀ i,∀ h:i<L.length,o+1≤i→i<j+1→¬L[i].kind=102
theorem zlM(b:List Key)(k:Key)(x:ByteArray):(labsOf (b++[k])).any (fun y=>eqW y x)=((labsOf b).any (fun y=>eqW y x)||(decide (k.sort=1)&&eqW k.nm x)):=by
 unfold labsOf;rw [List.filter_append,List.map_append,List.any_append];by_cases h:k.sort=1 <;> simp [h]
theorem Inv.more{L:List Said}{j o:Nat}{F:List Fn}{f:Fn}(I:Inv L j o F f)(h:j+1<L.length)(h1:¬L[j+1].kind=102)(b':List Key)
  (hb:∀ x,(labsOf b').any (fun y=>eqW y x)=((labsOf f.body).any (fun y=>eqW y x)||zcO L[j+1] x)):Inv L (j+1) o F ⟨f.name,f.line,b'⟩:=by
 refine⟨(zdB L j h h1).trans I.own,by have:=I.le;omega,?_,?_,?_⟩
 ·intro x;have:=I.names x;simp only [List.map_append,List.map_cons,List.map_nil] at this ⊢;rw [this];constructor
  ·rintro⟨i,a,b,c⟩;exact⟨i,a,by omega,c⟩
  ·rintro⟨i,a,b,c⟩;refine⟨i,a,?_,c⟩;by_cases e:i=j+1
   ·subst e;simp [isFn,h1] at c
   ·omega
 ·intro x;rw [hb,Bool.or_eq_true,I.labs x];have:=I.le;constructor
  ·rintro(⟨i,a,b,c,d⟩|d)
   ·exact⟨i,a,b,by omega,d⟩
   ·exact⟨j+1,h,by omega,by omega,d⟩
  ·rintro⟨i,a,b,c,d⟩;by_cases e:i=j+1
   ·subst e;exact .inr d
   ·exact .inl ⟨i,a,b,by omega,d⟩
 ·intro i a b c;by_cases e:i=j+1
  ·subst e;exact h1
  ·exact I.nof i a b (by omega)
theorem Inv.next{L:List Said}{j o:Nat}{F:List Fn}{f:Fn}(I:Inv L j o F f)(h:j+1<L.length)(h1:L[j+1].kind=102)(l:Int):Inv L (j+1) (j+1) (F++[f]) ⟨L[j+1].word 1,l,[]⟩:=by
 refine⟨zfE L (j+1) h h1,Nat.le_refl _,?_,?_,?_⟩
 ·intro x;rw [List.map_append,List.any_append,Bool.or_eq_true,I.names x];constructor
  ·rintro(⟨i,b,c,a⟩|a)
   ·exact⟨i,b,by omega,a⟩
   ·exact⟨j+1,h,by omega,by simpa [isFn,h1] using a⟩
  ·rintro⟨i,b,c,a⟩;by_cases e:i=j+1
   ·subst e;exact .inr (by simpa [isFn,h1] using a)
   ·exact .inl ⟨i,b,by omega,a⟩
 ·intro x;simp [labsOf];intro i b c a;omega
 ·intro i b c a;omega
theorem zsW(L:List Said)(hw:WfAll L)(c:Int × Int)(j o:Nat)(F:List Fn)(f:Fn)(I:Inv L j o F f):pass L 0 (j+1) c=zef 3 (zaP (F++[f]) (zbb L (j+1))) c:=by
 by_cases h:j+1<L.length
 ·by_cases l:L[j+1].kind=0
  ·have d:badB L 0 (j+1)=false:=by simp [badB,zeX,List.getElem?_eq_getElem h,l]
   rw [zc3 L 0 (j+1) c h d,zcZ L (j+1) h l];exact zsW L hw c (j+1) o F f (I.more h (by omega) f.body (by intro x;simp [zcO,l]))
  ·rw [zbr L (j+1) h l];by_cases a:L[j+1].kind=102
   ·have d:badB L 0 (j+1)=bad0 (F++[f]) (keyQ L[j+1] (((j+1:Nat):Int)+1)):=by
     have e:badB L 0 (j+1)=decide (zb1 L (L[j+1].word 1) 0<((j+1:Nat):Int)):=by simp [badB,zeX,List.getElem?_eq_getElem h,a]
     rw [e,Bool.eq_iff_iff,zit L _ (j+1) h (by simp [isFn,a,eqW]) 0 (Nat.zero_le _)];have p:bad0 (F++[f]) (keyQ L[j+1] (((j+1:Nat):Int)+1))=((F++[f]).map Fn.name).any (fun y=>eqW y (L[j+1].word 1)):=by
      unfold bad0 keyQ;dsimp only;rw [if_pos (zep _ a),zgy _ a]
     rw [p,I.names];constructor
     ·rintro⟨i,n,_,b,m⟩;exact⟨i,n,b,m⟩
     ·rintro⟨i,n,b,m⟩;exact⟨i,n,Nat.zero_le _,b,m⟩
    unfold zaP;cases g:bad0 (F++[f]) (keyQ L[j+1] (((j+1:Nat):Int)+1)) with
    | true=>rw [zfI L 0 (j+1) c h (d.trans g)];rfl
    | false =>
     rw [zc3 L 0 (j+1) c h (d.trans g),zct _ _ (zep _ a)];have k:=I.next h a (((j+1:Nat):Int)+1);rw [zsW L hw c (j+1) _ _ _ k];simp [keyQ,zgy _ a]
   ·by_cases b:L[j+1].kind=108
    ·have d:badB L 0 (j+1)=bad0 (F++[f]) (keyQ L[j+1] (((j+1:Nat):Int)+1)):=by
      have q:zfl L (j+1)=(o:Int):=(zdB L j h a).trans I.own;have e:badB L 0 (j+1)=decide (zbg L (L[j+1].word 0) (o+1)<((j+1:Nat):Int)):=by
       simp only [badB,zeX,List.getElem?_eq_getElem h,b,zhV,q];rfl
      have hle:=I.le;rw [e,Bool.eq_iff_iff,zjP L _ (j+1) h (by simp [zcO,b,eqW]) a (o+1) (by omega) I.nof];have p:bad0 (F++[f]) (keyQ L[j+1] (((j+1:Nat):Int)+1))=(labsOf f.body).any (fun y=>eqW y (L[j+1].word 0)):=by
       unfold bad0 keyQ;dsimp only;rw [if_neg (zfw _ a),if_pos (zfv _ b),zkz _ b];simp
      rw [p,I.labs]
     unfold zaP;cases g:bad0 (F++[f]) (keyQ L[j+1] (((j+1:Nat):Int)+1)) with
     | true=>rw [zfI L 0 (j+1) c h (d.trans g)];rfl
     | false =>
      rw [zc3 L 0 (j+1) c h (d.trans g),zfO _ _ _ (zfw _ a)];have k:=I.more h a (f.body++[keyQ L[j+1] (((j+1:Nat):Int)+1)]) (by
       intro x;rw [zlM];simp [keyQ,zfv _ b,zkz _ b,zcO,b])
      rw [zsW L hw c (j+1) _ _ _ k];rfl
    ·have d:badB L 0 (j+1)=false:=by simp [badB,zeX,List.getElem?_eq_getElem h,a,b]
     have g:bad0 (F++[f]) (keyQ L[j+1] (((j+1:Nat):Int)+1))=false:=by
      simp [bad0,keyQ,zeq _ a b]
     unfold zaP;rw [g,zc3 L 0 (j+1) c h d,zfO _ _ _ (zfw _ a)];have k:=I.more h a (f.body++[keyQ L[j+1] (((j+1:Nat):Int)+1)]) (by
      intro x;rw [zlM];simp [keyQ,zeq _ a b,zcO,b])
     rw [zsW L hw c (j+1) _ _ _ k];rfl
 ·rw [zfH L 0 (j+1) c h,zcM L _ h];rfl
termination_by L.length-j
def sayK(K:List Key):Int × Int :=
 match K with
 | []=>(2,0)
 | k :: _=>if k.sort=0 then zef 3 (zaP [] K) (zef 4 (zc9 ((K.foldl addK []).map Fn.name) (K.foldl addK [])) (zef 5 (endK (K.foldl addK [])) (0,0))) else(2,k.line)
theorem zsX(L:List Said)(q i:Nat)(c:Int × Int)(h:i<L.length)(h0:L[i].kind=0):pass L q i c=pass L q (i+1) c:=by
 refine zc3 L q i c h ?_;unfold badB;split
 ·simp [zeX,List.getElem?_eq_getElem h,h0]
 ·split
  ·simp [zch,List.getElem?_eq_getElem h,h0]
  ·simp [zdv,List.getElem?_eq_getElem h,h0]
theorem zgz(L:List Said)(q p:Nat)(c:Int × Int)(hp:p≤L.length)(hz:∀ j,∀ h:j<L.length,j<p→L[j].kind=0):pass L q 0 c=pass L q p c:=by
 induction p with
 | zero=>rfl
 | succ p ih=>rw [ih (by omega) (fun j h h'=>hz j h (by omega)),zsX L q p c (by omega) (hz p (by omega) (by omega))]
theorem zsY(L:List Said)(p:Nat)(hp:p≤L.length)(hz:∀ j,∀ h:j<L.length,j<p→L[j].kind=0):zaN L 0=zaN L p:=by
 induction p with
 | zero=>rfl
 | succ p ih=>rw [ih (by omega) (fun j h h'=>hz j h (by omega)),zbH L p (by omega) (by rw [hz p (by omega) (by omega)];decide)]
theorem zlN(L:List Said)(hw:WfAll L)(hn:NmOk L)(i:Nat)(hi:i≤L.length)(hz:∀ j,∀ h:j<L.length,j<i→L[j].kind=0):zb5 L i=sayK (zbb L i):=by
 by_cases h:i<L.length
 ·by_cases b:L[i].kind=0
  ·rw [zjK L i h b,zcZ L i h b];refine zlN L hw hn (i+1) h (fun j f h'=>?_);by_cases e:j=i
   ·subst e;exact b
   ·exact hz j f (by omega)
  ·by_cases a:L[i].kind=102
   ·rw [zii L i h b a];have hF:(zbb L i).foldl addK []=zaN L i:=by
     rw [zbr L i h b,List.foldl_cons,zct _ _ (zep _ a),zfP,zbN L i h a];simp [keyQ,zgy _ a]
    have n:∀ x,((zaN L i).map Fn.name).any (fun y=>eqW y x)=decide (0≤zb1 L x 0):=by
     intro x;rw [←zsY L i hi hz];exact zn9 L 0 x
    have l:=zfE L i h a;have p:∀ c,pass L 1 0 c=zef 4 (zc9 ((zaN L i).map Fn.name) (zaN L i)) c:=by
     intro c;have k:badB L 1 i=false:=by simp [badB,zch,List.getElem?_eq_getElem h,a]
     rw [zgz L 1 i c hi hz,zc3 L 1 i c h k,zwa L hw hn _ n c i i l (labsOf (zar L (i+1))) (fun x=>zfQ L (i+1) x)]
     conv=>rhs;rw [zbN L i h a]
     rw [zbN L i h a];rfl
    have q:∀ c,pass L 2 0 c=zef 5 (endK (zaN L i)) c:=by
     intro c;rw [zgz L 2 i c hi hz,zy5 L hw i c]
    have I:Inv L i i [] ⟨L[i].word 1,(i:Int)+1,[]⟩:=by
     refine⟨l,Nat.le_refl _,?_,?_,?_⟩
     ·intro x;constructor
      ·intro d;exact⟨i,h,by omega,by simpa [isFn,a] using d⟩
      ·rintro⟨j,f,g,d⟩;by_cases e:j=i
       ·subst e;simpa [isFn,a] using d
       ·have:=hz j f (by omega);simp [isFn,this] at d
     ·intro x;simp [labsOf];intro j f g d;omega
     ·intro j f g d;omega
    have o:∀ c,pass L 0 0 c=zef 3 (zaP [] (zbb L i)) c:=by
     intro c;have k:badB L 0 i=false:=by
      have e:badB L 0 i=decide (zb1 L (L[i].word 1) 0<(i:Int)):=by simp [badB,zeX,List.getElem?_eq_getElem h,a]
      rw [e,Bool.eq_false_iff];intro g;obtain⟨j,f,_,d,m⟩:=(zit L _ i h (by simp [isFn,a,eqW]) 0 (Nat.zero_le _)).1 g;have:=hz j f d;simp [isFn,this] at m
     rw [zgz L 0 i c hi hz,zc3 L 0 i c h k,zsW L hw c i i [] _ I,zbr L i h b]
     conv=>rhs;unfold zaP
     rw [zct _ _ (zep _ a)];simp [bad0,keyQ,zep _ a,zgy _ a]
    have ht:tail L 0=pass L 0 0 (pass L 1 0 (pass L 2 0 (0,0))):=rfl;rw [ht,o,p,q];unfold sayK;rw [hF]
    conv=>rhs;rw [zbr L i h b]
    dsimp only;rw [if_pos (show(keyQ L[i] ((i:Int)+1)).sort=0 from zep _ a),←zbr L i h b]
   ·rw [zl7 L i h b a,zbr L i h b];unfold sayK;dsimp only;rw [if_neg (show ¬(keyQ L[i] ((i:Int)+1)).sort=0 from zfw _ a)];rfl
 ·rw [zih L i h,zcM L i h];rfl
termination_by L.length-i
theorem zA7(s:ByteArray)(h:(say s).ok=true)(h5:(say s).kind=105)(ha:zaF ((say s).word 0)=true∨zbt ((say s).word 0)=true):zcC (say s)=(say s).last:=by
 have f:zaz s 0=true:=by
  cases f:zaz s 0 with
  | true=>rfl
  | false=>rw [zft s f] at h;cases h
 rw [zin s f] at h h5 ha ⊢;generalize zbu s=l at h h5 ha ⊢;cases l with
 | nil=>simp [sayW] at h5
 | cons x r =>
  have e:sayW (x :: r)=⟨105,x :: r,if zaa x=[63]∨¬(x :: r).length=(zaa x).length+1 then false else za1 (zaa x) r⟩:=by
   unfold sayW at h5 ⊢;dsimp only at h5 ⊢;split at h5
   ·simp at h5
   ·rename_i hf;rw [if_neg hf];split at h5
    ·simp at h5
    ·rename_i hg;rw [if_neg hg]
  rw [e] at h ha ⊢;have j:(⟨105,x :: r,if zaa x=[63]∨¬(x :: r).length=(zaa x).length+1 then false else za1 (zaa x) r⟩:Said).word 0=x:=rfl;rw [j] at ha;have a:(x :: r).length=(zaa x).length+1:=by
   by_cases i:zaa x=[63]∨¬(x :: r).length=(zaa x).length+1
   ·simp only [if_pos i] at h;cases h
   ·rcases Classical.em ((x :: r).length=(zaa x).length+1) with g|g
    ·exact g
    ·exact absurd (.inr g) i
  have d:zaa x=[78]∨zaa x=[82,82,78]:=by
   unfold zaF zbt isW at ha;simp only [Bool.or_eq_true,beq_iff_eq] at ha;unfold zaa isW;rcases ha with ((ha|ha)|ha)|ha <;> rw [ha] <;> decide
  unfold zcC Said.last;rw [if_neg (show ¬(105:Int)=102 by decide),if_neg (show ¬(105:Int)=108 by decide),j];rcases d with hs|hs
  ·rw [hs] at a ⊢
   match r,a with
   | [a],_=>rfl
  ·rw [hs] at a ⊢
   match r,a with
   | [a,b,c],_=>rfl
theorem zeF(A:List ByteArray)(hok:∀ x∈A,(say x).ok=true):zb5 (A.map say) 0=sayK (zaU A A.length):=by
 rw [zk0 A];refine zlN _ ?_ ?_ 0 (Nat.zero_le _) (fun j h h'=>absurd h' (Nat.not_lt_zero _))
 ·intro q a;obtain⟨x,b,rfl⟩:=List.mem_map.1 a;exact zxQ x (hok x b)
 ·intro q a;obtain⟨x,b,rfl⟩:=List.mem_map.1 a;exact zA7 x (hok x b)
end
end Go.Proofs.YtfpgjkbjbbgciaaGreatDoor
