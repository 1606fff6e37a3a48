import Derived.Test.YtfpgjkbjbbgciaaGreatDoorMe05
import Derived.Laws.Strings
set_option maxRecDepth 100000
set_option maxHeartbeats 8000000
namespace Go.Proofs.YtfpgjkbjbbgciaaGreatDoor.Sp
def zff (L : List Said) (k : Nat) : Bool :=
 match L[k]? with
 | none => false
 | some q => if q.kind = 102 then decide (zca L (q.word 1) 0 < k) else if q.kind = 108 then decide (zjf L k (q.word 0) < k) else false
def Said.last (q : Said) : ByteArray:=q.word (q.kept.length - 1)
def zbp (x : ByteArray) : Bool:=isW x [106,117,109,112] || isW x [108,101,115,115] || isW x [115,97,109,101]
def zcl (x : ByteArray) : Bool:=isW x [99,97,108,108]
def zcq (L : List Said) (k : Nat) : Bool :=
 match L[k]? with
 | none => false
 | some q => if q.kind = 105 then (if zbp (q.word 0) = true then decide (zjf L k q.last < 0) else if zcl (q.word 0) = true then decide (zca L q.last 0 < 0) else false) else false
def ends (x : ByteArray) : Bool:=isW x [106,117,109,112] || isW x [98,97,99,107] || isW x [115,116,111,112]
def zfE (L : List Said) (i : Nat) (e : Bool) : Bool :=
 if h : i < L.length then
  if L[i].kind = 102 then e
  else zfE L (i + 1) (if L[i].kind = 108 then false else if L[i].kind = 105 then ends (L[i].word 0) else e)
 else e
termination_by L.length - i
def zd4 (L : List Said) (k : Nat) : Bool :=
 match L[k]? with
 | none => false
 | some q => if q.kind = 102 then !zfE L (k + 1) false else false
theorem zjK (L : List Said) (i : Nat) (e : Bool) (h : ¬ i < L.length) : zfE L i e = e:=by rw [zfE,dif_neg h]
theorem zpW (L : List Said) (i : Nat) (e : Bool) (h : i < L.length) (h' : L[i].kind = 102) : zfE L i e = e:=by rw [zfE,dif_pos h,if_pos h']
theorem zfg (L : List Said) (i : Nat) (e : Bool) (h : i < L.length) (h' : ¬ L[i].kind = 102) : zfE L i e = zfE L (i + 1) (if L[i].kind = 108 then false else if L[i].kind = 105 then ends (L[i].word 0) else e):=by
 conv => lhs; rw [zfE,dif_pos h,if_neg h']
end Go.Proofs.YtfpgjkbjbbgciaaGreatDoor.Sp
namespace Go.Proofs.YtfpgjkbjbbgciaaGreatDoor
section
variable {P : Program} {ops : Array Oper} {C : World → Prop}
theorem zac {id : Nat} {Q : Exit → Act → World → Prop} {a : Act} {w : World} {l : List Oper} (n : Nat) (C : World → Prop) (hC : C (w.drewN 1)) (hm : P.follows .mixedOrders = true) (hB : Region.lexTailB .any l.toArray n = true)
  (h : wpQuiet P l.toArray C (fun a' => ∀ w',C w' → wpList P l.toArray Q (l.drop n) a' w') (l.take n) a) : (Code.region id l.toArray true).wp P Q a w:=by
 simp only [Region.lexTailB,Bool.and_eq_true,decide_eq_true_eq] at hB
 obtain ⟨⟨⟨⟨hsel,hn⟩,hs⟩,hc⟩,hlex⟩:=hB
 have hn' : n < l.length:=by simpa using hn
 have htl : (l.take n).length = n:=by simp; omega
 have hdl : (l.drop n).length = l.toArray.size - n:=by simp
 have inv0 : HeadInv .any l.toArray n (Array.replicate l.toArray.size false) :=
  ⟨by simp,fun j oj _ hl => (by rw [getD_replicate_false] at hl; cases hl),fun t _ ht => getD_in (by simpa using ht) (getD_replicate_false _ _)⟩
 have H:=zni (md:=.any) (g:=l.toArray.size - n) hsel hs hc hn (l.take n) 0 _ a (fun j hj => by
  have : j < n:=by rw [htl] at hj; exact hj
  simp [this]) (by simpa using htl) inv0 (by rw [htl]; exact hlex) h
 refine wp_region_any hm ?_
 have:=zhm (Q:=Q) (g:=l.toArray.size - n) (fun listed a' w' hw' hL => by
  have:=wpAny_of_seq (md:=.any) (Q':=Q) (l.drop n) n listed a' w' (fun j => by simp [List.getElem?_drop]) (by rw [hdl]; exact hL.1) (hL.2 w' hw')
  rwa [hdl] at this) _ _ _ _ hC H
 rw [htl,show n + (l.toArray.size - n) = l.toArray.size by omega] at this
 exact this
theorem zab {Q : Act → Prop} {o : Oper} {rest : List Oper} {a : Act} (hg : o.guard = none) (v : Value) (h : ∀ W,C W → (execOp a.eval o).run P W = .ok (.value v) W) (hK : wpQuiet P ops C Q rest (a.put o.dst v)) : wpQuiet P ops C Q (o :: rest) a:=by
 have hw : Region.wanted o (yielded ops a.tmps) = true:=by simp [Region.wanted,hg]
 unfold wpQuiet
 rw [if_pos hw]
 refine ⟨v,fun W hW => ?_,hK⟩
 unfold Oper.quietAt
 rw [h W hW]
 exact ⟨rfl,rfl⟩
theorem zaK {Q : Act → Prop} {o : Oper} {rest : List Oper} {a : Act} (hg : o.guard = none) (f : FuncId) (args : Array Value) (v : Value) (h : ∀ W,C W → (execOp a.eval o).run P W = .ok (.enter f args) W) (hc : ∀ W,C W → Calls P f args W fun e w'' => e = .returned v ∧ C w'') (hK : wpQuiet P ops C Q rest (a.put o.dst v)) : wpQuiet P ops C Q (o :: rest) a:=by
 have hw : Region.wanted o (yielded ops a.tmps) = true:=by simp [Region.wanted,hg]
 unfold wpQuiet
 rw [if_pos hw]
 refine ⟨v,fun W hW => ?_,hK⟩
 unfold Oper.quietAt
 rw [h W hW]
 exact ⟨rfl,hc W hW⟩
end
end Go.Proofs.YtfpgjkbjbbgciaaGreatDoor
namespace Go.Proofs.YtfpgjkbjbbgciaaGreatDoor.Sp
def badB (L : List Said) (q k : Nat) : Bool:=if q = 0 then zff L k else if q = 1 then zcq L k else zd4 L k
def pass (L : List Said) (q j : Nat) (c : Int × Int) : Int × Int :=
 if j < L.length then (if badB L q j = true then (3 + (q : Int),(j : Int) + 1) else pass L q (j + 1) c) else c
termination_by L.length - j
theorem zen (L : List Said) (q j : Nat) (c : Int × Int) (h : ¬ j < L.length) : pass L q j c = c:=by rw [pass,if_neg h]
theorem zeo (L : List Said) (q j : Nat) (c : Int × Int) (h : j < L.length) (h' : badB L q j = true) : pass L q j c = (3 + (q : Int),(j : Int) + 1):=by rw [pass,if_pos h,if_pos h']
theorem zci (L : List Said) (q j : Nat) (c : Int × Int) (h : j < L.length) (h' : badB L q j = false) : pass L q j c = pass L q (j + 1) c:=by rw [pass,if_pos h,if_neg (by simp [h'])]
def tail (L : List Said) (q : Nat) : Int × Int:=if q = 0 then pass L 0 0 (pass L 1 0 (pass L 2 0 (0,0))) else if q = 1 then pass L 1 0 (pass L 2 0 (0,0)) else if q = 2 then pass L 2 0 (0,0) else (0,0)
def zbq (L : List Said) (i : Nat) : Int × Int :=
 if h : i < L.length then (if L[i].kind = 0 then zbq L (i + 1) else if L[i].kind = 102 then tail L 0 else (2,(i : Int) + 1)) else (2,0)
termination_by L.length - i
theorem zeD (L : List Said) (i : Nat) (h : ¬ i < L.length) : zbq L i = (2,0):=by rw [zbq,dif_neg h]
theorem zfF (L : List Said) (i : Nat) (h : i < L.length) (h' : L[i].kind = 0) : zbq L i = zbq L (i + 1):=by rw [zbq,dif_pos h,if_pos h']
theorem zfh (L : List Said) (i : Nat) (h : i < L.length) (h' : ¬ L[i].kind = 0) (h2 : L[i].kind = 102) : zbq L i = tail L 0:=by rw [zbq,dif_pos h,if_neg h',if_pos h2]
theorem zgR (L : List Said) (i : Nat) (h : i < L.length) (h' : ¬ L[i].kind = 0) (h2 : ¬ L[i].kind = 102) : zbq L i = (2,(i : Int) + 1):=by rw [zbq,dif_pos h,if_neg h',if_neg h2]
def zbM (A : List ByteArray) (i : Nat) : Int × Int :=
 if h : i < A.length then (if (say A[i]).ok = true then zbM A (i + 1) else (1,(i : Int) + 1)) else zbq (A.map say) 0
termination_by A.length - i
theorem zfi (A : List ByteArray) (i : Nat) (h : ¬ i < A.length) : zbM A i = zbq (A.map say) 0:=by rw [zbM,dif_neg h]
theorem zep (A : List ByteArray) (i : Nat) (h : i < A.length) (h' : (say A[i]).ok = true) : zbM A i = zbM A (i + 1):=by rw [zbM,dif_pos h,if_pos h']
theorem zdO (A : List ByteArray) (i : Nat) (h : i < A.length) (h' : (say A[i]).ok = false) : zbM A i = (1,(i : Int) + 1):=by rw [zbM,dif_pos h,if_neg (by simp [h'])]
def zbk (s : ByteArray) : Int × Int:=if 4000 < s.size ∨ 300 < (lines s).length then (6,0) else zbM (lines s) 0
theorem zeE (s : ByteArray) (f i : Nat) : 1 ≤ (zbN s f i).length ∧ (zbN s f i).length ≤ s.size - i + 1:=by
 by_cases h : i < s.size
 ·by_cases h' : bt s i = 10
  ·rw [zeA s f i h h']
   have:=zeE s (i + 1) (i + 1)
   simp; omega
  ·rw [zfD s f i h h']
   have:=zeE s f (i + 1)
   omega
 ·rw [ze9 s f i h]; simp
termination_by s.size - i
theorem zpX (s : ByteArray) : 1 ≤ (lines s).length ∧ (lines s).length ≤ s.size + 1:=zeE s 0 0
theorem zd5 (s : ByteArray) (f i : Nat) : ∀ x ∈ zbN s f i,x.size ≤ s.size:=by
 by_cases h : i < s.size
 ·by_cases h' : bt s i = 10
  ·rw [zeA s f i h h']
   intro x hx
   rw [List.mem_cons] at hx
   rcases hx with rfl | hx
   ·rw [ByteArray.size_extract]; omega
   ·exact zd5 s (i + 1) (i + 1) x hx
  ·rw [zfD s f i h h']
   exact zd5 s f (i + 1)
 ·rw [ze9 s f i h]
  intro x hx
  simp at hx; subst hx
  rw [ByteArray.size_extract]; omega
termination_by s.size - i
theorem zeF (s : ByteArray) : ∀ x ∈ lines s,x.size ≤ s.size:=zd5 s 0 0
theorem zuD (s : ByteArray) (h : (say s).ok = true) : Wf (say s):=by
 unfold say at h ⊢
 split at h
 ·rename_i hv
  rw [if_pos hv]
  generalize words s = l at h ⊢
  unfold sayW at h ⊢
  split at h
  ·exact .inl ⟨rfl,rfl⟩
  ·rename_i x r
   by_cases hf : zdM x = true
   ·rw [if_pos hf] at h ⊢
    simp only [Bool.and_eq_true,decide_eq_true_eq] at h
    exact .inr (.inl ⟨rfl,h.1⟩)
   ·rw [if_neg hf] at h ⊢
    by_cases hl : (x :: r).length = 1 ∧ zeB x = 58
    ·rw [if_pos hl] at h ⊢
     exact .inr (.inr (.inl ⟨rfl,rfl⟩))
    ·rw [if_neg hl] at h ⊢
     simp only at h
     split at h
     ·cases h
     ·rename_i hs
      refine .inr (.inr (.inr ⟨rfl,by simp,?_⟩))
      have h3 : (zaa x).length ≤ 3:=by
       unfold zaa
       repeat' split
       all_goals decide
      have h4 : (x :: r).length = (zaa x).length + 1:=by
       rcases Classical.em ((x :: r).length = (zaa x).length + 1) with h | h
       ·exact h
       ·exact absurd (.inr h) hs
      show (x :: r).length ≤ 4
      omega
 ·cases h
def ba (l : List UInt8) : ByteArray:=⟨l.toArray⟩
theorem zic (l : List UInt8) : (ba l).data.toList = l:=rfl
theorem zmG (l : List UInt8) : (ba l).toList = l:=by rw [ByteArray.toList_eq]; rfl
theorem zc6 (l : List UInt8) : (ba l).size = l.length:=rfl
theorem zvV (s : ByteArray) : ba s.data.toList = s:=rfl
theorem zmH (l : List UInt8) (k : Nat) : bt (ba l) k = ((l[k]?.getD 0).toNat : Int):=by
 unfold bt ba; simp
theorem zu4 (l : List UInt8) : lines (ba l) = (zcb l).map ba:=by
 have h:=zji (ba l) 0 0 (Nat.le_refl _) (Nat.zero_le _)
 rw [Nat.sub_zero,List.take_zero,zlA _ (zhb _),zic,List.drop_zero] at h
 rw [← h,List.map_map]
 show lines (ba l) = (zbN (ba l) 0 0).map _
 have : (ba ∘ fun x : ByteArray => x.data.toList) = id:=funext fun x => rfl
 rw [this,List.map_id]; rfl
theorem zmI (l r : List UInt8) (h : ∀ c ∈ l,¬ c = 10) : zcb (l ++ 10 :: r) = l :: zcb r:=by
 induction l with
 | nil => simp [zcb]
 | cons c t ih =>
  rw [List.cons_append,zcb,if_neg (h c List.mem_cons_self),ih (fun x hx => h x (List.mem_cons_of_mem _ hx))]
  rfl
def zmJ (ls : List (List UInt8)) : List UInt8:=ls.flatMap (· ++ [10])
theorem zpN (l : List UInt8) (ls : List (List UInt8)) : zmJ (l :: ls) = l ++ 10 :: zmJ ls:=by simp [zmJ]
theorem zmK (ls : List (List UInt8)) (r : List UInt8) (h : ∀ l ∈ ls,∀ c ∈ l,¬ c = 10) : zcb (zmJ ls ++ r) = ls ++ zcb r:=by
 induction ls with
 | nil => rfl
 | cons l t ih =>
  rw [zpN,List.append_assoc,List.cons_append,zmI l _ (h l List.mem_cons_self),ih (fun x hx => h x (List.mem_cons_of_mem _ hx))]
  rfl
def zdf (now : List UInt8) : List (List UInt8):=if now = [] then [] else [now]
def zbj : List UInt8 → List UInt8 → List (List UInt8)
 | [],now => zdf now
 | c :: r,now => if c = 59 then zdf now else if c = 32 ∨ c = 9 then zdf now ++ zbj r [] else zbj r (now ++ [c])
theorem zmL (now : List UInt8) (l : List ByteArray) : flush (ba now) l = l ++ (zdf now).map ba:=by
 unfold flush zdf
 rw [zc6]
 cases now with
 | nil => simp
 | cons c r => simp
theorem zu5 {c : UInt8} {n : Nat} (hn : n < 256) : ((c.toNat : Int) = (n : Int)) ↔ c = UInt8.ofNat n:=by
 constructor
 ·intro h
  have h2 : c.toNat = n:=by omega
  apply UInt8.toNat_inj.1
  rw [h2]; simp; omega
 ·intro h; subst h; simp; omega
theorem zid (s : ByteArray) (i : Nat) (now : List UInt8) (l : List ByteArray) : zaF s i (ba now) l = l ++ (zbj (s.data.toList.drop i) now).map ba:=by
 by_cases h : i < s.size
 ·obtain ⟨c,r,h1,h2,h3⟩:=zgO s i h
  rw [h1]
  have e32 : bt s i = 32 ↔ c = 32:=by rw [← h2]; exact zu5 (n:=32) (by omega)
  have e9 : bt s i = 9 ↔ c = 9:=by rw [← h2]; exact zu5 (n:=9) (by omega)
  have e59 : bt s i = 59 ↔ c = 59:=by rw [← h2]; exact zu5 (n:=59) (by omega)
  by_cases k59 : c = 59
  ·rw [zcB s i _ l h (e59.2 k59),zmL]
   simp [zbj,k59]
  ·by_cases kb : c = 32 ∨ c = 9
   ·rw [zch s i _ l h (kb.imp e32.2 e9.2),zmL]
    have:=zid s (i + 1) [] (l ++ (zdf now).map ba)
    rw [show ba [] = ByteArray.empty from rfl] at this
    rw [this,← h3]
    simp [zbj,k59,kb]
   ·rw [zek s i _ l h (fun hh => by rcases hh with hh | hh | hh
                                    ·exact kb (.inl (e32.1 hh))
                                    ·exact kb (.inr (e9.1 hh))
                                    ·exact k59 (e59.1 hh))]
    have ex : s.extract i (i + 1) = ba [c]:=by
     rw [← zvV (s.extract i (i + 1))]
     congr 1
     have : (s.extract i (i + 1)).data.toList = (s.data.toList.drop i).take 1:=by
      rw [ByteArray.data_extract,Array.toList_extract]; first | done | simp
     rw [this,h1]; rfl
    have ea : ba now ++ ba [c] = ba (now ++ [c]):=by
     rw [← zvV (ba now ++ ba [c])]; rw [ByteArray.data_append,Array.toList_append]; rfl
    rw [ex,ea,zid s (i + 1),← h3]
    simp [zbj,k59,kb]
 ·rw [zcR s i _ l h,List.drop_of_length_le (by simpa using h),zmL]; rfl
termination_by s.size - i
theorem zu6 (l : List UInt8) : words (ba l) = (zbj l []).map ba:=by
 have:=zid (ba l) 0 [] []
 rw [zic,List.drop_zero,List.nil_append] at this
 exact this
def zvW (x : List UInt8) : Prop:=∀ c ∈ x,¬ c = 59 ∧ ¬ (c = 32 ∨ c = 9)
theorem zja (x r now : List UInt8) (h : zvW x) : zbj (x ++ r) now = zbj r (now ++ x):=by
 induction x generalizing now with
 | nil => simp
 | cons c t ih =>
  obtain ⟨h1,h2⟩:=h c List.mem_cons_self
  rw [List.cons_append,zbj,if_neg h1,if_neg h2,ih _ (fun y hy => h y (List.mem_cons_of_mem _ hy))]
  simp
def zd1 : List (List UInt8) → List UInt8
 | [] => []
 | [x] => x
 | x :: y :: r => x ++ 32 :: zd1 (y :: r)
theorem zmM (ws : List (List UInt8)) (r : List UInt8) (h : ∀ x ∈ ws,¬ x = [] ∧ zvW x) (he : ∀ now,zbj r now = zdf now ++ zbj r []) : zbj (zd1 ws ++ r) [] = ws ++ zbj r []:=by
 induction ws with
 | nil => rfl
 | cons x t ih =>
  obtain ⟨h1,h2⟩:=h x List.mem_cons_self
  cases t with
  | nil =>
   show zbj (x ++ r) [] = _
   rw [zja x r [] h2,List.nil_append,he]
   simp [zdf,h1]
  | cons y t =>
   show zbj (x ++ 32 :: zd1 (y :: t) ++ r) [] = _
   rw [List.append_assoc,zja x _ [] h2,List.nil_append,List.cons_append,zbj,if_neg (by decide),if_pos (.inl rfl),ih (fun z hz => h z (List.mem_cons_of_mem _ hz))]
   simp [zdf,h1]
theorem zpO (now : List UInt8) : zbj [] now = zdf now ++ zbj [] []:=by simp [zbj,zdf]
theorem zmN (c : UInt8) (r : List UInt8) (h : c = 32 ∨ c = 9) : zbj (c :: r) [] = zbj r []:=by
 have h59 : ¬ c = 59:=by rcases h with rfl | rfl <;> decide
 simp only [zbj,if_neg h59,if_pos h]
 simp [zdf]
theorem zie (ws : List (List UInt8)) (P : UInt8 → Prop) (h : ∀ x ∈ ws,∀ c ∈ x,P c) (h32 : P 32) : ∀ c ∈ zd1 ws,P c:=by
 induction ws with
 | nil => intro c hc; cases hc
 | cons x t ih =>
  cases t with
  | nil => exact h x List.mem_cons_self
  | cons y t =>
   intro c hc
   rcases List.mem_append.1 (show c ∈ x ++ 32 :: zd1 (y :: t) from hc) with e | e
   ·exact h x List.mem_cons_self c e
   ·rcases List.mem_cons.1 e with e | e
    ·rw [e]; exact h32
    ·exact ih (fun z hz => h z (List.mem_cons_of_mem _ hz)) c e
theorem zsy (s : ByteArray) (i d : Nat) (hd : i + d ≤ s.size) (h : ∀ j,i ≤ j → j < i + d → bt s j < 128) : za3 s i = za3 s (i + d):=by
 induction d generalizing i with
 | zero => rfl
 | succ d ih =>
  have h0:=h i (Nat.le_refl _) (by omega)
  have hc : chr s i = (1,bt s i):=by unfold chr; rw [if_pos h0]
  have hn : chrN s i = 1:=by unfold chrN; rw [hc]; rfl
  rw [zgg s i (by omega) (by rw [hc]; show ¬ (1 : Int) = 0; decide),hn,ih (i + 1) (by omega) (fun j h1 h2 => h j (by omega) (by omega)),show i + 1 + d = i + (d + 1) by omega]
theorem zmO (l : List UInt8) (h : ∀ c ∈ l,c.toNat < 128) : za3 (ba l) 0 = true:=by
 rw [zsy (ba l) 0 l.length (by rw [zc6]; omega) (fun j _ hj => ?_),zgN _ _ (by rw [zc6]; omega)]
 rw [zmH,List.getElem?_eq_getElem (by omega)]
 have:=h l[j] (List.getElem_mem _)
 simp only [Option.getD_some]; omega
theorem zu7 (s : ByteArray) (i d c : Nat) (hd : i + d ≤ s.size) (h : ∀ j,i ≤ j → j < i + d → bt s j < 128 ∧ (zcI (bt s j) = true ∨ (zba (bt s j) = true ∧ ¬ j = 0))) : zcA s i c = zcA s (i + d) (c + d):=by
 induction d generalizing i c with
 | zero => rfl
 | succ d ih =>
  obtain ⟨h0,h1⟩:=h i (Nat.le_refl _) (by omega)
  have hc : chr s i = (1,bt s i):=by unfold chr; rw [if_pos h0]
  have hn : chrN s i = 1:=by unfold chrN; rw [hc]; rfl
  rw [ze7 s i c (by omega) (by rw [hc]; show ¬ (1 : Int) = 0; decide) (by rw [hc]; exact h1),hn,ih (i + 1) (c + 1) (by omega) (fun j h1 h2 => h j (by omega) (by omega)),show i + 1 + d = i + (d + 1) by omega,show c + 1 + d = c + (d + 1) by omega]
def znT (c : UInt8) : Bool:=(decide (97 ≤ c.toNat ∧ c.toNat ≤ 122) || decide (c.toNat = 95)) || decide (48 ≤ c.toNat ∧ c.toNat ≤ 57)
theorem zge (c : UInt8) (r : List UInt8) (h0 : 97 ≤ c.toNat ∧ c.toNat ≤ 122) (h : ∀ x ∈ r,znT x = true) (hl : r.length ≤ 11) : za7 (ba (c :: r)) = true:=by
 unfold za7
 rw [zu7 (ba (c :: r)) 0 (r.length + 1) 0 (by rw [zc6]; simp) (fun j _ hj => ?_),zio _ _ _ (by rw [zc6]; simp)]
 ·simp only [zcQ,decide_eq_true_eq]; omega
 ·rw [zmH,List.getElem?_eq_getElem (by simp; omega)]
  cases j with
  | zero =>
   refine ⟨by simp; omega,.inl ?_⟩
   simp [zcI]; omega
  | succ j =>
   have hx:=h (r[j]'(by omega)) (List.getElem_mem _)
   simp [znT] at hx
   refine ⟨by simp; omega,?_⟩
   simp [zcI,zba]
   omega
theorem zsz (r : Nat) (h : r < 8) : reg (ba [114,UInt8.ofNat (48 + r)]) = (r : Int):=by
 have e1 : bt (ba [114,UInt8.ofNat (48 + r)]) 1 = 48 + (r : Int):=by
  rw [zmH]; simp; omega
 have e0 : bt (ba [114,UInt8.ofNat (48 + r)]) 0 = 114:=by rw [zmH]; simp
 have e : regB (ba [114,UInt8.ofNat (48 + r)]) = true:=by
  unfold regB; rw [e0,e1,zc6]; simp; omega
 unfold reg; rw [if_pos e,e1]; omega
def decL (n : Nat) : List UInt8:=if n < 10 then [UInt8.ofNat (48 + n)] else decL (n / 10) ++ [UInt8.ofNat (48 + n % 10)]
termination_by n
decreasing_by omega
theorem zc7 (n : Nat) (h : n < 10) : decL n = [UInt8.ofNat (48 + n)]:=by rw [decL,if_pos h]
theorem zf8 (n : Nat) (h : ¬ n < 10) : decL n = decL (n / 10) ++ [UInt8.ofNat (48 + n % 10)]:=by rw [decL,if_neg h]
theorem zmP (n : Nat) : ¬ decL n = []:=by
 by_cases h : n < 10
 ·rw [zc7 n h]; simp
 ·rw [zf8 n h]; simp
theorem zez (n : Nat) : ∀ c ∈ decL n,48 ≤ c.toNat ∧ c.toNat ≤ 57:=by
 by_cases h : n < 10
 ·rw [zc7 n h]; intro c hc; rw [List.mem_singleton.1 hc]; simp; omega
 ·rw [zf8 n h]
  intro c hc
  rcases List.mem_append.1 hc with e | e
  ·exact zez (n / 10) c e
  ·rw [List.mem_singleton.1 e]; simp; omega
termination_by n
decreasing_by omega
theorem zs0 (l : List UInt8) (c : UInt8) (n : Int) : numL (l ++ [c]) n = (numL l n).bind fun v => if zdp v ((c.toNat : Int) - 48) = true then none else some (10 * v - ((c.toNat : Int) - 48)):=by
 induction l generalizing n with
 | nil => simp [numL]
 | cons x t ih =>
  simp only [List.cons_append,numL]
  split
  ·rfl
  ·exact ih _
theorem zjE (n : Nat) (h : n ≤ 9223372036854775808) : numL (decL n) 0 = some (-(n : Int)):=by
 by_cases h9 : n < 10
 ·rw [zc7 n h9]
  have e : ((UInt8.ofNat (48 + n)).toNat : Int) - 48 = (n : Int):=by simp; omega
  have hb:=zfC 0 (n : Int) (by omega) (by omega)
  simp only [numL,e]
  rw [show (0 : Int) = -((0 : Nat) : Int) by simp,hb,if_neg (by simp; omega)]
  simp
 ·rw [zf8 n h9,zs0,zjE (n / 10) (by omega)]
  have e : ((UInt8.ofNat (48 + n % 10)).toNat : Int) - 48 = ((n % 10 : Nat) : Int):=by simp; omega
  have hb:=zfC (n / 10) ((n % 10 : Nat) : Int) (by omega) (by omega)
  simp only [Option.bind_some,e,hb]
  rw [if_neg (by simp; omega)]
  congr 1; omega
termination_by n
decreasing_by omega
def digL (n : Int) : List UInt8:=if n < 0 then 45 :: decL n.natAbs else decL n.natAbs
theorem zgL (n : Int) (h : -9223372036854775808 ≤ n) (h' : n ≤ 9223372036854775807) : zbv (ba (digL n)) = (n,true):=by
 unfold digL zbv
 by_cases hn : n < 0
 ·rw [if_pos hn]
  have hm : zgh (ba (45 :: decL n.natAbs)) = true:=by unfold zgh; rw [zmH,zc6]; simp
  rw [if_pos hm,zc6,if_neg (by have:=zmP n.natAbs; cases hd : decL n.natAbs with | nil => exact absurd hd this | cons a b => simp),ze8,zic,List.drop_succ_cons,List.drop_zero,zjE _ (by omega)]
  simp only [zcJ,if_true,Prod.mk.injEq,and_true]; omega
 ·rw [if_neg hn]
  have hd:=zez n.natAbs
  have hne:=zmP n.natAbs
  have hm : ¬ zgh (ba (decL n.natAbs)) = true:=by
   cases hc : decL n.natAbs with
   | nil => exact absurd hc hne
   | cons a b =>
    rw [hc] at hd
    have:=hd a List.mem_cons_self
    unfold zgh; rw [zmH,zc6]; simp; omega
  rw [if_neg hm,zc6,if_neg (by cases hc : decL n.natAbs with | nil => exact absurd hc hne | cons a b => simp),ze8,zic,List.drop_zero,zjE _ (by omega)]
  have h1 : ¬ -((n.natAbs : Nat) : Int) = least:=by unfold least; omega
  have h2 : least < -((n.natAbs : Nat) : Int):=by unfold least; omega
  simp only [zcJ,if_neg h1,h2]
  simp; omega
theorem zpP (n : Int) : ∀ c ∈ digL n,c = 45 ∨ 48 ≤ c.toNat ∧ c.toNat ≤ 57:=by
 unfold digL
 split
 ·intro c hc
  rcases List.mem_cons.1 hc with e | e
  ·exact .inl e
  ·exact .inr (zez _ c e)
 ·exact fun c hc => .inr (zez _ c hc)
theorem zvX (n : Int) : ¬ digL n = []:=by
 unfold digL
 split
 ·simp
 ·exact zmP _
inductive Ins where
 | set (r : Nat) (k : Int)
 | mov (r s : Nat)
 | alu (o : Nat) (r s t : Nat)
 | inc (r : Nat) (k : Int)
 | load (r s : Nat)
 | store (r s : Nat)
 | read (r : Nat)
 | write (r : Nat)
 | jump (to : Int)
 | less (r s : Nat) (to : Int)
 | same (r s : Nat) (to : Int)
 | call (to : Int)
 | back
 | stop
structure Mc where
 at' : Int
 backs : List Int
 inp : List Int
 steps : Int
 regs : Nat → Int
 cells : Nat → Int
 out : List Int
 frames : Int
 peak : Int
 fin : Int
def upd (f : Nat → Int) (i : Nat) (v : Int) : Nat → Int:=fun j => if j = i then v else f j
theorem zc9 (f : Nat → Int) (i : Nat) (v : Int) : upd f i v i = v:=by simp [upd]
theorem zcU (f : Nat → Int) (i j : Nat) (v : Int) (h : ¬ j = i) : upd f i v j = f j:=by simp [upd,h]
def w64 (x : Int) : Int:=(x + 9223372036854775808) % 18446744073709551616 - 9223372036854775808
def zcr (o : Nat) (a b : Int) : Int:=if o = 0 then w64 (a + b) else if o = 1 then w64 (a - b) else w64 (a * b)
def Mc.goes (m : Mc) (to : Int) : Mc:={ m with steps:=m.steps + 1,at':=to }
def exec (i : Ins) (next : Int) (m : Mc) : Mc :=
 match i with
 | .set r k => { m with regs:=upd m.regs r k }.goes next
 | .mov r s => { m with regs:=upd m.regs r (m.regs s) }.goes next
 | .alu o r s t => { m with regs:=upd m.regs r (zcr o (m.regs s) (m.regs t)) }.goes next
 | .inc r k => { m with regs:=upd m.regs r (w64 (m.regs r + k)) }.goes next
 | .load r s => if m.regs s < 0 ∨ 15 < m.regs s then { m with fin:=3 } else { m with regs:=upd m.regs r (m.cells (m.regs s).toNat) }.goes next
 | .store r s => if m.regs r < 0 ∨ 15 < m.regs r then { m with fin:=3 } else { m with cells:=upd m.cells (m.regs r).toNat (m.regs s) }.goes next
 | .read r => { m with regs:=upd m.regs r (m.inp.headD 0),inp:=m.inp.tail }.goes next
 | .write r => { m with out:=m.out ++ [m.regs r] }.goes next
 | .jump to => m.goes to
 | .less r s to => m.goes (if m.regs r < m.regs s then to else next)
 | .same r s to => m.goes (if m.regs r = m.regs s then to else next)
 | .call to => if m.frames = 16 then { m with fin:=4 } else { m with backs:=m.backs ++ [next],frames:=m.frames + 1,peak:=max m.peak (m.frames + 1) }.goes to
 | .back => if m.frames = 1 then { m with frames:=0,fin:=2 }.goes (-1) else { m with frames:=m.frames - 1,backs:=m.backs.dropLast }.goes (m.backs.getLastD 0)
 | .stop => { m with fin:=1 }.goes (-1)
def za0 (L : List Said) (i : Nat) : Int :=
 if h : i < L.length then (if L[i].kind = 102 then -1 else if L[i].kind = 105 then (i : Int) else za0 L (i + 1)) else -1
termination_by L.length - i
theorem zkn (L : List Said) (i : Nat) (h : ¬ i < L.length) : za0 L i = -1:=by rw [za0,dif_neg h]
theorem zov (L : List Said) (i : Nat) (h : i < L.length) (h' : L[i].kind = 102) : za0 L i = -1:=by rw [za0,dif_pos h,if_pos h']
theorem zgq (L : List Said) (i : Nat) (h : i < L.length) (h' : L[i].kind = 105) : za0 L i = i:=by rw [za0,dif_pos h,if_neg (by omega),if_pos h']
theorem zeO (L : List Said) (i : Nat) (h : i < L.length) (h0 : ¬ L[i].kind = 102) (h' : ¬ L[i].kind = 105) : za0 L i = za0 L (i + 1):=by rw [za0,dif_pos h,if_neg h0,if_neg h']
def regN (x : ByteArray) : Nat:=(reg x).toNat
def zg1 (L : List Said) (k : Nat) (x : ByteArray) : Int:=za0 L (zjf L k x).toNat
def fnTo (L : List Said) (x : ByteArray) : Int:=za0 L (zca L x 0 + 1).toNat
def insQ (L : List Said) (k : Nat) (q : Said) : Ins :=
 if isW (q.word 0) [106,117,109,112] = true then .jump (zg1 L k q.last)
 else if isW (q.word 0) [108,101,115,115] = true then .less (regN (q.word 1)) (regN (q.word 2)) (zg1 L k q.last)
 else if isW (q.word 0) [115,97,109,101] = true then .same (regN (q.word 1)) (regN (q.word 2)) (zg1 L k q.last)
 else if isW (q.word 0) [99,97,108,108] = true then .call (fnTo L q.last)
 else if isW (q.word 0) [98,97,99,107] = true then .back
 else if isW (q.word 0) [115,116,111,112] = true then .stop
 else if isW (q.word 0) [115,101,116] = true then .set (regN (q.word 1)) (zbv (q.word 2)).1
 else if isW (q.word 0) [109,111,118] = true then .mov (regN (q.word 1)) (regN (q.word 2))
 else if isW (q.word 0) [97,100,100] = true then .alu 0 (regN (q.word 1)) (regN (q.word 2)) (regN (q.word 3))
 else if isW (q.word 0) [115,117,98] = true then .alu 1 (regN (q.word 1)) (regN (q.word 2)) (regN (q.word 3))
 else if isW (q.word 0) [109,117,108] = true then .alu 2 (regN (q.word 1)) (regN (q.word 2)) (regN (q.word 3))
 else if isW (q.word 0) [105,110,99] = true then .inc (regN (q.word 1)) (zbv (q.word 2)).1
 else if isW (q.word 0) [108,111,97,100] = true then .load (regN (q.word 1)) (regN (q.word 2))
 else if isW (q.word 0) [115,116,111,114,101] = true then .store (regN (q.word 1)) (regN (q.word 2))
 else if isW (q.word 0) [114,101,97,100] = true then .read (regN (q.word 1))
 else .write (regN (q.word 1))
def zbc (L : List Said) (m : Mc) : Mc :=
 match L[m.at'.toNat]? with
 | none => m
 | some q => exec (insQ L m.at'.toNat q) (za0 L (m.at'.toNat + 1)) m
def runS (f : Mc → Mc) : Nat → Mc → Mc
 | 0,m => m
 | n + 1,m => if m.fin = 0 then runS f n (f m) else m
theorem zbQ (f : Mc → Mc) (n : Nat) (m : Mc) (h : ¬ m.fin = 0) : runS f n m = m:=by
 cases n with
 | zero => rfl
 | succ n => show (if m.fin = 0 then _ else _) = m; rw [if_neg h]
theorem zay (f : Mc → Mc) (n : Nat) (m : Mc) (h : m.fin = 0) : runS f (n + 1) m = runS f n (f m):=by
 show (if m.fin = 0 then _ else _) = _; rw [if_pos h]
def zdV (L : List Said) (i : Nat) : Nat:=if h : i < L.length then (if L[i].kind = 102 then i else zdV L (i + 1)) else i
termination_by L.length - i
def zbl (L : List Said) (inp : List Int) : Mc:=⟨za0 L (zdV L 0 + 1),[],inp,0,fun _ => 0,fun _ => 0,[],1,1,0⟩
def Mc.line (m : Mc) : Int:=if m.fin = 1 ∨ m.fin = 2 then 0 else m.at' + 1
structure Suf (r : List UInt8) : Prop where
 none : zbj r [] = []
 flush : ∀ now,zbj r now = zdf now
 valid : ∀ l : List UInt8,(∀ c ∈ l,c.toNat < 128) → za3 (ba (l ++ r)) 0 = true
 line : ∀ c ∈ r,¬ c = 10
theorem zwO {r : List UInt8} (h : ∀ now,zbj r now = zdf now ++ zbj r []) (h0 : zbj r [] = []) (hv : ∀ l : List UInt8,(∀ c ∈ l,c.toNat < 128) → za3 (ba (l ++ r)) 0 = true) (hl : ∀ c ∈ r,¬ c = 10) : Suf r :=
 ⟨h0,fun now => by rw [h now,h0,List.append_nil],hv,hl⟩
theorem zs1 {r : List UInt8} (hr : ∀ c ∈ r,c.toNat < 128) : ∀ l : List UInt8,(∀ c ∈ l,c.toNat < 128) → za3 (ba (l ++ r)) 0 = true:=fun l hl =>
 zmO _ fun c hc => by
  rcases List.mem_append.1 hc with e | e
  ·exact hl c e
  ·exact hr c e
theorem zbu : Suf []:=zwO zpO rfl (zs1 (fun c hc => by cases hc)) (fun c hc => by cases hc)
structure Wd (x : List UInt8) : Prop where
 ne : ¬ x = []
 ok : ∀ c ∈ x,33 ≤ c.toNat ∧ c.toNat < 127 ∧ ¬ c.toNat = 59
theorem Wd.clean {x : List UInt8} (h : Wd x) : zvW x:=fun c hc => by
 obtain ⟨h1,h2,h3⟩:=h.ok c hc
 refine ⟨fun e => ?_,fun e => ?_⟩
 ·rw [e] at h3; exact h3 rfl
 ·rcases e with e | e <;> rw [e] at h1 <;> revert h1 <;> decide
theorem zpQ (b r : List UInt8) (h : ∀ c ∈ b,c = 32 ∨ c = 9) : zbj (b ++ r) [] = zbj r []:=by
 induction b with
 | nil => rfl
 | cons c t ih => rw [List.cons_append,zmN c _ (h c List.mem_cons_self),ih (fun x hx => h x (List.mem_cons_of_mem _ hx))]
theorem zcx {b s : List UInt8} (hb : ∀ c ∈ b,c = 32 ∨ c = 9) {ws : List (List UInt8)} (hw : ∀ x ∈ ws,Wd x) (hs : Suf s) : say (ba (b ++ zd1 ws ++ s)) = sayW (ws.map ba):=by
 have h1 : words (ba (b ++ zd1 ws ++ s)) = ws.map ba:=by
  rw [zu6,List.append_assoc,zpQ b _ hb,zmM ws s (fun x hx => ⟨(hw x hx).ne,(hw x hx).clean⟩) (fun now => by rw [hs.flush,hs.none,List.append_nil]),hs.none,List.append_nil]
 have h2 : za3 (ba (b ++ zd1 ws ++ s)) 0 = true:=hs.valid _ fun c hc => by
  rcases List.mem_append.1 hc with e | e
  ·rcases hb c e with e | e <;> rw [e] <;> decide
  ·exact zie ws (fun c => c.toNat < 128) (fun x hx c hc => by have:=(hw x hx).ok c hc; omega) (by decide) c e
 unfold say
 rw [if_pos h2,h1]
theorem zce {b s : List UInt8} (hb : ∀ c ∈ b,c = 32 ∨ c = 9) {ws : List (List UInt8)} (hw : ∀ x ∈ ws,Wd x) (hs : Suf s) : ∀ c ∈ b ++ zd1 ws ++ s,¬ c = 10:=by
 intro c hc
 rcases List.mem_append.1 hc with e | e
 ·rcases List.mem_append.1 e with e | e
  ·rcases hb c e with e | e <;> rw [e] <;> decide
  ·exact zie ws (fun c => ¬ c = 10) (fun x hx c hc e => by have:=(hw x hx).ok c hc; rw [e] at this; revert this; decide) (by decide) c e
 ·exact hs.line c e
theorem zvY (x : List UInt8) : sayW ([[102,117,110,99],x].map ba) = ⟨102,[ba [102,117,110,99],ba x],za7 (ba x)⟩:=by
 have : zdM (ba [102,117,110,99]) = true:=by unfold zdM isW; rw [zmG]; rfl
 simp only [List.map_cons,List.map_nil,sayW,this,if_true]
 rfl
theorem znU (x : List UInt8) (c : UInt8) : zeB (ba (x ++ [c])) = (c.toNat : Int):=by
 unfold zeB
 rw [zmH,zc6,List.length_append]; simp
theorem znV (x : List UInt8) : sayW ([x ++ [58]].map ba) = ⟨108,[ba x],za7 (ba x)⟩:=by
 have h1 : zdM (ba (x ++ [58])) = false:=by
  unfold zdM isW; rw [zmG]
  rw [beq_eq_false_iff_ne]
  intro h
  have:=congrArg List.getLast? h
  simp at this
 have h2 : (ba (x ++ [58])).extract 0 ((ba (x ++ [58])).size - 1) = ba x:=by
  rw [← zvV ((ba (x ++ [58])).extract 0 _)]
  congr 1
  rw [ByteArray.data_extract,Array.toList_extract,zc6,zic]
  simp [List.extract_eq_take_drop]
 simp only [List.map_cons,List.map_nil,sayW,h1,h2,znU]
 simp
theorem zvZ (x : List UInt8) (r : List (List UInt8)) (sh : List UInt8) (h1 : ¬ x = [102,117,110,99]) (hl : ∀ y,¬ x = y ++ [58]) (hx : ¬ x = []) (hs : zaa (ba x) = sh) (h63 : ¬ sh = [63]) (hn : r.length = sh.length) : sayW ((x :: r).map ba) = ⟨105,(x :: r).map ba,zaG sh (r.map ba)⟩:=by
 have e1 : zdM (ba x) = false:=by unfold zdM isW; rw [zmG,beq_eq_false_iff_ne]; exact h1
 have e2 : ¬ zeB (ba x) = 58:=by
  intro h
  have:=List.dropLast_concat_getLast hx
  rw [← this,znU] at h
  have h3 : x.getLast hx = 58:=(zu5 (n:=58) (by omega)).1 h
  rw [h3] at this
  exact hl _ this.symm
 have e3 : ¬ (zaa (ba x) = [63] ∨ ¬ ((x :: r).map ba).length = (zaa (ba x)).length + 1):=by
  rw [hs]; simp [h63,hn]
 show (if zdM (ba x) = true then _ else if _ then _ else _) = _
 rw [if_neg (by rw [e1]; decide),if_neg (fun h => e2 h.2)]
 show (⟨105,_,if (zaa (ba x) = [63] ∨ ¬ ((x :: r).map ba).length = (zaa (ba x)).length + 1) then false else zaG (zaa (ba x)) (r.map ba)⟩ : Said) = _
 rw [if_neg e3,hs]
theorem zf9 (L : List Said) (q j : Nat) (c : Int × Int) (h : ∀ k,j ≤ k → k < L.length → badB L q k = false) : pass L q j c = c:=by
 by_cases hj : j < L.length
 ·rw [zci L q j c hj (h j (Nat.le_refl _) hj)]
  exact zf9 L q (j + 1) c (fun k h1 h2 => h k (by omega) h2)
 ·exact zen L q j c hj
termination_by L.length - j
theorem zlv (A : List ByteArray) (i : Nat) (h : ∀ x ∈ A,(say x).ok = true) : zbM A i = zbq (A.map say) 0:=by
 by_cases hi : i < A.length
 ·rw [zep A i hi (h _ (List.getElem_mem _))]
  exact zlv A (i + 1) h
 ·exact zfi A i hi
termination_by A.length - i
structure Prog (L : List Said) : Prop where
 ok : ∀ q ∈ L,q.ok = true
 start : ∃ q r,L = q :: r ∧ q.kind = 102
 twice : ∀ k,k < L.length → zff L k = false
 missing : ∀ k,k < L.length → zcq L k = false
 endless : ∀ k,k < L.length → zd4 L k = false
theorem zs2 (s : ByteArray) (P : Prog ((lines s).map say)) : zbk s = if 4000 < s.size ∨ 300 < (lines s).length then (6,0) else (0,0):=by
 unfold zbk
 split
 ·rfl
 ·rw [zlv _ _ (fun x hx => P.ok _ (List.mem_map_of_mem hx))]
  obtain ⟨q,r,hq,h2⟩:=P.start
  have hl : 0 < ((lines s).map say).length:=by rw [hq]; simp
  have h0 : ((lines s).map say)[0] = q:=by simp only [hq]; rfl
  rw [zfh _ 0 hl (by rw [h0,h2]; decide) (by rw [h0]; exact h2)]
  show pass _ 0 0 (pass _ 1 0 (pass _ 2 0 (0,0))) = _
  rw [zf9 _ 2 0 _ (fun k _ hk => P.endless k hk),zf9 _ 1 0 _ (fun k _ hk => P.missing k hk),zf9 _ 0 0 _ (fun k _ hk => P.twice k hk)]
structure Fs where
 name : List UInt8
 body : List Said
def labI (x : ByteArray) : List Said → Option Nat
 | [] => none
 | q :: r => if zdh q x = true then some 0 else (labI x r).map (· + 1)
def zxf (l : List Said) : Prop:=∀ q ∈ l,¬ q.kind = 102
end Go.Proofs.YtfpgjkbjbbgciaaGreatDoor.Sp
namespace Go.Proofs.YtfpgjkbjbbgciaaGreatDoor
open Go.RowKit Sp
theorem zqa (now : ByteArray) (l : List ByteArray) : (flush now l).length ≤ l.length + 1:=by
 unfold flush; split <;> simp
theorem zeG (s : ByteArray) (i : Nat) (now : ByteArray) (l : List ByteArray) : (zaF s i now l).length ≤ l.length + (s.size - i) + 1:=by
 have hf:=zqa now l
 by_cases h : i < s.size
 ·by_cases h1 : bt s i = 32 ∨ bt s i = 9 ∨ bt s i = 59
  ·by_cases h2 : bt s i = 59
   ·rw [zcB s i now l h h2]; omega
   ·rw [zch s i now l h (by omega)]
    have:=zeG s (i + 1) ByteArray.empty (flush now l)
    omega
  ·rw [zek s i now l h h1]
   have:=zeG s (i + 1) (now ++ s.extract i (i + 1)) l
   omega
 ·rw [zcR s i now l h]; omega
termination_by s.size - i
theorem zqb (s : ByteArray) : (words s).length ≤ s.size + 1:=by
 have:=zeG s 0 ByteArray.empty []
 simpa [words] using this
theorem zqc (x : ByteArray) : (zaa x).length ≤ 3:=by
 unfold zaa
 repeat' split
 all_goals decide
theorem zuQ (x : ByteArray) (h : zdM x = true) : x = ⟨#[102,117,110,99]⟩:=zaD x _ h
def WdIn (w : World) (wb : Nat) (l : List ByteArray) : Prop:=∀ j (h : j < l.length),w.cell? ⟨wb,j,none⟩ = some (.string l[j])
theorem zeP (w : World) (n : Nat) : Below w.heap.size w (w.drewN n):=⟨rfl,rfl,rfl,Nat.le_refl _,fun _ _ => rfl⟩
theorem zcs (x : Int) : wrap64 x = w64 x:=by simp [w64,wrap64]
end Go.Proofs.YtfpgjkbjbbgciaaGreatDoor
namespace Go.Proofs.YtfpgjkbjbbgciaaGreatDoor.Sp
structure BodyOk (names : List (List UInt8)) (b : List Said) : Prop where
 nofn : zxf b
 ok : ∀ q ∈ b,q.ok = true
 labs : ∀ j (hj : j < b.length),b[j].kind = 108 → labI (b[j].word 0) b = some j
 asks : ∀ q ∈ b,q.kind = 105 → zbp (q.word 0) = true → labI q.last b ≠ none
 calls : ∀ q ∈ b,q.kind = 105 → zcl (q.word 0) = true → ∃ x ∈ names,q.last = ba x
 ends : b.foldl (fun e q => if q.kind = 108 then false else if q.kind = 105 then ends (q.word 0) else e) false = true
end Go.Proofs.YtfpgjkbjbbgciaaGreatDoor.Sp
