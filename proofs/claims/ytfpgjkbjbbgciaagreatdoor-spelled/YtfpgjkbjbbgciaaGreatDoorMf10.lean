import Derived.Test.YtfpgjkbjbbgciaaGreatDoorMf07
import Derived.Test.YtfpgjkbjbbgciaaGreatDoorMf08
set_option maxRecDepth 100000
set_option maxHeartbeats 8000000
namespace Go.Proofs.YtfpgjkbjbbgciaaGreatDoor.Sp
def badB (L : List Said) (q k : Nat) : Bool:=if q = 0 then zd5 L k else if q = 1 then zb2 L k else zct L k
def pass (L : List Said) (q j : Nat) (c : Int × Int) : Int × Int :=
 if j < L.length then (if badB L q j = true then (3 + (q : Int),(j : Int) + 1) else pass L q (j + 1) c) else c
termination_by L.length - j
theorem zee (L : List Said) (q j : Nat) (c : Int × Int) (h : ¬ j < L.length) : pass L q j c = c:=by rw [pass,if_neg h]
theorem zef (L : List Said) (q j : Nat) (c : Int × Int) (h : j < L.length) (h' : badB L q j = true) : pass L q j c = (3 + (q : Int),(j : Int) + 1):=by rw [pass,if_pos h,if_pos h']
theorem zbF (L : List Said) (q j : Nat) (c : Int × Int) (h : j < L.length) (h' : badB L q j = false) : pass L q j c = pass L q (j + 1) c:=by rw [pass,if_pos h,if_neg (by simp [h'])]
def tail (L : List Said) (q : Nat) : Int × Int:=if q = 0 then pass L 0 0 (pass L 1 0 (pass L 2 0 (0,0))) else if q = 1 then pass L 1 0 (pass L 2 0 (0,0)) else if q = 2 then pass L 2 0 (0,0) else (0,0)
def zaV (L : List Said) (i : Nat) : Int × Int :=
 if h : i < L.length then (if L[i].kind = 0 then zaV L (i + 1) else if L[i].kind = 102 then tail L 0 else (2,(i : Int) + 1)) else (2,0)
termination_by L.length - i
theorem zf9 (L : List Said) (i : Nat) (h : ¬ i < L.length) : zaV L i = (2,0):=by rw [zaV,dif_neg h]
theorem zg7 (L : List Said) (i : Nat) (h : i < L.length) (h' : L[i].kind = 0) : zaV L i = zaV L (i + 1):=by rw [zaV,dif_pos h,if_pos h']
theorem zfA (L : List Said) (i : Nat) (h : i < L.length) (h' : ¬ L[i].kind = 0) (h2 : L[i].kind = 102) : zaV L i = tail L 0:=by rw [zaV,dif_pos h,if_neg h',if_pos h2]
theorem zhB (L : List Said) (i : Nat) (h : i < L.length) (h' : ¬ L[i].kind = 0) (h2 : ¬ L[i].kind = 102) : zaV L i = (2,(i : Int) + 1):=by rw [zaV,dif_pos h,if_neg h',if_neg h2]
def zbs (A : List ByteArray) (i : Nat) : Int × Int :=
 if h : i < A.length then (if (say A[i]).ok = true then zbs A (i + 1) else (1,(i : Int) + 1)) else zaV (A.map say) 0
termination_by A.length - i
theorem zfB (A : List ByteArray) (i : Nat) (h : ¬ i < A.length) : zbs A i = zaV (A.map say) 0:=by rw [zbs,dif_neg h]
theorem zeg (A : List ByteArray) (i : Nat) (h : i < A.length) (h' : (say A[i]).ok = true) : zbs A i = zbs A (i + 1):=by rw [zbs,dif_pos h,if_pos h']
theorem zeh (A : List ByteArray) (i : Nat) (h : i < A.length) (h' : (say A[i]).ok = false) : zbs A i = (1,(i : Int) + 1):=by rw [zbs,dif_pos h,if_neg (by simp [h'])]
def zd1 (s : ByteArray) : Int × Int:=if 4000 < s.size ∨ 300 < (lines s).length then (6,0) else zbs (lines s) 0
theorem zdJ (s : ByteArray) (f i : Nat) : 1 ≤ (zbl s f i).length ∧ (zbl s f i).length ≤ s.size - i + 1:=by
 by_cases h : i < s.size
 ·by_cases h' : bt s i = 10
  ·rw [zdE s f i h h']
   have:=zdJ s (i + 1) (i + 1)
   simp; omega
  ·rw [ze5 s f i h h']
   have:=zdJ s f (i + 1)
   omega
 ·rw [zdD s f i h]; simp
termination_by s.size - i
theorem zm0 (s : ByteArray) : 1 ≤ (lines s).length ∧ (lines s).length ≤ s.size + 1:=zdJ s 0 0
theorem zcA (s : ByteArray) (f i : Nat) : ∀ x ∈ zbl s f i,x.size ≤ s.size:=by
 by_cases h : i < s.size
 ·by_cases h' : bt s i = 10
  ·rw [zdE s f i h h']
   intro x hx
   rw [List.mem_cons] at hx
   rcases hx with rfl | hx
   ·rw [ByteArray.size_extract]; omega
   ·exact zcA s (i + 1) (i + 1) x hx
  ·rw [ze5 s f i h h']
   exact zcA s f (i + 1)
 ·rw [zdD s f i h]
  intro x hx
  simp at hx; subst hx
  rw [ByteArray.size_extract]; omega
termination_by s.size - i
theorem zdK (s : ByteArray) : ∀ x ∈ lines s,x.size ≤ s.size:=zcA s 0 0
theorem zqo (s : ByteArray) (h : (say s).ok = true) : Wf (say s):=by
 unfold say at h ⊢
 split at h
 ·rename_i hv
  rw [if_pos hv]
  generalize zs4 s = l at h ⊢
  unfold sayW at h ⊢
  split at h
  ·exact .inl ⟨rfl,rfl⟩
  ·rename_i x r
   by_cases hf : zcR x = true
   ·rw [if_pos hf] at h ⊢
    simp only [Bool.and_eq_true,decide_eq_true_eq] at h
    exact .inr (.inl ⟨rfl,h.1⟩)
   ·rw [if_neg hf] at h ⊢
    by_cases hl : (x :: r).length = 1 ∧ zdF x = 58
    ·rw [if_pos hl] at h ⊢
     exact .inr (.inr (.inl ⟨rfl,rfl⟩))
    ·rw [if_neg hl] at h ⊢
     simp only at h
     split at h
     ·cases h
     ·rename_i hs
      refine .inr (.inr (.inr ⟨rfl,by simp,?_⟩))
      have h3 : (zaa x).length ≤ 3:=by
       unfold zaa
       repeat' split
       all_goals decide
      have h4 : (x :: r).length = (zaa x).length + 1:=by
       rcases Classical.em ((x :: r).length = (zaa x).length + 1) with h | h
       ·exact h
       ·exact absurd (.inr h) hs
      show (x :: r).length ≤ 4
      omega
 ·cases h
inductive Ins where
 | set (r : Nat) (k : Int)
 | mov (r s : Nat)
 | alu (o : Nat) (r s t : Nat)
 | inc (r : Nat) (k : Int)
 | load (r s : Nat)
 | store (r s : Nat)
 | read (r : Nat)
 | write (r : Nat)
 | jump (to : Int)
 | less (r s : Nat) (to : Int)
 | same (r s : Nat) (to : Int)
 | call (to : Int)
 | back
 | stop
structure Mc where
 at' : Int
 backs : List Int
 inp : List Int
 steps : Int
 regs : Nat → Int
 cells : Nat → Int
 out : List Int
 frames : Int
 peak : Int
 fin : Int
def upd (f : Nat → Int) (i : Nat) (v : Int) : Nat → Int:=fun j => if j = i then v else f j
theorem zkr (f : Nat → Int) (i : Nat) (v : Int) : upd f i v i = v:=by simp [upd]
theorem zhH (f : Nat → Int) (i j : Nat) (v : Int) (h : ¬ j = i) : upd f i v j = f j:=by simp [upd,h]
def w64 (x : Int) : Int:=(x + 9223372036854775808) % 18446744073709551616 - 9223372036854775808
def zcl (o : Nat) (a b : Int) : Int:=if o = 0 then w64 (a + b) else if o = 1 then w64 (a - b) else w64 (a * b)
def Mc.goes (m : Mc) (to : Int) : Mc:={ m with steps:=m.steps + 1,at':=to }
def exec (i : Ins) (next : Int) (m : Mc) : Mc :=
 match i with
 | .set r k => { m with regs:=upd m.regs r k }.goes next
 | .mov r s => { m with regs:=upd m.regs r (m.regs s) }.goes next
 | .alu o r s t => { m with regs:=upd m.regs r (zcl o (m.regs s) (m.regs t)) }.goes next
 | .inc r k => { m with regs:=upd m.regs r (w64 (m.regs r + k)) }.goes next
 | .load r s => if m.regs s < 0 ∨ 15 < m.regs s then { m with fin:=3 } else { m with regs:=upd m.regs r (m.cells (m.regs s).toNat) }.goes next
 | .store r s => if m.regs r < 0 ∨ 15 < m.regs r then { m with fin:=3 } else { m with cells:=upd m.cells (m.regs r).toNat (m.regs s) }.goes next
 | .read r => { m with regs:=upd m.regs r (m.inp.headD 0),inp:=m.inp.tail }.goes next
 | .write r => { m with out:=m.out ++ [m.regs r] }.goes next
 | .jump to => m.goes to
 | .less r s to => m.goes (if m.regs r < m.regs s then to else next)
 | .same r s to => m.goes (if m.regs r = m.regs s then to else next)
 | .call to => if m.frames = 16 then { m with fin:=4 } else { m with backs:=m.backs ++ [next],frames:=m.frames + 1,peak:=max m.peak (m.frames + 1) }.goes to
 | .back => if m.frames = 1 then { m with frames:=0,fin:=2 }.goes (-1) else { m with frames:=m.frames - 1,backs:=m.backs.dropLast }.goes (m.backs.getLastD 0)
 | .stop => { m with fin:=1 }.goes (-1)
def zan (L : List Said) (i : Nat) : Int :=
 if h : i < L.length then (if L[i].kind = 102 then -1 else if L[i].kind = 105 then (i : Int) else zan L (i + 1)) else -1
termination_by L.length - i
theorem zhI (L : List Said) (i : Nat) (h : ¬ i < L.length) : zan L i = -1:=by rw [zan,dif_neg h]
theorem zlj (L : List Said) (i : Nat) (h : i < L.length) (h' : L[i].kind = 102) : zan L i = -1:=by rw [zan,dif_pos h,if_pos h']
theorem zfa (L : List Said) (i : Nat) (h : i < L.length) (h' : L[i].kind = 105) : zan L i = i:=by rw [zan,dif_pos h,if_neg (by omega),if_pos h']
theorem zdN (L : List Said) (i : Nat) (h : i < L.length) (h0 : ¬ L[i].kind = 102) (h' : ¬ L[i].kind = 105) : zan L i = zan L (i + 1):=by rw [zan,dif_pos h,if_neg h0,if_neg h']
def regN (x : ByteArray) : Nat:=(reg x).toNat
def zfo (L : List Said) (k : Nat) (x : ByteArray) : Int:=zan L (zf6 L k x).toNat
def fnTo (L : List Said) (x : ByteArray) : Int:=zan L (zba L x 0 + 1).toNat
def insQ (L : List Said) (k : Nat) (q : Said) : Ins :=
 if isW (q.word 0) [106,117,109,112] = true then .jump (zfo L k q.last)
 else if isW (q.word 0) [108,101,115,115] = true then .less (regN (q.word 1)) (regN (q.word 2)) (zfo L k q.last)
 else if isW (q.word 0) [115,97,109,101] = true then .same (regN (q.word 1)) (regN (q.word 2)) (zfo L k q.last)
 else if isW (q.word 0) [99,97,108,108] = true then .call (fnTo L q.last)
 else if isW (q.word 0) [98,97,99,107] = true then .back
 else if isW (q.word 0) [115,116,111,112] = true then .stop
 else if isW (q.word 0) [115,101,116] = true then .set (regN (q.word 1)) (zbj (q.word 2)).1
 else if isW (q.word 0) [109,111,118] = true then .mov (regN (q.word 1)) (regN (q.word 2))
 else if isW (q.word 0) [97,100,100] = true then .alu 0 (regN (q.word 1)) (regN (q.word 2)) (regN (q.word 3))
 else if isW (q.word 0) [115,117,98] = true then .alu 1 (regN (q.word 1)) (regN (q.word 2)) (regN (q.word 3))
 else if isW (q.word 0) [109,117,108] = true then .alu 2 (regN (q.word 1)) (regN (q.word 2)) (regN (q.word 3))
 else if isW (q.word 0) [105,110,99] = true then .inc (regN (q.word 1)) (zbj (q.word 2)).1
 else if isW (q.word 0) [108,111,97,100] = true then .load (regN (q.word 1)) (regN (q.word 2))
 else if isW (q.word 0) [115,116,111,114,101] = true then .store (regN (q.word 1)) (regN (q.word 2))
 else if isW (q.word 0) [114,101,97,100] = true then .read (regN (q.word 1))
 else .write (regN (q.word 1))
def zbW (L : List Said) (m : Mc) : Mc :=
 match L[m.at'.toNat]? with
 | none => m
 | some q => exec (insQ L m.at'.toNat q) (zan L (m.at'.toNat + 1)) m
def runS (f : Mc → Mc) : Nat → Mc → Mc
 | 0,m => m
 | n + 1,m => if m.fin = 0 then runS f n (f m) else m
theorem zbb (f : Mc → Mc) (n : Nat) (m : Mc) (h : ¬ m.fin = 0) : runS f n m = m:=by
 cases n with
 | zero => rfl
 | succ n => show (if m.fin = 0 then _ else _) = m; rw [if_neg h]
theorem zcm (f : Mc → Mc) (n : Nat) (m : Mc) (h : m.fin = 0) : runS f (n + 1) m = runS f n (f m):=by
 show (if m.fin = 0 then _ else _) = _; rw [if_pos h]
def zcS (L : List Said) (i : Nat) : Nat:=if h : i < L.length then (if L[i].kind = 102 then i else zcS L (i + 1)) else i
termination_by L.length - i
def zb9 (L : List Said) (inp : List Int) : Mc:=⟨zan L (zcS L 0 + 1),[],inp,0,fun _ => 0,fun _ => 0,[],1,1,0⟩
def Mc.line (m : Mc) : Int:=if m.fin = 1 ∨ m.fin = 2 then 0 else m.at' + 1
def ba (l : List UInt8) : ByteArray:=⟨l.toArray⟩
theorem zfH (l : List UInt8) : (ba l).data.toList = l:=rfl
theorem zfI (l : List UInt8) : (ba l).toList = l:=by rw [ByteArray.toList_eq]; rfl
theorem zbV (l : List UInt8) : (ba l).size = l.length:=rfl
theorem zm2 (s : ByteArray) : ba s.data.toList = s:=rfl
theorem zjd (l : List UInt8) (k : Nat) : bt (ba l) k = ((l[k]?.getD 0).toNat : Int):=by
 unfold bt ba; simp
theorem zoB (l : List UInt8) : lines (ba l) = (zbm l).map ba:=by
 have h:=zhg (ba l) 0 0 (Nat.le_refl _) (Nat.zero_le _)
 rw [Nat.sub_zero,List.take_zero,zjc _ (zfF _),zfH,List.drop_zero] at h
 rw [← h,List.map_map]
 show lines (ba l) = (zbl (ba l) 0 0).map _
 have : (ba ∘ fun x : ByteArray => x.data.toList) = id:=funext fun x => rfl
 rw [this,List.map_id]; rfl
theorem zje (l r : List UInt8) (h : ∀ c ∈ l,¬ c = 10) : zbm (l ++ 10 :: r) = l :: zbm r:=by
 induction l with
 | nil => simp [zbm]
 | cons c t ih =>
  rw [List.cons_append,zbm,if_neg (h c List.mem_cons_self),ih (fun x hx => h x (List.mem_cons_of_mem _ hx))]
  rfl
theorem zjf (l : List UInt8) (h : ∀ c ∈ l,¬ c = 10) : zbm l = [l]:=by
 induction l with
 | nil => rfl
 | cons c t ih =>
  rw [zbm,if_neg (h c List.mem_cons_self),ih (fun x hx => h x (List.mem_cons_of_mem _ hx))]
  rfl
def zck (ls : List (List UInt8)) : List UInt8:=ls.flatMap (· ++ [10])
theorem zg9 (l : List UInt8) (ls : List (List UInt8)) : zck (l :: ls) = l ++ 10 :: zck ls:=by simp [zck]
theorem zhC (a b : List (List UInt8)) : zck (a ++ b) = zck a ++ zck b:=by simp [zck]
theorem zjg (ls : List (List UInt8)) (r : List UInt8) (h : ∀ l ∈ ls,∀ c ∈ l,¬ c = 10) : zbm (zck ls ++ r) = ls ++ zbm r:=by
 induction ls with
 | nil => rfl
 | cons l t ih =>
  rw [zg9,List.append_assoc,List.cons_append,zje l _ (h l List.mem_cons_self),ih (fun x hx => h x (List.mem_cons_of_mem _ hx))]
  rfl
def zcu (now : List UInt8) : List (List UInt8):=if now = [] then [] else [now]
def zaH : List UInt8 → List UInt8 → List (List UInt8)
 | [],now => zcu now
 | c :: r,now => if c = 59 then zcu now else if c = 32 ∨ c = 9 then zcu now ++ zaH r [] else zaH r (now ++ [c])
theorem zjh (now : List UInt8) (l : List ByteArray) : flush (ba now) l = l ++ (zcu now).map ba:=by
 unfold flush zcu
 rw [zbV]
 cases now with
 | nil => simp
 | cons c r => simp
theorem zoC {c : UInt8} {n : Nat} (hn : n < 256) : ((c.toNat : Int) = (n : Int)) ↔ c = UInt8.ofNat n:=by
 constructor
 ·intro h
  have h2 : c.toNat = n:=by omega
  apply UInt8.toNat_inj.1
  rw [h2]; simp; omega
 ·intro h; subst h; simp; omega
theorem zfJ (s : ByteArray) (i : Nat) (now : List UInt8) (l : List ByteArray) : zay s i (ba now) l = l ++ (zaH (s.data.toList.drop i) now).map ba:=by
 by_cases h : i < s.size
 ·obtain ⟨c,r,h1,h2,h3⟩:=zfE s i h
  rw [h1]
  have e32 : bt s i = 32 ↔ c = 32:=by rw [← h2]; exact zoC (n:=32) (by omega)
  have e9 : bt s i = 9 ↔ c = 9:=by rw [← h2]; exact zoC (n:=9) (by omega)
  have e59 : bt s i = 59 ↔ c = 59:=by rw [← h2]; exact zoC (n:=59) (by omega)
  by_cases k59 : c = 59
  ·rw [zbQ s i _ l h (e59.2 k59),zjh]
   simp [zaH,k59]
  ·by_cases kb : c = 32 ∨ c = 9
   ·rw [zb4 s i _ l h (kb.imp e32.2 e9.2),zjh]
    have:=zfJ s (i + 1) [] (l ++ (zcu now).map ba)
    rw [show ba [] = ByteArray.empty from rfl] at this
    rw [this,← h3]
    simp [zaH,k59,kb]
   ·rw [zdm s i _ l h (fun hh => by rcases hh with hh | hh | hh
                                    ·exact kb (.inl (e32.1 hh))
                                    ·exact kb (.inr (e9.1 hh))
                                    ·exact k59 (e59.1 hh))]
    have ex : s.extract i (i + 1) = ba [c]:=by
     rw [← zm2 (s.extract i (i + 1))]
     congr 1
     have : (s.extract i (i + 1)).data.toList = (s.data.toList.drop i).take 1:=by
      rw [ByteArray.data_extract,Array.toList_extract]; first | done | simp
     rw [this,h1]; rfl
    have ea : ba now ++ ba [c] = ba (now ++ [c]):=by
     rw [← zm2 (ba now ++ ba [c])]; rw [ByteArray.data_append,Array.toList_append]; rfl
    rw [ex,ea,zfJ s (i + 1),← h3]
    simp [zaH,k59,kb]
 ·rw [zch s i _ l h,List.drop_of_length_le (by simpa using h),zjh]; rfl
termination_by s.size - i
theorem zoD (l : List UInt8) : zs4 (ba l) = (zaH l []).map ba:=by
 have:=zfJ (ba l) 0 [] []
 rw [zfH,List.drop_zero,List.nil_append] at this
 exact this
def zq3 (x : List UInt8) : Prop:=∀ c ∈ x,¬ c = 59 ∧ ¬ (c = 32 ∨ c = 9)
theorem zgA (x r now : List UInt8) (h : zq3 x) : zaH (x ++ r) now = zaH r (now ++ x):=by
 induction x generalizing now with
 | nil => simp
 | cons c t ih =>
  obtain ⟨h1,h2⟩:=h c List.mem_cons_self
  rw [List.cons_append,zaH,if_neg h1,if_neg h2,ih _ (fun y hy => h y (List.mem_cons_of_mem _ hy))]
  simp
def zbG : List (List UInt8) → List UInt8
 | [] => []
 | [x] => x
 | x :: y :: r => x ++ 32 :: zbG (y :: r)
theorem zji (ws : List (List UInt8)) (r : List UInt8) (h : ∀ x ∈ ws,¬ x = [] ∧ zq3 x) (he : ∀ now,zaH r now = zcu now ++ zaH r []) : zaH (zbG ws ++ r) [] = ws ++ zaH r []:=by
 induction ws with
 | nil => rfl
 | cons x t ih =>
  obtain ⟨h1,h2⟩:=h x List.mem_cons_self
  cases t with
  | nil =>
   show zaH (x ++ r) [] = _
   rw [zgA x r [] h2,List.nil_append,he]
   simp [zcu,h1]
  | cons y t =>
   show zaH (x ++ 32 :: zbG (y :: t) ++ r) [] = _
   rw [List.append_assoc,zgA x _ [] h2,List.nil_append,List.cons_append,zaH,if_neg (by decide),if_pos (.inl rfl),ih (fun z hz => h z (List.mem_cons_of_mem _ hz))]
   simp [zcu,h1]
theorem zlf (now : List UInt8) : zaH [] now = zcu now ++ zaH [] []:=by simp [zaH,zcu]
theorem zjj (c : UInt8) (r : List UInt8) (h : c = 32 ∨ c = 9) : zaH (c :: r) [] = zaH r []:=by
 have h59 : ¬ c = 59:=by rcases h with rfl | rfl <;> decide
 simp only [zaH,if_neg h59,if_pos h]
 simp [zcu]
theorem zfK (ws : List (List UInt8)) (P : UInt8 → Prop) (h : ∀ x ∈ ws,∀ c ∈ x,P c) (h32 : P 32) : ∀ c ∈ zbG ws,P c:=by
 induction ws with
 | nil => intro c hc; cases hc
 | cons x t ih =>
  cases t with
  | nil => exact h x List.mem_cons_self
  | cons y t =>
   intro c hc
   rcases List.mem_append.1 (show c ∈ x ++ 32 :: zbG (y :: t) from hc) with e | e
   ·exact h x List.mem_cons_self c e
   ·rcases List.mem_cons.1 e with e | e
    ·rw [e]; exact h32
    ·exact ih (fun z hz => h z (List.mem_cons_of_mem _ hz)) c e
theorem zm3 (s : ByteArray) (i d : Nat) (hd : i + d ≤ s.size) (h : ∀ j,i ≤ j → j < i + d → bt s j < 128) : zar s i = zar s (i + d):=by
 induction d generalizing i with
 | zero => rfl
 | succ d ih =>
  have h0:=h i (Nat.le_refl _) (by omega)
  have hc : chr s i = (1,bt s i):=by unfold chr; rw [if_pos h0]
  have hn : chrN s i = 1:=by unfold chrN; rw [hc]; rfl
  rw [zeY s i (by omega) (by rw [hc]; show ¬ (1 : Int) = 0; decide),hn,ih (i + 1) (by omega) (fun j h1 h2 => h j (by omega) (by omega)),show i + 1 + d = i + (d + 1) by omega]
theorem zjk (l : List UInt8) (h : ∀ c ∈ l,c.toNat < 128) : zar (ba l) 0 = true:=by
 rw [zm3 (ba l) 0 l.length (by rw [zbV]; omega) (fun j _ hj => ?_),zf4 _ _ (by rw [zbV]; omega)]
 rw [zjd,List.getElem?_eq_getElem (by omega)]
 have:=h l[j] (List.getElem_mem _)
 simp only [Option.getD_some]; omega
theorem zoE (s : ByteArray) (i d c : Nat) (hd : i + d ≤ s.size) (h : ∀ j,i ≤ j → j < i + d → bt s j < 128 ∧ (zbZ (bt s j) = true ∨ (zaD (bt s j) = true ∧ ¬ j = 0))) : zbP s i c = zbP s (i + d) (c + d):=by
 induction d generalizing i c with
 | zero => rfl
 | succ d ih =>
  obtain ⟨h0,h1⟩:=h i (Nat.le_refl _) (by omega)
  have hc : chr s i = (1,bt s i):=by unfold chr; rw [if_pos h0]
  have hn : chrN s i = 1:=by unfold chrN; rw [hc]; rfl
  rw [zdC s i c (by omega) (by rw [hc]; show ¬ (1 : Int) = 0; decide) (by rw [hc]; exact h1),hn,ih (i + 1) (c + 1) (by omega) (fun j h1 h2 => h j (by omega) (by omega)),show i + 1 + d = i + (d + 1) by omega,show c + 1 + d = c + (d + 1) by omega]
def zfr (c : UInt8) : Bool:=(decide (97 ≤ c.toNat ∧ c.toNat ≤ 122) || decide (c.toNat = 95)) || decide (48 ≤ c.toNat ∧ c.toNat ≤ 57)
theorem zgB (c : UInt8) (r : List UInt8) (h0 : 97 ≤ c.toNat ∧ c.toNat ≤ 122) (h : ∀ x ∈ r,zfr x = true) (hl : r.length ≤ 11) : zau (ba (c :: r)) = true:=by
 unfold zau
 rw [zoE (ba (c :: r)) 0 (r.length + 1) 0 (by rw [zbV]; simp) (fun j _ hj => ?_),zg5 _ _ _ (by rw [zbV]; simp)]
 ·simp only [zcf,decide_eq_true_eq]; omega
 ·rw [zjd,List.getElem?_eq_getElem (by simp; omega)]
  cases j with
  | zero =>
   refine ⟨by simp; omega,.inl ?_⟩
   simp [zbZ]; omega
  | succ j =>
   have hx:=h (r[j]'(by omega)) (List.getElem_mem _)
   simp [zfr] at hx
   refine ⟨by simp; omega,?_⟩
   simp [zbZ,zaD]
   omega
theorem zr5 (r : Nat) (h : r < 8) : reg (ba [114,UInt8.ofNat (48 + r)]) = (r : Int):=by
 have e1 : bt (ba [114,UInt8.ofNat (48 + r)]) 1 = 48 + (r : Int):=by
  rw [zjd]; simp; omega
 have e0 : bt (ba [114,UInt8.ofNat (48 + r)]) 0 = 114:=by rw [zjd]; simp
 have e : regB (ba [114,UInt8.ofNat (48 + r)]) = true:=by
  unfold regB; rw [e0,e1,zbV]; simp; omega
 unfold reg; rw [if_pos e,e1]; omega
def decL (n : Nat) : List UInt8:=if n < 10 then [UInt8.ofNat (48 + n)] else decL (n / 10) ++ [UInt8.ofNat (48 + n % 10)]
termination_by n
decreasing_by omega
theorem zbt (n : Nat) (h : n < 10) : decL n = [UInt8.ofNat (48 + n)]:=by rw [decL,if_pos h]
theorem zdp (n : Nat) (h : ¬ n < 10) : decL n = decL (n / 10) ++ [UInt8.ofNat (48 + n % 10)]:=by rw [decL,if_neg h]
theorem zjl (n : Nat) : ¬ decL n = []:=by
 by_cases h : n < 10
 ·rw [zbt n h]; simp
 ·rw [zdp n h]; simp
theorem zcd (n : Nat) : ∀ c ∈ decL n,48 ≤ c.toNat ∧ c.toNat ≤ 57:=by
 by_cases h : n < 10
 ·rw [zbt n h]; intro c hc; rw [List.mem_singleton.1 hc]; simp; omega
 ·rw [zdp n h]
  intro c hc
  rcases List.mem_append.1 hc with e | e
  ·exact zcd (n / 10) c e
  ·rw [List.mem_singleton.1 e]; simp; omega
termination_by n
decreasing_by omega
theorem zm4 (l : List UInt8) (c : UInt8) (n : Int) : numL (l ++ [c]) n = (numL l n).bind fun v => if zd4 v ((c.toNat : Int) - 48) = true then none else some (10 * v - ((c.toNat : Int) - 48)):=by
 induction l generalizing n with
 | nil => simp [numL]
 | cons x t ih =>
  simp only [List.cons_append,numL]
  split
  ·rfl
  ·exact ih _
theorem zei (n : Nat) (h : n ≤ 9223372036854775808) : numL (decL n) 0 = some (-(n : Int)):=by
 by_cases h9 : n < 10
 ·rw [zbt n h9]
  have e : ((UInt8.ofNat (48 + n)).toNat : Int) - 48 = (n : Int):=by simp; omega
  have hb:=ze7 0 (n : Int) (by omega) (by omega)
  simp only [numL,e]
  rw [show (0 : Int) = -((0 : Nat) : Int) by simp,hb,if_neg (by simp; omega)]
  simp
 ·rw [zdp n h9,zm4,zei (n / 10) (by omega)]
  have e : ((UInt8.ofNat (48 + n % 10)).toNat : Int) - 48 = ((n % 10 : Nat) : Int):=by simp; omega
  have hb:=ze7 (n / 10) ((n % 10 : Nat) : Int) (by omega) (by omega)
  simp only [Option.bind_some,e,hb]
  rw [if_neg (by simp; omega)]
  congr 1; omega
termination_by n
decreasing_by omega
def digL (n : Int) : List UInt8:=if n < 0 then 45 :: decL n.natAbs else decL n.natAbs
theorem zoF (n : Int) (h : -9223372036854775808 ≤ n) (h' : n ≤ 9223372036854775807) : zbj (ba (digL n)) = (n,true):=by
 unfold digL zbj
 by_cases hn : n < 0
 ·rw [if_pos hn]
  have hm : zeZ (ba (45 :: decL n.natAbs)) = true:=by unfold zeZ; rw [zjd,zbV]; simp
  rw [if_pos hm,zbV,if_neg (by have:=zjl n.natAbs; cases hd : decL n.natAbs with | nil => exact absurd hd this | cons a b => simp),zdM,zfH,List.drop_succ_cons,List.drop_zero,zei _ (by omega)]
  simp only [zcg,if_true,Prod.mk.injEq,and_true]; omega
 ·rw [if_neg hn]
  have hd:=zcd n.natAbs
  have hne:=zjl n.natAbs
  have hm : ¬ zeZ (ba (decL n.natAbs)) = true:=by
   cases hc : decL n.natAbs with
   | nil => exact absurd hc hne
   | cons a b =>
    rw [hc] at hd
    have:=hd a List.mem_cons_self
    unfold zeZ; rw [zjd,zbV]; simp; omega
  rw [if_neg hm,zbV,if_neg (by cases hc : decL n.natAbs with | nil => exact absurd hc hne | cons a b => simp),zdM,zfH,List.drop_zero,zei _ (by omega)]
  have h1 : ¬ -((n.natAbs : Nat) : Int) = least:=by unfold least; omega
  have h2 : least < -((n.natAbs : Nat) : Int):=by unfold least; omega
  simp only [zcg,if_neg h1,h2]
  simp; omega
theorem zlg (n : Int) : ∀ c ∈ digL n,c = 45 ∨ 48 ≤ c.toNat ∧ c.toNat ≤ 57:=by
 unfold digL
 split
 ·intro c hc
  rcases List.mem_cons.1 hc with e | e
  ·exact .inl e
  ·exact .inr (zcd _ c e)
 ·exact fun c hc => .inr (zcd _ c hc)
theorem zq4 (n : Int) : ¬ digL n = []:=by
 unfold digL
 split
 ·simp
 ·exact zjl _
end Go.Proofs.YtfpgjkbjbbgciaaGreatDoor.Sp
