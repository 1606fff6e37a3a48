import Derived.Test.YtfpgjkbjbbgciaaGreatDoorMf35
import Derived.Test.YtfpgjkbjbbgciaaGreatDoorMf38
set_option maxRecDepth 100000
set_option maxHeartbeats 8000000
namespace Go.Proofs.YtfpgjkbjbbgciaaGreatDoor
open Sp
def zey (F : List FnM) (k : Nat) (l : List It) : List (Ins × Int):=l.map (fun i => (insM F k i,i.line))
def zcJ (F : List FnM) : Nat → List FnM → List (Ins × Int)
 | _,[] => []
 | k,f :: r => zey F k (zaf f.its) ++ zcJ F (k + 1) r
def zaq (F : List FnM) : List (Ins × Int):=zcJ F 0 F
theorem zi8 (F : List FnM) (k : Nat) (R : List FnM) : (zcJ F k R).length = lenF R:=by
 induction R generalizing k with
 | nil => rfl
 | cons f R ih => rw [zdf,zcJ,List.length_append,ih]; simp [zey]
theorem zeO (F : List FnM) : (zaq F).length = lenF F:=zi8 F 0 F
theorem zhw (F : List FnM) (n : Nat) (R : List FnM) (k : Nat) (f : FnM) (hk : R[k]? = some f) (m : Nat) (it : It) (hm : (zaf f.its)[m]? = some it) :
  (zcJ F n R)[lenF (R.take k) + m]? = some (insM F (n + k) it,it.line):=by
 induction R generalizing n k with
 | nil => simp at hk
 | cons g R ih =>
  have hl : (zey F n (zaf g.its)).length = (zaf g.its).length:=by simp [zey]
  cases k with
  | zero =>
   have e : g = f:=by simpa using hk
   subst e
   have hlt : m < (zaf g.its).length:=(List.getElem?_eq_some_iff.1 hm).1
   rw [zcJ,List.take_zero,show lenF [] + m = m by simp [lenF],List.getElem?_append_left (by omega)]
   unfold zey
   rw [List.getElem?_map,hm]
   rfl
  | succ k =>
   rw [List.getElem?_cons_succ] at hk
   rw [zcJ,List.take_succ_cons,zdf,List.getElem?_append_right (by omega),hl]
   rw [show (zaf g.its).length + lenF (R.take k) + m - (zaf g.its).length = lenF (R.take k) + m by omega,ih (n + 1) k hk]
   rw [show n + 1 + k = n + (k + 1) by omega]
theorem znO (R : List FnM) (p : Nat) (hp : p < lenF R) : ∃ k f m it,R[k]? = some f ∧ (zaf f.its)[m]? = some it ∧ p = lenF (R.take k) + m:=by
 induction R generalizing p with
 | nil => simp [lenF] at hp
 | cons g R ih =>
  rw [zdf] at hp
  by_cases h : p < (zaf g.its).length
  ·exact ⟨0,g,p,(zaf g.its)[p],rfl,List.getElem?_eq_getElem h,by simp [lenF]⟩
  ·obtain ⟨k,f,m,it,a,b,c⟩:=ih (p - (zaf g.its).length) (by omega)
   exact ⟨k + 1,f,m,it,by rw [List.getElem?_cons_succ]; exact a,b,by rw [List.take_succ_cons,zdf]; omega⟩
structure Right (L : List Said) (F : List FnM) : Prop where
 good : Good L
 first : zah L 0 = []
 fns : F.map FnM.fn = za3 L 0
 some_ : 0 < F.length
def zeP (C : List (Ins × Int)) (z : Int) : Int:=(C[z.toNat]?.map (·.2)).getD 0 - 1
theorem zkP {C : List (Ins × Int)} {p : Nat} {q : Ins × Int} (h : C[p]? = some q) : zeP C (p : Int) = q.2 - 1:=by
 unfold zeP; rw [Int.toNat_natCast,h]; rfl
theorem zpJ (L : List Said) (o d : Nat) (ho : o < L.length) (h1 : L[o].kind = 102) (hd : o + d < L.length) (hno : NoFn L (o + 1) (o + d)) : zdH L (o + d) = (o : Int):=by
 induction d with
 | zero => exact zec L o ho h1
 | succ d ih =>
  rw [show o + (d + 1) = o + d + 1 by omega,zc5 L (o + d) hd (hno _ hd (by omega) (Nat.le_refl _))]
  exact ih (by omega) (fun m hm a b => hno m hm a (by omega))
theorem zpK (L : List Said) {o j : Nat} (ho : o < L.length) (h1 : L[o].kind = 102) (hoj : o ≤ j) (hj : j < L.length) (hno : NoFn L (o + 1) j) (x : ByteArray) : zf6 L j x = zaI L x (o + 1):=by
 obtain ⟨d,rfl⟩:=Nat.exists_eq_add_of_le hoj
 unfold zf6
 rw [zpJ L o d ho h1 hj hno]
 congr 1
theorem zpL {i : Ins} (h : Ends i) (h1 : ∀ to,i ≠ .jump to) (h2 : i ≠ .back) (h3 : i ≠ .stop) : False:=by
 cases i <;> first | exact absurd rfl (h1 _) | exact h2 rfl | exact h3 rfl | exact h
namespace Right
variable {L : List Said} {F : List FnM}
theorem wf (R : Right L F) : WfAll L:=fun q hq => by
 obtain ⟨k,hk,rfl⟩:=List.mem_iff_getElem.1 hq
 exact R.good.wf k hk
theorem fn_at (R : Right L F) {k : Nat} {f : FnM} (hk : F[k]? = some f) : ∃ o,∃ ho : o < L.length,L[o].kind = 102 ∧ f.line = (o : Int) + 1 ∧ f.its.map It.key = zah L (o + 1) ∧ cnt L (o + 1) = lenF (F.take k):=by
 obtain ⟨o,ho,_,b,c,d,e⟩:=zkE L R.wf 0 [] (by rw [R.first]; rfl) F R.fns k f hk
 refine ⟨o,ho,b,c,d,?_⟩
 rw [zdd L o ho (by omega),e]; simp [cnt,zaf]
theorem place (R : Right L F) {k o : Nat} {f : FnM} (hk : F[k]? = some f) (hb : f.its.map It.key = zah L (o + 1)) (hc : cnt L (o + 1) = lenF (F.take k)) {j : Nat} (hj : j < L.length) (hoj : o + 1 ≤ j) (h5 : L[j].kind = 105) (hno : NoFn L (o + 1) j) :
  ∃ it,(zaq F)[cnt L j]? = some (insM F k it,it.line) ∧ it.key = keyQ L[j] ((j : Int) + 1):=by
 obtain ⟨it,a,b⟩:=zgl L R.wf (o + 1) f.its hb j hj hoj h5 hno
 refine ⟨it,?_,b⟩
 have:=zhw F 0 F k f hk _ it a
 rw [← hc,Nat.zero_add] at this
 have hle:=zkB L hoj
 rw [show cnt L (o + 1) + (cnt L j - cnt L (o + 1)) = cnt L j by omega] at this
 exact this
theorem next (R : Right L F) {k o : Nat} {f : FnM} (hk : F[k]? = some f) (hb : f.its.map It.key = zah L (o + 1)) (hc : cnt L (o + 1) = lenF (F.take k)) {i : Nat} (hoi : o + 1 ≤ i) (hno : NoFn L (o + 1) (i - 1)) (hn : zda L (zan L i)) :
  cnt L i < (zaq F).length ∧ zeP (zaq F) (cnt L i : Int) = zan L i:=by
 obtain ⟨j,hn,_,_⟩:=hn
 obtain ⟨hj,hij,h5,hcj,hnf⟩:=zkC L i j hn
 obtain ⟨it,ha,hkey⟩:=R.place hk hb hc hj (by omega) h5 (hno.trans hnf (by omega))
 rw [hcj] at ha
 refine ⟨(List.getElem?_eq_some_iff.1 ha).1,?_⟩
 rw [zkP ha,hn]
 have : it.line = (j : Int) + 1:=congrArg Key.line hkey
 show it.line - 1 = _
 omega
theorem label (R : Right L F) {k o : Nat} {f : FnM} (hk : F[k]? = some f) (hb : f.its.map It.key = zah L (o + 1)) (hc : cnt L (o + 1) = lenF (F.take k)) {x : ByteArray} (hx : 0 ≤ zaI L x (o + 1)) :
  ∃ p : Nat,zbc (zb1 f.its) x = some p ∧ labM F k x = ((lenF (F.take k) + p : Nat) : Int) ∧ lenF (F.take k) + p < (zaq F).length ∧ zeP (zaq F) (labM F k x) = zan L (zaI L x (o + 1)).toNat:=by
 obtain ⟨j,hj0⟩:=Int.eq_ofNat_of_zero_le hx
 obtain ⟨a,hj,hoj,h8,hno⟩:=zfy L R.wf x (o + 1) f.its hb 0 j hj0
 rw [Nat.zero_add] at a
 have hle:=zkB L hoj
 have hl : labM F k x = ((lenF (F.take k) + (cnt L j - cnt L (o + 1)) : Nat) : Int):=by
  unfold labM
  rw [hk]
  show (lenF (F.take k) : Int) + (((zbc (zb1 f.its) x).getD 0 : Nat) : Int) = _
  rw [a]; simp
 have hp : lenF (F.take k) + (cnt L j - cnt L (o + 1)) = cnt L j:=by omega
 obtain ⟨q1,q2⟩:=R.next hk hb hc hoj (fun m hm a b => hno m hm a (by omega)) (R.good.lab j hj h8)
 refine ⟨_,a,hl,by rw [hp]; exact q1,?_⟩
 rw [hl,hp,q2,hj0]
 rfl
theorem function (R : Right L F) {x : ByteArray} (hx : 0 ≤ zba L x 0) :
  ∃ k,∃ _ : k < F.length,zbc (zaR F) x = some k ∧ fnM F x = (lenF (F.take k) : Int) ∧ lenF (F.take k) < (zaq F).length ∧ zeP (zaq F) (fnM F x) = fnTo L x:=by
 obtain ⟨o,ho0⟩:=Int.eq_ofNat_of_zero_le hx
 obtain ⟨k,f,hk,hfind,hline⟩:=zhv L x 0 F R.fns 0 o ho0
 rw [Nat.zero_add] at hfind
 obtain ⟨o',ho,h1,hl',hb,hc⟩:=R.fn_at hk
 have e : o' = o:=by omega
 subst e
 have hm : fnM F x = (lenF (F.take k) : Int):=by unfold fnM; rw [hfind]; rfl
 obtain ⟨q1,q2⟩:=R.next hk hb hc (Nat.le_refl _) (fun m hm a b => by omega) (R.good.fn o' ho h1)
 refine ⟨k,(List.getElem?_eq_some_iff.1 hk).1,hfind,hm,by rw [← hc]; exact q1,?_⟩
 rw [hm,← hc,q2]
 unfold fnTo
 rw [ho0]
 congr 1
theorem asks_l (R : Right L F) {j : Nat} (hj : j < L.length) (h5 : L[j].kind = 105) (ha : zaz (L[j].word 0) = true) : 0 ≤ zf6 L j L[j].last:=by
 have:=R.good.miss j hj
 unfold zb2 at this
 rw [List.getElem?_eq_getElem hj] at this
 simp only [h5,if_true,ha] at this
 simpa using this
theorem asks_f (R : Right L F) {j : Nat} (hj : j < L.length) (h5 : L[j].kind = 105) (ha : zaQ (L[j].word 0) = true) : 0 ≤ zba L L[j].last 0:=by
 have:=R.good.miss j hj
 have hl : zaz (L[j].word 0) = false:=by
  cases h : zaz (L[j].word 0) with
  | false => rfl
  | true => rw [zfY _ h] at ha; cases ha
 unfold zb2 at this
 rw [List.getElem?_eq_getElem hj] at this
 simp only [h5,if_true,ha,hl] at this
 simpa using this
theorem it_at (R : Right L F) {k m : Nat} {f : FnM} {it : It} (hk : F[k]? = some f) (hm : (zaf f.its)[m]? = some it) :
  ∃ j,∃ hj : j < L.length,L[j].kind = 105 ∧ it.key = keyQ L[j] ((j : Int) + 1) ∧ lenF (F.take k) + m = cnt L j ∧
   (zaz (L[j].word 0) = true → ∃ p : Nat,zbc (zb1 f.its) L[j].last = some p ∧ labM F k L[j].last = ((lenF (F.take k) + p : Nat) : Int) ∧ lenF (F.take k) + p < (zaq F).length ∧ zeP (zaq F) (labM F k L[j].last) = zfo L j L[j].last) ∧
   (zaQ (L[j].word 0) = true → ∃ k2,∃ _ : k2 < F.length,zbc (zaR F) L[j].last = some k2 ∧ fnM F L[j].last = (lenF (F.take k2) : Int) ∧ lenF (F.take k2) < (zaq F).length ∧ zeP (zaq F) (fnM F L[j].last) = fnTo L L[j].last) ∧
   (ends (L[j].word 0) = false → cnt L j + 1 < (zaq F).length ∧ zeP (zaq F) ((cnt L j + 1 : Nat) : Int) = zan L (j + 1)):=by
 obtain ⟨o,ho,h1,_,hb,hc⟩:=R.fn_at hk
 obtain ⟨j,hj,hoj,h5,hkey,hcj,hno⟩:=zfx L R.wf (o + 1) f.its hb m it hm
 refine ⟨j,hj,h5,hkey,by omega,fun ha => ?_,fun ha => R.function (R.asks_f hj h5 ha),fun he => ?_⟩
 ·have h0:=R.asks_l hj h5 ha
  have e:=zpK L ho h1 (by omega) hj hno L[j].last
  rw [e] at h0
  obtain ⟨p,a,b,c,d⟩:=R.label hk hb hc h0
  exact ⟨p,a,b,c,by rw [d]; unfold zfo; rw [e]⟩
 ·have hv:=R.good.next j hj h5 he
  obtain ⟨q1,q2⟩:=R.next hk hb hc (show o + 1 ≤ j + 1 by omega) (by simpa using hno) hv
  rw [zgk L j hj h5] at q1 q2
  exact ⟨q1,q2⟩
theorem at_ (R : Right L F) {p : Nat} (hp : p < (zaq F).length) :
  ∃ k it j,∃ hj : j < L.length,(zaq F)[p]? = some (insM F k it,it.line) ∧ it.line = (j : Int) + 1 ∧ insQ L j L[j] = ziv (zeP (zaq F)) (insM F k it) ∧ zlO (insM F k it) ∧ Goes (zaq F).length (insM F k it) ∧
   (Ends (insM F k it) ∨ (p + 1 < (zaq F).length ∧ zan L (j + 1) = zeP (zaq F) ((p : Int) + 1))):=by
 rw [zeO] at hp
 obtain ⟨k,f,m,it,hk,hm,e⟩:=znO F p hp
 have hput:=zhw F 0 F k f hk m it hm
 rw [Nat.zero_add,← e] at hput
 obtain ⟨j,hj,h5,hkey,hpl,hlab,hfn,hnx⟩:=R.it_at hk hm
 obtain ⟨q1,q2,q3,q4⟩:=zpI L[j] h5 (R.good.form j hj h5) it _ hkey F k L j (zaq F).length (zeP (zaq F))
  (fun ha => by obtain ⟨p',_,b,c,d⟩:=hlab ha; exact ⟨d,_,b,c⟩) (fun ha => by obtain ⟨k2,_,_,b,c,d⟩:=hfn ha; exact ⟨d,_,b,c⟩)
 refine ⟨k,it,j,hj,hput,congrArg Key.line hkey,q1,q2,q3,?_⟩
 rcases q4 with q4 | q4
 ·obtain ⟨a,b⟩:=hnx q4
  have hp' : p = cnt L j:=by omega
  exact .inr ⟨by omega,by rw [← b,hp']; rfl⟩
 ·exact .inl q4
theorem sim (R : Right L F) : SimOk L (zaq F) (zeP (zaq F)):=⟨fun p hp => by
 obtain ⟨k,it,j,hj,hput,hl,hq,_,_,hn⟩:=R.at_ hp
 have e : (zaq F)[p] = (insM F k it,it.line):=(List.getElem?_eq_some_iff.1 hput).2
 refine ⟨j,by rw [zkP hput]; show it.line - 1 = _; omega,hj,by rw [e]; exact hq,by rw [e]; exact hl,?_⟩
 rw [e]
 intro _ _ h1 h2 h3
 rcases hn with hn | hn
 ·exact (zpL hn h1 h2 h3).elim
 ·exact hn.2⟩
theorem codeOk (R : Right L F) : CodeOk (zaq F):=by
 refine ⟨?_,?_,fun p hp => ?_,fun p hp => ?_⟩
 ·obtain ⟨f,hf⟩ : ∃ f,F[0]? = some f:=⟨F[0]'R.some_,List.getElem?_eq_getElem R.some_⟩
  obtain ⟨o,ho,h1,_,hb,hc⟩:=R.fn_at hf
  exact Nat.lt_of_le_of_lt (Nat.zero_le _) (R.next hf hb hc (Nat.le_refl _) (fun m hm a b => by omega) (R.good.fn o ho h1)).1
 ·by_cases h : 0 < (zaq F).length
  ·obtain ⟨k,f,m,it,hk,hm,e⟩:=znO F ((zaq F).length - 1) (by rw [← zeO]; omega)
   obtain ⟨j,hj,_,_,hpl,_⟩:=R.it_at hk hm
   have:=zrc L j
   have:=R.good.few
   omega
  ·omega
 ·obtain ⟨k,it,j,hj,hput,hl,hq,h4,_⟩:=R.at_ hp
  have e : (zaq F)[p] = (insM F k it,it.line):=(List.getElem?_eq_some_iff.1 hput).2
  rw [e]; exact h4
 ·obtain ⟨k,it,j,hj,hput,hl,hq,h4,h5,hn⟩:=R.at_ hp
  have e : (zaq F)[p] = (insM F k it,it.line):=(List.getElem?_eq_some_iff.1 hput).2
  rw [e]
  show zp1 _ _ (insM F k it)
  revert hn h5
  generalize insM F k it = i
  intro h5 hn
  cases i <;> first | trivial | exact h5 | (rcases hn with hn | hn; exact False.elim hn; first | exact hn.1 | exact ⟨h5,hn.1⟩)
end Right
theorem zkQ (L : List Said) (i : Nat) (f : Fn) (r : List Fn) (h : za3 L i = f :: r) : f.line = (zcS L i : Int) + 1:=by
 by_cases hi : i < L.length
 ·by_cases h1 : L[i].kind = 102
  ·rw [zbn L i hi h1] at h
   rw [zcS,dif_pos hi,if_pos h1]
   injection h with h _
   rw [← h]
  ·rw [zbh L i hi h1] at h
   rw [zcS,dif_pos hi,if_neg h1]
   exact zkQ L (i + 1) f r h
 ·rw [zbL L i hi] at h; cases h
termination_by L.length - i
theorem Right.begin {L : List Said} {F : List FnM} (R : Right L F) (inp : List Int) : zb9 L inp = lift (zeP (zaq F)) (zbH inp):=by
 obtain ⟨f,hf⟩ : ∃ f,F[0]? = some f:=⟨F[0]'R.some_,List.getElem?_eq_getElem R.some_⟩
 obtain ⟨o,ho,h1,hl,hb,hc⟩:=R.fn_at hf
 obtain ⟨q1,q2⟩:=R.next hf hb hc (Nat.le_refl _) (fun m hm a b => by omega) (R.good.fn o ho h1)
 have hfn:=R.fns
 cases F with
 | nil => simp at hf
 | cons g r =>
  have e : g = f:=by simpa using hf
  subst e
  have h2:=zkQ L 0 g.fn (r.map FnM.fn) (by rw [← hfn]; rfl)
  have h3 : zcS L 0 = o:=by
   have : g.fn.line = g.line:=rfl
   omega
  rw [hc] at q2
  unfold zb9
  rw [h3,← q2]
  rfl
end Go.Proofs.YtfpgjkbjbbgciaaGreatDoor
