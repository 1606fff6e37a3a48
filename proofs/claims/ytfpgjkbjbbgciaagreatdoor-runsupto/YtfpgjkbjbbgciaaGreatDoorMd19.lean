import Derived.Test.YtfpgjkbjbbgciaaGreatDoorMd17
import Derived.Test.YtfpgjkbjbbgciaaGreatDoorMd18
set_option maxRecDepth 100000
set_option maxHeartbeats 8000000
namespace Go.Proofs.YtfpgjkbjbbgciaaGreatDoor
open Go.RowKit Sp
theorem zxY{w:World}{b wb wc g cap2 k:Nat}{L:List Said}{m:Mc}{bv iv ov:Value}{next:Int}{x1 x2:ByteArray}(S:RStep w b wb wc g cap2 k L m bv iv ov [⟨#[115,101,116]⟩,x1,x2] next)(r:Nat)(hr:r<8)(hreg:reg x1=(r:Int)):
  Calls Tryz.prog 55 #[.pointer (some ⟨b,0,none⟩)] w (zbf w b g cap2 L (exec (.set r (zaE x2).1) next m)):=by
 exact S.does (fun n=>zbq (w.drewN n) b wb wc 2 [⟨#[115,101,116]⟩,x1,x2] next rfl (by decide) (S.words.drewN n) (by kernel_rfl) (by kernel_rfl) (by kernel_rfl) (by kernel_rfl) (by kernel_rfl) (by kernel_rfl))
  (fun n=>zuR (w.drewN n) b wb wc r _ bv iv ov m x1 x2 (S.ref.mem.drewN n) (S.words.drewN n) S.apart hr hreg (S.sizes x1 (by simp)) (S.sizes x2 (by simp))) S.fin rfl rfl rfl rfl
theorem zxZ{w:World}{b wb wc g cap2 k:Nat}{L:List Said}{m:Mc}{bv iv ov:Value}{next:Int}{x1 x2:ByteArray}(S:RStep w b wb wc g cap2 k L m bv iv ov [⟨#[109,111,118]⟩,x1,x2] next)(r s:Nat)(hr:r<8)(hreg:reg x1=(r:Int))(hs:s<8)(hreg2:reg x2=(s:Int)):
  Calls Tryz.prog 55 #[.pointer (some ⟨b,0,none⟩)] w (zbf w b g cap2 L (exec (.mov r s) next m)):=by
 exact S.does (fun n=>zbq (w.drewN n) b wb wc 2 [⟨#[109,111,118]⟩,x1,x2] next rfl (by decide) (S.words.drewN n) (by kernel_rfl) (by kernel_rfl) (by kernel_rfl) (by kernel_rfl) (by kernel_rfl) (by kernel_rfl))
  (fun n=>zuS (w.drewN n) b wb wc r s _ bv iv ov m x1 x2 (S.ref.mem.drewN n) (S.words.drewN n) S.apart hr hreg hs hreg2 (S.sizes x1 (by simp)) (S.sizes x2 (by simp))) S.fin rfl rfl rfl rfl
theorem zya{w:World}{b wb wc g cap2 k:Nat}{L:List Said}{m:Mc}{bv iv ov:Value}{next:Int}{x1 x2 x3:ByteArray}(S:RStep w b wb wc g cap2 k L m bv iv ov [⟨#[97,100,100]⟩,x1,x2,x3] next)(r s t:Nat)(hr:r<8)(hreg:reg x1=(r:Int))(hs:s<8)(hreg2:reg x2=(s:Int))(ht:t<8)(hreg3:reg x3=(t:Int)):
  Calls Tryz.prog 55 #[.pointer (some ⟨b,0,none⟩)] w (zbf w b g cap2 L (exec (.alu 0 r s t) next m)):=by
 exact S.does (fun n=>zbq (w.drewN n) b wb wc 3 [⟨#[97,100,100]⟩,x1,x2,x3] next rfl (by decide) (S.words.drewN n) (by kernel_rfl) (by kernel_rfl) (by kernel_rfl) (by kernel_rfl) (by kernel_rfl) (by kernel_rfl))
  (fun n=>zuU (w.drewN n) b wb wc r s t _ bv iv ov m x1 x2 x3 (S.ref.mem.drewN n) (S.words.drewN n) S.apart hr hreg hs hreg2 ht hreg3 (S.sizes x1 (by simp)) (S.sizes x2 (by simp)) (S.sizes x3 (by simp))) S.fin rfl rfl rfl rfl
theorem zyb{w:World}{b wb wc g cap2 k:Nat}{L:List Said}{m:Mc}{bv iv ov:Value}{next:Int}{x1 x2 x3:ByteArray}(S:RStep w b wb wc g cap2 k L m bv iv ov [⟨#[115,117,98]⟩,x1,x2,x3] next)(r s t:Nat)(hr:r<8)(hreg:reg x1=(r:Int))(hs:s<8)(hreg2:reg x2=(s:Int))(ht:t<8)(hreg3:reg x3=(t:Int)):
  Calls Tryz.prog 55 #[.pointer (some ⟨b,0,none⟩)] w (zbf w b g cap2 L (exec (.alu 1 r s t) next m)):=by
 exact S.does (fun n=>zbq (w.drewN n) b wb wc 3 [⟨#[115,117,98]⟩,x1,x2,x3] next rfl (by decide) (S.words.drewN n) (by kernel_rfl) (by kernel_rfl) (by kernel_rfl) (by kernel_rfl) (by kernel_rfl) (by kernel_rfl))
  (fun n=>zuV (w.drewN n) b wb wc r s t _ bv iv ov m x1 x2 x3 (S.ref.mem.drewN n) (S.words.drewN n) S.apart hr hreg hs hreg2 ht hreg3 (S.sizes x1 (by simp)) (S.sizes x2 (by simp)) (S.sizes x3 (by simp))) S.fin rfl rfl rfl rfl
theorem zyc{w:World}{b wb wc g cap2 k:Nat}{L:List Said}{m:Mc}{bv iv ov:Value}{next:Int}{x1 x2 x3:ByteArray}(S:RStep w b wb wc g cap2 k L m bv iv ov [⟨#[109,117,108]⟩,x1,x2,x3] next)(r s t:Nat)(hr:r<8)(hreg:reg x1=(r:Int))(hs:s<8)(hreg2:reg x2=(s:Int))(ht:t<8)(hreg3:reg x3=(t:Int)):
  Calls Tryz.prog 55 #[.pointer (some ⟨b,0,none⟩)] w (zbf w b g cap2 L (exec (.alu 2 r s t) next m)):=by
 exact S.does (fun n=>zbq (w.drewN n) b wb wc 3 [⟨#[109,117,108]⟩,x1,x2,x3] next rfl (by decide) (S.words.drewN n) (by kernel_rfl) (by kernel_rfl) (by kernel_rfl) (by kernel_rfl) (by kernel_rfl) (by kernel_rfl))
  (fun n=>zuW (w.drewN n) b wb wc r s t _ bv iv ov m x1 x2 x3 (S.ref.mem.drewN n) (S.words.drewN n) S.apart hr hreg hs hreg2 ht hreg3 (S.sizes x1 (by simp)) (S.sizes x2 (by simp)) (S.sizes x3 (by simp))) S.fin rfl rfl rfl rfl
theorem zyd{w:World}{b wb wc g cap2 k:Nat}{L:List Said}{m:Mc}{bv iv ov:Value}{next:Int}{x1 x2:ByteArray}(S:RStep w b wb wc g cap2 k L m bv iv ov [⟨#[105,110,99]⟩,x1,x2] next)(r:Nat)(hr:r<8)(hreg:reg x1=(r:Int)):
  Calls Tryz.prog 55 #[.pointer (some ⟨b,0,none⟩)] w (zbf w b g cap2 L (exec (.inc r (zaE x2).1) next m)):=by
 exact S.does (fun n=>zbq (w.drewN n) b wb wc 2 [⟨#[105,110,99]⟩,x1,x2] next rfl (by decide) (S.words.drewN n) (by kernel_rfl) (by kernel_rfl) (by kernel_rfl) (by kernel_rfl) (by kernel_rfl) (by kernel_rfl))
  (fun n=>zuT (w.drewN n) b wb wc r _ bv iv ov m x1 x2 (S.ref.mem.drewN n) (S.words.drewN n) S.apart hr hreg (S.sizes x1 (by simp)) (S.sizes x2 (by simp))) S.fin rfl rfl rfl rfl
theorem zwS{w:World}{b wb wc g cap2 k:Nat}{L:List Said}{m:Mc}{bv iv ov:Value}{next:Int}{x1 x2:ByteArray}(S:RStep w b wb wc g cap2 k L m bv iv ov [⟨#[108,111,97,100]⟩,x1,x2] next)(r s:Nat)(hr:r<8)(hreg:reg x1=(r:Int))(hs:s<8)(hreg2:reg x2=(s:Int)):
  Calls Tryz.prog 55 #[.pointer (some ⟨b,0,none⟩)] w (zbf w b g cap2 L (exec (.load r s) next m)):=by
 by_cases hc:m.regs s<0∨15<m.regs s
 ·rw [show exec (.load r s) next m={ m with fin:=3 } by simp only [exec];rw [if_pos hc]]
  exact S.stuck (fun n=>zbq (w.drewN n) b wb wc 2 [⟨#[108,111,97,100]⟩,x1,x2] next rfl (by decide) (S.words.drewN n) (by kernel_rfl) (by kernel_rfl) (by kernel_rfl) (by kernel_rfl) (by kernel_rfl) (by kernel_rfl))
   (fun n=>zjT (w.drewN n) b wb wc r s _ bv iv ov m x1 x2 (S.ref.mem.drewN n) (S.words.drewN n) S.apart hr hreg hs hreg2 hc (S.sizes x1 (by simp)) (S.sizes x2 (by simp))) rfl rfl rfl rfl
 ·rw [show exec (.load r s) next m={ m with regs:=upd m.regs r (m.cells (m.regs s).toNat) }.goes next by simp only [exec];rw [if_neg hc]]
  have hn:m.regs s=((m.regs s).toNat:Int):=by omega
  exact S.does (fun n=>zbq (w.drewN n) b wb wc 2 [⟨#[108,111,97,100]⟩,x1,x2] next rfl (by decide) (S.words.drewN n) (by kernel_rfl) (by kernel_rfl) (by kernel_rfl) (by kernel_rfl) (by kernel_rfl) (by kernel_rfl))
   (fun n=>zld (w.drewN n) b wb wc r s (m.regs s).toNat _ bv iv ov m x1 x2 (S.ref.mem.drewN n) (S.words.drewN n) S.apart hr hreg hs hreg2 hn (by omega) (S.sizes x1 (by simp)) (S.sizes x2 (by simp))) S.fin rfl rfl rfl rfl
theorem zuX{w:World}{b wb wc g cap2 k:Nat}{L:List Said}{m:Mc}{bv iv ov:Value}{next:Int}{x1 x2:ByteArray}(S:RStep w b wb wc g cap2 k L m bv iv ov [⟨#[115,116,111,114,101]⟩,x1,x2] next)(r s:Nat)(hr:r<8)(hreg:reg x1=(r:Int))(hs:s<8)(hreg2:reg x2=(s:Int)):
  Calls Tryz.prog 55 #[.pointer (some ⟨b,0,none⟩)] w (zbf w b g cap2 L (exec (.store r s) next m)):=by
 by_cases hc:m.regs r<0∨15<m.regs r
 ·rw [show exec (.store r s) next m={ m with fin:=3 } by simp only [exec];rw [if_pos hc]]
  exact S.stuck (fun n=>zbq (w.drewN n) b wb wc 2 [⟨#[115,116,111,114,101]⟩,x1,x2] next rfl (by decide) (S.words.drewN n) (by kernel_rfl) (by kernel_rfl) (by kernel_rfl) (by kernel_rfl) (by kernel_rfl) (by kernel_rfl))
   (fun n=>ziB (w.drewN n) b wb wc r _ bv iv ov m x1 x2 (S.ref.mem.drewN n) (S.words.drewN n) S.apart hr hreg hc (S.sizes x1 (by simp)) (S.sizes x2 (by simp))) rfl rfl rfl rfl
 ·rw [show exec (.store r s) next m={ m with cells:=upd m.cells (m.regs r).toNat (m.regs s) }.goes next by simp only [exec];rw [if_neg hc]]
  have hn:m.regs r=((m.regs r).toNat:Int):=by omega
  exact S.does (fun n=>zbq (w.drewN n) b wb wc 2 [⟨#[115,116,111,114,101]⟩,x1,x2] next rfl (by decide) (S.words.drewN n) (by kernel_rfl) (by kernel_rfl) (by kernel_rfl) (by kernel_rfl) (by kernel_rfl) (by kernel_rfl))
   (fun n=>zjU (w.drewN n) b wb wc r s (m.regs r).toNat _ bv iv ov m x1 x2 (S.ref.mem.drewN n) (S.words.drewN n) S.apart hr hreg hs hreg2 hn (by omega) (S.sizes x1 (by simp)) (S.sizes x2 (by simp))) S.fin rfl rfl rfl rfl
theorem zwT{w:World}{b wb wc g cap2 k:Nat}{L:List Said}{m:Mc}{bv iv ov:Value}{next:Int}{x:ByteArray}(S:RStep w b wb wc g cap2 k L m bv iv ov [⟨#[106,117,109,112]⟩,x] next)(j:Nat)(hlab:zbZ L k x=(j:Int))(hj:j≤L.length):
  Calls Tryz.prog 55 #[.pointer (some ⟨b,0,none⟩)] w (zbf w b g cap2 L (exec (.jump (zad L j)) next m)):=by
 exact S.moves (m1:=m) (zad L j) 0 (fun n=>(zpJ (w.drewN n) b wb wc g cap2 k bv iv ov L m x next j (S.ref.mem.drewN n) (S.lines.drewN n) S.few S.lt S.at_ (S.words.drewN n) hlab hj).mono (by
  rintro e w' ⟨h1,q,rfl⟩
  exact⟨h1,(S.ref.mem.drewN n).drewN q,⟨rfl,rfl,rfl,Nat.le_refl _,fun _ _ _=>rfl⟩⟩)) S.fin (.inl rfl) rfl rfl rfl rfl
theorem zwU{w:World}{b wb wc g cap2 k:Nat}{L:List Said}{m:Mc}{bv iv ov:Value}{next:Int}{x1 x2 x3:ByteArray}(S:RStep w b wb wc g cap2 k L m bv iv ov [⟨#[108,101,115,115]⟩,x1,x2,x3] next)(r s j:Nat)(hr:r<8)(hreg:reg x1=(r:Int))(hs:s<8)(hreg2:reg x2=(s:Int))(hlab:zbZ L k x3=(j:Int))(hj:j≤L.length):
  Calls Tryz.prog 55 #[.pointer (some ⟨b,0,none⟩)] w (zbf w b g cap2 L (exec (.less r s (zad L j)) next m)):=by
 by_cases hc:m.regs r<m.regs s
 ·rw [show exec (.less r s (zad L j)) next m=m.goes (zad L j) by simp only [exec];rw [if_pos hc]]
  exact S.moves (m1:=m) (zad L j) 0 (fun n=>(zi9 (w.drewN n) b wb wc g cap2 k bv iv ov L m x1 x2 x3 next j r s (S.ref.mem.drewN n) (S.lines.drewN n) S.few S.lt S.at_ (S.words.drewN n) hlab hj hr hreg hs hreg2 (S.sizes x1 (by simp)) (S.sizes x2 (by simp)) hc).mono (by
   rintro e w' ⟨h1,q,rfl⟩
   exact⟨h1,(S.ref.mem.drewN n).drewN q,⟨rfl,rfl,rfl,Nat.le_refl _,fun _ _ _=>rfl⟩⟩)) S.fin (.inl rfl) rfl rfl rfl rfl
 ·rw [show exec (.less r s (zad L j)) next m=m.goes next by simp only [exec];rw [if_neg hc]]
  exact S.moves (m1:=m) next 0 (fun n=>(zjR (w.drewN n) b wb wc g cap2 k bv iv ov L m x1 x2 x3 next j r s (S.ref.mem.drewN n) (S.lines.drewN n) S.few S.lt S.at_ (S.words.drewN n) hlab hj hr hreg hs hreg2 (S.sizes x1 (by simp)) (S.sizes x2 (by simp)) hc).mono (by
   rintro e w' ⟨h1,q,rfl⟩
   exact⟨h1,(S.ref.mem.drewN n).drewN q,⟨rfl,rfl,rfl,Nat.le_refl _,fun _ _ _=>rfl⟩⟩)) S.fin (.inl rfl) rfl rfl rfl rfl
theorem zwV{w:World}{b wb wc g cap2 k:Nat}{L:List Said}{m:Mc}{bv iv ov:Value}{next:Int}{x1 x2 x3:ByteArray}(S:RStep w b wb wc g cap2 k L m bv iv ov [⟨#[115,97,109,101]⟩,x1,x2,x3] next)(r s j:Nat)(hr:r<8)(hreg:reg x1=(r:Int))(hs:s<8)(hreg2:reg x2=(s:Int))(hlab:zbZ L k x3=(j:Int))(hj:j≤L.length):
  Calls Tryz.prog 55 #[.pointer (some ⟨b,0,none⟩)] w (zbf w b g cap2 L (exec (.same r s (zad L j)) next m)):=by
 by_cases hc:m.regs r=m.regs s
 ·rw [show exec (.same r s (zad L j)) next m=m.goes (zad L j) by simp only [exec];rw [if_pos hc]]
  exact S.moves (m1:=m) (zad L j) 0 (fun n=>(ziA (w.drewN n) b wb wc g cap2 k bv iv ov L m x1 x2 x3 next j r s (S.ref.mem.drewN n) (S.lines.drewN n) S.few S.lt S.at_ (S.words.drewN n) hlab hj hr hreg hs hreg2 (S.sizes x1 (by simp)) (S.sizes x2 (by simp)) hc).mono (by
   rintro e w' ⟨h1,q,rfl⟩
   exact⟨h1,(S.ref.mem.drewN n).drewN q,⟨rfl,rfl,rfl,Nat.le_refl _,fun _ _ _=>rfl⟩⟩)) S.fin (.inl rfl) rfl rfl rfl rfl
 ·rw [show exec (.same r s (zad L j)) next m=m.goes next by simp only [exec];rw [if_neg hc]]
  exact S.moves (m1:=m) next 0 (fun n=>(zjS (w.drewN n) b wb wc g cap2 k bv iv ov L m x1 x2 x3 next j r s (S.ref.mem.drewN n) (S.lines.drewN n) S.few S.lt S.at_ (S.words.drewN n) hlab hj hr hreg hs hreg2 (S.sizes x1 (by simp)) (S.sizes x2 (by simp)) hc).mono (by
   rintro e w' ⟨h1,q,rfl⟩
   exact⟨h1,(S.ref.mem.drewN n).drewN q,⟨rfl,rfl,rfl,Nat.le_refl _,fun _ _ _=>rfl⟩⟩)) S.fin (.inl rfl) rfl rfl rfl rfl
theorem zwW{w:World}{b wb wc g cap2 k:Nat}{L:List Said}{m:Mc}{bv iv ov:Value}{next:Int}(S:RStep w b wb wc g cap2 k L m bv iv ov [⟨#[115,116,111,112]⟩] next)  :
  Calls Tryz.prog 55 #[.pointer (some ⟨b,0,none⟩)] w (zbf w b g cap2 L (exec .stop next m)):=by
 exact S.moves (m1:={ m with fin:=1 }) (-1) 1 (fun n=>zpK (w.drewN n) b wb wc _ bv iv ov m next (S.ref.mem.drewN n) (S.words.drewN n)) rfl (.inr (.inl rfl)) rfl rfl rfl rfl
theorem zjY(m:Mc)(h:m.fin=0):Ending.returned (.bool true)=.returned (.bool (decide (¬(m.fin=3∨m.fin=4)))):=by
 rw [h];rfl
theorem zwX{w:World}{b wb wc g cap2 k:Nat}{L:List Said}{m:Mc}{bv iv ov:Value}{next:Int}{x1:ByteArray}(S:RStep w b wb wc g cap2 k L m bv iv ov [⟨#[114,101,97,100]⟩,x1] next)(r:Nat)(hr:r<8)(hreg:reg x1=(r:Int))(hin:m.inp.length≤1048576):
  Calls Tryz.prog 55 #[.pointer (some ⟨b,0,none⟩)] w (zbf w b g cap2 L (exec (.read r) next m)):=by
 have S0:=S.st0
 have S1:=S.st1
 obtain⟨ao,icap,hiv,hic,hrow⟩:=S.ref.inp
 cases hl:m.inp with
 | nil =>
  rw [show exec (.read r) next m={ m with regs:=upd m.regs r 0 }.goes next by show({ m with regs:=upd m.regs r (m.inp.headD 0),inp:=m.inp.tail }:Mc).goes next=({ m with regs:=upd m.regs r 0,inp:=m.inp }:Mc).goes next;rw [hl];rfl]
  rw [hl] at hiv
  exact S.does (fun n=>zbq (w.drewN n) b wb wc 1 [⟨#[114,101,97,100]⟩,x1] next rfl (by decide) (S.words.drewN n) (by kernel_rfl) (by kernel_rfl) (by kernel_rfl) (by kernel_rfl) (by kernel_rfl) (by kernel_rfl))
   (fun n=>ziC (w.drewN n) b wb wc r _ bv iv ov m x1 (S.ref.mem.drewN n) (S.words.drewN n) S.apart hr hreg ao icap hiv (S.sizes x1 (by simp))) S.fin rfl rfl rfl rfl
 | cons v rest =>
  rw [hl] at hiv hic hrow hin
  obtain⟨ig,io,rfl,hgb,hgw,hcs⟩:=hrow (by simp)
  have hc0:=hcs 0 (by simp)
  simp only [List.getElem_cons_zero,Nat.add_zero] at hc0
  have e1:exec (.read r) next m={ m with regs:=upd m.regs r v,inp:=rest }.goes next:=by simp only [exec,hl];rfl
  rw [e1]
  refine(zhM w b wb wc 2 g cap2 k bv iv ov L m { m with regs:=upd m.regs r v,inp:=rest } S.ref.mem S.fin S.at_ S.lt S.few S.lines S.wd next S.next_
   (fun w1 bv' iv' ov'=>w.grownBy w1 (some b)∧bv'=bv∧(∃ o',iv'=.slice (some ⟨ig,o',none⟩) rest.length (icap-1)∧(rest.length=0∨o'=io+1))∧ov'=ov) 0 (fun n=>zbq (w.drewN n) b wb wc 1 [⟨#[114,101,97,100]⟩,x1] next rfl (by decide) (S.words.drewN n) (by kernel_rfl) (by kernel_rfl) (by kernel_rfl) (by kernel_rfl) (by kernel_rfl) (by kernel_rfl))
   (fun n=>(ziD (w.drewN n) b wb wc r ig io icap rest.length _ bv iv ov m x1 (S.ref.mem.drewN n) (S.words.drewN n) S.apart hr hreg v rest hiv hc0 (by omega) (by simpa using hic) (by simp at hin;omega) (S.sizes x1 (by simp))).mono ?_) S.fin rfl rfl ⟨S0,by show m.steps≤_;omega⟩).mono ?_
  ·rintro e w' ⟨h1,⟨o',h2,h3⟩,h4⟩
   exact⟨h1,bv,_,ov,h2,za6 h4,rfl,⟨o',rfl,h3⟩,rfl⟩
  ·rintro e w' ⟨rfl,w1,bv',iv',ov',hM,⟨hg,rfl,⟨o',rfl,ho⟩,rfl⟩,hg2⟩
   have hgg:=zae hg hg2
   have hb:=zcW S.ref.mem.lt hgg
   refine⟨zjY _ S.fin,_,_,_,⟨hM,S.ref.backs.kept hgg (.inr (zaY S.ref.backs)),S.ref.out.kept hgg (.inr (zaY S.ref.out)),?_⟩,hb⟩
   refine⟨_,_,rfl,by simp at hic;show rest.length≤_;omega,fun hp=>?_⟩
   have hp':0<rest.length:=hp
   have ho':o'=io+1:=by rcases ho with h|h;omega;exact h
   refine⟨ig,io+1,by rw [ho'],hgb,Nat.lt_of_lt_of_le hgw hb.size,fun j hj=>?_⟩
   have hj':j<rest.length:=hj
   rw [hb.cell (p:=⟨ig,io+1+j,none⟩) hgb]
   have:=hcs (j+1) (by simp;omega)
   simp only [List.getElem_cons_succ] at this
   rw [show io+1+j=io+(j+1) by omega]
   exact this
theorem zuY{w:World}{b wb wc g cap2 k:Nat}{L:List Said}{m:Mc}{bv iv ov:Value}{next:Int}{x1:ByteArray}(S:RStep w b wb wc g cap2 k L m bv iv ov [⟨#[119,114,105,116,101]⟩,x1] next)(r:Nat)(hr:r<8)(hreg:reg x1=(r:Int))(hlen:m.out.length≤100000):
  Calls Tryz.prog 55 #[.pointer (some ⟨b,0,none⟩)] w (zbf w b g cap2 L (exec (.write r) next m)):=by
 have S0:=S.st0
 have S1:=S.st1
 have hbl:=S.ref.mem.lt
 have e1:exec (.write r) next m={ m with out:=m.out++[m.regs r] }.goes next:=rfl
 rw [e1]
 refine(zhM w b wb wc 2 g cap2 k bv iv ov L m { m with out:=m.out++[m.regs r] } S.ref.mem S.fin S.at_ S.lt S.few S.lines S.wd next S.next_
  (fun w1 bv' iv' ov'=>∃ w0,w.grownBy w0 ov.ownBlock∧w0.grownBy w1 (some b)∧bv'=bv∧iv'=iv∧w1.ownsRow (b+1) 2 1 ov' (m.out.length+1) (i64s (m.out++[m.regs r]))) 0 (fun n=>zbq (w.drewN n) b wb wc 1 [⟨#[119,114,105,116,101]⟩,x1] next rfl (by decide) (S.words.drewN n) (by kernel_rfl) (by kernel_rfl) (by kernel_rfl) (by kernel_rfl) (by kernel_rfl) (by kernel_rfl))
  (fun n=>(zpM (w.drewN n) b wb wc r (b+1) _ bv iv ov m x1 (S.ref.mem.drewN n) (S.words.drewN n) S.apart hr hreg (S.sizes x1 (by simp)) S.ref.out (zaY S.ref.out) hbl hlen).mono ?_) S.fin rfl rfl ⟨S0,by show m.steps≤_;omega⟩).mono ?_
 ·rintro e w' ⟨h1,gg,c,w1,rfl,hg,how,hat⟩
  have hne:some b≠ov.ownBlock:=fun e=>zaY S.ref.out e.symm
  have h1M:RefM w1 b (.slice (some ⟨g,0,none⟩) L.length cap2) bv iv ov m:=(S.ref.mem.drewN n).of_block (hg.block b hbl hne)
  have hgb:¬gg=b:=by
   rcases hat with h|h
   ·intro e;rw [e] at h;exact zaY S.ref.out h
   ·have:w.heap.size≤gg:=h
    omega
  refine⟨h1,bv,iv,_,h1M.setO _ _,w1,za6 hg,zac (Below.refl _ _),rfl,rfl,?_⟩
  exact zas how (fun q hq=>by
   have:gg=q:=by simpa [Value.ownBlock] using hq
   subst this
   exact Below.heap_setCell _ _ _ _ hgb)
 ·rintro e w' ⟨rfl,w1,bv',iv',ov',hM,⟨w0,hg0,hg1,rfl,rfl,how⟩,hg2⟩
  have hgg:=zae hg1 hg2
  have hb0:Below b w w0:=(Below.refl b w).grown hg0 (by omega) (fun q hq=>by have:=(S.ref.out.lt q hq).1;omega)
  have hb:Below b w w':=hb0.trans ((Below.refl b w0).grown hgg (by have:=hb0.size;omega) (fun j hj=>by cases hj;exact Nat.le_refl _))
  refine⟨zjY _ S.fin,_,_,_,⟨hM,?_,?_,S.ref.inp.below hb⟩,hb⟩
  ·exact(S.ref.backs.kept hg0 (zdJ S.ref.backs S.ref.out (by decide))).kept hgg (.inr (zaY S.ref.backs))
  ·have:=how.kept hg2 (.inr (zaY how))
   show World.ownsRow _ (b+1) 2 1 _ (m.out++[m.regs r]).length (i64s (m.out++[m.regs r]))
   rw [List.length_append]
   exact this
theorem zof{w:World}{B g c:Nat}{I:List Int}{x:Int}(h:w.ownsRow B 3 1 (.slice (some ⟨g,0,none⟩) (I.length+1) c) (I.length+1) (i64s (I++[x]))):w.ownsRow B 3 1 (.slice (some ⟨g,0,none⟩) I.length c) I.length (i64s I):=by
 refine⟨by simp,?_⟩
 rcases h.2 with ⟨h',_⟩|⟨g',c',cur,h',hb,hh,hn,hm,hs,ht⟩
 ·simp at h'
 ·simp only [Value.slice.injEq,Option.some.injEq,Addr.mk.injEq,true_and,and_true] at h'
  obtain⟨rfl,rfl⟩:=h'
  refine .inr ⟨g,c,cur,rfl,hb,hh,by omega,hm,hs,?_⟩
  have:=congrArg (List.take I.length) ht
  rw [List.take_take] at this
  simpa using this
theorem zwY{w:World}{b wb wc g cap2 k:Nat}{L:List Said}{m:Mc}{bv iv ov:Value}{next:Int}{x:ByteArray}(S:RStep w b wb wc g cap2 k L m bv iv ov [⟨#[99,97,108,108]⟩,x] next)(j f p:Nat)(hfn:zaJ L x 0=(j:Int))(hj:j<L.length)(hf:m.frames=(f:Int))(hf1:f≤16)(hp:m.peak=(p:Int))(hp1:p≤16)(hlen:m.backs.length≤16):
  Calls Tryz.prog 55 #[.pointer (some ⟨b,0,none⟩)] w (zbf w b g cap2 L (exec (.call (zad L (j+1))) next m)):=by
 have S0:=S.st0
 have S1:=S.st1
 have hbl:=S.ref.mem.lt
 by_cases h16:f=16
 ·subst h16
  rw [show exec (.call (zad L (j+1))) next m={ m with fin:=4 } by simp only [exec];rw [if_pos (show m.frames=16 by omega)]]
  refine(zss w b wb wc 2 g cap2 k bv iv ov L m { m with fin:=4 } S.ref.mem S.fin S.at_ S.lt S.few S.lines S.wd next S.next_ (fun w1 bv' iv' ov'=>w.grownBy w1 (some b)∧bv'=bv∧iv'=iv∧ov'=ov) (k:Int)
   (fun n=>(zhN (w.drewN n) b wb wc k _ bv iv ov m x next (S.ref.mem.drewN n) S.at_ (S.words.drewN n) (by omega)).mono ?_) rfl).mono ?_
  ·rintro e w' ⟨h1,h2,h3⟩
   exact⟨h1,bv,iv,ov,h2,za6 h3,rfl,rfl,rfl⟩
  ·rintro e w' ⟨rfl,bv',iv',ov',hM,hg,rfl,rfl,rfl⟩
   obtain⟨q1,q2⟩:=S.ref.same hM hg rfl rfl rfl
   exact⟨rfl,_,_,_,q1,q2⟩
 ·have hne:¬m.frames=16:=by omega
  rw [show exec (.call (zad L (j+1))) next m={ m with backs:=m.backs++[next],frames:=m.frames+1,peak:=max m.peak (m.frames+1) }.goes (zad L (j+1)) by simp only [exec];rw [if_neg hne]]
  have key:∀ n,Calls Tryz.prog 89 #[.pointer (some ⟨b,0,none⟩),.slice (some ⟨wb,0,none⟩) 2 wc,.int .i64 next] (w.drewN n) fun e w'=>e=.returned (.tuple #[.int .i64 (zad L (j+1)),.bool true]) ∧
    ∃ bv' iv' ov',RefM w' b (.slice (some ⟨g,0,none⟩) L.length cap2) bv' iv' ov' { m with backs:=m.backs++[next],frames:=m.frames+1,peak:=max m.peak (m.frames+1) }∧∃ w0,w.grownBy w0 bv.ownBlock∧w0.grownBy w' (some b)∧iv'=iv∧ov'=ov∧w0.ownsRow (b+1) 3 1 bv' (m.backs.length+1) (i64s (m.backs++[next])):=by
   intro n
   by_cases hc:p≤f
   ·refine(zjW (w.drewN n) b wb wc g cap2 (b+1) f p bv iv ov L m x next j (S.ref.mem.drewN n) (fun W hW=>S.low W ⟨hW.os,hW.tape,hW.output,hW.size,hW.block⟩) S.few (S.words.drewN n) hfn hj hf (by omega) hp hp1 hc S.ref.backs (zaY S.ref.backs) hbl (by omega) hlen).mono ?_
    rintro e w' ⟨h1,gb,c,w4,h2,h3,h4,h5⟩
    refine⟨h1,_,iv,ov,?_,w4,za6 h4,h5,rfl,rfl,h3⟩
    rw [show max m.peak (m.frames+1)=(f:Int)+1 by omega,hf]
    exact h2
   ·refine(zjX (w.drewN n) b wb wc g cap2 (b+1) f p bv iv ov L m x next j (S.ref.mem.drewN n) (fun W hW=>S.low W ⟨hW.os,hW.tape,hW.output,hW.size,hW.block⟩) S.few (S.words.drewN n) hfn hj hf (by omega) hp hp1 (by omega) S.ref.backs (zaY S.ref.backs) hbl (by omega) hlen).mono ?_
    rintro e w' ⟨h1,gb,c,w4,h2,h3,h4,h5⟩
    refine⟨h1,_,iv,ov,?_,w4,za6 h4,h5,rfl,rfl,h3⟩
    rw [show max m.peak (m.frames+1)=m.peak by omega,hf]
    exact h2
  refine(zgw w b wb wc 2 g cap2 k bv iv ov L m _ S.ref.mem S.fin S.at_ S.lt S.few S.lines S.wd next S.next_ (fun w1 bv' iv' ov'=>∃ w0,w.grownBy w0 bv.ownBlock∧w0.grownBy w1 (some b)∧iv'=iv∧ov'=ov∧w0.ownsRow (b+1) 3 1 bv' (m.backs.length+1) (i64s (m.backs++[next]))) _ 0 key S.fin rfl rfl ⟨S0,by show m.steps≤_;omega⟩).mono ?_
  rintro e w' ⟨rfl,w1,bv',iv',ov',hM,⟨w0,hg0,hg1,rfl,rfl,how⟩,hg2⟩
  have hgg:=zae hg1 hg2
  have hb0:Below b w w0:=(Below.refl b w).grown hg0 (by omega) (fun q hq=>by have:=(S.ref.backs.lt q hq).1;omega)
  have hb:Below b w w':=hb0.trans ((Below.refl b w0).grown hgg (by have:=hb0.size;omega) (fun j hj=>by cases hj;exact Nat.le_refl _))
  refine⟨zjY _ S.fin,_,_,_,⟨hM,?_,?_,S.ref.inp.below hb⟩,hb⟩
  ·have:=how.kept hgg (.inr (zaY how))
   show World.ownsRow _ (b+1) 3 1 _ (m.backs++[next]).length (i64s (m.backs++[next]))
   rw [List.length_append]
   exact this
  ·exact(S.ref.out.kept hg0 (zdJ S.ref.out S.ref.backs (by decide))).kept hgg (.inr (zaY S.ref.out))
theorem zwZ{w:World}{b wb wc g cap2 k:Nat}{L:List Said}{m:Mc}{bv iv ov:Value}{next:Int}(S:RStep w b wb wc g cap2 k L m bv iv ov [⟨#[98,97,99,107]⟩] next)(f:Nat)(hf:m.frames=(f:Int)+1)(hf1:f≤15)(hlen:m.backs.length=f):
  Calls Tryz.prog 55 #[.pointer (some ⟨b,0,none⟩)] w (zbf w b g cap2 L (exec .back next m)):=by
 have S0:=S.st0
 have S1:=S.st1
 have hbl:=S.ref.mem.lt
 by_cases h0:f=0
 ·subst h0
  rw [show exec .back next m={ m with frames:=0,fin:=2 }.goes (-1) by simp only [exec];rw [if_pos (by omega)]]
  exact S.moves (m1:={ m with frames:=0,fin:=2 }) (-1) 2 (fun n=>ziE (w.drewN n) b wb wc _ bv iv ov m next (S.ref.mem.drewN n) (S.words.drewN n) (by omega)) rfl (.inr (.inr rfl)) rfl rfl rfl rfl
 ·rw [show exec .back next m={ m with frames:=m.frames-1,backs:=m.backs.dropLast }.goes (m.backs.getLastD 0) by simp only [exec];rw [if_neg (by omega)]]
  obtain⟨I,x,hI⟩:∃ I x,m.backs=I++[x]:=by
   rcases List.eq_nil_or_concat m.backs with h|⟨I,x,h⟩
   ·rw [h] at hlen;simp at hlen;omega
   ·exact⟨I,x,by rw [h,List.concat_eq_append]⟩
  have hrow:=S.ref.backs
  have hIl:m.backs.length=I.length+1:=by rw [hI];simp
  rw [hIl] at hrow
  obtain⟨gb,c,hbv,hgb,hgl⟩:=hrow.form (by omega)
  have hcap:I.length+1≤c:=by
   rcases hrow.2 with ⟨h',_⟩|⟨g',cap',cur,h',_,_,hnc,_⟩
   ·rw [hbv] at h';simp at h'
   ·rw [hbv] at h';simp at h';omega
  have hcell:w.cell? ⟨gb,I.length,none⟩=some (.int .i64 x):=by
   rw [hbv] at hrow
   rw [World.ownsRow.cellAt hrow I.length (by omega),hI]
   simp
  refine(zgw w b wb wc 1 g cap2 k bv iv ov L m { m with frames:=m.frames-1,backs:=m.backs.dropLast } S.ref.mem S.fin S.at_ S.lt S.few S.lines S.wd next S.next_ (fun w1 bv' iv' ov'=>w.grownBy w1 (some b)∧bv'=.slice (some ⟨gb,0,none⟩) I.length c∧iv'=iv∧ov'=ov) (m.backs.getLastD 0) 0
   (fun n=>(zjV (w.drewN n) b wb wc gb c I.length f _ bv iv ov m next x m.backs.dropLast (S.ref.mem.drewN n) (S.words.drewN n) hf (by omega) (by omega) hbv hcell (by omega) (by omega) hcap).mono ?_) S.fin rfl rfl ⟨S0,by show m.steps≤_;omega⟩).mono ?_
  ·rintro e w' ⟨h1,h2,h3⟩
   refine⟨?_,_,iv,ov,h2,za6 h3,rfl,rfl,rfl⟩
   rw [h1,hI]
   simp
  ·rintro e w' ⟨rfl,w1,bv',iv',ov',hM,⟨hg,rfl,rfl,rfl⟩,hg2⟩
   have hgg:=zae hg hg2
   have hb:=zcW hbl hgg
   refine⟨zjY _ S.fin,_,_,_,⟨hM,?_,S.ref.out.kept hgg (.inr (zaY S.ref.out)),S.ref.inp.below hb⟩,hb⟩
   have hk:=hrow.kept hgg (.inr (zaY hrow))
   rw [hbv] at hk
   show World.ownsRow _ (b+1) 3 1 _ m.backs.dropLast.length (i64s m.backs.dropLast)
   rw [hI] at hk ⊢
   simp only [List.dropLast_concat]
   exact zof hk
end Go.Proofs.YtfpgjkbjbbgciaaGreatDoor
