import Derived.Test.YtfpgjkbjbbgciaaGreatDoorMd07
set_option maxRecDepth 100000
set_option maxHeartbeats 8000000
namespace Go.Proofs.YtfpgjkbjbbgciaaGreatDoor
open Go.RowKit Sp
theorem LibW.below{w w':World}(h:LibW w)(hb:Below w.heap.size w w'):LibW w':=by
 have hlow:=h.low
 refine⟨zgk h.tabs hb (by omega),?_,?_,?_,by have:=hb.size;omega⟩
 ·obtain⟨m,hm⟩:=h.most
  exact⟨m,(hb.cell (p:=⟨0,0,none⟩) (by show 0<w.heap.size;omega)).trans hm⟩
 ·obtain⟨tp,p,hv⟩:=h.syn
  exact⟨tp,p,var?_below (g:=3) hb (by kernel_rfl) (by omega) hv⟩
 ·obtain⟨tp,p,hv⟩:=h.rng
  exact⟨tp,p,var?_below (g:=4) hb (by kernel_rfl) (by omega) hv⟩
def zpt(sh:List UInt8)(r:List ByteArray):Nat→ByteArray
 | 0=>⟨#[]⟩
 | k+1=>if zbp (sh[k]?.getD 0)=2 then r[k]?.getD ⟨#[]⟩ else zpt sh r k
structure Opd where
 nm:ByteArray
 a:Int
 b:Int
 c:Int
 n:Int
def Opd.take(o:Opd)(k:Nat)(kind:Int)(x:ByteArray):Opd :=
 if kind=0 then(if k=0 then{ o with a:=zaD x } else if k=1 then{ o with b:=zaD x } else{ o with c:=zaD x })
 else if kind=1 then{ o with n:=zcO x } else{ o with nm:=x }
def opd0:Opd:=⟨⟨#[]⟩,0,0,0,0⟩
def opK(sh:List UInt8)(r:List ByteArray):Nat→Opd
 | 0=>opd0
 | k+1=>(opK sh r k).take k (zbp (sh[k]?.getD 0)) (r[k]?.getD ⟨#[]⟩)
theorem zu6(sh:List UInt8)(r:List ByteArray)(k:Nat)(hk:k<sh.length)(hr:k<r.length):opK sh r (k+1)=(opK sh r k).take k (zbp sh[k]) r[k]:=by
 show(opK sh r k).take k (zbp (sh[k]?.getD 0)) (r[k]?.getD ⟨#[]⟩)=_
 rw [List.getElem?_eq_getElem hk,List.getElem?_eq_getElem hr];rfl
theorem zxR(sh:List UInt8)(r:List ByteArray)(k:Nat):(opK sh r k).nm=zpt sh r k:=by
 induction k with
 | zero=>rfl
 | succ k ih =>
  show((opK sh r k).take k (zbp (sh[k]?.getD 0)) (r[k]?.getD ⟨#[]⟩)).nm=if zbp (sh[k]?.getD 0)=2 then r[k]?.getD ⟨#[]⟩ else zpt sh r k
  have h3:∀ a:UInt8,zbp a=0∨zbp a=1∨zbp a=2:=fun a=>by
   unfold zbp
   split
   ·simp
   ·split <;> simp
  unfold Opd.take
  rcases h3 (sh[k]?.getD 0) with h|h|h
  ·rw [if_neg (show ¬zbp (sh[k]?.getD 0)=2 by rw [h];decide),if_pos h]
   split
   ·exact ih
   ·split <;> exact ih
  ·rw [if_neg (show ¬zbp (sh[k]?.getD 0)=2 by rw [h];decide),if_neg (show ¬zbp (sh[k]?.getD 0)=0 by rw [h];decide),if_pos h]
   exact ih
  ·rw [if_pos h,if_neg (show ¬zbp (sh[k]?.getD 0)=0 by rw [h];decide),if_neg (show ¬zbp (sh[k]?.getD 0)=1 by rw [h];decide)]
abbrev Opd.stm(o:Opd)(line:Int)(x:ByteArray):Value:=Go.Proofs.YtfpgjkbjbbgciaaGreatDoor.stm 2 line x o.a o.b o.c o.n o.nm
def zgV(x:ByteArray)(r:List ByteArray):Bool:=if zaa x=[63]∨¬r.length=(zaa x).length then false else zaT (zaa x) r
def zrQ(w:World)(x:ByteArray)(r:List ByteArray)(line:Int):Ending→World→Prop:=fun e w' =>
 Below w.heap.size w w'∧(zgV x r=true∧e=.returned ((opK (zaa x) r r.length).stm line x)∨zgV x r=false∧e=zaj 1 line)
theorem zrR(x:ByteArray)(w:World)(sh:List UInt8)(HS:Hid (zaa x=sh)):Calls Tryz.prog 149 #[.string x] w (zbJ w sh):=by
 rw [←HS.out];exact zu5 x w
theorem zu7(x:ByteArray)(w:World)(HS:Hid (zaa x=[63])):Calls Tryz.prog 149 #[.string x] w fun e w'=>e=.returned (.tuple #[.slice none 0 0,.bool false])∧w'=w:=by
 refine(zrR x w _ HS).mono ?_
 rintro e w' (⟨_,h1,h2⟩|⟨h,_⟩|⟨h,_⟩)
 ·exact⟨h1,h2.symm⟩
 ·cases h
 ·exact absurd rfl h
theorem zkD(x:ByteArray)(w:World)(HS:Hid (zaa x=[])):Calls Tryz.prog 149 #[.string x] w fun e w'=>e=.returned (.tuple #[.slice none 0 0,.bool true])∧w'=w:=by
 refine(zrR x w _ HS).mono ?_
 rintro e w' (⟨h,_⟩|⟨_,h1,h2⟩|⟨_,h,_⟩)
 ·cases h
 ·exact⟨h1,h2.symm⟩
 ·exact absurd rfl h
theorem znV(x:ByteArray)(w:World)(sh:List UInt8)(HS:Hid (zaa x=sh))(h1:¬sh=[63])(h2:¬sh=[]):Calls Tryz.prog 149 #[.string x] w fun e w'=>e=.returned (.tuple #[.slice (some ⟨w.heap.size,0,none⟩) sh.length sh.length,.bool true])∧w'=w.alloc (.cells (sh.map (fun k=>Value.int .i64 (zbp k))).toArray 225):=by
 refine(zrR x w _ HS).mono ?_
 rintro e w' (⟨h,_⟩|⟨h,_⟩|⟨_,_,h3,h4⟩)
 ·exact absurd h h1
 ·exact absurd h h2
 ·exact⟨h3,h4⟩
theorem zrS(w:World)(g cap:Nat)(x:ByteArray)(r:List ByteArray)(line:Int)(hl:WordsIn w g (x :: r))(_hn:r.length≤1048576)(HS:Hid (zaa x=[63])):
  Calls Tryz.prog 130 #[.slice (some ⟨g,0,none⟩) (r.length+1) cap,.int .i64 line] w fun e w'=>e=zaj 1 line∧Below w.heap.size w w':=by
 have hc0:=hl 0 (by simp)
 simp only [List.getElem_cons_zero] at hc0
 have hlt:g<w.heap.size:=by
  have:=World.block_lt_of_cell? w _ hc0;simpa using this
 go_enter Tryz.func130,Tryz.ntmps130
 go_wp2_with(first
  | (go_at_call 149;refine(zu7 x _ HS).mono ?_;rintro e wx ⟨rfl,hww⟩;have h2:=hww.symm;subst h2)
  | (go_at_call 79;refine(za3 _ _ _).mono ?_;rintro e wx ⟨rfl,hww⟩;have h2:=hww.symm;subst h2))
 exact⟨rfl,rfl,(Below.refl _ _).alloc (Nat.le_refl _) _⟩
theorem zu8(w:World)(g cap:Nat)(x:ByteArray)(r:List ByteArray)(line:Int)(hl:WordsIn w g (x :: r))(hn:r.length≤1048576)(sh:List UInt8)(HS:Hid (zaa x=sh))(h1:¬sh=[63])(hs3:sh.length≤3)(hne:((r.length:Int) != (sh.length:Int))=true):
  Calls Tryz.prog 130 #[.slice (some ⟨g,0,none⟩) (r.length+1) cap,.int .i64 line] w fun e w'=>e=zaj 1 line∧Below w.heap.size w w':=by
 have hc0:=hl 0 (by simp)
 simp only [List.getElem_cons_zero] at hc0
 have hlt:g<w.heap.size:=by
  have:=World.block_lt_of_cell? w _ hc0;simpa using this
 by_cases h2:sh=[]
 ·subst h2
  have hne0:((r.length:Int) != 0)=true:=hne
  go_enter Tryz.func130,Tryz.ntmps130
  go_wp2_with(first
   | (go_at_call 149;refine(zkD x _ HS).mono ?_;rintro e wx ⟨rfl,hww⟩;have h2:=hww.symm;subst h2)
   | (go_at_call 79;refine(za3 _ _ _).mono ?_;rintro e wx ⟨rfl,hww⟩;have h2:=hww.symm;subst h2))
  exact⟨rfl,rfl,(Below.refl _ _).alloc (Nat.le_refl _) _⟩
 ·go_enter Tryz.func130,Tryz.ntmps130
  go_wp2_with(first
   | (go_at_call 149;refine(znV x _ sh HS h1 h2).mono ?_;rintro e wx ⟨rfl,hww⟩;subst hww)
   | (go_at_call 79;refine(za3 _ _ _).mono ?_;rintro e wx ⟨rfl,hww⟩;have h2:=hww.symm;subst h2))
  exact⟨rfl,rfl,((Below.refl _ _).alloc (Nat.le_refl _) _).alloc (by simp) _⟩
abbrev insW(w:World)(sh:List UInt8)(line:Int)(x:ByteArray):World :=
 ((w.alloc (.cells #[.int .i64 0,.int .i64 0,.string ⟨#[]⟩,.int .i64 0,.int .i64 0,.int .i64 0,.int .i64 0,.string ⟨#[]⟩] 135)).alloc (.cells (sh.map (fun k=>Value.int .i64 (zbp k))).toArray 225)).alloc (.cells #[.int .i64 2,.int .i64 line,.string x,.int .i64 0,.int .i64 0,.int .i64 0,.int .i64 0,.string ⟨#[]⟩] 135)
theorem zc5(w:World)(a b:Obj)(c:Array Value)(ty:TypeId)(i:Nat):(((w.alloc a).alloc b).alloc (.cells c ty)).cell? ⟨w.heap.size+1+1,i,none⟩=c[i]?:=by
 have:=World.cell?_alloc_new (w:=(w.alloc a).alloc b) c ty i
 rw [World.size_alloc,World.size_alloc] at this
 exact this
theorem zpu(w:World)(a o:Obj)(c:Array Value)(ty:TypeId)(i:Nat):(((w.alloc a).alloc (.cells c ty)).alloc o).cell? ⟨w.heap.size+1,i,none⟩=c[i]?:=by
 rw [World.cell?_alloc_lt ((w.alloc a).alloc (.cells c ty)) o ⟨w.heap.size+1,i,none⟩ (by simp)]
 simp
theorem zpv(w:World)(b o:Obj)(c:Array Value)(ty:TypeId)(i:Nat):(((w.alloc (.cells c ty)).alloc b).alloc o).cell? ⟨w.heap.size,i,none⟩=c[i]?:=by
 rw [World.cell?_alloc_lt ((w.alloc (.cells c ty)).alloc b) o ⟨w.heap.size,i,none⟩ (by simp;omega)]
 simp
theorem zjH(w:World)(c:Array Value)(ty:TypeId)(o:Nat):(w.alloc (.cells c ty)).frozen? ⟨w.heap.size,o,none⟩=false:=by simp
theorem zu9(w:World)(sh:List UInt8)(line:Int)(x:ByteArray):StmAt (insW w sh line x) (w.heap.size+1+1) line x ⟨#[]⟩ 0 0 0 0:=by
 refine⟨zc5 _ _ _ _ _ 0,zc5 _ _ _ _ _ 1,zc5 _ _ _ _ _ 2,zc5 _ _ _ _ _ 3,zc5 _ _ _ _ _ 4,zc5 _ _ _ _ _ 5,zc5 _ _ _ _ _ 6,zc5 _ _ _ _ _ 7,fun o=>?_⟩
 have h:=zjH ((w.alloc (.cells #[.int .i64 0,.int .i64 0,.string ⟨#[]⟩,.int .i64 0,.int .i64 0,.int .i64 0,.int .i64 0,.string ⟨#[]⟩] 135)).alloc (.cells (sh.map (fun k=>Value.int .i64 (zbp k))).toArray 225)) #[.int .i64 2,.int .i64 line,.string x,.int .i64 0,.int .i64 0,.int .i64 0,.int .i64 0,.string ⟨#[]⟩] 135 o
 rw [World.size_alloc,World.size_alloc] at h
 exact h
theorem zwA(w:World)(sh:List UInt8)(line:Int)(x:ByteArray)(k:Nat)(hk:k<sh.length):(insW w sh line x).cell? ⟨w.heap.size+1,k,none⟩=some (.int .i64 (zbp sh[k])):=by
 rw [zpu]
 simp [hk]
theorem zuA(w:World)(sh:List UInt8)(line:Int)(x:ByteArray)(j:Nat)(hj:j<8):∃ y,(insW w sh line x).cell? ⟨w.heap.size,j,none⟩=some y:=by
 rw [zpv]
 exact⟨_,Array.getElem?_eq_getElem (by simpa using hj)⟩
theorem zwB(w:World)(sh:List UInt8)(line:Int)(x:ByteArray)(j:Nat):(insW w sh line x).frozen? ⟨w.heap.size,j,none⟩=false:=by
 have hb:Below (w.heap.size+1) (w.alloc (.cells #[.int .i64 0,.int .i64 0,.string ⟨#[]⟩,.int .i64 0,.int .i64 0,.int .i64 0,.int .i64 0,.string ⟨#[]⟩] 135)) (insW w sh line x):=((Below.refl _ _).alloc (by simp) _).alloc (by simp) _
 rw [hb.frozen (p:=⟨w.heap.size,j,none⟩) (by simp)]
 exact zjH _ _ _ _
theorem ziT{w wr:World}{sh:List UInt8}{line:Int}{x:ByteArray}(h:(insW w sh line x).grownBy wr (some (w.heap.size+1+1))):Below w.heap.size w wr :=
 ((((Below.refl _ w).alloc (Nat.le_refl _) _).alloc (by simp) _).alloc (by simp;omega) _).grown h (by simp;omega) (fun k hk=>by simp at hk;omega)
theorem zag{a b c:World}{q:Option Nat}(h:a.grownBy b q)(k:b.grownBy c q):a.grownBy c q :=
 ⟨k.os.trans h.os,k.tape.trans h.tape,k.output.trans h.output,Nat.le_trans h.size k.size,fun i hi hne=>(k.block i (Nat.lt_of_lt_of_le hi h.size) hne).trans (h.block i hi hne)⟩
theorem zxS(a:UInt8)(y:ByteArray)(h:zbp a=0):opOk a y=zfe y:=by
 unfold zbp at h
 unfold opOk
 split at h
 ·rename_i hc;rw [if_pos hc];rfl
 ·split at h <;> simp at h
theorem zxT(a:UInt8)(y:ByteArray)(h:zbp a=1):opOk a y=(zaE y).2:=by
 unfold zbp at h
 unfold opOk
 split at h
 ·simp at h
 ·rename_i hc
  split at h
  ·rename_i hd;rw [if_neg hc,if_pos hd]
  ·simp at h
theorem zxU(a:UInt8)(y:ByteArray)(h:zbp a=2):opOk a y=za2 y:=by
 unfold zbp at h
 unfold opOk
 split at h
 ·simp at h
 ·rename_i hc
  split at h
  ·simp at h
  ·rename_i hd;rw [if_neg hc,if_neg hd]
theorem zuB(w:World)(hw:LibW w)(g cap:Nat)(x:ByteArray)(r:List ByteArray)(line:Int)(hl:WordsIn w g (x :: r))(hsz:∀ j (hj:j<r.length),r[j].size≤1048576)(sh:List UInt8)(HS:Hid (zaa x=sh))(h1:¬sh=[63])(h2:¬sh=[])(hs3:sh.length≤3)(hle:sh.length≤r.length)(hge:r.length≤sh.length):
  Calls Tryz.prog 130 #[.slice (some ⟨g,0,none⟩) (r.length+1) cap,.int .i64 line] w fun e w'=>Below w.heap.size w w'∧(zaT sh r=true∧e=.returned ((opK sh r r.length).stm line x)∨zaT sh r=false∧e=zaj 1 line):=by
 have hc0:=hl 0 (by simp)
 simp only [List.getElem_cons_zero] at hc0
 have hlt:g<w.heap.size:=by
  have:=World.block_lt_of_cell? w _ hc0;simpa using this
 have hne:((r.length:Int) != (sh.length:Int))=false:=by simp;omega
 go_enter Tryz.func130,Tryz.ntmps130
 go_wp2_with(first
  | (go_at_call 149;refine(znV x _ sh HS h1 h2).mono ?_;rintro e wx ⟨rfl,hww⟩;subst hww))
 go_loopw [36] (fun ti wr=>∃(k:Nat) (nm:ByteArray) (r0 r1 r2 n:Int),k≤sh.length∧ti=.int .i64 (k:Int)∧(insW w sh line x).grownBy wr (some (w.heap.size+1+1))∧StmAt wr (w.heap.size+1+1) line x nm r0 r1 r2 n∧(⟨nm,r0,r1,r2,n⟩:Opd)=opK sh r k∧zaT sh r=zaT (sh.drop k) (r.drop k)) (fun ti _=>sh.length-(intOf ti).toNat)
 case atStart=>exact⟨0,⟨#[]⟩,0,0,0,0,by omega,rfl,⟨rfl,rfl,rfl,Nat.le_refl _,fun _ _ _=>rfl⟩,zu9 w sh line x,rfl,rfl⟩
 case round =>
  obtain⟨k,nm,r0,r1,r2,n,hk,rfl,hgr,hS,hO,hR⟩:=hrel
  have HO:Hid ((⟨nm,r0,r1,r2,n⟩:Opd)=opK sh r k):=hO
  clear hO
  have HR:Hid (zaT sh r=zaT (sh.drop k) (r.drop k)):=hR
  clear hR
  have belowW:∀{wz:World},(insW w sh line x).grownBy wz (some (w.heap.size+1+1))→Below w.heap.size w wz:=fun h=>ziT h
  have hbl:=ziT hgr
  have hwr:=hw.below hbl
  have hqz:=hS.lt
  by_cases hklt:k<sh.length
  ·have hkr:k<r.length:=by omega
   have hck:wr.cell? ⟨w.heap.size+1,k,none⟩=some (.int .i64 (zbp sh[k])):=hgr.cell (zwA w sh line x k hklt) (by simp)
   have hwk:wr.cell? ⟨g,k+1,none⟩=some (.string r[k]):=(hbl.cell (p:=⟨g,k+1,none⟩) hlt).trans (by have:=hl (k+1) (by simp;omega);simpa using this)
   have hszk:=hsz k hkr
   have HT:Hid (zaT sh r=(opOk sh[k] r[k]&&zaT (sh.drop (k+1)) (r.drop (k+1)))):=by unfold Hid;rw [HR.out,ziP sh r k hklt hkr]
   have HHK:Hid (opK sh r (k+1)=(⟨nm,r0,r1,r2,n⟩:Opd).take k (zbp sh[k]) r[k]):=by unfold Hid;rw [HO.out];exact zu6 sh r k hklt hkr
   have hkk:zbp sh[k]=0∨zbp sh[k]=1∨zbp sh[k]=2:=by
    unfold zbp
    split
    ·simp
    ·split <;> simp
   rcases hkk with hkk|hkk|hkk
   ·have HOP:Hid (opOk sh[k] r[k]=zfe r[k]):=zxS _ _ hkk
    rw [hkk] at hck
    have HN:Hid (opK sh r (k+1)=(⟨nm,r0,r1,r2,n⟩:Opd).take k 0 r[k]):=by unfold Hid;rw [HHK.out,hkk]
    clear hkk HHK
    have hk3:k=0∨k=1∨k=2:=by omega
    rcases hk3 with rfl|rfl|rfl
    ·cases hq:zfe r[0] with
     | true =>
      have HQ:Hid (opOk sh[0] r[0]=true):=HOP.out.trans hq
      go_wp2_with(first|(go_at_call 150;refine(zkA _ _ line x _ r[0] r0 r1 r2 n hS hszk).mono ?_;rintro e w5 ⟨rfl,hg1,hS1⟩)|(go_at_call 79;refine(za3 _ _ _).mono ?_;rintro e wx ⟨rfl,hww⟩;have h2:=hww.symm;subst h2))
      go_roundw
      case rel=>exact⟨0+1,nm,zaD r[0],r1,r2,n,by omega,by go_num,zag hgr hg1,hS1,HN.out.symm,by rw [HT.out,HQ.out];simp⟩
      case measure=>simp [intOf];omega
     | false =>
      have HQ:Hid (opOk sh[0] r[0]=false):=HOP.out.trans hq
      go_wp2_with(first|(go_at_call 150;refine(zkA _ _ line x _ r[0] r0 r1 r2 n hS hszk).mono ?_;rintro e w5 ⟨rfl,hg1,hS1⟩)|(go_at_call 79;refine(za3 _ _ _).mono ?_;rintro e wx ⟨rfl,hww⟩;have h2:=hww.symm;subst h2))
      exact⟨rfl,belowW (zag hgr hg1),.inr ⟨by rw [HT.out,HQ.out];simp,rfl⟩⟩
    ·cases hq:zfe r[1] with
     | true =>
      have HQ:Hid (opOk sh[1] r[1]=true):=HOP.out.trans hq
      go_wp2_with(first|(go_at_call 150;refine(zkB _ _ line x _ r[1] r0 r1 r2 n hS hszk).mono ?_;rintro e w5 ⟨rfl,hg1,hS1⟩)|(go_at_call 79;refine(za3 _ _ _).mono ?_;rintro e wx ⟨rfl,hww⟩;have h2:=hww.symm;subst h2))
      go_roundw
      case rel=>exact⟨1+1,nm,r0,zaD r[1],r2,n,by omega,by go_num,zag hgr hg1,hS1,HN.out.symm,by rw [HT.out,HQ.out];simp⟩
      case measure=>simp [intOf];omega
     | false =>
      have HQ:Hid (opOk sh[1] r[1]=false):=HOP.out.trans hq
      go_wp2_with(first|(go_at_call 150;refine(zkB _ _ line x _ r[1] r0 r1 r2 n hS hszk).mono ?_;rintro e w5 ⟨rfl,hg1,hS1⟩)|(go_at_call 79;refine(za3 _ _ _).mono ?_;rintro e wx ⟨rfl,hww⟩;have h2:=hww.symm;subst h2))
      exact⟨rfl,belowW (zag hgr hg1),.inr ⟨by rw [HT.out,HQ.out];simp,rfl⟩⟩
    ·cases hq:zfe r[2] with
     | true =>
      have HQ:Hid (opOk sh[2] r[2]=true):=HOP.out.trans hq
      go_wp2_with(first|(go_at_call 150;refine(zkC _ _ line x _ r[2] r0 r1 r2 n hS hszk).mono ?_;rintro e w5 ⟨rfl,hg1,hS1⟩)|(go_at_call 79;refine(za3 _ _ _).mono ?_;rintro e wx ⟨rfl,hww⟩;have h2:=hww.symm;subst h2))
      go_roundw
      case rel=>exact⟨2+1,nm,r0,r1,zaD r[2],n,by omega,by go_num,zag hgr hg1,hS1,HN.out.symm,by rw [HT.out,HQ.out];simp⟩
      case measure=>simp [intOf];omega
     | false =>
      have HQ:Hid (opOk sh[2] r[2]=false):=HOP.out.trans hq
      go_wp2_with(first|(go_at_call 150;refine(zkC _ _ line x _ r[2] r0 r1 r2 n hS hszk).mono ?_;rintro e w5 ⟨rfl,hg1,hS1⟩)|(go_at_call 79;refine(za3 _ _ _).mono ?_;rintro e wx ⟨rfl,hww⟩;have h2:=hww.symm;subst h2))
      exact⟨rfl,belowW (zag hgr hg1),.inr ⟨by rw [HT.out,HQ.out];simp,rfl⟩⟩
   ·have HOP:Hid (opOk sh[k] r[k]=(zaE r[k]).2):=zxT _ _ hkk
    rw [hkk] at hck
    have HN:Hid (opK sh r (k+1)=⟨nm,r0,r1,r2,zcO r[k]⟩):=by unfold Hid;rw [HHK.out,hkk];rfl
    clear hkk HHK
    cases hq:(zaE r[k]).2 with
    | true =>
     have HQ:Hid (opOk sh[k] r[k]=true):=HOP.out.trans hq
     go_wp2_with(first|(go_at_call 150;refine(znU _ hwr _ _ line x _ r[k] r0 r1 r2 n hS hszk).mono ?_;rintro e w5 ⟨rfl,hg1,hS1⟩)|(go_at_call 79;refine(za3 _ _ _).mono ?_;rintro e wx ⟨rfl,hww⟩;have h2:=hww.symm;subst h2))
     go_roundw
     case rel=>exact⟨k+1,nm,r0,r1,r2,zcO r[k],by omega,by go_num,zag hgr hg1,hS1,HN.out.symm,by rw [HT.out,HQ.out];simp⟩
     case measure=>simp [intOf];omega
    | false =>
     have HQ:Hid (opOk sh[k] r[k]=false):=HOP.out.trans hq
     go_wp2_with(first|(go_at_call 150;refine(znU _ hwr _ _ line x _ r[k] r0 r1 r2 n hS hszk).mono ?_;rintro e w5 ⟨rfl,hg1,hS1⟩)|(go_at_call 79;refine(za3 _ _ _).mono ?_;rintro e wx ⟨rfl,hww⟩;have h2:=hww.symm;subst h2))
     exact⟨rfl,belowW (zag hgr hg1),.inr ⟨by rw [HT.out,HQ.out];simp,rfl⟩⟩
   ·have HOP:Hid (opOk sh[k] r[k]=za2 r[k]):=zxU _ _ hkk
    rw [hkk] at hck
    have HN:Hid (opK sh r (k+1)=⟨r[k],r0,r1,r2,n⟩):=by unfold Hid;rw [HHK.out,hkk];rfl
    clear hkk HHK
    cases hq:za2 r[k] with
    | true =>
     have HQ:Hid (opOk sh[k] r[k]=true):=HOP.out.trans hq
     go_wp2_with(first|(go_at_call 150;refine(zk9 _ _ _ line x _ r[k] r0 r1 r2 n hS hszk).mono ?_;rintro e w5 ⟨rfl,hg1,hS1⟩)|(go_at_call 79;refine(za3 _ _ _).mono ?_;rintro e wx ⟨rfl,hww⟩;have h2:=hww.symm;subst h2))
     go_roundw
     case rel=>exact⟨k+1,r[k],r0,r1,r2,n,by omega,by go_num,zag hgr hg1,hS1,HN.out.symm,by rw [HT.out,HQ.out];simp⟩
     case measure=>simp [intOf];omega
    | false =>
     have HQ:Hid (opOk sh[k] r[k]=false):=HOP.out.trans hq
     go_wp2_with(first|(go_at_call 150;refine(zk9 _ _ _ line x _ r[k] r0 r1 r2 n hS hszk).mono ?_;rintro e w5 ⟨rfl,hg1,hS1⟩)|(go_at_call 79;refine(za3 _ _ _).mono ?_;rintro e wx ⟨rfl,hww⟩;have h2:=hww.symm;subst h2))
     exact⟨rfl,belowW (zag hgr hg1),.inr ⟨by rw [HT.out,HQ.out];simp,rfl⟩⟩
  ·have HT:Hid (zaT sh r=true):=by unfold Hid;rw [HR.out,List.drop_of_length_le (by omega)];rfl
   have HKL:Hid (k=r.length):=by unfold Hid;omega
   obtain⟨c0,c1,c2,c3,c4,c5,c6,c7,fz⟩:=hS
   have h8:∀ j,j<8→∃ y,wr.cell? ⟨w.heap.size,j,none⟩=some y:=fun j hj=>by
    obtain⟨y,hy⟩:=zuA w sh line x j hj
    exact⟨y,hgr.cell hy (by simp;omega)⟩
   have hfz:∀ j,wr.frozen? ⟨w.heap.size,j,none⟩=false:=fun j=>by
    rw [World.frozen?_of_block (hgr.block w.heap.size (by simp [insW];omega) (by simp;omega))]
    exact zwB w sh line x j
   obtain⟨y0,z0⟩:=h8 0 (by omega)
   obtain⟨y1,z1⟩:=h8 1 (by omega)
   obtain⟨y2,z2⟩:=h8 2 (by omega)
   obtain⟨y3,z3⟩:=h8 3 (by omega)
   obtain⟨y4,z4⟩:=h8 4 (by omega)
   obtain⟨y5,z5⟩:=h8 5 (by omega)
   obtain⟨y6,z6⟩:=h8 6 (by omega)
   obtain⟨y7,z7⟩:=h8 7 (by omega)
   go_wp2
   obtain⟨f0,f1,f2,f3,f4,f5,f6,f7⟩:=zpq h8
   refine bodyPost_ret (v:=stm 2 line x r0 r1 r2 n nm) (by simp [results,Tryz.results130,go_sem,f0,f1,f2,f3,f4,f5,f6,f7]) rfl ⟨ziS hbl (Nat.le_refl _) _ _ _ _ _ _ _ _,.inl ⟨HT.out,?_⟩⟩
   rw [←HKL.out,←HO.out]
end Go.Proofs.YtfpgjkbjbbgciaaGreatDoor
