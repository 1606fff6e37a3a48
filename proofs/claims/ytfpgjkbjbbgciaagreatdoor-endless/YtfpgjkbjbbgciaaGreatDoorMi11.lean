import Derived.Test.YtfpgjkbjbbgciaaGreatDoorMi07
import Derived.Test.YtfpgjkbjbbgciaaGreatDoorMi09
import Derived.Test.YtfpgjkbjbbgciaaGreatDoorMi10
set_option maxRecDepth 100000
set_option maxHeartbeats 8000000
namespace Go.Proofs.YtfpgjkbjbbgciaaGreatDoor
open Go.RowKit Sp
theorem LibW.below{w w':World}(h:LibW w)(hb:Below w.heap.size w w'):LibW w':=by
 have hlow:=h.low
 refine⟨zgv h.tabs hb (by omega),?_,?_,?_,by have:=hb.size;omega⟩
 ·obtain⟨m,hm⟩:=h.most
  exact⟨m,(hb.cell (p:=⟨0,0,none⟩) (by show 0<w.heap.size;omega)).trans hm⟩
 ·obtain⟨tp,p,hv⟩:=h.syn
  exact⟨tp,p,var?_below (g:=3) hb (by kernel_rfl) (by omega) hv⟩
 ·obtain⟨tp,p,hv⟩:=h.rng
  exact⟨tp,p,var?_below (g:=4) hb (by kernel_rfl) (by omega) hv⟩
def zpP(sh:List UInt8)(r:List ByteArray):Nat→ByteArray
 | 0=>⟨#[]⟩
 | k+1=>if zbf (sh[k]?.getD 0)=2 then r[k]?.getD ⟨#[]⟩ else zpP sh r k
structure Opd where
 nm:ByteArray
 a:Int
 b:Int
 c:Int
 n:Int
def Opd.take(o:Opd)(k:Nat)(kind:Int)(x:ByteArray):Opd :=
 if kind=0 then(if k=0 then{ o with a:=za4 x } else if k=1 then{ o with b:=za4 x } else{ o with c:=za4 x })
 else if kind=1 then{ o with n:=zcD x } else{ o with nm:=x }
def opd0:Opd:=⟨⟨#[]⟩,0,0,0,0⟩
def opK(sh:List UInt8)(r:List ByteArray):Nat→Opd
 | 0=>opd0
 | k+1=>(opK sh r k).take k (zbf (sh[k]?.getD 0)) (r[k]?.getD ⟨#[]⟩)
theorem zvn(sh:List UInt8)(r:List ByteArray)(k:Nat)(hk:k<sh.length)(hr:k<r.length):opK sh r (k+1)=(opK sh r k).take k (zbf sh[k]) r[k]:=by
 show(opK sh r k).take k (zbf (sh[k]?.getD 0)) (r[k]?.getD ⟨#[]⟩)=_
 rw [List.getElem?_eq_getElem hk,List.getElem?_eq_getElem hr];rfl
theorem zzq(sh:List UInt8)(r:List ByteArray)(k:Nat):(opK sh r k).nm=zpP sh r k:=by
 induction k with
 | zero=>rfl
 | succ k ih =>
  show((opK sh r k).take k (zbf (sh[k]?.getD 0)) (r[k]?.getD ⟨#[]⟩)).nm=if zbf (sh[k]?.getD 0)=2 then r[k]?.getD ⟨#[]⟩ else zpP sh r k
  have h3:∀ a:UInt8,zbf a=0∨zbf a=1∨zbf a=2:=fun a=>by
   unfold zbf
   split
   ·simp
   ·split <;> simp
  unfold Opd.take
  rcases h3 (sh[k]?.getD 0) with h|h|h
  ·rw [if_neg (show ¬zbf (sh[k]?.getD 0)=2 by rw [h];decide),if_pos h]
   split
   ·exact ih
   ·split <;> exact ih
  ·rw [if_neg (show ¬zbf (sh[k]?.getD 0)=2 by rw [h];decide),if_neg (show ¬zbf (sh[k]?.getD 0)=0 by rw [h];decide),if_pos h]
   exact ih
  ·rw [if_pos h,if_neg (show ¬zbf (sh[k]?.getD 0)=0 by rw [h];decide),if_neg (show ¬zbf (sh[k]?.getD 0)=1 by rw [h];decide)]
abbrev Opd.stm(o:Opd)(line:Int)(x:ByteArray):Value:=Go.Proofs.YtfpgjkbjbbgciaaGreatDoor.stm 2 line x o.a o.b o.c o.n o.nm
def zhm(x:ByteArray)(r:List ByteArray):Bool:=if zaa x=[63]∨¬r.length=(zaa x).length then false else za7 (zaa x) r
def zse(w:World)(x:ByteArray)(r:List ByteArray)(line:Int):Ending→World→Prop:=fun e w' =>
 Below w.heap.size w w'∧(zhm x r=true∧e=.returned ((opK (zaa x) r r.length).stm line x)∨zhm x r=false∧e=zak 1 line)
theorem zsf(x:ByteArray)(w:World)(sh:List UInt8)(HS:Hid (zaa x=sh)):Calls Tryz.prog 149 #[.string x] w (zb5 w sh):=by
 rw [←HS.out];exact zvl x w
theorem zvo(x:ByteArray)(w:World)(HS:Hid (zaa x=[63])):Calls Tryz.prog 149 #[.string x] w fun e w'=>e=.returned (.tuple #[.slice none 0 0,.bool false])∧w'=w:=by
 refine(zsf x w _ HS).mono ?_
 rintro e w' (⟨_,h1,h2⟩|⟨h,_⟩|⟨h,_⟩)
 ·exact⟨h1,h2.symm⟩
 ·cases h
 ·exact absurd rfl h
theorem zkZ(x:ByteArray)(w:World)(HS:Hid (zaa x=[])):Calls Tryz.prog 149 #[.string x] w fun e w'=>e=.returned (.tuple #[.slice none 0 0,.bool true])∧w'=w:=by
 refine(zsf x w _ HS).mono ?_
 rintro e w' (⟨h,_⟩|⟨_,h1,h2⟩|⟨_,h,_⟩)
 ·cases h
 ·exact⟨h1,h2.symm⟩
 ·exact absurd rfl h
theorem zoE(x:ByteArray)(w:World)(sh:List UInt8)(HS:Hid (zaa x=sh))(h1:¬sh=[63])(h2:¬sh=[]):Calls Tryz.prog 149 #[.string x] w fun e w'=>e=.returned (.tuple #[.slice (some ⟨w.heap.size,0,none⟩) sh.length sh.length,.bool true])∧w'=w.alloc (.cells (sh.map (fun k=>Value.int .i64 (zbf k))).toArray 225):=by
 refine(zsf x w _ HS).mono ?_
 rintro e w' (⟨h,_⟩|⟨h,_⟩|⟨_,_,h3,h4⟩)
 ·exact absurd h h1
 ·exact absurd h h2
 ·exact⟨h3,h4⟩
theorem zsg(w:World)(g cap:Nat)(x:ByteArray)(r:List ByteArray)(line:Int)(hl:WordsIn w g (x :: r))(_hn:r.length≤1048576)(HS:Hid (zaa x=[63])):
  Calls Tryz.prog 130 #[.slice (some ⟨g,0,none⟩) (r.length+1) cap,.int .i64 line] w fun e w'=>e=zak 1 line∧Below w.heap.size w w':=by
 have hc0:=hl 0 (by simp)
 simp only [List.getElem_cons_zero] at hc0
 have hlt:g<w.heap.size:=by
  have:=World.block_lt_of_cell? w _ hc0;simpa using this
 go_enter Tryz.func130,Tryz.ntmps130
 go_wp2_with(first
  | (go_at_call 149;refine(zvo x _ HS).mono ?_;rintro e wx ⟨rfl,hww⟩;have h2:=hww.symm;subst h2)
  | (go_at_call 79;refine(zay _ _ _).mono ?_;rintro e wx ⟨rfl,hww⟩;have h2:=hww.symm;subst h2))
 exact⟨rfl,rfl,(Below.refl _ _).alloc (Nat.le_refl _) _⟩
theorem zvp(w:World)(g cap:Nat)(x:ByteArray)(r:List ByteArray)(line:Int)(hl:WordsIn w g (x :: r))(hn:r.length≤1048576)(sh:List UInt8)(HS:Hid (zaa x=sh))(h1:¬sh=[63])(hs3:sh.length≤3)(hne:((r.length:Int) != (sh.length:Int))=true):
  Calls Tryz.prog 130 #[.slice (some ⟨g,0,none⟩) (r.length+1) cap,.int .i64 line] w fun e w'=>e=zak 1 line∧Below w.heap.size w w':=by
 have hc0:=hl 0 (by simp)
 simp only [List.getElem_cons_zero] at hc0
 have hlt:g<w.heap.size:=by
  have:=World.block_lt_of_cell? w _ hc0;simpa using this
 by_cases h2:sh=[]
 ·subst h2
  have hne0:((r.length:Int) != 0)=true:=hne
  go_enter Tryz.func130,Tryz.ntmps130
  go_wp2_with(first
   | (go_at_call 149;refine(zkZ x _ HS).mono ?_;rintro e wx ⟨rfl,hww⟩;have h2:=hww.symm;subst h2)
   | (go_at_call 79;refine(zay _ _ _).mono ?_;rintro e wx ⟨rfl,hww⟩;have h2:=hww.symm;subst h2))
  exact⟨rfl,rfl,(Below.refl _ _).alloc (Nat.le_refl _) _⟩
 ·go_enter Tryz.func130,Tryz.ntmps130
  go_wp2_with(first
   | (go_at_call 149;refine(zoE x _ sh HS h1 h2).mono ?_;rintro e wx ⟨rfl,hww⟩;subst hww)
   | (go_at_call 79;refine(zay _ _ _).mono ?_;rintro e wx ⟨rfl,hww⟩;have h2:=hww.symm;subst h2))
  exact⟨rfl,rfl,((Below.refl _ _).alloc (Nat.le_refl _) _).alloc (by simp) _⟩
abbrev insW(w:World)(sh:List UInt8)(line:Int)(x:ByteArray):World :=
 ((w.alloc (.cells #[.int .i64 0,.int .i64 0,.string ⟨#[]⟩,.int .i64 0,.int .i64 0,.int .i64 0,.int .i64 0,.string ⟨#[]⟩] 135)).alloc (.cells (sh.map (fun k=>Value.int .i64 (zbf k))).toArray 225)).alloc (.cells #[.int .i64 2,.int .i64 line,.string x,.int .i64 0,.int .i64 0,.int .i64 0,.int .i64 0,.string ⟨#[]⟩] 135)
theorem zcv(w:World)(a b:Obj)(c:Array Value)(ty:TypeId)(i:Nat):(((w.alloc a).alloc b).alloc (.cells c ty)).cell? ⟨w.heap.size+1+1,i,none⟩=c[i]?:=by
 have:=World.cell?_alloc_new (w:=(w.alloc a).alloc b) c ty i
 rw [World.size_alloc,World.size_alloc] at this
 exact this
theorem zpQ(w:World)(a o:Obj)(c:Array Value)(ty:TypeId)(i:Nat):(((w.alloc a).alloc (.cells c ty)).alloc o).cell? ⟨w.heap.size+1,i,none⟩=c[i]?:=by
 rw [World.cell?_alloc_lt ((w.alloc a).alloc (.cells c ty)) o ⟨w.heap.size+1,i,none⟩ (by simp)]
 simp
theorem zpR(w:World)(b o:Obj)(c:Array Value)(ty:TypeId)(i:Nat):(((w.alloc (.cells c ty)).alloc b).alloc o).cell? ⟨w.heap.size,i,none⟩=c[i]?:=by
 rw [World.cell?_alloc_lt ((w.alloc (.cells c ty)).alloc b) o ⟨w.heap.size,i,none⟩ (by simp;omega)]
 simp
theorem zoF(w:World)(c:Array Value)(ty:TypeId)(o:Nat):(w.alloc (.cells c ty)).frozen? ⟨w.heap.size,o,none⟩=false:=by simp
theorem zvq(w:World)(sh:List UInt8)(line:Int)(x:ByteArray):StmAt (insW w sh line x) (w.heap.size+1+1) line x ⟨#[]⟩ 0 0 0 0:=by
 refine⟨zcv _ _ _ _ _ 0,zcv _ _ _ _ _ 1,zcv _ _ _ _ _ 2,zcv _ _ _ _ _ 3,zcv _ _ _ _ _ 4,zcv _ _ _ _ _ 5,zcv _ _ _ _ _ 6,zcv _ _ _ _ _ 7,fun o=>?_⟩
 have h:=zoF ((w.alloc (.cells #[.int .i64 0,.int .i64 0,.string ⟨#[]⟩,.int .i64 0,.int .i64 0,.int .i64 0,.int .i64 0,.string ⟨#[]⟩] 135)).alloc (.cells (sh.map (fun k=>Value.int .i64 (zbf k))).toArray 225)) #[.int .i64 2,.int .i64 line,.string x,.int .i64 0,.int .i64 0,.int .i64 0,.int .i64 0,.string ⟨#[]⟩] 135 o
 rw [World.size_alloc,World.size_alloc] at h
 exact h
theorem zxD(w:World)(sh:List UInt8)(line:Int)(x:ByteArray)(k:Nat)(hk:k<sh.length):(insW w sh line x).cell? ⟨w.heap.size+1,k,none⟩=some (.int .i64 (zbf sh[k])):=by
 rw [zpQ]
 simp [hk]
theorem zvr(w:World)(sh:List UInt8)(line:Int)(x:ByteArray)(j:Nat)(hj:j<8):∃ y,(insW w sh line x).cell? ⟨w.heap.size,j,none⟩=some y:=by
 rw [zpR]
 exact⟨_,Array.getElem?_eq_getElem (by simpa using hj)⟩
theorem zxE(w:World)(sh:List UInt8)(line:Int)(x:ByteArray)(j:Nat):(insW w sh line x).frozen? ⟨w.heap.size,j,none⟩=false:=by
 have hb:Below (w.heap.size+1) (w.alloc (.cells #[.int .i64 0,.int .i64 0,.string ⟨#[]⟩,.int .i64 0,.int .i64 0,.int .i64 0,.int .i64 0,.string ⟨#[]⟩] 135)) (insW w sh line x):=((Below.refl _ _).alloc (by simp) _).alloc (by simp) _
 rw [hb.frozen (p:=⟨w.heap.size,j,none⟩) (by simp)]
 exact zoF _ _ _ _
theorem zj0{w wr:World}{sh:List UInt8}{line:Int}{x:ByteArray}(h:(insW w sh line x).grownBy wr (some (w.heap.size+1+1))):Below w.heap.size w wr :=
 ((((Below.refl _ w).alloc (Nat.le_refl _) _).alloc (by simp) _).alloc (by simp;omega) _).grown h (by simp;omega) (fun k hk=>by simp at hk;omega)
theorem zae{a b c:World}{q:Option Nat}(h:a.grownBy b q)(k:b.grownBy c q):a.grownBy c q :=
 ⟨k.os.trans h.os,k.tape.trans h.tape,k.output.trans h.output,Nat.le_trans h.size k.size,fun i hi hne=>(k.block i (Nat.lt_of_lt_of_le hi h.size) hne).trans (h.block i hi hne)⟩
theorem zzr(a:UInt8)(y:ByteArray)(h:zbf a=0):opOk a y=zfd y:=by
 unfold zbf at h
 unfold opOk
 split at h
 ·rename_i hc;rw [if_pos hc];rfl
 ·split at h <;> simp at h
theorem zzs(a:UInt8)(y:ByteArray)(h:zbf a=1):opOk a y=(zbc y).2:=by
 unfold zbf at h
 unfold opOk
 split at h
 ·simp at h
 ·rename_i hc
  split at h
  ·rename_i hd;rw [if_neg hc,if_pos hd]
  ·simp at h
theorem zzt(a:UInt8)(y:ByteArray)(h:zbf a=2):opOk a y=za5 y:=by
 unfold zbf at h
 unfold opOk
 split at h
 ·simp at h
 ·rename_i hc
  split at h
  ·simp at h
  ·rename_i hd;rw [if_neg hc,if_neg hd]
theorem zvs(w:World)(hw:LibW w)(g cap:Nat)(x:ByteArray)(r:List ByteArray)(line:Int)(hl:WordsIn w g (x :: r))(hsz:∀ j (hj:j<r.length),r[j].size≤1048576)(sh:List UInt8)(HS:Hid (zaa x=sh))(h1:¬sh=[63])(h2:¬sh=[])(hs3:sh.length≤3)(hle:sh.length≤r.length)(hge:r.length≤sh.length):
  Calls Tryz.prog 130 #[.slice (some ⟨g,0,none⟩) (r.length+1) cap,.int .i64 line] w fun e w'=>Below w.heap.size w w'∧(za7 sh r=true∧e=.returned ((opK sh r r.length).stm line x)∨za7 sh r=false∧e=zak 1 line):=by
 have hc0:=hl 0 (by simp)
 simp only [List.getElem_cons_zero] at hc0
 have hlt:g<w.heap.size:=by
  have:=World.block_lt_of_cell? w _ hc0;simpa using this
 have hne:((r.length:Int) != (sh.length:Int))=false:=by simp;omega
 go_enter Tryz.func130,Tryz.ntmps130
 go_wp2_with(first
  | (go_at_call 149;refine(zoE x _ sh HS h1 h2).mono ?_;rintro e wx ⟨rfl,hww⟩;subst hww))
 go_loopw [36] (fun ti wr=>∃(k:Nat) (nm:ByteArray) (r0 r1 r2 n:Int),k≤sh.length∧ti=.int .i64 (k:Int)∧(insW w sh line x).grownBy wr (some (w.heap.size+1+1))∧StmAt wr (w.heap.size+1+1) line x nm r0 r1 r2 n∧(⟨nm,r0,r1,r2,n⟩:Opd)=opK sh r k∧za7 sh r=za7 (sh.drop k) (r.drop k)) (fun ti _=>sh.length-(intOf ti).toNat)
 case atStart=>exact⟨0,⟨#[]⟩,0,0,0,0,by omega,rfl,⟨rfl,rfl,rfl,Nat.le_refl _,fun _ _ _=>rfl⟩,zvq w sh line x,rfl,rfl⟩
 case round =>
  obtain⟨k,nm,r0,r1,r2,n,hk,rfl,hgr,hS,hO,hR⟩:=hrel
  have HO:Hid ((⟨nm,r0,r1,r2,n⟩:Opd)=opK sh r k):=hO
  clear hO
  have HR:Hid (za7 sh r=za7 (sh.drop k) (r.drop k)):=hR
  clear hR
  have belowW:∀{wz:World},(insW w sh line x).grownBy wz (some (w.heap.size+1+1))→Below w.heap.size w wz:=fun h=>zj0 h
  have hbl:=zj0 hgr
  have hwr:=hw.below hbl
  have hqz:=hS.lt
  by_cases hklt:k<sh.length
  ·have hkr:k<r.length:=by omega
   have hck:wr.cell? ⟨w.heap.size+1,k,none⟩=some (.int .i64 (zbf sh[k])):=hgr.cell (zxD w sh line x k hklt) (by simp)
   have hwk:wr.cell? ⟨g,k+1,none⟩=some (.string r[k]):=(hbl.cell (p:=⟨g,k+1,none⟩) hlt).trans (by have:=hl (k+1) (by simp;omega);simpa using this)
   have hszk:=hsz k hkr
   have HT:Hid (za7 sh r=(opOk sh[k] r[k]&&za7 (sh.drop (k+1)) (r.drop (k+1)))):=by unfold Hid;rw [HR.out,zpE sh r k hklt hkr]
   have HHK:Hid (opK sh r (k+1)=(⟨nm,r0,r1,r2,n⟩:Opd).take k (zbf sh[k]) r[k]):=by unfold Hid;rw [HO.out];exact zvn sh r k hklt hkr
   have hkk:zbf sh[k]=0∨zbf sh[k]=1∨zbf sh[k]=2:=by
    unfold zbf
    split
    ·simp
    ·split <;> simp
   rcases hkk with hkk|hkk|hkk
   ·have HOP:Hid (opOk sh[k] r[k]=zfd r[k]):=zzr _ _ hkk
    rw [hkk] at hck
    have HN:Hid (opK sh r (k+1)=(⟨nm,r0,r1,r2,n⟩:Opd).take k 0 r[k]):=by unfold Hid;rw [HHK.out,hkk]
    clear hkk HHK
    have hk3:k=0∨k=1∨k=2:=by omega
    rcases hk3 with rfl|rfl|rfl
    ·cases hq:zfd r[0] with
     | true =>
      have HQ:Hid (opOk sh[0] r[0]=true):=HOP.out.trans hq
      go_wp2_with(first|(go_at_call 150;refine(zkU _ _ line x _ r[0] r0 r1 r2 n hS hszk).mono ?_;rintro e w5 ⟨rfl,hg1,hS1⟩)|(go_at_call 79;refine(zay _ _ _).mono ?_;rintro e wx ⟨rfl,hww⟩;have h2:=hww.symm;subst h2))
      go_roundw
      case rel=>exact⟨0+1,nm,za4 r[0],r1,r2,n,by omega,by go_num,zae hgr hg1,hS1,HN.out.symm,by rw [HT.out,HQ.out];simp⟩
      case measure=>simp [intOf];omega
     | false =>
      have HQ:Hid (opOk sh[0] r[0]=false):=HOP.out.trans hq
      go_wp2_with(first|(go_at_call 150;refine(zkU _ _ line x _ r[0] r0 r1 r2 n hS hszk).mono ?_;rintro e w5 ⟨rfl,hg1,hS1⟩)|(go_at_call 79;refine(zay _ _ _).mono ?_;rintro e wx ⟨rfl,hww⟩;have h2:=hww.symm;subst h2))
      exact⟨rfl,belowW (zae hgr hg1),.inr ⟨by rw [HT.out,HQ.out];simp,rfl⟩⟩
    ·cases hq:zfd r[1] with
     | true =>
      have HQ:Hid (opOk sh[1] r[1]=true):=HOP.out.trans hq
      go_wp2_with(first|(go_at_call 150;refine(zkV _ _ line x _ r[1] r0 r1 r2 n hS hszk).mono ?_;rintro e w5 ⟨rfl,hg1,hS1⟩)|(go_at_call 79;refine(zay _ _ _).mono ?_;rintro e wx ⟨rfl,hww⟩;have h2:=hww.symm;subst h2))
      go_roundw
      case rel=>exact⟨1+1,nm,r0,za4 r[1],r2,n,by omega,by go_num,zae hgr hg1,hS1,HN.out.symm,by rw [HT.out,HQ.out];simp⟩
      case measure=>simp [intOf];omega
     | false =>
      have HQ:Hid (opOk sh[1] r[1]=false):=HOP.out.trans hq
      go_wp2_with(first|(go_at_call 150;refine(zkV _ _ line x _ r[1] r0 r1 r2 n hS hszk).mono ?_;rintro e w5 ⟨rfl,hg1,hS1⟩)|(go_at_call 79;refine(zay _ _ _).mono ?_;rintro e wx ⟨rfl,hww⟩;have h2:=hww.symm;subst h2))
      exact⟨rfl,belowW (zae hgr hg1),.inr ⟨by rw [HT.out,HQ.out];simp,rfl⟩⟩
    ·cases hq:zfd r[2] with
     | true =>
      have HQ:Hid (opOk sh[2] r[2]=true):=HOP.out.trans hq
      go_wp2_with(first|(go_at_call 150;refine(zkW _ _ line x _ r[2] r0 r1 r2 n hS hszk).mono ?_;rintro e w5 ⟨rfl,hg1,hS1⟩)|(go_at_call 79;refine(zay _ _ _).mono ?_;rintro e wx ⟨rfl,hww⟩;have h2:=hww.symm;subst h2))
      go_roundw
      case rel=>exact⟨2+1,nm,r0,r1,za4 r[2],n,by omega,by go_num,zae hgr hg1,hS1,HN.out.symm,by rw [HT.out,HQ.out];simp⟩
      case measure=>simp [intOf];omega
     | false =>
      have HQ:Hid (opOk sh[2] r[2]=false):=HOP.out.trans hq
      go_wp2_with(first|(go_at_call 150;refine(zkW _ _ line x _ r[2] r0 r1 r2 n hS hszk).mono ?_;rintro e w5 ⟨rfl,hg1,hS1⟩)|(go_at_call 79;refine(zay _ _ _).mono ?_;rintro e wx ⟨rfl,hww⟩;have h2:=hww.symm;subst h2))
      exact⟨rfl,belowW (zae hgr hg1),.inr ⟨by rw [HT.out,HQ.out];simp,rfl⟩⟩
   ·have HOP:Hid (opOk sh[k] r[k]=(zbc r[k]).2):=zzs _ _ hkk
    rw [hkk] at hck
    have HN:Hid (opK sh r (k+1)=⟨nm,r0,r1,r2,zcD r[k]⟩):=by unfold Hid;rw [HHK.out,hkk];rfl
    clear hkk HHK
    cases hq:(zbc r[k]).2 with
    | true =>
     have HQ:Hid (opOk sh[k] r[k]=true):=HOP.out.trans hq
     go_wp2_with(first|(go_at_call 150;refine(zoB _ hwr _ _ line x _ r[k] r0 r1 r2 n hS hszk).mono ?_;rintro e w5 ⟨rfl,hg1,hS1⟩)|(go_at_call 79;refine(zay _ _ _).mono ?_;rintro e wx ⟨rfl,hww⟩;have h2:=hww.symm;subst h2))
     go_roundw
     case rel=>exact⟨k+1,nm,r0,r1,r2,zcD r[k],by omega,by go_num,zae hgr hg1,hS1,HN.out.symm,by rw [HT.out,HQ.out];simp⟩
     case measure=>simp [intOf];omega
    | false =>
     have HQ:Hid (opOk sh[k] r[k]=false):=HOP.out.trans hq
     go_wp2_with(first|(go_at_call 150;refine(zoB _ hwr _ _ line x _ r[k] r0 r1 r2 n hS hszk).mono ?_;rintro e w5 ⟨rfl,hg1,hS1⟩)|(go_at_call 79;refine(zay _ _ _).mono ?_;rintro e wx ⟨rfl,hww⟩;have h2:=hww.symm;subst h2))
     exact⟨rfl,belowW (zae hgr hg1),.inr ⟨by rw [HT.out,HQ.out];simp,rfl⟩⟩
   ·have HOP:Hid (opOk sh[k] r[k]=za5 r[k]):=zzt _ _ hkk
    rw [hkk] at hck
    have HN:Hid (opK sh r (k+1)=⟨r[k],r0,r1,r2,n⟩):=by unfold Hid;rw [HHK.out,hkk];rfl
    clear hkk HHK
    cases hq:za5 r[k] with
    | true =>
     have HQ:Hid (opOk sh[k] r[k]=true):=HOP.out.trans hq
     go_wp2_with(first|(go_at_call 150;refine(zkT _ _ _ line x _ r[k] r0 r1 r2 n hS hszk).mono ?_;rintro e w5 ⟨rfl,hg1,hS1⟩)|(go_at_call 79;refine(zay _ _ _).mono ?_;rintro e wx ⟨rfl,hww⟩;have h2:=hww.symm;subst h2))
     go_roundw
     case rel=>exact⟨k+1,r[k],r0,r1,r2,n,by omega,by go_num,zae hgr hg1,hS1,HN.out.symm,by rw [HT.out,HQ.out];simp⟩
     case measure=>simp [intOf];omega
    | false =>
     have HQ:Hid (opOk sh[k] r[k]=false):=HOP.out.trans hq
     go_wp2_with(first|(go_at_call 150;refine(zkT _ _ _ line x _ r[k] r0 r1 r2 n hS hszk).mono ?_;rintro e w5 ⟨rfl,hg1,hS1⟩)|(go_at_call 79;refine(zay _ _ _).mono ?_;rintro e wx ⟨rfl,hww⟩;have h2:=hww.symm;subst h2))
     exact⟨rfl,belowW (zae hgr hg1),.inr ⟨by rw [HT.out,HQ.out];simp,rfl⟩⟩
  ·have HT:Hid (za7 sh r=true):=by unfold Hid;rw [HR.out,List.drop_of_length_le (by omega)];rfl
   have HKL:Hid (k=r.length):=by unfold Hid;omega
   obtain⟨c0,c1,c2,c3,c4,c5,c6,c7,fz⟩:=hS
   have h8:∀ j,j<8→∃ y,wr.cell? ⟨w.heap.size,j,none⟩=some y:=fun j hj=>by
    obtain⟨y,hy⟩:=zvr w sh line x j hj
    exact⟨y,hgr.cell hy (by simp;omega)⟩
   have hfz:∀ j,wr.frozen? ⟨w.heap.size,j,none⟩=false:=fun j=>by
    rw [World.frozen?_of_block (hgr.block w.heap.size (by simp [insW];omega) (by simp;omega))]
    exact zxE w sh line x j
   obtain⟨y0,z0⟩:=h8 0 (by omega)
   obtain⟨y1,z1⟩:=h8 1 (by omega)
   obtain⟨y2,z2⟩:=h8 2 (by omega)
   obtain⟨y3,z3⟩:=h8 3 (by omega)
   obtain⟨y4,z4⟩:=h8 4 (by omega)
   obtain⟨y5,z5⟩:=h8 5 (by omega)
   obtain⟨y6,z6⟩:=h8 6 (by omega)
   obtain⟨y7,z7⟩:=h8 7 (by omega)
   go_wp2
   obtain⟨f0,f1,f2,f3,f4,f5,f6,f7⟩:=zpH h8
   refine bodyPost_ret (v:=stm 2 line x r0 r1 r2 n nm) (by simp [results,Tryz.results130,go_sem,f0,f1,f2,f3,f4,f5,f6,f7]) rfl ⟨zjx hbl (Nat.le_refl _) _ _ _ _ _ _ _ _,.inl ⟨HT.out,?_⟩⟩
   rw [←HKL.out,←HO.out]
theorem zsk(w:World)(g cap:Nat)(x:ByteArray)(line:Int)(hl:WordsIn w g [x])(HS:Hid (zaa x=[])):
  Calls Tryz.prog 130 #[.slice (some ⟨g,0,none⟩) 1 cap,.int .i64 line] w fun e w'=>Below w.heap.size w w'∧e=.returned (stm 2 line x 0 0 0 0 ⟨#[]⟩):=by
 have hc0:=hl 0 (by simp)
 simp only [List.getElem_cons_zero] at hc0
 have hlt:g<w.heap.size:=by
  have:=World.block_lt_of_cell? w _ hc0;simpa using this
 go_enter Tryz.func130,Tryz.ntmps130
 go_wp2_with(first
  | (go_at_call 149;refine(zkZ x _ HS).mono ?_;rintro e wx ⟨rfl,hww⟩;have h2:=hww.symm;subst h2))
 refine wp_loop_rounds 1 ?_
 rw [rounds_succ]
 go_wp2
 refine bodyPost_ret (v:=stm 2 line x 0 0 0 0 ⟨#[]⟩) (by simp [results,Tryz.results130,go_sem]) rfl ⟨?_,rfl⟩
 exact((Below.refl _ _).alloc (Nat.le_refl _) _).alloc (by simp) _
theorem zvt(w:World)(hw:LibW w)(g cap:Nat)(x:ByteArray)(r:List ByteArray)(line:Int)(hl:WordsIn w g (x :: r))(hsz:∀ j (hj:j<r.length),r[j].size≤1048576)(hn:r.length≤1048576):
  Calls Tryz.prog 130 #[.slice (some ⟨g,0,none⟩) (r.length+1) cap,.int .i64 line] w (zse w x r line):=by
 have hs3:=zsj x
 by_cases h63:zaa x=[63]
 ·refine(zsg w g cap x r line hl hn h63).mono ?_
  rintro e w' ⟨h1,h2⟩
  exact⟨h2,.inr ⟨by unfold zhm;rw [if_pos (.inl h63)],h1⟩⟩
 ·by_cases hlen:r.length=(zaa x).length
  ·have hio:zhm x r=za7 (zaa x) r:=by unfold zhm;rw [if_neg];rintro(h|h);exact h63 h;exact h hlen
   by_cases h0:zaa x=[]
   ·have hr:r=[]:=List.eq_nil_of_length_eq_zero (by rw [hlen,h0];rfl)
    subst hr
    refine(zsk w g cap x line hl h0).mono ?_
    rintro e w' ⟨h1,h2⟩
    refine⟨h1,.inl ⟨by rw [hio,h0];rfl,?_⟩⟩
    rw [h2,h0];rfl
   ·refine(zvs w hw g cap x r line hl hsz (zaa x) rfl h63 h0 hs3 (by omega) (by omega)).mono ?_
    rintro e w' ⟨h1,h2⟩
    refine⟨h1,?_⟩
    rw [hio]
    exact h2
  ·refine(zvp w g cap x r line hl hn (zaa x) rfl h63 hs3 (by simp;omega)).mono ?_
   rintro e w' ⟨h1,h2⟩
   exact⟨h2,.inr ⟨by unfold zhm;rw [if_pos (.inr hlen)],h1⟩⟩
def zfv(q:Said):Int:=if q.kind=102 then 0 else if q.kind=108 then 1 else 2
def zew(q:Said):ByteArray:=if q.kind=105 then q.word 0 else⟨#[]⟩
def zd5(q:Said):ByteArray:=if q.kind=102 then q.word 1 else if q.kind=108 then q.word 0 else zpP (zaa (q.word 0)) q.kept.tail q.kept.tail.length
def opQ(q:Said):Opd:=if q.kind=105 then opK (zaa (q.word 0)) q.kept.tail q.kept.tail.length else opd0
def zxG(w:World)(q:Said)(line:Int):Ending→World→Prop:=fun e w' =>
 Below w.heap.size w w'∧(q.ok=true∧e=.returned (stm (zfv q) line (zew q) (opQ q).a (opQ q).b (opQ q).c (opQ q).n (zd5 q))∨q.ok=false∧e=zak 1 line)
theorem zj1(x:ByteArray)(h:1≤x.size):∃ l c,x.data.toList=l++[c]∧zfq x=(c.toNat:Int)∧l.length=x.size-1:=by
 have hl:x.data.toList.length=x.size:=by simp
 have hne:x.data.toList≠[]:=by intro e;rw [e] at hl;simp at hl;omega
 obtain⟨l,c,e⟩:∃ l c,x.data.toList=l++[c]:=⟨x.data.toList.dropLast,x.data.toList.getLast hne,(List.dropLast_concat_getLast hne).symm⟩
 have hll:l.length=x.size-1:=by rw [e] at hl;simp at hl;omega
 refine⟨l,c,e,?_,hll⟩
 unfold zfq bt
 rw [←Array.getElem?_toList,e,←hll]
 simp
theorem zdX(x:ByteArray)(h:1≤x.size):Lib.hasSuffix x.data.toList [58]=decide (zfq x=58):=by
 obtain⟨l,c,e,h1,_⟩:=zj1 x h
 rw [h1,e]
 unfold Lib.hasSuffix List.isSuffixOf
 rw [List.reverse_append]
 by_cases hc:c=58
 ·subst hc;simp [List.isPrefixOf]
 ·have h2:¬58=c:=fun e=>hc e.symm
  have h3:¬(c.toNat:Int)=58:=by
   intro e;apply hc;exact UInt8.toNat_inj.1 (by simp;omega)
  simp [List.isPrefixOf,h2,h3]
theorem zla(x:ByteArray)(h:1≤x.size)(hs:zfq x=58):(⟨(Lib.trimSuffix x.data.toList [58]).toArray⟩:ByteArray)=x.extract 0 (x.size-1):=by
 obtain⟨l,c,e,_,h2⟩:=zj1 x h
 unfold Lib.trimSuffix
 rw [zdX x h,hs]
 simp only [decide_true,if_true]
 apply ByteArray.ext
 rw [ByteArray.data_extract]
 apply Array.ext'
 rw [Array.toList_extract,List.extract_eq_take_drop]
 simp only [List.drop_zero,Nat.sub_zero]
 congr 1
theorem znb(x:ByteArray)(_h:1≤x.size)(hs:zfq x=58):zaa x=[63]:=by
 have key:∀ l:List UInt8,(isW x l=true)→zfq ⟨l.toArray⟩=58:=by
  intro l hl
  have:=zaC x l hl
  rw [←this];exact hs
 unfold zaa
 repeat' split
 all_goals first
  | rfl
  | (exfalso;rename_i hh;simp only [Bool.or_eq_true] at hh;rcases hh with hh|hh <;> (first|(have:=key _ hh;revert this;decide)|(rcases hh with hh|hh <;> (have:=key _ hh;revert this;decide))))
theorem WordsIn.alloc{w:World}{g:Nat}{l:List ByteArray}(h:WordsIn w g l)(o:Obj):WordsIn (w.alloc o) g l:=by
 intro j hj
 have hc:=h j hj
 rw [World.cell?_alloc_lt w o ⟨g,j,none⟩ (by have:=World.block_lt_of_cell? w _ hc;simpa using this)]
 exact hc
abbrev zcY:Obj:=.cells #[.int .i64 0,.int .i64 0,.string ⟨#[]⟩,.int .i64 0,.int .i64 0,.int .i64 0,.int .i64 0,.string ⟨#[]⟩] 135
theorem zdI{w w1:World}{o:Obj}(hb:Below (w.alloc o).heap.size (w.alloc o) w1):Below w.heap.size w w1:=((Below.refl _ _).alloc (Nat.le_refl _) _).trans (hb.mono (by simp))
theorem zkk(w:World)(g cap:Nat)(r:List ByteArray)(line:Int)(hl:WordsIn w g (⟨#[102,117,110,99]⟩ :: r))(hsz:∀ y∈(⟨#[102,117,110,99]⟩ :: r:List ByteArray),y.size≤1048576)(hn:r.length≤1048576)(h:¬((⟨#[102,117,110,99]⟩ :: r:List ByteArray).length=2∧za5 ((⟨#[102,117,110,99]⟩ :: r:List ByteArray).getLast?.getD ByteArray.empty)=true)):
  Calls Tryz.prog 99 #[.slice (some ⟨g,0,none⟩) (r.length+1) cap,.int .i64 line] w fun e w'=>e=zak 1 line∧Below w.heap.size w w':=by
 have hc0:=hl 0 (by simp)
 simp only [List.getElem_cons_zero] at hc0
 have hlt:g<w.heap.size:=by have:=World.block_lt_of_cell? w _ hc0;simpa using this
 have hcall:=zpI (w.alloc zcY) g cap _ line (hl.alloc _) hsz (by simp;omega) h
 simp only [List.length_cons] at hcall
 go_enter Tryz.func99,Tryz.ntmps99
 go_wp2_with(go_at_call 127;refine hcall.mono ?_;rintro e w1 ⟨rfl,hb⟩)
 exact⟨rfl,rfl,zdI hb⟩
theorem zjm(w:World)(g cap:Nat)(y:ByteArray)(line:Int)(hl:WordsIn w g [⟨#[102,117,110,99]⟩,y])(hy:y.size≤1048576)(hnm:za5 y=true):
  Calls Tryz.prog 99 #[.slice (some ⟨g,0,none⟩) 2 cap,.int .i64 line] w fun e w'=>e=.returned (stm 0 line ⟨#[]⟩ 0 0 0 0 y)∧Below w.heap.size w w':=by
 have hc0:=hl 0 (by simp)
 simp only [List.getElem_cons_zero] at hc0
 have hlt:g<w.heap.size:=by have:=World.block_lt_of_cell? w _ hc0;simpa using this
 have hcall:=zmU (w.alloc zcY) g cap _ y line (hl.alloc _) hy hnm
 go_enter Tryz.func99,Tryz.ntmps99
 go_wp2_with(go_at_call 127;refine hcall.mono ?_;rintro e w1 ⟨rfl,hb⟩;obtain⟨hc,hf⟩:=zhF hb)
 obtain⟨f0,f1,f2,f3,f4,f5,f6,f7⟩:=zpH (new8 rfl hb)
 refine bodyPost_ret (v:=stm 0 line ⟨#[]⟩ 0 0 0 0 y) (by simp [results,Tryz.results99,go_sem,f0,f1,f2,f3,f4,f5,f6,f7]) rfl ⟨rfl,?_⟩
 exact zjx (zdI hb) (Nat.le_refl _) _ _ _ _ _ _ _ _
theorem zlb(w:World)(g cap:Nat)(x:ByteArray)(r:List ByteArray)(line:Int)(hl:WordsIn w g (x :: r))(hx:x.size≤1048576)(hx1:1≤x.size)(hn:r.length≤1048576)(hnf:(x.toList == [102,117,110,99])=false)(hs:zfq x=58)(h:¬(r.length+1=1∧za5 (x.extract 0 (x.size-1))=true)):
  Calls Tryz.prog 99 #[.slice (some ⟨g,0,none⟩) (r.length+1) cap,.int .i64 line] w fun e w'=>e=zak 1 line∧Below w.heap.size w w':=by
 have hc0:=hl 0 (by simp)
 simp only [List.getElem_cons_zero] at hc0
 have hlt:g<w.heap.size:=by have:=World.block_lt_of_cell? w _ hc0;simpa using this
 have hcut:=Tryz.strings_CutSuffix x ⟨#[58]⟩ (w.alloc zcY) (by omega)
 rw [show(⟨#[58]⟩:ByteArray).data.toList=[58] from rfl,zdX x hx1,zla x hx1 hs,hs] at hcut
 simp only [decide_true] at hcut
 have hcall:=zpJ (w.alloc zcY) (some ⟨g,0,none⟩) (r.length+1) cap (x.extract 0 (x.size-1)) line (by rw [ByteArray.size_extract];omega) (by omega) h
 clear hs
 go_enter Tryz.func99,Tryz.ntmps99
 go_wp2_with(first|(go_at_call 128;refine hcut.mono ?_;rintro e wx ⟨rfl,hww⟩;subst hww)|(go_at_call 129;refine hcall.mono ?_;rintro e w1 ⟨rfl,hb⟩))
 exact⟨rfl,rfl,zdI hb⟩
theorem zkl(w:World)(g cap:Nat)(x:ByteArray)(line:Int)(hl:WordsIn w g [x])(hx:x.size≤1048576)(hx1:1≤x.size)(hnf:(x.toList == [102,117,110,99])=false)(hs:zfq x=58)(h:za5 (x.extract 0 (x.size-1))=true):
  Calls Tryz.prog 99 #[.slice (some ⟨g,0,none⟩) 1 cap,.int .i64 line] w fun e w'=>e=.returned (stm 1 line ⟨#[]⟩ 0 0 0 0 (x.extract 0 (x.size-1)))∧Below w.heap.size w w':=by
 have hc0:=hl 0 (by simp)
 simp only [List.getElem_cons_zero] at hc0
 have hlt:g<w.heap.size:=by have:=World.block_lt_of_cell? w _ hc0;simpa using this
 have hcut:=Tryz.strings_CutSuffix x ⟨#[58]⟩ (w.alloc zcY) (by omega)
 rw [show(⟨#[58]⟩:ByteArray).data.toList=[58] from rfl,zdX x hx1,zla x hx1 hs,hs] at hcut
 simp only [decide_true] at hcut
 have hcall:=zmV (w.alloc zcY) (some ⟨g,0,none⟩) cap (x.extract 0 (x.size-1)) line (by rw [ByteArray.size_extract];omega) h
 clear hs
 go_enter Tryz.func99,Tryz.ntmps99
 go_wp2_with(first|(go_at_call 128;refine hcut.mono ?_;rintro e wx ⟨rfl,hww⟩;subst hww)|(go_at_call 129;refine hcall.mono ?_;rintro e w1 ⟨rfl,hb⟩;obtain⟨hc,hf⟩:=zhF hb))
 obtain⟨f0,f1,f2,f3,f4,f5,f6,f7⟩:=zpH (new8 rfl hb)
 refine bodyPost_ret (v:=stm 1 line ⟨#[]⟩ 0 0 0 0 (x.extract 0 (x.size-1))) (by simp [results,Tryz.results99,go_sem,f0,f1,f2,f3,f4,f5,f6,f7]) rfl ⟨rfl,?_⟩
 exact zjx (zdI hb) (Nat.le_refl _) _ _ _ _ _ _ _ _
theorem zvu(w:World)(hw:LibW w)(g cap:Nat)(x:ByteArray)(r:List ByteArray)(line:Int)(hl:WordsIn w g (x :: r))(hsz:∀ j (hj:j<r.length),r[j].size≤1048576)(hx:x.size≤1048576)(hx1:1≤x.size)(hn:r.length≤1048576)(hnf:(x.toList == [102,117,110,99])=false)(hs:¬zfq x=58):
  Calls Tryz.prog 99 #[.slice (some ⟨g,0,none⟩) (r.length+1) cap,.int .i64 line] w (zse w x r line):=by
 have hc0:=hl 0 (by simp)
 simp only [List.getElem_cons_zero] at hc0
 have hlt:g<w.heap.size:=by have:=World.block_lt_of_cell? w _ hc0;simpa using this
 have hcut:=Tryz.strings_CutSuffix x ⟨#[58]⟩ (w.alloc zcY) (by omega)
 rw [show(⟨#[58]⟩:ByteArray).data.toList=[58] from rfl,zdX x hx1] at hcut
 simp only [hs,decide_false] at hcut
 generalize (⟨(Lib.trimSuffix x.data.toList [58]).toArray⟩:ByteArray)=tr at hcut
 have hcall:=zvt (w.alloc zcY) (hw.below ((Below.refl _ _).alloc (Nat.le_refl _) _)) g cap x r line (hl.alloc _) hsz hn
 cases hok:zhm x r with
 | true =>
  have hcall2:=hcall.mono (R':=fun e w'=>e=.returned ((opK (zaa x) r r.length).stm line x)∧Below (w.alloc zcY).heap.size (w.alloc zcY) w') (by
   rintro e w' ⟨h1,h2|h2⟩
   ·exact⟨h2.2,h1⟩
   ·rw [hok] at h2;exact absurd h2.1 (by simp))
  clear hs hcall
  generalize hop:opK (zaa x) r r.length=op at hcall2
  obtain⟨nm,r0,r1,r2,n⟩:=op
  have HO:Hid (opK (zaa x) r r.length=⟨nm,r0,r1,r2,n⟩):=hop
  clear hop
  go_enter Tryz.func99,Tryz.ntmps99
  go_wp2_with(first|(go_at_call 128;refine hcut.mono ?_;rintro e wx ⟨rfl,hww⟩;subst hww)|(go_at_call 130;refine hcall2.mono ?_;rintro e w1 ⟨rfl,hb⟩;obtain⟨hc,hf⟩:=zhF hb))
  obtain⟨f0,f1,f2,f3,f4,f5,f6,f7⟩:=zpH (new8 rfl hb)
  refine bodyPost_ret (v:=stm 2 line x r0 r1 r2 n nm) (by simp [results,Tryz.results99,go_sem,f0,f1,f2,f3,f4,f5,f6,f7]) rfl ⟨?_,.inl ⟨hok,by rw [HO.out]⟩⟩
  exact zjx (zdI hb) (Nat.le_refl _) _ _ _ _ _ _ _ _
 | false =>
  have hcall2:=hcall.mono (R':=fun e w'=>e=zak 1 line∧Below (w.alloc zcY).heap.size (w.alloc zcY) w') (by
   rintro e w' ⟨h1,h2|h2⟩
   ·rw [hok] at h2;exact absurd h2.1 (by simp)
   ·exact⟨h2.2,h1⟩)
  clear hs hcall
  go_enter Tryz.func99,Tryz.ntmps99
  go_wp2_with(first|(go_at_call 128;refine hcut.mono ?_;rintro e wx ⟨rfl,hww⟩;subst hww)|(go_at_call 130;refine hcall2.mono ?_;rintro e w1 ⟨rfl,hb⟩))
  exact⟨rfl,zdI hb,.inr ⟨hok,rfl⟩⟩
theorem zoG(w:World)(hw:LibW w)(g cap:Nat)(x:ByteArray)(r:List ByteArray)(line:Int)(hl:WordsIn w g (x :: r))(hsz:∀ y∈(x :: r:List ByteArray),1≤y.size∧y.size≤1048576)(hn:r.length≤1048576):
  Calls Tryz.prog 99 #[.slice (some ⟨g,0,none⟩) (r.length+1) cap,.int .i64 line] w (zxG w (sayW (x :: r)) line):=by
 have hx:=hsz x (by simp)
 cases hf:zep x with
 | true =>
  have e1:sayW (x :: r)=⟨102,x :: r,decide ((x :: r).length=2)&&za5 ((x :: r).getLast?.getD ByteArray.empty)⟩:=by simp only [sayW,hf,if_true]
  rw [e1]
  have:=zxF x hf
  subst this
  by_cases hg:(⟨#[102,117,110,99]⟩ :: r:List ByteArray).length=2∧za5 ((⟨#[102,117,110,99]⟩ :: r:List ByteArray).getLast?.getD ByteArray.empty)=true
  ·match r,hg,hl,hsz with
   | [y],hg,hl,hsz =>
    have hnm:za5 y=true:=by simpa using hg.2
    refine(zjm w g cap y line hl (hsz y (by simp)).2 hnm).mono ?_
    rintro e w' ⟨h1,h2⟩
    exact⟨h2,.inl ⟨by simp [hnm],h1⟩⟩
  ·refine(zkk w g cap r line hl (fun y hy=>(hsz y hy).2) hn hg).mono ?_
   rintro e w' ⟨h1,h2⟩
   exact⟨h2,.inr ⟨by simpa using hg,h1⟩⟩
 | false =>
  have hnf:(x.toList == [102,117,110,99])=false:=hf
  by_cases hs:zfq x=58
  ·by_cases hg:r.length+1=1∧za5 (x.extract 0 (x.size-1))=true
   ·have hr:r=[]:=List.eq_nil_of_length_eq_zero (by omega)
    subst hr
    have e1:sayW [x]=⟨108,[x.extract 0 (x.size-1)],za5 (x.extract 0 (x.size-1))⟩:=by simp only [sayW,hf];rw [if_neg (by simp),if_pos ⟨rfl,hs⟩]
    rw [e1]
    refine(zkl w g cap x line hl hx.2 hx.1 hnf hs hg.2).mono ?_
    rintro e w' ⟨h1,h2⟩
    exact⟨h2,.inl ⟨hg.2,h1⟩⟩
   ·refine(zlb w g cap x r line hl hx.2 hx.1 hn hnf hs hg).mono ?_
    rintro e w' ⟨h1,h2⟩
    refine⟨h2,.inr ⟨?_,h1⟩⟩
    by_cases hr:r=[]
    ·subst hr
     have e1:sayW [x]=⟨108,[x.extract 0 (x.size-1)],za5 (x.extract 0 (x.size-1))⟩:=by simp only [sayW,hf];rw [if_neg (by simp),if_pos ⟨rfl,hs⟩]
     rw [e1]
     simpa using hg
    ·have hr1:¬(x :: r).length=1:=by cases r with|nil=>exact absurd rfl hr|cons a b=>simp
     have e1:(sayW (x :: r)).ok=if zaa x=[63]∨¬(x :: r).length=(zaa x).length+1 then false else za7 (zaa x) r:=by
      simp only [sayW,hf];rw [if_neg (by simp),if_neg (fun h=>hr1 h.1)]
     rw [e1,if_pos (.inl (znb x hx.1 hs))]
  ·have e1:sayW (x :: r)=⟨105,x :: r,if zaa x=[63]∨¬(x :: r).length=(zaa x).length+1 then false else za7 (zaa x) r⟩:=by simp only [sayW,hf];rw [if_neg (by simp),if_neg (fun h=>hs h.2)]
   rw [e1]
   have e2:(if zaa x=[63]∨¬(x :: r).length=(zaa x).length+1 then false else za7 (zaa x) r)=zhm x r:=by
    unfold zhm
    simp only [List.length_cons,Nat.add_right_cancel_iff]
   rw [e2]
   refine(zvu w hw g cap x r line hl (fun j hj=>(hsz r[j] (List.mem_cons_of_mem _ (List.getElem_mem hj))).2) hx.2 hx.1 hn hnf hs).mono ?_
   rintro e w' ⟨h1,h2|h2⟩
   ·refine⟨h1,.inl ⟨h2.1,?_⟩⟩
    rw [h2.2]
    show Ending.returned (stm 2 line x (opK (zaa x) r r.length).a (opK (zaa x) r r.length).b (opK (zaa x) r r.length).c (opK (zaa x) r r.length).n (opK (zaa x) r r.length).nm)=_
    rw [zzq]
    rfl
   ·exact⟨h1,.inr h2⟩
theorem zsm(s:ByteArray)(w:World)(hs:s.size≤9223372036854775807)(h:4000<s.size∨300<(lines s).length):
  Calls Tryz.prog 65 #[.string s] w fun e w'=>e=zak 6 0∧w'=w:=by
 have hcl:=(zdZ s).1
 have hll:=zsl s
 have hcall:=Tryz.strings_Count_one s 10 w
 generalize Lib.countByte s.data.toList 10=c at hcl hcall
 by_cases h4:4000<s.size
 ·go_enter Tryz.func65,Tryz.ntmps65
  go_wp2_with(first|(go_at_call 96;refine hcall.mono ?_;rintro e wx ⟨rfl,hww⟩;have h2:=hww.symm;subst h2)|(go_at_call 79;refine(zay _ _ _).mono ?_;rintro e wx ⟨rfl,hww⟩;have h2:=hww.symm;subst h2))
  exact⟨rfl,rfl,rfl⟩
 ·have h3:300<c+1:=by omega
  have hc:c≤1048576:=by omega
  clear hcl
  go_enter Tryz.func65,Tryz.ntmps65
  go_wp2_with(first|(go_at_call 96;refine hcall.mono ?_;rintro e wx ⟨rfl,hww⟩;have h2:=hww.symm;subst h2)|(go_at_call 79;refine(zay _ _ _).mono ?_;rintro e wx ⟨rfl,hww⟩;have h2:=hww.symm;subst h2))
  exact⟨rfl,rfl,rfl⟩
theorem zcG(s:ByteArray)(w:World)(h4:s.size≤4000)(h3:(lines s).length≤300):
  Calls Tryz.prog 65 #[.string s] w fun e w'=>e=.returned (.tuple #[])∧w'=w:=by
 have hcl:=(zdZ s).1
 have hcall:=Tryz.strings_Count_one s 10 w
 generalize Lib.countByte s.data.toList 10=c at hcl hcall
 have h5:c+1≤300:=by omega
 clear hcl
 go_enter Tryz.func65,Tryz.ntmps65
 go_wp2_with(first|(go_at_call 96;refine hcall.mono ?_;rintro e wx ⟨rfl,hww⟩;have h2:=hww.symm;subst h2))
 go_end0
 exact⟨rfl,rfl⟩
structure It where
 sort:Int
 line:Int
 word:ByteArray
 nm:ByteArray
 a:Int
 b:Int
 c:Int
 n:Int
abbrev It.cells(i:It):List Value:=[.int .i64 i.sort,.int .i64 i.line,.string i.word,.int .i64 i.a,.int .i64 i.b,.int .i64 i.c,.int .i64 i.n,.string i.nm]
def zav(l:List It):List Value:=l.flatMap It.cells
structure Key where
 sort:Int
 line:Int
 word:ByteArray
 nm:ByteArray
 a:Int
 b:Int
 c:Int
 n:Int
def It.key(i:It):Key:=⟨i.sort,i.line,i.word,i.nm,i.a,i.b,i.c,i.n⟩
def keyQ(q:Said)(line:Int):Key:=⟨zfv q,line,zew q,zd5 q,(opQ q).a,(opQ q).b,(opQ q).c,(opQ q).n⟩
def zaU(A:List ByteArray):Nat→List Key
 | 0=>[]
 | k+1=>zaU A k++(match A[k]? with|none=>[]|some x=>if(say x).kind=0 then [] else [keyQ (say x) ((k:Int)+1)])
theorem zfR(l:List It)(i:It):zav (l++[i])=zav l++i.cells:=by simp [zav]
theorem Tryz.info135:(Tryz.prog.info? 135).map (fun i=>(i.zero,i.size,i.bytes))=some (some (.agg #[.int .i64 0,.int .i64 0,.string ByteArray.empty,.int .i64 0,.int .i64 0,.int .i64 0,.int .i64 0,.string ByteArray.empty]),8,80):=by kernel_rfl
theorem Tryz.under116:Tryz.prog.underlying 116=some (.slice 135):=by kernel_rfl
theorem zid(A:List ByteArray)(k:Nat)(h:k<A.length)(h0:(say A[k]).kind=0):zaU A (k+1)=zaU A k:=by
 simp [zaU,List.getElem?_eq_getElem h,h0]
theorem zj3(A:List ByteArray)(k:Nat)(h:k<A.length)(h0:¬(say A[k]).kind=0):zaU A (k+1)=zaU A k++[keyQ (say A[k]) ((k:Int)+1)]:=by
 simp [zaU,List.getElem?_eq_getElem h,h0]
theorem zsn(x:ByteArray)(hv:za0 x 0=true)(hw:zbv x=[]):say x=⟨0,[],true⟩:=by
 simp [say,hv,hw,sayW]
theorem zie(x:ByteArray)(hv:za0 x 0=true):say x=sayW (zbv x):=by simp [say,hv]
theorem zfy(x:ByteArray)(hv:za0 x 0=false):(say x).ok=false:=by simp [say,hv]
theorem zso(x:ByteArray)(r:List ByteArray):¬(sayW (x :: r)).kind=0:=by
 unfold sayW
 dsimp only
 repeat' split
 all_goals simp
def zxJ(w:World)(A:List ByteArray):Ending→World→Prop:=fun e w' =>
 Below w.heap.size w w'∧((∃ i:Nat,zbW A 0=(1,(i:Int)+1)∧e=zak 1 ((i:Int)+1)) ∨
  (zbW A 0=zb6 (A.map say) 0∧(∀ x∈A,(say x).ok=true)∧∃ v its,e=.returned v∧w'.ownsRow w.heap.size 135 8 v its.length (zav its)∧its.map It.key=zaU A A.length))
theorem znd(w:World)(a b c d e f g h:Value)(t:TypeId):∀ j u,[a,b,c,d,e,f,g,h][j]?=some u→(w.alloc (.cells #[a,b,c,d,e,f,g,h] t)).cell? ((⟨w.heap.size,0,none⟩:Addr).add j)=some u:=by
 intro j u hj
 have h1:=World.cell?_alloc_new (w:=w) #[a,b,c,d,e,f,g,h] t j
 have h2:(⟨w.heap.size,0,none⟩:Addr).add j=⟨w.heap.size,j,none⟩:=by simp [Addr.add];omega
 rw [h2,h1]
 rw [←List.getElem?_toArray] at hj
 exact hj
theorem zld(i:It):∀ u∈i.cells,u.oneCell'=true:=by
 intro u hu
 simp at hu
 rcases hu with rfl|rfl|rfl|rfl|rfl|rfl|rfl|rfl <;> rfl
theorem zif(s:ByteArray)(line:Int)(w:World)(hw:LibW w)(hs:s.size≤1048576)(hv:za0 s 0=true)(l:List ByteArray)(hl:Hid (zbv s=l))(h0:0<l.length):
  Calls Tryz.prog 98 #[.string s,.int .i64 line] w fun e w'=>∃ g cap,e=.returned (.slice (some ⟨g,0,none⟩) l.length cap)∧w.heap.size≤g∧WordsIn w' g l∧Below w.heap.size w w':=by
 refine(zgz s line w hw hs).mono ?_
 rintro e w' ⟨hb,⟨_,v,rfl,hown⟩|⟨h,_⟩⟩
 ·rw [hl.out] at hown
  obtain⟨g,cap,rfl,_,_,h3,_,h5⟩:=zzj hown h0
  exact⟨g,cap,rfl,h3,h5,hb⟩
 ·rw [hv] at h;cases h
theorem zne(s:ByteArray)(line:Int)(w:World)(hw:LibW w)(hs:s.size≤1048576)(hv:za0 s 0=true)(hl:Hid (zbv s=[])):
  Calls Tryz.prog 98 #[.string s,.int .i64 line] w fun e w'=>∃ ao cap,e=.returned (.slice ao 0 cap)∧Below w.heap.size w w':=by
 refine(zgz s line w hw hs).mono ?_
 rintro e w' ⟨hb,⟨_,v,rfl,hown⟩|⟨h,_⟩⟩
 ·rw [hl.out] at hown
  rcases hown.2 with ⟨h1,_⟩|⟨g,cap,cur,h1,_⟩
  ·subst h1;exact⟨none,0,rfl,hb⟩
  ·subst h1;exact⟨_,cap,rfl,hb⟩
 ·rw [hv] at h;cases h
theorem zpS(s:ByteArray)(line:Int)(w:World)(hw:LibW w)(hs:s.size≤1048576)(hv:za0 s 0=false):
  Calls Tryz.prog 98 #[.string s,.int .i64 line] w fun e w'=>e=zak 1 line∧Below w.heap.size w w':=by
 refine(zgz s line w hw hs).mono ?_
 rintro e w' ⟨hb,⟨h,_⟩|⟨_,h⟩⟩
 ·rw [hv] at h;cases h
 ·exact⟨h,hb⟩
theorem zsp(w:World)(hw:LibW w)(g cap:Nat)(x:ByteArray)(r:List ByteArray)(line:Int)(hl:WordsIn w g (x :: r))(hsz:∀ y∈(x :: r:List ByteArray),1≤y.size∧y.size≤1048576)(hn:r.length≤1048576)(q:Said)(hq:Hid (sayW (x :: r)=q))(hok:q.ok=true):
  Calls Tryz.prog 99 #[.slice (some ⟨g,0,none⟩) (r.length+1) cap,.int .i64 line] w fun e w'=>e=.returned (stm (zfv q) line (zew q) (opQ q).a (opQ q).b (opQ q).c (opQ q).n (zd5 q))∧Below w.heap.size w w':=by
 refine(zoG w hw g cap x r line hl hsz hn).mono ?_
 rw [hq.out]
 rintro e w' ⟨hb,⟨_,h⟩|⟨h,_⟩⟩
 ·exact⟨h,hb⟩
 ·rw [hok] at h;cases h
theorem zle(w:World)(hw:LibW w)(g cap:Nat)(x:ByteArray)(r:List ByteArray)(line:Int)(hl:WordsIn w g (x :: r))(hsz:∀ y∈(x :: r:List ByteArray),1≤y.size∧y.size≤1048576)(hn:r.length≤1048576)(q:Said)(hq:Hid (sayW (x :: r)=q))(hok:q.ok=false):
  Calls Tryz.prog 99 #[.slice (some ⟨g,0,none⟩) (r.length+1) cap,.int .i64 line] w fun e w'=>e=zak 1 line∧Below w.heap.size w w':=by
 refine(zoG w hw g cap x r line hl hsz hn).mono ?_
 rw [hq.out]
 rintro e w' ⟨hb,⟨h,_⟩|⟨_,h⟩⟩
 ·rw [hok] at h;cases h
 ·exact⟨h,hb⟩
end Go.Proofs.YtfpgjkbjbbgciaaGreatDoor
