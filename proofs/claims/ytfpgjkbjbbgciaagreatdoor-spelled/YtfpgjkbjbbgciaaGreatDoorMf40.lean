import Derived.Test.YtfpgjkbjbbgciaaGreatDoorMf36
import Derived.Test.YtfpgjkbjbbgciaaGreatDoorMf39
set_option maxRecDepth 100000
set_option maxHeartbeats 8000000
namespace Go.Proofs.YtfpgjkbjbbgciaaGreatDoor
open Go.RowKit Sp
structure PlIn (W : World) (F : List FnM) (bo pm bg : Nat) : Prop where
 maps : ∀ f ∈ F,MapIs W f.m (zb1 f.its)
 places : MapIs W pm (zaR F)
 begs : ∀ k,k < F.length → W.cell? ⟨bg,k,none⟩ = some (.int .i64 (lenF (F.take k) : Int))
 labs : ∀ k (h : k < F.length),W.cell? ⟨bo,k * 4 + 3,none⟩ = some (.map (some F[k].m))
theorem PlIn.below {W W' : World} {F : List FnM} {bo pm bg B : Nat} (h : PlIn W F bo pm bg) (hb : Below B W W') (hB : W.heap.size ≤ B) : PlIn W' F bo pm bg :=
 ⟨fun f hf => (h.maps f hf).below hb (Nat.lt_of_lt_of_le (h.maps f hf).lt hB),h.places.below hb (Nat.lt_of_lt_of_le h.places.lt hB),
  fun k hk => (hb.cell (p:=⟨bg,k,none⟩) (Nat.lt_of_lt_of_le (World.block_lt_of_cell? W _ (h.begs k hk)) hB)).trans (h.begs k hk),
  fun k hk => (hb.cell (p:=⟨bo,k * 4 + 3,none⟩) (Nat.lt_of_lt_of_le (World.block_lt_of_cell? W _ (h.labs k hk)) hB)).trans (h.labs k hk)⟩
theorem zi9 (F : List FnM) (k : Nat) : lenF (F.take k) ≤ lenF F:=by
 unfold lenF
 conv => rhs; rw [← List.take_append_drop k F,List.map_append,List.sum_append]
 omega
theorem zal (x : ByteArray) : ((zas x).toNat : Int) = zas x:=by
 unfold zas
 split
 ·omega
 ·rfl
abbrev zgn (bo cv pm bg cap n : Nat) : Value:=.agg #[.slice (some ⟨bo,0,none⟩) n cv,.map (some pm),.slice (some ⟨bg,0,none⟩) n cap]
theorem zmc {L : List Said} {F : List FnM} (R : Right L F) (w : World) {bo pm bg : Nat} (cv cap : Nat) (M : PlIn w F bo pm bg) (hn : F.length ≤ 300) {k m : Nat} {f : FnM} {it : It} (hk : F[k]? = some f) (hm : (zaf f.its)[m]? = some it) (hsz : it.nm.size ≤ 1048576) :
  Calls Tryz.prog 81 #[zgn bo cv pm bg cap F.length,stm it.sort it.line it.word it.a it.b it.c it.n it.nm,.int .i64 (k : Int)] w fun e w' => e = .returned (.iface (insT (insM F k it)) (.agg (insA (insM F k it)))) ∧ Below w.heap.size w w':=by
 have hkl : k < F.length:=(List.getElem?_eq_some_iff.1 hk).1
 have hfk : F[k] = f:=(List.getElem?_eq_some_iff.1 hk).2
 obtain ⟨j,hj,h5,hkey,_,hlab,hfn,_⟩:=R.it_at hk hm
 have Fm:=R.good.form j hj h5
 have hfew:=R.codeOk.few
 have ew : it.word = zdS L[j]:=congrArg Key.word hkey
 have ea : it.a = (opQ L[j]).a:=congrArg Key.a hkey
 have eb : it.b = (opQ L[j]).b:=congrArg Key.b hkey
 have ec : it.c = (opQ L[j]).c:=congrArg Key.c hkey
 have em : it.nm = zc0 L[j]:=congrArg Key.nm hkey
 have hl : zaz (L[j].word 0) = true → it.nm = L[j].last → ∀ W,Below w.heap.size w W → Calls Tryz.prog 108 #[zgn bo cv pm bg cap F.length,.string it.nm,.int .i64 (k : Int)] W fun e w' => e = .returned (.int .i64 (labM F k it.nm)) ∧ Below W.heap.size W w':=by
  intro ha he W hW
  obtain ⟨p,hp,hp1,hp2,_⟩:=hlab ha
  rw [← he] at hp hp1
  have M':=M.below hW (Nat.le_refl _)
  have hmm:=M'.labs k hkl
  rw [hfk] at hmm
  have:=zlZ W pm bg k (lenF (F.take k)) p bo cv cap F it.nm f.m (zb1 f.its) (M'.maps f (List.mem_of_getElem? hk)) hsz hp (by omega) hkl hn (by omega) (M'.begs k hkl) hmm
  rw [hp1]
  refine this.mono ?_
  rintro e w' ⟨rfl,hb⟩
  exact ⟨by simp,hb⟩
 have hf : zaQ (L[j].word 0) = true → it.nm = L[j].last → ∀ W,Below w.heap.size w W → Calls Tryz.prog 109 #[zgn bo cv pm bg cap F.length,.string it.nm] W fun e w' => e = .returned (.int .i64 (fnM F it.nm)) ∧ Below W.heap.size W w':=by
  intro ha he W hW
  obtain ⟨k2,hk2,hp,hp1,hp2,_⟩:=hfn ha
  rw [← he] at hp hp1
  have M':=M.below hW (Nat.le_refl _)
  rw [hp1]
  exact zht W pm bg k2 _ F cap it.nm M'.places hsz hp hk2 hn (M'.begs k2 hk2) bo cv rfl
 clear hlab hfn hkey
 generalize L[j] = q at h5 Fm ew ea eb ec em hl hf
 obtain ⟨kd,kp,ok⟩:=q
 simp only at h5 Fm
 subst h5
 unfold insM
 cases Fm with
 | set_ x1 x2 =>
  have e0 : it.word = ⟨#[115,101,116]⟩:=ew
  rw [znI] at ea eb ec
  have na : (it.a.toNat : Int) = it.a:=by rw [ea]; exact zal _
  rw [e0,zkF]
  refine (zpA w (some ⟨bo,0,none⟩) (some ⟨bg,0,none⟩) F.length cv F.length cap pm it.sort it.line it.a it.b it.c it.n (k : Int) it.nm).mono ?_
  rintro e w' ⟨rfl,hb⟩
  exact ⟨by simp [insT,insA,na],hb⟩
 | inc_ x1 x2 =>
  have e0 : it.word = ⟨#[105,110,99]⟩:=ew
  rw [znJ] at ea eb ec
  have na : (it.a.toNat : Int) = it.a:=by rw [ea]; exact zal _
  rw [e0,zkG]
  refine (zpF w (some ⟨bo,0,none⟩) (some ⟨bg,0,none⟩) F.length cv F.length cap pm it.sort it.line it.a it.b it.c it.n (k : Int) it.nm).mono ?_
  rintro e w' ⟨rfl,hb⟩
  exact ⟨by simp [insT,insA,na],hb⟩
 | mov_ x1 x2 =>
  have e0 : it.word = ⟨#[109,111,118]⟩:=ew
  rw [znK] at ea eb ec
  have na : (it.a.toNat : Int) = it.a:=by rw [ea]; exact zal _
  have nb : (it.b.toNat : Int) = it.b:=by rw [eb]; exact zal _
  rw [e0,zkH]
  refine (zpB w (some ⟨bo,0,none⟩) (some ⟨bg,0,none⟩) F.length cv F.length cap pm it.sort it.line it.a it.b it.c it.n (k : Int) it.nm).mono ?_
  rintro e w' ⟨rfl,hb⟩
  exact ⟨by simp [insT,insA,na,nb],hb⟩
 | load_ x1 x2 =>
  have e0 : it.word = ⟨#[108,111,97,100]⟩:=ew
  rw [zkL] at ea eb ec
  have na : (it.a.toNat : Int) = it.a:=by rw [ea]; exact zal _
  have nb : (it.b.toNat : Int) = it.b:=by rw [eb]; exact zal _
  rw [e0,zix]
  refine (znD w (some ⟨bo,0,none⟩) (some ⟨bg,0,none⟩) F.length cv F.length cap pm it.sort it.line it.a it.b it.c it.n (k : Int) it.nm).mono ?_
  rintro e w' ⟨rfl,hb⟩
  exact ⟨by simp [insT,insA,na,nb],hb⟩
 | store_ x1 x2 =>
  have e0 : it.word = ⟨#[115,116,111,114,101]⟩:=ew
  rw [zi5] at ea eb ec
  have na : (it.a.toNat : Int) = it.a:=by rw [ea]; exact zal _
  have nb : (it.b.toNat : Int) = it.b:=by rw [eb]; exact zal _
  rw [e0,zgT]
  refine (zma w (some ⟨bo,0,none⟩) (some ⟨bg,0,none⟩) F.length cv F.length cap pm it.sort it.line it.a it.b it.c it.n (k : Int) it.nm).mono ?_
  rintro e w' ⟨rfl,hb⟩
  exact ⟨by simp [insT,insA,na,nb],hb⟩
 | add_ x1 x2 x3 =>
  have e0 : it.word = ⟨#[97,100,100]⟩:=ew
  rw [znL] at ea eb ec
  have na : (it.a.toNat : Int) = it.a:=by rw [ea]; exact zal _
  have nb : (it.b.toNat : Int) = it.b:=by rw [eb]; exact zal _
  have nc : (it.c.toNat : Int) = it.c:=by rw [ec]; exact zal _
  rw [e0,zkI]
  refine (zpC w (some ⟨bo,0,none⟩) (some ⟨bg,0,none⟩) F.length cv F.length cap pm it.sort it.line it.a it.b it.c it.n (k : Int) it.nm).mono ?_
  rintro e w' ⟨rfl,hb⟩
  exact ⟨by simp [insT,insA,na,nb,nc],hb⟩
 | sub_ x1 x2 x3 =>
  have e0 : it.word = ⟨#[115,117,98]⟩:=ew
  rw [znM] at ea eb ec
  have na : (it.a.toNat : Int) = it.a:=by rw [ea]; exact zal _
  have nb : (it.b.toNat : Int) = it.b:=by rw [eb]; exact zal _
  have nc : (it.c.toNat : Int) = it.c:=by rw [ec]; exact zal _
  rw [e0,zkJ]
  refine (zpD w (some ⟨bo,0,none⟩) (some ⟨bg,0,none⟩) F.length cv F.length cap pm it.sort it.line it.a it.b it.c it.n (k : Int) it.nm).mono ?_
  rintro e w' ⟨rfl,hb⟩
  exact ⟨by simp [insT,insA,na,nb,nc],hb⟩
 | mul_ x1 x2 x3 =>
  have e0 : it.word = ⟨#[109,117,108]⟩:=ew
  rw [znN] at ea eb ec
  have na : (it.a.toNat : Int) = it.a:=by rw [ea]; exact zal _
  have nb : (it.b.toNat : Int) = it.b:=by rw [eb]; exact zal _
  have nc : (it.c.toNat : Int) = it.c:=by rw [ec]; exact zal _
  rw [e0,zkK]
  refine (zpE w (some ⟨bo,0,none⟩) (some ⟨bg,0,none⟩) F.length cv F.length cap pm it.sort it.line it.a it.b it.c it.n (k : Int) it.nm).mono ?_
  rintro e w' ⟨rfl,hb⟩
  exact ⟨by simp [insT,insA,na,nb,nc],hb⟩
 | read_ x1 =>
  have e0 : it.word = ⟨#[114,101,97,100]⟩:=ew
  rw [zkM] at ea eb ec
  have na : (it.a.toNat : Int) = it.a:=by rw [ea]; exact zal _
  rw [e0,ziy]
  refine (znE w (some ⟨bo,0,none⟩) (some ⟨bg,0,none⟩) F.length cv F.length cap pm it.sort it.line it.a it.b it.c it.n (k : Int) it.nm).mono ?_
  rintro e w' ⟨rfl,hb⟩
  exact ⟨by simp [insT,insA,na],hb⟩
 | write_ x1 =>
  have e0 : it.word = ⟨#[119,114,105,116,101]⟩:=ew
  rw [zi6] at ea eb ec
  have na : (it.a.toNat : Int) = it.a:=by rw [ea]; exact zal _
  rw [e0,zgU]
  refine (zmb w (some ⟨bo,0,none⟩) (some ⟨bg,0,none⟩) F.length cv F.length cap pm it.sort it.line it.a it.b it.c it.n (k : Int) it.nm).mono ?_
  rintro e w' ⟨rfl,hb⟩
  exact ⟨by simp [insT,insA,na],hb⟩
 | jump_ x1 =>
  have e0 : it.word = ⟨#[106,117,109,112]⟩:=ew
  rw [zgV] at em
  rw [e0,ziz]
  refine (znP w (some ⟨bo,0,none⟩) (some ⟨bg,0,none⟩) F.length cv F.length cap pm it.sort it.line it.a it.b it.c it.n (k : Int) (labM F k it.nm) it.nm (hl (by kernel_rfl) em)).mono ?_
  rintro e w' ⟨rfl,hb⟩
  exact ⟨by simp [insT,insA],hb⟩
 | call_ x1 =>
  have e0 : it.word = ⟨#[99,97,108,108]⟩:=ew
  rw [zgW] at em
  rw [e0,zi0]
  refine (znQ w (some ⟨bo,0,none⟩) (some ⟨bg,0,none⟩) F.length cv F.length cap pm it.sort it.line it.a it.b it.c it.n (k : Int) (fnM F it.nm) it.nm (hf (by kernel_rfl) em)).mono ?_
  rintro e w' ⟨rfl,hb⟩
  exact ⟨by simp [insT,insA],hb⟩
 | less_ x1 x2 x3 =>
  have e0 : it.word = ⟨#[108,101,115,115]⟩:=ew
  rw [zkN] at ea eb ec
  have na : (it.a.toNat : Int) = it.a:=by rw [ea]; exact zal _
  have nb : (it.b.toNat : Int) = it.b:=by rw [eb]; exact zal _
  rw [zgX] at em
  rw [e0,zi1]
  refine (znR w (some ⟨bo,0,none⟩) (some ⟨bg,0,none⟩) F.length cv F.length cap pm it.sort it.line it.a it.b it.c it.n (k : Int) (labM F k it.nm) it.nm (hl (by kernel_rfl) em)).mono ?_
  rintro e w' ⟨rfl,hb⟩
  exact ⟨by simp [insT,insA,na,nb],hb⟩
 | same_ x1 x2 x3 =>
  have e0 : it.word = ⟨#[115,97,109,101]⟩:=ew
  rw [zkO] at ea eb ec
  have na : (it.a.toNat : Int) = it.a:=by rw [ea]; exact zal _
  have nb : (it.b.toNat : Int) = it.b:=by rw [eb]; exact zal _
  rw [zgY] at em
  rw [e0,zi2]
  refine (znS w (some ⟨bo,0,none⟩) (some ⟨bg,0,none⟩) F.length cv F.length cap pm it.sort it.line it.a it.b it.c it.n (k : Int) (labM F k it.nm) it.nm (hl (by kernel_rfl) em)).mono ?_
  rintro e w' ⟨rfl,hb⟩
  exact ⟨by simp [insT,insA,na,nb],hb⟩
 | back_  =>
  have e0 : it.word = ⟨#[98,97,99,107]⟩:=ew
  rw [e0,zi3]
  refine (znF w (some ⟨bo,0,none⟩) (some ⟨bg,0,none⟩) F.length cv F.length cap pm it.sort it.line it.a it.b it.c it.n (k : Int) it.nm).mono ?_
  rintro e w' ⟨rfl,hb⟩
  exact ⟨by simp [insT,insA],hb⟩
 | stop_  =>
  have e0 : it.word = ⟨#[115,116,111,112]⟩:=ew
  rw [e0,zi4]
  refine (znG w (some ⟨bo,0,none⟩) (some ⟨bg,0,none⟩) F.length cv F.length cap pm it.sort it.line it.a it.b it.c it.n (k : Int) it.nm).mono ?_
  rintro e w' ⟨rfl,hb⟩
  exact ⟨by simp [insT,insA],hb⟩
end Go.Proofs.YtfpgjkbjbbgciaaGreatDoor
