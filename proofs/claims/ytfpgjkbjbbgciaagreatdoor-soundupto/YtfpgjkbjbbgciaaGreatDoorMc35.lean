import Derived.Test.YtfpgjkbjbbgciaaGreatDoorMc33
import Derived.Test.YtfpgjkbjbbgciaaGreatDoorMc34
import Derived.OpenShut
import Derived.Laws.Externs
set_option maxRecDepth 100000
set_option maxHeartbeats 8000000
namespace Go.Proofs.YtfpgjkbjbbgciaaGreatDoor
open Go.RowKit Sp
attribute [local go_sem ↓] Go.wp_at_zero Go.wp_at_succ
end Go.Proofs.YtfpgjkbjbbgciaaGreatDoor
namespace Go.Proofs.YtfpgjkbjbbgciaaGreatDoor
open Go.RowKit Sp
structure CRun (C : List (Ins × Int)) (n g b : Nat) (w0 wr : World) (FIN m : Mc) (bv iv ov : Value) : Prop where
 mch : MchAt wr b m bv iv ov
 inv : InvD C.length m
 st1 : m.steps ≤ (n : Int)
 inp : m.inp.length ≤ 1048576
 run : FIN = runS (zdh C) (n - m.steps.toNat) m
 low : Below w0.heap.size w0 wr
end Go.Proofs.YtfpgjkbjbbgciaaGreatDoor
namespace Go.Proofs.YtfpgjkbjbbgciaaGreatDoor
open Go.ChangeShapes Go.WideShapes Go.ChangeAt Go.RowKit Sp
open Go.ChangeMaps (open_string shut_string)
theorem zpa {H : Type} (l r : List (DataW H)) : l.length + r.length ≤ Rows.uptoBulk (.slice l r):=by
 have key : ∀ l : List (DataW H),l.length ≤ Rows.uptoBulkAll l:=by
  intro l
  induction l with
  | nil => simp
  | cons d l ih =>
   have : 1 ≤ Rows.uptoBulk d:=by
    cases d with
    | lit l => cases l <;> simp [Rows.uptoBulk]
    | _ => simp [Rows.uptoBulk]
   simp only [Rows.uptoBulkAll,List.length_cons]
   omega
 have h1:=key l
 have h2:=key r
 simp only [Rows.uptoBulk]
 omega
end Go.Proofs.YtfpgjkbjbbgciaaGreatDoor
namespace Go.Proofs.YtfpgjkbjbbgciaaGreatDoor
open Go.RowKit Sp
theorem zpm (x y : Int) (hx : 0 ≤ x) (hy : 0 ≤ y) (W : World) : (callFunc 236 #[.int .u64 x,.int .u64 y,.int .u64 0]).run Tryz.prog W = .ok (.value (.tuple #[.int .u64 ((x + y) % 18446744073709551616),.int .u64 ((x + y) / 18446744073709551616)])) W:=by
 rw [run_callFunc_extern Tryz.func236 (by kernel_rfl) (by kernel_rfl) (by kernel_rfl) (e:=add64Entry) (by kernel_rfl),run_add64 _ _ 0 hx hy (by omega) (by omega)]
 simp only [Result.andThen,Int.add_zero]
end Go.Proofs.YtfpgjkbjbbgciaaGreatDoor
namespace Go.Proofs.YtfpgjkbjbbgciaaGreatDoor
open Go.RowKit Sp Go.WideMaps Go.Maps
theorem MapIs.look {w : World} {b : Nat} {E : List (ByteArray × Nat)} (h : MapIs w b E) (x : ByteArray) (hx : x.size ≤ 1048576) (p : Nat) (hp : zce E x = some p) : (Instr.lookup 81 (.map (some b)) (.string x) false).run Tryz.prog w = .ok (.int .i64 (p : Int)) w:=by
 obtain ⟨D,hown,hD,hhas,hat0,hpw⟩:=h
 obtain ⟨c,hrun,hat,_⟩:=hown.lookup_int lawS Tryz.under81 Tryz.underlying3 (zqP _) (keyS x (by unfold maxLen; omega))
 rw [hat0 x p _ hp] at hat
 simp at hat
 rw [hrun,hat]
theorem MapIs.drewN {w : World} {b : Nat} {E : List (ByteArray × Nat)} (h : MapIs w b E) (n : Nat) : MapIs (w.drewN n) b E:=h
theorem zj9 (w : World) (pm bg k : Nat) (v : Value) (F : List FnM) (cap : Nat) (x : ByteArray) (hM : MapIs w pm (zbs F)) (hx : x.size ≤ 1048576) (hk : zce (zbs F) x = some k) (hkl : k < F.length) (_hn : F.length ≤ 300) (hc : w.cell? ⟨bg,k,none⟩ = some (.int .i64 (lenF (F.take k) : Int))) (bo cv : Nat) (hv : v = .slice (some ⟨bo,0,none⟩) F.length cv) :
  Calls Tryz.prog 109 #[.agg #[v,.map (some pm),.slice (some ⟨bg,0,none⟩) F.length cap],.string x] w fun e w' => e = .returned (.int .i64 (lenF (F.take k) : Int)) ∧ Below w.heap.size w w':=by
 subst hv
 have hl:=(hM.alloc (.cells #[.slice (some ⟨bo,0,none⟩) F.length cv,.map (some pm),.slice (some ⟨bg,0,none⟩) F.length cap] 128)).look x hx k hk
 have hlt : bg < w.heap.size:=World.block_lt_of_cell? w _ hc
 have hk0 : (0 : Int) ≤ (k : Int):=by omega
 have hk1 : (k : Int) < (F.length : Int):=by omega
 have hne4 : ¬ w.heap.size = bg:=by omega
 have hne5 : ¬ bg = w.heap.size:=by omega
 go_enter Tryz.func109,Tryz.ntmps109
 go_wp2
 go_ret
 exact ⟨rfl,(Below.refl _ _).alloc (Nat.le_refl _) _⟩
theorem zoW (w : World) (pm bg k j p bo cv cap : Nat) (F : List FnM) (x : ByteArray) (m : Nat) (E : List (ByteArray × Nat)) (hM : MapIs w m E) (hx : x.size ≤ 1048576) (hp : zce E x = some p) (hp1 : p ≤ 300) (hkl : k < F.length) (hn : F.length ≤ 300) (hj : j ≤ 300) (hc : w.cell? ⟨bg,k,none⟩ = some (.int .i64 (j : Int))) (hm : w.cell? ⟨bo,k * 4 + 3,none⟩ = some (.map (some m))) :
  Calls Tryz.prog 108 #[.agg #[.slice (some ⟨bo,0,none⟩) F.length cv,.map (some pm),.slice (some ⟨bg,0,none⟩) F.length cap],.string x,.int .i64 (k : Int)] w fun e w' => e = .returned (.int .i64 ((j : Int) + (p : Int))) ∧ Below w.heap.size w w':=by
 have hl:=fun n => ((hM.alloc (.cells #[.slice (some ⟨bo,0,none⟩) F.length cv,.map (some pm),.slice (some ⟨bg,0,none⟩) F.length cap] 128)).drewN n).look x hx p hp
 have hlt : bg < w.heap.size:=World.block_lt_of_cell? w _ hc
 have hlt2 : bo < w.heap.size:=World.block_lt_of_cell? w _ hm
 have hk0 : (0 : Int) ≤ (k : Int):=by omega
 have hk1 : (k : Int) < (F.length : Int):=by omega
 have hne4 : ¬ w.heap.size = bg:=by omega
 have hne5 : ¬ bg = w.heap.size:=by omega
 have hne6 : ¬ w.heap.size = bo:=by omega
 have hne7 : ¬ bo = w.heap.size:=by omega
 have hk4 : k * 4 ≤ 1200:=by omega
 go_enter Tryz.func108,Tryz.ntmps108
 go_wp2_with fail
 go_quiet (fail)
 go_wp2
 go_ret
 exact ⟨rfl,((Below.refl _ _).alloc (Nat.le_refl _) _).trans ((zbf _ nq).mono (by simp))⟩
end Go.Proofs.YtfpgjkbjbbgciaaGreatDoor
