/- What VmTells leans on: a configuration in a block; both New at once; a whole machine read in a drawn region; where the names begin. -/
import Derived.Test.YtbighilgkmfemaaGreatDoorSetL
import Derived.Test.YtbighilgkmfemaaGreatDoorSetC
import Derived.Lib.QuietBelow
namespace Go.Proofs.YtbighilgkmfemaaGreatDoor
open Go.RowKit
set_option linter.unusedVariables false
set_option linter.unusedSimpArgs false

/-- A configuration in a block of its own. -/
def CfBox (w : World) (b : Nat) (m d r v o : Int) : Prop := w.heap[b]? = some (.cells #[.int .i64 m, .int .i64 d, .int .i64 r, .int .i64 v, .int .i64 o] 23 (0, 0))
theorem CfBox.lt {w : World} {b : Nat} {m d r v o : Int} (h : CfBox w b m d r v o) : b < w.heap.size := (Array.getElem?_eq_some_iff.1 h).1
theorem CfBox.keep {w w' : World} {b : Nat} {m d r v o : Int} (h : CfBox w b m d r v o) (x : Below w.heap.size w w') : CfBox w' b m d r v o := (x.block b h.lt).trans h
theorem CfBox.use {w : World} {b : Nat} {m d r v o : Int} (h : CfBox w b m d r v o) : w.cell? ⟨b, 0, none⟩ = some (.int .i64 m) ∧ w.cell? ⟨b, 1, none⟩ = some (.int .i64 d) ∧ w.cell? ⟨b, 2, none⟩ = some (.int .i64 r) ∧ w.cell? ⟨b, 3, none⟩ = some (.int .i64 v) ∧ w.cell? ⟨b, 4, none⟩ = some (.int .i64 o) := by
  unfold CfBox at h
  refine ⟨?_, ?_, ?_, ?_, ?_⟩ <;> simp [World.cell?, h]
theorem cfbox_new (w : World) (m d r v o : Int) : CfBox (w.alloc (.cells #[.int .i64 m, .int .i64 d, .int .i64 r, .int .i64 v, .int .i64 o] 23)) w.heap.size m d r v o := one_newN w _ _
/-- Both New: the same machine, the same code. -/
theorem both_new (m d r v o : Int) (hm : fitsB m d r v o = true → m ≤ 8192) : ∃ (L : VmL) (C : Int) (K : VmK), LFit L ∧
    (∀ w, Tab w → Calls Tryz.prog 8 #[.agg #[.int .i64 m, .int .i64 d, .int .i64 r, .int .i64 v, .int .i64 o]] w (POut K L C w)) ∧
    (∀ w, Calls Tryz.prog 9 #[.agg #[.int .i64 m, .int .i64 d, .int .i64 r, .int .i64 v, .int .i64 o]] w (POut K L C w)) := by
  cases hf : fitsB m d r v o with
  | true =>
    have h8 := hm hf
    have h2 := (fits_iff m d r v o).1 hf
    obtain ⟨N, rfl⟩ : ∃ N : Nat, m = (N : Int) := ⟨m.toNat, by omega⟩
    refine ⟨newL N, 0, confK N d r v o, fit_new (by omega), fun w hT => ?_, fun w => ?_⟩
    · refine (vnew_use (N : Int) d r v o w hT).mono ?_
      rintro e w1 ⟨k, C, rfl, h1, _, b⟩
      obtain ⟨rfl, N', hN, hv, hs⟩ := h1 hf
      obtain rfl : N' = N := by omega
      exact ⟨k, rfl, hv, hs, b⟩
    · refine (rnew_any (N : Int) d r v o w).mono ?_
      rintro e w1 ⟨h1, _, b⟩
      obtain ⟨N', g, A, c, hN, rfl, hv⟩ := h1 hf
      obtain rfl : N' = N := by omega
      exact ⟨_, rfl, hv, ⟨rfl, rfl, rfl, rfl, rfl, rfl, rfl, rfl, rfl, rfl, rfl, rfl, rfl⟩, b⟩
  | false =>
    refine ⟨noneL, -24, vm0, ⟨by decide, by decide, by decide, by decide, by decide, by decide, by decide, by decide⟩, fun w hT => ?_, fun w => ?_⟩
    · refine (vnew_use m d r v o w hT).mono ?_
      rintro e w1 ⟨k, C, rfl, _, h2, b⟩
      obtain ⟨rfl, rfl⟩ := h2 hf
      exact ⟨_, rfl, isvm_zero _, Sc.refl _, b⟩
    · refine (rnew_any m d r v o w).mono ?_
      rintro e w1 ⟨_, h2, b⟩
      obtain rfl := h2 hf
      exact ⟨_, rfl, isvm_zero _, Sc.refl _, b⟩
theorem rstart10_any (w : World) : Calls Tryz.prog 16 #[] w fun e w' => e = .returned (.int .i64 1368) ∧ w = w' := by
  go_enter Tryz.func16, Tryz.ntmps16
  go_wp2
  go_ret
  exact ⟨rfl, rfl⟩
/-- A whole machine is read. -/
theorem exec_vload {o : Oper} {a : Act} (x : Operand) (ho : o.op = .load 36 x) (b : Nat) (k : VmK) (hx : a.eval x = .pointer (some ⟨b, 0, none⟩)) {u : World} (hb : VBox u b k) : (execOp a.eval o).run Tryz.prog u = .ok (.value (vmV k)) u := by
  have hl := vm_load hb
  unfold execOp
  simp only [ho, hx, Instr.loadAt, Instr.sureAddr, Sem.run_bind, Sem.run_pure, Result.andThen_ok, hl]
theorem drew_bel (w : World) : Below w.heap.size w w.drew := ⟨rfl, rfl, rfl, Nat.le_refl _, fun _ _ => rfl⟩
theorem prims_self : sameR primL primL = true := by unfold sameR; simp
theorem specs_self : sameR specL specL = true := by unfold sameR; simp
/-- The program's Same, Right and the document's, of any two that are few. -/
theorem vsame_few {w : World} {k : VmK} {L : VmL} {j : VmK} {M : VmL} (h : IsVm w k L) (h' : IsVm w j M) (f : LFit L) :
    Calls Tryz.prog 22 #[vmV k, vmV j] w fun e w' => e = .returned (.bool (vSame k L j M)) ∧ Below w.heap.size w w' := by
  obtain ⟨a1, a2, a3, a4, a5, a6, a7, a8⟩ := fit_lens f h.lens
  exact vsame_any k L j M w (Lib.hid (by omega)) h h'
theorem vright_few {w : World} {k : VmK} {L : VmL} (h : IsVm w k L) (f : LFit L) : Calls Tryz.prog 20 #[vmV k] w fun e w' => e = .returned (.bool (vRight k L)) ∧ Below w.heap.size w w' := by
  obtain ⟨a1, a2, a3, a4, a5, a6, a7, a8⟩ := fit_lens f h.lens
  exact vright_any k L w (Lib.hid (by omega)) h
theorem rvright_few {w : World} {k : VmK} {L : VmL} (h : IsVm w k L) (f : LFit L) : Calls Tryz.prog 21 #[vmV k] w fun e w' => e = .returned (.bool (vRight k L)) ∧ Below w.heap.size w w' := by
  obtain ⟨a1, a2, a3, a4, a5, a6, a7, a8⟩ := fit_lens f h.lens
  exact rvright_any k L w (Lib.hid (by omega)) h
end Go.Proofs.YtbighilgkmfemaaGreatDoor
