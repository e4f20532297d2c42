/- A contract of the document's left, at the names whose cells aren't told by where they stand. -/
import Derived.Test.YtjeapcpicagobaaStkJ
namespace Go.Proofs.Ytjeapcpicagobaa
open Go.RowKit
set_option linter.unusedVariables false
set_option linter.unusedSimpArgs false

set_option maxRecDepth 100000 in
set_option maxHeartbeats 4000000 in
theorem left_qDUP_zero (g o c : Nat) (d : Int) (w : World) (c0 : w.cell? ⟨g, o, none⟩ = some (.int .i64 0)) :
    Calls Try.prog 22 #[.string ⟨#[63, 68, 85, 80]⟩, .slice (some ⟨g, o, none⟩) 1 c, .int .i64 d] w fun e w' => e = .returned (.slice (some ⟨g, o, none⟩) 1 c) ∧ w = w' := by
  go_enter Try.func22, Try.ntmps22
  go_wp2
  go_ret
  exact ⟨rfl, rfl⟩

set_option maxRecDepth 100000 in
set_option maxHeartbeats 4000000 in
theorem left_qDUP_other (g o c : Nat) (x0 d : Int) (w : World) (hg : g < w.heap.size) (hx : (x0 == 0) = false) (c0 : w.cell? ⟨g, o, none⟩ = some (.int .i64 x0)) :
    Calls Try.prog 22 #[.string ⟨#[63, 68, 85, 80]⟩, .slice (some ⟨g, o, none⟩) 1 c, .int .i64 d] w fun e w' => ∃ B d', e = .returned (.slice B 2 d') ∧ Row w' B 2 d' [x0, x0] ∧ Below w.heap.size w w' := by
  have HR := Lib.hid (lit_row w [x0, x0] 2 rfl (by omega))
  have SD : Hid (∀ a, (a.cell? ⟨g, o, none⟩ = some (.int .i64 x0) ∧ Since w a) → (a.drew.cell? ⟨g, o, none⟩ = some (.int .i64 x0) ∧ Since w a.drew)) := Lib.hid fun a h => ⟨h.1, h.2.drew⟩
  have SA : Hid (∀ a b, (a.cell? ⟨g, o, none⟩ = some (.int .i64 x0) ∧ Since w a) → Below a.heap.size a b → (b.cell? ⟨g, o, none⟩ = some (.int .i64 x0) ∧ Since w b)) := Lib.hid fun a b h k => ⟨(h.2.then k).cell hg c0, h.2.then k⟩
  have HS : Hid (w.cell? ⟨g, o, none⟩ = some (.int .i64 x0) ∧ Since w w) := Lib.hid ⟨c0, Below.refl _ _⟩
  go_enter Try.func22, Try.ntmps22
  go_wp2_with fail
  refine wp_region_noPanic ?_
  go_region_held3 (fun a => a.cell? ⟨g, o, none⟩ = some (.int .i64 x0) ∧ Since w a) (first | assumption | exact SD.out _ HS.out | exact SA.out _ _ HS.out (below_ad _ _))
    ((fail))
  all_goals (refine NoPanic.normal ?_)
  all_goals go_wp2
  all_goals go_ret
  all_goals exact ⟨_, _, rfl, HR.out, below_ad _ _⟩

set_option maxRecDepth 100000 in
set_option maxHeartbeats 4000000 in
theorem left_DEPTH (A : Option Addr) (n c : Nat) (d : Int) (w : World) :
    Calls Try.prog 22 #[.string ⟨#[68, 69, 80, 84, 72]⟩, .slice A n c, .int .i64 d] w fun e w' => ∃ B d', e = .returned (.slice B 1 d') ∧ Row w' B 1 d' [d] ∧ Below w.heap.size w w' := by
  have HR := Lib.hid (lit_row w [d] 1 rfl (by omega))
  go_enter Try.func22, Try.ntmps22
  go_wp2
  go_ret
  exact ⟨_, _, rfl, HR.out, below_one _ _⟩

theorem one_row_d (w : World) (x : Int) : Row (w.drew.alloc (.cells #[.int .i64 x] 3)) (some ⟨w.heap.size, 0, none⟩) 1 1 [x] := one_row w.drew x

set_option maxRecDepth 100000 in
set_option maxHeartbeats 8000000 in
theorem left_PICK (g o k c : Nat) (T : List Int) (x0 d : Int) (w : World) (hg : g < w.heap.size) (hk : k ≤ 65536) (hk0 : 0 < k) (hkc : (k : Int) ≤ (c : Int)) (hcm : (c : Int) ≤ 9223372036854775807) (c0 : w.cell? ⟨g, o, none⟩ = some (.int .i64 x0)) (HT : Hid (Row w (some ⟨g, o, none⟩) k c T)) :
    Calls Try.prog 22 #[.string ⟨#[80, 73, 67, 75]⟩, .slice (some ⟨g, o, none⟩) (k + 1) c, .int .i64 d] w fun e w' => ∃ B m d', e = .returned (.slice B m d') ∧ Row w' B m d' (T ++ [x0]) ∧ Below w.heap.size w w' := by
  have hk1 : (k : Int) < (k : Int) + 1 := by omega
  have hw : IntKind.i64.wrap (k : Int) = (k : Int) := IntWalk.i64_in _ (by omega)
  have SD : Hid (∀ a, (a.cell? ⟨g, o, none⟩ = some (.int .i64 x0) ∧ Since w a) → (a.drew.cell? ⟨g, o, none⟩ = some (.int .i64 x0) ∧ Since w a.drew)) := Lib.hid fun a h => ⟨h.1, h.2.drew⟩
  have SA : Hid (∀ a b, (a.cell? ⟨g, o, none⟩ = some (.int .i64 x0) ∧ Since w a) → Below a.heap.size a b → (b.cell? ⟨g, o, none⟩ = some (.int .i64 x0) ∧ Since w b)) := Lib.hid fun a b h k => ⟨(h.2.then k).cell hg c0, h.2.then k⟩
  have HS : Hid (w.cell? ⟨g, o, none⟩ = some (.int .i64 x0) ∧ Since w w) := Lib.hid ⟨c0, Below.refl _ _⟩
  go_enter Try.func22, Try.ntmps22
  go_wp2_with fail
  refine wp_region_noPanic ?_
  go_region_held3 (fun a => a.cell? ⟨g, o, none⟩ = some (.int .i64 x0) ∧ Since w a) (first | assumption | exact SD.out _ HS.out | exact SA.out _ _ HS.out (below_ad _ _) | exact SA.out _ _ HS.out (below_add _ _ _) | exact SA.out _ _ HS.out (below_then s5.2.bel (below_one _ _)))
    (first
      | (have s4 : (_ ∧ Since w _) := (by assumption); (refine step_app_g rfl _ _ rfl w.heap.size (.slice (some ⟨w.heap.size, 0, none⟩) 0 0) 0 [] rfl (none_owns w) (some ⟨g, o, none⟩) k c T rfl (HT.out.keep s4.2.bel) (by omega) s4.2.bel.size w s4.2.bel (Nat.le_refl _) ?_); intro v1 w1 ho b1 hgr; have s5 := SA.out w w1 HS.out b1; have HO := Lib.hid ho; clear ho b1 hgr s4)
      | (have s4 : (_ ∧ Since w _) := (by assumption); (refine step_app_g rfl _ _ rfl w.heap.size (.slice (some ⟨w.heap.size, 0, none⟩) 0 0) 0 [] rfl ((none_owns w).alloc _) (some ⟨g, o, none⟩) k c T rfl (HT.out.keep s4.2.bel) (by omega) s4.2.bel.size w s4.2.bel (Nat.le_refl _) ?_); intro v1 w1 ho b1 hgr; have s5 := SA.out w w1 HS.out b1; have HO := Lib.hid ho; have X1 := Lib.hid (Row.grown ((one_row2 w _ x0).keep (below_d _)) hgr (by simp [Value.ownBlock])); clear ho b1 hgr s4)
      | (have s4 : (_ ∧ Since w _) := (by assumption); (refine step_app_g rfl _ _ rfl w.heap.size (.slice (some ⟨w.heap.size + 1, 0, none⟩) 0 0) 0 [] rfl (none_owns2 w _) (some ⟨g, o, none⟩) k c T rfl (HT.out.keep s4.2.bel) (by omega) s4.2.bel.size w s4.2.bel (Nat.le_refl _) ?_); intro v1 w1 ho b1 hgr; have s5 := SA.out w w1 HS.out b1; have HO := Lib.hid ho; have X1 := Lib.hid (Row.grown ((one_row w x0).keep (below_ad _ _)) hgr (by simp [Value.ownBlock])); clear ho b1 hgr s4)
      | (refine step_app rfl _ _ rfl w.heap.size v1 (0 + k) ([] ++ T) rfl (HO.out.alloc _) (some ⟨w1.heap.size, 0, none⟩) 1 1 [x0] rfl (one_row w1 x0) (by omega) (by have := s5.2.bel.size; simp; omega) w (below_then s5.2.bel (below_one _ _)) (Nat.le_refl _) ?_; intro v2 w2 ho b2; have s6 := SA.out w w2 HS.out b2; (obtain ⟨B, d2, hv, hr⟩ := ho.row); have HO2 := Lib.hid hr; have HV := Lib.hid hv; clear ho hr hv b2)
      | (refine step_app rfl _ _ rfl w.heap.size v1 (0 + k) ([] ++ T) rfl HO.out (some ⟨w.heap.size + 1, 0, none⟩) 1 1 [x0] rfl X1.out (by omega) s5.2.bel.size w s5.2.bel (Nat.le_refl _) ?_; intro v2 w2 ho b2; have s6 := SA.out w w2 HS.out b2; (obtain ⟨B, d2, hv, hr⟩ := ho.row); have HO2 := Lib.hid hr; have HV := Lib.hid hv; clear ho hr hv b2)
      | (refine step_app rfl _ _ rfl w.heap.size v1 (0 + k) ([] ++ T) rfl HO.out (some ⟨w.heap.size, 0, none⟩) 1 1 [x0] rfl X1.out (by omega) s5.2.bel.size w s5.2.bel (Nat.le_refl _) ?_; intro v2 w2 ho b2; have s6 := SA.out w w2 HS.out b2; (obtain ⟨B, d2, hv, hr⟩ := ho.row); have HO2 := Lib.hid hr; have HV := Lib.hid hv; clear ho hr hv b2))
  all_goals (refine NoPanic.normal ?_)
  all_goals (have z := HV.out; subst z; clear HV)
  all_goals go_wp2
  all_goals go_ret
  all_goals exact ⟨_, _, _, rfl, by have z := HO2.out; rw [List.nil_append] at z; exact z, s6.2⟩

set_option maxRecDepth 100000 in
set_option maxHeartbeats 8000000 in
theorem left_ROLL (g o y c : Nat) (T : List Int) (x0 d : Int) (w : World) (hg : g < w.heap.size) (hk : y ≤ 65536) (hkc : (y : Int) + 1 ≤ (c : Int)) (hcm : (c : Int) ≤ 9223372036854775807) (hne : c ≠ 1) (c0 : w.cell? ⟨g, o, none⟩ = some (.int .i64 x0)) (HT : Hid (Row w (some ⟨g, o + 1, none⟩) y (c - 1) T)) :
    Calls Try.prog 22 #[.string ⟨#[82, 79, 76, 76]⟩, .slice (some ⟨g, o, none⟩) (y + 1 + 1) c, .int .i64 d] w fun e w' => ∃ B m d', e = .returned (.slice B m d') ∧ Row w' B m d' (T ++ [x0]) ∧ Below w.heap.size w w' := by
  have hk1 : (0 : Int) < (y : Int) + 1 + 1 := by omega
  have hk2 : (1 : Int) ≤ (y : Int) + 1 := by omega
  have hw : IntKind.i64.wrap ((y : Int) + 1) = (y : Int) + 1 := IntWalk.i64_in _ (by omega)
  have hsl : ∀ w, (Instr.slice 22 (.slice (some ⟨g, o, none⟩) (y + 1 + 1) c) (some (.int .i64 1)) (some (.int .i64 ((y : Int) + 1))) none).run Try.prog w = .ok (.slice (some ⟨g, o + 1, none⟩) y (c - 1)) w := fun w => by
    have hz : (sizeOf 3).run Try.prog w = .ok 1 w := by kernel_rfl
    have e1 : ((y : Int) + 1).toNat = y + 1 := by omega
    have e2 : (0 : Int) ≤ (y : Int) + 1 := by omega
    simp [Instr.slice, run_underlying Try.underlying22, Instr.sliceBounds, run_sliceBound, hz, hkc, hk2, e1, e2, hne, add_at]
  have SD : Hid (∀ a, (a.cell? ⟨g, o, none⟩ = some (.int .i64 x0) ∧ Since w a) → (a.drew.cell? ⟨g, o, none⟩ = some (.int .i64 x0) ∧ Since w a.drew)) := Lib.hid fun a h => ⟨h.1, h.2.drew⟩
  have SA : Hid (∀ a b, (a.cell? ⟨g, o, none⟩ = some (.int .i64 x0) ∧ Since w a) → Below a.heap.size a b → (b.cell? ⟨g, o, none⟩ = some (.int .i64 x0) ∧ Since w b)) := Lib.hid fun a b h k => ⟨(h.2.then k).cell hg c0, h.2.then k⟩
  have HS : Hid (w.cell? ⟨g, o, none⟩ = some (.int .i64 x0) ∧ Since w w) := Lib.hid ⟨c0, Below.refl _ _⟩
  go_enter Try.func22, Try.ntmps22
  go_wp2_with fail
  refine wp_region_noPanic ?_
  go_region_held3 (fun a => a.cell? ⟨g, o, none⟩ = some (.int .i64 x0) ∧ Since w a) (first | assumption | exact SD.out _ HS.out | exact SA.out _ _ HS.out (below_ad _ _) | exact SA.out _ _ HS.out (below_add _ _ _) | exact SA.out _ _ HS.out (below_then s5.2.bel (below_one _ _)))
    (first
      | (have s4 : (_ ∧ Since w _) := (by assumption); (refine step_app_g rfl _ _ rfl w.heap.size (.slice (some ⟨w.heap.size, 0, none⟩) 0 0) 0 [] rfl (none_owns w) (some ⟨g, o + 1, none⟩) y (c - 1) T rfl (HT.out.keep s4.2.bel) (by omega) s4.2.bel.size w s4.2.bel (Nat.le_refl _) ?_); intro v1 w1 ho b1 hgr; have s5 := SA.out w w1 HS.out b1; have HO := Lib.hid ho; clear ho b1 hgr s4)
      | (have s4 : (_ ∧ Since w _) := (by assumption); (refine step_app_g rfl _ _ rfl w.heap.size (.slice (some ⟨w.heap.size, 0, none⟩) 0 0) 0 [] rfl ((none_owns w).alloc _) (some ⟨g, o + 1, none⟩) y (c - 1) T rfl (HT.out.keep s4.2.bel) (by omega) s4.2.bel.size w s4.2.bel (Nat.le_refl _) ?_); intro v1 w1 ho b1 hgr; have s5 := SA.out w w1 HS.out b1; have HO := Lib.hid ho; have X1 := Lib.hid (Row.grown ((one_row2 w _ x0).keep (below_d _)) hgr (by simp [Value.ownBlock])); clear ho b1 hgr s4)
      | (have s4 : (_ ∧ Since w _) := (by assumption); (refine step_app_g rfl _ _ rfl w.heap.size (.slice (some ⟨w.heap.size + 1, 0, none⟩) 0 0) 0 [] rfl (none_owns2 w _) (some ⟨g, o + 1, none⟩) y (c - 1) T rfl (HT.out.keep s4.2.bel) (by omega) s4.2.bel.size w s4.2.bel (Nat.le_refl _) ?_); intro v1 w1 ho b1 hgr; have s5 := SA.out w w1 HS.out b1; have HO := Lib.hid ho; have X1 := Lib.hid (Row.grown ((one_row w x0).keep (below_ad _ _)) hgr (by simp [Value.ownBlock])); clear ho b1 hgr s4)
      | (refine step_app rfl _ _ rfl w.heap.size v1 (0 + y) ([] ++ T) rfl (HO.out.alloc _) (some ⟨w1.heap.size, 0, none⟩) 1 1 [x0] rfl (one_row w1 x0) (by omega) (by have := s5.2.bel.size; simp; omega) w (below_then s5.2.bel (below_one _ _)) (Nat.le_refl _) ?_; intro v2 w2 ho b2; have s6 := SA.out w w2 HS.out b2; (obtain ⟨B, d2, hv, hr⟩ := ho.row); have HO2 := Lib.hid hr; have HV := Lib.hid hv; clear ho hr hv b2)
      | (refine step_app rfl _ _ rfl w.heap.size v1 (0 + y) ([] ++ T) rfl HO.out (some ⟨w.heap.size + 1, 0, none⟩) 1 1 [x0] rfl X1.out (by omega) s5.2.bel.size w s5.2.bel (Nat.le_refl _) ?_; intro v2 w2 ho b2; have s6 := SA.out w w2 HS.out b2; (obtain ⟨B, d2, hv, hr⟩ := ho.row); have HO2 := Lib.hid hr; have HV := Lib.hid hv; clear ho hr hv b2)
      | (refine step_app rfl _ _ rfl w.heap.size v1 (0 + y) ([] ++ T) rfl HO.out (some ⟨w.heap.size, 0, none⟩) 1 1 [x0] rfl X1.out (by omega) s5.2.bel.size w s5.2.bel (Nat.le_refl _) ?_; intro v2 w2 ho b2; have s6 := SA.out w w2 HS.out b2; (obtain ⟨B, d2, hv, hr⟩ := ho.row); have HO2 := Lib.hid hr; have HV := Lib.hid hv; clear ho hr hv b2))
  all_goals (refine NoPanic.normal ?_)
  all_goals (have z := HV.out; subst z; clear HV)
  all_goals go_wp2
  all_goals go_ret
  all_goals exact ⟨_, _, _, rfl, by have z := HO2.out; rw [List.nil_append] at z; exact z, s6.2⟩
end Go.Proofs.Ytjeapcpicagobaa
