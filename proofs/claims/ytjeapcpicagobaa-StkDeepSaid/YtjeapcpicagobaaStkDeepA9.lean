/- A walk of StkDeep. -/
import Derived.Test.YtjeapcpicagobaaStkDeepM
import Derived.Deep.RegionHeld3
namespace Go.Proofs.Ytjeapcpicagobaa
open Go.RowKit
set_option linter.unusedVariables false
set_option linter.unusedSimpArgs false

set_option maxRecDepth 100000 in
set_option maxHeartbeats 16000000 in
theorem deep_more (A : Option Addr) (N c k : Nat) (p : Nat) (l : List Int) (j : Nat) (x : Int) (w0 : World) (hn : N ≤ 59) (h3 : 2 ≤ N) (hk : (k : Int) ≤ 255) (he : (k : Int) % ((N : Int) + 1) = (j : Int)) (hj3 : 3 ≤ j) (hpj : p + j = N) (HL : Hid (l.length = p + j + 1)) (HX : Hid (l.getD p 0 = x)) (S0 : Hid (Row w0 A (N + 1) c l)) :
    Calls Try.prog 6 #[.slice A (N + 1) c, .int .u8 (k : Int)] w0 fun e w' => e = .returned (.bool true) ∧ Below w0.heap.size w0 w' := by
  have q1 : decide ((60 : Int) < (N : Int) + 1) = false := by simp; omega
  have q2 : decide (60 < N + 1) = false := by simp; omega
  have q3 : decide ((N : Int) + 1 < 3) = false := by simp; omega
  have q4 : decide (N + 1 < 3) = false := by simp; omega
  have q5 : ((N : Int) + 1 == 0) = false := by simp; omega
  have hp : (N : Int) - (j : Int) = (p : Int) := by omega
  have q6 : decide ((j : Int) < 3) = false := by simp; omega
  have q7 : decide (j < 3) = false := by simp; omega
  have HPJ := Lib.hid hpj
  go_enter Try.func6, Try.ntmps6
  go_wp2_with fail
  refine (shown_any _).mono ?_
  rintro e w1 ⟨rfl, bb⟩
  have B1 := Lib.hid bb
  have S1 := Lib.hid (S0.out.keep bb)
  clear bb S0
  have tok1 : True := trivial
  go_wp2_with (first
    | (at_builtin; have _t := tok1; (refine wpList_app rfl _ _ rfl w1.heap.size (.slice (some ⟨w1.heap.size, 0, none⟩) 0 0) 0 [] rfl (none_owns w1) A (N + 1) c l rfl (S1.out.keep (below_one _ _)) (by omega) (by simp) w1 (below_one _ _) (Nat.le_refl _) ?_; intro va1 wqa ho b1; have HO := Lib.hid ho; have HB := Lib.hid b1; clear ho b1 tok1))
    | (at_builtin; (refine wpList_app rfl _ _ rfl w1.heap.size va1 (0 + (N + 1)) ([] ++ l) rfl (HO.out.alloc _) (some ⟨wqa.heap.size, 0, none⟩) 1 1 [(j : Int)] rfl (one_row wqa (j : Int)) (by omega) (by have := HB.out.size; simp; omega) w1 (below_then HB.out (below_one _ _)) (Nat.le_refl _) ?_; intro va2 w2 ho bb; rw [show 0 + (N + 1) + 1 = N + 2 by omega] at ho; (obtain ⟨Qa, yqa, rfl, hr⟩ := ho.row); have Q2 := Lib.hid hr; have B2 := Lib.hid (below_then B1.out bb); have S2 := Lib.hid (S1.out.keep bb); clear ho hr bb HO HB B1 S1)))
  skip
  refine (sh_out Qa (N + 2) yqa _ ([] ++ l ++ [(j : Int)]) (l ++ [x]) 1000 (N + 2) _ (by omega) Q2 (Lib.hid (by rw [kind_PICK]; exact deep_pick (p := p) (j := j) HL.out HX.out)) (Lib.hid (by have h := HL.out; have h2 := HPJ.out; have h3 : [x].length = 1 := rfl; show _ = _; rw [List.length_append, h]; omega)) (by omega)).mono ?_
  rintro e w3 ⟨X1, y1, rfl, hr, bb⟩
  have B3 := Lib.hid (below_then B2.out bb)
  have S3 := Lib.hid (S2.out.keep bb)
  have Q3 := Lib.hid (Q2.out.keep bb)
  have a3 := Lib.hid hr
  clear bb B2 S2 Q2 hr
  clear Q3
  have tok1 : True := trivial
  go_wp2_with (first
    | (at_builtin; have _t := tok1; (refine wpList_app rfl _ _ rfl w3.heap.size (.slice (some ⟨w3.heap.size, 0, none⟩) 0 0) 0 [] rfl (none_owns w3) A (N + 1) c l rfl (S3.out.keep (below_one _ _)) (by omega) (by simp) w3 (below_one _ _) (Nat.le_refl _) ?_; intro vb1 wqb ho b1; have HO := Lib.hid ho; have HB := Lib.hid b1; clear ho b1 tok1))
    | (at_builtin; (refine wpList_app rfl _ _ rfl w3.heap.size vb1 (0 + (N + 1)) ([] ++ l) rfl (HO.out.alloc _) (some ⟨wqb.heap.size, 0, none⟩) 1 1 [(j : Int)] rfl (one_row wqb (j : Int)) (by omega) (by have := HB.out.size; simp; omega) w3 (below_then HB.out (below_one _ _)) (Nat.le_refl _) ?_; intro vb2 w4 ho bb; rw [show 0 + (N + 1) + 1 = N + 2 by omega] at ho; (obtain ⟨Qb, yqb, rfl, hr⟩ := ho.row); have Q4 := Lib.hid hr; have B4 := Lib.hid (below_then B3.out bb); have S4 := Lib.hid (S3.out.keep bb); have a4 := Lib.hid (a3.out.keep bb); clear ho hr bb HO HB B3 S3 a3)))
  skip
  refine (sh_out Qb (N + 2) yqb _ ([] ++ l ++ [(j : Int)]) (rollL l p x) 1000 (N + 1) _ (by omega) Q4 (Lib.hid (by rw [kind_ROLL]; exact deep_roll (p := p) (j := j) HL.out HX.out)) (Lib.hid (by have h := rollL_len (p := p) (j := j) (x := x) HL.out; have h2 := HPJ.out; show _ = _; exact h.trans (by omega))) (by omega)).mono ?_
  rintro e w5 ⟨X2, y2, rfl, hr, bb⟩
  have B5 := Lib.hid (below_then B4.out bb)
  have S5 := Lib.hid (S4.out.keep bb)
  have a5 := Lib.hid (a4.out.keep bb)
  have Q5 := Lib.hid (Q4.out.keep bb)
  have b5 := Lib.hid hr
  clear bb B4 S4 a4 Q4 hr
  clear Q5
  obtain ⟨ga, oa, hXa, hga, hca⟩ := a5.out.cells (by omega)
  obtain ⟨gb, ob, hXb, hgb, hcb⟩ := b5.out.cells (by omega)
  obtain ⟨gs, os, hXs, hgs, hcs⟩ := S5.out.cells (by omega)
  have ka := hca (N + 1) (by omega)
  have kb := hcb N (by omega)
  have ks := hcs p (by omega)
  rw [show (l ++ [x]).getD (N + 1) 0 = x by have z := getD_app l [x] 0; have h := HL.out; have h2 := HPJ.out; rw [show N + 1 = l.length + 0 by omega]; exact z] at ka
  rw [show (rollL l p x).getD N 0 = x by have z := rollL_top (p := p) (j := j) (x := x) HL.out; have h2 := HPJ.out; rwa [h2] at z] at kb
  rw [HX.out] at ks
  have ya := a5.out.2.1
  have ya2 := a5.out.2.2.1
  have yb := b5.out.2.1
  have yb2 := b5.out.2.2.1
  have yc := S5.out.2.1
  have yc2 := S5.out.2.2.1
  unfold maxLen at ya2 yb2 yc2
  have T0 := Lib.hid S5.out
  have T1 : Hid (Row w5 X1 (N + 1) y1 l) := by
    have z := a5.out.high (k := N + 1) (by omega)
    rwa [show (l ++ [x]).take (N + 1) = l by have h := HL.out; have h2 := HPJ.out; rw [List.take_append_of_le_length (by omega), List.take_of_length_le (by omega)]] at z
  have T2 : Hid (Row w5 X2 p y2 (l.take p)) := by
    have z := b5.out.high (k := p) (by omega)
    rwa [rollL_low (p := p) (j := j) HL.out] at z
  have T3 : Hid (Row w5 A p c (l.take p)) := S5.out.high (by omega)
  have T4 : Hid (Row w5 (restAt X2 p y2) j (y2 - p) (l.drop (p + 1))) := by
    have z := (b5.out.rest (k := p) (by omega)).high (k := j) (by omega)
    rwa [rollL_mid (p := p) (j := j) HL.out] at z
  have T5 : Hid (Row w5 (restAt A (p + 1) c) j (c - (p + 1)) (l.drop (p + 1))) := by
    have z := S5.out.rest (k := p + 1) (by omega)
    rwa [show N + 1 - (p + 1) = j by omega] at z
  have hs1 : ∀ w, (Instr.slice 22 (.slice X2 (N + 1) y2) (some (.int .i64 (p : Int))) (some (.int .i64 (N : Int))) none).run Try.prog w = .ok (.slice (restAt X2 p y2) j (y2 - p)) w := fun w => run_mid w hXb hpj (by omega)
  have hs2 : ∀ w, (Instr.slice 22 (.slice A (N + 1) c) (some (.int .i64 ((p : Int) + 1))) none none).run Try.prog w = .ok (.slice (restAt A (p + 1) c) j (c - (p + 1))) w := fun w => by
    have z := run_rest (A := A) (c := c) w (show p + 1 ≤ N + 1 by omega)
    rwa [show N + 1 - (p + 1) = j by omega] at z
  obtain ⟨Z4, hZ4⟩ : ∃ Z, restAt X2 p y2 = Z := ⟨_, rfl⟩
  obtain ⟨z4, hz4⟩ : ∃ z, y2 - p = z := ⟨_, rfl⟩
  obtain ⟨Z5, hZ5⟩ : ∃ Z, restAt A (p + 1) c = Z := ⟨_, rfl⟩
  obtain ⟨z5, hz5⟩ : ∃ z, c - (p + 1) = z := ⟨_, rfl⟩
  rw [hZ4, hz4] at T4 hs1
  rw [hZ5, hz5] at T5 hs2
  clear hZ4 hz4 hZ5 hz5
  have g1 : N + 1 ≤ 50000 := by omega
  have g2 : p ≤ 50000 := by omega
  have g3 : j ≤ 50000 := by omega
  have f1 : (N : Int) + 1 ≤ (y1 : Int) := by omega
  have f2 : (p : Int) ≤ (y2 : Int) := by omega
  have f3 : (p : Int) ≤ (c : Int) := by omega
  have f4 : (N : Int) + 1 < (N : Int) + 2 := by omega
  have f5 : (p : Int) < (N : Int) + 1 := by omega
  have f6 : (N : Int) < (N : Int) + 1 := by omega
  have f7 : IntKind.i64.wrap (N : Int) = (N : Int) := IntWalk.i64_in _ (by omega)
  have f8 : IntKind.i64.wrap ((p : Int) + 1) = (p : Int) + 1 := IntWalk.i64_in _ (by omega)
  have f9 : (0 : Int) ≤ (p : Int) + 1 := by omega
  have f10 : (0 : Int) ≤ (N : Int) + 1 := by omega
  have f11 : ((N : Int) + 1).toNat = N + 1 := by omega
  have SD : Hid (∀ u1, (u1.cell? ⟨ga, oa + (N + 1), none⟩ = some (.int .i64 x) ∧ u1.cell? ⟨gb, ob + N, none⟩ = some (.int .i64 x) ∧ u1.cell? ⟨gs, os + p, none⟩ = some (.int .i64 x) ∧ Since w5 u1) → (u1.drew.cell? ⟨ga, oa + (N + 1), none⟩ = some (.int .i64 x) ∧ u1.drew.cell? ⟨gb, ob + N, none⟩ = some (.int .i64 x) ∧ u1.drew.cell? ⟨gs, os + p, none⟩ = some (.int .i64 x) ∧ Since w5 u1.drew)) := Lib.hid fun u1 h => ⟨h.1, h.2.1, h.2.2.1, h.2.2.2.drew⟩
  have SA : Hid (∀ u1 u2, (u1.cell? ⟨ga, oa + (N + 1), none⟩ = some (.int .i64 x) ∧ u1.cell? ⟨gb, ob + N, none⟩ = some (.int .i64 x) ∧ u1.cell? ⟨gs, os + p, none⟩ = some (.int .i64 x) ∧ Since w5 u1) → Below u1.heap.size u1 u2 → (u2.cell? ⟨ga, oa + (N + 1), none⟩ = some (.int .i64 x) ∧ u2.cell? ⟨gb, ob + N, none⟩ = some (.int .i64 x) ∧ u2.cell? ⟨gs, os + p, none⟩ = some (.int .i64 x) ∧ Since w5 u2)) := Lib.hid fun u1 u2 h k => ⟨(h.2.2.2.then k).cell hga ka, (h.2.2.2.then k).cell hgb kb, (h.2.2.2.then k).cell hgs ks, h.2.2.2.then k⟩
  have HS : Hid (w5.cell? ⟨ga, oa + (N + 1), none⟩ = some (.int .i64 x) ∧ w5.cell? ⟨gb, ob + N, none⟩ = some (.int .i64 x) ∧ w5.cell? ⟨gs, os + p, none⟩ = some (.int .i64 x) ∧ Since w5 w5) := Lib.hid ⟨ka, kb, ks, Below.refl _ _⟩
  subst hXa hXb hXs
  clear hca hcb hcs ka kb ks hga hgb hgs ya ya2 yb yb2 yc yc2 a5 b5 S5
  go_wp2_with fail
  refine wp_region_noPanic ?_
  go_region_held3 (fun u1 => u1.cell? ⟨ga, oa + (N + 1), none⟩ = some (.int .i64 x) ∧ u1.cell? ⟨gb, ob + N, none⟩ = some (.int .i64 x) ∧ u1.cell? ⟨gs, os + p, none⟩ = some (.int .i64 x) ∧ Since w5 u1) (first | assumption | exact SD.out _ HS.out | exact SD.out _ (SA.out _ _ HS.out (below_one _ _)))
    (first
      | (go_at_call 13; have s4 : (_ ∧ _ ∧ _ ∧ Since w5 _) := (by assumption); first
        | ((with_reducible refine (same_true _ _ (N + 1) y1 (N + 1) c _ _ _ g1 g1 (Lib.hid (T1.out.keep s4.2.2.2.bel)) (Lib.hid (T0.out.keep s4.2.2.2.bel)) (Lib.hid rfl)).mono ?_); rintro e wz ⟨rfl, b5⟩; have s5 := SA.out _ _ s4 b5; clear s4)
        | ((with_reducible refine (same_true _ _ p y2 p c _ _ _ g2 g2 (Lib.hid (T2.out.keep s4.2.2.2.bel)) (Lib.hid (T3.out.keep s4.2.2.2.bel)) (Lib.hid rfl)).mono ?_); rintro e wz ⟨rfl, b5⟩; have s5 := SA.out _ _ s4 b5; clear s4)
        | ((with_reducible refine (same_true _ _ j z4 j z5 _ _ _ g3 g3 (Lib.hid (T4.out.keep s4.2.2.2.bel)) (Lib.hid (T5.out.keep s4.2.2.2.bel)) (Lib.hid rfl)).mono ?_); rintro e wz ⟨rfl, b5⟩; have s5 := SA.out _ _ s4 b5; clear s4)))
  all_goals (refine NoPanic.normal ?_)
  all_goals go_wp2
  all_goals go_ret
  all_goals exact ⟨rfl, below_then B5.out s5.2.2.2⟩
end Go.Proofs.Ytjeapcpicagobaa
