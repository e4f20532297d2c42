/- CellSides: rounded to 0 and rounded down are the same, if there is no rest, or dividend and divisor are on one side of 0; else the one is one more, and the rests are the divisor apart; for every three cells, with no condition. -/
import Derived.Test.YtadnajoefhajgaaShown
import Derived.ProofKit
import Derived.OpenShut
import Derived.ShutString
import Derived.ChangeOld
import Derived.Below
namespace Go.Proofs.Ytadnajoefhajgaa.cellSides
open Go.ChangeShapes Go.WideShapes Go.ChangeAt Go.RowKit
set_option linter.unusedVariables false

theorem own : ownKnob Try.prog.godebug = none := by kernel_rfl

theorem sides_zero (lo hi : Int) : fq lo hi 0 = 0 ∧ fr lo hi 0 = 0 ∧ fc lo hi 0 = -10 := by simp [fq, fr, fc, fok, sok]
theorem sides_no {lo hi d : Int} (h0 : d ≠ 0) (hk : sok lo hi d = false) : fq lo hi d = 0 ∧ fr lo hi d = 0 ∧ fc lo hi d = -11 := by simp [fq, fr, fc, fok, hk, h0]
theorem sides_flat {lo hi d : Int} (h0 : d ≠ 0) (hk : sok lo hi d = true) (hl : leans (sr lo hi d) d = false) : fq lo hi d = sq lo hi d ∧ fr lo hi d = sr lo hi d ∧ fc lo hi d = 0 := by simp [fq, fr, fc, fok, hk, h0, hl]
theorem sides_least {lo hi d : Int} (h0 : d ≠ 0) (hl : leans (sr lo hi d) d = true) (hm : sq lo hi d = -9223372036854775808) : fq lo hi d = 0 ∧ fr lo hi d = 0 ∧ fc lo hi d = -11 := by simp [fq, fr, fc, fok, h0, hl, hm]
theorem sides_down {lo hi d : Int} (h0 : d ≠ 0) (hk : sok lo hi d = true) (hl : leans (sr lo hi d) d = true) (hm : sq lo hi d ≠ -9223372036854775808) : fq lo hi d = sq lo hi d - 1 ∧ fr lo hi d = sr lo hi d + d ∧ fc lo hi d = 0 := by simp [fq, fr, fc, fok, hk, h0, hl, hm]
theorem sides_sign {lo hi d : Int} (h0 : d ≠ 0) (hk : sok lo hi d = true) : sr lo hi d = (pr lo hi).tmod d ∧ (sr lo hi d = 0 ∨ (sr lo hi d < 0 ∧ hi < 0) ∨ (0 < sr lo hi d ∧ 0 ≤ hi)) ∧ sc lo hi d = 0 := by
  have e : sr lo hi d = (pr lo hi).tmod d := by simp [sr, hk]
  refine ⟨e, ?_, by simp [sc, hk, h0]⟩
  obtain ⟨_, _, t3, t4⟩ := tfacts (pr lo hi) d h0
  rw [e]
  by_cases h : hi < 0
  · have := t4 (by have := pr_neg lo hi h; omega)
    omega
  · have := t3 (pr_nonneg lo hi (by omega))
    omega

set_option maxRecDepth 100000 in
set_option maxHeartbeats 4000000 in
theorem core (lo hi d x y c x' y' c' : Int) (w : World)
    (CS : Hid (∀ w, Calls Try.prog 27 #[.int .i64 lo, .int .i64 hi, .int .i64 d] w fun e w' => e = .returned (.tuple #[.int .i64 x, .int .i64 y, .int .i64 c]) ∧ Below w.heap.size w w'))
    (CF : Hid (∀ w, Calls Try.prog 29 #[.int .i64 lo, .int .i64 hi, .int .i64 d] w fun e w' => e = .returned (.tuple #[.int .i64 x', .int .i64 y', .int .i64 c']) ∧ Below w.heap.size w w'))
    (hc : (d = 0 ∧ c = -10 ∧ c' = -10) ∨ (d ≠ 0 ∧ c = -11 ∧ c' = -11 ∧ x = 0 ∧ y = 0 ∧ x' = 0 ∧ y' = 0) ∨
      (d ≠ 0 ∧ c = 0 ∧ c' = 0 ∧ x' = x ∧ y' = y ∧ (y = 0 ∨ ((decide (hi < 0) == decide (d < 0)) = true ∧ y ≠ 0))) ∨
      (d ≠ 0 ∧ c = 0 ∧ c' = -11 ∧ x = -9223372036854775808 ∧ y ≠ 0 ∧ (decide (hi < 0) == decide (d < 0)) = false ∧ (decide (y < 0) == decide (hi < 0)) = true) ∨
      (d ≠ 0 ∧ c = 0 ∧ c' = 0 ∧ x' = x - 1 ∧ y' = y + d ∧ -9223372036854775808 ≤ x - 1 ∧ x ≤ 9223372036854775807 ∧ -9223372036854775808 ≤ y + d ∧ y + d ≤ 9223372036854775807 ∧ y ≠ 0 ∧ (decide (hi < 0) == decide (d < 0)) = false ∧ (decide (y < 0) == decide (hi < 0)) = true)) :
    Calls Try.prog 9 #[.int .i64 lo, .int .i64 hi, .int .i64 d] w fun e w' => e = .returned (.bool true) ∧ Below w.heap.size w w' := by
  rcases hc with ⟨rfl, rfl, rfl⟩ | ⟨h0, rfl, rfl, rfl, rfl, rfl, rfl⟩ | ⟨h0, rfl, rfl, rfl, rfl, hy⟩ | ⟨h0, rfl, rfl, rfl, hy, hs, hr⟩ | ⟨h0, rfl, rfl, rfl, rfl, m1, m2, m3, m4, hy, hs, hr⟩
  · go_enter Try.func9, Try.ntmps9
    go_wp2_with (first | (go_at_call 12; refine (shown_any _).mono ?_; rintro e w1 ⟨rfl, b1⟩) | (go_at_call 27; refine (CS.out _).mono ?_; rintro e w2 ⟨rfl, b2⟩) | (go_at_call 29; refine (CF.out _).mono ?_; rintro e w3 ⟨rfl, b3⟩))
    go_ret
    exact ⟨rfl, below_then (below_then b1 b2) b3⟩
  · have z0 : (d == 0) = false := by simpa using h0
    go_enter Try.func9, Try.ntmps9
    go_wp2_with (first | (go_at_call 12; refine (shown_any _).mono ?_; rintro e w1 ⟨rfl, b1⟩) | (go_at_call 27; refine (CS.out _).mono ?_; rintro e w2 ⟨rfl, b2⟩) | (go_at_call 29; refine (CF.out _).mono ?_; rintro e w3 ⟨rfl, b3⟩))
    go_ret
    exact ⟨rfl, below_then (below_then b1 b2) b3⟩
  · have z0 : (d == 0) = false := by simpa using h0
    rcases hy with rfl | ⟨hs, hy⟩
    · go_enter Try.func9, Try.ntmps9
      go_wp2_with (first | (go_at_call 12; refine (shown_any _).mono ?_; rintro e w1 ⟨rfl, b1⟩) | (go_at_call 27; refine (CS.out _).mono ?_; rintro e w2 ⟨rfl, b2⟩) | (go_at_call 29; refine (CF.out _).mono ?_; rintro e w3 ⟨rfl, b3⟩))
      go_ret
      exact ⟨rfl, below_then (below_then b1 b2) b3⟩
    · have z1 : (y' == 0) = false := by simpa using hy
      go_enter Try.func9, Try.ntmps9
      go_wp2_with (first | (go_at_call 12; refine (shown_any _).mono ?_; rintro e w1 ⟨rfl, b1⟩) | (go_at_call 27; refine (CS.out _).mono ?_; rintro e w2 ⟨rfl, b2⟩) | (go_at_call 29; refine (CF.out _).mono ?_; rintro e w3 ⟨rfl, b3⟩))
      go_ret
      exact ⟨rfl, below_then (below_then b1 b2) b3⟩
  · have z0 : (d == 0) = false := by simpa using h0
    have z1 : (y == 0) = false := by simpa using hy
    go_enter Try.func9, Try.ntmps9
    go_wp2_with (first | (go_at_call 12; refine (shown_any _).mono ?_; rintro e w1 ⟨rfl, b1⟩) | (go_at_call 27; refine (CS.out _).mono ?_; rintro e w2 ⟨rfl, b2⟩) | (go_at_call 29; refine (CF.out _).mono ?_; rintro e w3 ⟨rfl, b3⟩))
    go_ret
    exact ⟨rfl, below_then (below_then b1 b2) b3⟩
  · have z0 : (d == 0) = false := by simpa using h0
    have z1 : (y == 0) = false := by simpa using hy
    go_enter Try.func9, Try.ntmps9
    go_wp2_with (first | (go_at_call 12; refine (shown_any _).mono ?_; rintro e w1 ⟨rfl, b1⟩) | (go_at_call 27; refine (CS.out _).mono ?_; rintro e w2 ⟨rfl, b2⟩) | (go_at_call 29; refine (CF.out _).mono ?_; rintro e w3 ⟨rfl, b3⟩))
    go_ret
    exact ⟨rfl, below_then (below_then b1 b2) b3⟩

theorem walk (lo hi d : Int) (w : World) (_ : cellR lo) (hh : cellR hi) (hd : cellR d) :
    Calls Try.prog 9 #[.int .i64 lo, .int .i64 hi, .int .i64 d] w fun e w' => e = .returned (.bool true) ∧ Below w.heap.size w w' := by
  refine core lo hi d _ _ _ _ _ _ w (Lib.hid fun w => sdiv_any lo hi d w hh hd) (Lib.hid fun w => fdiv_any lo hi d w hh hd) ?_
  by_cases h0 : d = 0
  · subst h0
    exact Or.inl ⟨rfl, (sdiv_zero lo hi).2.2.symm, (sides_zero lo hi).2.2⟩
  · refine Or.inr ?_
    cases hk : sok lo hi d
    · obtain ⟨f1, f2, f3⟩ := sides_no h0 hk
      obtain ⟨s1, s2, s3⟩ := sdiv_no h0 hk
      exact Or.inl ⟨h0, s3.symm, f3, s1.symm, s2.symm, f1, f2⟩
    · refine Or.inr ?_
      obtain ⟨e, hs, hc⟩ := sides_sign h0 hk
      obtain ⟨_, hx⟩ := sok_cell hk
      cases hl : leans (sr lo hi d) d
      · obtain ⟨f1, f2, f3⟩ := sides_flat h0 hk hl
        refine Or.inl ⟨h0, hc, f3, f1, f2, ?_⟩
        by_cases hy : sr lo hi d = 0
        · exact Or.inl hy
        · refine Or.inr ⟨?_, hy⟩
          have := leans_false hl
          by_cases a1 : hi < 0 <;> by_cases a2 : d < 0 <;> simp [a1, a2] <;> omega
      · have hl' := leans_true hl
        have hy : sr lo hi d ≠ 0 := by omega
        have k1 : (decide (hi < 0) == decide (d < 0)) = false := by
          by_cases a1 : hi < 0 <;> by_cases a2 : d < 0 <;> simp [a1, a2] <;> omega
        have k2 : (decide (sr lo hi d < 0) == decide (hi < 0)) = true := by
          by_cases a1 : hi < 0 <;> by_cases a2 : sr lo hi d < 0 <;> simp [a1, a2] <;> omega
        refine Or.inr ?_
        by_cases hm : sq lo hi d = -9223372036854775808
        · obtain ⟨f1, f2, f3⟩ := sides_least h0 hl hm
          exact Or.inl ⟨h0, hc, f3, hm, hy, k1, k2⟩
        · obtain ⟨f1, f2, f3⟩ := sides_down h0 hk hl hm
          have hs' := leans_sum (pr lo hi) d h0 hd (by rw [← e]; exact hl)
          rw [← e] at hs'
          unfold cellR at hs' hx
          exact Or.inr ⟨h0, hc, f3, f1, f2, by omega, hx.2, hs'.1, hs'.2, hy, k1, k2⟩

set_option maxRecDepth 100000 in
theorem lifted (os : Os) (started : os.Started) (H : Type) (enc : TypeId × Value → H) :
    ReturnsInHanded {} Try.checked os 9 .any (Rows.cellSidesSpec.pre6 enc Try.prog Try.f9 Rows.cellSidesRow.domain false) (Rows.cellSidesSpec.post enc Try.prog Try.f9 false true false false) := by
  refine returnsInHanded_of_change (C := Try.checked) own started (by kernel_rfl) Try.func9
    (ChangeSpec.witness6 (enc := enc) (C := Try.checked) false ⟨#[], #[.int .i64 0, .int .i64 0, .int .i64 0], []⟩ 8 (by kernel_rfl) (by kernel_rfl) (by kernel_rfl) (by kernel_rfl)) ?_
  intro W base args ds gs before hval0 hW hcnd _
  have hval : ∀ (j : Nat) t v, Try.f9.params[j]? = some t → args[j]? = some v → Value.okWide Try.prog W .any base t v := hval0
  have hW' := hW
  obtain ⟨p, q, hA0, hV, rfl, hfz, hnd⟩ := hW
  have hA : DataW.TrodAll enc Try.prog W 0 (fun _ => true) true Try.f9.params.toList args.toList ds p := hA0
  rw [Try.params9] at hA hval
  obtain ⟨v0, vs0, d0, ds0, p0, q0, hargs, rfl, rfl, h0, r0⟩ := trodAll_cons hA
  obtain ⟨v1, vs1, d1, ds1, p1, q1, rfl, rfl, rfl, h1, r1⟩ := trodAll_cons r0
  obtain ⟨v2, vs2, d2, ds2, p2, q2, rfl, rfl, rfl, h2, r2⟩ := trodAll_cons r1
  obtain ⟨rfl, rfl, rfl⟩ := trodAll_nil r2
  obtain rfl : args = #[v0, v1, v2] := by cases args; simp_all
  obtain ⟨rfl, rfl⟩ := trodVars_none hV
  obtain ⟨a0, rfl, rfl, rfl, w0⟩ := open_int Try.underlying3 (hval 0 3 v0 rfl rfl) h0
  obtain ⟨a1, rfl, rfl, rfl, w1⟩ := open_int Try.underlying3 (hval 1 3 v1 rfl rfl) h1
  obtain ⟨a2, rfl, rfl, rfl, w2⟩ := open_int Try.underlying3 (hval 2 3 v2 rfl rfl) h2
  clear hA0 hval0
  refine (walk a0 a1 a2 W (cellR_of w0) (cellR_of w1) (cellR_of w2)).mono fun e W' ⟨he, bel⟩ => ?_
  subst he
  exact ⟨_, rfl, _, _, _, [], _, [], hW', trodAll_mk1 (shut_bool Try.underlying4 _), (trodAll_cons_mk (shut_int Try.underlying3 w0) (trodAll_cons_mk (shut_int Try.underlying3 w1) (trodAll_cons_mk (shut_int Try.underlying3 w2) trodAll_mk0))), rfl, bel.frame _, fun h => by cases h⟩

theorem over : Rows.cellSidesRow.holds Try.pinned (OpenSpec.ofChange Rows.cellSidesSpec) :=
  OpenClaim.holds_of_wide 9 Try.f9 rfl rfl rfl rfl rfl rfl rfl ⟨rfl, rfl, rfl, rfl, rfl⟩ rfl rfl rfl rfl rfl (by kernel_rfl) Try.func9 (by kernel_rfl)
    (of_decide_eq_true (by kernel_rfl)) (by unfold Func.isWrapper; first | (rw [if_pos (by decide +kernel)]; kernel_rfl) | (rw [if_neg (by decide +kernel)]; exact ⟨rfl, rfl⟩))
    (fun os started H enc _ => lifted os started H enc)

theorem proved : Rows.CellSidesSaid := over
#print axioms proved
end Go.Proofs.Ytadnajoefhajgaa.cellSides
