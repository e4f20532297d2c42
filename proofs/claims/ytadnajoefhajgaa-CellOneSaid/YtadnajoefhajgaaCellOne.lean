/- CellOne: a pair of one cell, and its sign, is divided as the cell itself; by 1 it is it; by -1 it is its other one; for every two cells, with no condition. -/
import Derived.Test.YtadnajoefhajgaaShown
import Derived.ProofKit
import Derived.OpenShut
import Derived.ShutString
import Derived.ChangeOld
import Derived.Below
namespace Go.Proofs.Ytadnajoefhajgaa.cellOne
open Go.ChangeShapes Go.WideShapes Go.ChangeAt Go.RowKit
set_option linter.unusedVariables false

theorem own : ownKnob Try.prog.godebug = none := by kernel_rfl

theorem one_pair (n hi : Int) (hn : cellR n) (h : (n < 0 ∧ hi = -1) ∨ (¬ n < 0 ∧ hi = 0)) : pr n hi = n := by
  unfold pr
  rcases h with ⟨h1, rfl⟩ | ⟨h1, rfl⟩
  · have := un_neg hn h1; omega
  · have := un_pos hn (by omega); omega
theorem one_by1 (n hi : Int) (hn : cellR n) (e : pr n hi = n) : sq n hi 1 = n ∧ sr n hi 1 = 0 ∧ sc n hi 1 = 0 := by
  have hk : sok n hi 1 = true := by
    unfold sok; rw [e, Int.tdiv_one]; unfold cellR at hn; simp; omega
  refine ⟨?_, ?_, ?_⟩
  · simp [sq, hk, e]
  · simp [sr, hk, e, Int.tmod_one]
  · simp [sc, hk]
theorem one_neg (n : Int) : n.tdiv (-1) = -n ∧ n.tmod (-1) = 0 := by
  refine ⟨by rw [Int.tdiv_neg, Int.tdiv_one], ?_⟩
  rw [Int.tmod_neg, Int.tmod_one]
theorem one_bym (n hi : Int) (hn : cellR n) (e : pr n hi = n) :
    (n ≠ -9223372036854775808 → sq n hi (-1) = -n ∧ sr n hi (-1) = 0 ∧ sc n hi (-1) = 0) ∧ (n = -9223372036854775808 → sq n hi (-1) = 0 ∧ sr n hi (-1) = 0 ∧ sc n hi (-1) = -11) := by
  obtain ⟨t1, t2⟩ := one_neg n
  unfold cellR at hn
  constructor
  · intro hm
    have hk : sok n hi (-1) = true := by unfold sok; rw [e, t1]; simp; omega
    exact ⟨by simp [sq, hk, e, t1], by simp [sr, hk, e, t2], by simp [sc, hk]⟩
  · intro hm
    have hk : sok n hi (-1) = false := by unfold sok; rw [e, t1]; simp; omega
    exact ⟨by simp [sq, hk], by simp [sr, hk], by simp [sc, hk]⟩

theorem quo_small (n d : Int) (hn : cellR n) (hd : d ≠ 0) (hm : ¬ (n = -9223372036854775808 ∧ d = -1)) : cellR (n.tdiv d) := by
  have e := tdiv_sign n d
  have hle : n.natAbs / d.natAbs ≤ n.natAbs := Nat.div_le_self _ _
  have hone : d.natAbs = 1 ∨ 2 ≤ d.natAbs := by omega
  unfold cellR at *
  rcases hone with h1 | h2
  · rw [h1, Nat.div_one] at e hle
    by_cases a1 : n < 0 <;> by_cases a2 : d < 0 <;> simp [a1, a2] at e <;> omega
  · have : n.natAbs / d.natAbs ≤ n.natAbs / 2 := Nat.div_le_div_left h2 (by omega)
    generalize n.natAbs / d.natAbs = k at *
    split at e <;> omega
theorem quo_lean (n d : Int) (hn : cellR n) (hd : d ≠ 0) (hl : leans (n.tmod d) d = true) : -9223372036854775808 < n.tdiv d ∧ n.tdiv d ≤ 9223372036854775807 := by
  obtain ⟨_, t2, _, _⟩ := tfacts n d hd
  have hl' := leans_true hl
  have h2 : 2 ≤ d.natAbs := by omega
  have e := tdiv_sign n d
  have : n.natAbs / d.natAbs ≤ n.natAbs / 2 := Nat.div_le_div_left h2 (by omega)
  unfold cellR at hn
  generalize n.natAbs / d.natAbs = k at *
  split at e <;> omega

theorem one_same (n hi d : Int) (hn : cellR n) (hd : d ≠ 0) (e : pr n hi = n) (hm : ¬ (n = -9223372036854775808 ∧ d = -1)) :
    fq n hi d = dq n d ∧ fr n hi d = dr n d ∧ fc n hi d = 0 ∧ dc d = 0 := by
  have hc := quo_small n d hn hd hm
  have hk : sok n hi d = true := by
    unfold sok; rw [e]; unfold cellR at hc; simp [hd]; omega
  have q1 : sq n hi d = n.tdiv d := by simp [sq, hk, e]
  have q2 : sr n hi d = n.tmod d := by simp [sr, hk, e]
  have w1 : wrap64 (n.tdiv d) = n.tdiv d := wrap_in hc
  cases hl : leans (n.tmod d) d
  · refine ⟨?_, ?_, ?_, by simp [dc, hd]⟩
    · simp [fq, fok, hk, q1, q2, hl, dq, hd, w1]
    · simp [fr, fok, hk, q2, hl, dr, hd]
    · simp [fc, fok, hk, q2, hl, hd]
  · have h3 := quo_lean n d hn hd hl
    have hne : n.tdiv d ≠ -9223372036854775808 := by omega
    have w2 : wrap64 (n.tdiv d - 1) = n.tdiv d - 1 := wrap_in (by unfold cellR; omega)
    refine ⟨?_, ?_, ?_, by simp [dc, hd]⟩
    · simp [fq, fok, hk, q1, q2, hl, dq, hd, w1, w2, hne]
    · simp [fr, fok, hk, q1, q2, hl, dr, hd, hne]
    · simp [fc, fok, hk, q1, q2, hl, hd, hne]

set_option maxRecDepth 100000 in
set_option maxHeartbeats 4000000 in
theorem core (n hi d q r e q' r' f h i : Int) (w : World) (hs : (n < 0 ∧ hi = -1) ∨ (¬ n < 0 ∧ hi = 0))
    (CD : Hid (∀ w, Calls Try.prog 19 #[.int .i64 n, .int .i64 d] w fun e' w' => e' = .returned (.tuple #[.int .i64 q, .int .i64 r, .int .i64 e]) ∧ Below w.heap.size w w'))
    (CF : Hid (∀ w, Calls Try.prog 29 #[.int .i64 n, .int .i64 hi, .int .i64 d] w fun e' w' => e' = .returned (.tuple #[.int .i64 q', .int .i64 r', .int .i64 f]) ∧ Below w.heap.size w w'))
    (C1 : Hid (∀ w, Calls Try.prog 27 #[.int .i64 n, .int .i64 hi, .int .i64 1] w fun e' w' => e' = .returned (.tuple #[.int .i64 n, .int .i64 0, .int .i64 0]) ∧ Below w.heap.size w w'))
    (C2 : Hid (∀ w, Calls Try.prog 27 #[.int .i64 n, .int .i64 hi, .int .i64 (-1)] w fun e' w' => e' = .returned (.tuple #[.int .i64 h, .int .i64 0, .int .i64 i]) ∧ Below w.heap.size w w'))
    (hm : ((n != -9223372036854775808) = true ∧ (n == -9223372036854775808) = false ∧ i = 0 ∧ Hid (wrap64 (-n) = h)) ∨ ((n != -9223372036854775808) = false ∧ (n == -9223372036854775808) = true ∧ i = -11))
    (hc : (q' = q ∧ r' = r ∧ f = e) ∨ (Hid (n = -9223372036854775808) ∧ d = -1 ∧ f = -11 ∧ e = 0)) :
    Calls Try.prog 10 #[.int .i64 n, .int .i64 d] w fun e w' => e = .returned (.bool true) ∧ Below w.heap.size w w' := by
  rcases hs with ⟨hs, rfl⟩ | ⟨hs, rfl⟩ <;> rcases hm with ⟨m1, m2, rfl, m3⟩ | ⟨m1, m2, rfl⟩ <;> rcases hc with ⟨rfl, rfl, rfl⟩ | ⟨hn, rfl, rfl, rfl⟩
  all_goals try (exact absurd hn.out (by simpa using m2))
  all_goals try (have m4 := m3.out)
  all_goals
    go_enter Try.func10, Try.ntmps10
    go_wp2_with (first | (go_at_call 12; refine (shown_any _).mono ?_; rintro e w1 ⟨rfl, b1⟩) | (go_at_call 19; refine (CD.out _).mono ?_; rintro e w2 ⟨rfl, b2⟩) | (go_at_call 29; refine (CF.out _).mono ?_; rintro e w3 ⟨rfl, b3⟩) | (go_at_call 27; ((with_reducible refine (C1.out _).mono ?_); rintro e w4 ⟨rfl, b4⟩)) | (go_at_call 27; ((with_reducible refine (C2.out _).mono ?_); rintro e w5 ⟨rfl, b5⟩)))
  all_goals
    go_ret
    exact ⟨rfl, below_then (below_then (below_then (below_then b1 b2) b3) b4) b5⟩

theorem walk (n d : Int) (w : World) (hn : cellR n) (hd : cellR d) :
    Calls Try.prog 10 #[.int .i64 n, .int .i64 d] w fun e w' => e = .returned (.bool true) ∧ Below w.heap.size w w' := by
  obtain ⟨hi, hs, hh⟩ : ∃ hi, ((n < 0 ∧ hi = -1) ∨ (¬ n < 0 ∧ hi = 0)) ∧ cellR hi := by
    by_cases h : n < 0
    · exact ⟨-1, Or.inl ⟨h, rfl⟩, by unfold cellR; omega⟩
    · exact ⟨0, Or.inr ⟨h, rfl⟩, by unfold cellR; omega⟩
  have e := one_pair n hi hn hs
  have p1 := one_by1 n hi hn e
  have p2 := one_bym n hi hn e
  have C1 : Hid (∀ w, Calls Try.prog 27 #[.int .i64 n, .int .i64 hi, .int .i64 1] w fun e' w' => e' = .returned (.tuple #[.int .i64 n, .int .i64 0, .int .i64 0]) ∧ Below w.heap.size w w') := Lib.hid fun w => by
    have c := sdiv_any n hi 1 w hh (by unfold cellR; omega)
    rw [p1.1, p1.2.1, p1.2.2] at c
    exact c
  have r2 : sr n hi (-1) = 0 := by
    by_cases hm : n = -9223372036854775808
    · exact (p2.2 hm).2.1
    · exact (p2.1 hm).2.1
  have C2 : Hid (∀ w, Calls Try.prog 27 #[.int .i64 n, .int .i64 hi, .int .i64 (-1)] w fun e' w' => e' = .returned (.tuple #[.int .i64 (sq n hi (-1)), .int .i64 0, .int .i64 (sc n hi (-1))]) ∧ Below w.heap.size w w') := Lib.hid fun w => by
    have c := sdiv_any n hi (-1) w hh (by unfold cellR; omega)
    rw [r2] at c
    exact c
  refine core n hi d (dq n d) (dr n d) (dc d) (fq n hi d) (fr n hi d) (fc n hi d) _ _ w hs (Lib.hid fun w => div_any n d w hn hd) (Lib.hid fun w => fdiv_any n hi d w hh hd) C1 C2 ?_ ?_
  · by_cases hm : n = -9223372036854775808
    · exact Or.inr ⟨by simp [hm], by simp [hm], (p2.2 hm).2.2⟩
    · exact Or.inl ⟨by simp [hm], by simp [hm], (p2.1 hm).2.2, Lib.hid (by rw [(p2.1 hm).1]; exact wrap_in (by unfold cellR at *; omega))⟩
  · by_cases h0 : d = 0
    · subst h0
      exact Or.inl ⟨by simp [fq, fok, sok, dq], by simp [fr, fok, sok, dr], by simp [fc, dc]⟩
    · by_cases hm : n = -9223372036854775808 ∧ d = -1
      · obtain ⟨hm1, hm2⟩ := hm
        have hk : sok n hi d = false := by
          subst hm2
          unfold sok; rw [e, (one_neg n).1]; simp; omega
        exact Or.inr ⟨Lib.hid hm1, hm2, by simp [fc, fok, hk, h0], by simp [dc, h0]⟩
      · obtain ⟨k1, k2, k3, k4⟩ := one_same n hi d hn h0 e hm
        exact Or.inl ⟨k1, k2, by rw [k3, k4]⟩

set_option maxRecDepth 100000 in
theorem lifted (os : Os) (started : os.Started) (H : Type) (enc : TypeId × Value → H) :
    ReturnsInHanded {} Try.checked os 10 .any (Rows.cellOneSpec.pre6 enc Try.prog Try.f10 Rows.cellOneRow.domain false) (Rows.cellOneSpec.post enc Try.prog Try.f10 false true false false) := by
  refine returnsInHanded_of_change (C := Try.checked) own started (by kernel_rfl) Try.func10
    (ChangeSpec.witness6 (enc := enc) (C := Try.checked) false ⟨#[], #[.int .i64 0, .int .i64 0], []⟩ 8 (by kernel_rfl) (by kernel_rfl) (by kernel_rfl) (by kernel_rfl)) ?_
  intro W base args ds gs before hval0 hW hcnd _
  have hval : ∀ (j : Nat) t v, Try.f10.params[j]? = some t → args[j]? = some v → Value.okWide Try.prog W .any base t v := hval0
  have hW' := hW
  obtain ⟨p, q, hA0, hV, rfl, hfz, hnd⟩ := hW
  have hA : DataW.TrodAll enc Try.prog W 0 (fun _ => true) true Try.f10.params.toList args.toList ds p := hA0
  rw [Try.params10] at hA hval
  obtain ⟨v0, vs0, d0, ds0, p0, q0, hargs, rfl, rfl, h0, r0⟩ := trodAll_cons hA
  obtain ⟨v1, vs1, d1, ds1, p1, q1, rfl, rfl, rfl, h1, r1⟩ := trodAll_cons r0
  obtain ⟨rfl, rfl, rfl⟩ := trodAll_nil r1
  obtain rfl : args = #[v0, v1] := by cases args; simp_all
  obtain ⟨rfl, rfl⟩ := trodVars_none hV
  obtain ⟨a0, rfl, rfl, rfl, w0⟩ := open_int Try.underlying3 (hval 0 3 v0 rfl rfl) h0
  obtain ⟨a1, rfl, rfl, rfl, w1⟩ := open_int Try.underlying3 (hval 1 3 v1 rfl rfl) h1
  clear hA0 hval0
  refine (walk a0 a1 W (cellR_of w0) (cellR_of w1)).mono fun e W' ⟨he, bel⟩ => ?_
  subst he
  exact ⟨_, rfl, _, _, _, [], _, [], hW', trodAll_mk1 (shut_bool Try.underlying4 _), (trodAll_cons_mk (shut_int Try.underlying3 w0) (trodAll_cons_mk (shut_int Try.underlying3 w1) trodAll_mk0)), rfl, bel.frame _, fun h => by cases h⟩

theorem over : Rows.cellOneRow.holds Try.pinned (OpenSpec.ofChange Rows.cellOneSpec) :=
  OpenClaim.holds_of_wide 10 Try.f10 rfl rfl rfl rfl rfl rfl rfl ⟨rfl, rfl, rfl, rfl, rfl⟩ rfl rfl rfl rfl rfl (by kernel_rfl) Try.func10 (by kernel_rfl)
    (of_decide_eq_true (by kernel_rfl)) (by unfold Func.isWrapper; first | (rw [if_pos (by decide +kernel)]; kernel_rfl) | (rw [if_neg (by decide +kernel)]; exact ⟨rfl, rfl⟩))
    (fun os started H enc _ => lifted os started H enc)

theorem proved : Rows.CellOneSaid := over
#print axioms proved
end Go.Proofs.Ytadnajoefhajgaa.cellOne
