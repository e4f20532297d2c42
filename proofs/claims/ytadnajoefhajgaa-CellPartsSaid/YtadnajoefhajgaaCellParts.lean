/- CellParts: a quotient times the divisor, and the rest, is the dividend; the rest is nearer to 0 than the divisor, and on its side; for every two cells, with no condition. -/
import Derived.Test.YtadnajoefhajgaaShown
import Derived.ProofKit
import Derived.OpenShut
import Derived.ShutString
import Derived.ChangeOld
import Derived.Below
namespace Go.Proofs.Ytadnajoefhajgaa.cellParts
open Go.ChangeShapes Go.WideShapes Go.ChangeAt Go.RowKit
set_option linter.unusedVariables false

theorem own : ownKnob Try.prog.godebug = none := by kernel_rfl

theorem parts_zero (a : Int) : dq a 0 = 0 ∧ dr a 0 = 0 ∧ dc 0 = -10 := by simp [dq, dr, dc]
theorem wrap_mod (x y : Int) (h : (x - y) % 18446744073709551616 = 0) : wrap64 x = wrap64 y := by unfold wrap64; omega
theorem parts_sum (a b : Int) (ha : cellR a) (h : b ≠ 0) : wrap64 (wrap64 (dq a b * b) + dr a b) = a := by
  obtain ⟨t1, _, _, _⟩ := tfacts a b h
  unfold dq dr
  rw [if_neg h, if_neg h]
  have key : ∀ x y : Int, (x - y) % 18446744073709551616 = 0 → (x * b - y * b) % 18446744073709551616 = 0 := by
    intro x y hxy
    rw [← Int.sub_mul, Int.mul_emod, hxy]
    simp
  have w1 : ∀ x : Int, (wrap64 x - x) % 18446744073709551616 = 0 := by intro x; unfold wrap64; omega
  have fin : ∀ q r : Int, (q - a.tdiv b) % 18446744073709551616 = 0 ∧ r = a.tmod b ∨ (q - (a.tdiv b - 1)) % 18446744073709551616 = 0 ∧ r = a.tmod b + b → wrap64 (wrap64 (q * b) + r) = a := by
    intro q r hqr
    refine Eq.trans (wrap_mod _ a ?_) (wrap_in ha)
    have h1 := w1 (q * b)
    rcases hqr with ⟨h2, h3⟩ | ⟨h2, h3⟩
    · have := key _ _ h2
      rw [Int.mul_comm] at t1
      omega
    · have := key _ _ h2
      rw [Int.sub_mul, Int.one_mul] at this
      rw [Int.mul_comm] at t1
      omega
  have h1 := w1 (a.tdiv b)
  have h2 := w1 (wrap64 (a.tdiv b) - 1)
  cases hl : leans (a.tmod b) b
  · rw [if_neg (by simp), if_neg (by simp)]
    exact fin _ _ (Or.inl ⟨h1, rfl⟩)
  · rw [if_pos rfl, if_pos rfl]
    exact fin _ _ (Or.inr ⟨by omega, rfl⟩)
theorem parts_rest (a b : Int) (h : b ≠ 0) : (dr a b = 0 ∨ (dr a b < 0 ∧ b < 0) ∨ (0 < dr a b ∧ 0 < b)) ∧ (b < 0 ∨ dr a b < b) ∧ (0 < b ∨ b < dr a b) := by
  obtain ⟨_, t2, _, _⟩ := tfacts a b h
  unfold dr
  rw [if_neg h]
  cases hl : leans (a.tmod b) b
  · have := leans_false hl
    rw [if_neg (by simp)]
    omega
  · have := leans_true hl
    rw [if_pos rfl]
    omega
theorem parts_code {b : Int} (h : b ≠ 0) : dc b = 0 := by simp [dc, h]

set_option maxRecDepth 100000 in
set_option maxHeartbeats 4000000 in
theorem walk (a b : Int) (w : World) (ha : cellR a) (hb : cellR b) :
    Calls Try.prog 7 #[.int .i64 a, .int .i64 b] w fun e w' => e = .returned (.bool true) ∧ Below w.heap.size w w' := by
  by_cases h0 : b = 0
  · subst h0
    obtain ⟨e1, e2, e3⟩ := parts_zero a
    have hc : cellR 0 := by unfold cellR; omega
    go_enter Try.func7, Try.ntmps7
    go_wp2_with fail
    refine (shown_any _).mono ?_
    rintro e w1 ⟨rfl, b1⟩
    go_wp2_with fail
    refine (div_any a 0 _ ha hc).mono ?_
    rintro e w2 ⟨rfl, b2⟩
    go_wp2
    go_ret
    exact ⟨rfl, below_then b1 b2⟩
  · have e1 := parts_sum a b ha h0
    have e3 := parts_code h0
    obtain ⟨r1, r2, r3⟩ := parts_rest a b h0
    have z0 : (b == 0) = false := by simpa using h0
    have cd := fun w => div_any a b w ha hb
    rw [e3] at cd
    obtain ⟨q, hq⟩ : ∃ q, Hid (dq a b = q) := ⟨_, Lib.hid rfl⟩
    obtain ⟨r, hr⟩ : ∃ r, Hid (dr a b = r) := ⟨_, Lib.hid rfl⟩
    rw [hq.out, hr.out] at cd
    rw [hq.out, hr.out] at e1
    rw [hr.out] at r1 r2 r3
    have CD := Lib.hid cd
    clear cd e3 ha hb
    by_cases cb : b < 0
    · have r1' : r = 0 ∨ r < 0 := by omega
      have r3' : b < r := by omega
      clear r1 r2 r3
      by_cases cr : r = 0
      · subst cr
        rw [Int.add_zero] at e1
        go_enter Try.func7, Try.ntmps7
        go_wp2_with fail
        refine (shown_any _).mono ?_
        rintro e w1 ⟨rfl, b1⟩
        go_wp2_with fail
        refine (CD.out _).mono ?_
        rintro e w2 ⟨rfl, b2⟩
        go_wp2
        go_ret
        exact ⟨rfl, below_then b1 b2⟩
      · have z1 : (r == 0) = false := by simpa using cr
        have z2 : r < 0 := by omega
        go_enter Try.func7, Try.ntmps7
        go_wp2_with fail
        refine (shown_any _).mono ?_
        rintro e w1 ⟨rfl, b1⟩
        go_wp2_with fail
        refine (CD.out _).mono ?_
        rintro e w2 ⟨rfl, b2⟩
        go_wp2
        go_ret
        exact ⟨rfl, below_then b1 b2⟩
    · have cb' : 0 < b := by omega
      have r2' : r < b := by omega
      have r1' : r = 0 ∨ 0 < r := by omega
      clear r1 r2 r3
      by_cases cr : r = 0
      · subst cr
        rw [Int.add_zero] at e1
        go_enter Try.func7, Try.ntmps7
        go_wp2_with fail
        refine (shown_any _).mono ?_
        rintro e w1 ⟨rfl, b1⟩
        go_wp2_with fail
        refine (CD.out _).mono ?_
        rintro e w2 ⟨rfl, b2⟩
        go_wp2
        go_ret
        exact ⟨rfl, below_then b1 b2⟩
      · have z1 : (r == 0) = false := by simpa using cr
        have z2 : 0 < r := by omega
        have z3 : ¬ r < 0 := by omega
        go_enter Try.func7, Try.ntmps7
        go_wp2_with fail
        refine (shown_any _).mono ?_
        rintro e w1 ⟨rfl, b1⟩
        go_wp2_with fail
        refine (CD.out _).mono ?_
        rintro e w2 ⟨rfl, b2⟩
        go_wp2
        go_ret
        exact ⟨rfl, below_then b1 b2⟩

set_option maxRecDepth 100000 in
theorem lifted (os : Os) (started : os.Started) (H : Type) (enc : TypeId × Value → H) :
    ReturnsInHanded {} Try.checked os 7 .any (Rows.cellPartsSpec.pre6 enc Try.prog Try.f7 Rows.cellPartsRow.domain false) (Rows.cellPartsSpec.post enc Try.prog Try.f7 false true false false) := by
  refine returnsInHanded_of_change (C := Try.checked) own started (by kernel_rfl) Try.func7
    (ChangeSpec.witness6 (enc := enc) (C := Try.checked) false ⟨#[], #[.int .i64 0, .int .i64 0], []⟩ 8 (by kernel_rfl) (by kernel_rfl) (by kernel_rfl) (by kernel_rfl)) ?_
  intro W base args ds gs before hval0 hW hcnd _
  have hval : ∀ (j : Nat) t v, Try.f7.params[j]? = some t → args[j]? = some v → Value.okWide Try.prog W .any base t v := hval0
  have hW' := hW
  obtain ⟨p, q, hA0, hV, rfl, hfz, hnd⟩ := hW
  have hA : DataW.TrodAll enc Try.prog W 0 (fun _ => true) true Try.f7.params.toList args.toList ds p := hA0
  rw [Try.params7] at hA hval
  obtain ⟨v0, vs0, d0, ds0, p0, q0, hargs, rfl, rfl, h0, r0⟩ := trodAll_cons hA
  obtain ⟨v1, vs1, d1, ds1, p1, q1, rfl, rfl, rfl, h1, r1⟩ := trodAll_cons r0
  obtain ⟨rfl, rfl, rfl⟩ := trodAll_nil r1
  obtain rfl : args = #[v0, v1] := by cases args; simp_all
  obtain ⟨rfl, rfl⟩ := trodVars_none hV
  obtain ⟨a0, rfl, rfl, rfl, w0⟩ := open_int Try.underlying3 (hval 0 3 v0 rfl rfl) h0
  obtain ⟨a1, rfl, rfl, rfl, w1⟩ := open_int Try.underlying3 (hval 1 3 v1 rfl rfl) h1
  clear hA0 hval0
  refine (walk a0 a1 W (cellR_of w0) (cellR_of w1)).mono fun e W' ⟨he, bel⟩ => ?_
  subst he
  exact ⟨_, rfl, _, _, _, [], _, [], hW', trodAll_mk1 (shut_bool Try.underlying4 _), (trodAll_cons_mk (shut_int Try.underlying3 w0) (trodAll_cons_mk (shut_int Try.underlying3 w1) trodAll_mk0)), rfl, bel.frame _, fun h => by cases h⟩

theorem over : Rows.cellPartsRow.holds Try.pinned (OpenSpec.ofChange Rows.cellPartsSpec) :=
  OpenClaim.holds_of_wide 7 Try.f7 rfl rfl rfl rfl rfl rfl rfl ⟨rfl, rfl, rfl, rfl, rfl⟩ rfl rfl rfl rfl rfl (by kernel_rfl) Try.func7 (by kernel_rfl)
    (of_decide_eq_true (by kernel_rfl)) (by unfold Func.isWrapper; first | (rw [if_pos (by decide +kernel)]; kernel_rfl) | (rw [if_neg (by decide +kernel)]; exact ⟨rfl, rfl⟩))
    (fun os started H enc _ => lifted os started H enc)

theorem proved : Rows.CellPartsSaid := over
#print axioms proved
end Go.Proofs.Ytadnajoefhajgaa.cellParts
