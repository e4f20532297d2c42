/- A contract of num's Parse. -/
import Derived.Test.YtlkjopbgobkgmaaNumCodeC
namespace Go.Proofs.Ytlkjopbgobkgmaa
open Go.RowKit
set_option linter.unusedVariables false
set_option linter.unusedSimpArgs false

theorem end_g (neg : Bool) (b : Int) (l : List UInt8) : (endF neg b l).getD 0 = (if neg = true then wrap64 (-(gN l b)) else gN l b) ∧ (endF neg b l).isSome = gB l b := by
  have hz : wrap64 (-0) = 0 := w64_id (by omega) (by omega)
  unfold endF gN gB
  by_cases h : l = []
  · subst h
    rw [if_pos rfl]
    constructor
    · show (0 : Int) = if neg = true then wrap64 (-0) else 0
      rw [hz]
      split <;> rfl
    · rfl
  · rw [if_neg h]
    cases hr : readF b 0 l with
    | none =>
      constructor
      · show (0 : Int) = if neg = true then wrap64 (-0) else 0
        rw [hz]
        split <;> rfl
      · rfl
    | some n =>
      constructor
      · show (if neg = true then wrap64 (0 - n) else n) = if neg = true then wrap64 (-n) else n
        rw [show (0 - n : Int) = -n by omega]
      · simp [h]
theorem mark_len (l : List UInt8) (b : Int) : (markF l b).2.length ≤ l.length := by
  rw [mark_drop, List.length_drop]
  omega
theorem min_len (l : List UInt8) : (minF l).2.length ≤ l.length := by
  rw [min_drop, List.length_drop]
  omega

set_option maxRecDepth 100000 in
set_option maxHeartbeats 4000000 in
theorem parse_any (l : List UInt8) (b : Int) (w : World) (hl : l.length ≤ 1000000) :
    Calls Try.prog 13 #[.string (strB l), .int .i64 b] w fun e w' => e = .returned (.tuple #[.int .i64 (parN l b), .bool (parB l b)]) ∧ Below w.heap.size w w' := by
  have H1 := Lib.hid (quoted_any l w hl)
  cases hq : quoteF l with
  | some n =>
    have HN : Hid (quoN l = n ∧ quoB l = true) := by show _ ∧ _; unfold quoN quoB; rw [hq]; exact ⟨rfl, rfl⟩
    have HP : Hid (parN l b = n ∧ parB l b = true) := by
      show _ ∧ _
      unfold parN parB parseF
      rw [hq]
      exact ⟨rfl, rfl⟩
    clear hq hl
    go_enter Try.func13, Try.ntmps13
    go_wp2_with fail
    refine (H1.out).mono ?_
    rw [HN.out.1, HN.out.2]
    rintro e w1 ⟨rfl, rfl⟩
    go_wp2
    go_ret2
    exact ⟨ret_pair HP.out.1.symm HP.out.2.symm, Below.refl _ _⟩
  | none =>
    have HN : Hid (quoN l = 0 ∧ quoB l = false) := by show _ ∧ _; unfold quoN quoB; rw [hq]; exact ⟨rfl, rfl⟩
    have H2 := Lib.hid (unmarked_any l b w hl)
    have hl2 := Nat.le_trans (mark_len l b) hl
    have HP : Hid (parseF l b = endF (minF (markF l b).2).1 (markF l b).1 (minF (markF l b).2).2) := by
      show _ = _
      unfold parseF
      rw [hq]
    obtain ⟨l2, hl2e⟩ : ∃ x, (markF l b).2 = x := ⟨_, rfl⟩
    obtain ⟨B, hB⟩ : ∃ x, (markF l b).1 = x := ⟨_, rfl⟩
    rw [hl2e] at hl2
    rw [hl2e, hB] at HP H2
    have H3 := Lib.hid (scut_any l2 w hl2)
    have hl3 := Nat.le_trans (min_len l2) hl2
    obtain ⟨l3, hl3e⟩ : ∃ x, (minF l2).2 = x := ⟨_, rfl⟩
    obtain ⟨ng, hng⟩ : ∃ x, (minF l2).1 = x := ⟨_, rfl⟩
    rw [hl3e] at hl3
    rw [hl3e, hng] at HP H3
    have H4 := Lib.hid (gathered_any l3 B w hl3)
    have HG := Lib.hid (end_g ng B l3)
    obtain ⟨n, hn⟩ : ∃ x, gN l3 B = x := ⟨_, rfl⟩
    obtain ⟨t, ht⟩ : ∃ x, gB l3 B = x := ⟨_, rfl⟩
    rw [hn, ht] at H4 HG
    have HR : Hid (parN l b = (if ng = true then wrap64 (-n) else n) ∧ parB l b = t) := by
      show _ ∧ _
      unfold parN parB
      rw [HP.out]
      exact HG.out
    clear hq hl hl2 hl3 hl2e hl3e hB hng hn ht HP HG
    go_enter Try.func13, Try.ntmps13
    go_wp2_with fail
    refine (H1.out).mono ?_
    rw [HN.out.1, HN.out.2]
    rintro e w1 ⟨rfl, rfl⟩
    go_wp2_with fail
    refine (H2.out).mono ?_
    rintro e w1 ⟨rfl, rfl⟩
    go_wp2_with fail
    refine (H3.out).mono ?_
    rintro e w1 ⟨rfl, rfl⟩
    go_wp2_with fail
    refine (H4.out).mono ?_
    rintro e w1 ⟨rfl, hb⟩
    cases ng with
    | true =>
      have HR2 : Hid (parN l b = wrap64 (-n) ∧ parB l b = t) := HR.out
      go_wp2
      go_ret2
      exact ⟨ret_pair HR2.out.1.symm HR2.out.2.symm, hb⟩
    | false =>
      have HR2 : Hid (parN l b = n ∧ parB l b = t) := HR.out
      go_wp2
      go_ret2
      exact ⟨ret_pair HR2.out.1.symm HR2.out.2.symm, hb⟩
end Go.Proofs.Ytlkjopbgobkgmaa
