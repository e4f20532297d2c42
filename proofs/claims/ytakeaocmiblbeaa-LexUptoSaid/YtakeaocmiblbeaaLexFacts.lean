/- Plain facts on words and signs. -/
import Derived.Test.YtakeaocmiblbeaaLexIn
namespace Go.Proofs.Ytakeaocmiblbeaa
open Go.RowKit
set_option linter.unusedVariables false
set_option linter.unusedSimpArgs false

theorem startN_zero (l : List UInt8) : startN l 0 = 0 := startN_nat (k := 0) (Nat.zero_le _)
theorem place_out {s : List UInt8} {p : Int} (c : UInt8) (h : ¬ (0 ≤ p ∧ p ≤ (s.length : Int))) : wordAt s p = [] ∧ nextN s p = s.length ∧ uptoAt s p c = [] ∧ uptoN s p c = s.length ∧ hasC s p c = false := by
  unfold wordAt nextN uptoAt uptoN hasC
  rw [startN_out h, List.drop_length]
  exact ⟨rfl, by simp [wordT], rfl, by simp, by simp⟩
theorem place_in {s : List UInt8} {k : Nat} (c : UInt8) (h : k ≤ s.length) : wordAt s (k : Int) = wordAt (s.drop k) 0 ∧ nextN s (k : Int) = nextN (s.drop k) 0 + k ∧ uptoAt s (k : Int) c = uptoAt (s.drop k) 0 c ∧ uptoN s (k : Int) c = uptoN (s.drop k) 0 c + k ∧ hasC s (k : Int) c = hasC (s.drop k) 0 c := by
  unfold wordAt nextN uptoN uptoAt hasC
  rw [startN_nat h, startN_zero, List.drop_zero]
  have h1 := wordT_le (s.drop k)
  rw [List.length_drop] at h1
  refine ⟨rfl, by rw [List.length_drop]; omega, rfl, ?_, rfl⟩
  split
  · omega
  · rw [List.length_drop]; omega
theorem wordW_nil {r : List UInt8} (h : wordW r = []) : wordT r = [] := by
  induction r with
  | nil => rfl
  | cons c r ih =>
    unfold wordW at h
    unfold wordT
    split
    · rename_i hc; rw [if_pos hc] at h; cases h
    · rename_i hc; rw [if_neg hc] at h; exact ih h
theorem takeW_len (p : UInt8 → Bool) (r : List UInt8) : (r.takeWhile p).length ≤ r.length := by
  induction r with
  | nil => exact Nat.le_refl _
  | cons c r ih =>
    rw [List.takeWhile_cons]
    split
    · simp; omega
    · simp
theorem takeW_all (p : UInt8 → Bool) (r : List UInt8) : ∀ x ∈ r.takeWhile p, p x = true := by
  induction r with
  | nil => intro x h; simp at h
  | cons c r ih =>
    intro x h
    rw [List.takeWhile_cons] at h
    split at h
    · rcases List.mem_cons.1 h with rfl | h
      · assumption
      · exact ih x h
    · simp at h
theorem word_solid (r : List UInt8) : ∀ x ∈ wordW r, solid x = true := by
  induction r with
  | nil => intro x h; simp [wordW] at h
  | cons c r ih =>
    intro x h
    unfold wordW at h
    split at h
    · rcases List.mem_cons.1 h with rfl | h
      · assumption
      · exact takeW_all _ _ x h
    · exact ih x h
theorem upto_no (r : List UInt8) (c : UInt8) : ∀ x ∈ uptoW r c, x ≠ c := by
  intro x h
  have := takeW_all _ _ x h
  unfold notC at this
  simpa using this
theorem upto_all {r : List UInt8} {c : UInt8} (h : ¬ c ∈ r) : uptoW r c = r := by
  unfold uptoW
  induction r with
  | nil => rfl
  | cons x r ih =>
    rw [List.takeWhile_cons, if_pos (by unfold notC; simp; intro e; exact h (by simp [e])), ih (fun hh => h (by simp [hh]))]
theorem upto_has {r : List UInt8} {c : UInt8} (h : c ∈ r) : (uptoW r c).length < r.length ∧ r[(uptoW r c).length]? = some c ∧ r.take (uptoW r c).length = uptoW r c := by
  induction r with
  | nil => simp at h
  | cons x r ih =>
    unfold uptoW
    rw [List.takeWhile_cons]
    by_cases hx : x = c
    · subst hx
      rw [if_neg (by unfold notC; simp)]
      exact ⟨by simp, rfl, rfl⟩
    · rw [if_pos (by unfold notC; simpa using hx)]
      have h2 : c ∈ r := by rcases List.mem_cons.1 h with e | e; exact absurd e.symm hx; exact e
      obtain ⟨a, b, d⟩ := ih h2
      unfold uptoW at a b d
      refine ⟨by simp; omega, by simpa using b, by simp; exact d⟩
end Go.Proofs.Ytakeaocmiblbeaa
