/- Plain facts on the words of a line. -/
import Derived.Test.YtakeaocmiblbeaaLexFacts
namespace Go.Proofs.Ytakeaocmiblbeaa
open Go.RowKit
set_option linter.unusedVariables false
set_option linter.unusedSimpArgs false

theorem wordW_cons (c : UInt8) (r : List UInt8) : wordW (c :: r) = if solid c = true then c :: r.takeWhile solid else wordW r := rfl
theorem wordT_cons (c : UInt8) (r : List UInt8) : wordT (c :: r) = if solid c = true then (r.dropWhile solid).drop 1 else wordT r := rfl
theorem filter_take (r : List UInt8) : r.filter solid = r.takeWhile solid ++ ((r.dropWhile solid).drop 1).filter solid := by
  induction r with
  | nil => rfl
  | cons c r ih =>
    rw [List.takeWhile_cons, List.dropWhile_cons, List.filter_cons]
    by_cases h : solid c = true
    · rw [if_pos h, if_pos h, if_pos h, ih]
      rfl
    · rw [if_neg h, if_neg h, if_neg h]
      rfl
theorem filter_word (r : List UInt8) : r.filter solid = wordW r ++ (wordT r).filter solid := by
  induction r with
  | nil => rfl
  | cons c r ih =>
    unfold wordW wordT
    rw [List.filter_cons]
    by_cases h : solid c = true
    · rw [if_pos h, if_pos h, if_pos h, filter_take r]
      rfl
    · rw [if_neg h, if_neg h, if_neg h, ih]
theorem filter_words (n : Nat) : ∀ r : List UInt8, r.length ≤ n → r.filter solid = (wordsF r).flatten := by
  induction n with
  | zero =>
    intro r h
    have : r = [] := List.eq_nil_of_length_eq_zero (by omega)
    subst this
    rw [wordsF_nil rfl]
    rfl
  | succ n ih =>
    intro r h
    rw [filter_word r]
    by_cases hw : wordW r = []
    · rw [hw, wordW_nil hw, wordsF_nil hw]; rfl
    · rw [wordsF_cons hw, ih (wordT r) (by have := wordT_lt hw; omega)]
      rfl
/-- Words with a blank ahead of each. -/
def joinB (ls : List (List UInt8)) : List UInt8 := ls.flatMap fun u => 32 :: u
theorem joinB_app (a b : List (List UInt8)) : joinB (a ++ b) = joinB a ++ joinB b := by simp [joinB]
theorem joinB_len (ls : List (List UInt8)) : (joinB ls).length = ls.flatten.length + ls.length := by
  induction ls with
  | nil => rfl
  | cons u ls ih =>
    show ((32 :: u) ++ joinB ls).length = (u ++ ls.flatten).length + (ls.length + 1)
    rw [List.length_append, List.length_append, ih]
    simp
    omega
theorem joinB_take (ls : List (List UInt8)) (i : Nat) : (joinB (ls.take i)).length ≤ (joinB ls).length := by
  conv => rhs; rw [← List.take_append_drop i ls, joinB_app, List.length_append]
  omega
theorem joinB_step {ls : List (List UInt8)} {i : Nat} {u : List UInt8} (h : ls[i]? = some u) : joinB (ls.take (i + 1)) = joinB (ls.take i) ++ [32] ++ u := by
  rw [List.take_add_one, h, joinB_app]
  simp [joinB]
theorem join_count (s : List UInt8) : (joinB (wordsF s)).length = (s.filter solid).length + (wordsF s).length := by
  rw [joinB_len, filter_words s.length s (Nat.le_refl _)]
theorem filter_le (s : List UInt8) : (s.filter solid).length ≤ s.length := List.length_filter_le _ _
theorem filter_step {s : List UInt8} {i : Nat} {c : UInt8} (h : s[i]? = some c) : ((s.take (i + 1)).filter solid).length = ((s.take i).filter solid).length + (if solid c = true then 1 else 0) := by
  rw [List.take_add_one, h, List.filter_append, List.length_append]
  congr 1
  by_cases hc : solid c = true
  · simp [hc]
  · simp [hc]

/-- What is a word: a sign at least, and no blank. -/
def Wd (u : List UInt8) : Prop := u ≠ [] ∧ ∀ x ∈ u, solid x = true
theorem words_wd (n : Nat) : ∀ r : List UInt8, r.length ≤ n → ∀ u ∈ wordsF r, Wd u := by
  induction n with
  | zero =>
    intro r h u hu
    have : r = [] := List.eq_nil_of_length_eq_zero (by omega)
    subst this
    rw [wordsF_nil rfl] at hu
    simp at hu
  | succ n ih =>
    intro r h u hu
    by_cases hw : wordW r = []
    · rw [wordsF_nil hw] at hu; simp at hu
    · rw [wordsF_cons hw] at hu
      rcases List.mem_cons.1 hu with rfl | hu
      · exact ⟨hw, word_solid r⟩
      · exact ih (wordT r) (by have := wordT_lt hw; omega) u hu
theorem blank32 : solid 32 = false := by decide
theorem words_skip (r : List UInt8) : wordsF (32 :: r) = wordsF r := by
  have h1 : wordW (32 :: r) = wordW r := by
    conv => lhs; unfold wordW
    rw [if_neg (by simp [blank32])]
  have h2 : wordT (32 :: r) = wordT r := by
    conv => lhs; unfold wordT
    rw [if_neg (by simp [blank32])]
  by_cases hw : wordW r = []
  · rw [wordsF_nil hw, wordsF_nil (by rw [h1]; exact hw)]
  · rw [wordsF_cons hw, wordsF_cons (by rw [h1]; exact hw), h1, h2]
theorem solid_take {u r : List UInt8} (hu : ∀ x ∈ u, solid x = true) (hr : r = [] ∨ ∃ t, r = 32 :: t) : (u ++ r).takeWhile solid = u ∧ (u ++ r).dropWhile solid = r := by
  induction u with
  | nil =>
    rcases hr with rfl | ⟨t, rfl⟩
    · exact ⟨rfl, rfl⟩
    · show (32 :: t).takeWhile solid = [] ∧ (32 :: t).dropWhile solid = 32 :: t
      rw [List.takeWhile_cons, List.dropWhile_cons, if_neg (by simp [blank32]), if_neg (by simp [blank32])]
      exact ⟨rfl, rfl⟩
  | cons c u ih =>
    obtain ⟨h1, h2⟩ := ih (fun x hx => hu x (by simp [hx]))
    rw [List.cons_append, List.takeWhile_cons, List.dropWhile_cons, if_pos (hu c (by simp)), if_pos (hu c (by simp)), h1, h2]
    exact ⟨rfl, rfl⟩
theorem word_lead {u r : List UInt8} (hu : Wd u) (hr : r = [] ∨ ∃ t, r = 32 :: t) : wordW (u ++ r) = u ∧ wordT (u ++ r) = r.drop 1 := by
  obtain ⟨h0, hs⟩ := hu
  cases u with
  | nil => exact absurd rfl h0
  | cons c u =>
    obtain ⟨h1, h2⟩ := solid_take (u := u) (fun x hx => hs x (by simp [hx])) hr
    have hc := hs c (by simp)
    constructor
    · rw [List.cons_append, wordW_cons, if_pos hc, h1]
    · rw [List.cons_append, wordT_cons, if_pos hc, h2]
theorem words_lead (ls : List (List UInt8)) : (∀ u ∈ ls, Wd u) → ∀ u, Wd u → wordsF (u ++ joinB ls) = u :: ls := by
  induction ls with
  | nil =>
    intro _ u hu
    obtain ⟨h1, h2⟩ := word_lead (r := joinB []) hu (.inl rfl)
    rw [wordsF_cons (by rw [h1]; exact hu.1), h1, h2]
    show u :: wordsF [] = [u]
    rw [wordsF_nil rfl]
  | cons v ls ih =>
    intro hall u hu
    have e : joinB (v :: ls) = 32 :: (v ++ joinB ls) := rfl
    obtain ⟨h1, h2⟩ := word_lead (r := joinB (v :: ls)) hu (.inr ⟨_, e⟩)
    rw [wordsF_cons (by rw [h1]; exact hu.1), h1, h2, e]
    show u :: wordsF (v ++ joinB ls) = _
    rw [ih (fun x hx => hall x (by simp [hx])) v (hall v (by simp))]
theorem words_join {ls : List (List UInt8)} (h : ∀ u ∈ ls, Wd u) : wordsF (joinB ls) = ls := by
  cases ls with
  | nil => rw [wordsF_nil rfl]
  | cons u ls =>
    show wordsF (32 :: (u ++ joinB ls)) = _
    rw [words_skip, words_lead ls (fun x hx => h x (by simp [hx])) u (h u (by simp))]
theorem words_again (s : List UInt8) : wordsF (joinB (wordsF s)) = wordsF s := words_join (words_wd s.length s (Nat.le_refl _))
theorem take_drop_app (r t : List UInt8) : (r ++ 32 :: t).takeWhile solid = r.takeWhile solid ∧ ((r ++ 32 :: t).dropWhile solid).drop 1 = (if r.dropWhile solid = [] then t else (r.dropWhile solid).drop 1 ++ 32 :: t) := by
  induction r with
  | nil =>
    show (32 :: t).takeWhile solid = [] ∧ ((32 :: t).dropWhile solid).drop 1 = t
    rw [List.takeWhile_cons, List.dropWhile_cons, if_neg (by simp [blank32]), if_neg (by simp [blank32])]
    exact ⟨rfl, rfl⟩
  | cons c r ih =>
    rw [List.cons_append, List.takeWhile_cons, List.takeWhile_cons, List.dropWhile_cons, List.dropWhile_cons]
    by_cases hc : solid c = true
    · rw [if_pos hc, if_pos hc, if_pos hc, if_pos hc, ih.1, ih.2]
      exact ⟨rfl, rfl⟩
    · rw [if_neg hc, if_neg hc, if_neg hc, if_neg hc]
      exact ⟨rfl, by simp⟩
theorem word_app (s t : List UInt8) (h : wordW s ≠ []) : wordW (s ++ 32 :: t) = wordW s ∧ (wordT (s ++ 32 :: t) = wordT s ++ 32 :: t ∨ (wordT s = [] ∧ wordT (s ++ 32 :: t) = t)) := by
  induction s with
  | nil => exact absurd rfl h
  | cons c s ih =>
    unfold wordW at h
    by_cases hc : solid c = true
    · obtain ⟨h1, h2⟩ := take_drop_app s t
      constructor
      · rw [List.cons_append, wordW_cons, wordW_cons, if_pos hc, if_pos hc, h1]
      · have e1 : wordT (c :: s) = (s.dropWhile solid).drop 1 := by rw [wordT_cons, if_pos hc]
        have e2 : wordT (c :: s ++ 32 :: t) = ((s ++ 32 :: t).dropWhile solid).drop 1 := by rw [List.cons_append, wordT_cons, if_pos hc]
        rw [e1, e2, h2]
        split
        · rename_i hd; exact .inr ⟨by rw [hd]; rfl, rfl⟩
        · exact .inl rfl
    · rw [if_neg hc] at h
      obtain ⟨h1, h2⟩ := ih h
      have e1 : wordT (c :: s) = wordT s := by rw [wordT_cons, if_neg hc]
      have e2 : wordT (c :: s ++ 32 :: t) = wordT (s ++ 32 :: t) := by rw [List.cons_append, wordT_cons, if_neg hc]
      constructor
      · rw [List.cons_append, wordW_cons, wordW_cons, if_neg hc, if_neg hc, h1]
      · rw [e1, e2]; exact h2
theorem word_none {s : List UInt8} (h : wordW s = []) (x : List UInt8) : wordsF (s ++ x) = wordsF x := by
  have hh : wordW (s ++ x) = wordW x ∧ wordT (s ++ x) = wordT x := by
    induction s with
    | nil => exact ⟨rfl, rfl⟩
    | cons c s ih =>
      unfold wordW at h
      by_cases hc : solid c = true
      · rw [if_pos hc] at h; cases h
      · rw [if_neg hc] at h
        obtain ⟨h1, h2⟩ := ih h
        constructor
        · rw [List.cons_append, wordW_cons, if_neg hc]; exact h1
        · rw [List.cons_append, wordT_cons, if_neg hc]; exact h2
  by_cases hw : wordW x = []
  · rw [wordsF_nil hw, wordsF_nil (by rw [hh.1]; exact hw)]
  · rw [wordsF_cons hw, wordsF_cons (by rw [hh.1]; exact hw), hh.1, hh.2]
theorem words_two (n : Nat) : ∀ s t : List UInt8, s.length ≤ n → wordsF (s ++ 32 :: t) = wordsF s ++ wordsF t := by
  induction n with
  | zero =>
    intro s t h
    have : s = [] := List.eq_nil_of_length_eq_zero (by omega)
    subst this
    rw [wordsF_nil (r := []) rfl]
    exact words_skip t
  | succ n ih =>
    intro s t h
    by_cases hw : wordW s = []
    · rw [word_none hw, words_skip, wordsF_nil hw]; rfl
    · obtain ⟨h1, h2⟩ := word_app s t hw
      rw [wordsF_cons (r := s ++ 32 :: t) (by rw [h1]; exact hw), wordsF_cons hw, h1]
      rcases h2 with h2 | ⟨h2, h3⟩
      · rw [h2, ih (wordT s) t (by have := wordT_lt hw; omega)]; rfl
      · rw [h3, h2, wordsF_nil (r := []) rfl]; rfl
theorem flat_le {Q : List (List UInt8)} {u : List UInt8} (h : u ∈ Q) : u.length ≤ Q.flatten.length := by
  induction Q with
  | nil => simp at h
  | cons v Q ih =>
    rw [List.flatten_cons, List.length_append]
    rcases List.mem_cons.1 h with rfl | h
    · omega
    · have := ih h; omega
end Go.Proofs.Ytakeaocmiblbeaa
