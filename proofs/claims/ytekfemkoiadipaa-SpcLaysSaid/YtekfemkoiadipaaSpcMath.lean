/- Plain facts on what is laid: two rows one behind the other. -/
import Derived.Test.YtekfemkoiadipaaSpcIn
import Derived.Test.YtekfemkoiadipaaMemMath
namespace Go.Proofs.Ytekfemkoiadipaa
open Go.RowKit
set_option linter.unusedVariables false
set_option linter.unusedSimpArgs false

theorem splice_two {α : Type} (l a b : List α) (o : Nat) (h : o + a.length + b.length ≤ l.length) : splice (splice l o a) (o + a.length) b = splice l o (a ++ b) := by
  apply List.ext_getElem?
  intro i
  rw [splice_get _ _ _ _ (by rw [splice_len (by omega)]; omega), splice_get _ _ _ _ (by omega), splice_get _ _ _ _ (by simp; omega)]
  by_cases h1 : o ≤ i ∧ i < o + a.length
  · rw [if_neg (by omega), if_pos h1, if_pos (by simp; omega), List.getElem?_append_left (by omega)]
  · by_cases h2 : o + a.length ≤ i ∧ i < o + a.length + b.length
    · rw [if_pos h2, if_pos (by simp; omega), List.getElem?_append_right (by omega)]
      congr 1
      omega
    · rw [if_neg h2, if_neg h1, if_neg (by simp; omega)]
theorem layM_len (m : PM) (p : Int) (b : List UInt8) : (layM m p b).1.length = m.1.length := by
  unfold layM
  split
  · exact writeF_len _ _ _
  · rfl
theorem layM_pats (m : PM) (p : Int) (b : List UInt8) : (layM m p b).2.length ≤ m.2.length + 1 := by
  unfold layM
  split
  · exact writeF_pats _ _ _
  · omega
theorem layM_row {m : PM} {p : Int} {b : List UInt8} (he : endB m.1.length p = true) (h : roomB m.1.length p b.length = true) : (layM m p b).1 = splice m.1 p.toNat b := by
  rw [layM_yes h, writeF_row (room_ok he h)]
  rfl
theorem end_on {L : Nat} {p : Int} {k : Nat} (he : endB L p = true) (h : roomB L p k = true) : endB L (p + k) = true := by
  have a := (endB_iff _ _).1 he
  have b := (roomB_iff _ _ _).1 h
  exact (endB_iff _ _).2 (by omega)
theorem room_two {L : Nat} {p : Int} {j k : Nat} : roomB L p (j + k) = roomB L (p + j) k := by
  unfold roomB
  apply decide_eq_decide.2
  omega
theorem lay_lay (m : PM) (p : Int) (a b : List UInt8) (he : endB m.1.length p = true) (h1 : roomB m.1.length p a.length = true) (h2 : roomB m.1.length (p + a.length) b.length = true) : (layM (layM m p a) (p + a.length) b).1 = (layM m p (a ++ b)).1 := by
  have h3 : roomB m.1.length p (a ++ b).length = true := by rw [List.length_append, room_two]; exact h2
  rw [layM_row (by rw [layM_len]; exact end_on he h1) (by rw [layM_len]; exact h2), layM_row he h1, layM_row he h3]
  have a1 := (endB_iff _ _).1 he
  have b1 := (roomB_iff _ _ _).1 h2
  rw [show (p + (a.length : Int)).toNat = p.toNat + a.length by omega]
  exact splice_two _ _ _ _ (by omega)
end Go.Proofs.Ytekfemkoiadipaa
