/- Plain facts on what words make of stacks. -/
import Derived.Test.YtjeapcpicagobaaStkSpec
namespace Go.Proofs.Ytjeapcpicagobaa
open Go.RowKit

theorem perm_on (k : Nat) (idx : List Nat) (r q q' : List Int) (h : k ≤ q.length) (e : q.take (q.length - k) ++ idx.map (fun i => (q.drop (q.length - k)).getD i 0) = q') : resF (.perm k idx) (r ++ q) = .out (r ++ q') := by
  simp only [resF, List.length_append]
  rw [if_neg (by omega)]
  subst e
  unfold leftL
  have e1 : r.length + q.length - k = r.length + (q.length - k) := by omega
  rw [e1, List.take_length_add_append, List.append_assoc]
  congr 3
  refine List.map_congr_left fun i _ => ?_
  simp only [List.getD, List.getElem?_drop]
  rw [show r.length + (q.length - k) + i = r.length + (q.length - k + i) by omega, List.getElem?_append_right (by omega)]
  congr 2
  omega

theorem four_top (l : List Int) (h : 4 ≤ l.length) : ∃ r a b c d, l = r ++ [a, b, c, d] := by
  refine ⟨l.take (l.length - 4), l.getD (l.length - 4) 0, l.getD (l.length - 3) 0, l.getD (l.length - 2) 0, l.getD (l.length - 1) 0, ?_⟩
  have e := List.take_append_drop (l.length - 4) l
  have e2 : l.drop (l.length - 4) = [l.getD (l.length - 4) 0, l.getD (l.length - 3) 0, l.getD (l.length - 2) 0, l.getD (l.length - 1) 0] := by
    refine List.ext_getElem (by simp; omega) fun i h1 h2 => ?_
    have hi : i = 0 ∨ i = 1 ∨ i = 2 ∨ i = 3 := by simp at h2; omega
    rcases hi with rfl | rfl | rfl | rfl
    · simp [List.getD, show l.length - 4 < l.length by omega]
    · have : l.length - 4 + 1 = l.length - 3 := by omega
      simp [List.getD, this, show l.length - 3 < l.length by omega]
    · have : l.length - 4 + 2 = l.length - 2 := by omega
      simp [List.getD, this, show l.length - 2 < l.length by omega]
    · have : l.length - 4 + 3 = l.length - 1 := by omega
      simp [List.getD, this, show l.length - 1 < l.length by omega]
  rw [e2] at e
  exact e.symm
end Go.Proofs.Ytjeapcpicagobaa
