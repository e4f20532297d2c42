/- The walk of StkDeep. -/
import Derived.Test.YtjeapcpicagobaaStkBelowM
import Derived.IntWalk
import Derived.Deep.RegionHeld3
namespace Go.Proofs.Ytjeapcpicagobaa
open Go.RowKit
set_option linter.unusedVariables false
set_option linter.unusedSimpArgs false

/-- Without one cell, which comes on top. -/
def rollL (l : List Int) (p : Nat) (x : Int) : List Int := (l.take p ++ l.drop (p + 1)) ++ [x]
theorem deep_pick {l : List Int} {p j : Nat} {x : Int} (h : l.length = p + j + 1) (hx : l.getD p 0 = x) : resF .pick ([] ++ l ++ [(j : Int)]) = .out (l ++ [x]) := by
  rw [List.nil_append]
  have h1 : (l ++ [(j : Int)]).length = p + 1 + j + 1 := by simp; omega
  have h2 : (l ++ [(j : Int)]).getD (p + 1 + j) 0 = (j : Int) := by
    have := getD_app l [(j : Int)] 0
    rw [show p + 1 + j = l.length + 0 by omega, this]
    rfl
  obtain ⟨h3, h4⟩ := num_mk h1 h2
  rw [pick_yes h1 h3 h4, List.take_append_of_le_length (by omega), List.take_of_length_le (by omega)]
  congr 3
  rw [← hx]
  simp only [List.getD]
  rw [List.getElem?_append_left (by omega)]
theorem deep_roll {l : List Int} {p j : Nat} {x : Int} (h : l.length = p + j + 1) (hx : l.getD p 0 = x) : resF .roll ([] ++ l ++ [(j : Int)]) = .out (rollL l p x) := by
  rw [List.nil_append]
  have h1 : (l ++ [(j : Int)]).length = p + 1 + j + 1 := by simp; omega
  have h2 : (l ++ [(j : Int)]).getD (p + 1 + j) 0 = (j : Int) := by
    have := getD_app l [(j : Int)] 0
    rw [show p + 1 + j = l.length + 0 by omega, this]
    rfl
  obtain ⟨h3, h4⟩ := num_mk h1 h2
  rw [roll_yes h1 h3 h4, List.take_append_of_le_length (by omega), List.take_append_of_le_length (by omega), List.take_of_length_le (i := p + 1 + j) (by omega)]
  unfold rollL
  congr 3
  rw [← hx]
  simp only [List.getD]
  rw [List.getElem?_append_left (by omega)]
theorem rollL_len {l : List Int} {p j : Nat} {x : Int} (h : l.length = p + j + 1) : (rollL l p x).length = p + j + 1 := by
  unfold rollL
  simp
  omega
theorem rollL_top {l : List Int} {p j : Nat} {x : Int} (h : l.length = p + j + 1) : (rollL l p x).getD (p + j) 0 = x := by
  unfold rollL
  have e : (l.take p ++ l.drop (p + 1)).length = p + j := by simp; omega
  have := getD_app (l.take p ++ l.drop (p + 1)) [x] 0
  rw [e] at this
  exact this
theorem rollL_low {l : List Int} {p j : Nat} {x : Int} (h : l.length = p + j + 1) : (rollL l p x).take p = l.take p := by
  unfold rollL
  rw [List.append_assoc, List.take_append_of_le_length (by rw [List.length_take]; omega), List.take_of_length_le (by rw [List.length_take]; omega)]
theorem rollL_mid {l : List Int} {p j : Nat} {x : Int} (h : l.length = p + j + 1) : ((rollL l p x).drop p).take j = l.drop (p + 1) := by
  unfold rollL
  have e : (l.take p).length = p := by simp; omega
  have e2 : ((l.take p ++ l.drop (p + 1)) ++ [x]).drop p = l.drop (p + 1) ++ [x] := by
    rw [List.append_assoc]
    have := List.drop_left' (l₂ := l.drop (p + 1) ++ [x]) e
    exact this
  rw [e2, List.take_append_of_le_length (by simp; omega), List.take_of_length_le (by simp; omega)]

theorem roll1 {r : List Int} {a b d : Int} {p : Nat} (h : (r ++ [a, b, d]).length = p + 1 + 1) : rollL (r ++ [a, b, d]) p b = r ++ [a, d, b] := by
  have e : p = r.length + 1 := by simp at h; omega
  unfold rollL
  subst e
  rw [List.take_length_add_append, show r.length + 1 + 1 = r.length + 2 by omega, List.drop_length_add_append]
  simp
theorem roll2 {r : List Int} {a b d : Int} {p : Nat} (h : (r ++ [a, b, d]).length = p + 2 + 1) : rollL (r ++ [a, b, d]) p a = r ++ [b, d, a] := by
  have e : p = r.length + 0 := by simp at h; omega
  unfold rollL
  subst e
  rw [List.take_length_add_append, show r.length + 0 + 1 = r.length + 1 by omega, List.drop_length_add_append]
  simp
theorem three_top (l : List Int) (h : 3 ≤ l.length) : ∃ r a b d, l = r ++ [a, b, d] ∧ r.length + 3 = l.length := by
  refine ⟨l.take (l.length - 3), l.getD (l.length - 3) 0, l.getD (l.length - 2) 0, l.getD (l.length - 1) 0, ?_, by simp; omega⟩
  have e := List.take_append_drop (l.length - 3) l
  have e2 : l.drop (l.length - 3) = [l.getD (l.length - 3) 0, l.getD (l.length - 2) 0, l.getD (l.length - 1) 0] := by
    refine List.ext_getElem (by simp; omega) fun i h1 h2 => ?_
    have hi : i = 0 ∨ i = 1 ∨ i = 2 := by simp at h2; omega
    rcases hi with rfl | rfl | rfl
    · simp [List.getD, show l.length - 3 < l.length by omega]
    · have : l.length - 3 + 1 = l.length - 2 := by omega
      simp [List.getD, this, show l.length - 2 < l.length by omega]
    · have : l.length - 3 + 2 = l.length - 1 := by omega
      simp [List.getD, this, show l.length - 1 < l.length by omega]
  rw [e2] at e
  exact e.symm

theorem run_mid {A : Option Addr} {g o p j c N : Nat} (w : World) (hA : A = some ⟨g, o, none⟩) (hN : p + j = N) (hc : N < c) :
    (Instr.slice 22 (.slice A (N + 1) c) (some (.int .i64 (p : Int))) (some (.int .i64 (N : Int))) none).run Try.prog w = .ok (.slice (restAt A p c) j (c - p)) w := by
  have hz : (sizeOf 3).run Try.prog w = .ok 1 w := by kernel_rfl
  have e1 : (N : Int) ≤ (c : Int) := by omega
  have e2 : (p : Int) ≤ (N : Int) := by omega
  have e3 : N - p = j := by omega
  have e4 : N ≤ c := by omega
  have e5 : p ≤ N := by omega
  simp [Instr.slice, run_underlying Try.underlying22, Instr.sliceBounds, run_sliceBound, hz, e4, e5, restAt, e3]

end Go.Proofs.Ytjeapcpicagobaa
