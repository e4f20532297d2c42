/- Plain facts on texts of digits. -/
import Derived.Test.YtlkjopbgobkgmaaNumBackA
import Derived.Test.YtlkjopbgobkgmaaNumDigitsB
namespace Go.Proofs.Ytlkjopbgobkgmaa
open Go.RowKit
set_option linter.unusedVariables false
set_option linter.unusedSimpArgs false

/-- A great letter made small. -/
def lowC (c : UInt8) : UInt8 := if 65 ≤ c.toNat ∧ c.toNat ≤ 90 then UInt8.ofNat (c.toNat + 32) else c
theorem low_yes {c : UInt8} (h : 65 ≤ c.toNat ∧ c.toNat ≤ 90) : (c.toNat : Int) + 32 = ((lowC c).toNat : Int) := by
  unfold lowC
  rw [if_pos h, UInt8.toNat_ofNat']
  omega
theorem low_no {c : UInt8} (h : ¬ (65 ≤ c.toNat ∧ c.toNat ≤ 90)) : lowC c = c := by unfold lowC; rw [if_neg h]
theorem low_w (c : UInt8) : wN (lowC c).toNat = wN c.toNat := by
  by_cases h : 65 ≤ c.toNat ∧ c.toNat ≤ 90
  · have e := low_yes h
    have e2 : (lowC c).toNat = c.toNat + 32 := by omega
    rw [e2]
    unfold wN
    rw [if_neg (by omega), if_neg (by omega), if_pos (by omega), if_neg (by omega), if_pos h]
    omega
  · rw [low_no h]
theorem low_isW (c : UInt8) (b : Int) : isW (lowC c).toNat b = isW c.toNat b := by unfold isW; rw [low_w]
theorem low_val (b : Int) (l : List UInt8) : ∀ n, valF b n (l.map lowC) = valF b n l := by
  induction l with
  | nil => intro n; rfl
  | cons c l ih => intro n; show valF b (n * b + (wN (lowC c).toNat : Int)) (l.map lowC) = valF b (n * b + (wN c.toNat : Int)) l; rw [low_w]; exact ih _
theorem parse_digits {l : List UInt8} {b : Int} (h0 : l ≠ []) (h : ∀ c ∈ l, isW c.toNat b = true) : parseF l b = some (wrap64 (valF b 0 l)) := by
  cases l with
  | nil => exact absurd rfl h0
  | cons c r =>
    rw [parse_plain (isW_plain (h c (by simp))), end_yes (by simp) h, if_neg (by simp)]
theorem all_isW {l : List UInt8} {b : Int} : l.all (fun c => isW c.toNat b) = true ↔ ∀ c ∈ l, isW c.toNat b = true := by simp
theorem forms_facts {l : List UInt8} {b : Int} (hb : baseB b = true) (h0 : l ≠ []) (h : ∀ c ∈ l, isW c.toNat b = true) : parseF l b = some (wrap64 (valF b 0 l)) ∧ parseF (l.map lowC) b = some (wrap64 (valF b 0 l)) ∧ parseF (48 :: l) b = some (wrap64 (valF b 0 l)) ∧ parseF (45 :: l) b = some (wrap64 (-(wrap64 (valF b 0 l)))) ∧ parseF (45 :: 45 :: l) b = none ∧ parseF (l ++ [45]) b = none ∧ parseF (43 :: l) b = none := by
  obtain ⟨b2, b36⟩ := (baseB_iff b).1 hb
  have w48 : isW (48 : UInt8).toNat b = true := (isW_iff _ _).2 (by have e : wN (48 : UInt8).toNat = 0 := (by decide); omega)
  have w45 : isW (45 : UInt8).toNat b = false := (isW_no _ _).2 (by have e : wN (45 : UInt8).toNat = 99 := (by decide); omega)
  have w43 : isW (43 : UInt8).toNat b = false := (isW_no _ _).2 (by have e : wN (43 : UInt8).toNat = 99 := (by decide); omega)
  refine ⟨parse_digits h0 h, ?_, ?_, ?_, ?_, ?_, ?_⟩
  · have h1 : ∀ c ∈ l.map lowC, isW c.toNat b = true := by
      intro c hc
      obtain ⟨d, hd, rfl⟩ := List.mem_map.1 hc
      rw [low_isW]
      exact h d hd
    rw [parse_digits (by simpa using h0) h1, low_val]
  · have h1 : ∀ c ∈ 48 :: l, isW c.toNat b = true := by
      intro c hc
      rcases List.mem_cons.1 hc with rfl | hc
      · exact w48
      · exact h c hc
    rw [parse_digits (by simp) h1]
    show some (wrap64 (valF b (0 * b + (wN (48 : UInt8).toNat : Int)) l)) = _
    rw [show (wN (48 : UInt8).toNat : Int) = 0 from by decide, Int.zero_mul, Int.add_zero]
  · rw [parse_min, end_yes h0 h, if_pos rfl]
    congr 1
    rw [Int.zero_sub]
    apply w64_eq
    have := w64_mod (valF b 0 l)
    omega
  · rw [parse_min]
    exact end_no (.inr ⟨45, by simp, w45⟩)
  · cases l with
    | nil => exact absurd rfl h0
    | cons c r =>
      rw [List.cons_append, parse_plain (isW_plain (h c (by simp)))]
      exact end_no (.inr ⟨45, by simp, w45⟩)
  · rw [parse_plain (by refine ⟨?_, ?_, ?_, ?_, ?_⟩ <;> decide)]
    exact end_no (.inr ⟨43, by simp, w43⟩)
theorem take_low {l : List UInt8} {i : Nat} {c : UInt8} (h : l[i]? = some c) : (l.take (i + 1)).map lowC = (l.take i).map lowC ++ [lowC c] := by
  have hi := (List.getElem?_eq_some_iff.1 h).1
  rw [List.take_add_one, h, List.map_append]
  rfl
theorem take_all {l : List UInt8} {i : Nat} {c : UInt8} {b : Int} (h : l[i]? = some c) : (l.take (i + 1)).all (fun c => isW c.toNat b) = ((l.take i).all (fun c => isW c.toNat b) && isW c.toNat b) := by
  rw [List.take_add_one, h, List.all_append]
  simp

end Go.Proofs.Ytlkjopbgobkgmaa
