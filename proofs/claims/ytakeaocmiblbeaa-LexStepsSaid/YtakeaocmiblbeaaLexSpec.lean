/- What the calls of package lex answer, as plain functions, by the document's own words. -/
import Derived.Test.YtakeaocmiblbeaaNumStr
namespace Go.Proofs.Ytakeaocmiblbeaa
open Go.RowKit
set_option linter.unusedVariables false
set_option linter.unusedSimpArgs false

/-- A sign that is no blank. -/
def solid (c : UInt8) : Bool := decide (32 < c.toNat)
theorem solid_yes {c : UInt8} (h : 32 < c.toNat) : solid c = true := by unfold solid; simpa using h
theorem solid_no {c : UInt8} (h : ¬ 32 < c.toNat) : solid c = false := by unfold solid; simpa using h
/-- The place that is asked at. -/
def startN (l : List UInt8) (p : Int) : Nat := if 0 ≤ p ∧ p ≤ (l.length : Int) then p.toNat else l.length
theorem startN_le (l : List UInt8) (p : Int) : startN l p ≤ l.length := by unfold startN; split <;> omega
theorem startN_in {l : List UInt8} {p : Int} (h0 : 0 ≤ p) (h1 : p ≤ (l.length : Int)) : (startN l p : Int) = p := by unfold startN; rw [if_pos ⟨h0, h1⟩]; omega
theorem startN_nat {l : List UInt8} {k : Nat} (h1 : k ≤ l.length) : startN l (k : Int) = k := by unfold startN; rw [if_pos (by omega)]; omega
theorem startN_out {l : List UInt8} {p : Int} (h : ¬ (0 ≤ p ∧ p ≤ (l.length : Int))) : startN l p = l.length := by unfold startN; rw [if_neg h]
theorem dropW_len (p : UInt8 → Bool) (r : List UInt8) : (r.dropWhile p).length ≤ r.length := by
  induction r with
  | nil => exact Nat.le_refl _
  | cons c r ih =>
    rw [List.dropWhile_cons]
    split
    · simp; omega
    · exact Nat.le_refl _
/-- The first word; and what is behind the blank behind it. -/
def wordW : List UInt8 → List UInt8
  | [] => []
  | c :: r => if solid c = true then c :: r.takeWhile solid else wordW r
def wordT : List UInt8 → List UInt8
  | [] => []
  | c :: r => if solid c = true then (r.dropWhile solid).drop 1 else wordT r
theorem wordT_le (r : List UInt8) : (wordT r).length ≤ r.length := by
  induction r with
  | nil => exact Nat.le_refl _
  | cons c r ih =>
    unfold wordT
    split
    · have := dropW_len solid r
      simp
      omega
    · simp; omega
theorem wordT_lt {r : List UInt8} (h : wordW r ≠ []) : (wordT r).length < r.length := by
  induction r with
  | nil => exact absurd rfl h
  | cons c r ih =>
    unfold wordT
    unfold wordW at h
    split
    · have := dropW_len solid r
      simp
      omega
    · rename_i hc
      rw [if_neg hc] at h
      have := ih h
      simp; omega
def wordAt (l : List UInt8) (p : Int) : List UInt8 := wordW (l.drop (startN l p))
def nextN (l : List UInt8) (p : Int) : Nat := l.length - (wordT (l.drop (startN l p))).length
/-- Up to a sign. -/
def notC (c x : UInt8) : Bool := decide (x ≠ c)
def uptoW (r : List UInt8) (c : UInt8) : List UInt8 := r.takeWhile (notC c)
def uptoAt (l : List UInt8) (p : Int) (c : UInt8) : List UInt8 := uptoW (l.drop (startN l p)) c
def hasC (l : List UInt8) (p : Int) (c : UInt8) : Bool := decide (c ∈ l.drop (startN l p))
def uptoN (l : List UInt8) (p : Int) (c : UInt8) : Nat := if hasC l p c = true then startN l p + (uptoAt l p c).length + 1 else l.length
/-- All words. -/
def wordsF (r : List UInt8) : List (List UInt8) :=
  if h : wordW r = [] then [] else wordW r :: wordsF (wordT r)
termination_by r.length
decreasing_by exact wordT_lt h
theorem wordsF_nil {r : List UInt8} (h : wordW r = []) : wordsF r = [] := by rw [wordsF, dif_pos h]
theorem wordsF_cons {r : List UInt8} (h : wordW r ≠ []) : wordsF r = wordW r :: wordsF (wordT r) := by rw [wordsF, dif_neg h]
/-- Great letters. -/
def upC (c : UInt8) : UInt8 := if 97 ≤ c.toNat ∧ c.toNat ≤ 122 then c - 32 else c
def upperF (l : List UInt8) : List UInt8 := l.map upC
def alikeF (a b : List UInt8) : Bool := decide (upperF a = upperF b)

theorem words_len (r : List UInt8) : ∀ n, r.length ≤ n → (wordsF r).length ≤ r.length := by
  intro n
  induction n generalizing r with
  | zero => intro h; rw [wordsF_nil]; simp; cases r with | nil => rfl | cons c r => simp at h
  | succ n ih =>
    intro h
    by_cases hw : wordW r = []
    · rw [wordsF_nil hw]; simp
    · rw [wordsF_cons hw]
      have h1 := wordT_lt hw
      have := ih (wordT r) (by omega)
      simp
      omega
end Go.Proofs.Ytakeaocmiblbeaa
