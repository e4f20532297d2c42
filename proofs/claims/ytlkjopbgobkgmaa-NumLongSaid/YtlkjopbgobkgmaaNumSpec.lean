/- What the calls of package num answer, as plain functions, by the document's own words. -/
import Derived.Test.YtlkjopbgobkgmaaSpec
namespace Go.Proofs.Ytlkjopbgobkgmaa
open Go.RowKit
set_option linter.unusedVariables false
set_option linter.unusedSimpArgs false

/-- A digit's sign. -/
def digN (n : Nat) : Nat := if n ≤ 9 then 48 + n else if n ≤ 35 then 55 + n else 63
def digF (n : Int) : Int := if 0 ≤ n then (digN n.toNat : Int) else 63
/-- What a sign is worth; 99: it is no digit. -/
def wN (c : Nat) : Nat := if 48 ≤ c ∧ c ≤ 57 then c - 48 else if 65 ≤ c ∧ c ≤ 90 then c - 55 else if 97 ≤ c ∧ c ≤ 122 then c - 87 else 99
def baseB (b : Int) : Bool := decide (2 ≤ b ∧ b ≤ 36)
theorem baseB_iff (b : Int) : baseB b = true ↔ (2 ≤ b ∧ b ≤ 36) := by unfold baseB; simp
theorem baseB_no (b : Int) : baseB b = false ↔ ¬ (2 ≤ b ∧ b ≤ 36) := by unfold baseB; rw [decide_eq_false_iff_not]
/-- Is it a digit of the base? -/
def isW (c : Nat) (b : Int) : Bool := decide (2 ≤ b ∧ b ≤ 36 ∧ (wN c : Int) < b)
theorem isW_iff (c : Nat) (b : Int) : isW c b = true ↔ (2 ≤ b ∧ b ≤ 36 ∧ (wN c : Int) < b) := by unfold isW; simp
theorem isW_no (c : Nat) (b : Int) : isW c b = false ↔ ¬ (2 ≤ b ∧ b ≤ 36 ∧ (wN c : Int) < b) := by unfold isW; rw [decide_eq_false_iff_not]
def worthF (c : Nat) (b : Int) : Int := if isW c b = true then (wN c : Int) else 0

/-- Digits, read one by one. -/
def readF (b : Int) : Int → List UInt8 → Option Int
  | n, [] => some n
  | n, c :: l => if isW c.toNat b = true then readF b (wrap64 (wrap64 (n * b) + (wN c.toNat : Int))) l else none
/-- A mark: the base that it tells; and what is behind it. -/
def markF (l : List UInt8) (b : Int) : Int × List UInt8 :=
  match l with
  | [] => (b, [])
  | c :: r => if c = 35 then (10, r) else if c = 36 then (16, r) else if c = 37 then (2, r) else (b, c :: r)
def minF (l : List UInt8) : Bool × List UInt8 :=
  match l with
  | [] => (false, [])
  | c :: r => if c = 45 then (true, r) else (false, c :: r)
def endF (neg : Bool) (b : Int) (l : List UInt8) : Option Int :=
  if l = [] then none else (readF b 0 l).map fun n => if neg = true then wrap64 (0 - n) else n
/-- A sign between two quotes. -/
def quoteF (l : List UInt8) : Option Int :=
  match l with
  | [a, c, d] => if a = 39 ∧ d = 39 ∧ 33 ≤ c.toNat ∧ c.toNat ≤ 126 then some (c.toNat : Int) else none
  | _ => none
def parseF (l : List UInt8) (b : Int) : Option Int :=
  match quoteF l with
  | some n => some n
  | none => endF (minF (markF l b).2).1 (markF l b).1 (minF (markF l b).2).2
def parN (l : List UInt8) (b : Int) : Int := (parseF l b).getD 0
def parB (l : List UInt8) (b : Int) : Bool := (parseF l b).isSome

/-- A number in digits. -/
def usF (b u : Nat) : List UInt8 :=
  if h : 2 ≤ b ∧ b ≤ u then usF b (u / b) ++ [UInt8.ofNat (digN (u % b))] else [UInt8.ofNat (digN u)]
termination_by u
decreasing_by exact Nat.div_lt_self (by omega) (by omega)
theorem usF_big {b u : Nat} (h2 : 2 ≤ b) (h : b ≤ u) : usF b u = usF b (u / b) ++ [UInt8.ofNat (digN (u % b))] := by
  rw [usF, dif_pos ⟨h2, h⟩]
theorem usF_low {b u : Nat} (h : u < b) : usF b u = [UInt8.ofNat (digN u)] := by
  rw [usF, dif_neg (by omega)]
def ushowF (n b : Int) : List UInt8 := if baseB b = true then usF b.toNat (un n) else []
def showF (n b : Int) : List UInt8 := if baseB b = true then (if 0 ≤ n then usF b.toNat n.toNat else 45 :: usF b.toNat (-n).toNat) else []
def showC (b : Int) : Int := if baseB b = true then 0 else -24
end Go.Proofs.Ytlkjopbgobkgmaa
