/- What the calls of package mem answer, as plain functions of lists, by the document's own words. -/
import Derived.Laws.CopyOwn
namespace Go.Proofs.Ytekfemkoiadipaa
open Go.RowKit

/-- A patch: a place, and the bytes that stood there. A memory: its bytes, and its patches. -/
abbrev Pt := Int × List UInt8
abbrev PM := List UInt8 × List Pt

/-- Are n bytes at a place there, of L bytes? -/
def okB (L : Nat) (p n : Int) : Bool := decide (n = 0 ∨ 0 < n ∧ 0 ≤ p ∧ p ≤ (L : Int) - n)
theorem okB_iff (L : Nat) (p n : Int) : okB L p n = true ↔ (n = 0 ∨ 0 < n ∧ 0 ≤ p ∧ p ≤ (L : Int) - n) := by unfold okB; simp
theorem okB_no (L : Nat) (p n : Int) : okB L p n = false ↔ ¬ (n = 0 ∨ 0 < n ∧ 0 ≤ p ∧ p ≤ (L : Int) - n) := by unfold okB; rw [decide_eq_false_iff_not]

def codeF (b : Bool) : Int := if b then 0 else -9
def textF (m : PM) (p n : Int) : List UInt8 := if okB m.1.length p n then (m.1.drop p.toNat).take n.toNat else []
theorem textF_yes {m : PM} {p n : Int} (h : okB m.1.length p n = true) : textF m p n = (m.1.drop p.toNat).take n.toNat := by unfold textF; rw [if_pos h]
theorem textF_no {m : PM} {p n : Int} (h : okB m.1.length p n = false) : textF m p n = [] := by unfold textF; rw [if_neg (by simp [h])]
theorem textF_len {m : PM} {p n : Int} (h : okB m.1.length p n = true) : (textF m p n).length = n.toNat := by
  rw [textF_yes h]
  rw [okB_iff] at h
  simp
  omega

/-- Bytes that are laid into a row from a place on. -/
def layF (row : List UInt8) (p : Int) (b : List UInt8) : List UInt8 := splice row p.toNat b
theorem layF_none (row : List UInt8) (p : Int) : layF row p [] = row := by simp [layF, splice]
theorem layF_len {row b : List UInt8} {p : Int} (h : okB row.length p b.length = true) : (layF row p b).length = row.length := by
  rw [okB_iff] at h
  rcases h with h | h
  · have : b = [] := List.eq_nil_of_length_eq_zero (by omega)
    subst this
    rw [layF_none]
  · unfold layF
    exact length_splice _ _ _ (by omega)
theorem splice_map {α β : Type} (f : α → β) (l : List α) (o : Nat) (c : List α) : (splice l o c).map f = splice (l.map f) o (c.map f) := by
  simp [splice, List.map_take, List.map_drop]

def writeF (m : PM) (p : Int) (b : List UInt8) : PM := if okB m.1.length p b.length = true ∧ b ≠ [] then (layF m.1 p b, m.2 ++ [(p, textF m p b.length)]) else m
theorem writeF_yes {m : PM} {p : Int} {b : List UInt8} (h : okB m.1.length p b.length = true) (hb : b ≠ []) : writeF m p b = (layF m.1 p b, m.2 ++ [(p, textF m p b.length)]) := by unfold writeF; rw [if_pos ⟨h, hb⟩]
theorem writeF_no {m : PM} {p : Int} {b : List UInt8} (h : okB m.1.length p b.length = false) : writeF m p b = m := by unfold writeF; rw [if_neg (by simp [h])]
theorem writeF_nil {m : PM} {p : Int} : writeF m p [] = m := by unfold writeF; rw [if_neg (by simp)]

def rightP (L : Nat) (q : Pt) : Bool := okB L q.1 q.2.length
def rightB (m : PM) : Bool := decide (m.1.length ≤ 65536) && decide (m.1.length % 8 = 0) && m.2.all (rightP m.1.length)
def fewB (m : PM) (most : Nat) : Bool := decide (m.1.length ≤ most) && decide (m.2.length ≤ 60) && m.2.all (fun q => decide (q.2.length ≤ 200))

/-- Why there is no cell at a place, or 0. -/
def cellC (L : Nat) (p : Int) : Int := if okB L p 8 = true then (if p % 8 = 0 then 0 else -23) else -9
def newOk (n : Int) : Bool := decide (8 ≤ n ∧ n ≤ 65536 ∧ n % 8 = 0)

end Go.Proofs.Ytekfemkoiadipaa
