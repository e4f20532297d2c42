/- What the calls of package mem answer, as plain functions of lists, by the document's own words. -/
import Derived.Laws.CopyOwn
namespace Go.Proofs.Ytakeaocmiblbeaa
open Go.RowKit

/-- A patch: a place, and the bytes that stood there. A memory: its bytes, and its patches. -/
abbrev Pt := Int × List UInt8
abbrev PM := List UInt8 × List Pt

/-- Are n bytes at a place there, of L bytes? -/
def okB (L : Nat) (p n : Int) : Bool := decide (n = 0 ∨ 0 < n ∧ 0 ≤ p ∧ p ≤ (L : Int) - n)
def codeF (b : Bool) : Int := if b then 0 else -9
def textF (m : PM) (p n : Int) : List UInt8 := if okB m.1.length p n then (m.1.drop p.toNat).take n.toNat else []
/-- Bytes that are laid into a row from a place on. -/
def layF (row : List UInt8) (p : Int) (b : List UInt8) : List UInt8 := splice row p.toNat b
def writeF (m : PM) (p : Int) (b : List UInt8) : PM := if okB m.1.length p b.length = true ∧ b ≠ [] then (layF m.1 p b, m.2 ++ [(p, textF m p b.length)]) else m
/-- Patches undone, the last one first. -/
def undo (ps : List Pt) (row : List UInt8) : List UInt8 := ps.foldr (fun q r => layF r q.1 q.2) row
def backOk (m : PM) (k : Int) : Bool := decide (0 ≤ k ∧ k ≤ (m.2.length : Int))
def backF (m : PM) (k : Int) : PM := if backOk m k = true then (undo (m.2.drop k.toNat) m.1, m.2.take k.toNat) else m
def backC (m : PM) (k : Int) : Int := if backOk m k = true then 0 else -24

def rightP (L : Nat) (q : Pt) : Bool := okB L q.1 q.2.length
def rightB (m : PM) : Bool := decide (m.1.length ≤ 65536) && decide (m.1.length % 8 = 0) && m.2.all (rightP m.1.length)
/-- Why there is no cell at a place, or 0. -/
def cellC (L : Nat) (p : Int) : Int := if okB L p 8 = true then (if p % 8 = 0 then 0 else -23) else -9
def newOk (n : Int) : Bool := decide (8 ≤ n ∧ n ≤ 65536 ∧ n % 8 = 0)

end Go.Proofs.Ytakeaocmiblbeaa
