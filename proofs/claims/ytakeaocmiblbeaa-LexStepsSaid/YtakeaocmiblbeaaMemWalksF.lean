/- Contracts of Mark, Free, New and Store of package mem. -/
import Derived.Test.YtakeaocmiblbeaaMemRefP
import Derived.Deep.RegionHeld3
namespace Go.Proofs.Ytakeaocmiblbeaa
open Go.RowKit

/-- A memory's two slices. -/
theorem IsMem.slices {w : World} {x y : Value} {m : PM} (h : IsMem w (.agg #[x, y]) m) : ∃ A n c P k d, x = .slice A n c ∧ y = .slice P k d := by
  obtain ⟨A, c, P, d, e, _, _⟩ := h.parts
  injection e with e
  simp at e
  exact ⟨A, _, c, P, _, d, e.1, e.2⟩

def newF (n : Int) : PM := if newOk n = true then (List.replicate n.toNat 0, []) else ([], [])
def newC (n : Int) : Int := if newOk n = true then 0 else -24
def storeF (m : PM) (p n : Int) : PM := if cellC m.1.length p = 0 then writeF m p (cellBytes n) else m
end Go.Proofs.Ytakeaocmiblbeaa
