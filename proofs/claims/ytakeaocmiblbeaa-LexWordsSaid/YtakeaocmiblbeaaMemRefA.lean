/- The document's own Text: bytes that are appended one by one. -/
import Derived.Test.YtakeaocmiblbeaaMemWalksE
import Derived.Maps.AppendAt
namespace Go.Proofs.Ytakeaocmiblbeaa
open Go.RowKit

theorem own_byt {w : World} {base n : Nat} {v : Value} {l : List UInt8} (h : w.ownsRow base 5 1 v n (u8s l)) : Byt w v l := by
  have hl := h.1
  rw [u8s_len, Nat.mul_one] at hl
  subst hl
  rcases h.2 with ⟨rfl, h0⟩ | ⟨g, cap, cur, rfl, _, hg, hnc, hcm, _, ht⟩
  · have : l = [] := List.eq_nil_of_length_eq_zero h0
    subst this
    exact byt_nil w
  · refine ⟨some ⟨g, 0, none⟩, cap, rfl, hnc, hcm, .inr ⟨g, 0, rfl, (Array.getElem?_eq_some_iff.1 hg).1, fun j x hx => ?_⟩⟩
    rw [← ht, List.getElem?_take] at hx
    split at hx
    · rw [Nat.zero_add]
      simp [World.cell?, hg]
      simpa using hx
    · cases hx
theorem own_from {w : World} {base e size n : Nat} {v : Value} {xs : List Value} (h : w.ownsRow base e size v n xs) : ∀ k, v.ownBlock = some k → base ≤ k := fun k hk => (h.lt k hk).1

end Go.Proofs.Ytakeaocmiblbeaa
