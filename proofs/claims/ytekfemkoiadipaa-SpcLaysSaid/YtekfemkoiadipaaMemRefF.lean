/- Contracts of the document's own Mark, Free, New and Store. -/
import Derived.Test.YtekfemkoiadipaaMemWalksF
namespace Go.Proofs.Ytekfemkoiadipaa
open Go.RowKit

/-- Write, with its memory's slices told. -/
theorem rwrite_sl (v u : Value) (m : PM) (b : List UInt8) (p : Int) (w : World) (h : IsMem w v m) (hu : Byt w u b) (hL : m.1.length ≤ 65536) (hK : m.2.length < 1000) (hb : b.length ≤ 65536) :
    Calls Try.prog 25 #[v, .int .i64 p, u] w fun e w' => ∃ A L c P K d, e = .returned (.tuple #[.agg #[.slice A L c, .slice P K d], .int .i64 (codeF (okB m.1.length p b.length))]) ∧ IsMem w' (.agg #[.slice A L c, .slice P K d]) (writeF m p b) ∧ Below w.heap.size w w' := by
  refine (rwrite_any v u m b p w h hu hL hK hb).mono fun e w' ⟨x, y, he, hm, hw⟩ => ?_
  obtain ⟨A, n, c, P, k, d, rfl, rfl⟩ := hm.slices
  exact ⟨A, n, c, P, k, d, he, hm, hw⟩

end Go.Proofs.Ytekfemkoiadipaa
