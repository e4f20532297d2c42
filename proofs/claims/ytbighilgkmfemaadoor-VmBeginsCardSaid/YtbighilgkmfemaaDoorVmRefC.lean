/- The contract of the document's Print. -/
import Derived.Test.YtbighilgkmfemaaDoorVmRefB
import Derived.Laws.IdiomStrings
namespace Go.Proofs.YtbighilgkmfemaaDoor
open Go.RowKit
set_option linter.unusedVariables false
set_option linter.unusedSimpArgs false

set_option maxRecDepth 100000 in
theorem conv_in (t : List UInt8) (w : World) (ht : t.length ≤ 1000000) : ∃ c w', (convert 9 25 (.string (strB t))).run Tryd.prog w = .ok (.slice (some ⟨w.heap.size, 0, none⟩) t.length c) w' ∧ Byt w' (.slice (some ⟨w.heap.size, 0, none⟩) t.length c) t ∧ Below w.heap.size w w' := by
  have hsz : (strB t).size = t.length := rfl
  have h := run_bytes_of_string (P := Tryd.prog) w 9 25 5 (strB t) Tryd.underlying9 Tryd.underlying25 Tryd.underlying5
  rw [hsz] at h
  refine ⟨_, _, h, ?_, ?_⟩
  · refine ⟨_, _, rfl, grownCap_ge _ _ _ _, grownCap_le_maxLen _ _ _ _ (by unfold maxLen; omega), ?_⟩
    refine .inr ⟨w.heap.size, 0, rfl, by simp, fun j v hv => ?_⟩
    have hb : ∀ (x : Obj), (w.drew.alloc x).heap[w.heap.size]? = some x := fun x => by
      show (w.heap.push x)[w.heap.size]? = _
      simp
    unfold World.cell?
    rw [hb]
    show (bytesRow (strB t) _)[0 + j]? = some v
    unfold bytesRow
    rw [Nat.zero_add, Array.getElem?_append_left (by have := (List.getElem?_eq_some_iff.1 hv).1; rw [u8s_len] at this; simpa [strB] using this)]
    simpa [strB, u8s] using hv
  · exact (Below.refl _ w).drew.alloc (Nat.le_refl _) _
def printC (l s : List UInt8) (co : Int) : Int := if co - (l.length : Int) < (s.length : Int) then -260 else 0
def printL (l s : List UInt8) (co : Int) : List UInt8 := if co - (l.length : Int) < (s.length : Int) then l else l ++ s
theorem Byt.fresh {w1 w2 W : World} {B : Option Addr} {m d : Nat} {l : List UInt8} (h : Byt w1 (.slice B m d) l) (hf : ∀ b, B = some b → W.heap.size ≤ b.block) (hz : w1.heap.size ≤ w2.heap.size)
    (hs : ∀ g, W.heap.size ≤ g → g < w1.heap.size → w2.heap[g]? = w1.heap[g]?) : Byt w2 (.slice B m d) l := by
  obtain ⟨A, c, e, h1, h2, h3⟩ := h
  injection e with e1 e2 e3
  subst e1 e2 e3
  refine ⟨_, _, rfl, h1, h2, ?_⟩
  rcases h3 with h3 | ⟨g, o, e, hg, hc⟩
  · exact .inl h3
  · refine .inr ⟨g, o, e, by omega, fun j v hv => ?_⟩
    have := hc j v hv
    unfold World.cell? at this ⊢
    rw [hs g (hf _ e) hg]
    exact this
end Go.Proofs.YtbighilgkmfemaaDoor
