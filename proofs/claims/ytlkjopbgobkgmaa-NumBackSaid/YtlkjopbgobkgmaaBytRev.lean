/- slices.Reverse of a row of bytes that the call owns. -/
import Derived.Test.YtlkjopbgobkgmaaRevLay
import Derived.Test.YtlkjopbgobkgmaaBytApp
namespace Go.Proofs.Ytlkjopbgobkgmaa
open Go.RowKit
set_option linter.unusedVariables false
set_option linter.unusedSimpArgs false

abbrev encB (b : UInt8) : Value := .int .u8 (b.toNat : Int)
theorem putRow_below {w0 w : World} {g off : Nat} {d : Array UInt8} (n : Nat) (hb : Below w0.heap.size w0 w) (hg : w0.heap.size ≤ g) : Below w0.heap.size w0 (Go.Sort.putRow encB (Go.Sort.ahead w n) g off d) := by
  refine hb.trans ⟨rfl, rfl, rfl, ?_, fun k hk => ?_⟩
  · rw [Go.Sort.size_putRow]; exact Nat.le_refl _
  · show (w.heap.modify g _)[k]? = w.heap[k]?
    rw [Array.getElem?_modify, if_neg (by omega)]
theorem rev_own (w : World) (base n : Nat) (v : Value) (l : List UInt8) (h : BOwns w base v n l) (hne : l ≠ []) (hl : l.length ≤ 1000000) :
    Calls Try.prog 21 #[v] w fun e w' => e = .returned (.tuple #[]) ∧ Byt w' v l.reverse ∧ ∀ w0 : World, Below w0.heap.size w0 w → w0.heap.size ≤ base → Below w0.heap.size w0 w' := by
  have hn := h.len
  have hby := h.byt
  rcases h.2 with ⟨_, h0⟩ | ⟨g, cap, cur, rfl, hbg, hg, hnc, hcm, hcs, ht⟩
  · exact absurd (List.eq_nil_of_length_eq_zero (hn.trans h0)) hne
  · subst hn
    have hH : Go.Sort.Holds encB w g 0 l.toArray := by
      intro j hj
      have hj' : j < l.length := by simpa using hj
      constructor
      · obtain ⟨A, c, e, _, _, hli⟩ := hby
        injection e with e1 e2 e3
        subst e1
        rcases hli with h | ⟨g2, o2, e4, _, hc⟩
        · have := congrArg List.length h
          rw [u8s_len] at this
          have h0 : l.length = 0 := this
          omega
        · injection e4 with e4
          have := hc j (encB l[j]) (by unfold u8s; rw [List.getElem?_map, List.getElem?_eq_getElem hj']; rfl)
          injection e4 with e5 e6
          rw [← e5, ← e6] at this
          rw [this]
          congr 2
          simp [hj']
      · simp [World.frozen?, hg]
    refine (Try.slices_Reverse g 0 cap l w hH (by omega)).mono ?_
    rintro e w' ⟨rfl, m, rfl⟩
    refine ⟨rfl, ⟨some ⟨g, 0, none⟩, cap, by rw [List.length_reverse], by rw [List.length_reverse]; exact hnc, hcm, .inr ⟨g, 0, rfl, ?_, fun j x hx => ?_⟩⟩, fun w0 hb0 hs => putRow_below m hb0 (by omega)⟩
    · rw [Go.Sort.size_putRow]
      exact (Array.getElem?_eq_some_iff.1 hg).1
    · have hj : j < l.reverse.length := by
        have := (List.getElem?_eq_some_iff.1 hx).1
        rw [u8s_len] at this
        exact this
      have hx2 : x = encB l.reverse[j] := by
        unfold u8s at hx
        rw [List.getElem?_map, List.getElem?_eq_getElem hj] at hx
        injection hx with hx
        exact hx.symm
      have hH2 : Go.Sort.Holds encB (Go.Sort.ahead w m) g 0 l.toArray := hH
      have := Go.Sort.cell?_putRow encB (Go.Sort.ahead w m) g 0 l.toArray l.reverse.toArray hH2 (by simp) j (by simpa using hj)
      rw [this, hx2]
      congr 2
      have hj2 : j < l.reverse.toArray.size := by simpa using hj
      rw [getElem!_pos l.reverse.toArray j hj2]
      simp
end Go.Proofs.Ytlkjopbgobkgmaa
