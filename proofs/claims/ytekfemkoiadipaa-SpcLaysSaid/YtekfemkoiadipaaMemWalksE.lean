/- Contracts of New, cellCode, Fetch, FetchByte, Mark and Free of package mem, and of the document's own. -/
import Derived.Test.YtekfemkoiadipaaMemWalksD
namespace Go.Proofs.Ytekfemkoiadipaa
open Go.RowKit

theorem cellC_no {L : Nat} {p : Int} (h : okB L p 8 = false) : cellC L p = -9 := by unfold cellC; rw [h]; rfl
theorem cellC_align {L : Nat} {p : Int} (h : okB L p 8 = true) (h8 : p % 8 ≠ 0) : cellC L p = -23 := by unfold cellC; rw [if_pos h, if_neg h8]
theorem cellC_ok {L : Nat} {p : Int} (h : okB L p 8 = true) (h8 : p % 8 = 0) : cellC L p = 0 := by unfold cellC; rw [if_pos h, if_pos h8]

set_option maxRecDepth 100000 in
set_option maxHeartbeats 1000000 in
theorem rcellAt_any (A P : Option Addr) (L c K d : Nat) (p : Int) (w : World) (hL : L ≤ 65536) :
    Calls Try.prog 29 #[.agg #[.slice A L c, .slice P K d], .int .i64 p] w fun e w' => e = .returned (.int .i64 (cellC L p)) ∧ Below w.heap.size w w' := by
  cases ok : okB L p 8 with
  | false =>
    have H := Lib.hid (cellC_no ok)
    go_enter Try.func29, Try.ntmps29
    go_wp2_with (go_at_call 31; (with_reducible refine (rthere_any _ _ _ _ _ _ _ _ _ (by omega) (by omega)).mono ?_); rintro e w1 ⟨rfl, b1⟩)
    go_ret
    exact ⟨ret_int H.out.symm, box_below b1⟩
  | true =>
    have hok := (okB_iff _ _ _).1 ok
    have h0 : 0 ≤ p := by omega
    by_cases h8 : p % 8 = 0
    · have H := Lib.hid (cellC_ok ok h8)
      have h8' : (p % 8 != 0) = false := by simp [h8]
      clear h8 hok
      go_enter Try.func29, Try.ntmps29
      go_wp2_with (go_at_call 31; (with_reducible refine (rthere_any _ _ _ _ _ _ _ _ _ (by omega) (by omega)).mono ?_); rintro e w1 ⟨rfl, b1⟩)
      go_ret
      exact ⟨ret_int H.out.symm, box_below b1⟩
    · have H := Lib.hid (cellC_align ok h8)
      have h8' : (p % 8 != 0) = true := by simp [h8]
      clear h8 hok
      go_enter Try.func29, Try.ntmps29
      go_wp2_with (go_at_call 31; (with_reducible refine (rthere_any _ _ _ _ _ _ _ _ _ (by omega) (by omega)).mono ?_); rintro e w1 ⟨rfl, b1⟩)
      go_ret
      exact ⟨ret_int H.out.symm, box_below b1⟩

/-- The byte at a place. -/
def byteF (m : PM) (p : Int) : Int := if okB m.1.length p 1 = true then ((m.1.getD p.toNat 0).toNat : Int) else 0
theorem mem_cell {w : World} {A : Option Addr} {L c : Nat} {y : Value} {m : PM} (h : IsMem w (.agg #[.slice A L c, y]) m) {q : Nat} (hq : q < L) : ∃ g o, A = some ⟨g, o, none⟩ ∧ g < w.heap.size ∧ w.cell? ⟨g, o + q, none⟩ = some (.int .u8 ((m.1.getD q 0).toNat : Int)) ∧ L ≤ c := by
  have hl := h.len1
  have hb := h.byt
  have hlies := hb.lies
  have hc : L ≤ c := by
    obtain ⟨A', c', e, h2, _⟩ := hb
    injection e with _ _ e
    omega
  rcases hlies with e | ⟨g, o, e, hg, hcell⟩
  · have := congrArg List.length e
    rw [u8s_len, hl] at this
    simp at this
    omega
  · refine ⟨g, o, e, hg, hcell q _ ?_, hc⟩
    rw [u8s_at (by omega)]
    simp [List.getD, List.getElem?_eq_getElem (by omega : q < m.1.length)]

end Go.Proofs.Ytekfemkoiadipaa
