/- Plain facts on cells that are laid. -/
import Derived.Test.YtekfemkoiadipaaSpcMath
namespace Go.Proofs.Ytekfemkoiadipaa
open Go.RowKit
set_option linter.unusedVariables false
set_option linter.unusedSimpArgs false

theorem bn_far (m : PM) (q : Int) (b : List UInt8) (k : Nat) (h : okB m.1.length q b.length = true) (hk : (k : Int) < q ∨ q + (b.length : Int) ≤ (k : Int)) : bn (writeF m q b) k = bn m k := by
  unfold bn
  by_cases hb : b = []
  · subst hb; rw [writeF_nil]
  rw [writeF_row h]
  have n := okB_nat h hb
  have e := splice_get m.1 b q.toNat k n.2
  rw [if_neg (by omega)] at e
  unfold layF List.getD
  rw [e]
theorem fetch_far (m : PM) (p q : Int) (b : List UInt8) (h : okB m.1.length q b.length = true) (p0 : 0 ≤ p) (hp : p + 8 ≤ q) : fetchF (writeF m q b) p = fetchF m p := by
  unfold fetchF
  rw [writeF_len, bn_far m q b _ h (by omega), bn_far m q b _ h (by omega), bn_far m q b _ h (by omega), bn_far m q b _ h (by omega), bn_far m q b _ h (by omega), bn_far m q b _ h (by omega), bn_far m q b _ h (by omega), bn_far m q b _ h (by omega)]
theorem mul8_of {m : PM} (h : rightB m = true) : m.1.length % 8 = 0 := by
  unfold rightB at h
  simp only [Bool.and_eq_true, decide_eq_true_eq] at h
  exact h.1.2
theorem up_room {L : Nat} {p : Int} (hL : L % 8 = 0) (he : endB L p = true) : roomB L p (misN p) = true := by
  have a := (endB_iff _ _).1 he
  have b := misN_int p
  exact (roomB_iff _ _ _).2 (by omega)
theorem mis_up (p : Int) : (p + (misN p : Int)) % 8 = 0 := by
  have b := misN_int p
  omega
theorem mis_zero {t : Int} (h : t % 8 = 0) : misN t = 0 := by
  have b := misN_int t
  omega
theorem lay_none (m : PM) (t : Int) : layM m t [] = m := by
  unfold layM
  split
  · exact writeF_nil
  · rfl
theorem up_none {m : PM} {t : Int} (h : t % 8 = 0) : layM m t (upB t) = m := by
  unfold upB
  rw [mis_zero h]
  exact lay_none m t
/-- What is laid by AlignUp is 0. -/
theorem up_byte {m : PM} {p : Int} (he : endB m.1.length p = true) (hr : roomB m.1.length p (misN p) = true) (q : Nat) (h0 : p ≤ (q : Int)) (h1 : (q : Int) < p + (misN p : Int)) : (layM m p (upB p)).1.getD q 0 = 0 := by
  rw [layM_row he (by rw [upB_len]; exact hr)]
  have a := (endB_iff _ _).1 he
  have b := (roomB_iff _ _ _).1 hr
  have e := splice_get m.1 (upB p) p.toNat q (by rw [upB_len]; omega)
  rw [if_pos (by rw [upB_len]; omega)] at e
  unfold List.getD
  rw [e]
  unfold upB
  rw [List.getElem?_replicate]
  split <;> rfl
theorem cell_ok8 {L : Nat} {t : Int} (h8 : t % 8 = 0) (he : endB L t = true) (hr : roomB L t 8 = true) : okB L t 8 = true ∧ cellC L t = 0 := by
  have ok := room_ok he hr
  exact ⟨ok, cellC_ok ok h8⟩
theorem com_eq {m : PM} {t n : Int} (h8 : t % 8 = 0) (hr : roomB m.1.length t 8 = true) : comM m t n = writeF m t (cellBytes n) := by
  rw [comM_yes h8, layM_yes hr]
theorem com_store {m : PM} {t n : Int} (h8 : t % 8 = 0) (he : endB m.1.length t = true) (hr : roomB m.1.length t 8 = true) : comM m t n = storeF m t n := by
  rw [com_eq h8 hr]
  unfold storeF
  rw [if_pos (cell_ok8 h8 he hr).2]
theorem com_len (m : PM) (t n : Int) : (comM m t n).1.length = m.1.length := by
  unfold comM
  split
  · exact layM_len _ _ _
  · rfl
theorem com_pats (m : PM) (t n : Int) : (comM m t n).2.length ≤ m.2.length + 1 := by
  unfold comM
  split
  · exact layM_pats _ _ _
  · omega
end Go.Proofs.Ytekfemkoiadipaa
