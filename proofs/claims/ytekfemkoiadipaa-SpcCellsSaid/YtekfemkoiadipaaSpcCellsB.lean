/- The walk of SpcCells: all ways. -/
import Derived.Test.YtekfemkoiadipaaSpcCellsA
namespace Go.Proofs.Ytekfemkoiadipaa
open Go.RowKit
set_option linter.unusedVariables false
set_option linter.unusedSimpArgs false

theorem cells_walk (A P : Option Addr) (L c K d : Nat) (m : PM) (p ja jb : Int) (w : World) (HM : Hid (IsMem w (.agg #[.slice A L c, .slice P K d]) m)) (ha0 : -9223372036854775808 ≤ ja) (ha1 : ja ≤ 9223372036854775807) (hb0 : -9223372036854775808 ≤ jb) (hb1 : jb ≤ 9223372036854775807) :
    Calls Try.prog 6 #[.agg #[.slice A L c, .slice P K d, .int .i64 p, .int .i64 ja, .int .i64 jb]] w fun e w' => e = .returned (.bool true) ∧ Below w.heap.size w w' := by
  cases hmay : (fewB m 600 && rightB m) with
  | false => exact cells_early A P L c K d m p ja jb w HM (.inl hmay)
  | true =>
    cases hp : endB L p with
    | false => exact cells_early A P L c K d m p ja jb w HM (.inr ⟨hmay, hp⟩)
    | true =>
      obtain ⟨hL, hK, HRi⟩ := may_parts hmay
      have h8L := mul8_of HRi
      have e1 := HM.out.len1
      have e2 := HM.out.len2
      rw [e1] at hL h8L
      rw [e2] at hK
      obtain ⟨p0, p1⟩ := (endB_iff _ _).1 hp
      have hu := up_room h8L hp
      have hui := (roomB_iff _ _ _).1 hu
      have hm8 := misN_lt p
      obtain ⟨tn, htn⟩ := Int.eq_ofNat_of_zero_le (by omega : 0 ≤ p + (misN p : Int))
      have h8 : (tn : Int) % 8 = 0 := by rw [← htn]; exact mis_up p
      have ht : endB L (tn : Int) = true := (endB_iff _ _).2 (by omega)
      have E1 : layP L p (misN p) = (tn : Int) := (layP_yes hu).trans htn
      have z0 := mis_zero h8
      have rz : roomB L (tn : Int) 0 = true := (roomB_iff _ _ _).2 (by omega)
      have E2 : layP L (tn : Int) (misN (tn : Int)) = (tn : Int) := by rw [z0, layP_yes rz]; simp
      have C2 : layC L (tn : Int) (misN (tn : Int)) = 0 := by rw [z0, layC_yes rz]
      have l1 : (layM m p (upB p)).1.length = L := (layM_len _ _ _).trans e1
      have k1 : (layM m p (upB p)).2.length ≤ K + 1 := by rw [← e2]; exact layM_pats _ _ _
      have hb : ∀ q : Nat, p ≤ (q : Int) → q < tn → (layM m p (upB p)).1.getD q 0 = 0 := fun q h0 h1 => up_byte (by rw [e1]; exact hp) (by rw [e1]; exact hu) q h0 (by omega)
      have l2 : (comM (layM m p (upB p)) (tn : Int) ja).1.length = L := (com_len _ _ _).trans l1
      have k2 : (comM (layM m p (upB p)) (tn : Int) ja).2.length ≤ K + 2 := by have := com_pats (layM m p (upB p)) (tn : Int) ja; omega
      cases hr : roomB L (tn : Int) 8 with
      | false =>
        have := (roomB_no _ _ _).1 hr
        exact cells_no A P L c K d m p ja jb w HM _ _ _ tn hmay hp hL hK p0 (by omega) (by omega) (by omega) ht h8 E1 (layC_yes hu) rfl E2 C2 (up_none h8) l1 k1 hb rfl l2 k2 ((comP_yes h8).trans (layP_no hr)) ((comC_yes h8).trans (layC_no hr)) rfl (by omega)
      | true =>
        have r1 := (roomB_iff _ _ _).1 hr
        have h88 : ((tn : Int) + 8) % 8 = 0 := by omega
        have ht8 : endB L ((tn : Int) + 8) = true := (endB_iff _ _).2 (by omega)
        cases hr2 : roomB L ((tn : Int) + 8) 8 with
        | false =>
          have := (roomB_no _ _ _).1 hr2
          exact cells_one A P L c K d m p ja jb w HM _ _ _ tn hmay hp hL hK p0 (by omega) (by omega) (by omega) ht h8 E1 (layC_yes hu) rfl E2 C2 (up_none h8) l1 k1 hb rfl l2 k2 ((comP_yes h8).trans (layP_yes hr)) ((comC_yes h8).trans (layC_yes hr)) ht8 rfl ((comP_yes h88).trans (layP_no hr2)) ((comC_yes h88).trans (layC_no hr2)) (by omega)
        | true =>
          have o1 := cell_ok8 h8 ht hr
          have o2 := cell_ok8 h88 ht8 hr2
          refine cells_two A P L c K d m p ja jb w HM _ _ _ tn hmay hp hL hK p0 (by omega) (by omega) (by omega) ht h8 E1 (layC_yes hu) rfl E2 C2 (up_none h8) l1 k1 hb rfl l2 k2 ((comP_yes h8).trans (layP_yes hr)) ((comC_yes h8).trans (layC_yes hr)) ht8 rfl (((comP_yes h88).trans (layP_yes hr2)).trans ?_) ((comC_yes h88).trans (layC_yes hr2)) ((com_len _ _ _).trans l2) ?_ ?_ o1.2 o2.2
          · show (tn : Int) + 8 + ((8 : Nat) : Int) = _
            omega
          · show fetchF _ _ = _
            rw [com_eq h88 (by rw [l2]; exact hr2), fetch_far _ _ _ _ (by rw [l2, cellBytes_len]; exact o2.1) (by omega) (by omega), com_store h8 (by rw [l1]; exact ht) (by rw [l1]; exact hr)]
            exact fetch_store _ _ _ (by rw [l1]; exact o1.2) ha0 ha1
          · show fetchF _ _ = _
            rw [com_store h88 (by rw [l2]; exact ht8) (by rw [l2]; exact hr2)]
            exact fetch_store _ _ _ (by rw [l2]; exact o2.2) hb0 hb1
end Go.Proofs.Ytekfemkoiadipaa
