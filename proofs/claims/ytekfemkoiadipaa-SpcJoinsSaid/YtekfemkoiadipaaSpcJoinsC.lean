/- The walk of SpcJoins: all ways. -/
import Derived.Test.YtekfemkoiadipaaSpcJoinsB
namespace Go.Proofs.Ytekfemkoiadipaa
open Go.RowKit
set_option linter.unusedVariables false
set_option linter.unusedSimpArgs false

theorem joins_walk (A P Ab Ac : Option Addr) (L c K d nb cb nc cc : Nat) (m : PM) (bs cs : List UInt8) (p : Int) (w : World) (HM : Hid (IsMem w (.agg #[.slice A L c, .slice P K d]) m)) (HU : Hid (Byt w (.slice Ab nb cb) bs)) (HV : Hid (Byt w (.slice Ac nc cc) cs)) (hnb : nb ≤ 9223372036854775807) (hnc : nc ≤ 9223372036854775807) :
    Calls Try.prog 7 #[.agg #[.slice A L c, .slice P K d, .int .i64 p, .slice Ab nb cb, .slice Ac nc cc]] w fun e w' => e = .returned (.bool true) ∧ Below w.heap.size w w' := by
  cases hmay : (fewB m 600 && rightB m) with
  | false => exact joins_early A P Ab Ac L c K d nb cb nc cc m bs cs p w HM HU HV hnb hnc (.inl hmay)
  | true =>
    obtain ⟨hL, hK, HRi⟩ := may_parts hmay
    rw [HM.out.len1] at hL
    rw [HM.out.len2] at hK
    cases hp : endB L p with
    | false => exact joins_early A P Ab Ac L c K d nb cb nc cc m bs cs p w HM HU HV hnb hnc (.inr ⟨hmay, .inl hp⟩)
    | true =>
      by_cases n1 : 100 < nb
      · exact joins_early A P Ab Ac L c K d nb cb nc cc m bs cs p w HM HU HV hnb hnc (.inr ⟨hmay, .inr ⟨hp, .inl n1⟩⟩)
      by_cases n2 : 100 < nc
      · exact joins_early A P Ab Ac L c K d nb cb nc cc m bs cs p w HM HU HV hnb hnc (.inr ⟨hmay, .inr ⟨hp, .inr ⟨by omega, n2⟩⟩⟩)
      have h1 : decide ((100 : Int) < (nb : Int)) = false := by simp; omega
      have h2 : decide ((100 : Int) < (nc : Int)) = false := by simp; omega
      obtain ⟨p0, p1⟩ := (endB_iff _ _).1 hp
      cases hr : roomB L p nb with
      | false => exact joins_no A P Ab Ac L c K d nb cb nc cc m bs cs p w HM HU HV hnb hnc hmay hp h1 h2 hL hK hr (by have := (roomB_no _ _ _).1 hr; omega) p0 p1
      | true =>
        have e1 := HM.out.len1
        have e2 := HM.out.len2
        have eb := HU.out.len
        have ec := HV.out.len
        have hp2 : endB L (p + (nb : Int)) = true := end_on hp hr
        have xl : (layM m p bs).1.length = L := (layM_len _ _ _).trans e1
        have xk : (layM m p bs).2.length ≤ K + 1 := by rw [← e2]; exact layM_pats _ _ _
        have yl : (layM (layM m p bs) (p + (nb : Int)) cs).1.length = L := (layM_len _ _ _).trans xl
        have hj : ∀ (w1 : World) (v : Value), IsMem w1 (.agg #[.slice A L c, .slice P K d]) m → Byt w1 v (bs ++ cs) → Calls Try.prog 13 #[.agg #[.slice A L c, .slice P K d], .int .i64 p, v] w1 fun e w' => ∃ A' L' c' P' K' d', e = .returned (.tuple #[.agg #[.slice A' L' c', .slice P' K' d'], .int .i64 (layP L p (nb + nc)), .int .i64 (layC L p (nb + nc))]) ∧ IsMem w' (.agg #[.slice A' L' c', .slice P' K' d']) (layM m p (bs ++ cs)) ∧ Below w1.heap.size w1 w' := by
          intro w1 v hm hb
          obtain ⟨B, e, rfl⟩ := hb.form_len (n := nb + nc) (by rw [List.length_append, eb, ec])
          exact lay_at A P B L c K d (nb + nc) e m (bs ++ cs) p w1 hm hb (by omega) (by omega) hp (by omega)
        cases hr2 : roomB L (p + (nb : Int)) nc with
        | true =>
          have hr3 : roomB L p (nb + nc) = true := by rw [room_two]; exact hr2
          refine joins_yes A P Ab Ac L c K d nb cb nc cc m bs cs p w HM HU HV hnb hnc hmay hp h1 h2 hL hK _ _ (layM m p (bs ++ cs)) _ _ rfl rfl xl xk yl hr hp2 rfl rfl p0 p1 (by omega) (by omega) ?_ ?_ (layC_yes hr2)
          · intro w1 v hm hb
            have := hj w1 v hm hb
            rw [layP_yes hr3, layC_yes hr3] at this
            rw [layP_yes hr2, layC_yes hr2, show p + (nb : Int) + (nc : Int) = p + ((nb + nc : Nat) : Int) by omega]
            exact this
          · have := lay_lay m p bs cs (by rw [e1]; exact hp) (by rw [e1, eb]; exact hr) (by rw [e1, eb, ec]; exact hr2)
            rw [eb] at this
            exact this
        | false =>
          have hr3 : roomB L p (nb + nc) = false := by rw [room_two]; exact hr2
          refine joins_nor p A P Ab Ac L c K d nb cb nc cc m bs cs p w HM HU HV hnb hnc hmay hp h1 h2 hL hK _ _ (layM m p (bs ++ cs)) _ _ rfl rfl xl xk yl hr hp2 rfl rfl p0 p1 (by omega) (by omega) ?_ (layC_no hr2)
          intro w1 v hm hb
          have := hj w1 v hm hb
          rw [layP_no hr3, layC_no hr3] at this
          rw [layC_no hr2]
          exact this
end Go.Proofs.Ytekfemkoiadipaa
