/- The walk of SpcLays: all ways. -/
import Derived.Test.YtekfemkoiadipaaSpcLaysB
namespace Go.Proofs.Ytekfemkoiadipaa
open Go.RowKit
set_option linter.unusedVariables false
set_option linter.unusedSimpArgs false

theorem lays_walk (A P Al : Option Addr) (L c K d nl cl : Nat) (m : PM) (l : List (List UInt8)) (p : Int) (w : World) (HM : Hid (IsMem w (.agg #[.slice A L c, .slice P K d]) m)) (HR : Hid (Bts w Al nl cl l)) (hcl : cl ≤ 9223372036854775807) (hlc : nl ≤ cl) :
    Calls Try.prog 4 #[.agg #[.slice A L c, .slice P K d], .int .i64 p, .slice Al nl cl] w fun e w' => e = .returned (.bool true) ∧ Below w.heap.size w w' := by
  cases hmay : (fewB m 600 && rightB m) with
  | false => exact lays_early A P Al L c K d nl cl m l p w HM HR hcl hlc (.inl hmay)
  | true =>
    cases hp : endB L p with
    | false => exact lays_early A P Al L c K d nl cl m l p w HM HR hcl hlc (.inr ⟨hmay, .inl hp⟩)
    | true =>
      by_cases h10 : 10 < nl
      · exact lays_early A P Al L c K d nl cl m l p w HM HR hcl hlc (.inr ⟨hmay, .inr ⟨hp, h10⟩⟩)
      · obtain ⟨hL, hK, _⟩ := may_parts hmay
        rw [HM.out.len1] at hL
        rw [HM.out.len2] at hK
        obtain ⟨p0, p1⟩ := (endB_iff _ _).1 hp
        obtain ⟨pn, rfl⟩ := Int.eq_ofNat_of_zero_le p0
        exact lays_loop A P Al L c K d nl cl m l pn w HM HR hcl hlc hmay hp hL hK (by omega) (by omega)
theorem Bts.cap {w : World} {A : Option Addr} {n c : Nat} {l : List (List UInt8)} (h : Bts w A n c l) : c ≤ 9223372036854775807 := by
  have h3 : maxLen ≤ 9223372036854775807 := by decide
  have := h.2.2.1
  omega
end Go.Proofs.Ytekfemkoiadipaa
