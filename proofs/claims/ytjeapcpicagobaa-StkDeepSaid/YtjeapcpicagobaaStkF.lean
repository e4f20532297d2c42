/- Contracts of picked and rolled of package stk. -/
import Derived.Test.YtjeapcpicagobaaStkE
import Derived.Deep.RegionHeld3
namespace Go.Proofs.Ytjeapcpicagobaa
open Go.RowKit
set_option linter.unusedVariables false
set_option linter.unusedSimpArgs false

set_option maxRecDepth 100000 in
set_option maxHeartbeats 4000000 in
theorem picked_none (A : Option Addr) (c : Nat) (w : World) (HR : Hid (Row w A 0 c [])) :
    Calls Try.prog 26 #[.slice A 0 c] w fun e w' => e = .returned (.tuple #[.slice none 0 0, .int .i64 (-4)]) ∧ Below w.heap.size w w' := by
  go_enter Try.func26, Try.ntmps26
  go_wp2_with fail
  refine (numbered_none _ _ _ HR).mono ?_
  rintro e w1 ⟨rfl, bb⟩
  go_wp2_with fail
  go_ret2
  exact ⟨rfl, bb⟩
set_option maxRecDepth 100000 in
set_option maxHeartbeats 4000000 in
theorem rolled_none (A : Option Addr) (c : Nat) (w : World) (HR : Hid (Row w A 0 c [])) :
    Calls Try.prog 27 #[.slice A 0 c] w fun e w' => e = .returned (.tuple #[.slice none 0 0, .int .i64 (-4)]) ∧ Below w.heap.size w w' := by
  go_enter Try.func27, Try.ntmps27
  go_wp2_with fail
  refine (numbered_none _ _ _ HR).mono ?_
  rintro e w1 ⟨rfl, bb⟩
  go_wp2_with fail
  go_ret2
  exact ⟨rfl, bb⟩
set_option maxRecDepth 100000 in
set_option maxHeartbeats 4000000 in
theorem picked_out (A : Option Addr) (k c : Nat) (l : List Int) (y : Int) (w : World) (hn : k + 1 ≤ 65536) (hy : y < 0 ∨ (k : Int) ≤ y) (HR : Hid (Row w A (k + 1) c l)) (HY : Hid (l.getD k 0 = y)) :
    Calls Try.prog 26 #[.slice A (k + 1) c] w fun e w' => e = .returned (.tuple #[.slice none 0 0, .int .i64 (-4)]) ∧ Below w.heap.size w w' := by
  go_enter Try.func26, Try.ntmps26
  go_wp2_with fail
  refine (numbered_out _ _ _ _ y _ hn hy HR HY).mono ?_
  rintro e w1 ⟨rfl, bb⟩
  go_wp2_with fail
  go_ret2
  exact ⟨rfl, bb⟩
set_option maxRecDepth 100000 in
set_option maxHeartbeats 4000000 in
theorem rolled_out (A : Option Addr) (k c : Nat) (l : List Int) (y : Int) (w : World) (hn : k + 1 ≤ 65536) (hy : y < 0 ∨ (k : Int) ≤ y) (HR : Hid (Row w A (k + 1) c l)) (HY : Hid (l.getD k 0 = y)) :
    Calls Try.prog 27 #[.slice A (k + 1) c] w fun e w' => e = .returned (.tuple #[.slice none 0 0, .int .i64 (-4)]) ∧ Below w.heap.size w w' := by
  go_enter Try.func27, Try.ntmps27
  go_wp2_with fail
  refine (numbered_out _ _ _ _ y _ hn hy HR HY).mono ?_
  rintro e w1 ⟨rfl, bb⟩
  go_wp2_with fail
  go_ret2
  exact ⟨rfl, bb⟩

theorem take_getD {l : List Int} {k p : Nat} (h : p < k) : (l.take k).getD p 0 = l.getD p 0 := by
  simp [List.getD, List.getElem?_take, h]

set_option maxRecDepth 100000 in
set_option maxHeartbeats 4000000 in
theorem picked_ok (A : Option Addr) (p y c : Nat) (l : List Int) (w : World) (hn : p + y + 2 ≤ 65536) (HR : Hid (Row w A (p + 1 + y + 1) c l)) (HY : Hid (l.getD (p + 1 + y) 0 = (y : Int))) :
    Calls Try.prog 26 #[.slice A (p + 1 + y + 1) c] w fun e w' => ∃ B m d, e = .returned (.tuple #[.slice B m d, .int .i64 0]) ∧ Row w' B m d (l.take (p + 1 + y) ++ [l.getD p 0]) ∧ Below w.heap.size w w' := by
  obtain ⟨x, hx⟩ : ∃ x, l.getD p 0 = x := ⟨_, rfl⟩
  rw [hx]
  have HX := Lib.hid hx
  clear hx
  go_enter Try.func26, Try.ntmps26
  go_wp2_with fail
  refine (numbered_ok _ p y _ l _ hn HR HY).mono ?_
  rintro e w1 ⟨B, d, rfl, hr, bb⟩
  obtain ⟨g, o, rfl, hg, hce⟩ := hr.cells (by omega)
  have kc := hce p (by omega)
  rw [take_getD (by omega), HX.out] at kc
  have HR1 := Lib.hid hr
  have B1 := Lib.hid bb
  have hp : (p : Int) < (p : Int) + 1 + (y : Int) := by omega
  clear hr hce bb
  go_wp2_with fail
  refine (with_any _ _ _ x _ _ (by omega) HR1).mono ?_
  rintro e w2 ⟨g, rfl, ho, b2⟩
  have HO := Lib.hid ho.row
  clear ho
  go_wp2_with fail
  go_ret2
  obtain ⟨B, d, e, hr⟩ := HO.out
  injection e with e1 e2 e3
  subst e1 e3
  exact ⟨_, _, _, rfl, hr, below_then B1.out b2⟩

set_option maxRecDepth 100000 in
set_option maxHeartbeats 8000000 in
theorem rolled_ok (A : Option Addr) (p y c : Nat) (l : List Int) (w : World) (hn : p + y + 2 ≤ 65536) (HR : Hid (Row w A (p + 1 + y + 1) c l)) (HY : Hid (l.getD (p + 1 + y) 0 = (y : Int))) :
    Calls Try.prog 27 #[.slice A (p + 1 + y + 1) c] w fun e w' => ∃ B m d, e = .returned (.tuple #[.slice B m d, .int .i64 0]) ∧ Row w' B m d ((l.take p ++ (l.take (p + 1 + y)).drop (p + 1)) ++ [l.getD p 0]) ∧ Below w.heap.size w w' := by
  obtain ⟨x, hx⟩ : ∃ x, l.getD p 0 = x := ⟨_, rfl⟩
  rw [hx]
  have HX := Lib.hid hx
  clear hx
  go_enter Try.func27, Try.ntmps27
  go_wp2_with fail
  refine (numbered_ok _ p y _ l _ hn HR HY).mono ?_
  rintro e w1 ⟨B, d, rfl, hr, bb⟩
  have hd1 : (p : Int) ≤ (d : Int) := by have := hr.2.1; omega
  have hd2 : (d : Int) ≤ 9223372036854775807 := by have := hr.2.2.1; unfold maxLen at this; omega
  have HT : Hid (Row w1 B p d (l.take p)) := by
    have := hr.high (k := p) (by omega)
    rwa [List.take_take, Nat.min_eq_left (by omega)] at this
  have HD : Hid (Row w1 (restAt B (p + 1) d) y (d - (p + 1)) ((l.take (p + 1 + y)).drop (p + 1))) := by
    have := hr.rest (k := p + 1) (by omega)
    rwa [show p + 1 + y - (p + 1) = y by omega] at this
  have hsl : ∀ w, (Instr.slice 22 (.slice B (p + 1 + y) d) (some (.int .i64 ((p : Int) + 1))) none none).run Try.prog w = .ok (.slice (restAt B (p + 1) d) y (d - (p + 1))) w := fun w => by
    have := run_rest (A := B) (c := d) w (show p + 1 ≤ p + 1 + y by omega)
    rwa [show p + 1 + y - (p + 1) = y by omega] at this
  have hw1 : IntKind.i64.wrap ((p : Int) + 1) = (p : Int) + 1 := IntWalk.i64_in _ (by omega)
  have hw2 : (0 : Int) ≤ (p : Int) + 1 := by omega
  obtain ⟨R, hRe⟩ : ∃ R, restAt B (p + 1) d = R := ⟨_, rfl⟩
  obtain ⟨q, hqe⟩ : ∃ q, d - (p + 1) = q := ⟨_, rfl⟩
  rw [hRe, hqe] at hsl HD
  obtain ⟨g, o, hB, hg, hce⟩ := hr.cells (by omega)
  have kc := hce p (by omega)
  rw [take_getD (by omega), HX.out] at kc
  have HKC := Lib.hid kc
  have HBe := Lib.hid hB
  have HG := Lib.hid hg
  have B1 := Lib.hid bb
  have hp : (p : Int) < (p : Int) + 1 + (y : Int) := by omega
  have SD : Hid (∀ a, Since w1 a → Since w1 a.drew) := Lib.hid fun a h => h.drew
  clear hr hce bb kc hB hg hRe hqe
  go_wp2_with fail
  refine wp_region_noPanic ?_
  go_region_held3 (fun a => Since w1 a) (first | assumption | exact SD.out _ (Below.refl _ _))
    (first
      | (go_at_call 18; have s4 : Since w1 _ := (by assumption); ((with_reducible refine (own_any _ _ _ (l.take p) _ (by omega) (Lib.hid (HT.out.keep s4.bel))).mono ?_); rintro e w5 ⟨g5, rfl, ho, b5⟩; have s5 := s4.then b5; have HO := Lib.hid ho; clear ho s4))
      | ((refine step_app rfl _ _ rfl w1.heap.size (.slice (some ⟨g5, 0, none⟩) p p) p (l.take p) rfl HO.out R y q _ rfl (HD.out.keep s5.bel) (by omega) s5.bel.size w1 s5.bel (Nat.le_refl _) ?_; intro v1 w6 ho b1; have s6 : Since w1 w6 := b1; have HO2 := Lib.hid ho; clear ho b1)))
  all_goals (refine NoPanic.normal ?_)
  all_goals (have z := HBe.out; subst z; clear HBe)
  all_goals (have kc := s6.cell HG.out HKC.out)
  all_goals (have HS6 := Lib.hid s6; have HG6 := Lib.hid (below_then B1.out s6); clear s6)
  all_goals go_wp2_with (at_builtin; (refine wpList_app rfl _ _ rfl w1.heap.size v1 (p + y) _ rfl (HO2.out.alloc _) (some ⟨w6.heap.size, 0, none⟩) 1 1 [x] rfl (one_row w6 x) (by omega) (by have := HS6.out.bel.size; simp; omega) w1 (below_then HS6.out.bel (below_one _ _)) (Nat.le_refl _) ?_; intro v2 w7 ho b2; (obtain ⟨B2, d2, rfl, hr⟩ := ho.row); have HO3 := Lib.hid hr; have HB3 := Lib.hid b2; clear ho hr b2))
  all_goals go_ret2
  all_goals exact ⟨_, _, _, rfl, HO3.out, below_then B1.out HB3.out⟩
end Go.Proofs.Ytjeapcpicagobaa
