/- Contracts of doubled, numbered, picked and rolled of package stk. -/
import Derived.Test.YtjeapcpicagobaaStkB
import Derived.Deep.RegionLaw
namespace Go.Proofs.Ytjeapcpicagobaa
open Go.RowKit
set_option linter.unusedVariables false
set_option linter.unusedSimpArgs false

theorem pop_none (A : Option Addr) (c : Nat) (w : World) (HR : Hid (Row w A 0 c [])) :
    Calls Try.prog 11 #[.slice A 0 c] w fun e w' => ∃ B m d, e = .returned (.tuple #[.int .i64 0, .slice B m d, .int .i64 (-4)]) ∧ Row w' B m d [] ∧ Below w.heap.size w w' := pop_at A 0 c [] w (by omega) HR
theorem pop_one (A : Option Addr) (k c : Nat) (l : List Int) (y : Int) (w : World) (hn : k + 1 ≤ 65536) (HR : Hid (Row w A (k + 1) c l)) (HY : Hid (l.getD k 0 = y)) :
    Calls Try.prog 11 #[.slice A (k + 1) c] w fun e w' => ∃ B d, e = .returned (.tuple #[.int .i64 y, .slice B k d, .int .i64 0]) ∧ Row w' B k d (l.take k) ∧ Below w.heap.size w w' := by
  obtain ⟨h1, h2, h3⟩ := pop_some HR.out.1
  refine (pop_at A (k + 1) c l w hn HR).mono ?_
  rintro e w' ⟨B, m, d, rfl, hr, hb⟩
  rw [h2] at hr
  have hm : k = m := by
    have := hr.1
    have hl := HR.out.1
    simp at this
    omega
  subst hm
  rw [h1, h3, HY.out]
  exact ⟨_, _, rfl, hr, hb⟩

set_option maxRecDepth 100000 in
set_option maxHeartbeats 4000000 in
theorem doubled_none (A : Option Addr) (c : Nat) (w : World) (HR : Hid (Row w A 0 c [])) :
    Calls Try.prog 25 #[.slice A 0 c] w fun e w' => ∃ B m d, e = .returned (.tuple #[.slice B m d, .int .i64 (-4)]) ∧ Row w' B m d [] ∧ Below w.heap.size w w' := by
  go_enter Try.func25, Try.ntmps25
  go_wp2_with fail
  refine (pop_none _ _ _ HR).mono ?_
  rintro e w1 ⟨B, m, d, rfl, hr, bb⟩
  have B1 := Lib.hid bb
  clear hr bb
  go_wp2_with fail
  refine (own_any _ _ _ [] _ (by omega) (Lib.hid (HR.out.keep B1.out))).mono ?_
  rintro e w2 ⟨g, rfl, ho, b2⟩
  have HO := Lib.hid ho.row
  clear ho
  go_wp2_with fail
  go_ret2
  obtain ⟨B, d, e, hr⟩ := HO.out
  injection e with e1 e2 e3
  subst e1 e3
  exact ⟨_, _, _, rfl, hr, below_then B1.out b2⟩

set_option maxRecDepth 100000 in
set_option maxHeartbeats 4000000 in
theorem doubled_zero (A : Option Addr) (k c : Nat) (l : List Int) (w : World) (hn : k + 1 ≤ 65536) (HR : Hid (Row w A (k + 1) c l)) (HY : Hid (l.getD k 0 = 0)) :
    Calls Try.prog 25 #[.slice A (k + 1) c] w fun e w' => ∃ B m d, e = .returned (.tuple #[.slice B m d, .int .i64 0]) ∧ Row w' B m d l ∧ Below w.heap.size w w' := by
  go_enter Try.func25, Try.ntmps25
  go_wp2_with fail
  refine (pop_one _ _ _ _ _ _ hn HR HY).mono ?_
  rintro e w1 ⟨B, d, rfl, hr, bb⟩
  have B1 := Lib.hid bb
  clear hr bb
  go_wp2_with fail
  refine (own_any _ _ _ l _ hn (Lib.hid (HR.out.keep B1.out))).mono ?_
  rintro e w2 ⟨g, rfl, ho, b2⟩
  have HO := Lib.hid ho.row
  clear ho
  go_wp2_with fail
  go_ret2
  obtain ⟨B, d, e, hr⟩ := HO.out
  injection e with e1 e2 e3
  subst e1 e3
  exact ⟨_, _, _, rfl, hr, below_then B1.out b2⟩

set_option maxRecDepth 100000 in
set_option maxHeartbeats 4000000 in
theorem doubled_other (A : Option Addr) (k c : Nat) (l : List Int) (y : Int) (w : World) (hn : k + 1 ≤ 65536) (hy : (y == 0) = false) (HR : Hid (Row w A (k + 1) c l)) (HY : Hid (l.getD k 0 = y)) :
    Calls Try.prog 25 #[.slice A (k + 1) c] w fun e w' => ∃ B m d, e = .returned (.tuple #[.slice B m d, .int .i64 0]) ∧ Row w' B m d (l ++ [y]) ∧ Below w.heap.size w w' := by
  go_enter Try.func25, Try.ntmps25
  go_wp2_with fail
  refine (pop_one _ _ _ _ _ _ hn HR HY).mono ?_
  rintro e w1 ⟨B, d, rfl, hr, bb⟩
  have B1 := Lib.hid bb
  clear hr bb
  go_wp2_with fail
  refine (with_any _ _ _ y l _ hn (Lib.hid (HR.out.keep B1.out))).mono ?_
  rintro e w2 ⟨g, rfl, ho, b2⟩
  have HO := Lib.hid ho.row
  clear ho
  go_wp2_with fail
  go_ret2
  obtain ⟨B, d, e, hr⟩ := HO.out
  injection e with e1 e2 e3
  subst e1 e3
  exact ⟨_, _, _, rfl, hr, below_then B1.out b2⟩

set_option maxRecDepth 100000 in
set_option maxHeartbeats 4000000 in
theorem numbered_none (A : Option Addr) (c : Nat) (w : World) (HR : Hid (Row w A 0 c [])) :
    Calls Try.prog 29 #[.slice A 0 c] w fun e w' => e = .returned (.tuple #[.slice none 0 0, .int .i64 0, .int .i64 (-4)]) ∧ Below w.heap.size w w' := by
  go_enter Try.func29, Try.ntmps29
  go_wp2_with fail
  refine (pop_none _ _ _ HR).mono ?_
  rintro e w1 ⟨B, m, d, rfl, hr, bb⟩
  clear hr
  go_wp2_with fail
  go_ret3
  exact ⟨rfl, bb⟩

set_option maxRecDepth 100000 in
set_option maxHeartbeats 4000000 in
theorem numbered_out (A : Option Addr) (k c : Nat) (l : List Int) (y : Int) (w : World) (hn : k + 1 ≤ 65536) (hy : y < 0 ∨ (k : Int) ≤ y) (HR : Hid (Row w A (k + 1) c l)) (HY : Hid (l.getD k 0 = y)) :
    Calls Try.prog 29 #[.slice A (k + 1) c] w fun e w' => e = .returned (.tuple #[.slice none 0 0, .int .i64 0, .int .i64 (-4)]) ∧ Below w.heap.size w w' := by
  by_cases h : y < 0
  · clear hy
    go_enter Try.func29, Try.ntmps29
    go_wp2_with fail
    refine (pop_one _ _ _ _ _ _ hn HR HY).mono ?_
    rintro e w1 ⟨B, d, rfl, hr, bb⟩
    clear hr
    go_wp2_with fail
    go_ret3
    exact ⟨rfl, bb⟩
  · have h1 : decide (y < 0) = false := by simp; omega
    have h2 : (k : Int) ≤ y := by omega
    clear hy h
    go_enter Try.func29, Try.ntmps29
    go_wp2_with fail
    refine (pop_one _ _ _ _ _ _ hn HR HY).mono ?_
    rintro e w1 ⟨B, d, rfl, hr, bb⟩
    clear hr
    go_wp2_with fail
    go_ret3
    exact ⟨rfl, bb⟩

set_option maxRecDepth 100000 in
set_option maxHeartbeats 4000000 in
theorem numbered_ok (A : Option Addr) (p y c : Nat) (l : List Int) (w : World) (hn : p + y + 2 ≤ 65536) (HR : Hid (Row w A (p + 1 + y + 1) c l)) (HY : Hid (l.getD (p + 1 + y) 0 = (y : Int))) :
    Calls Try.prog 29 #[.slice A (p + 1 + y + 1) c] w fun e w' => ∃ B d, e = .returned (.tuple #[.slice B (p + 1 + y) d, .int .i64 (p : Int), .int .i64 0]) ∧ Row w' B (p + 1 + y) d (l.take (p + 1 + y)) ∧ Below w.heap.size w w' := by
  have h1 : decide ((y : Int) < 0) = false := by simp
  have h2 : decide ((p : Int) + 1 + (y : Int) ≤ (y : Int)) = false := by simp; omega
  have h3 : (p : Int) + 1 + (y : Int) - 1 - (y : Int) = (p : Int) := by omega
  go_enter Try.func29, Try.ntmps29
  go_wp2_with fail
  refine (pop_one _ _ _ _ _ _ (by omega) HR HY).mono ?_
  rintro e w1 ⟨B, d, rfl, hr, bb⟩
  have HR1 := Lib.hid hr
  clear hr
  go_wp2_with fail
  go_ret3
  exact ⟨_, _, rfl, HR1.out, bb⟩
end Go.Proofs.Ytjeapcpicagobaa
