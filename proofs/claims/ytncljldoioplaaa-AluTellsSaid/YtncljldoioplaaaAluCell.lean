/- Contracts of the functions of package cell that package alu calls: ULess, leansUp, Div. -/
import Derived.Test.YtncljldoioplaaaRows
import Derived.Test.YtncljldoioplaaaMathB
import Derived.WalkKit
import Derived.WalkSpells
import Derived.WalkLawsBesides
import Derived.Deep.QuietTactic
import Derived.BigQuiet
import Derived.Lib.Hide
namespace Go.Proofs.Ytncljldoioplaaa
open Go.RowKit

theorem ret_int {k : IntKind} {a b : Int} (h : a = b) : Ending.returned (.int k a) = .returned (.int k b) := by rw [h]
theorem ret_bool {a b : Bool} (h : a = b) : Ending.returned (.bool a) = .returned (.bool b) := by rw [h]
theorem ret_two {k l : IntKind} {a b c d : Int} (h : a = c) (g : b = d) : Ending.returned (.tuple #[.int k a, .int l b]) = .returned (.tuple #[.int k c, .int l d]) := by rw [h, g]
theorem ret_three {k l m : IntKind} {a b c d e f : Int} (h : a = d) (g : b = e) (i : c = f) : Ending.returned (.tuple #[.int k a, .int l b, .int m c]) = .returned (.tuple #[.int k d, .int l e, .int m f]) := by rw [h, g, i]
theorem ret_ib {k : IntKind} {a c : Int} {b d : Bool} (h : a = c) (g : b = d) : Ending.returned (.tuple #[.int k a, .bool b]) = .returned (.tuple #[.int k c, .bool d]) := by rw [h, g]
theorem drew_below (w : World) (n : Nat) : Below w.heap.size w (w.drewN n) := ⟨rfl, rfl, rfl, Nat.le_refl _, fun _ _ => rfl⟩

set_option maxHeartbeats 400000 in
theorem uless_any (a b : Int) (w : World) :
    Calls Try.prog 32 #[.int .i64 a, .int .i64 b] w fun e w' => e = .returned (.bool (decide (un a < un b))) ∧ w = w' := by
  go_enter Try.func32, Try.ntmps32
  go_wp2
  go_ret
  exact ⟨ret_bool (by rw [un_cast, un_cast]; simp), rfl⟩

set_option maxHeartbeats 400000 in
theorem leansUp_any (a b : Int) (w : World) :
    Calls Try.prog 36 #[.int .i64 a, .int .i64 b] w fun e w' => e = .returned (.bool (leans a b)) ∧ w = w' := by
  go_enter Try.func36, Try.ntmps36
  go_wp2
  all_goals go_ret
  · exact ⟨ret_bool (by subst_vars; simp [leans]), rfl⟩
  · exact ⟨ret_bool (by simp [leans, bne]), rfl⟩

set_option maxHeartbeats 400000 in
theorem div_any (a b : Int) (w : World) (ha : cellR a) (hb : cellR b) :
    Calls Try.prog 34 #[.int .i64 a, .int .i64 b] w fun e w' => e = .returned (.tuple #[.int .i64 (dq a b), .int .i64 (dr a b), .int .i64 (dc b)]) ∧ Below w.heap.size w w' := by
  have HA := Lib.hid ha
  have HB := Lib.hid hb
  clear ha hb
  by_cases h : b = 0
  · have hb0 : (b == 0) = true := by simp [h]
    have H := Lib.hid h
    clear h
    go_enter Try.func34, Try.ntmps34
    go_wp2
    go_ret3
    exact ⟨ret_three (by simp [dq, H.out]) (by simp [dr, H.out]) (by simp [dc, H.out]), Below.refl _ _⟩
  · have hb0 : (b == 0) = false := by simp [h]
    by_cases hl : leans (a.tmod b) b = true
    · go_enter Try.func34, Try.ntmps34
      go_wp2
      go_quiet (fail)
      go_wp2_with (go_at_call 36; refine (leansUp_any _ _ _).mono ?_; rintro e w' ⟨rfl, rfl⟩)
      go_ret3
      exact ⟨ret_three (by simp [dq, h, hl]) (by rw [wrap_in (leans_sum a b h HB.out hl)]; simp [dr, h, hl]) (by simp [dc, h]), drew_below _ _⟩
    · replace hl : leans (a.tmod b) b = false := by simpa using hl
      go_enter Try.func34, Try.ntmps34
      go_wp2
      go_quiet (fail)
      go_wp2_with (go_at_call 36; refine (leansUp_any _ _ _).mono ?_; rintro e w' ⟨rfl, rfl⟩)
      go_ret3
      exact ⟨ret_three (by simp [dq, h, hl]) (by simp [dr, h, hl]) (by simp [dc, h]), drew_below _ _⟩
end Go.Proofs.Ytncljldoioplaaa
