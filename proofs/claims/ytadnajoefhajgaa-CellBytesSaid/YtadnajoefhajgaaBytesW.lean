/- The walk of CellBytes' Go text: cells as bytes, and which is below another one without a sign, are as the document says. -/
import Derived.Test.YtadnajoefhajgaaRefA
import Derived.Test.YtadnajoefhajgaaRefE
import Derived.Deep.RegionHeld3
namespace Go.Proofs.Ytadnajoefhajgaa
open Go.RowKit

theorem below_drawn {w w4 : World} (c : Below w.heap.size w w4) : Below w.heap.size w w4.drew := c.trans ⟨rfl, rfl, rfl, Nat.le_refl _, fun _ _ => rfl⟩

set_option maxRecDepth 100000 in
set_option maxHeartbeats 2000000 in
theorem bytes_long (n m : Int) (a : Option Addr) (len cap : Nat) (w : World) (h : 20 < len) :
    Calls Try.prog 3 #[.int .i64 n, .int .i64 m, .slice a len cap] w fun e w' => e = .returned (.bool true) ∧ Below w.heap.size w w' := by
  have h' : (20 : Int) < (len : Int) := by omega
  go_enter Try.func3, Try.ntmps3
  go_wp2_with fail
  refine (shown_any _).mono ?_
  rintro e w1 ⟨rfl, b1⟩
  go_wp2
  go_ret
  exact ⟨rfl, b1⟩

set_option maxRecDepth 100000 in
set_option maxHeartbeats 2000000 in
theorem bytes_core (n m x y : Int) (a : Option Addr) (len cap : Nat) (w : World) (h : len ≤ 20)
    (CG : Hid (∀ w1, Below w.heap.size w w1 → Calls Try.prog 13 #[.slice a len cap] w1 fun e w' => e = .returned (.tuple #[.int .i64 x, .int .i64 y]) ∧ Below w1.heap.size w1 w'))
    (CR : Hid (∀ w1, Below w.heap.size w w1 → Calls Try.prog 14 #[.slice a len cap] w1 fun e w' => e = .returned (.tuple #[.int .i64 x, .int .i64 y]) ∧ w1 = w')) :
    Calls Try.prog 3 #[.int .i64 n, .int .i64 m, .slice a len cap] w fun e w' => e = .returned (.bool true) ∧ Below w.heap.size w w' := by
  have h' : ¬ (20 : Int) < (len : Int) := by omega
  go_enter Try.func3, Try.ntmps3
  go_wp2_with fail
  refine (shown_any _).mono ?_
  rintro e w1 ⟨rfl, b1⟩
  go_wp2_with fail
  refine (CG.out _ b1).mono ?_
  rintro e w2 ⟨rfl, b2⟩
  have c2 := below_then b1 b2
  clear b1 b2
  go_wp2_with fail
  refine (CR.out _ c2).mono ?_
  rintro e w3 ⟨rfl, rfl⟩
  go_wp2_with fail
  refine wp_region_noPanic ?_
  go_region_held (fun w' => Below w.heap.size w w') (first | assumption | exact below_drawn c2)
    (first | (go_at_call 15; ((with_reducible refine (put_has n _).mono ?_); rintro e w6 ⟨g6, rfl, hg6, H6, b6⟩; have cv6 := H6.conv; have s6 : Below w.heap.size w w6 := below_then (by assumption) b6)) | (go_at_call 16; ((with_reducible refine (rput_any n _).mono ?_); rintro e w7 ⟨v7, rfl, hown, b7⟩; have cv6' := (H6.keep b7).conv; have cv7 := rconv hown w7 (Below.refl _ _); have s7 : Below w.heap.size w w7 := below_then (by assumption) b7)) | (go_at_call 17; ((with_reducible refine (uless_any _ _ _).mono ?_); rintro e w8 ⟨rfl, rfl⟩)) | (go_at_call 18; ((with_reducible refine (ruless_any _ _ _).mono ?_); rintro e w8 ⟨rfl, rfl⟩)))
  all_goals (refine NoPanic.normal ?_)
  all_goals go_wp2
  all_goals go_ret
  all_goals exact ⟨rfl, s7⟩
end Go.Proofs.Ytadnajoefhajgaa
