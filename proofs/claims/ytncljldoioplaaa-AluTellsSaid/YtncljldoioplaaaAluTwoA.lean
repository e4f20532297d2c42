/- The contracts of package alu's divided and joined. -/
import Derived.Test.YtncljldoioplaaaAluOneB
namespace Go.Proofs.Ytncljldoioplaaa
open Go.RowKit

theorem ret_ibi {k l : IntKind} {a c e f : Int} {b d : Bool} (h : a = c) (g : b = d) (i : e = f) : Ending.returned (.tuple #[.int k a, .bool b, .int l e]) = .returned (.tuple #[.int k c, .bool d, .int l f]) := by rw [h, g, i]

set_option maxHeartbeats 1000000 in
theorem divided_Slash (a b : Int) (w : World) (ha : cellR a) (hb : cellR b) :
    Calls Try.prog 28 #[.string ⟨#[47]⟩, .int .i64 a, .int .i64 b] w fun e w' => e = .returned (.tuple #[.int .i64 (dq a b), .bool true, .int .i64 (dc b)]) ∧ Below w.heap.size w w' := by
  have C1 := Lib.hid (fun w => div_any a b w ha hb)
  go_enter Try.func28, Try.ntmps28
  go_wp2_with (go_at_call 34; ((refine (C1.out _).mono ?_); rintro e w1 ⟨rfl, b1⟩))
  go_ret3
  exact ⟨ret_ibi rfl rfl rfl, b1⟩

set_option maxHeartbeats 1000000 in
theorem divided_MOD (a b : Int) (w : World) (ha : cellR a) (hb : cellR b) :
    Calls Try.prog 28 #[.string ⟨#[77, 79, 68]⟩, .int .i64 a, .int .i64 b] w fun e w' => e = .returned (.tuple #[.int .i64 (dr a b), .bool true, .int .i64 (dc b)]) ∧ Below w.heap.size w w' := by
  have C1 := Lib.hid (fun w => div_any a b w ha hb)
  go_enter Try.func28, Try.ntmps28
  go_wp2_with (go_at_call 34; ((refine (C1.out _).mono ?_); rintro e w1 ⟨rfl, b1⟩))
  go_ret3
  exact ⟨ret_ibi rfl rfl rfl, b1⟩

set_option maxHeartbeats 1000000 in
theorem divided_none (s : ByteArray) (a b : Int) (w : World) (h0 : (s.toList == [47]) = false) (h1 : (s.toList == [77, 79, 68]) = false) :
    Calls Try.prog 28 #[.string s, .int .i64 a, .int .i64 b] w fun e w' => e = .returned (.tuple #[.int .i64 0, .bool false, .int .i64 0]) ∧ Below w.heap.size w w' := by
  go_enter Try.func28, Try.ntmps28
  go_wp2
  go_ret3
  exact ⟨ret_ibi rfl rfl rfl, Below.refl _ _⟩

theorem divided_any (s : ByteArray) (a b : Int) (w : World) (ha : cellR a) (hb : cellR b) :
    Calls Try.prog 28 #[.string s, .int .i64 a, .int .i64 b] w fun e w' => e = .returned (.tuple #[.int .i64 ((divF s.data.toList a b).getD 0), .bool (divF s.data.toList a b).isSome, .int .i64 (divC s.data.toList b)]) ∧ Below w.heap.size w w' := by
  by_cases h0 : s.data.toList = [47]
  · obtain rfl := str_of h0
    exact divided_Slash a b w ha hb
  by_cases h1 : s.data.toList = [77, 79, 68]
  · obtain rfl := str_of h1
    exact divided_MOD a b w ha hb
  have e : divF s.data.toList a b = none := by simp only [divF, h0, h1, if_false]
  have f : divC s.data.toList b = 0 := by simp only [divC, h0, h1, or_self, if_false]
  rw [e, f]
  exact divided_none s a b w (str_no h0) (str_no h1)

set_option maxHeartbeats 1000000 in
theorem joined_Minus (a b : Int) (w : World) :
    Calls Try.prog 29 #[.string ⟨#[45]⟩, .int .i64 a, .int .i64 b] w fun e w' => e = .returned (.tuple #[.int .i64 (wrap64 (a - b)), .bool true]) ∧ w = w' := by
  go_enter Try.func29, Try.ntmps29
  go_wp2
  all_goals go_ret2
  all_goals exact ⟨ret_ib (by exact sub_eq a b) rfl, rfl⟩

set_option maxHeartbeats 1000000 in
theorem joined_Plus (a b : Int) (w : World) :
    Calls Try.prog 29 #[.string ⟨#[43]⟩, .int .i64 a, .int .i64 b] w fun e w' => e = .returned (.tuple #[.int .i64 (wrap64 (a + b)), .bool true]) ∧ w = w' := by
  go_enter Try.func29, Try.ntmps29
  go_wp2
  all_goals go_ret2
  all_goals exact ⟨ret_ib (by rfl) rfl, rfl⟩

set_option maxHeartbeats 1000000 in
theorem joined_Star (a b : Int) (w : World) :
    Calls Try.prog 29 #[.string ⟨#[42]⟩, .int .i64 a, .int .i64 b] w fun e w' => e = .returned (.tuple #[.int .i64 (wrap64 (a * b)), .bool true]) ∧ w = w' := by
  go_enter Try.func29, Try.ntmps29
  go_wp2
  all_goals go_ret2
  all_goals exact ⟨ret_ib (by rfl) rfl, rfl⟩

set_option maxHeartbeats 1000000 in
theorem joined_AND (a b : Int) (w : World) :
    Calls Try.prog 29 #[.string ⟨#[65, 78, 68]⟩, .int .i64 a, .int .i64 b] w fun e w' => e = .returned (.tuple #[.int .i64 (bits .and .i64 a b), .bool true]) ∧ w = w' := by
  go_enter Try.func29, Try.ntmps29
  go_wp2
  all_goals go_ret2
  all_goals exact ⟨ret_ib (by rfl) rfl, rfl⟩

set_option maxHeartbeats 1000000 in
theorem joined_OR (a b : Int) (w : World) :
    Calls Try.prog 29 #[.string ⟨#[79, 82]⟩, .int .i64 a, .int .i64 b] w fun e w' => e = .returned (.tuple #[.int .i64 (bits .or .i64 a b), .bool true]) ∧ w = w' := by
  go_enter Try.func29, Try.ntmps29
  go_wp2
  all_goals go_ret2
  all_goals exact ⟨ret_ib (by rfl) rfl, rfl⟩

set_option maxHeartbeats 1000000 in
theorem joined_XOR (a b : Int) (w : World) :
    Calls Try.prog 29 #[.string ⟨#[88, 79, 82]⟩, .int .i64 a, .int .i64 b] w fun e w' => e = .returned (.tuple #[.int .i64 (bits .xor .i64 a b), .bool true]) ∧ w = w' := by
  go_enter Try.func29, Try.ntmps29
  go_wp2
  all_goals go_ret2
  all_goals exact ⟨ret_ib (by rfl) rfl, rfl⟩

set_option maxHeartbeats 1000000 in
theorem joined_LSHIFT (a b : Int) (w : World) :
    Calls Try.prog 29 #[.string ⟨#[76, 83, 72, 73, 70, 84]⟩, .int .i64 a, .int .i64 b] w fun e w' => e = .returned (.tuple #[.int .i64 (shl a b), .bool true]) ∧ w = w' := by
  go_enter Try.func29, Try.ntmps29
  go_wp2
  all_goals go_ret2
  all_goals exact ⟨ret_ib (by exact shl_eq a b) rfl, rfl⟩

set_option maxHeartbeats 1000000 in
theorem joined_RSHIFT (a b : Int) (w : World) :
    Calls Try.prog 29 #[.string ⟨#[82, 83, 72, 73, 70, 84]⟩, .int .i64 a, .int .i64 b] w fun e w' => e = .returned (.tuple #[.int .i64 (shr a b), .bool true]) ∧ w = w' := by
  go_enter Try.func29, Try.ntmps29
  go_wp2
  all_goals go_ret2
  all_goals exact ⟨ret_ib (by exact shr_eq a b) rfl, rfl⟩

set_option maxHeartbeats 1000000 in
theorem joined_MIN (a b : Int) (w : World) :
    Calls Try.prog 29 #[.string ⟨#[77, 73, 78]⟩, .int .i64 a, .int .i64 b] w fun e w' => e = .returned (.tuple #[.int .i64 (if b < a then b else a), .bool true]) ∧ w = w' := by
  go_enter Try.func29, Try.ntmps29
  go_wp2
  all_goals go_ret2
  all_goals exact ⟨ret_ib (by first | rfl | (split <;> omega)) rfl, rfl⟩

set_option maxHeartbeats 1000000 in
theorem joined_MAX (a b : Int) (w : World) :
    Calls Try.prog 29 #[.string ⟨#[77, 65, 88]⟩, .int .i64 a, .int .i64 b] w fun e w' => e = .returned (.tuple #[.int .i64 (if a < b then b else a), .bool true]) ∧ w = w' := by
  go_enter Try.func29, Try.ntmps29
  go_wp2
  all_goals go_ret2
  all_goals exact ⟨ret_ib (by first | rfl | (split <;> omega)) rfl, rfl⟩

set_option maxHeartbeats 1000000 in
theorem joined_none (s : ByteArray) (a b : Int) (w : World) (h0 : (s.toList == [45]) = false) (h1 : (s.toList == [43]) = false) (h2 : (s.toList == [42]) = false) (h3 : (s.toList == [65, 78, 68]) = false) (h4 : (s.toList == [79, 82]) = false) (h5 : (s.toList == [88, 79, 82]) = false) (h6 : (s.toList == [76, 83, 72, 73, 70, 84]) = false) (h7 : (s.toList == [82, 83, 72, 73, 70, 84]) = false) (h8 : (s.toList == [77, 73, 78]) = false) (h9 : (s.toList == [77, 65, 88]) = false) :
    Calls Try.prog 29 #[.string s, .int .i64 a, .int .i64 b] w fun e w' => e = .returned (.tuple #[.int .i64 0, .bool false]) ∧ w = w' := by
  go_enter Try.func29, Try.ntmps29
  go_wp2
  go_ret2
  exact ⟨ret_ib rfl rfl, rfl⟩

theorem joined_any (s : ByteArray) (a b : Int) (w : World) :
    Calls Try.prog 29 #[.string s, .int .i64 a, .int .i64 b] w fun e w' => e = .returned (.tuple #[.int .i64 ((joinedF s.data.toList a b).getD 0), .bool (joinedF s.data.toList a b).isSome]) ∧ w = w' := by
  by_cases h0 : s.data.toList = [45]
  · obtain rfl := str_of h0
    exact joined_Minus a b w
  by_cases h1 : s.data.toList = [43]
  · obtain rfl := str_of h1
    exact joined_Plus a b w
  by_cases h2 : s.data.toList = [42]
  · obtain rfl := str_of h2
    exact joined_Star a b w
  by_cases h3 : s.data.toList = [65, 78, 68]
  · obtain rfl := str_of h3
    exact joined_AND a b w
  by_cases h4 : s.data.toList = [79, 82]
  · obtain rfl := str_of h4
    exact joined_OR a b w
  by_cases h5 : s.data.toList = [88, 79, 82]
  · obtain rfl := str_of h5
    exact joined_XOR a b w
  by_cases h6 : s.data.toList = [76, 83, 72, 73, 70, 84]
  · obtain rfl := str_of h6
    exact joined_LSHIFT a b w
  by_cases h7 : s.data.toList = [82, 83, 72, 73, 70, 84]
  · obtain rfl := str_of h7
    exact joined_RSHIFT a b w
  by_cases h8 : s.data.toList = [77, 73, 78]
  · obtain rfl := str_of h8
    exact joined_MIN a b w
  by_cases h9 : s.data.toList = [77, 65, 88]
  · obtain rfl := str_of h9
    exact joined_MAX a b w
  have e : joinedF s.data.toList a b = none := by simp only [joinedF, h0, h1, h2, h3, h4, h5, h6, h7, h8, h9, if_false]
  rw [e]
  exact joined_none s a b w (str_no h0) (str_no h1) (str_no h2) (str_no h3) (str_no h4) (str_no h5) (str_no h6) (str_no h7) (str_no h8) (str_no h9)

end Go.Proofs.Ytncljldoioplaaa
