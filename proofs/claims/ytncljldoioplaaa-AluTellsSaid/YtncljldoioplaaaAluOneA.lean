/- The contract of package alu's turned: what becomes of one cell, by any name. -/
import Derived.Test.YtncljldoioplaaaAluSpec
import Derived.Test.YtncljldoioplaaaAluMath
import Derived.Test.YtncljldoioplaaaAluCell
import Derived.WideShapes
namespace Go.Proofs.Ytncljldoioplaaa
open Go.RowKit

theorem str_of {s : ByteArray} {l : List UInt8} (h : s.data.toList = l) : s = ⟨l.toArray⟩ := Go.WideShapes.bytes_inj (by rw [h])
theorem str_no {s : ByteArray} {l : List UInt8} (h : ¬ s.data.toList = l) : (s.toList == l) = false := by rw [ByteArray.toList_eq]; simpa using h

set_option maxHeartbeats 400000 in
theorem turned_ABS (a : Int) (w : World) (ha : cellR a) :
    Calls Try.prog 24 #[.string ⟨#[65, 66, 83]⟩, .int .i64 a] w fun e w' => e = .returned (.tuple #[.int .i64 (if a < 0 then wrap64 (-a) else a), .bool true]) ∧ w = w' := by
  go_enter Try.func24, Try.ntmps24
  go_wp2
  all_goals go_ret2
  all_goals exact ⟨ret_ib (by first | rfl | (split <;> first | rfl | omega)) rfl, rfl⟩

set_option maxHeartbeats 400000 in
theorem turned_NEGATE (a : Int) (w : World) (ha : cellR a) :
    Calls Try.prog 24 #[.string ⟨#[78, 69, 71, 65, 84, 69]⟩, .int .i64 a] w fun e w' => e = .returned (.tuple #[.int .i64 (wrap64 (-a)), .bool true]) ∧ w = w' := by
  go_enter Try.func24, Try.ntmps24
  go_wp2
  all_goals go_ret2
  all_goals exact ⟨ret_ib (by rfl) rfl, rfl⟩

set_option maxHeartbeats 400000 in
theorem turned_INVERT (a : Int) (w : World) (ha : cellR a) :
    Calls Try.prog 24 #[.string ⟨#[73, 78, 86, 69, 82, 84]⟩, .int .i64 a] w fun e w' => e = .returned (.tuple #[.int .i64 (-1 - a), .bool true]) ∧ w = w' := by
  go_enter Try.func24, Try.ntmps24
  go_wp2
  all_goals go_ret2
  all_goals exact ⟨ret_ib (by exact inv_eq a ha) rfl, rfl⟩

set_option maxHeartbeats 400000 in
theorem turned_1Plus (a : Int) (w : World) (ha : cellR a) :
    Calls Try.prog 24 #[.string ⟨#[49, 43]⟩, .int .i64 a] w fun e w' => e = .returned (.tuple #[.int .i64 (wrap64 (a + 1)), .bool true]) ∧ w = w' := by
  go_enter Try.func24, Try.ntmps24
  go_wp2
  all_goals go_ret2
  all_goals exact ⟨ret_ib (by rfl) rfl, rfl⟩

set_option maxHeartbeats 400000 in
theorem turned_1Minus (a : Int) (w : World) (ha : cellR a) :
    Calls Try.prog 24 #[.string ⟨#[49, 45]⟩, .int .i64 a] w fun e w' => e = .returned (.tuple #[.int .i64 (wrap64 (a - 1)), .bool true]) ∧ w = w' := by
  go_enter Try.func24, Try.ntmps24
  go_wp2
  all_goals go_ret2
  all_goals exact ⟨ret_ib (by rfl) rfl, rfl⟩

set_option maxHeartbeats 400000 in
theorem turned_CELLS (a : Int) (w : World) (ha : cellR a) :
    Calls Try.prog 24 #[.string ⟨#[67, 69, 76, 76, 83]⟩, .int .i64 a] w fun e w' => e = .returned (.tuple #[.int .i64 (wrap64 (8 * a)), .bool true]) ∧ w = w' := by
  go_enter Try.func24, Try.ntmps24
  go_wp2
  all_goals go_ret2
  all_goals exact ⟨ret_ib (by simp only [wrap64]; omega) rfl, rfl⟩

set_option maxHeartbeats 400000 in
theorem turned_2Star (a : Int) (w : World) (ha : cellR a) :
    Calls Try.prog 24 #[.string ⟨#[50, 42]⟩, .int .i64 a] w fun e w' => e = .returned (.tuple #[.int .i64 (wrap64 (a + a)), .bool true]) ∧ w = w' := by
  go_enter Try.func24, Try.ntmps24
  go_wp2
  all_goals go_ret2
  all_goals exact ⟨ret_ib (by rfl) rfl, rfl⟩

set_option maxHeartbeats 400000 in
theorem turned_2Slash (a : Int) (w : World) (ha : cellR a) :
    Calls Try.prog 24 #[.string ⟨#[50, 47]⟩, .int .i64 a] w fun e w' => e = .returned (.tuple #[.int .i64 (a / 2), .bool true]) ∧ w = w' := by
  go_enter Try.func24, Try.ntmps24
  go_wp2
  all_goals go_ret2
  all_goals exact ⟨ret_ib (by rfl) rfl, rfl⟩

set_option maxHeartbeats 400000 in
theorem turned_CELLPlus (a : Int) (w : World) (ha : cellR a) :
    Calls Try.prog 24 #[.string ⟨#[67, 69, 76, 76, 43]⟩, .int .i64 a] w fun e w' => e = .returned (.tuple #[.int .i64 (wrap64 (a + 8)), .bool true]) ∧ w = w' := by
  go_enter Try.func24, Try.ntmps24
  go_wp2
  all_goals go_ret2
  all_goals exact ⟨ret_ib (by rfl) rfl, rfl⟩

set_option maxHeartbeats 400000 in
theorem turned_ALIGNED (a : Int) (w : World) (ha : cellR a) :
    Calls Try.prog 24 #[.string ⟨#[65, 76, 73, 71, 78, 69, 68]⟩, .int .i64 a] w fun e w' => e = .returned (.tuple #[.int .i64 (wrap64 ((a + 7) / 8 * 8)), .bool true]) ∧ w = w' := by
  go_enter Try.func24, Try.ntmps24
  go_wp2
  all_goals go_ret2
  all_goals exact ⟨ret_ib (by exact aligned_eq a ha) rfl, rfl⟩

set_option maxHeartbeats 400000 in
theorem turned_none (s : ByteArray) (a : Int) (w : World) (h0 : (s.toList == [65, 66, 83]) = false) (h1 : (s.toList == [78, 69, 71, 65, 84, 69]) = false) (h2 : (s.toList == [73, 78, 86, 69, 82, 84]) = false) (h3 : (s.toList == [49, 43]) = false) (h4 : (s.toList == [49, 45]) = false) (h5 : (s.toList == [67, 69, 76, 76, 83]) = false) (h6 : (s.toList == [50, 42]) = false) (h7 : (s.toList == [50, 47]) = false) (h8 : (s.toList == [67, 69, 76, 76, 43]) = false) (h9 : (s.toList == [65, 76, 73, 71, 78, 69, 68]) = false) :
    Calls Try.prog 24 #[.string s, .int .i64 a] w fun e w' => e = .returned (.tuple #[.int .i64 0, .bool false]) ∧ w = w' := by
  go_enter Try.func24, Try.ntmps24
  go_wp2
  go_ret2
  exact ⟨ret_ib rfl rfl, rfl⟩

theorem turned_any (s : ByteArray) (a : Int) (w : World) (ha : cellR a) :
    Calls Try.prog 24 #[.string s, .int .i64 a] w fun e w' => e = .returned (.tuple #[.int .i64 ((turnedF s.data.toList a).getD 0), .bool (turnedF s.data.toList a).isSome]) ∧ w = w' := by
  by_cases h0 : s.data.toList = [65, 66, 83]
  · obtain rfl := str_of h0
    exact turned_ABS a w ha
  by_cases h1 : s.data.toList = [78, 69, 71, 65, 84, 69]
  · obtain rfl := str_of h1
    exact turned_NEGATE a w ha
  by_cases h2 : s.data.toList = [73, 78, 86, 69, 82, 84]
  · obtain rfl := str_of h2
    exact turned_INVERT a w ha
  by_cases h3 : s.data.toList = [49, 43]
  · obtain rfl := str_of h3
    exact turned_1Plus a w ha
  by_cases h4 : s.data.toList = [49, 45]
  · obtain rfl := str_of h4
    exact turned_1Minus a w ha
  by_cases h5 : s.data.toList = [67, 69, 76, 76, 83]
  · obtain rfl := str_of h5
    exact turned_CELLS a w ha
  by_cases h6 : s.data.toList = [50, 42]
  · obtain rfl := str_of h6
    exact turned_2Star a w ha
  by_cases h7 : s.data.toList = [50, 47]
  · obtain rfl := str_of h7
    exact turned_2Slash a w ha
  by_cases h8 : s.data.toList = [67, 69, 76, 76, 43]
  · obtain rfl := str_of h8
    exact turned_CELLPlus a w ha
  by_cases h9 : s.data.toList = [65, 76, 73, 71, 78, 69, 68]
  · obtain rfl := str_of h9
    exact turned_ALIGNED a w ha
  have e : turnedF s.data.toList a = none := by simp only [turnedF, h0, h1, h2, h3, h4, h5, h6, h7, h8, h9, if_false]
  rw [e]
  exact turned_none s a w (str_no h0) (str_no h1) (str_no h2) (str_no h3) (str_no h4) (str_no h5) (str_no h6) (str_no h7) (str_no h8) (str_no h9)
end Go.Proofs.Ytncljldoioplaaa
