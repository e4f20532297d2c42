/- The contracts of package alu's askedOfTwo and Two. -/
import Derived.Test.YtncljldoioplaaaAluTwoA
namespace Go.Proofs.Ytncljldoioplaaa
open Go.RowKit

set_option maxHeartbeats 1000000 in
theorem asked2_LtGt (a b : Int) (w : World) :
    Calls Try.prog 30 #[.string ⟨#[60, 62]⟩, .int .i64 a, .int .i64 b] w fun e w' => e = .returned (.tuple #[.int .i64 (yes (a != b)), .bool true]) ∧ Below w.heap.size w w' := by
  go_enter Try.func30, Try.ntmps30
  go_wp2_with fail
  refine (teller_any _ _ _).mono ?_
  rintro e w1 ⟨p, q, rfl, hp, hq, hpq, b1⟩
  go_wp2_with fail
  refine (teller_any _ _ _).mono ?_
  rintro e w2 ⟨p2, q2, rfl, hp2, hq2, hpq2, b2⟩
  go_wp2_with fail
  go_wp2_with (first | (go_at_call 32; ((with_reducible refine (uless_any _ _ _).mono ?_); rintro e w3 ⟨rfl, rfl⟩)) | (go_at_call 35; ((with_reducible refine (tell_any _ _ _ _ _ _ (by assumption) (by assumption)).mono ?_); rintro e w4 ⟨rfl, rfl⟩)))
  go_ret2
  exact ⟨ret_ib (by first | rfl | exact tell_not _) rfl, below_then b1 b2⟩

set_option maxHeartbeats 1000000 in
theorem asked2_Eq (a b : Int) (w : World) :
    Calls Try.prog 30 #[.string ⟨#[61]⟩, .int .i64 a, .int .i64 b] w fun e w' => e = .returned (.tuple #[.int .i64 (yes (a == b)), .bool true]) ∧ Below w.heap.size w w' := by
  go_enter Try.func30, Try.ntmps30
  go_wp2_with fail
  refine (teller_any _ _ _).mono ?_
  rintro e w1 ⟨p, q, rfl, hp, hq, hpq, b1⟩
  go_wp2_with fail
  go_wp2_with (first | (go_at_call 32; ((with_reducible refine (uless_any _ _ _).mono ?_); rintro e w3 ⟨rfl, rfl⟩)) | (go_at_call 35; ((with_reducible refine (tell_any _ _ _ _ _ _ (by assumption) (by assumption)).mono ?_); rintro e w4 ⟨rfl, rfl⟩)))
  go_ret2
  exact ⟨ret_ib (by first | rfl | exact tell_not _) rfl, b1⟩

set_option maxHeartbeats 1000000 in
theorem asked2_Gt (a b : Int) (w : World) :
    Calls Try.prog 30 #[.string ⟨#[62]⟩, .int .i64 a, .int .i64 b] w fun e w' => e = .returned (.tuple #[.int .i64 (yes (decide (b < a))), .bool true]) ∧ Below w.heap.size w w' := by
  go_enter Try.func30, Try.ntmps30
  go_wp2_with fail
  refine (teller_any _ _ _).mono ?_
  rintro e w1 ⟨p, q, rfl, hp, hq, hpq, b1⟩
  go_wp2_with fail
  go_wp2_with (first | (go_at_call 32; ((with_reducible refine (uless_any _ _ _).mono ?_); rintro e w3 ⟨rfl, rfl⟩)) | (go_at_call 35; ((with_reducible refine (tell_any _ _ _ _ _ _ (by assumption) (by assumption)).mono ?_); rintro e w4 ⟨rfl, rfl⟩)))
  go_ret2
  exact ⟨ret_ib (by first | rfl | exact tell_not _) rfl, b1⟩

set_option maxHeartbeats 1000000 in
theorem asked2_Lt (a b : Int) (w : World) :
    Calls Try.prog 30 #[.string ⟨#[60]⟩, .int .i64 a, .int .i64 b] w fun e w' => e = .returned (.tuple #[.int .i64 (yes (decide (a < b))), .bool true]) ∧ Below w.heap.size w w' := by
  go_enter Try.func30, Try.ntmps30
  go_wp2_with fail
  refine (teller_any _ _ _).mono ?_
  rintro e w1 ⟨p, q, rfl, hp, hq, hpq, b1⟩
  go_wp2_with fail
  go_wp2_with (first | (go_at_call 32; ((with_reducible refine (uless_any _ _ _).mono ?_); rintro e w3 ⟨rfl, rfl⟩)) | (go_at_call 35; ((with_reducible refine (tell_any _ _ _ _ _ _ (by assumption) (by assumption)).mono ?_); rintro e w4 ⟨rfl, rfl⟩)))
  go_ret2
  exact ⟨ret_ib (by first | rfl | exact tell_not _) rfl, b1⟩

set_option maxHeartbeats 1000000 in
theorem asked2_GtEq (a b : Int) (w : World) :
    Calls Try.prog 30 #[.string ⟨#[62, 61]⟩, .int .i64 a, .int .i64 b] w fun e w' => e = .returned (.tuple #[.int .i64 (yes (decide (b ≤ a))), .bool true]) ∧ Below w.heap.size w w' := by
  go_enter Try.func30, Try.ntmps30
  go_wp2_with fail
  refine (teller_any _ _ _).mono ?_
  rintro e w1 ⟨p, q, rfl, hp, hq, hpq, b1⟩
  go_wp2_with fail
  go_wp2_with (first | (go_at_call 32; ((with_reducible refine (uless_any _ _ _).mono ?_); rintro e w3 ⟨rfl, rfl⟩)) | (go_at_call 35; ((with_reducible refine (tell_any _ _ _ _ _ _ (by assumption) (by assumption)).mono ?_); rintro e w4 ⟨rfl, rfl⟩)))
  go_ret2
  exact ⟨ret_ib (by first | rfl | exact tell_not _) rfl, b1⟩

set_option maxHeartbeats 1000000 in
theorem asked2_LtEq (a b : Int) (w : World) :
    Calls Try.prog 30 #[.string ⟨#[60, 61]⟩, .int .i64 a, .int .i64 b] w fun e w' => e = .returned (.tuple #[.int .i64 (yes (decide (a ≤ b))), .bool true]) ∧ Below w.heap.size w w' := by
  go_enter Try.func30, Try.ntmps30
  go_wp2_with fail
  refine (teller_any _ _ _).mono ?_
  rintro e w1 ⟨p, q, rfl, hp, hq, hpq, b1⟩
  go_wp2_with fail
  go_wp2_with (first | (go_at_call 32; ((with_reducible refine (uless_any _ _ _).mono ?_); rintro e w3 ⟨rfl, rfl⟩)) | (go_at_call 35; ((with_reducible refine (tell_any _ _ _ _ _ _ (by assumption) (by assumption)).mono ?_); rintro e w4 ⟨rfl, rfl⟩)))
  go_ret2
  exact ⟨ret_ib (by first | rfl | exact tell_not _) rfl, b1⟩

set_option maxHeartbeats 1000000 in
theorem asked2_UGt (a b : Int) (w : World) :
    Calls Try.prog 30 #[.string ⟨#[85, 62]⟩, .int .i64 a, .int .i64 b] w fun e w' => e = .returned (.tuple #[.int .i64 (yes (decide (un b < un a))), .bool true]) ∧ Below w.heap.size w w' := by
  go_enter Try.func30, Try.ntmps30
  go_wp2_with fail
  refine (teller_any _ _ _).mono ?_
  rintro e w1 ⟨p, q, rfl, hp, hq, hpq, b1⟩
  go_wp2_with fail
  go_wp2_with (first | (go_at_call 32; ((with_reducible refine (uless_any _ _ _).mono ?_); rintro e w3 ⟨rfl, rfl⟩)) | (go_at_call 35; ((with_reducible refine (tell_any _ _ _ _ _ _ (by assumption) (by assumption)).mono ?_); rintro e w4 ⟨rfl, rfl⟩)))
  go_ret2
  exact ⟨ret_ib (by first | rfl | exact tell_not _) rfl, b1⟩

set_option maxHeartbeats 1000000 in
theorem asked2_ULt (a b : Int) (w : World) :
    Calls Try.prog 30 #[.string ⟨#[85, 60]⟩, .int .i64 a, .int .i64 b] w fun e w' => e = .returned (.tuple #[.int .i64 (yes (decide (un a < un b))), .bool true]) ∧ Below w.heap.size w w' := by
  go_enter Try.func30, Try.ntmps30
  go_wp2_with fail
  refine (teller_any _ _ _).mono ?_
  rintro e w1 ⟨p, q, rfl, hp, hq, hpq, b1⟩
  go_wp2_with fail
  go_wp2_with (first | (go_at_call 32; ((with_reducible refine (uless_any _ _ _).mono ?_); rintro e w3 ⟨rfl, rfl⟩)) | (go_at_call 35; ((with_reducible refine (tell_any _ _ _ _ _ _ (by assumption) (by assumption)).mono ?_); rintro e w4 ⟨rfl, rfl⟩)))
  go_ret2
  exact ⟨ret_ib (by first | rfl | exact tell_not _) rfl, b1⟩

set_option maxHeartbeats 1000000 in
theorem asked2_none (s : ByteArray) (a b : Int) (w : World) (h0 : (s.toList == [60, 62]) = false) (h1 : (s.toList == [61]) = false) (h2 : (s.toList == [62]) = false) (h3 : (s.toList == [60]) = false) (h4 : (s.toList == [62, 61]) = false) (h5 : (s.toList == [60, 61]) = false) (h6 : (s.toList == [85, 62]) = false) (h7 : (s.toList == [85, 60]) = false) :
    Calls Try.prog 30 #[.string s, .int .i64 a, .int .i64 b] w fun e w' => e = .returned (.tuple #[.int .i64 0, .bool false]) ∧ Below w.heap.size w w' := by
  go_enter Try.func30, Try.ntmps30
  go_wp2_with fail
  refine (teller_any _ _ _).mono ?_
  rintro e w1 ⟨p, q, rfl, hp, hq, hpq, b1⟩
  go_wp2
  go_ret2
  exact ⟨ret_ib rfl rfl, b1⟩

theorem asked2_any (s : ByteArray) (a b : Int) (w : World) :
    Calls Try.prog 30 #[.string s, .int .i64 a, .int .i64 b] w fun e w' => e = .returned (.tuple #[.int .i64 ((asked2F s.data.toList a b).getD 0), .bool (asked2F s.data.toList a b).isSome]) ∧ Below w.heap.size w w' := by
  by_cases h0 : s.data.toList = [60, 62]
  · obtain rfl := str_of h0
    exact asked2_LtGt a b w
  by_cases h1 : s.data.toList = [61]
  · obtain rfl := str_of h1
    exact asked2_Eq a b w
  by_cases h2 : s.data.toList = [62]
  · obtain rfl := str_of h2
    exact asked2_Gt a b w
  by_cases h3 : s.data.toList = [60]
  · obtain rfl := str_of h3
    exact asked2_Lt a b w
  by_cases h4 : s.data.toList = [62, 61]
  · obtain rfl := str_of h4
    exact asked2_GtEq a b w
  by_cases h5 : s.data.toList = [60, 61]
  · obtain rfl := str_of h5
    exact asked2_LtEq a b w
  by_cases h6 : s.data.toList = [85, 62]
  · obtain rfl := str_of h6
    exact asked2_UGt a b w
  by_cases h7 : s.data.toList = [85, 60]
  · obtain rfl := str_of h7
    exact asked2_ULt a b w
  have e : asked2F s.data.toList a b = none := by simp only [asked2F, h0, h1, h2, h3, h4, h5, h6, h7, if_false]
  rw [e]
  exact asked2_none s a b w (str_no h0) (str_no h1) (str_no h2) (str_no h3) (str_no h4) (str_no h5) (str_no h6) (str_no h7)

theorem div_code {l : List UInt8} {a b : Int} (h : divF l a b = none) : divC l b = 0 := by
  unfold divF at h
  unfold divC
  split at h
  · cases h
  · split at h
    · cases h
    · rename_i h1 h2
      simp only [h1, h2, or_self, if_false]

set_option maxHeartbeats 1000000 in
theorem two_any (s : ByteArray) (a b : Int) (w : World) (ha : cellR a) (hb : cellR b) :
    Calls Try.prog 16 #[.string s, .int .i64 a, .int .i64 b] w fun e w' => e = .returned (.tuple #[.int .i64 ((twoF s.data.toList a b).getD 0), .bool (twoF s.data.toList a b).isSome, .int .i64 (divC s.data.toList b)]) ∧ Below w.heap.size w w' := by
  have c1 := fun w => divided_any s a b w ha hb
  have c2 := fun w => joined_any s a b w
  have c3 := fun w => asked2_any s a b w
  cases h : divF s.data.toList a b with
  | some n =>
    have e : twoF s.data.toList a b = some n := by rw [twoF, h]; rfl
    rw [e]
    rw [h] at c1
    have C1 := Lib.hid c1
    clear c1 c2 c3 e h
    go_enter Try.func16, Try.ntmps16
    go_wp2_with (go_at_call 28; ((refine (C1.out _).mono ?_); rintro e w1 ⟨rfl, b1⟩))
    go_ret3
    exact ⟨ret_ibi rfl rfl rfl, b1⟩
  | none =>
    have hc := div_code h
    rw [h, hc] at c1
    rw [hc]
    have C1 := Lib.hid c1
    cases g : joinedF s.data.toList a b with
    | some n =>
      have e : twoF s.data.toList a b = some n := by rw [twoF, h, g]; rfl
      rw [e]
      rw [g] at c2
      have C2 := Lib.hid c2
      clear c1 c2 c3 e h g hc
      go_enter Try.func16, Try.ntmps16
      go_wp2_with (first | (go_at_call 28; ((refine (C1.out _).mono ?_); rintro e w1 ⟨rfl, b1⟩)) | (go_at_call 29; ((refine (C2.out _).mono ?_); rintro e w2 ⟨rfl, rfl⟩)))
      go_ret3
      exact ⟨ret_ibi rfl rfl rfl, b1⟩
    | none =>
      have e : twoF s.data.toList a b = asked2F s.data.toList a b := by rw [twoF, h, g]; rfl
      rw [e]
      rw [g] at c2
      have C2 := Lib.hid c2
      have C3 := Lib.hid c3
      clear c1 c2 c3 e h g hc
      go_enter Try.func16, Try.ntmps16
      go_wp2_with (first | (go_at_call 28; ((refine (C1.out _).mono ?_); rintro e w1 ⟨rfl, b1⟩)) | (go_at_call 29; ((refine (C2.out _).mono ?_); rintro e w2 ⟨rfl, rfl⟩)) | (go_at_call 30; ((refine (C3.out _).mono ?_); rintro e w3 ⟨rfl, b3⟩)))
      go_ret3
      exact ⟨ret_ibi rfl rfl rfl, below_then b1 b3⟩
end Go.Proofs.Ytncljldoioplaaa
