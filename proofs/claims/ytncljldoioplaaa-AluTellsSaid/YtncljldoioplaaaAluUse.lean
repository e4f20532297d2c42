/- The contracts of package alu's Within and Step, of the statements' helpers one and two at each name, and of their head shown. -/
import Derived.Test.YtncljldoioplaaaAluTwoB
namespace Go.Proofs.Ytncljldoioplaaa
open Go.RowKit

def withinB (x lo hi : Int) : Bool := decide (un (wrap64 (x - lo)) < un (wrap64 (hi - lo)))
def stepB (i l n : Int) : Bool := if 0 ≤ n then decide (wrap64 (i - l) < 0) && decide (0 ≤ wrap64 (i - l) + n) else decide (0 ≤ wrap64 (i - l)) && decide (wrap64 (i - l) + n < 0)

set_option maxHeartbeats 1000000 in
theorem within_any (x lo hi : Int) (w : World) :
    Calls Try.prog 20 #[.int .i64 x, .int .i64 lo, .int .i64 hi] w fun e w' => e = .returned (.bool (withinB x lo hi)) ∧ w = w' := by
  go_enter Try.func20, Try.ntmps20
  go_wp2_with (go_at_call 32; ((with_reducible refine (uless_any _ _ _).mono ?_); rintro e w3 ⟨rfl, rfl⟩))
  go_ret
  exact ⟨ret_bool rfl, rfl⟩

set_option maxHeartbeats 1000000 in
theorem step_any (i l n : Int) (w : World) (hn : cellR n) :
    Calls Try.prog 18 #[.int .i64 i, .int .i64 l, .int .i64 n] w fun e w' => e = .returned (.tuple #[.int .i64 (wrap64 (i + n)), .bool (stepB i l n)]) ∧ w = w' := by
  obtain ⟨B, hB⟩ : ∃ B, stepB i l n = B := ⟨_, rfl⟩
  rw [hB]
  unfold stepB at hB
  have hr := cellR_wrap (i - l)
  obtain ⟨d, hd⟩ : ∃ d, wrap64 (i - l) = d := ⟨_, rfl⟩
  rw [hd] at hB hr
  by_cases h0 : 0 ≤ n
  · rw [if_pos h0] at hB
    by_cases h1 : d < 0
    · have e : wrap64 (d + n) = d + n := wrap_in (by unfold cellR at *; omega)
      have HB := Lib.hid hB
      clear hB hr hn
      go_enter Try.func18, Try.ntmps18
      go_wp2
      go_ret2
      exact ⟨ret_ib rfl (by rw [← HB.out]; first | (simp [h1]; done) | (simp; omega)), rfl⟩
    · have h2 : 0 ≤ d := by omega
      have HB := Lib.hid hB
      clear hB hr hn
      go_enter Try.func18, Try.ntmps18
      go_wp2
      go_ret2
      exact ⟨ret_ib rfl (by rw [← HB.out]; first | (simp [h1]; done) | (simp; omega)), rfl⟩
  · rw [if_neg h0] at hB
    by_cases h1 : 0 ≤ d
    · have e : wrap64 (d + n) = d + n := wrap_in (by unfold cellR at *; omega)
      have HB := Lib.hid hB
      clear hB hr hn
      go_enter Try.func18, Try.ntmps18
      go_wp2
      go_ret2
      exact ⟨ret_ib rfl (by rw [← HB.out]; first | (simp [h1]; done) | (simp; omega)), rfl⟩
    · have HB := Lib.hid hB
      clear hB hr hn
      go_enter Try.func18, Try.ntmps18
      go_wp2
      go_ret2
      exact ⟨ret_ib rfl (by rw [← HB.out]; first | (simp [h1]; done) | (simp; omega)), rfl⟩

set_option maxHeartbeats 1000000 in
theorem lone_any (s : ByteArray) (a : Int) (w : World) (ha : cellR a) :
    Calls Try.prog 22 #[.string s, .int .i64 a] w fun e w' => e = .returned (.int .i64 ((oneF s.data.toList a).getD 0)) ∧ Below w.heap.size w w' := by
  have C1 := Lib.hid (fun w => one_any s a w ha)
  go_enter Try.func22, Try.ntmps22
  go_wp2_with (go_at_call 13; ((refine (C1.out _).mono ?_); rintro e w1 ⟨rfl, b1⟩))
  go_ret
  exact ⟨ret_int rfl, b1⟩

set_option maxHeartbeats 1000000 in
theorem ltwo_any (s : ByteArray) (a b : Int) (w : World) (ha : cellR a) (hb : cellR b) :
    Calls Try.prog 23 #[.string s, .int .i64 a, .int .i64 b] w fun e w' => e = .returned (.int .i64 ((twoF s.data.toList a b).getD 0)) ∧ Below w.heap.size w w' := by
  have C1 := Lib.hid (fun w => two_any s a b w ha hb)
  go_enter Try.func23, Try.ntmps23
  go_wp2_with (go_at_call 16; ((refine (C1.out _).mono ?_); rintro e w1 ⟨rfl, b1⟩))
  go_ret
  exact ⟨ret_int rfl, b1⟩

theorem o_ABS (a : Int) (w : World) (ha : cellR a) : Calls Try.prog 22 #[.string ⟨#[65, 66, 83]⟩, .int .i64 a] w fun e w' => e = .returned (.int .i64 (if a < 0 then wrap64 (-a) else a)) ∧ Below w.heap.size w w' := lone_any ⟨#[65, 66, 83]⟩ a w ha
theorem o_NEGATE (a : Int) (w : World) (ha : cellR a) : Calls Try.prog 22 #[.string ⟨#[78, 69, 71, 65, 84, 69]⟩, .int .i64 a] w fun e w' => e = .returned (.int .i64 (wrap64 (-a))) ∧ Below w.heap.size w w' := lone_any ⟨#[78, 69, 71, 65, 84, 69]⟩ a w ha
theorem o_INVERT (a : Int) (w : World) (ha : cellR a) : Calls Try.prog 22 #[.string ⟨#[73, 78, 86, 69, 82, 84]⟩, .int .i64 a] w fun e w' => e = .returned (.int .i64 (-1 - a)) ∧ Below w.heap.size w w' := lone_any ⟨#[73, 78, 86, 69, 82, 84]⟩ a w ha
theorem o_1Plus (a : Int) (w : World) (ha : cellR a) : Calls Try.prog 22 #[.string ⟨#[49, 43]⟩, .int .i64 a] w fun e w' => e = .returned (.int .i64 (wrap64 (a + 1))) ∧ Below w.heap.size w w' := lone_any ⟨#[49, 43]⟩ a w ha
theorem o_1Minus (a : Int) (w : World) (ha : cellR a) : Calls Try.prog 22 #[.string ⟨#[49, 45]⟩, .int .i64 a] w fun e w' => e = .returned (.int .i64 (wrap64 (a - 1))) ∧ Below w.heap.size w w' := lone_any ⟨#[49, 45]⟩ a w ha
theorem o_CELLS (a : Int) (w : World) (ha : cellR a) : Calls Try.prog 22 #[.string ⟨#[67, 69, 76, 76, 83]⟩, .int .i64 a] w fun e w' => e = .returned (.int .i64 (wrap64 (8 * a))) ∧ Below w.heap.size w w' := lone_any ⟨#[67, 69, 76, 76, 83]⟩ a w ha
theorem o_2Star (a : Int) (w : World) (ha : cellR a) : Calls Try.prog 22 #[.string ⟨#[50, 42]⟩, .int .i64 a] w fun e w' => e = .returned (.int .i64 (wrap64 (a + a))) ∧ Below w.heap.size w w' := lone_any ⟨#[50, 42]⟩ a w ha
theorem o_2Slash (a : Int) (w : World) (ha : cellR a) : Calls Try.prog 22 #[.string ⟨#[50, 47]⟩, .int .i64 a] w fun e w' => e = .returned (.int .i64 (a / 2)) ∧ Below w.heap.size w w' := lone_any ⟨#[50, 47]⟩ a w ha
theorem o_CELLPlus (a : Int) (w : World) (ha : cellR a) : Calls Try.prog 22 #[.string ⟨#[67, 69, 76, 76, 43]⟩, .int .i64 a] w fun e w' => e = .returned (.int .i64 (wrap64 (a + 8))) ∧ Below w.heap.size w w' := lone_any ⟨#[67, 69, 76, 76, 43]⟩ a w ha
theorem o_ALIGNED (a : Int) (w : World) (ha : cellR a) : Calls Try.prog 22 #[.string ⟨#[65, 76, 73, 71, 78, 69, 68]⟩, .int .i64 a] w fun e w' => e = .returned (.int .i64 (wrap64 ((a + 7) / 8 * 8))) ∧ Below w.heap.size w w' := lone_any ⟨#[65, 76, 73, 71, 78, 69, 68]⟩ a w ha
theorem o_0LtGt (a : Int) (w : World) (ha : cellR a) : Calls Try.prog 22 #[.string ⟨#[48, 60, 62]⟩, .int .i64 a] w fun e w' => e = .returned (.int .i64 (yes (a != 0))) ∧ Below w.heap.size w w' := lone_any ⟨#[48, 60, 62]⟩ a w ha
theorem o_0Eq (a : Int) (w : World) (ha : cellR a) : Calls Try.prog 22 #[.string ⟨#[48, 61]⟩, .int .i64 a] w fun e w' => e = .returned (.int .i64 (yes (a == 0))) ∧ Below w.heap.size w w' := lone_any ⟨#[48, 61]⟩ a w ha
theorem o_0Lt (a : Int) (w : World) (ha : cellR a) : Calls Try.prog 22 #[.string ⟨#[48, 60]⟩, .int .i64 a] w fun e w' => e = .returned (.int .i64 (yes (decide (a < 0)))) ∧ Below w.heap.size w w' := lone_any ⟨#[48, 60]⟩ a w ha
theorem o_0Gt (a : Int) (w : World) (ha : cellR a) : Calls Try.prog 22 #[.string ⟨#[48, 62]⟩, .int .i64 a] w fun e w' => e = .returned (.int .i64 (yes (decide (0 < a)))) ∧ Below w.heap.size w w' := lone_any ⟨#[48, 62]⟩ a w ha
theorem t_Slash (a b : Int) (w : World) (ha : cellR a) (hb : cellR b) : Calls Try.prog 23 #[.string ⟨#[47]⟩, .int .i64 a, .int .i64 b] w fun e w' => e = .returned (.int .i64 (dq a b)) ∧ Below w.heap.size w w' := ltwo_any ⟨#[47]⟩ a b w ha hb
theorem t_MOD (a b : Int) (w : World) (ha : cellR a) (hb : cellR b) : Calls Try.prog 23 #[.string ⟨#[77, 79, 68]⟩, .int .i64 a, .int .i64 b] w fun e w' => e = .returned (.int .i64 (dr a b)) ∧ Below w.heap.size w w' := ltwo_any ⟨#[77, 79, 68]⟩ a b w ha hb
theorem t_Minus (a b : Int) (w : World) (ha : cellR a) (hb : cellR b) : Calls Try.prog 23 #[.string ⟨#[45]⟩, .int .i64 a, .int .i64 b] w fun e w' => e = .returned (.int .i64 (wrap64 (a - b))) ∧ Below w.heap.size w w' := ltwo_any ⟨#[45]⟩ a b w ha hb
theorem t_Plus (a b : Int) (w : World) (ha : cellR a) (hb : cellR b) : Calls Try.prog 23 #[.string ⟨#[43]⟩, .int .i64 a, .int .i64 b] w fun e w' => e = .returned (.int .i64 (wrap64 (a + b))) ∧ Below w.heap.size w w' := ltwo_any ⟨#[43]⟩ a b w ha hb
theorem t_Star (a b : Int) (w : World) (ha : cellR a) (hb : cellR b) : Calls Try.prog 23 #[.string ⟨#[42]⟩, .int .i64 a, .int .i64 b] w fun e w' => e = .returned (.int .i64 (wrap64 (a * b))) ∧ Below w.heap.size w w' := ltwo_any ⟨#[42]⟩ a b w ha hb
theorem t_AND (a b : Int) (w : World) (ha : cellR a) (hb : cellR b) : Calls Try.prog 23 #[.string ⟨#[65, 78, 68]⟩, .int .i64 a, .int .i64 b] w fun e w' => e = .returned (.int .i64 (bits .and .i64 a b)) ∧ Below w.heap.size w w' := ltwo_any ⟨#[65, 78, 68]⟩ a b w ha hb
theorem t_OR (a b : Int) (w : World) (ha : cellR a) (hb : cellR b) : Calls Try.prog 23 #[.string ⟨#[79, 82]⟩, .int .i64 a, .int .i64 b] w fun e w' => e = .returned (.int .i64 (bits .or .i64 a b)) ∧ Below w.heap.size w w' := ltwo_any ⟨#[79, 82]⟩ a b w ha hb
theorem t_XOR (a b : Int) (w : World) (ha : cellR a) (hb : cellR b) : Calls Try.prog 23 #[.string ⟨#[88, 79, 82]⟩, .int .i64 a, .int .i64 b] w fun e w' => e = .returned (.int .i64 (bits .xor .i64 a b)) ∧ Below w.heap.size w w' := ltwo_any ⟨#[88, 79, 82]⟩ a b w ha hb
theorem t_LSHIFT (a b : Int) (w : World) (ha : cellR a) (hb : cellR b) : Calls Try.prog 23 #[.string ⟨#[76, 83, 72, 73, 70, 84]⟩, .int .i64 a, .int .i64 b] w fun e w' => e = .returned (.int .i64 (shl a b)) ∧ Below w.heap.size w w' := ltwo_any ⟨#[76, 83, 72, 73, 70, 84]⟩ a b w ha hb
theorem t_RSHIFT (a b : Int) (w : World) (ha : cellR a) (hb : cellR b) : Calls Try.prog 23 #[.string ⟨#[82, 83, 72, 73, 70, 84]⟩, .int .i64 a, .int .i64 b] w fun e w' => e = .returned (.int .i64 (shr a b)) ∧ Below w.heap.size w w' := ltwo_any ⟨#[82, 83, 72, 73, 70, 84]⟩ a b w ha hb
theorem t_MIN (a b : Int) (w : World) (ha : cellR a) (hb : cellR b) : Calls Try.prog 23 #[.string ⟨#[77, 73, 78]⟩, .int .i64 a, .int .i64 b] w fun e w' => e = .returned (.int .i64 (if b < a then b else a)) ∧ Below w.heap.size w w' := ltwo_any ⟨#[77, 73, 78]⟩ a b w ha hb
theorem t_MAX (a b : Int) (w : World) (ha : cellR a) (hb : cellR b) : Calls Try.prog 23 #[.string ⟨#[77, 65, 88]⟩, .int .i64 a, .int .i64 b] w fun e w' => e = .returned (.int .i64 (if a < b then b else a)) ∧ Below w.heap.size w w' := ltwo_any ⟨#[77, 65, 88]⟩ a b w ha hb
theorem t_LtGt (a b : Int) (w : World) (ha : cellR a) (hb : cellR b) : Calls Try.prog 23 #[.string ⟨#[60, 62]⟩, .int .i64 a, .int .i64 b] w fun e w' => e = .returned (.int .i64 (yes (a != b))) ∧ Below w.heap.size w w' := ltwo_any ⟨#[60, 62]⟩ a b w ha hb
theorem t_Eq (a b : Int) (w : World) (ha : cellR a) (hb : cellR b) : Calls Try.prog 23 #[.string ⟨#[61]⟩, .int .i64 a, .int .i64 b] w fun e w' => e = .returned (.int .i64 (yes (a == b))) ∧ Below w.heap.size w w' := ltwo_any ⟨#[61]⟩ a b w ha hb
theorem t_Gt (a b : Int) (w : World) (ha : cellR a) (hb : cellR b) : Calls Try.prog 23 #[.string ⟨#[62]⟩, .int .i64 a, .int .i64 b] w fun e w' => e = .returned (.int .i64 (yes (decide (b < a)))) ∧ Below w.heap.size w w' := ltwo_any ⟨#[62]⟩ a b w ha hb
theorem t_Lt (a b : Int) (w : World) (ha : cellR a) (hb : cellR b) : Calls Try.prog 23 #[.string ⟨#[60]⟩, .int .i64 a, .int .i64 b] w fun e w' => e = .returned (.int .i64 (yes (decide (a < b)))) ∧ Below w.heap.size w w' := ltwo_any ⟨#[60]⟩ a b w ha hb
theorem t_GtEq (a b : Int) (w : World) (ha : cellR a) (hb : cellR b) : Calls Try.prog 23 #[.string ⟨#[62, 61]⟩, .int .i64 a, .int .i64 b] w fun e w' => e = .returned (.int .i64 (yes (decide (b ≤ a)))) ∧ Below w.heap.size w w' := ltwo_any ⟨#[62, 61]⟩ a b w ha hb
theorem t_LtEq (a b : Int) (w : World) (ha : cellR a) (hb : cellR b) : Calls Try.prog 23 #[.string ⟨#[60, 61]⟩, .int .i64 a, .int .i64 b] w fun e w' => e = .returned (.int .i64 (yes (decide (a ≤ b)))) ∧ Below w.heap.size w w' := ltwo_any ⟨#[60, 61]⟩ a b w ha hb
theorem t_UGt (a b : Int) (w : World) (ha : cellR a) (hb : cellR b) : Calls Try.prog 23 #[.string ⟨#[85, 62]⟩, .int .i64 a, .int .i64 b] w fun e w' => e = .returned (.int .i64 (yes (decide (un b < un a)))) ∧ Below w.heap.size w w' := ltwo_any ⟨#[85, 62]⟩ a b w ha hb
theorem t_ULt (a b : Int) (w : World) (ha : cellR a) (hb : cellR b) : Calls Try.prog 23 #[.string ⟨#[85, 60]⟩, .int .i64 a, .int .i64 b] w fun e w' => e = .returned (.int .i64 (yes (decide (un a < un b)))) ∧ Below w.heap.size w w' := ltwo_any ⟨#[85, 60]⟩ a b w ha hb

theorem cell_lit {n : Int} (h : -9223372036854775808 ≤ n ∧ n ≤ 9223372036854775807) : cellR n := h
theorem shown_half (w : World) : Calls Try.prog 13 #[.string ⟨#[50, 47]⟩, .int .i64 (-3)] w fun e w' => e = .returned (.tuple #[.int .i64 (-2), .bool true]) ∧ Below w.heap.size w w' := one_any ⟨#[50, 47]⟩ (-3) w (by unfold cellR; omega)
theorem shown_aligned (w : World) : Calls Try.prog 13 #[.string ⟨#[65, 76, 73, 71, 78, 69, 68]⟩, .int .i64 9] w fun e w' => e = .returned (.tuple #[.int .i64 16, .bool true]) ∧ Below w.heap.size w w' := by
  have h := one_any ⟨#[65, 76, 73, 71, 78, 69, 68]⟩ 9 w (by unfold cellR; omega)
  have e1 : oneF (ByteArray.data ⟨#[65, 76, 73, 71, 78, 69, 68]⟩).toList 9 = some 16 := by decide +kernel
  rw [e1] at h
  exact h
theorem shown_plus (w : World) : Calls Try.prog 13 #[.string ⟨#[43]⟩, .int .i64 1] w fun e w' => e = .returned (.tuple #[.int .i64 0, .bool false]) ∧ Below w.heap.size w w' := one_any ⟨#[43]⟩ 1 w (by unfold cellR; omega)
theorem shown_shr (w : World) : Calls Try.prog 16 #[.string ⟨#[82, 83, 72, 73, 70, 84]⟩, .int .i64 (-1), .int .i64 63] w fun e w' => e = .returned (.tuple #[.int .i64 1, .bool true, .int .i64 0]) ∧ Below w.heap.size w w' := by
  have h := two_any ⟨#[82, 83, 72, 73, 70, 84]⟩ (-1) 63 w (by unfold cellR; omega) (by unfold cellR; omega)
  have e1 : twoF (ByteArray.data ⟨#[82, 83, 72, 73, 70, 84]⟩).toList (-1) 63 = some 1 := by decide +kernel
  have e2 : divC (ByteArray.data ⟨#[82, 83, 72, 73, 70, 84]⟩).toList 63 = 0 := by decide
  rw [e1, e2] at h
  exact h
theorem shown_mod (w : World) : Calls Try.prog 16 #[.string ⟨#[77, 79, 68]⟩, .int .i64 1, .int .i64 0] w fun e w' => e = .returned (.tuple #[.int .i64 0, .bool true, .int .i64 (-10)]) ∧ Below w.heap.size w w' := two_any ⟨#[77, 79, 68]⟩ 1 0 w (by unfold cellR; omega) (by unfold cellR; omega)
theorem shown_step (w : World) : Calls Try.prog 18 #[.int .i64 9, .int .i64 10, .int .i64 1] w fun e w' => e = .returned (.tuple #[.int .i64 10, .bool true]) ∧ w = w' := by
  have h := step_any 9 10 1 w (by unfold cellR; omega)
  have e1 : wrap64 (9 + 1) = 10 := by decide +kernel
  have e2 : stepB 9 10 1 = true := by decide +kernel
  rw [e1, e2] at h
  exact h
theorem shown_in (w : World) : Calls Try.prog 20 #[.int .i64 5, .int .i64 5, .int .i64 6] w fun e w' => e = .returned (.bool true) ∧ w = w' := by
  have h := within_any 5 5 6 w
  have e1 : withinB 5 5 6 = true := by decide +kernel
  rw [e1] at h
  exact h
theorem shown_out (w : World) : Calls Try.prog 20 #[.int .i64 6, .int .i64 5, .int .i64 6] w fun e w' => e = .returned (.bool false) ∧ w = w' := by
  have h := within_any 6 5 6 w
  have e1 : withinB 6 5 6 = false := by decide +kernel
  rw [e1] at h
  exact h

set_option maxRecDepth 100000 in
set_option maxHeartbeats 4000000 in
theorem shown_any (w : World) : Calls Try.prog 11 #[] w fun e w' => e = .returned (.bool true) ∧ Below w.heap.size w w' := by
  go_enter Try.func11, Try.ntmps11
  go_wp2_with fail
  refine (shown_half _).mono ?_
  rintro e w1 ⟨rfl, b1⟩
  go_wp2_with fail
  refine (shown_aligned _).mono ?_
  rintro e w2 ⟨rfl, b2⟩
  go_wp2_with fail
  refine (shown_shr _).mono ?_
  rintro e w3 ⟨rfl, b3⟩
  go_wp2_with fail
  refine (shown_step _).mono ?_
  rintro e w3' ⟨rfl, rfl⟩
  go_wp2_with fail
  refine (shown_plus _).mono ?_
  rintro e w4 ⟨rfl, b4⟩
  go_wp2_with fail
  refine (shown_mod _).mono ?_
  rintro e w5 ⟨rfl, b5⟩
  go_wp2_with fail
  refine (shown_in _).mono ?_
  rintro e w6 ⟨rfl, rfl⟩
  go_wp2_with fail
  refine (shown_out _).mono ?_
  rintro e w7 ⟨rfl, rfl⟩
  go_wp2_with fail
  go_ret
  exact ⟨rfl, below_then (below_then (below_then (below_then b1 b2) b3) b4) b5⟩
end Go.Proofs.Ytncljldoioplaaa
