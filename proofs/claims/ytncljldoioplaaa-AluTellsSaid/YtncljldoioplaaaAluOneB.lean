/- The contracts of package alu's teller, of the closure that it makes, of askedOfOne, and of One. -/
import Derived.Test.YtncljldoioplaaaAluOneA
import Derived.Below
namespace Go.Proofs.Ytncljldoioplaaa
open Go.RowKit

theorem tell_not (is : Bool) : tellN is 0 (-1) = yes (!is) := by cases is <;> rfl
theorem below_then {w w1 w2 : World} (h : Below w.heap.size w w1) (k : Below w1.heap.size w1 w2) : Below w.heap.size w w2 := h.trans (k.mono h.size)

set_option maxHeartbeats 400000 in
theorem teller_any (x y : Int) (w : World) :
    Calls Try.prog 33 #[.int .i64 x, .int .i64 y] w fun e w' => ∃ p q : Addr, e = .returned (.func (.func 35) #[] #[.pointer (some p), .pointer (some q)]) ∧ w'.cell? p = some (.int .i64 x) ∧ w'.cell? q = some (.int .i64 y) ∧ (p.block < w'.heap.size ∧ q.block < w'.heap.size) ∧ Below w.heap.size w w' := by
  have hmf : ∀ (fn : Fn) (first cap : Array Value) (w : World), (Instr.makeFunc fn first cap).run Try.prog w = .ok (.func fn first cap) w := fun _ _ _ _ => rfl
  go_enter Try.func33, Try.ntmps33
  go_wp2
  go_ret
  exact ⟨_, _, rfl, by simp, by simp, ⟨by simp; omega, by simp⟩, ((Below.refl _ _).alloc (Nat.le_refl _) _).alloc (by simp) _⟩

set_option maxHeartbeats 400000 in
theorem tell_any (is : Bool) (p q : Addr) (x y : Int) (w : World) (hx : w.cell? p = some (.int .i64 x)) (hy : w.cell? q = some (.int .i64 y)) :
    Calls Try.prog 35 #[.bool is, .pointer (some p), .pointer (some q)] w fun e w' => e = .returned (.int .i64 (tellN is x y)) ∧ w = w' := by
  cases is
  all_goals
    go_enter Try.func35, Try.ntmps35
    go_wp2
    go_ret
    exact ⟨ret_int (by simp [tellN]), rfl⟩

set_option maxHeartbeats 1000000 in
theorem asked1_0LtGt (a : Int) (w : World) :
    Calls Try.prog 25 #[.string ⟨#[48, 60, 62]⟩, .int .i64 a] w fun e w' => e = .returned (.tuple #[.int .i64 (yes (a != 0)), .bool true]) ∧ Below w.heap.size w w' := by
  go_enter Try.func25, Try.ntmps25
  go_wp2_with fail
  refine (teller_any _ _ _).mono ?_
  rintro e w1 ⟨p, q, rfl, hp, hq, hpq, b1⟩
  go_wp2_with fail
  refine (teller_any _ _ _).mono ?_
  rintro e w2 ⟨p2, q2, rfl, hp2, hq2, hpq2, b2⟩
  go_wp2_with fail
  go_wp2_with (go_at_call 35; ((with_reducible refine (tell_any _ _ _ _ _ _ (by assumption) (by assumption)).mono ?_); rintro e w4 ⟨rfl, rfl⟩))
  go_ret2
  exact ⟨ret_ib (by first | rfl | exact tell_not _) rfl, below_then b1 b2⟩

set_option maxHeartbeats 1000000 in
theorem asked1_0Eq (a : Int) (w : World) :
    Calls Try.prog 25 #[.string ⟨#[48, 61]⟩, .int .i64 a] w fun e w' => e = .returned (.tuple #[.int .i64 (yes (a == 0)), .bool true]) ∧ Below w.heap.size w w' := by
  go_enter Try.func25, Try.ntmps25
  go_wp2_with fail
  refine (teller_any _ _ _).mono ?_
  rintro e w1 ⟨p, q, rfl, hp, hq, hpq, b1⟩
  go_wp2_with fail
  go_wp2_with (go_at_call 35; ((with_reducible refine (tell_any _ _ _ _ _ _ (by assumption) (by assumption)).mono ?_); rintro e w4 ⟨rfl, rfl⟩))
  go_ret2
  exact ⟨ret_ib (by first | rfl | exact tell_not _) rfl, b1⟩

set_option maxHeartbeats 1000000 in
theorem asked1_0Lt (a : Int) (w : World) :
    Calls Try.prog 25 #[.string ⟨#[48, 60]⟩, .int .i64 a] w fun e w' => e = .returned (.tuple #[.int .i64 (yes (decide (a < 0))), .bool true]) ∧ Below w.heap.size w w' := by
  go_enter Try.func25, Try.ntmps25
  go_wp2_with fail
  refine (teller_any _ _ _).mono ?_
  rintro e w1 ⟨p, q, rfl, hp, hq, hpq, b1⟩
  go_wp2_with fail
  go_wp2_with (go_at_call 35; ((with_reducible refine (tell_any _ _ _ _ _ _ (by assumption) (by assumption)).mono ?_); rintro e w4 ⟨rfl, rfl⟩))
  go_ret2
  exact ⟨ret_ib (by first | rfl | exact tell_not _) rfl, b1⟩

set_option maxHeartbeats 1000000 in
theorem asked1_0Gt (a : Int) (w : World) :
    Calls Try.prog 25 #[.string ⟨#[48, 62]⟩, .int .i64 a] w fun e w' => e = .returned (.tuple #[.int .i64 (yes (decide (0 < a))), .bool true]) ∧ Below w.heap.size w w' := by
  go_enter Try.func25, Try.ntmps25
  go_wp2_with fail
  refine (teller_any _ _ _).mono ?_
  rintro e w1 ⟨p, q, rfl, hp, hq, hpq, b1⟩
  go_wp2_with fail
  go_wp2_with (go_at_call 35; ((with_reducible refine (tell_any _ _ _ _ _ _ (by assumption) (by assumption)).mono ?_); rintro e w4 ⟨rfl, rfl⟩))
  go_ret2
  exact ⟨ret_ib (by first | rfl | exact tell_not _) rfl, b1⟩

set_option maxHeartbeats 1000000 in
theorem asked1_none (s : ByteArray) (a : Int) (w : World) (h0 : (s.toList == [48, 60, 62]) = false) (h1 : (s.toList == [48, 61]) = false) (h2 : (s.toList == [48, 60]) = false) (h3 : (s.toList == [48, 62]) = false) :
    Calls Try.prog 25 #[.string s, .int .i64 a] w fun e w' => e = .returned (.tuple #[.int .i64 0, .bool false]) ∧ Below w.heap.size w w' := by
  go_enter Try.func25, Try.ntmps25
  go_wp2_with fail
  refine (teller_any _ _ _).mono ?_
  rintro e w1 ⟨p, q, rfl, hp, hq, hpq, b1⟩
  go_wp2
  go_ret2
  exact ⟨ret_ib rfl rfl, b1⟩

theorem asked1_any (s : ByteArray) (a : Int) (w : World) :
    Calls Try.prog 25 #[.string s, .int .i64 a] w fun e w' => e = .returned (.tuple #[.int .i64 ((asked1F s.data.toList a).getD 0), .bool (asked1F s.data.toList a).isSome]) ∧ Below w.heap.size w w' := by
  by_cases h0 : s.data.toList = [48, 60, 62]
  · obtain rfl := str_of h0
    exact asked1_0LtGt a w
  by_cases h1 : s.data.toList = [48, 61]
  · obtain rfl := str_of h1
    exact asked1_0Eq a w
  by_cases h2 : s.data.toList = [48, 60]
  · obtain rfl := str_of h2
    exact asked1_0Lt a w
  by_cases h3 : s.data.toList = [48, 62]
  · obtain rfl := str_of h3
    exact asked1_0Gt a w
  have e : asked1F s.data.toList a = none := by simp only [asked1F, h0, h1, h2, h3, if_false]
  rw [e]
  exact asked1_none s a w (str_no h0) (str_no h1) (str_no h2) (str_no h3)

set_option maxHeartbeats 1000000 in
theorem one_any (s : ByteArray) (a : Int) (w : World) (ha : cellR a) :
    Calls Try.prog 13 #[.string s, .int .i64 a] w fun e w' => e = .returned (.tuple #[.int .i64 ((oneF s.data.toList a).getD 0), .bool (oneF s.data.toList a).isSome]) ∧ Below w.heap.size w w' := by
  have c1 := fun w => turned_any s a w ha
  have c2 := fun w => asked1_any s a w
  cases h : turnedF s.data.toList a with
  | some n =>
    have e : oneF s.data.toList a = some n := by rw [oneF, h]; rfl
    rw [e]
    rw [h] at c1
    have C1 := Lib.hid c1
    clear c1 c2 e h
    go_enter Try.func13, Try.ntmps13
    go_wp2_with (go_at_call 24; ((refine (C1.out _).mono ?_); rintro e w1 ⟨rfl, rfl⟩))
    go_ret2
    exact ⟨ret_ib rfl rfl, Below.refl _ _⟩
  | none =>
    have e : oneF s.data.toList a = asked1F s.data.toList a := by rw [oneF, h]; rfl
    rw [e]
    rw [h] at c1
    have C1 := Lib.hid c1
    have C2 := Lib.hid c2
    clear c1 c2 e h
    go_enter Try.func13, Try.ntmps13
    go_wp2_with (first | (go_at_call 24; ((refine (C1.out _).mono ?_); rintro e w1 ⟨rfl, rfl⟩)) | (go_at_call 25; ((refine (C2.out _).mono ?_); rintro e w2 ⟨rfl, b2⟩)))
    go_ret2
    exact ⟨ret_ib rfl rfl, b2⟩
end Go.Proofs.Ytncljldoioplaaa
