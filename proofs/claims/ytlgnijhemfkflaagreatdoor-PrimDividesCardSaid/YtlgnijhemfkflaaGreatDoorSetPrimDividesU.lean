/- Part 21. -/
import Derived.Test.YtlgnijhemfkflaaGreatDoorSetPrimDividesZero
import Derived.Test.YtlgnijhemfkflaaGreatDoorSetPrimDividesT
import Derived.Below
import Derived.Test.YtlgnijhemfkflaaGreatDoorSetPrimDividesJ
import Derived.Laws.Externs
set_option linter.unusedVariables false
set_option linter.unusedSimpArgs false

namespace Go.Proofs.YtlgnijhemfkflaaGreatDoor
open Go.RowKit
set_option linter.unusedVariables false
set_option linter.unusedSimpArgs false
theorem tell_not (is : Bool) : tellN is 0 (-1) = yes (!is) := by cases is <;> rfl
theorem below_thenA {w w1 w2 : World} (h : Below w.heap.size w w1) (k : Below w1.heap.size w1 w2) : Below w.heap.size w w2 := h.trans (k.mono h.size)
set_option maxHeartbeats 400000 in
theorem teller_any (x y : Int) (w : World) :
    Calls Tryz.prog 268 #[.int .i64 x, .int .i64 y] w fun e w' => ∃ p q : Addr, e = .returned (.func (.func 293) #[] #[.pointer (some p), .pointer (some q)]) ∧ w'.cell? p = some (.int .i64 x) ∧ w'.cell? q = some (.int .i64 y) ∧ (p.block < w'.heap.size ∧ q.block < w'.heap.size) ∧ Below w.heap.size w w' := by
  have hmf : ∀ (fn : Fn) (first cap : Array Value) (w : World), (Instr.makeFunc fn first cap).run Tryz.prog w = .ok (.func fn first cap) w := fun _ _ _ _ => rfl
  go_enter Tryz.func268, Tryz.ntmps268;go_wp2;go_ret;exact ⟨_, _, rfl, by simp, by simp, ⟨by simp; omega, by simp⟩, ((Below.refl _ _).alloc (Nat.le_refl _) _).alloc (by simp) _⟩
set_option maxHeartbeats 400000 in
theorem tell_any (is : Bool) (p q : Addr) (x y : Int) (w : World) (hx : w.cell? p = some (.int .i64 x)) (hy : w.cell? q = some (.int .i64 y)) :
    Calls Tryz.prog 293 #[.bool is, .pointer (some p), .pointer (some q)] w fun e w' => e = .returned (.int .i64 (tellN is x y)) ∧ w = w' := by
  cases is
  all_goals
    go_enter Tryz.func293, Tryz.ntmps293;go_wp2;go_ret;exact ⟨ret_intA (by simp [tellN]), rfl⟩
set_option maxHeartbeats 1000000 in
theorem asked1_0LtGt (a : Int) (w : World) :
    Calls Tryz.prog 205 #[.string ⟨#[48, 60, 62]⟩, .int .i64 a] w fun e w' => e = .returned (.tuple #[.int .i64 (yes (a != 0)), .bool true]) ∧ Below w.heap.size w w' := by
  go_enter Tryz.func205, Tryz.ntmps205;(go_wp2_with fail);refine (teller_any _ _ _).mono ?_;rintro e w1 ⟨p, q, rfl, hp, hq, hpq, b1⟩;(go_wp2_with fail);refine (teller_any _ _ _).mono ?_;rintro e w2 ⟨p2, q2, rfl, hp2, hq2, hpq2, b2⟩;(go_wp2_with fail);(go_wp2_with (go_at_call 293; ((with_reducible refine (tell_any _ _ _ _ _ _ (by assumption) (by assumption)).mono ?_); rintro e w4 ⟨rfl, rfl⟩)));go_ret2;exact ⟨ret_ibA (by first | rfl | exact tell_not _) rfl, below_thenA b1 b2⟩
set_option maxHeartbeats 1000000 in
theorem asked1_0Eq (a : Int) (w : World) :
    Calls Tryz.prog 205 #[.string ⟨#[48, 61]⟩, .int .i64 a] w fun e w' => e = .returned (.tuple #[.int .i64 (yes (a == 0)), .bool true]) ∧ Below w.heap.size w w' := by
  go_enter Tryz.func205, Tryz.ntmps205;(go_wp2_with fail);refine (teller_any _ _ _).mono ?_;rintro e w1 ⟨p, q, rfl, hp, hq, hpq, b1⟩;(go_wp2_with fail);(go_wp2_with (go_at_call 293; ((with_reducible refine (tell_any _ _ _ _ _ _ (by assumption) (by assumption)).mono ?_); rintro e w4 ⟨rfl, rfl⟩)));go_ret2;exact ⟨ret_ibA (by first | rfl | exact tell_not _) rfl, b1⟩
set_option maxHeartbeats 1000000 in
theorem asked1_0Lt (a : Int) (w : World) :
    Calls Tryz.prog 205 #[.string ⟨#[48, 60]⟩, .int .i64 a] w fun e w' => e = .returned (.tuple #[.int .i64 (yes (decide (a < 0))), .bool true]) ∧ Below w.heap.size w w' := by
  go_enter Tryz.func205, Tryz.ntmps205;(go_wp2_with fail);refine (teller_any _ _ _).mono ?_;rintro e w1 ⟨p, q, rfl, hp, hq, hpq, b1⟩;(go_wp2_with fail);(go_wp2_with (go_at_call 293; ((with_reducible refine (tell_any _ _ _ _ _ _ (by assumption) (by assumption)).mono ?_); rintro e w4 ⟨rfl, rfl⟩)));go_ret2;exact ⟨ret_ibA (by first | rfl | exact tell_not _) rfl, b1⟩
set_option maxHeartbeats 1000000 in
theorem asked1_0Gt (a : Int) (w : World) :
    Calls Tryz.prog 205 #[.string ⟨#[48, 62]⟩, .int .i64 a] w fun e w' => e = .returned (.tuple #[.int .i64 (yes (decide (0 < a))), .bool true]) ∧ Below w.heap.size w w' := by
  go_enter Tryz.func205, Tryz.ntmps205;(go_wp2_with fail);refine (teller_any _ _ _).mono ?_;rintro e w1 ⟨p, q, rfl, hp, hq, hpq, b1⟩;(go_wp2_with fail);(go_wp2_with (go_at_call 293; ((with_reducible refine (tell_any _ _ _ _ _ _ (by assumption) (by assumption)).mono ?_); rintro e w4 ⟨rfl, rfl⟩)));go_ret2;exact ⟨ret_ibA (by first | rfl | exact tell_not _) rfl, b1⟩
set_option maxHeartbeats 1000000 in
theorem asked1_none (s : ByteArray) (a : Int) (w : World) (h0 : (s.toList == [48, 60, 62]) = false) (h1 : (s.toList == [48, 61]) = false) (h2 : (s.toList == [48, 60]) = false) (h3 : (s.toList == [48, 62]) = false) :
    Calls Tryz.prog 205 #[.string s, .int .i64 a] w fun e w' => e = .returned (.tuple #[.int .i64 0, .bool false]) ∧ Below w.heap.size w w' := by
  go_enter Tryz.func205, Tryz.ntmps205;(go_wp2_with fail);refine (teller_any _ _ _).mono ?_;rintro e w1 ⟨p, q, rfl, hp, hq, hpq, b1⟩;go_wp2;go_ret2;exact ⟨ret_ibA rfl rfl, b1⟩
theorem asked1_any (s : ByteArray) (a : Int) (w : World) :
    Calls Tryz.prog 205 #[.string s, .int .i64 a] w fun e w' => e = .returned (.tuple #[.int .i64 ((asked1F s.data.toList a).getD 0), .bool (asked1F s.data.toList a).isSome]) ∧ Below w.heap.size w w' := by
  by_cases h0 : s.data.toList = [48, 60, 62]
  · obtain rfl := str_of h0
    exact asked1_0LtGt a w
  by_cases h1 : s.data.toList = [48, 61]
  · obtain rfl := str_of h1
    exact asked1_0Eq a w
  by_cases h2 : s.data.toList = [48, 60]
  · obtain rfl := str_of h2
    exact asked1_0Lt a w
  by_cases h3 : s.data.toList = [48, 62]
  · obtain rfl := str_of h3
    exact asked1_0Gt a w
  have e : asked1F s.data.toList a = none := by simp only [asked1F, h0, h1, h2, h3, if_false]
  rw [e];exact asked1_none s a w (str_noA h0) (str_noA h1) (str_noA h2) (str_noA h3)
set_option maxHeartbeats 1000000 in
theorem one_any (s : ByteArray) (a : Int) (w : World) (ha : cellR a) :
    Calls Tryz.prog 82 #[.string s, .int .i64 a] w fun e w' => e = .returned (.tuple #[.int .i64 ((oneF s.data.toList a).getD 0), .bool (oneF s.data.toList a).isSome]) ∧ Below w.heap.size w w' := by
  have c1 := fun w => turned_any s a w ha
  have c2 := fun w => asked1_any s a w
  cases h : turnedF s.data.toList a with
  | some n =>
    have e : oneF s.data.toList a = some n := by rw [oneF, h]; rfl
    rw [e];rw [h] at c1;have C1 := Lib.hid c1;clear c1 c2 e h;go_enter Tryz.func82, Tryz.ntmps82;(go_wp2_with (go_at_call 204; ((refine (C1.out _).mono ?_); rintro e w1 ⟨rfl, rfl⟩)));go_ret2;exact ⟨ret_ibA rfl rfl, Below.refl _ _⟩
  | none =>
    have e : oneF s.data.toList a = asked1F s.data.toList a := by rw [oneF, h]; rfl
    rw [e];rw [h] at c1;have C1 := Lib.hid c1;have C2 := Lib.hid c2;clear c1 c2 e h;go_enter Tryz.func82, Tryz.ntmps82;(go_wp2_with (first | (go_at_call 204; ((refine (C1.out _).mono ?_); rintro e w1 ⟨rfl, rfl⟩)) | (go_at_call 205; ((refine (C2.out _).mono ?_); rintro e w2 ⟨rfl, b2⟩))));go_ret2;exact ⟨ret_ibA rfl rfl, b2⟩
end Go.Proofs.YtlgnijhemfkflaaGreatDoor

namespace Go.Proofs.YtlgnijhemfkflaaGreatDoor
open Go.RowKit
set_option linter.unusedVariables false
set_option linter.unusedSimpArgs false
theorem ret_ibi {k l : IntKind} {a c e f : Int} {b d : Bool} (h : a = c) (g : b = d) (i : e = f) : Ending.returned (.tuple #[.int k a, .bool b, .int l e]) = .returned (.tuple #[.int k c, .bool d, .int l f]) := by rw [h, g, i]
set_option maxHeartbeats 1000000 in
theorem divided_Slash (a b : Int) (w : World) (ha : cellR a) (hb : cellR b) :
    Calls Tryz.prog 201 #[.string ⟨#[47]⟩, .int .i64 a, .int .i64 b] w fun e w' => e = .returned (.tuple #[.int .i64 (dq a b), .bool true, .int .i64 (dc b)]) ∧ Below w.heap.size w w' := by
  have C1 := Lib.hid (fun w => div_anyA a b w ha hb);go_enter Tryz.func201, Tryz.ntmps201;(go_wp2_with (go_at_call 85; ((refine (C1.out _).mono ?_); rintro e w1 ⟨rfl, b1⟩)))
  go_ret3
  exact ⟨ret_ibi rfl rfl rfl, b1⟩
set_option maxHeartbeats 1000000 in
theorem divided_MOD (a b : Int) (w : World) (ha : cellR a) (hb : cellR b) :
    Calls Tryz.prog 201 #[.string ⟨#[77, 79, 68]⟩, .int .i64 a, .int .i64 b] w fun e w' => e = .returned (.tuple #[.int .i64 (dr a b), .bool true, .int .i64 (dc b)]) ∧ Below w.heap.size w w' := by
  have C1 := Lib.hid (fun w => div_anyA a b w ha hb);go_enter Tryz.func201, Tryz.ntmps201;(go_wp2_with (go_at_call 85; ((refine (C1.out _).mono ?_); rintro e w1 ⟨rfl, b1⟩)))
  go_ret3
  exact ⟨ret_ibi rfl rfl rfl, b1⟩
set_option maxHeartbeats 1000000 in
theorem divided_none (s : ByteArray) (a b : Int) (w : World) (h0 : (s.toList == [47]) = false) (h1 : (s.toList == [77, 79, 68]) = false) :
    Calls Tryz.prog 201 #[.string s, .int .i64 a, .int .i64 b] w fun e w' => e = .returned (.tuple #[.int .i64 0, .bool false, .int .i64 0]) ∧ Below w.heap.size w w' := by
  go_enter Tryz.func201, Tryz.ntmps201;go_wp2
  go_ret3
  exact ⟨ret_ibi rfl rfl rfl, Below.refl _ _⟩
theorem divided_any (s : ByteArray) (a b : Int) (w : World) (ha : cellR a) (hb : cellR b) :
    Calls Tryz.prog 201 #[.string s, .int .i64 a, .int .i64 b] w fun e w' => e = .returned (.tuple #[.int .i64 ((divF s.data.toList a b).getD 0), .bool (divF s.data.toList a b).isSome, .int .i64 (divC s.data.toList b)]) ∧ Below w.heap.size w w' := by
  by_cases h0 : s.data.toList = [47]
  · obtain rfl := str_of h0
    exact divided_Slash a b w ha hb
  by_cases h1 : s.data.toList = [77, 79, 68]
  · obtain rfl := str_of h1
    exact divided_MOD a b w ha hb
  have e : divF s.data.toList a b = none := by simp only [divF, h0, h1, if_false]
  have f : divC s.data.toList b = 0 := by simp only [divC, h0, h1, or_self, if_false]
  rw [e, f];exact divided_none s a b w (str_noA h0) (str_noA h1)
set_option maxHeartbeats 1000000 in
theorem joined_Minus (a b : Int) (w : World) :
    Calls Tryz.prog 202 #[.string ⟨#[45]⟩, .int .i64 a, .int .i64 b] w fun e w' => e = .returned (.tuple #[.int .i64 (wrap64 (a - b)), .bool true]) ∧ w = w' := by
  go_enter Tryz.func202, Tryz.ntmps202;go_wp2
  all_goals go_ret2
  all_goals exact ⟨ret_ibA (by exact sub_eq a b) rfl, rfl⟩
set_option maxHeartbeats 1000000 in
theorem joined_Plus (a b : Int) (w : World) :
    Calls Tryz.prog 202 #[.string ⟨#[43]⟩, .int .i64 a, .int .i64 b] w fun e w' => e = .returned (.tuple #[.int .i64 (wrap64 (a + b)), .bool true]) ∧ w = w' := by
  go_enter Tryz.func202, Tryz.ntmps202;go_wp2
  all_goals go_ret2
  all_goals exact ⟨ret_ibA (by rfl) rfl, rfl⟩
set_option maxHeartbeats 1000000 in
theorem joined_Star (a b : Int) (w : World) :
    Calls Tryz.prog 202 #[.string ⟨#[42]⟩, .int .i64 a, .int .i64 b] w fun e w' => e = .returned (.tuple #[.int .i64 (wrap64 (a * b)), .bool true]) ∧ w = w' := by
  go_enter Tryz.func202, Tryz.ntmps202;go_wp2
  all_goals go_ret2
  all_goals exact ⟨ret_ibA (by rfl) rfl, rfl⟩
set_option maxHeartbeats 1000000 in
theorem joined_AND (a b : Int) (w : World) :
    Calls Tryz.prog 202 #[.string ⟨#[65, 78, 68]⟩, .int .i64 a, .int .i64 b] w fun e w' => e = .returned (.tuple #[.int .i64 (bits .and .i64 a b), .bool true]) ∧ w = w' := by
  go_enter Tryz.func202, Tryz.ntmps202;go_wp2
  all_goals go_ret2
  all_goals exact ⟨ret_ibA (by rfl) rfl, rfl⟩
set_option maxHeartbeats 1000000 in
theorem joined_OR (a b : Int) (w : World) :
    Calls Tryz.prog 202 #[.string ⟨#[79, 82]⟩, .int .i64 a, .int .i64 b] w fun e w' => e = .returned (.tuple #[.int .i64 (bits .or .i64 a b), .bool true]) ∧ w = w' := by
  go_enter Tryz.func202, Tryz.ntmps202;go_wp2
  all_goals go_ret2
  all_goals exact ⟨ret_ibA (by rfl) rfl, rfl⟩
set_option maxHeartbeats 1000000 in
theorem joined_XOR (a b : Int) (w : World) :
    Calls Tryz.prog 202 #[.string ⟨#[88, 79, 82]⟩, .int .i64 a, .int .i64 b] w fun e w' => e = .returned (.tuple #[.int .i64 (bits .xor .i64 a b), .bool true]) ∧ w = w' := by
  go_enter Tryz.func202, Tryz.ntmps202;go_wp2
  all_goals go_ret2
  all_goals exact ⟨ret_ibA (by rfl) rfl, rfl⟩
set_option maxHeartbeats 1000000 in
theorem joined_LSHIFT (a b : Int) (w : World) :
    Calls Tryz.prog 202 #[.string ⟨#[76, 83, 72, 73, 70, 84]⟩, .int .i64 a, .int .i64 b] w fun e w' => e = .returned (.tuple #[.int .i64 (shl a b), .bool true]) ∧ w = w' := by
  go_enter Tryz.func202, Tryz.ntmps202;go_wp2
  all_goals go_ret2
  all_goals exact ⟨ret_ibA (by exact shl_eq a b) rfl, rfl⟩
set_option maxHeartbeats 1000000 in
theorem joined_RSHIFT (a b : Int) (w : World) :
    Calls Tryz.prog 202 #[.string ⟨#[82, 83, 72, 73, 70, 84]⟩, .int .i64 a, .int .i64 b] w fun e w' => e = .returned (.tuple #[.int .i64 (shr a b), .bool true]) ∧ w = w' := by
  go_enter Tryz.func202, Tryz.ntmps202;go_wp2
  all_goals go_ret2
  all_goals exact ⟨ret_ibA (by exact shr_eq a b) rfl, rfl⟩
set_option maxHeartbeats 1000000 in
theorem joined_MIN (a b : Int) (w : World) :
    Calls Tryz.prog 202 #[.string ⟨#[77, 73, 78]⟩, .int .i64 a, .int .i64 b] w fun e w' => e = .returned (.tuple #[.int .i64 (if b < a then b else a), .bool true]) ∧ w = w' := by
  go_enter Tryz.func202, Tryz.ntmps202;go_wp2
  all_goals go_ret2
  all_goals exact ⟨ret_ibA (by first | rfl | (split <;> omega) | (simp only [Int.min_def, Int.max_def]; (split <;> (try split) <;> omega))) rfl, rfl⟩
set_option maxHeartbeats 1000000 in
theorem joined_MAX (a b : Int) (w : World) :
    Calls Tryz.prog 202 #[.string ⟨#[77, 65, 88]⟩, .int .i64 a, .int .i64 b] w fun e w' => e = .returned (.tuple #[.int .i64 (if a < b then b else a), .bool true]) ∧ w = w' := by
  go_enter Tryz.func202, Tryz.ntmps202;go_wp2
  all_goals go_ret2
  all_goals exact ⟨ret_ibA (by first | rfl | (split <;> omega) | (simp only [Int.min_def, Int.max_def]; (split <;> (try split) <;> omega))) rfl, rfl⟩
set_option maxHeartbeats 1000000 in
theorem joined_none (s : ByteArray) (a b : Int) (w : World) (h0 : (s.toList == [45]) = false) (h1 : (s.toList == [43]) = false) (h2 : (s.toList == [42]) = false) (h3 : (s.toList == [65, 78, 68]) = false) (h4 : (s.toList == [79, 82]) = false) (h5 : (s.toList == [88, 79, 82]) = false) (h6 : (s.toList == [76, 83, 72, 73, 70, 84]) = false) (h7 : (s.toList == [82, 83, 72, 73, 70, 84]) = false) (h8 : (s.toList == [77, 73, 78]) = false) (h9 : (s.toList == [77, 65, 88]) = false) :
    Calls Tryz.prog 202 #[.string s, .int .i64 a, .int .i64 b] w fun e w' => e = .returned (.tuple #[.int .i64 0, .bool false]) ∧ w = w' := by
  go_enter Tryz.func202, Tryz.ntmps202;go_wp2;go_ret2;exact ⟨ret_ibA rfl rfl, rfl⟩
theorem joined_any (s : ByteArray) (a b : Int) (w : World) :
    Calls Tryz.prog 202 #[.string s, .int .i64 a, .int .i64 b] w fun e w' => e = .returned (.tuple #[.int .i64 ((joinedF s.data.toList a b).getD 0), .bool (joinedF s.data.toList a b).isSome]) ∧ w = w' := by
  by_cases h0 : s.data.toList = [45]
  · obtain rfl := str_of h0
    exact joined_Minus a b w
  by_cases h1 : s.data.toList = [43]
  · obtain rfl := str_of h1
    exact joined_Plus a b w
  by_cases h2 : s.data.toList = [42]
  · obtain rfl := str_of h2
    exact joined_Star a b w
  by_cases h3 : s.data.toList = [65, 78, 68]
  · obtain rfl := str_of h3
    exact joined_AND a b w
  by_cases h4 : s.data.toList = [79, 82]
  · obtain rfl := str_of h4
    exact joined_OR a b w
  by_cases h5 : s.data.toList = [88, 79, 82]
  · obtain rfl := str_of h5
    exact joined_XOR a b w
  by_cases h6 : s.data.toList = [76, 83, 72, 73, 70, 84]
  · obtain rfl := str_of h6
    exact joined_LSHIFT a b w
  by_cases h7 : s.data.toList = [82, 83, 72, 73, 70, 84]
  · obtain rfl := str_of h7
    exact joined_RSHIFT a b w
  by_cases h8 : s.data.toList = [77, 73, 78]
  · obtain rfl := str_of h8
    exact joined_MIN a b w
  by_cases h9 : s.data.toList = [77, 65, 88]
  · obtain rfl := str_of h9
    exact joined_MAX a b w
  have e : joinedF s.data.toList a b = none := by simp only [joinedF, h0, h1, h2, h3, h4, h5, h6, h7, h8, h9, if_false]
  rw [e];exact joined_none s a b w (str_noA h0) (str_noA h1) (str_noA h2) (str_noA h3) (str_noA h4) (str_noA h5) (str_noA h6) (str_noA h7) (str_noA h8) (str_noA h9)
end Go.Proofs.YtlgnijhemfkflaaGreatDoor

namespace Go.Proofs.YtlgnijhemfkflaaGreatDoor
open Go.RowKit
set_option linter.unusedVariables false
set_option linter.unusedSimpArgs false
set_option maxHeartbeats 1000000 in
theorem asked2_LtGt (a b : Int) (w : World) :
    Calls Tryz.prog 203 #[.string ⟨#[60, 62]⟩, .int .i64 a, .int .i64 b] w fun e w' => e = .returned (.tuple #[.int .i64 (yes (a != b)), .bool true]) ∧ Below w.heap.size w w' := by
  go_enter Tryz.func203, Tryz.ntmps203;(go_wp2_with fail);refine (teller_any _ _ _).mono ?_;rintro e w1 ⟨p, q, rfl, hp, hq, hpq, b1⟩;(go_wp2_with fail);refine (teller_any _ _ _).mono ?_;rintro e w2 ⟨p2, q2, rfl, hp2, hq2, hpq2, b2⟩;(go_wp2_with fail);(go_wp2_with (first | (go_at_call 214; ((with_reducible refine (uless_anyA _ _ _).mono ?_); rintro e w3 ⟨rfl, rfl⟩)) | (go_at_call 293; ((with_reducible refine (tell_any _ _ _ _ _ _ (by assumption) (by assumption)).mono ?_); rintro e w4 ⟨rfl, rfl⟩))));go_ret2;exact ⟨ret_ibA (by first | rfl | exact tell_not _) rfl, below_thenA b1 b2⟩
set_option maxHeartbeats 1000000 in
theorem asked2_Eq (a b : Int) (w : World) :
    Calls Tryz.prog 203 #[.string ⟨#[61]⟩, .int .i64 a, .int .i64 b] w fun e w' => e = .returned (.tuple #[.int .i64 (yes (a == b)), .bool true]) ∧ Below w.heap.size w w' := by
  go_enter Tryz.func203, Tryz.ntmps203;(go_wp2_with fail);refine (teller_any _ _ _).mono ?_;rintro e w1 ⟨p, q, rfl, hp, hq, hpq, b1⟩;(go_wp2_with fail);(go_wp2_with (first | (go_at_call 214; ((with_reducible refine (uless_anyA _ _ _).mono ?_); rintro e w3 ⟨rfl, rfl⟩)) | (go_at_call 293; ((with_reducible refine (tell_any _ _ _ _ _ _ (by assumption) (by assumption)).mono ?_); rintro e w4 ⟨rfl, rfl⟩))));go_ret2;exact ⟨ret_ibA (by first | rfl | exact tell_not _) rfl, b1⟩
set_option maxHeartbeats 1000000 in
theorem asked2_Gt (a b : Int) (w : World) :
    Calls Tryz.prog 203 #[.string ⟨#[62]⟩, .int .i64 a, .int .i64 b] w fun e w' => e = .returned (.tuple #[.int .i64 (yes (decide (b < a))), .bool true]) ∧ Below w.heap.size w w' := by
  go_enter Tryz.func203, Tryz.ntmps203;(go_wp2_with fail);refine (teller_any _ _ _).mono ?_;rintro e w1 ⟨p, q, rfl, hp, hq, hpq, b1⟩;(go_wp2_with fail);(go_wp2_with (first | (go_at_call 214; ((with_reducible refine (uless_anyA _ _ _).mono ?_); rintro e w3 ⟨rfl, rfl⟩)) | (go_at_call 293; ((with_reducible refine (tell_any _ _ _ _ _ _ (by assumption) (by assumption)).mono ?_); rintro e w4 ⟨rfl, rfl⟩))));go_ret2;exact ⟨ret_ibA (by first | rfl | exact tell_not _) rfl, b1⟩
set_option maxHeartbeats 1000000 in
theorem asked2_Lt (a b : Int) (w : World) :
    Calls Tryz.prog 203 #[.string ⟨#[60]⟩, .int .i64 a, .int .i64 b] w fun e w' => e = .returned (.tuple #[.int .i64 (yes (decide (a < b))), .bool true]) ∧ Below w.heap.size w w' := by
  go_enter Tryz.func203, Tryz.ntmps203;(go_wp2_with fail);refine (teller_any _ _ _).mono ?_;rintro e w1 ⟨p, q, rfl, hp, hq, hpq, b1⟩;(go_wp2_with fail);(go_wp2_with (first | (go_at_call 214; ((with_reducible refine (uless_anyA _ _ _).mono ?_); rintro e w3 ⟨rfl, rfl⟩)) | (go_at_call 293; ((with_reducible refine (tell_any _ _ _ _ _ _ (by assumption) (by assumption)).mono ?_); rintro e w4 ⟨rfl, rfl⟩))));go_ret2;exact ⟨ret_ibA (by first | rfl | exact tell_not _) rfl, b1⟩
set_option maxHeartbeats 1000000 in
theorem asked2_GtEq (a b : Int) (w : World) :
    Calls Tryz.prog 203 #[.string ⟨#[62, 61]⟩, .int .i64 a, .int .i64 b] w fun e w' => e = .returned (.tuple #[.int .i64 (yes (decide (b ≤ a))), .bool true]) ∧ Below w.heap.size w w' := by
  go_enter Tryz.func203, Tryz.ntmps203;(go_wp2_with fail);refine (teller_any _ _ _).mono ?_;rintro e w1 ⟨p, q, rfl, hp, hq, hpq, b1⟩;(go_wp2_with fail);(go_wp2_with (first | (go_at_call 214; ((with_reducible refine (uless_anyA _ _ _).mono ?_); rintro e w3 ⟨rfl, rfl⟩)) | (go_at_call 293; ((with_reducible refine (tell_any _ _ _ _ _ _ (by assumption) (by assumption)).mono ?_); rintro e w4 ⟨rfl, rfl⟩))));go_ret2;exact ⟨ret_ibA (by first | rfl | exact tell_not _) rfl, b1⟩
set_option maxHeartbeats 1000000 in
theorem asked2_LtEq (a b : Int) (w : World) :
    Calls Tryz.prog 203 #[.string ⟨#[60, 61]⟩, .int .i64 a, .int .i64 b] w fun e w' => e = .returned (.tuple #[.int .i64 (yes (decide (a ≤ b))), .bool true]) ∧ Below w.heap.size w w' := by
  go_enter Tryz.func203, Tryz.ntmps203;(go_wp2_with fail);refine (teller_any _ _ _).mono ?_;rintro e w1 ⟨p, q, rfl, hp, hq, hpq, b1⟩;(go_wp2_with fail);(go_wp2_with (first | (go_at_call 214; ((with_reducible refine (uless_anyA _ _ _).mono ?_); rintro e w3 ⟨rfl, rfl⟩)) | (go_at_call 293; ((with_reducible refine (tell_any _ _ _ _ _ _ (by assumption) (by assumption)).mono ?_); rintro e w4 ⟨rfl, rfl⟩))));go_ret2;exact ⟨ret_ibA (by first | rfl | exact tell_not _) rfl, b1⟩
set_option maxHeartbeats 1000000 in
theorem asked2_UGt (a b : Int) (w : World) :
    Calls Tryz.prog 203 #[.string ⟨#[85, 62]⟩, .int .i64 a, .int .i64 b] w fun e w' => e = .returned (.tuple #[.int .i64 (yes (decide (un b < un a))), .bool true]) ∧ Below w.heap.size w w' := by
  go_enter Tryz.func203, Tryz.ntmps203;(go_wp2_with fail);refine (teller_any _ _ _).mono ?_;rintro e w1 ⟨p, q, rfl, hp, hq, hpq, b1⟩;(go_wp2_with fail);(go_wp2_with (first | (go_at_call 214; ((with_reducible refine (uless_anyA _ _ _).mono ?_); rintro e w3 ⟨rfl, rfl⟩)) | (go_at_call 293; ((with_reducible refine (tell_any _ _ _ _ _ _ (by assumption) (by assumption)).mono ?_); rintro e w4 ⟨rfl, rfl⟩))));go_ret2;exact ⟨ret_ibA (by first | rfl | exact tell_not _) rfl, b1⟩
set_option maxHeartbeats 1000000 in
theorem asked2_ULt (a b : Int) (w : World) :
    Calls Tryz.prog 203 #[.string ⟨#[85, 60]⟩, .int .i64 a, .int .i64 b] w fun e w' => e = .returned (.tuple #[.int .i64 (yes (decide (un a < un b))), .bool true]) ∧ Below w.heap.size w w' := by
  go_enter Tryz.func203, Tryz.ntmps203;(go_wp2_with fail);refine (teller_any _ _ _).mono ?_;rintro e w1 ⟨p, q, rfl, hp, hq, hpq, b1⟩;(go_wp2_with fail);(go_wp2_with (first | (go_at_call 214; ((with_reducible refine (uless_anyA _ _ _).mono ?_); rintro e w3 ⟨rfl, rfl⟩)) | (go_at_call 293; ((with_reducible refine (tell_any _ _ _ _ _ _ (by assumption) (by assumption)).mono ?_); rintro e w4 ⟨rfl, rfl⟩))));go_ret2;exact ⟨ret_ibA (by first | rfl | exact tell_not _) rfl, b1⟩
set_option maxHeartbeats 1000000 in
theorem asked2_none (s : ByteArray) (a b : Int) (w : World) (h0 : (s.toList == [60, 62]) = false) (h1 : (s.toList == [61]) = false) (h2 : (s.toList == [62]) = false) (h3 : (s.toList == [60]) = false) (h4 : (s.toList == [62, 61]) = false) (h5 : (s.toList == [60, 61]) = false) (h6 : (s.toList == [85, 62]) = false) (h7 : (s.toList == [85, 60]) = false) :
    Calls Tryz.prog 203 #[.string s, .int .i64 a, .int .i64 b] w fun e w' => e = .returned (.tuple #[.int .i64 0, .bool false]) ∧ Below w.heap.size w w' := by
  go_enter Tryz.func203, Tryz.ntmps203;(go_wp2_with fail);refine (teller_any _ _ _).mono ?_;rintro e w1 ⟨p, q, rfl, hp, hq, hpq, b1⟩;go_wp2;go_ret2;exact ⟨ret_ibA rfl rfl, b1⟩
theorem asked2_any (s : ByteArray) (a b : Int) (w : World) :
    Calls Tryz.prog 203 #[.string s, .int .i64 a, .int .i64 b] w fun e w' => e = .returned (.tuple #[.int .i64 ((asked2F s.data.toList a b).getD 0), .bool (asked2F s.data.toList a b).isSome]) ∧ Below w.heap.size w w' := by
  by_cases h0 : s.data.toList = [60, 62]
  · obtain rfl := str_of h0
    exact asked2_LtGt a b w
  by_cases h1 : s.data.toList = [61]
  · obtain rfl := str_of h1
    exact asked2_Eq a b w
  by_cases h2 : s.data.toList = [62]
  · obtain rfl := str_of h2
    exact asked2_Gt a b w
  by_cases h3 : s.data.toList = [60]
  · obtain rfl := str_of h3
    exact asked2_Lt a b w
  by_cases h4 : s.data.toList = [62, 61]
  · obtain rfl := str_of h4
    exact asked2_GtEq a b w
  by_cases h5 : s.data.toList = [60, 61]
  · obtain rfl := str_of h5
    exact asked2_LtEq a b w
  by_cases h6 : s.data.toList = [85, 62]
  · obtain rfl := str_of h6
    exact asked2_UGt a b w
  by_cases h7 : s.data.toList = [85, 60]
  · obtain rfl := str_of h7
    exact asked2_ULt a b w
  have e : asked2F s.data.toList a b = none := by simp only [asked2F, h0, h1, h2, h3, h4, h5, h6, h7, if_false]
  rw [e];exact asked2_none s a b w (str_noA h0) (str_noA h1) (str_noA h2) (str_noA h3) (str_noA h4) (str_noA h5) (str_noA h6) (str_noA h7)
theorem div_code {l : List UInt8} {a b : Int} (h : divF l a b = none) : divC l b = 0 := by
  unfold divF at h;unfold divC
  split at h
  · cases h
  · split at h
    · cases h
    · rename_i h1 h2
      simp only [h1, h2, or_self, if_false]
set_option maxHeartbeats 1000000 in
theorem two_any (s : ByteArray) (a b : Int) (w : World) (ha : cellR a) (hb : cellR b) :
    Calls Tryz.prog 80 #[.string s, .int .i64 a, .int .i64 b] w fun e w' => e = .returned (.tuple #[.int .i64 ((twoF s.data.toList a b).getD 0), .bool (twoF s.data.toList a b).isSome, .int .i64 (divC s.data.toList b)]) ∧ Below w.heap.size w w' := by
  have c1 := fun w => divided_any s a b w ha hb
  have c2 := fun w => joined_any s a b w
  have c3 := fun w => asked2_any s a b w
  cases h : divF s.data.toList a b with
  | some n =>
    have e : twoF s.data.toList a b = some n := by rw [twoF, h]; rfl
    rw [e];rw [h] at c1;have C1 := Lib.hid c1;clear c1 c2 c3 e h;go_enter Tryz.func80, Tryz.ntmps80;(go_wp2_with (go_at_call 201; ((refine (C1.out _).mono ?_); rintro e w1 ⟨rfl, b1⟩)))
    go_ret3
    exact ⟨ret_ibi rfl rfl rfl, b1⟩
  | none =>
    have hc := div_code h;rw [h, hc] at c1;rw [hc];have C1 := Lib.hid c1;cases g : joinedF s.data.toList a b with
    | some n =>
      have e : twoF s.data.toList a b = some n := by rw [twoF, h, g]; rfl
      rw [e];rw [g] at c2;have C2 := Lib.hid c2;clear c1 c2 c3 e h g hc;go_enter Tryz.func80, Tryz.ntmps80;(go_wp2_with (first | (go_at_call 201; ((refine (C1.out _).mono ?_); rintro e w1 ⟨rfl, b1⟩)) | (go_at_call 202; ((refine (C2.out _).mono ?_); rintro e w2 ⟨rfl, rfl⟩))))
      go_ret3
      exact ⟨ret_ibi rfl rfl rfl, b1⟩
    | none =>
      have e : twoF s.data.toList a b = asked2F s.data.toList a b := by rw [twoF, h, g]; rfl
      rw [e];rw [g] at c2;have C2 := Lib.hid c2;have C3 := Lib.hid c3;clear c1 c2 c3 e h g hc;go_enter Tryz.func80, Tryz.ntmps80;(go_wp2_with (first | (go_at_call 201; ((refine (C1.out _).mono ?_); rintro e w1 ⟨rfl, b1⟩)) | (go_at_call 202; ((refine (C2.out _).mono ?_); rintro e w2 ⟨rfl, rfl⟩)) | (go_at_call 203; ((refine (C3.out _).mono ?_); rintro e w3 ⟨rfl, b3⟩))))
      go_ret3
      exact ⟨ret_ibi rfl rfl rfl, below_thenA b1 b3⟩
end Go.Proofs.YtlgnijhemfkflaaGreatDoor

namespace Go.Proofs.YtlgnijhemfkflaaGreatDoor
open Go.RowKit
set_option linter.unusedVariables false
set_option linter.unusedSimpArgs false
def withinB (x lo hi : Int) : Bool := decide (un (wrap64 (x - lo)) < un (wrap64 (hi - lo)))
set_option maxHeartbeats 1000000 in
theorem within_any (x lo hi : Int) (w : World) :
    Calls Tryz.prog 99 #[.int .i64 x, .int .i64 lo, .int .i64 hi] w fun e w' => e = .returned (.bool (withinB x lo hi)) ∧ w = w' := by
  go_enter Tryz.func99, Tryz.ntmps99;(go_wp2_with (go_at_call 214; ((with_reducible refine (uless_anyA _ _ _).mono ?_); rintro e w3 ⟨rfl, rfl⟩)));go_ret;exact ⟨ret_boolA rfl, rfl⟩
end Go.Proofs.YtlgnijhemfkflaaGreatDoor

namespace Go.Proofs.YtlgnijhemfkflaaGreatDoor
open Go.RowKit
set_option linter.unusedVariables false
set_option linter.unusedSimpArgs false
structure Cuts (s a b : ByteArray) (i : Nat) : Prop where
  find : firstIdx s 32 = (i : Int)
  left : s.extract 0 i = a
  right : s.extract (i + 1) s.size = b
  lt : i < s.size
  most : s.size ≤ 100
  not : ([32] == s.toList) = false
theorem ixb_run (s : ByteArray) (i : Nat) (h : firstIdx s 32 = (i : Int)) (w : World) :
    (callFunc 313 #[.string s, .int .u8 32]).run Tryz.prog w = .ok (.value (.int .i64 (i : Int))) w := by
  rw [run_callFunc_extern Tryz.func313 (by kernel_rfl) (by kernel_rfl) (by kernel_rfl) (e := Extern.BytealgIndexByte.indexByte) (by kernel_rfl)];rw [run_indexByte_string, show (32 : Int).toNat.toUInt8 = 32 from rfl, h];rfl
set_option maxRecDepth 100000 in
theorem ixb_any (s : ByteArray) (i : Nat) (w : World) (h : Hid (firstIdx s 32 = (i : Int))) :
    Calls Tryz.prog 309 #[.string s, .int .u8 32] w fun e w' => e = .returned (.int .i64 (i : Int)) ∧ w = w' := by
  have hr := ixb_run s i h.out;go_enter Tryz.func309, Tryz.ntmps309;go_wp2;go_ret;exact ⟨rfl, rfl⟩
set_option maxRecDepth 100000 in
set_option maxHeartbeats 1000000 in
theorem index_any (s : ByteArray) (i : Nat) (w : World) (h : Hid (firstIdx s 32 = (i : Int))) (hn : ([32] == s.toList) = false) :
    Calls Tryz.prog 308 #[.string s, .string ⟨#[32]⟩] w fun e w' => e = .returned (.int .i64 (i : Int)) ∧ w = w' := by
  go_enter Tryz.func308, Tryz.ntmps308;(go_wp2_with (go_at_call 309; ((refine (ixb_any s i _ h).mono ?_); rintro e w' ⟨rfl, rfl⟩)));go_ret;exact ⟨rfl, rfl⟩
set_option maxRecDepth 100000 in
set_option maxHeartbeats 1000000 in
theorem cut_lite (s a b : ByteArray) (i : Nat) (w : World) (h : Hid (Cuts s a b i)) :
    Calls Tryz.prog 304 #[.string s, .string ⟨#[32]⟩] w fun e w' => e = .returned (.tuple #[.string a, .string b, .bool true]) ∧ Below w.heap.size w w' := by
  have h1 := h.out.left;have h2 := h.out.right;have h3 := h.out.not;have h4 : (i : Int) < (s.size : Int) := by have := h.out.lt; omega
  have h5 : (i : Int) + 1 ≤ (s.size : Int) := by omega
  have h6 : (s.size : Int) ≤ 100 := by have := h.out.most; omega
  have h7 : IntKind.i64.wrap ((i : Int) + 1) = (i : Int) + 1 := IntWalk.i64_in _ (by omega);have h8 : ((i : Int) + 1).toNat = i + 1 := by omega
  have h9 : (0 : Int) ≤ (i : Int) + 1 := by omega
  have H3 := Lib.hid h3;have HF := Lib.hid h.out.find;clear h3;go_enter Tryz.func304, Tryz.ntmps304;(go_wp2_with (go_at_call 308; ((with_reducible refine (index_any s i _ HF H3.out).mono ?_); rintro e w' ⟨rfl, rfl⟩)))
  go_quiet (fail)
  go_wp2
  go_ret3
  exact ⟨rfl, Go.Joins.below_draws _ _ _⟩
set_option maxRecDepth 100000 in
theorem cut_any (s a b : ByteArray) (i : Nat) (w : World) (h : Hid (Cuts s a b i)) :
    Calls Tryz.prog 290 #[.string s, .string ⟨#[32]⟩] w fun e w' => e = .returned (.tuple #[.string a, .string b, .bool true]) ∧ Below w.heap.size w w' := by
  go_enter Tryz.func290, Tryz.ntmps290;(go_wp2_with (go_at_call 304; ((with_reducible refine (cut_lite s a b i _ h).mono ?_); rintro e w' ⟨rfl, bb⟩)))
  go_ret3
  exact ⟨rfl, bb⟩
end Go.Proofs.YtlgnijhemfkflaaGreatDoor
