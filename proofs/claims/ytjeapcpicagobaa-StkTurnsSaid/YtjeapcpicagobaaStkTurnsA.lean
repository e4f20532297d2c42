/- The walk of StkTurns. -/
import Derived.Test.YtjeapcpicagobaaStkN
import Derived.Test.YtjeapcpicagobaaStkMath
import Derived.Deep.RegionHeld3
namespace Go.Proofs.Ytjeapcpicagobaa
open Go.RowKit
set_option linter.unusedVariables false
set_option linter.unusedSimpArgs false

set_option maxRecDepth 100000 in
set_option maxHeartbeats 16000000 in
theorem turns_core (A : Option Addr) (n cc : Nat) (r : List Int) (a b c d : Int) (w0 : World) (hn : n ≤ 60) (h4 : 4 ≤ n) (HN : Hid (r.length + 4 = n)) (S0 : Hid (Row w0 A n cc (r ++ [a, b, c, d]))) :
    Calls Try.prog 5 #[.slice A n cc] w0 fun e w' => e = .returned (.bool true) ∧ Below w0.heap.size w0 w' := by
  have q1 : decide ((60 : Int) < (n : Int)) = false := by simp; omega
  have q2 : decide (60 < n) = false := by simp; omega
  have q3 : decide ((n : Int) < 4) = false := by simp; omega
  have q4 : decide (n < 4) = false := by simp; omega
  go_enter Try.func5, Try.ntmps5
  go_wp2_with fail
  refine (shown_any _).mono ?_
  rintro e w1 ⟨rfl, bb⟩
  have B1 := Lib.hid bb
  have S1 := Lib.hid (S0.out.keep bb)
  clear bb S0
  go_wp2_with fail
  refine (both_any A n cc ⟨#[83, 87, 65, 80]⟩ ⟨#[83, 87, 65, 80]⟩ (r ++ [a, b, c, d]) (r ++ [a, b, d, c]) (r ++ [a, b, c, d]) n n _ (by omega) S1 (Lib.hid (perm_on 2 [1, 0] r [a, b, c, d] [a, b, d, c] (by simp) rfl)) (Lib.hid (perm_on 2 [1, 0] r [a, b, d, c] [a, b, c, d] (by simp) rfl)) (Lib.hid (by show _ = _; have z := HN.out; simp; omega)) (Lib.hid (by show _ = _; have z := HN.out; simp; omega)) (by omega) (by omega)).mono ?_
  rintro e w2 ⟨X1, y1, rfl, hr, bb⟩
  have B2 := Lib.hid (below_then B1.out bb)
  have S2 := Lib.hid (S1.out.keep bb)
  have a2 := Lib.hid hr
  clear bb B1 S1 hr
  go_wp2_with fail
  refine (both_any A n cc ⟨#[82, 79, 84]⟩ ⟨#[45, 82, 79, 84]⟩ (r ++ [a, b, c, d]) (r ++ [a, c, d, b]) (r ++ [a, b, c, d]) n n _ (by omega) S2 (Lib.hid (perm_on 3 [1, 2, 0] r [a, b, c, d] [a, c, d, b] (by simp) rfl)) (Lib.hid (perm_on 3 [2, 0, 1] r [a, c, d, b] [a, b, c, d] (by simp) rfl)) (Lib.hid (by show _ = _; have z := HN.out; simp; omega)) (Lib.hid (by show _ = _; have z := HN.out; simp; omega)) (by omega) (by omega)).mono ?_
  rintro e w3 ⟨X2, y2, rfl, hr, bb⟩
  have B3 := Lib.hid (below_then B2.out bb)
  have S3 := Lib.hid (S2.out.keep bb)
  have a3 := Lib.hid (a2.out.keep bb)
  have b3 := Lib.hid hr
  clear bb B2 S2 a2 hr
  go_wp2_with fail
  refine (both_any A n cc ⟨#[50, 83, 87, 65, 80]⟩ ⟨#[50, 83, 87, 65, 80]⟩ (r ++ [a, b, c, d]) (r ++ [c, d, a, b]) (r ++ [a, b, c, d]) n n _ (by omega) S3 (Lib.hid (perm_on 4 [2, 3, 0, 1] r [a, b, c, d] [c, d, a, b] (by simp) rfl)) (Lib.hid (perm_on 4 [2, 3, 0, 1] r [c, d, a, b] [a, b, c, d] (by simp) rfl)) (Lib.hid (by show _ = _; have z := HN.out; simp; omega)) (Lib.hid (by show _ = _; have z := HN.out; simp; omega)) (by omega) (by omega)).mono ?_
  rintro e w4 ⟨X3, y3, rfl, hr, bb⟩
  have B4 := Lib.hid (below_then B3.out bb)
  have S4 := Lib.hid (S3.out.keep bb)
  have a4 := Lib.hid (a3.out.keep bb)
  have b4 := Lib.hid (b3.out.keep bb)
  have c4 := Lib.hid hr
  clear bb B3 S3 a3 b3 hr
  go_wp2_with fail
  refine (both_any A n cc ⟨#[68, 85, 80]⟩ ⟨#[68, 82, 79, 80]⟩ (r ++ [a, b, c, d]) (r ++ [a, b, c, d, d]) (r ++ [a, b, c, d]) (n + 1) n _ (by omega) S4 (Lib.hid (perm_on 1 [0, 0] r [a, b, c, d] [a, b, c, d, d] (by simp) rfl)) (Lib.hid (perm_on 1 [] r [a, b, c, d, d] [a, b, c, d] (by simp) rfl)) (Lib.hid (by show _ = _; have z := HN.out; simp; omega)) (Lib.hid (by show _ = _; have z := HN.out; simp; omega)) (by omega) (by omega)).mono ?_
  rintro e w5 ⟨X4, y4, rfl, hr, bb⟩
  have B5 := Lib.hid (below_then B4.out bb)
  have S5 := Lib.hid (S4.out.keep bb)
  have a5 := Lib.hid (a4.out.keep bb)
  have b5 := Lib.hid (b4.out.keep bb)
  have c5 := Lib.hid (c4.out.keep bb)
  have d5 := Lib.hid hr
  clear bb B4 S4 a4 b4 c4 hr
  go_wp2_with fail
  refine (both_any A n cc ⟨#[82, 79, 84]⟩ ⟨#[82, 79, 84]⟩ (r ++ [a, b, c, d]) (r ++ [a, c, d, b]) (r ++ [a, d, b, c]) n n _ (by omega) S5 (Lib.hid (perm_on 3 [1, 2, 0] r [a, b, c, d] [a, c, d, b] (by simp) rfl)) (Lib.hid (perm_on 3 [1, 2, 0] r [a, c, d, b] [a, d, b, c] (by simp) rfl)) (Lib.hid (by show _ = _; have z := HN.out; simp; omega)) (Lib.hid (by show _ = _; have z := HN.out; simp; omega)) (by omega) (by omega)).mono ?_
  rintro e w6 ⟨X5, y5, rfl, hr, bb⟩
  have B6 := Lib.hid (below_then B5.out bb)
  have S6 := Lib.hid (S5.out.keep bb)
  have a6 := Lib.hid (a5.out.keep bb)
  have b6 := Lib.hid (b5.out.keep bb)
  have c6 := Lib.hid (c5.out.keep bb)
  have d6 := Lib.hid (d5.out.keep bb)
  have e6 := Lib.hid hr
  clear bb B5 S5 a5 b5 c5 d5 hr
  go_wp2_with fail
  refine (sh_out X5 n y5 ⟨#[82, 79, 84]⟩ (r ++ [a, d, b, c]) (r ++ [a, b, c, d]) 1000 n _ (by omega) e6 (Lib.hid (perm_on 3 [1, 2, 0] r [a, d, b, c] [a, b, c, d] (by simp) rfl)) (Lib.hid (by show _ = _; have z := HN.out; simp; omega)) (by omega)).mono ?_
  rintro e w7 ⟨X6, y6, rfl, hr, bb⟩
  have B7 := Lib.hid (below_then B6.out bb)
  have S7 := Lib.hid (S6.out.keep bb)
  have a7 := Lib.hid (a6.out.keep bb)
  have b7 := Lib.hid (b6.out.keep bb)
  have c7 := Lib.hid (c6.out.keep bb)
  have d7 := Lib.hid (d6.out.keep bb)
  have e7 := Lib.hid (e6.out.keep bb)
  have f7 := Lib.hid hr
  clear bb B6 S6 a6 b6 c6 d6 e6 hr
  go_wp2_with fail
  refine (same_true X1 A n y1 n cc (r ++ [a, b, c, d]) (r ++ [a, b, c, d]) _ (by omega) (by omega) a7 S7 (Lib.hid (rfl))).mono ?_
  rintro e w8 ⟨rfl, bb⟩
  have B8 := Lib.hid (below_then B7.out bb)
  have S8 := Lib.hid (S7.out.keep bb)
  have a8 := Lib.hid (a7.out.keep bb)
  have b8 := Lib.hid (b7.out.keep bb)
  have c8 := Lib.hid (c7.out.keep bb)
  have d8 := Lib.hid (d7.out.keep bb)
  have e8 := Lib.hid (e7.out.keep bb)
  have f8 := Lib.hid (f7.out.keep bb)
  clear bb B7 S7 a7 b7 c7 d7 e7 f7
  go_wp2_with fail
  refine (same_true X2 A n y2 n cc (r ++ [a, b, c, d]) (r ++ [a, b, c, d]) _ (by omega) (by omega) b8 S8 (Lib.hid (rfl))).mono ?_
  rintro e w9 ⟨rfl, bb⟩
  have B9 := Lib.hid (below_then B8.out bb)
  have S9 := Lib.hid (S8.out.keep bb)
  have a9 := Lib.hid (a8.out.keep bb)
  have b9 := Lib.hid (b8.out.keep bb)
  have c9 := Lib.hid (c8.out.keep bb)
  have d9 := Lib.hid (d8.out.keep bb)
  have e9 := Lib.hid (e8.out.keep bb)
  have f9 := Lib.hid (f8.out.keep bb)
  clear bb B8 S8 a8 b8 c8 d8 e8 f8
  go_wp2_with fail
  refine (same_true X3 A n y3 n cc (r ++ [a, b, c, d]) (r ++ [a, b, c, d]) _ (by omega) (by omega) c9 S9 (Lib.hid (rfl))).mono ?_
  rintro e w10 ⟨rfl, bb⟩
  have B10 := Lib.hid (below_then B9.out bb)
  have S10 := Lib.hid (S9.out.keep bb)
  have a10 := Lib.hid (a9.out.keep bb)
  have b10 := Lib.hid (b9.out.keep bb)
  have c10 := Lib.hid (c9.out.keep bb)
  have d10 := Lib.hid (d9.out.keep bb)
  have e10 := Lib.hid (e9.out.keep bb)
  have f10 := Lib.hid (f9.out.keep bb)
  clear bb B9 S9 a9 b9 c9 d9 e9 f9
  go_wp2_with fail
  refine (same_true X4 A n y4 n cc (r ++ [a, b, c, d]) (r ++ [a, b, c, d]) _ (by omega) (by omega) d10 S10 (Lib.hid (rfl))).mono ?_
  rintro e w11 ⟨rfl, bb⟩
  have B11 := Lib.hid (below_then B10.out bb)
  have S11 := Lib.hid (S10.out.keep bb)
  have a11 := Lib.hid (a10.out.keep bb)
  have b11 := Lib.hid (b10.out.keep bb)
  have c11 := Lib.hid (c10.out.keep bb)
  have d11 := Lib.hid (d10.out.keep bb)
  have e11 := Lib.hid (e10.out.keep bb)
  have f11 := Lib.hid (f10.out.keep bb)
  clear bb B10 S10 a10 b10 c10 d10 e10 f10
  go_wp2_with fail
  refine (same_true X6 A n y6 n cc (r ++ [a, b, c, d]) (r ++ [a, b, c, d]) _ (by omega) (by omega) f11 S11 (Lib.hid (rfl))).mono ?_
  rintro e w12 ⟨rfl, bb⟩
  have B12 := Lib.hid (below_then B11.out bb)
  have S12 := Lib.hid (S11.out.keep bb)
  have a12 := Lib.hid (a11.out.keep bb)
  have b12 := Lib.hid (b11.out.keep bb)
  have c12 := Lib.hid (c11.out.keep bb)
  have d12 := Lib.hid (d11.out.keep bb)
  have e12 := Lib.hid (e11.out.keep bb)
  have f12 := Lib.hid (f11.out.keep bb)
  clear bb B11 S11 a11 b11 c11 d11 e11 f11
  clear a12
  clear b12
  clear c12
  clear d12
  clear e12
  clear f12
  go_wp2_with fail
  refine (both_any A n cc ⟨#[83, 87, 65, 80]⟩ ⟨#[79, 86, 69, 82]⟩ (r ++ [a, b, c, d]) (r ++ [a, b, d, c]) (r ++ [a, b, d, c, d]) n (n + 1) _ (by omega) S12 (Lib.hid (perm_on 2 [1, 0] r [a, b, c, d] [a, b, d, c] (by simp) rfl)) (Lib.hid (perm_on 2 [0, 1, 0] r [a, b, d, c] [a, b, d, c, d] (by simp) rfl)) (Lib.hid (by show _ = _; have z := HN.out; simp; omega)) (Lib.hid (by show _ = _; have z := HN.out; simp; omega)) (by omega) (by omega)).mono ?_
  rintro e w13 ⟨X7, y7, rfl, hr, bb⟩
  have B13 := Lib.hid (below_then B12.out bb)
  have S13 := Lib.hid (S12.out.keep bb)
  have h13 := Lib.hid hr
  clear bb B12 S12 hr
  go_wp2_with fail
  refine (both_any A n cc ⟨#[83, 87, 65, 80]⟩ ⟨#[68, 82, 79, 80]⟩ (r ++ [a, b, c, d]) (r ++ [a, b, d, c]) (r ++ [a, b, d]) n (n - 1) _ (by omega) S13 (Lib.hid (perm_on 2 [1, 0] r [a, b, c, d] [a, b, d, c] (by simp) rfl)) (Lib.hid (perm_on 1 [] r [a, b, d, c] [a, b, d] (by simp) rfl)) (Lib.hid (by show _ = _; have z := HN.out; simp; omega)) (Lib.hid (by show _ = _; have z := HN.out; simp; omega)) (by omega) (by omega)).mono ?_
  rintro e w14 ⟨X8, y8, rfl, hr, bb⟩
  have B14 := Lib.hid (below_then B13.out bb)
  have S14 := Lib.hid (S13.out.keep bb)
  have h14 := Lib.hid (h13.out.keep bb)
  have j14 := Lib.hid hr
  clear bb B13 S13 h13 hr
  go_wp2_with fail
  refine (both_any A n cc ⟨#[79, 86, 69, 82]⟩ ⟨#[79, 86, 69, 82]⟩ (r ++ [a, b, c, d]) (r ++ [a, b, c, d, c]) (r ++ [a, b, c, d, c, d]) (n + 1) (n + 2) _ (by omega) S14 (Lib.hid (perm_on 2 [0, 1, 0] r [a, b, c, d] [a, b, c, d, c] (by simp) rfl)) (Lib.hid (perm_on 2 [0, 1, 0] r [a, b, c, d, c] [a, b, c, d, c, d] (by simp) rfl)) (Lib.hid (by show _ = _; have z := HN.out; simp; omega)) (Lib.hid (by show _ = _; have z := HN.out; simp; omega)) (by omega) (by omega)).mono ?_
  rintro e w15 ⟨X9, y9, rfl, hr, bb⟩
  have B15 := Lib.hid (below_then B14.out bb)
  have S15 := Lib.hid (S14.out.keep bb)
  have h15 := Lib.hid (h14.out.keep bb)
  have j15 := Lib.hid (j14.out.keep bb)
  have l15 := Lib.hid hr
  clear bb B14 S14 h14 j14 hr
  go_wp2_with fail
  refine (sh_out A n cc ⟨#[84, 85, 67, 75]⟩ (r ++ [a, b, c, d]) (r ++ [a, b, d, c, d]) 1000 (n + 1) _ (by omega) S15 (Lib.hid (perm_on 2 [1, 0, 1] r [a, b, c, d] [a, b, d, c, d] (by simp) rfl)) (Lib.hid (by show _ = _; have z := HN.out; simp; omega)) (by omega)).mono ?_
  rintro e w16 ⟨X10, y10, rfl, hr, bb⟩
  have B16 := Lib.hid (below_then B15.out bb)
  have S16 := Lib.hid (S15.out.keep bb)
  have h16 := Lib.hid (h15.out.keep bb)
  have j16 := Lib.hid (j15.out.keep bb)
  have l16 := Lib.hid (l15.out.keep bb)
  have t16 := Lib.hid hr
  clear bb B15 S15 h15 j15 l15 hr
  go_wp2_with fail
  refine (sh_out A n cc ⟨#[78, 73, 80]⟩ (r ++ [a, b, c, d]) (r ++ [a, b, d]) 1000 (n - 1) _ (by omega) S16 (Lib.hid (perm_on 2 [1] r [a, b, c, d] [a, b, d] (by simp) rfl)) (Lib.hid (by show _ = _; have z := HN.out; simp; omega)) (by omega)).mono ?_
  rintro e w17 ⟨X11, y11, rfl, hr, bb⟩
  have B17 := Lib.hid (below_then B16.out bb)
  have S17 := Lib.hid (S16.out.keep bb)
  have h17 := Lib.hid (h16.out.keep bb)
  have j17 := Lib.hid (j16.out.keep bb)
  have l17 := Lib.hid (l16.out.keep bb)
  have t17 := Lib.hid (t16.out.keep bb)
  have u17 := Lib.hid hr
  clear bb B16 S16 h16 j16 l16 t16 hr
  go_wp2_with fail
  refine (sh_out A n cc ⟨#[50, 68, 85, 80]⟩ (r ++ [a, b, c, d]) (r ++ [a, b, c, d, c, d]) 1000 (n + 2) _ (by omega) S17 (Lib.hid (perm_on 2 [0, 1, 0, 1] r [a, b, c, d] [a, b, c, d, c, d] (by simp) rfl)) (Lib.hid (by show _ = _; have z := HN.out; simp; omega)) (by omega)).mono ?_
  rintro e w18 ⟨X12, y12, rfl, hr, bb⟩
  have B18 := Lib.hid (below_then B17.out bb)
  have S18 := Lib.hid (S17.out.keep bb)
  have h18 := Lib.hid (h17.out.keep bb)
  have j18 := Lib.hid (j17.out.keep bb)
  have l18 := Lib.hid (l17.out.keep bb)
  have t18 := Lib.hid (t17.out.keep bb)
  have u18 := Lib.hid (u17.out.keep bb)
  have v18 := Lib.hid hr
  clear bb B17 S17 h17 j17 l17 t17 u17 hr
  go_wp2_with fail
  refine (same_true X7 X10 (n + 1) y7 (n + 1) y10 (r ++ [a, b, d, c, d]) (r ++ [a, b, d, c, d]) _ (by omega) (by omega) h18 t18 (Lib.hid (rfl))).mono ?_
  rintro e w19 ⟨rfl, bb⟩
  have B19 := Lib.hid (below_then B18.out bb)
  have S19 := Lib.hid (S18.out.keep bb)
  have h19 := Lib.hid (h18.out.keep bb)
  have j19 := Lib.hid (j18.out.keep bb)
  have l19 := Lib.hid (l18.out.keep bb)
  have t19 := Lib.hid (t18.out.keep bb)
  have u19 := Lib.hid (u18.out.keep bb)
  have v19 := Lib.hid (v18.out.keep bb)
  clear bb B18 S18 h18 j18 l18 t18 u18 v18
  go_wp2_with fail
  refine (same_true X8 X11 (n - 1) y8 (n - 1) y11 (r ++ [a, b, d]) (r ++ [a, b, d]) _ (by omega) (by omega) j19 u19 (Lib.hid (rfl))).mono ?_
  rintro e w20 ⟨rfl, bb⟩
  have B20 := Lib.hid (below_then B19.out bb)
  have S20 := Lib.hid (S19.out.keep bb)
  have h20 := Lib.hid (h19.out.keep bb)
  have j20 := Lib.hid (j19.out.keep bb)
  have l20 := Lib.hid (l19.out.keep bb)
  have t20 := Lib.hid (t19.out.keep bb)
  have u20 := Lib.hid (u19.out.keep bb)
  have v20 := Lib.hid (v19.out.keep bb)
  clear bb B19 S19 h19 j19 l19 t19 u19 v19
  go_wp2_with fail
  refine (same_true X9 X12 (n + 2) y9 (n + 2) y12 (r ++ [a, b, c, d, c, d]) (r ++ [a, b, c, d, c, d]) _ (by omega) (by omega) l20 v20 (Lib.hid (rfl))).mono ?_
  rintro e w21 ⟨rfl, bb⟩
  have B21 := Lib.hid (below_then B20.out bb)
  have S21 := Lib.hid (S20.out.keep bb)
  have h21 := Lib.hid (h20.out.keep bb)
  have j21 := Lib.hid (j20.out.keep bb)
  have l21 := Lib.hid (l20.out.keep bb)
  have t21 := Lib.hid (t20.out.keep bb)
  have u21 := Lib.hid (u20.out.keep bb)
  have v21 := Lib.hid (v20.out.keep bb)
  clear bb B20 S20 h20 j20 l20 t20 u20 v20
  go_wp2_with fail
  go_ret
  exact ⟨rfl, B21.out⟩

set_option maxRecDepth 100000 in
set_option maxHeartbeats 4000000 in
theorem turns_long (A : Option Addr) (n cc : Nat) (w0 : World) (hn : (60 : Int) < (n : Int)) :
    Calls Try.prog 5 #[.slice A n cc] w0 fun e w' => e = .returned (.bool true) ∧ Below w0.heap.size w0 w' := by
  go_enter Try.func5, Try.ntmps5
  go_wp2_with fail
  refine (shown_any _).mono ?_
  rintro e w1 ⟨rfl, bb⟩
  go_wp2
  go_ret
  exact ⟨rfl, bb⟩
set_option maxRecDepth 100000 in
set_option maxHeartbeats 4000000 in
theorem turns_short (A : Option Addr) (n cc : Nat) (w0 : World) (hn : n < 4) :
    Calls Try.prog 5 #[.slice A n cc] w0 fun e w' => e = .returned (.bool true) ∧ Below w0.heap.size w0 w' := by
  have q1 : decide ((60 : Int) < (n : Int)) = false := by simp; omega
  have q2 : decide (60 < n) = false := by simp; omega
  have q3 : (n : Int) < 4 := by omega
  go_enter Try.func5, Try.ntmps5
  go_wp2_with fail
  refine (shown_any _).mono ?_
  rintro e w1 ⟨rfl, bb⟩
  go_wp2
  go_ret
  exact ⟨rfl, bb⟩
theorem turns_walk (A : Option Addr) (n cc : Nat) (l : List Int) (w0 : World) (HR : Hid (Row w0 A n cc l)) :
    Calls Try.prog 5 #[.slice A n cc] w0 fun e w' => e = .returned (.bool true) ∧ Below w0.heap.size w0 w' := by
  by_cases h1 : 60 < n
  · exact turns_long A n cc w0 (by omega)
  by_cases h2 : n < 4
  · exact turns_short A n cc w0 h2
  have hl := HR.out.len
  obtain ⟨r, a, b, c, d, rfl⟩ := four_top l (by omega)
  exact turns_core A n cc r a b c d w0 (by omega) (by omega) (Lib.hid (by simpa using hl)) HR
end Go.Proofs.Ytjeapcpicagobaa
