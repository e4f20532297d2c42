/- The contracts of the document's own answers for layer 2: Div, yes, shifted, One. -/
import Derived.Test.YtncljldoioplaaaAluRefA
namespace Go.Proofs.Ytncljldoioplaaa
open Go.RowKit

theorem rdiv_rest (a b : Int) (_ha : cellR a) (hb : cellR b) (h : b ≠ 0) : wrap64 (a - wrap64 (wrap64 (a.tdiv b) * b)) = a.tmod b := by
  obtain ⟨t1, _, _, _⟩ := tfacts a b h
  have hc := tmod_cell a b h hb
  refine Eq.trans ?_ (wrap_in hc)
  have key : (wrap64 (a.tdiv b) * b - a.tdiv b * b) % 18446744073709551616 = 0 := by
    rw [← Int.sub_mul, Int.mul_emod, show (wrap64 (a.tdiv b) - a.tdiv b) % 18446744073709551616 = 0 by unfold wrap64; omega]
    simp
  rw [Int.mul_comm] at t1
  unfold wrap64 at *
  omega

set_option maxHeartbeats 400000 in
theorem rdiv_any (a b : Int) (w : World) (ha : cellR a) (hb : cellR b) :
    Calls Try.prog 26 #[.int .i64 a, .int .i64 b] w fun e w' => e = .returned (.tuple #[.int .i64 (dq a b), .int .i64 (dr a b), .int .i64 (dc b)]) ∧ w = w' := by
  by_cases h : b = 0
  · have hb0 : (b == 0) = true := by simp [h]
    have H := Lib.hid h
    clear h
    go_enter Try.func26, Try.ntmps26
    go_wp2
    go_ret3
    exact ⟨ret_three (by simp [dq, H.out]) (by simp [dr, H.out]) (by simp [dc, H.out]), rfl⟩
  · have hb0 : (b == 0) = false := by simp [h]
    have er := rdiv_rest a b ha hb h
    obtain ⟨r, hr⟩ : ∃ r, a.tmod b = r := ⟨_, rfl⟩
    rw [hr] at er
    have HR := Lib.hid hr
    have HB := Lib.hid hb
    have hl : leans (a.tmod b) b = leans r b := by rw [hr]
    clear hr hb ha
    cases hk : leans r b
    · have h2 := leans_false hk
      have HK := Lib.hid (hl.trans hk)
      clear hl hk
      rcases h2 with rfl | ⟨h2, h3⟩ | ⟨h2, h3⟩
      all_goals
        go_enter Try.func26, Try.ntmps26
        go_wp2
        go_ret3
        exact ⟨ret_three (by simp [dq, h, HK.out]) (by rw [dr, if_neg h, if_neg (by rw [HK.out]; exact Bool.false_ne_true), HR.out]; try exact er) (by simp [dc, h]), rfl⟩
    · have h2 := leans_true hk
      have HK := Lib.hid (hl.trans hk)
      clear hl hk
      rcases h2 with ⟨h2, h3⟩ | ⟨h2, h3⟩
      all_goals
        have h3' : 0 < b ∨ b < 0 := by omega
        have h4 := wrap_in (leans_sum a b h HB.out HK.out)
        rw [HR.out] at h4
        have H4 := Lib.hid h4
        clear h4 h3'
      · have h5 : 0 < b := by omega
        go_enter Try.func26, Try.ntmps26
        go_wp2
        go_ret3
        exact ⟨ret_three (by simp [dq, h, HK.out]) (by rw [dr, if_neg h, if_pos HK.out, HR.out]; first | exact H4.out | rfl) (by simp [dc, h]), rfl⟩
      · go_enter Try.func26, Try.ntmps26
        go_wp2
        go_ret3
        exact ⟨ret_three (by simp [dq, h, HK.out]) (by rw [dr, if_neg h, if_pos HK.out, HR.out]; first | exact H4.out | rfl) (by simp [dc, h]), rfl⟩


set_option maxHeartbeats 400000 in
theorem ryes_any (is : Bool) (w : World) :
    Calls Try.prog 27 #[.bool is] w fun e w' => e = .returned (.tuple #[.int .i64 (yes is), .bool true]) ∧ w = w' := by
  cases is
  all_goals
    go_enter Try.func27, Try.ntmps27
    go_wp2
    go_ret2
    exact ⟨ret_ib (by decide) rfl, rfl⟩

theorem inv_ref (a : Int) (ha : cellR a) : wrap64 (-1 - a) = -1 - a := wrap_in (by unfold cellR at *; omega)
theorem leans_pos (r d : Int) (hd : 0 < d) : leans r d = decide (r < 0) := by
  unfold leans
  by_cases h : r < 0
  · simp [h, show ¬ d < 0 by omega]; omega
  · simp [h, show ¬ d < 0 by omega]
theorem half_ref (a : Int) (ha : cellR a) : dq a 2 = a / 2 := by
  obtain ⟨t1, t2, t3, t4⟩ := tfacts a 2 (by omega)
  unfold dq
  rw [if_neg (by omega), leans_pos _ _ (by omega)]
  unfold cellR at ha
  generalize a.tdiv 2 = q at *
  generalize a.tmod 2 = r at *
  by_cases h : r < 0
  · rw [decide_eq_true h, if_pos rfl]; unfold wrap64; omega
  · rw [decide_eq_false h, if_neg (by simp)]; unfold wrap64; omega
theorem rest_ref (a : Int) : dr a 8 = a % 8 := by
  obtain ⟨t1, t2, t3, t4⟩ := tfacts a 8 (by omega)
  unfold dr
  rw [if_neg (by omega), leans_pos _ _ (by omega)]
  by_cases h : a.tmod 8 < 0 <;> simp [h] <;> omega
theorem al_ref1 (a : Int) (ha : cellR a) (h : a % 8 = 0) : a = wrap64 ((a + 7) / 8 * 8) := by unfold cellR at ha; unfold wrap64; omega
theorem al_ref2 (a : Int) (h : ¬ a % 8 = 0) : wrap64 (wrap64 (a - a % 8) + 8) = wrap64 ((a + 7) / 8 * 8) := by unfold wrap64; omega

set_option maxHeartbeats 1000000 in
theorem rone_NEGATE (a : Int) (w : World) (ha : cellR a) :
    Calls Try.prog 14 #[.string ⟨#[78, 69, 71, 65, 84, 69]⟩, .int .i64 a] w fun e w' => e = .returned (.tuple #[.int .i64 (wrap64 (-a)), .bool true]) ∧ w = w' := by
  go_enter Try.func14, Try.ntmps14
  go_wp2_with (go_at_call 27; ((with_reducible refine (ryes_any _ _).mono ?_); rintro e w3 ⟨rfl, rfl⟩))
  all_goals go_ret2
  all_goals exact ⟨ret_ib (by first | rfl | (unfold wrap64; omega)) rfl, rfl⟩

set_option maxHeartbeats 1000000 in
theorem rone_ABS (a : Int) (w : World) (ha : cellR a) :
    Calls Try.prog 14 #[.string ⟨#[65, 66, 83]⟩, .int .i64 a] w fun e w' => e = .returned (.tuple #[.int .i64 (if a < 0 then wrap64 (-a) else a), .bool true]) ∧ w = w' := by
  go_enter Try.func14, Try.ntmps14
  go_wp2_with (go_at_call 27; ((with_reducible refine (ryes_any _ _).mono ?_); rintro e w3 ⟨rfl, rfl⟩))
  all_goals go_ret2
  all_goals exact ⟨ret_ib (by first | rfl | (split <;> first | rfl | omega)) rfl, rfl⟩

set_option maxHeartbeats 1000000 in
theorem rone_INVERT (a : Int) (w : World) (ha : cellR a) :
    Calls Try.prog 14 #[.string ⟨#[73, 78, 86, 69, 82, 84]⟩, .int .i64 a] w fun e w' => e = .returned (.tuple #[.int .i64 (-1 - a), .bool true]) ∧ w = w' := by
  go_enter Try.func14, Try.ntmps14
  go_wp2_with (go_at_call 27; ((with_reducible refine (ryes_any _ _).mono ?_); rintro e w3 ⟨rfl, rfl⟩))
  all_goals go_ret2
  all_goals exact ⟨ret_ib (by exact inv_ref a ha) rfl, rfl⟩

set_option maxHeartbeats 1000000 in
theorem rone_1Plus (a : Int) (w : World) (ha : cellR a) :
    Calls Try.prog 14 #[.string ⟨#[49, 43]⟩, .int .i64 a] w fun e w' => e = .returned (.tuple #[.int .i64 (wrap64 (a + 1)), .bool true]) ∧ w = w' := by
  go_enter Try.func14, Try.ntmps14
  go_wp2_with (go_at_call 27; ((with_reducible refine (ryes_any _ _).mono ?_); rintro e w3 ⟨rfl, rfl⟩))
  all_goals go_ret2
  all_goals exact ⟨ret_ib (by rfl) rfl, rfl⟩

set_option maxHeartbeats 1000000 in
theorem rone_1Minus (a : Int) (w : World) (ha : cellR a) :
    Calls Try.prog 14 #[.string ⟨#[49, 45]⟩, .int .i64 a] w fun e w' => e = .returned (.tuple #[.int .i64 (wrap64 (a - 1)), .bool true]) ∧ w = w' := by
  go_enter Try.func14, Try.ntmps14
  go_wp2_with (go_at_call 27; ((with_reducible refine (ryes_any _ _).mono ?_); rintro e w3 ⟨rfl, rfl⟩))
  all_goals go_ret2
  all_goals exact ⟨ret_ib (by rfl) rfl, rfl⟩

set_option maxHeartbeats 1000000 in
theorem rone_2Star (a : Int) (w : World) (ha : cellR a) :
    Calls Try.prog 14 #[.string ⟨#[50, 42]⟩, .int .i64 a] w fun e w' => e = .returned (.tuple #[.int .i64 (wrap64 (a + a)), .bool true]) ∧ w = w' := by
  go_enter Try.func14, Try.ntmps14
  go_wp2_with (go_at_call 27; ((with_reducible refine (ryes_any _ _).mono ?_); rintro e w3 ⟨rfl, rfl⟩))
  all_goals go_ret2
  all_goals exact ⟨ret_ib (by rfl) rfl, rfl⟩

set_option maxHeartbeats 1000000 in
theorem rone_2Slash (a : Int) (w : World) (ha : cellR a) :
    Calls Try.prog 14 #[.string ⟨#[50, 47]⟩, .int .i64 a] w fun e w' => e = .returned (.tuple #[.int .i64 (a / 2), .bool true]) ∧ w = w' := by
  have CD := Lib.hid (fun w => rdiv_any a 2 w ha (by unfold cellR; omega))
  go_enter Try.func14, Try.ntmps14
  go_wp2_with (first | (go_at_call 27; ((with_reducible refine (ryes_any _ _).mono ?_); rintro e w3 ⟨rfl, rfl⟩)) | (go_at_call 26; ((refine (CD.out _).mono ?_); rintro e w4 ⟨rfl, rfl⟩)))
  all_goals go_ret2
  all_goals exact ⟨ret_ib (by exact half_ref a ha) rfl, rfl⟩

set_option maxHeartbeats 1000000 in
theorem rone_0Eq (a : Int) (w : World) (ha : cellR a) :
    Calls Try.prog 14 #[.string ⟨#[48, 61]⟩, .int .i64 a] w fun e w' => e = .returned (.tuple #[.int .i64 (yes (a == 0)), .bool true]) ∧ w = w' := by
  go_enter Try.func14, Try.ntmps14
  go_wp2_with (go_at_call 27; ((with_reducible refine (ryes_any _ _).mono ?_); rintro e w3 ⟨rfl, rfl⟩))
  all_goals go_ret2
  all_goals exact ⟨ret_ib (by rfl) rfl, rfl⟩

set_option maxHeartbeats 1000000 in
theorem rone_0Lt (a : Int) (w : World) (ha : cellR a) :
    Calls Try.prog 14 #[.string ⟨#[48, 60]⟩, .int .i64 a] w fun e w' => e = .returned (.tuple #[.int .i64 (yes (decide (a < 0))), .bool true]) ∧ w = w' := by
  go_enter Try.func14, Try.ntmps14
  go_wp2_with (go_at_call 27; ((with_reducible refine (ryes_any _ _).mono ?_); rintro e w3 ⟨rfl, rfl⟩))
  all_goals go_ret2
  all_goals exact ⟨ret_ib (by rfl) rfl, rfl⟩

set_option maxHeartbeats 1000000 in
theorem rone_0LtGt (a : Int) (w : World) (ha : cellR a) :
    Calls Try.prog 14 #[.string ⟨#[48, 60, 62]⟩, .int .i64 a] w fun e w' => e = .returned (.tuple #[.int .i64 (yes (a != 0)), .bool true]) ∧ w = w' := by
  go_enter Try.func14, Try.ntmps14
  go_wp2_with (go_at_call 27; ((with_reducible refine (ryes_any _ _).mono ?_); rintro e w3 ⟨rfl, rfl⟩))
  all_goals go_ret2
  all_goals exact ⟨ret_ib (by first | rfl | (simp [bne])) rfl, rfl⟩

set_option maxHeartbeats 1000000 in
theorem rone_0Gt (a : Int) (w : World) (ha : cellR a) :
    Calls Try.prog 14 #[.string ⟨#[48, 62]⟩, .int .i64 a] w fun e w' => e = .returned (.tuple #[.int .i64 (yes (decide (0 < a))), .bool true]) ∧ w = w' := by
  go_enter Try.func14, Try.ntmps14
  go_wp2_with (go_at_call 27; ((with_reducible refine (ryes_any _ _).mono ?_); rintro e w3 ⟨rfl, rfl⟩))
  all_goals go_ret2
  all_goals exact ⟨ret_ib (by rfl) rfl, rfl⟩

set_option maxHeartbeats 1000000 in
theorem rone_CELLS (a : Int) (w : World) (ha : cellR a) :
    Calls Try.prog 14 #[.string ⟨#[67, 69, 76, 76, 83]⟩, .int .i64 a] w fun e w' => e = .returned (.tuple #[.int .i64 (wrap64 (8 * a)), .bool true]) ∧ w = w' := by
  go_enter Try.func14, Try.ntmps14
  go_wp2_with (go_at_call 27; ((with_reducible refine (ryes_any _ _).mono ?_); rintro e w3 ⟨rfl, rfl⟩))
  all_goals go_ret2
  all_goals exact ⟨ret_ib (by first | rfl | (unfold wrap64; omega)) rfl, rfl⟩

set_option maxHeartbeats 1000000 in
theorem rone_CELLPlus (a : Int) (w : World) (ha : cellR a) :
    Calls Try.prog 14 #[.string ⟨#[67, 69, 76, 76, 43]⟩, .int .i64 a] w fun e w' => e = .returned (.tuple #[.int .i64 (wrap64 (a + 8)), .bool true]) ∧ w = w' := by
  go_enter Try.func14, Try.ntmps14
  go_wp2_with (go_at_call 27; ((with_reducible refine (ryes_any _ _).mono ?_); rintro e w3 ⟨rfl, rfl⟩))
  all_goals go_ret2
  all_goals exact ⟨ret_ib (by rfl) rfl, rfl⟩

set_option maxHeartbeats 1000000 in
theorem rone_ALIGNED (a : Int) (w : World) (ha : cellR a) :
    Calls Try.prog 14 #[.string ⟨#[65, 76, 73, 71, 78, 69, 68]⟩, .int .i64 a] w fun e w' => e = .returned (.tuple #[.int .i64 (wrap64 ((a + 7) / 8 * 8)), .bool true]) ∧ w = w' := by
  have cd := fun w => rdiv_any a 8 w ha (by unfold cellR; omega)
  rw [rest_ref] at cd
  have CD := Lib.hid cd
  obtain ⟨v, hv⟩ : ∃ v, Hid (wrap64 ((a + 7) / 8 * 8) = v) := ⟨_, Lib.hid rfl⟩
  rw [hv.out]
  obtain ⟨q, hq⟩ : ∃ q, Hid (dq a 8 = q) := ⟨_, Lib.hid rfl⟩
  have HA := Lib.hid ha
  clear cd ha
  by_cases h : a % 8 = 0
  · have z : (a % 8 == 0) = true := by simpa using h
    have H := Lib.hid h
    clear h
    go_enter Try.func14, Try.ntmps14
    go_wp2_with (first | (go_at_call 27; ((with_reducible refine (ryes_any _ _).mono ?_); rintro e w3 ⟨rfl, rfl⟩)) | (go_at_call 26; ((refine (CD.out _).mono ?_); rintro e w4 ⟨rfl, rfl⟩)))
    go_ret2
    exact ⟨ret_ib (by rw [← hv.out]; exact al_ref1 a HA.out H.out) rfl, rfl⟩
  · have z : (a % 8 == 0) = false := by simpa using h
    have H := Lib.hid h
    clear h
    go_enter Try.func14, Try.ntmps14
    go_wp2_with (first | (go_at_call 27; ((with_reducible refine (ryes_any _ _).mono ?_); rintro e w3 ⟨rfl, rfl⟩)) | (go_at_call 26; ((refine (CD.out _).mono ?_); rintro e w4 ⟨rfl, rfl⟩)))
    go_ret2
    exact ⟨ret_ib (by rw [← hv.out]; exact al_ref2 a H.out) rfl, rfl⟩

set_option maxHeartbeats 1000000 in
theorem rone_none (s : ByteArray) (a : Int) (w : World) (h0 : (s.toList == [78, 69, 71, 65, 84, 69]) = false) (h1 : (s.toList == [65, 66, 83]) = false) (h2 : (s.toList == [73, 78, 86, 69, 82, 84]) = false) (h3 : (s.toList == [49, 43]) = false) (h4 : (s.toList == [49, 45]) = false) (h5 : (s.toList == [50, 42]) = false) (h6 : (s.toList == [50, 47]) = false) (h7 : (s.toList == [48, 61]) = false) (h8 : (s.toList == [48, 60]) = false) (h9 : (s.toList == [48, 60, 62]) = false) (h10 : (s.toList == [48, 62]) = false) (h11 : (s.toList == [67, 69, 76, 76, 83]) = false) (h12 : (s.toList == [67, 69, 76, 76, 43]) = false) (h13 : (s.toList == [65, 76, 73, 71, 78, 69, 68]) = false) :
    Calls Try.prog 14 #[.string s, .int .i64 a] w fun e w' => e = .returned (.tuple #[.int .i64 0, .bool false]) ∧ w = w' := by
  go_enter Try.func14, Try.ntmps14
  go_wp2
  go_ret2
  exact ⟨ret_ib rfl rfl, rfl⟩

theorem rone_any (s : ByteArray) (a : Int) (w : World) (ha : cellR a) :
    Calls Try.prog 14 #[.string s, .int .i64 a] w fun e w' => e = .returned (.tuple #[.int .i64 ((oneF s.data.toList a).getD 0), .bool (oneF s.data.toList a).isSome]) ∧ w = w' := by
  by_cases h0 : s.data.toList = [78, 69, 71, 65, 84, 69]
  · obtain rfl := str_of h0
    exact rone_NEGATE a w ha
  by_cases h1 : s.data.toList = [65, 66, 83]
  · obtain rfl := str_of h1
    exact rone_ABS a w ha
  by_cases h2 : s.data.toList = [73, 78, 86, 69, 82, 84]
  · obtain rfl := str_of h2
    exact rone_INVERT a w ha
  by_cases h3 : s.data.toList = [49, 43]
  · obtain rfl := str_of h3
    exact rone_1Plus a w ha
  by_cases h4 : s.data.toList = [49, 45]
  · obtain rfl := str_of h4
    exact rone_1Minus a w ha
  by_cases h5 : s.data.toList = [50, 42]
  · obtain rfl := str_of h5
    exact rone_2Star a w ha
  by_cases h6 : s.data.toList = [50, 47]
  · obtain rfl := str_of h6
    exact rone_2Slash a w ha
  by_cases h7 : s.data.toList = [48, 61]
  · obtain rfl := str_of h7
    exact rone_0Eq a w ha
  by_cases h8 : s.data.toList = [48, 60]
  · obtain rfl := str_of h8
    exact rone_0Lt a w ha
  by_cases h9 : s.data.toList = [48, 60, 62]
  · obtain rfl := str_of h9
    exact rone_0LtGt a w ha
  by_cases h10 : s.data.toList = [48, 62]
  · obtain rfl := str_of h10
    exact rone_0Gt a w ha
  by_cases h11 : s.data.toList = [67, 69, 76, 76, 83]
  · obtain rfl := str_of h11
    exact rone_CELLS a w ha
  by_cases h12 : s.data.toList = [67, 69, 76, 76, 43]
  · obtain rfl := str_of h12
    exact rone_CELLPlus a w ha
  by_cases h13 : s.data.toList = [65, 76, 73, 71, 78, 69, 68]
  · obtain rfl := str_of h13
    exact rone_ALIGNED a w ha
  have e : oneF s.data.toList a = none := by simp only [oneF, turnedF, asked1F, h0, h1, h2, h3, h4, h5, h6, h7, h8, h9, h10, h11, h12, h13, if_false, Option.or]
  rw [e]
  exact rone_none s a w (str_no h0) (str_no h1) (str_no h2) (str_no h3) (str_no h4) (str_no h5) (str_no h6) (str_no h7) (str_no h8) (str_no h9) (str_no h10) (str_no h11) (str_no h12) (str_no h13)
end Go.Proofs.Ytncljldoioplaaa
