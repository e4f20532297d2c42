/- The contract of the document's own answer for two cells, by any name. -/
import Derived.Test.YtncljldoioplaaaAluRefC
namespace Go.Proofs.Ytncljldoioplaaa
open Go.RowKit

set_option maxHeartbeats 2000000 in
theorem rtwo_Slash (a b : Int) (w : World) (ha : cellR a) (hb : cellR b) :
    Calls Try.prog 17 #[.string ⟨#[47]⟩, .int .i64 a, .int .i64 b] w fun e w' => e = .returned (.tuple #[.int .i64 (dq a b), .bool true, .int .i64 (dc b)]) ∧ w = w' := by
  obtain ⟨Q, hQ⟩ : ∃ Q, Hid (dq a b = Q) := ⟨_, Lib.hid rfl⟩
  obtain ⟨R, hR⟩ : ∃ R, Hid (dr a b = R) := ⟨_, Lib.hid rfl⟩
  obtain ⟨D, hD⟩ : ∃ D, Hid (dc b = D) := ⟨_, Lib.hid rfl⟩
  have cd := fun w => rdiv_any a b w ha hb
  rw [hQ.out, hR.out, hD.out] at cd
  have CD := Lib.hid cd
  have CL := Lib.hid (fun w => rshl_any a b w hb)
  have CR := Lib.hid (fun w => rshr_any a b w hb)
  clear cd
  go_enter Try.func17, Try.ntmps17
  go_wp2_with (first | (go_at_call 27; ((with_reducible refine (ryes_any _ _).mono ?_); rintro e w3 ⟨rfl, rfl⟩)) | (go_at_call 26; ((refine (CD.out _).mono ?_); rintro e w4 ⟨rfl, rfl⟩)) | (go_at_call 31; ((with_reducible first | refine (CL.out _).mono ?_ | refine (CR.out _).mono ?_); rintro e w5 ⟨rfl, rfl⟩)))
  all_goals go_ret3
  all_goals exact ⟨ret_ibi (by rw [← hQ.out]) rfl (by rw [← hD.out]), rfl⟩

set_option maxHeartbeats 2000000 in
theorem rtwo_MOD (a b : Int) (w : World) (ha : cellR a) (hb : cellR b) :
    Calls Try.prog 17 #[.string ⟨#[77, 79, 68]⟩, .int .i64 a, .int .i64 b] w fun e w' => e = .returned (.tuple #[.int .i64 (dr a b), .bool true, .int .i64 (dc b)]) ∧ w = w' := by
  obtain ⟨Q, hQ⟩ : ∃ Q, Hid (dq a b = Q) := ⟨_, Lib.hid rfl⟩
  obtain ⟨R, hR⟩ : ∃ R, Hid (dr a b = R) := ⟨_, Lib.hid rfl⟩
  obtain ⟨D, hD⟩ : ∃ D, Hid (dc b = D) := ⟨_, Lib.hid rfl⟩
  have cd := fun w => rdiv_any a b w ha hb
  rw [hQ.out, hR.out, hD.out] at cd
  have CD := Lib.hid cd
  have CL := Lib.hid (fun w => rshl_any a b w hb)
  have CR := Lib.hid (fun w => rshr_any a b w hb)
  clear cd
  go_enter Try.func17, Try.ntmps17
  go_wp2_with (first | (go_at_call 27; ((with_reducible refine (ryes_any _ _).mono ?_); rintro e w3 ⟨rfl, rfl⟩)) | (go_at_call 26; ((refine (CD.out _).mono ?_); rintro e w4 ⟨rfl, rfl⟩)) | (go_at_call 31; ((with_reducible first | refine (CL.out _).mono ?_ | refine (CR.out _).mono ?_); rintro e w5 ⟨rfl, rfl⟩)))
  all_goals go_ret3
  all_goals exact ⟨ret_ibi (by rw [← hR.out]) rfl (by rw [← hD.out]), rfl⟩

set_option maxHeartbeats 2000000 in
theorem rtwo_Plus (a b : Int) (w : World) (ha : cellR a) (hb : cellR b) :
    Calls Try.prog 17 #[.string ⟨#[43]⟩, .int .i64 a, .int .i64 b] w fun e w' => e = .returned (.tuple #[.int .i64 (wrap64 (a + b)), .bool true, .int .i64 (0)]) ∧ w = w' := by
  obtain ⟨Q, hQ⟩ : ∃ Q, Hid (dq a b = Q) := ⟨_, Lib.hid rfl⟩
  obtain ⟨R, hR⟩ : ∃ R, Hid (dr a b = R) := ⟨_, Lib.hid rfl⟩
  obtain ⟨D, hD⟩ : ∃ D, Hid (dc b = D) := ⟨_, Lib.hid rfl⟩
  have cd := fun w => rdiv_any a b w ha hb
  rw [hQ.out, hR.out, hD.out] at cd
  have CD := Lib.hid cd
  have CL := Lib.hid (fun w => rshl_any a b w hb)
  have CR := Lib.hid (fun w => rshr_any a b w hb)
  clear cd
  go_enter Try.func17, Try.ntmps17
  go_wp2_with (first | (go_at_call 27; ((with_reducible refine (ryes_any _ _).mono ?_); rintro e w3 ⟨rfl, rfl⟩)) | (go_at_call 26; ((refine (CD.out _).mono ?_); rintro e w4 ⟨rfl, rfl⟩)) | (go_at_call 31; ((with_reducible first | refine (CL.out _).mono ?_ | refine (CR.out _).mono ?_); rintro e w5 ⟨rfl, rfl⟩)))
  all_goals go_ret3
  all_goals exact ⟨ret_ibi (by rfl) rfl rfl, rfl⟩

set_option maxHeartbeats 2000000 in
theorem rtwo_Minus (a b : Int) (w : World) (ha : cellR a) (hb : cellR b) :
    Calls Try.prog 17 #[.string ⟨#[45]⟩, .int .i64 a, .int .i64 b] w fun e w' => e = .returned (.tuple #[.int .i64 (wrap64 (a - b)), .bool true, .int .i64 (0)]) ∧ w = w' := by
  obtain ⟨Q, hQ⟩ : ∃ Q, Hid (dq a b = Q) := ⟨_, Lib.hid rfl⟩
  obtain ⟨R, hR⟩ : ∃ R, Hid (dr a b = R) := ⟨_, Lib.hid rfl⟩
  obtain ⟨D, hD⟩ : ∃ D, Hid (dc b = D) := ⟨_, Lib.hid rfl⟩
  have cd := fun w => rdiv_any a b w ha hb
  rw [hQ.out, hR.out, hD.out] at cd
  have CD := Lib.hid cd
  have CL := Lib.hid (fun w => rshl_any a b w hb)
  have CR := Lib.hid (fun w => rshr_any a b w hb)
  clear cd
  go_enter Try.func17, Try.ntmps17
  go_wp2_with (first | (go_at_call 27; ((with_reducible refine (ryes_any _ _).mono ?_); rintro e w3 ⟨rfl, rfl⟩)) | (go_at_call 26; ((refine (CD.out _).mono ?_); rintro e w4 ⟨rfl, rfl⟩)) | (go_at_call 31; ((with_reducible first | refine (CL.out _).mono ?_ | refine (CR.out _).mono ?_); rintro e w5 ⟨rfl, rfl⟩)))
  all_goals go_ret3
  all_goals exact ⟨ret_ibi (by rfl) rfl rfl, rfl⟩

set_option maxHeartbeats 2000000 in
theorem rtwo_Star (a b : Int) (w : World) (ha : cellR a) (hb : cellR b) :
    Calls Try.prog 17 #[.string ⟨#[42]⟩, .int .i64 a, .int .i64 b] w fun e w' => e = .returned (.tuple #[.int .i64 (wrap64 (a * b)), .bool true, .int .i64 (0)]) ∧ w = w' := by
  obtain ⟨Q, hQ⟩ : ∃ Q, Hid (dq a b = Q) := ⟨_, Lib.hid rfl⟩
  obtain ⟨R, hR⟩ : ∃ R, Hid (dr a b = R) := ⟨_, Lib.hid rfl⟩
  obtain ⟨D, hD⟩ : ∃ D, Hid (dc b = D) := ⟨_, Lib.hid rfl⟩
  have cd := fun w => rdiv_any a b w ha hb
  rw [hQ.out, hR.out, hD.out] at cd
  have CD := Lib.hid cd
  have CL := Lib.hid (fun w => rshl_any a b w hb)
  have CR := Lib.hid (fun w => rshr_any a b w hb)
  clear cd
  go_enter Try.func17, Try.ntmps17
  go_wp2_with (first | (go_at_call 27; ((with_reducible refine (ryes_any _ _).mono ?_); rintro e w3 ⟨rfl, rfl⟩)) | (go_at_call 26; ((refine (CD.out _).mono ?_); rintro e w4 ⟨rfl, rfl⟩)) | (go_at_call 31; ((with_reducible first | refine (CL.out _).mono ?_ | refine (CR.out _).mono ?_); rintro e w5 ⟨rfl, rfl⟩)))
  all_goals go_ret3
  all_goals exact ⟨ret_ibi (by rfl) rfl rfl, rfl⟩

set_option maxHeartbeats 2000000 in
theorem rtwo_AND (a b : Int) (w : World) (ha : cellR a) (hb : cellR b) :
    Calls Try.prog 17 #[.string ⟨#[65, 78, 68]⟩, .int .i64 a, .int .i64 b] w fun e w' => e = .returned (.tuple #[.int .i64 (bits .and .i64 a b), .bool true, .int .i64 (0)]) ∧ w = w' := by
  obtain ⟨Q, hQ⟩ : ∃ Q, Hid (dq a b = Q) := ⟨_, Lib.hid rfl⟩
  obtain ⟨R, hR⟩ : ∃ R, Hid (dr a b = R) := ⟨_, Lib.hid rfl⟩
  obtain ⟨D, hD⟩ : ∃ D, Hid (dc b = D) := ⟨_, Lib.hid rfl⟩
  have cd := fun w => rdiv_any a b w ha hb
  rw [hQ.out, hR.out, hD.out] at cd
  have CD := Lib.hid cd
  have CL := Lib.hid (fun w => rshl_any a b w hb)
  have CR := Lib.hid (fun w => rshr_any a b w hb)
  clear cd
  go_enter Try.func17, Try.ntmps17
  go_wp2_with (first | (go_at_call 27; ((with_reducible refine (ryes_any _ _).mono ?_); rintro e w3 ⟨rfl, rfl⟩)) | (go_at_call 26; ((refine (CD.out _).mono ?_); rintro e w4 ⟨rfl, rfl⟩)) | (go_at_call 31; ((with_reducible first | refine (CL.out _).mono ?_ | refine (CR.out _).mono ?_); rintro e w5 ⟨rfl, rfl⟩)))
  all_goals go_ret3
  all_goals exact ⟨ret_ibi (by rfl) rfl rfl, rfl⟩

set_option maxHeartbeats 2000000 in
theorem rtwo_OR (a b : Int) (w : World) (ha : cellR a) (hb : cellR b) :
    Calls Try.prog 17 #[.string ⟨#[79, 82]⟩, .int .i64 a, .int .i64 b] w fun e w' => e = .returned (.tuple #[.int .i64 (bits .or .i64 a b), .bool true, .int .i64 (0)]) ∧ w = w' := by
  obtain ⟨Q, hQ⟩ : ∃ Q, Hid (dq a b = Q) := ⟨_, Lib.hid rfl⟩
  obtain ⟨R, hR⟩ : ∃ R, Hid (dr a b = R) := ⟨_, Lib.hid rfl⟩
  obtain ⟨D, hD⟩ : ∃ D, Hid (dc b = D) := ⟨_, Lib.hid rfl⟩
  have cd := fun w => rdiv_any a b w ha hb
  rw [hQ.out, hR.out, hD.out] at cd
  have CD := Lib.hid cd
  have CL := Lib.hid (fun w => rshl_any a b w hb)
  have CR := Lib.hid (fun w => rshr_any a b w hb)
  clear cd
  go_enter Try.func17, Try.ntmps17
  go_wp2_with (first | (go_at_call 27; ((with_reducible refine (ryes_any _ _).mono ?_); rintro e w3 ⟨rfl, rfl⟩)) | (go_at_call 26; ((refine (CD.out _).mono ?_); rintro e w4 ⟨rfl, rfl⟩)) | (go_at_call 31; ((with_reducible first | refine (CL.out _).mono ?_ | refine (CR.out _).mono ?_); rintro e w5 ⟨rfl, rfl⟩)))
  all_goals go_ret3
  all_goals exact ⟨ret_ibi (by rfl) rfl rfl, rfl⟩

set_option maxHeartbeats 2000000 in
theorem rtwo_XOR (a b : Int) (w : World) (ha : cellR a) (hb : cellR b) :
    Calls Try.prog 17 #[.string ⟨#[88, 79, 82]⟩, .int .i64 a, .int .i64 b] w fun e w' => e = .returned (.tuple #[.int .i64 (bits .xor .i64 a b), .bool true, .int .i64 (0)]) ∧ w = w' := by
  obtain ⟨Q, hQ⟩ : ∃ Q, Hid (dq a b = Q) := ⟨_, Lib.hid rfl⟩
  obtain ⟨R, hR⟩ : ∃ R, Hid (dr a b = R) := ⟨_, Lib.hid rfl⟩
  obtain ⟨D, hD⟩ : ∃ D, Hid (dc b = D) := ⟨_, Lib.hid rfl⟩
  have cd := fun w => rdiv_any a b w ha hb
  rw [hQ.out, hR.out, hD.out] at cd
  have CD := Lib.hid cd
  have CL := Lib.hid (fun w => rshl_any a b w hb)
  have CR := Lib.hid (fun w => rshr_any a b w hb)
  clear cd
  go_enter Try.func17, Try.ntmps17
  go_wp2_with (first | (go_at_call 27; ((with_reducible refine (ryes_any _ _).mono ?_); rintro e w3 ⟨rfl, rfl⟩)) | (go_at_call 26; ((refine (CD.out _).mono ?_); rintro e w4 ⟨rfl, rfl⟩)) | (go_at_call 31; ((with_reducible first | refine (CL.out _).mono ?_ | refine (CR.out _).mono ?_); rintro e w5 ⟨rfl, rfl⟩)))
  all_goals go_ret3
  all_goals exact ⟨ret_ibi (by rfl) rfl rfl, rfl⟩

set_option maxHeartbeats 2000000 in
theorem rtwo_LSHIFT (a b : Int) (w : World) (ha : cellR a) (hb : cellR b) :
    Calls Try.prog 17 #[.string ⟨#[76, 83, 72, 73, 70, 84]⟩, .int .i64 a, .int .i64 b] w fun e w' => e = .returned (.tuple #[.int .i64 (shl a b), .bool true, .int .i64 (0)]) ∧ w = w' := by
  obtain ⟨Q, hQ⟩ : ∃ Q, Hid (dq a b = Q) := ⟨_, Lib.hid rfl⟩
  obtain ⟨R, hR⟩ : ∃ R, Hid (dr a b = R) := ⟨_, Lib.hid rfl⟩
  obtain ⟨D, hD⟩ : ∃ D, Hid (dc b = D) := ⟨_, Lib.hid rfl⟩
  have cd := fun w => rdiv_any a b w ha hb
  rw [hQ.out, hR.out, hD.out] at cd
  have CD := Lib.hid cd
  have CL := Lib.hid (fun w => rshl_any a b w hb)
  have CR := Lib.hid (fun w => rshr_any a b w hb)
  clear cd
  go_enter Try.func17, Try.ntmps17
  go_wp2_with (first | (go_at_call 27; ((with_reducible refine (ryes_any _ _).mono ?_); rintro e w3 ⟨rfl, rfl⟩)) | (go_at_call 26; ((refine (CD.out _).mono ?_); rintro e w4 ⟨rfl, rfl⟩)) | (go_at_call 31; ((with_reducible first | refine (CL.out _).mono ?_ | refine (CR.out _).mono ?_); rintro e w5 ⟨rfl, rfl⟩)))
  all_goals go_ret3
  all_goals exact ⟨ret_ibi (by rfl) rfl rfl, rfl⟩

set_option maxHeartbeats 2000000 in
theorem rtwo_RSHIFT (a b : Int) (w : World) (ha : cellR a) (hb : cellR b) :
    Calls Try.prog 17 #[.string ⟨#[82, 83, 72, 73, 70, 84]⟩, .int .i64 a, .int .i64 b] w fun e w' => e = .returned (.tuple #[.int .i64 (shr a b), .bool true, .int .i64 (0)]) ∧ w = w' := by
  obtain ⟨Q, hQ⟩ : ∃ Q, Hid (dq a b = Q) := ⟨_, Lib.hid rfl⟩
  obtain ⟨R, hR⟩ : ∃ R, Hid (dr a b = R) := ⟨_, Lib.hid rfl⟩
  obtain ⟨D, hD⟩ : ∃ D, Hid (dc b = D) := ⟨_, Lib.hid rfl⟩
  have cd := fun w => rdiv_any a b w ha hb
  rw [hQ.out, hR.out, hD.out] at cd
  have CD := Lib.hid cd
  have CL := Lib.hid (fun w => rshl_any a b w hb)
  have CR := Lib.hid (fun w => rshr_any a b w hb)
  clear cd
  go_enter Try.func17, Try.ntmps17
  go_wp2_with (first | (go_at_call 27; ((with_reducible refine (ryes_any _ _).mono ?_); rintro e w3 ⟨rfl, rfl⟩)) | (go_at_call 26; ((refine (CD.out _).mono ?_); rintro e w4 ⟨rfl, rfl⟩)) | (go_at_call 31; ((with_reducible first | refine (CL.out _).mono ?_ | refine (CR.out _).mono ?_); rintro e w5 ⟨rfl, rfl⟩)))
  all_goals go_ret3
  all_goals exact ⟨ret_ibi (by rfl) rfl rfl, rfl⟩

set_option maxHeartbeats 2000000 in
theorem rtwo_MIN (a b : Int) (w : World) (ha : cellR a) (hb : cellR b) :
    Calls Try.prog 17 #[.string ⟨#[77, 73, 78]⟩, .int .i64 a, .int .i64 b] w fun e w' => e = .returned (.tuple #[.int .i64 (if b < a then b else a), .bool true, .int .i64 (0)]) ∧ w = w' := by
  obtain ⟨Q, hQ⟩ : ∃ Q, Hid (dq a b = Q) := ⟨_, Lib.hid rfl⟩
  obtain ⟨R, hR⟩ : ∃ R, Hid (dr a b = R) := ⟨_, Lib.hid rfl⟩
  obtain ⟨D, hD⟩ : ∃ D, Hid (dc b = D) := ⟨_, Lib.hid rfl⟩
  have cd := fun w => rdiv_any a b w ha hb
  rw [hQ.out, hR.out, hD.out] at cd
  have CD := Lib.hid cd
  have CL := Lib.hid (fun w => rshl_any a b w hb)
  have CR := Lib.hid (fun w => rshr_any a b w hb)
  clear cd
  go_enter Try.func17, Try.ntmps17
  go_wp2_with (first | (go_at_call 27; ((with_reducible refine (ryes_any _ _).mono ?_); rintro e w3 ⟨rfl, rfl⟩)) | (go_at_call 26; ((refine (CD.out _).mono ?_); rintro e w4 ⟨rfl, rfl⟩)) | (go_at_call 31; ((with_reducible first | refine (CL.out _).mono ?_ | refine (CR.out _).mono ?_); rintro e w5 ⟨rfl, rfl⟩)))
  all_goals go_ret3
  all_goals exact ⟨ret_ibi (by first | rfl | (split <;> omega)) rfl rfl, rfl⟩

set_option maxHeartbeats 2000000 in
theorem rtwo_MAX (a b : Int) (w : World) (ha : cellR a) (hb : cellR b) :
    Calls Try.prog 17 #[.string ⟨#[77, 65, 88]⟩, .int .i64 a, .int .i64 b] w fun e w' => e = .returned (.tuple #[.int .i64 (if a < b then b else a), .bool true, .int .i64 (0)]) ∧ w = w' := by
  obtain ⟨Q, hQ⟩ : ∃ Q, Hid (dq a b = Q) := ⟨_, Lib.hid rfl⟩
  obtain ⟨R, hR⟩ : ∃ R, Hid (dr a b = R) := ⟨_, Lib.hid rfl⟩
  obtain ⟨D, hD⟩ : ∃ D, Hid (dc b = D) := ⟨_, Lib.hid rfl⟩
  have cd := fun w => rdiv_any a b w ha hb
  rw [hQ.out, hR.out, hD.out] at cd
  have CD := Lib.hid cd
  have CL := Lib.hid (fun w => rshl_any a b w hb)
  have CR := Lib.hid (fun w => rshr_any a b w hb)
  clear cd
  go_enter Try.func17, Try.ntmps17
  go_wp2_with (first | (go_at_call 27; ((with_reducible refine (ryes_any _ _).mono ?_); rintro e w3 ⟨rfl, rfl⟩)) | (go_at_call 26; ((refine (CD.out _).mono ?_); rintro e w4 ⟨rfl, rfl⟩)) | (go_at_call 31; ((with_reducible first | refine (CL.out _).mono ?_ | refine (CR.out _).mono ?_); rintro e w5 ⟨rfl, rfl⟩)))
  all_goals go_ret3
  all_goals exact ⟨ret_ibi (by first | rfl | (split <;> omega)) rfl rfl, rfl⟩

set_option maxHeartbeats 2000000 in
theorem rtwo_Eq (a b : Int) (w : World) (ha : cellR a) (hb : cellR b) :
    Calls Try.prog 17 #[.string ⟨#[61]⟩, .int .i64 a, .int .i64 b] w fun e w' => e = .returned (.tuple #[.int .i64 (yes (a == b)), .bool true, .int .i64 (0)]) ∧ w = w' := by
  obtain ⟨Q, hQ⟩ : ∃ Q, Hid (dq a b = Q) := ⟨_, Lib.hid rfl⟩
  obtain ⟨R, hR⟩ : ∃ R, Hid (dr a b = R) := ⟨_, Lib.hid rfl⟩
  obtain ⟨D, hD⟩ : ∃ D, Hid (dc b = D) := ⟨_, Lib.hid rfl⟩
  have cd := fun w => rdiv_any a b w ha hb
  rw [hQ.out, hR.out, hD.out] at cd
  have CD := Lib.hid cd
  have CL := Lib.hid (fun w => rshl_any a b w hb)
  have CR := Lib.hid (fun w => rshr_any a b w hb)
  clear cd
  go_enter Try.func17, Try.ntmps17
  go_wp2_with (first | (go_at_call 27; ((with_reducible refine (ryes_any _ _).mono ?_); rintro e w3 ⟨rfl, rfl⟩)) | (go_at_call 26; ((refine (CD.out _).mono ?_); rintro e w4 ⟨rfl, rfl⟩)) | (go_at_call 31; ((with_reducible first | refine (CL.out _).mono ?_ | refine (CR.out _).mono ?_); rintro e w5 ⟨rfl, rfl⟩)))
  all_goals go_ret3
  all_goals exact ⟨ret_ibi (by rfl) rfl rfl, rfl⟩

set_option maxHeartbeats 2000000 in
theorem rtwo_LtGt (a b : Int) (w : World) (ha : cellR a) (hb : cellR b) :
    Calls Try.prog 17 #[.string ⟨#[60, 62]⟩, .int .i64 a, .int .i64 b] w fun e w' => e = .returned (.tuple #[.int .i64 (yes (a != b)), .bool true, .int .i64 (0)]) ∧ w = w' := by
  obtain ⟨Q, hQ⟩ : ∃ Q, Hid (dq a b = Q) := ⟨_, Lib.hid rfl⟩
  obtain ⟨R, hR⟩ : ∃ R, Hid (dr a b = R) := ⟨_, Lib.hid rfl⟩
  obtain ⟨D, hD⟩ : ∃ D, Hid (dc b = D) := ⟨_, Lib.hid rfl⟩
  have cd := fun w => rdiv_any a b w ha hb
  rw [hQ.out, hR.out, hD.out] at cd
  have CD := Lib.hid cd
  have CL := Lib.hid (fun w => rshl_any a b w hb)
  have CR := Lib.hid (fun w => rshr_any a b w hb)
  clear cd
  go_enter Try.func17, Try.ntmps17
  go_wp2_with (first | (go_at_call 27; ((with_reducible refine (ryes_any _ _).mono ?_); rintro e w3 ⟨rfl, rfl⟩)) | (go_at_call 26; ((refine (CD.out _).mono ?_); rintro e w4 ⟨rfl, rfl⟩)) | (go_at_call 31; ((with_reducible first | refine (CL.out _).mono ?_ | refine (CR.out _).mono ?_); rintro e w5 ⟨rfl, rfl⟩)))
  all_goals go_ret3
  all_goals exact ⟨ret_ibi (by rfl) rfl rfl, rfl⟩

set_option maxHeartbeats 2000000 in
theorem rtwo_Lt (a b : Int) (w : World) (ha : cellR a) (hb : cellR b) :
    Calls Try.prog 17 #[.string ⟨#[60]⟩, .int .i64 a, .int .i64 b] w fun e w' => e = .returned (.tuple #[.int .i64 (yes (decide (a < b))), .bool true, .int .i64 (0)]) ∧ w = w' := by
  obtain ⟨Q, hQ⟩ : ∃ Q, Hid (dq a b = Q) := ⟨_, Lib.hid rfl⟩
  obtain ⟨R, hR⟩ : ∃ R, Hid (dr a b = R) := ⟨_, Lib.hid rfl⟩
  obtain ⟨D, hD⟩ : ∃ D, Hid (dc b = D) := ⟨_, Lib.hid rfl⟩
  have cd := fun w => rdiv_any a b w ha hb
  rw [hQ.out, hR.out, hD.out] at cd
  have CD := Lib.hid cd
  have CL := Lib.hid (fun w => rshl_any a b w hb)
  have CR := Lib.hid (fun w => rshr_any a b w hb)
  clear cd
  go_enter Try.func17, Try.ntmps17
  go_wp2_with (first | (go_at_call 27; ((with_reducible refine (ryes_any _ _).mono ?_); rintro e w3 ⟨rfl, rfl⟩)) | (go_at_call 26; ((refine (CD.out _).mono ?_); rintro e w4 ⟨rfl, rfl⟩)) | (go_at_call 31; ((with_reducible first | refine (CL.out _).mono ?_ | refine (CR.out _).mono ?_); rintro e w5 ⟨rfl, rfl⟩)))
  all_goals go_ret3
  all_goals exact ⟨ret_ibi (by rfl) rfl rfl, rfl⟩

set_option maxHeartbeats 2000000 in
theorem rtwo_Gt (a b : Int) (w : World) (ha : cellR a) (hb : cellR b) :
    Calls Try.prog 17 #[.string ⟨#[62]⟩, .int .i64 a, .int .i64 b] w fun e w' => e = .returned (.tuple #[.int .i64 (yes (decide (b < a))), .bool true, .int .i64 (0)]) ∧ w = w' := by
  obtain ⟨Q, hQ⟩ : ∃ Q, Hid (dq a b = Q) := ⟨_, Lib.hid rfl⟩
  obtain ⟨R, hR⟩ : ∃ R, Hid (dr a b = R) := ⟨_, Lib.hid rfl⟩
  obtain ⟨D, hD⟩ : ∃ D, Hid (dc b = D) := ⟨_, Lib.hid rfl⟩
  have cd := fun w => rdiv_any a b w ha hb
  rw [hQ.out, hR.out, hD.out] at cd
  have CD := Lib.hid cd
  have CL := Lib.hid (fun w => rshl_any a b w hb)
  have CR := Lib.hid (fun w => rshr_any a b w hb)
  clear cd
  go_enter Try.func17, Try.ntmps17
  go_wp2_with (first | (go_at_call 27; ((with_reducible refine (ryes_any _ _).mono ?_); rintro e w3 ⟨rfl, rfl⟩)) | (go_at_call 26; ((refine (CD.out _).mono ?_); rintro e w4 ⟨rfl, rfl⟩)) | (go_at_call 31; ((with_reducible first | refine (CL.out _).mono ?_ | refine (CR.out _).mono ?_); rintro e w5 ⟨rfl, rfl⟩)))
  all_goals go_ret3
  all_goals exact ⟨ret_ibi (by rfl) rfl rfl, rfl⟩

set_option maxHeartbeats 2000000 in
theorem rtwo_LtEq (a b : Int) (w : World) (ha : cellR a) (hb : cellR b) :
    Calls Try.prog 17 #[.string ⟨#[60, 61]⟩, .int .i64 a, .int .i64 b] w fun e w' => e = .returned (.tuple #[.int .i64 (yes (decide (a ≤ b))), .bool true, .int .i64 (0)]) ∧ w = w' := by
  obtain ⟨Q, hQ⟩ : ∃ Q, Hid (dq a b = Q) := ⟨_, Lib.hid rfl⟩
  obtain ⟨R, hR⟩ : ∃ R, Hid (dr a b = R) := ⟨_, Lib.hid rfl⟩
  obtain ⟨D, hD⟩ : ∃ D, Hid (dc b = D) := ⟨_, Lib.hid rfl⟩
  have cd := fun w => rdiv_any a b w ha hb
  rw [hQ.out, hR.out, hD.out] at cd
  have CD := Lib.hid cd
  have CL := Lib.hid (fun w => rshl_any a b w hb)
  have CR := Lib.hid (fun w => rshr_any a b w hb)
  clear cd
  go_enter Try.func17, Try.ntmps17
  go_wp2_with (first | (go_at_call 27; ((with_reducible refine (ryes_any _ _).mono ?_); rintro e w3 ⟨rfl, rfl⟩)) | (go_at_call 26; ((refine (CD.out _).mono ?_); rintro e w4 ⟨rfl, rfl⟩)) | (go_at_call 31; ((with_reducible first | refine (CL.out _).mono ?_ | refine (CR.out _).mono ?_); rintro e w5 ⟨rfl, rfl⟩)))
  all_goals go_ret3
  all_goals exact ⟨ret_ibi (by rfl) rfl rfl, rfl⟩

set_option maxHeartbeats 2000000 in
theorem rtwo_GtEq (a b : Int) (w : World) (ha : cellR a) (hb : cellR b) :
    Calls Try.prog 17 #[.string ⟨#[62, 61]⟩, .int .i64 a, .int .i64 b] w fun e w' => e = .returned (.tuple #[.int .i64 (yes (decide (b ≤ a))), .bool true, .int .i64 (0)]) ∧ w = w' := by
  obtain ⟨Q, hQ⟩ : ∃ Q, Hid (dq a b = Q) := ⟨_, Lib.hid rfl⟩
  obtain ⟨R, hR⟩ : ∃ R, Hid (dr a b = R) := ⟨_, Lib.hid rfl⟩
  obtain ⟨D, hD⟩ : ∃ D, Hid (dc b = D) := ⟨_, Lib.hid rfl⟩
  have cd := fun w => rdiv_any a b w ha hb
  rw [hQ.out, hR.out, hD.out] at cd
  have CD := Lib.hid cd
  have CL := Lib.hid (fun w => rshl_any a b w hb)
  have CR := Lib.hid (fun w => rshr_any a b w hb)
  clear cd
  go_enter Try.func17, Try.ntmps17
  go_wp2_with (first | (go_at_call 27; ((with_reducible refine (ryes_any _ _).mono ?_); rintro e w3 ⟨rfl, rfl⟩)) | (go_at_call 26; ((refine (CD.out _).mono ?_); rintro e w4 ⟨rfl, rfl⟩)) | (go_at_call 31; ((with_reducible first | refine (CL.out _).mono ?_ | refine (CR.out _).mono ?_); rintro e w5 ⟨rfl, rfl⟩)))
  all_goals go_ret3
  all_goals exact ⟨ret_ibi (by rfl) rfl rfl, rfl⟩

set_option maxHeartbeats 2000000 in
theorem rtwo_ULt (a b : Int) (w : World) (ha : cellR a) (hb : cellR b) :
    Calls Try.prog 17 #[.string ⟨#[85, 60]⟩, .int .i64 a, .int .i64 b] w fun e w' => e = .returned (.tuple #[.int .i64 (yes (decide (un a < un b))), .bool true, .int .i64 (0)]) ∧ w = w' := by
  obtain ⟨Q, hQ⟩ : ∃ Q, Hid (dq a b = Q) := ⟨_, Lib.hid rfl⟩
  obtain ⟨R, hR⟩ : ∃ R, Hid (dr a b = R) := ⟨_, Lib.hid rfl⟩
  obtain ⟨D, hD⟩ : ∃ D, Hid (dc b = D) := ⟨_, Lib.hid rfl⟩
  have cd := fun w => rdiv_any a b w ha hb
  rw [hQ.out, hR.out, hD.out] at cd
  have CD := Lib.hid cd
  have CL := Lib.hid (fun w => rshl_any a b w hb)
  have CR := Lib.hid (fun w => rshr_any a b w hb)
  clear cd
  go_enter Try.func17, Try.ntmps17
  go_wp2_with (first | (go_at_call 27; ((with_reducible refine (ryes_any _ _).mono ?_); rintro e w3 ⟨rfl, rfl⟩)) | (go_at_call 26; ((refine (CD.out _).mono ?_); rintro e w4 ⟨rfl, rfl⟩)) | (go_at_call 31; ((with_reducible first | refine (CL.out _).mono ?_ | refine (CR.out _).mono ?_); rintro e w5 ⟨rfl, rfl⟩)))
  all_goals go_ret3
  all_goals exact ⟨ret_ibi (by rw [un_cast, un_cast]; simp) rfl rfl, rfl⟩

set_option maxHeartbeats 2000000 in
theorem rtwo_UGt (a b : Int) (w : World) (ha : cellR a) (hb : cellR b) :
    Calls Try.prog 17 #[.string ⟨#[85, 62]⟩, .int .i64 a, .int .i64 b] w fun e w' => e = .returned (.tuple #[.int .i64 (yes (decide (un b < un a))), .bool true, .int .i64 (0)]) ∧ w = w' := by
  obtain ⟨Q, hQ⟩ : ∃ Q, Hid (dq a b = Q) := ⟨_, Lib.hid rfl⟩
  obtain ⟨R, hR⟩ : ∃ R, Hid (dr a b = R) := ⟨_, Lib.hid rfl⟩
  obtain ⟨D, hD⟩ : ∃ D, Hid (dc b = D) := ⟨_, Lib.hid rfl⟩
  have cd := fun w => rdiv_any a b w ha hb
  rw [hQ.out, hR.out, hD.out] at cd
  have CD := Lib.hid cd
  have CL := Lib.hid (fun w => rshl_any a b w hb)
  have CR := Lib.hid (fun w => rshr_any a b w hb)
  clear cd
  go_enter Try.func17, Try.ntmps17
  go_wp2_with (first | (go_at_call 27; ((with_reducible refine (ryes_any _ _).mono ?_); rintro e w3 ⟨rfl, rfl⟩)) | (go_at_call 26; ((refine (CD.out _).mono ?_); rintro e w4 ⟨rfl, rfl⟩)) | (go_at_call 31; ((with_reducible first | refine (CL.out _).mono ?_ | refine (CR.out _).mono ?_); rintro e w5 ⟨rfl, rfl⟩)))
  all_goals go_ret3
  all_goals exact ⟨ret_ibi (by rw [un_cast, un_cast]; simp) rfl rfl, rfl⟩

set_option maxHeartbeats 2000000 in
theorem rtwo_none (s : ByteArray) (a b : Int) (w : World) (ha : cellR a) (hb : cellR b) (h0 : (s.toList == [47]) = false) (h1 : (s.toList == [77, 79, 68]) = false) (h2 : (s.toList == [43]) = false) (h3 : (s.toList == [45]) = false) (h4 : (s.toList == [42]) = false) (h5 : (s.toList == [65, 78, 68]) = false) (h6 : (s.toList == [79, 82]) = false) (h7 : (s.toList == [88, 79, 82]) = false) (h8 : (s.toList == [76, 83, 72, 73, 70, 84]) = false) (h9 : (s.toList == [82, 83, 72, 73, 70, 84]) = false) (h10 : (s.toList == [77, 73, 78]) = false) (h11 : (s.toList == [77, 65, 88]) = false) (h12 : (s.toList == [61]) = false) (h13 : (s.toList == [60, 62]) = false) (h14 : (s.toList == [60]) = false) (h15 : (s.toList == [62]) = false) (h16 : (s.toList == [60, 61]) = false) (h17 : (s.toList == [62, 61]) = false) (h18 : (s.toList == [85, 60]) = false) (h19 : (s.toList == [85, 62]) = false) :
    Calls Try.prog 17 #[.string s, .int .i64 a, .int .i64 b] w fun e w' => e = .returned (.tuple #[.int .i64 0, .bool false, .int .i64 0]) ∧ w = w' := by
  obtain ⟨Q, hQ⟩ : ∃ Q, Hid (dq a b = Q) := ⟨_, Lib.hid rfl⟩
  obtain ⟨R, hR⟩ : ∃ R, Hid (dr a b = R) := ⟨_, Lib.hid rfl⟩
  obtain ⟨D, hD⟩ : ∃ D, Hid (dc b = D) := ⟨_, Lib.hid rfl⟩
  have cd := fun w => rdiv_any a b w ha hb
  rw [hQ.out, hR.out, hD.out] at cd
  have CD := Lib.hid cd
  have CL := Lib.hid (fun w => rshl_any a b w hb)
  have CR := Lib.hid (fun w => rshr_any a b w hb)
  clear cd
  go_enter Try.func17, Try.ntmps17
  go_wp2_with (first | (go_at_call 27; ((with_reducible refine (ryes_any _ _).mono ?_); rintro e w3 ⟨rfl, rfl⟩)) | (go_at_call 26; ((refine (CD.out _).mono ?_); rintro e w4 ⟨rfl, rfl⟩)) | (go_at_call 31; ((with_reducible first | refine (CL.out _).mono ?_ | refine (CR.out _).mono ?_); rintro e w5 ⟨rfl, rfl⟩)))
  go_ret3
  exact ⟨ret_ibi rfl rfl rfl, rfl⟩

theorem rtwo_any (s : ByteArray) (a b : Int) (w : World) (ha : cellR a) (hb : cellR b) :
    Calls Try.prog 17 #[.string s, .int .i64 a, .int .i64 b] w fun e w' => e = .returned (.tuple #[.int .i64 ((twoF s.data.toList a b).getD 0), .bool (twoF s.data.toList a b).isSome, .int .i64 (divC s.data.toList b)]) ∧ w = w' := by
  by_cases h0 : s.data.toList = [47]
  · obtain rfl := str_of h0
    exact rtwo_Slash a b w ha hb
  by_cases h1 : s.data.toList = [77, 79, 68]
  · obtain rfl := str_of h1
    exact rtwo_MOD a b w ha hb
  by_cases h2 : s.data.toList = [43]
  · obtain rfl := str_of h2
    exact rtwo_Plus a b w ha hb
  by_cases h3 : s.data.toList = [45]
  · obtain rfl := str_of h3
    exact rtwo_Minus a b w ha hb
  by_cases h4 : s.data.toList = [42]
  · obtain rfl := str_of h4
    exact rtwo_Star a b w ha hb
  by_cases h5 : s.data.toList = [65, 78, 68]
  · obtain rfl := str_of h5
    exact rtwo_AND a b w ha hb
  by_cases h6 : s.data.toList = [79, 82]
  · obtain rfl := str_of h6
    exact rtwo_OR a b w ha hb
  by_cases h7 : s.data.toList = [88, 79, 82]
  · obtain rfl := str_of h7
    exact rtwo_XOR a b w ha hb
  by_cases h8 : s.data.toList = [76, 83, 72, 73, 70, 84]
  · obtain rfl := str_of h8
    exact rtwo_LSHIFT a b w ha hb
  by_cases h9 : s.data.toList = [82, 83, 72, 73, 70, 84]
  · obtain rfl := str_of h9
    exact rtwo_RSHIFT a b w ha hb
  by_cases h10 : s.data.toList = [77, 73, 78]
  · obtain rfl := str_of h10
    exact rtwo_MIN a b w ha hb
  by_cases h11 : s.data.toList = [77, 65, 88]
  · obtain rfl := str_of h11
    exact rtwo_MAX a b w ha hb
  by_cases h12 : s.data.toList = [61]
  · obtain rfl := str_of h12
    exact rtwo_Eq a b w ha hb
  by_cases h13 : s.data.toList = [60, 62]
  · obtain rfl := str_of h13
    exact rtwo_LtGt a b w ha hb
  by_cases h14 : s.data.toList = [60]
  · obtain rfl := str_of h14
    exact rtwo_Lt a b w ha hb
  by_cases h15 : s.data.toList = [62]
  · obtain rfl := str_of h15
    exact rtwo_Gt a b w ha hb
  by_cases h16 : s.data.toList = [60, 61]
  · obtain rfl := str_of h16
    exact rtwo_LtEq a b w ha hb
  by_cases h17 : s.data.toList = [62, 61]
  · obtain rfl := str_of h17
    exact rtwo_GtEq a b w ha hb
  by_cases h18 : s.data.toList = [85, 60]
  · obtain rfl := str_of h18
    exact rtwo_ULt a b w ha hb
  by_cases h19 : s.data.toList = [85, 62]
  · obtain rfl := str_of h19
    exact rtwo_UGt a b w ha hb
  have e : twoF s.data.toList a b = none := by simp only [twoF, divF, joinedF, asked2F, h0, h1, h2, h3, h4, h5, h6, h7, h8, h9, h10, h11, h12, h13, h14, h15, h16, h17, h18, h19, if_false, Option.or]
  have f : divC s.data.toList b = 0 := by simp only [divC, h0, h1, or_self, if_false]
  rw [e, f]
  exact rtwo_none s a b w ha hb (str_no h0) (str_no h1) (str_no h2) (str_no h3) (str_no h4) (str_no h5) (str_no h6) (str_no h7) (str_no h8) (str_no h9) (str_no h10) (str_no h11) (str_no h12) (str_no h13) (str_no h14) (str_no h15) (str_no h16) (str_no h17) (str_no h18) (str_no h19)
end Go.Proofs.Ytncljldoioplaaa
