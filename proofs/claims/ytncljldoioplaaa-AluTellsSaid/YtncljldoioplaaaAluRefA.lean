/- The contracts of the document's own answers for layer 2 that only compute: Within, Step. -/
import Derived.Test.YtncljldoioplaaaAluUse
namespace Go.Proofs.Ytncljldoioplaaa
open Go.RowKit

theorem un_sub (x y : Int) : IntKind.u64.wrap (IntKind.u64.wrap x - IntKind.u64.wrap y) = (un (wrap64 (x - y)) : Int) := by
  have := un_mod (wrap64 (x - y))
  rw [IntKind.wrap_u64, IntKind.wrap_u64, IntKind.wrap_u64]
  unfold wrap64 at *
  omega

set_option maxHeartbeats 1000000 in
theorem rwithin_any (x lo hi : Int) (w : World) :
    Calls Try.prog 21 #[.int .i64 x, .int .i64 lo, .int .i64 hi] w fun e w' => e = .returned (.bool (withinB x lo hi)) ∧ w = w' := by
  go_enter Try.func21, Try.ntmps21
  go_wp2
  go_ret
  exact ⟨ret_bool (by rw [un_sub, un_sub]; unfold withinB; simp), rfl⟩

set_option maxHeartbeats 1000000 in
theorem rstep_any (i l n : Int) (w : World) (hn : cellR n) :
    Calls Try.prog 19 #[.int .i64 i, .int .i64 l, .int .i64 n] w fun e w' => e = .returned (.tuple #[.int .i64 (wrap64 (i + n)), .bool (stepB i l n)]) ∧ w = w' := by
  obtain ⟨B, hB⟩ : ∃ B, stepB i l n = B := ⟨_, rfl⟩
  rw [hB]
  unfold stepB at hB
  have hr := cellR_wrap (i - l)
  obtain ⟨d, hd⟩ : ∃ d, wrap64 (i - l) = d := ⟨_, rfl⟩
  rw [hd] at hB hr
  by_cases h0 : 0 ≤ n
  · rw [if_pos h0] at hB
    have h0' : ¬ n < 0 := by omega
    by_cases h1 : d < 0
    · have e : wrap64 (d + n) = d + n := wrap_in (by unfold cellR at *; omega)
      have HB := Lib.hid hB
      clear hB hr hn
      go_enter Try.func19, Try.ntmps19
      go_wp2
      go_ret2
      exact ⟨ret_ib rfl (by rw [← HB.out]; first | (simp [h1]; done) | (simp; omega)), rfl⟩
    · have h2 : 0 ≤ d := by omega
      have HB := Lib.hid hB
      clear hB hr hn
      go_enter Try.func19, Try.ntmps19
      go_wp2
      go_ret2
      exact ⟨ret_ib rfl (by rw [← HB.out]; first | (simp [h1]; done) | (simp; omega)), rfl⟩
  · rw [if_neg h0] at hB
    have h0' : n < 0 := by omega
    by_cases h1 : 0 ≤ d
    · have e : wrap64 (d + n) = d + n := wrap_in (by unfold cellR at *; omega)
      have HB := Lib.hid hB
      clear hB hr hn
      go_enter Try.func19, Try.ntmps19
      go_wp2
      go_ret2
      exact ⟨ret_ib rfl (by rw [← HB.out]; first | (simp [h1]; done) | (simp; omega)), rfl⟩
    · have HB := Lib.hid hB
      clear hB hr hn
      go_enter Try.func19, Try.ntmps19
      go_wp2
      go_ret2
      exact ⟨ret_ib rfl (by rw [← HB.out]; first | (simp [h1]; done) | (simp; omega)), rfl⟩
end Go.Proofs.Ytncljldoioplaaa
