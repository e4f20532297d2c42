/- Contracts of the document's own answers for layer 1 that only compute: ULess, Div, size, turned, umul, UMul, Mul. -/
import Derived.Test.YtadnajoefhajgaaWalksB
import Derived.Test.YtadnajoefhajgaaMathC
import Derived.Lib.Mul64
namespace Go.Proofs.Ytadnajoefhajgaa
open Go.RowKit

set_option maxHeartbeats 400000 in
theorem ruless_any (a b : Int) (w : World) :
    Calls Try.prog 18 #[.int .i64 a, .int .i64 b] w fun e w' => e = .returned (.bool (decide (un a < un b))) ∧ w = w' := by
  go_enter Try.func18, Try.ntmps18
  go_wp2
  go_ret
  exact ⟨ret_bool (by rw [un_cast, un_cast]; simp), rfl⟩

set_option maxHeartbeats 400000 in
theorem rsize_any (a : Int) (w : World) (ha : cellR a) :
    Calls Try.prog 36 #[.int .i64 a] w fun e w' => e = .returned (.int .u64 (a.natAbs : Int)) ∧ w = w' := by
  have HA := Lib.hid ha
  clear ha
  go_enter Try.func36, Try.ntmps36
  go_wp2
  all_goals go_ret
  all_goals exact ⟨ret_int (by have := HA.out; unfold cellR at this; simp only [IntKind.wrap_u64]; omega), rfl⟩

set_option maxHeartbeats 400000 in
theorem rturned_any (lo hi : Nat) (w : World) (hl : lo < 18446744073709551616) (hh : hi < 18446744073709551616) :
    Calls Try.prog 37 #[.int .u64 (lo : Int), .int .u64 (hi : Int)] w fun e w' => e = .returned (.tuple #[.int .u64 (negU lo 0 : Int), .int .u64 (negU hi (bor lo 0) : Int)]) ∧ w = w' := by
  by_cases h0 : lo = 0
  · subst h0
    go_enter Try.func37, Try.ntmps37
    go_wp2
    go_ret2
    exact ⟨ret_two rfl (by simp only [IntKind.wrap_u64, negU, bor]; simp; omega), rfl⟩
  · have z : ((lo : Int) == 0) = false := by simpa using h0
    go_enter Try.func37, Try.ntmps37
    go_wp2
    go_ret2
    exact ⟨ret_two (by simp only [IntKind.wrap_u64, negU]; omega) (by simp only [IntKind.wrap_u64, negU, bor]; rw [if_pos (by omega)]; omega), rfl⟩

theorem rdiv_rest (a b : Int) (_ha : cellR a) (hb : cellR b) (h : b ≠ 0) : wrap64 (a - wrap64 (wrap64 (a.tdiv b) * b)) = a.tmod b := by
  obtain ⟨t1, _, _, _⟩ := tfacts a b h
  have hc := tmod_cell a b h hb
  refine Eq.trans ?_ (wrap_in hc)
  have key : (wrap64 (a.tdiv b) * b - a.tdiv b * b) % 18446744073709551616 = 0 := by
    rw [← Int.sub_mul, Int.mul_emod, show (wrap64 (a.tdiv b) - a.tdiv b) % 18446744073709551616 = 0 by unfold wrap64; omega]
    simp
  rw [Int.mul_comm] at t1
  unfold wrap64 at *
  omega

set_option maxHeartbeats 400000 in
theorem rdiv_any (a b : Int) (w : World) (ha : cellR a) (hb : cellR b) :
    Calls Try.prog 20 #[.int .i64 a, .int .i64 b] w fun e w' => e = .returned (.tuple #[.int .i64 (dq a b), .int .i64 (dr a b), .int .i64 (dc b)]) ∧ w = w' := by
  by_cases h : b = 0
  · have hb0 : (b == 0) = true := by simp [h]
    have H := Lib.hid h
    clear h
    go_enter Try.func20, Try.ntmps20
    go_wp2
    go_ret3
    exact ⟨ret_three (by simp [dq, H.out]) (by simp [dr, H.out]) (by simp [dc, H.out]), rfl⟩
  · have hb0 : (b == 0) = false := by simp [h]
    have er := rdiv_rest a b ha hb h
    obtain ⟨r, hr⟩ : ∃ r, a.tmod b = r := ⟨_, rfl⟩
    rw [hr] at er
    have HR := Lib.hid hr
    have HB := Lib.hid hb
    have hl : leans (a.tmod b) b = leans r b := by rw [hr]
    clear hr hb ha
    cases hk : leans r b
    · have h2 := leans_false hk
      have HK := Lib.hid (hl.trans hk)
      clear hl hk
      rcases h2 with rfl | ⟨h2, h3⟩ | ⟨h2, h3⟩
      all_goals
        go_enter Try.func20, Try.ntmps20
        go_wp2
        go_ret3
        exact ⟨ret_three (by simp [dq, h, HK.out]) (by rw [dr, if_neg h, if_neg (by rw [HK.out]; exact Bool.false_ne_true), HR.out]; try exact er) (by simp [dc, h]), rfl⟩
    · have h2 := leans_true hk
      have HK := Lib.hid (hl.trans hk)
      clear hl hk
      rcases h2 with ⟨h2, h3⟩ | ⟨h2, h3⟩
      all_goals
        have h3' : 0 < b ∨ b < 0 := by omega
        have h4 := wrap_in (leans_sum a b h HB.out HK.out)
        rw [HR.out] at h4
        have H4 := Lib.hid h4
        clear h4 h3'
      · have h5 : 0 < b := by omega
        go_enter Try.func20, Try.ntmps20
        go_wp2
        go_ret3
        exact ⟨ret_three (by simp [dq, h, HK.out]) (by rw [dr, if_neg h, if_pos HK.out, HR.out]; first | exact H4.out | rfl) (by simp [dc, h]), rfl⟩
      · go_enter Try.func20, Try.ntmps20
        go_wp2
        go_ret3
        exact ⟨ret_three (by simp [dq, h, HK.out]) (by rw [dr, if_neg h, if_pos HK.out, HR.out]; first | exact H4.out | rfl) (by simp [dc, h]), rfl⟩

set_option maxHeartbeats 1000000 in
theorem rumul_core (x y x0 x1 y0 y1 p pl ph m1 q ql qh m2 r rl rh m3 lo hi : Nat) (w : World)
    (bx : (x : Int) ≤ 18446744073709551615) (bY : (y : Int) ≤ 18446744073709551615) (bp : (p : Int) ≤ 18446744073709551615) (bq : (q : Int) ≤ 18446744073709551615) (br : (r : Int) ≤ 18446744073709551615)
    (b1 : (m1 : Int) ≤ 18446744073709551615) (b2 : (m2 : Int) ≤ 18446744073709551615) (b3 : (m3 : Int) ≤ 18446744073709551615) (bl : (rl : Int) < 4294967296) (bm : (pl : Int) < 4294967296) (bh : (m3 : Int) + (qh : Int) + (rh : Int) ≤ 18446744073709551615)
    (ex0 : (x : Int) % 4294967296 = (x0 : Int)) (ex1 : (x : Int) / 4294967296 = (x1 : Int)) (ey0 : (y : Int) % 4294967296 = (y0 : Int)) (ey1 : (y : Int) / 4294967296 = (y1 : Int))
    (ep : (x0 : Int) * (y0 : Int) = (p : Int)) (epl : (p : Int) % 4294967296 = (pl : Int)) (eph : (p : Int) / 4294967296 = (ph : Int))
    (em1 : (x1 : Int) * (y0 : Int) = (m1 : Int)) (eq : (m1 : Int) + (ph : Int) = (q : Int)) (eql : (q : Int) % 4294967296 = (ql : Int)) (eqh : (q : Int) / 4294967296 = (qh : Int))
    (em2 : (x0 : Int) * (y1 : Int) = (m2 : Int)) (er : (m2 : Int) + (ql : Int) = (r : Int)) (erl : (r : Int) % 4294967296 = (rl : Int)) (erh : (r : Int) / 4294967296 = (rh : Int))
    (em3 : (x1 : Int) * (y1 : Int) = (m3 : Int))
    (elo : Hid (4294967296 * (rl : Int) + (pl : Int) = (lo : Int))) (ehi : Hid ((m3 : Int) + (qh : Int) + (rh : Int) = (hi : Int))) :
    Calls Try.prog 35 #[.int .u64 (x : Int), .int .u64 (y : Int)] w fun e w' => e = .returned (.tuple #[.int .u64 (lo : Int), .int .u64 (hi : Int)]) ∧ Below w.heap.size w w' := by
  go_enter Try.func35, Try.ntmps35
  go_wp2
  go_quiet (fail)
  go_wp2
  go_ret2
  exact ⟨ret_two elo.out ehi.out, drew_below _ _⟩

/-- The school's way by halves. -/
theorem halves_lo (x y : Nat) (hx : x < 18446744073709551616) (hy : y < 18446744073709551616) (p q r : Nat) (hp : x % 4294967296 * (y % 4294967296) = p) (hq : x / 4294967296 * (y % 4294967296) + p / 4294967296 = q) (hr : x % 4294967296 * (y / 4294967296) + q % 4294967296 = r) :
    4294967296 * (r % 4294967296) + p % 4294967296 = x * y % 18446744073709551616 := by
  have e : x * y = (x / 4294967296) * (y / 4294967296) * (4294967296 * 4294967296) + ((x / 4294967296) * (y % 4294967296) + (x % 4294967296) * (y / 4294967296)) * 4294967296 + (x % 4294967296) * (y % 4294967296) := by
    rw [← Lib.split_mul, Nat.div_add_mod' x 4294967296, Nat.div_add_mod' y 4294967296]
  have ha := Lib.half_mul_le (a := x / 4294967296) (b := y / 4294967296) (by omega) (by omega)
  rw [e]
  generalize (x / 4294967296) * (y / 4294967296) = a at *
  generalize (x / 4294967296) * (y % 4294967296) = b at *
  generalize (x % 4294967296) * (y / 4294967296) = c at *
  generalize (x % 4294967296) * (y % 4294967296) = d at *
  omega

theorem rumulN_any (x y : Nat) (w : World) (hx : x < 18446744073709551616) (hy : y < 18446744073709551616) :
    Calls Try.prog 35 #[.int .u64 (x : Int), .int .u64 (y : Int)] w fun e w' => e = .returned (.tuple #[.int .u64 ((x * y % 18446744073709551616 : Nat) : Int), .int .u64 ((x * y / 18446744073709551616 : Nat) : Int)]) ∧ Below w.heap.size w w' := by
  obtain ⟨bd, bt, bw, hhi⟩ := Lib.mul64_hi x y hx hy
  have ba := Lib.half_mul_le (a := x / 4294967296) (b := y / 4294967296) (by omega) (by omega)
  have bb := Lib.half_mul_le (a := x / 4294967296) (b := y % 4294967296) (by omega) (by omega)
  have bc := Lib.half_mul_le (a := x % 4294967296) (b := y / 4294967296) (by omega) (by omega)
  obtain ⟨p, hp⟩ : ∃ p, x % 4294967296 * (y % 4294967296) = p := ⟨_, rfl⟩
  rw [hp] at bd bt bw hhi
  obtain ⟨m1, hm1⟩ : ∃ m, x / 4294967296 * (y % 4294967296) = m := ⟨_, rfl⟩
  rw [hm1] at bt bw hhi bb
  obtain ⟨m2, hm2⟩ : ∃ m, x % 4294967296 * (y / 4294967296) = m := ⟨_, rfl⟩
  rw [hm2] at bw hhi bc
  obtain ⟨m3, hm3⟩ : ∃ m, x / 4294967296 * (y / 4294967296) = m := ⟨_, rfl⟩
  rw [hm3] at hhi ba
  have hlo := halves_lo x y hx hy p (m1 + p / 4294967296) (m2 + (m1 + p / 4294967296) % 4294967296) hp (by rw [hm1]) (by rw [hm2])
  obtain ⟨q, hq⟩ : ∃ q, m1 + p / 4294967296 = q := ⟨_, rfl⟩
  rw [hq] at bt bw hhi hlo
  obtain ⟨r, hr⟩ : ∃ r, m2 + q % 4294967296 = r := ⟨_, rfl⟩
  rw [Nat.add_comm, hr] at bw
  rw [Nat.add_comm (q % 4294967296), hr] at hhi
  rw [hr] at hlo
  have hbig : x * y / 18446744073709551616 < 18446744073709551616 := prod_small x y _ hx hy rfl
  rw [← hlo, ← hhi]
  rw [← hhi] at hbig
  have ep : ((x % 4294967296 : Nat) : Int) * ((y % 4294967296 : Nat) : Int) = (p : Int) := by rw [← Int.natCast_mul, hp]
  have em1 : ((x / 4294967296 : Nat) : Int) * ((y % 4294967296 : Nat) : Int) = (m1 : Int) := by rw [← Int.natCast_mul, hm1]
  have em2 : ((x % 4294967296 : Nat) : Int) * ((y / 4294967296 : Nat) : Int) = (m2 : Int) := by rw [← Int.natCast_mul, hm2]
  have em3 : ((x / 4294967296 : Nat) : Int) * ((y / 4294967296 : Nat) : Int) = (m3 : Int) := by rw [← Int.natCast_mul, hm3]
  clear hp hm1 hm2 hm3
  refine rumul_core x y (x % 4294967296) (x / 4294967296) (y % 4294967296) (y / 4294967296) p (p % 4294967296) (p / 4294967296) m1 q (q % 4294967296) (q / 4294967296) m2 r (r % 4294967296) (r / 4294967296) m3 _ _ w
    (by omega) (by omega) (by omega) (by omega) (by omega) (by omega) (by omega) (by omega) (by omega) (by omega) (by omega) (by omega) (by omega) (by omega) (by omega) ep (by omega) (by omega) em1 (by omega) (by omega) (by omega) em2 (by omega) (by omega) (by omega) em3 (Lib.hid (by omega)) (Lib.hid (by omega))
end Go.Proofs.Ytadnajoefhajgaa
