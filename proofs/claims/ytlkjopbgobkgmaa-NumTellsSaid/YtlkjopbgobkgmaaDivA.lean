/- The contract of math/bits.Div64: a quotient of two digits by one, and the rest. -/
import Derived.Test.YtlkjopbgobkgmaaWalksA
import Derived.Test.YtlkjopbgobkgmaaShelf
import Derived.Shelf.Spec.BitsCarry
import Derived.Test.YtlkjopbgobkgmaaMathA
import Derived.Lib.BitFns
namespace Go.Proofs.Ytlkjopbgobkgmaa
open Go.RowKit

theorem lz64_any (x : Nat) (w : World) (h1 : x ≤ 18446744073709551615) :
    Calls Try.prog 31 #[.int .u64 (x : Int)] w fun e w' => e = .returned (.int .i64 ((64 - Lib.bitLen x : Nat) : Int)) ∧ w = w' :=
  (Try.bits_LeadingZeros64 x w (by omega) (by omega)).mono fun e w' ⟨a, b⟩ => ⟨by
    have h2 : Lib.bitLen x ≤ 64 := Lib.bitLen_le x 64 (by omega) (by omega)
    rw [a]; exact ret_int (by simp only [Int.toNat_natCast]; omega), b.symm⟩

theorem low_quo (lo y : Nat) (h : lo ≤ 18446744073709551615) : IntKind.u64.wrap ((lo : Int) / (y : Int)) = ((lo / y : Nat) : Int) := by
  rw [← Int.natCast_ediv, un_nat _ (by have := Nat.div_le_self lo y; omega)]

set_option maxHeartbeats 400000 in
theorem div64_low (lo y : Nat) (w : World) (hy : 0 < y) (hl : lo ≤ 18446744073709551615) :
    Calls Try.prog 29 #[.int .u64 0, .int .u64 (lo : Int), .int .u64 (y : Int)] w fun e w' => e = .returned (.tuple #[.int .u64 ((lo / y : Nat) : Int), .int .u64 ((lo % y : Nat) : Int)]) ∧ Below w.heap.size w w' := by
  have h0 : ((y : Int) == 0) = false := by simp; omega
  have h1 : ¬ (y : Int) = 0 := by omega
  have H := Lib.hid (low_quo lo y hl)
  go_enter Try.func29, Try.ntmps29
  go_wp2
  go_quiet (fail)
  go_wp2
  go_ret2
  exact ⟨ret_two H.out (Int.natCast_emod _ _).symm, drew_below _ _⟩

/-- d is the digit by which v goes into u and one digit more, n. -/
structure DigitOf (u v v1 v0 n d : Nat) : Prop where
  parts : v1 * 4294967296 + v0 = v
  lt : u < v
  n_lt : n < 4294967296
  v0_lt : v0 < 4294967296
  v1_ge : 2147483648 ≤ v1
  v1_lt : v1 < 4294967296
  digit : (u * 4294967296 + n) / v = d

theorem DigitOf.over {u v v1 v0 n d : Nat} (D : DigitOf u v v1 v0 n d) (k j : Nat) (h : k * v1 + j = u) (hd : d < k) :
    (k < 4294967296 → 4294967296 * (j : Int) + (n : Int) < (k : Int) * (v0 : Int)) ∧ (k < 4294967296 → (k : Int) * (v0 : Int) ≤ 18446744073709551615) := by
  have hv := D.parts
  have h1 := D.v1_ge
  have h0 := D.v0_lt
  have ht := Plain.digit_test 4294967296 v1 v0 u n k j h
  refine ⟨fun _ => ?_, fun hk => ?_⟩
  · have : u * 4294967296 + n < k * v := by
      rw [← Nat.div_lt_iff_lt_mul (by omega), D.digit]; exact hd
    rw [hv] at ht
    have := ht.2 this
    rw [← Int.natCast_mul]
    omega
  · have : k * v0 ≤ 4294967295 * 4294967295 := Nat.mul_le_mul (by omega) (by omega)
    rw [← Int.natCast_mul]
    omega

theorem DigitOf.brk {u v v1 v0 n d : Nat} (D : DigitOf u v v1 v0 n d) (k j : Nat) (h : k * v1 + j = u) (hd : d < k) (hk : k ≤ 4294967297) (hj : 4294967296 ≤ j + v1) : k = d + 1 := by
  have hv := D.parts
  have h1 := D.v1_ge
  have hb := Plain.digit_break 4294967296 v1 v0 u n (k - 1) (j + v1) (by omega) D.v0_lt hj (by rw [Nat.sub_mul]; have : v1 ≤ k * v1 := Nat.le_mul_of_pos_left _ (by omega); omega)
  rw [hv] at hb
  have := (Nat.le_div_iff_mul_le (by omega)).2 hb
  rw [D.digit] at this
  omega

theorem DigitOf.lt_base {u v v1 v0 n d : Nat} (D : DigitOf u v v1 v0 n d) : d < 4294967296 := by
  have := Plain.digit_lt 4294967296 v u n D.lt D.n_lt
  rw [D.digit] at this
  exact this

theorem DigitOf.under {u v v1 v0 n d : Nat} (D : DigitOf u v v1 v0 n d) (j : Nat) (h : d * v1 + j = u) :
    (d : Int) * (v0 : Int) ≤ 4294967296 * (j : Int) + (n : Int) ∧ (d : Int) * (v0 : Int) ≤ 18446744073709551615 := by
  have hv := D.parts
  have h0 := D.v0_lt
  have h1 := D.v1_ge
  have hb := D.lt_base
  have ht := Plain.digit_test 4294967296 v1 v0 u n d j h
  rw [hv] at ht
  have : d * v ≤ u * 4294967296 + n := (Nat.le_div_iff_mul_le (by omega)).1 (by rw [D.digit]; omega)
  have h2 : d * v0 ≤ 4294967295 * 4294967295 := Nat.mul_le_mul (by omega) (by omega)
  rw [← Int.natCast_mul]
  omega

/-- The first guess of a digit, and what it leaves. -/
structure GuessOf (u v1 d q r : Nat) : Prop where
  quo : (u : Int) / (v1 : Int) = (q : Int)
  le : (q : Int) * (v1 : Int) ≤ (u : Int)
  rest : (u : Int) - (q : Int) * (v1 : Int) = (r : Int)
  u_le : (u : Int) ≤ 18446744073709551615
  q_le : q ≤ 4294967297
  r_lt : r < v1
  d_le : d ≤ q

theorem GuessOf.parts {u v1 d q r : Nat} (G : GuessOf u v1 d q r) : q * v1 + r = u := by
  have := G.rest; rw [← Int.natCast_mul] at this; omega
theorem GuessOf.pos {u v1 d q r : Nat} (_G : GuessOf u v1 d q r) : 0 ≤ (q : Int) * (v1 : Int) := by
  rw [← Int.natCast_mul]; omega

theorem step_parts {k v1 j U : Nat} (h : k * v1 + j = U) (hk : 1 ≤ (k : Int)) : (k - 1) * v1 + (j + v1) = U := by
  have : v1 ≤ k * v1 := Nat.le_mul_of_pos_left _ (by omega)
  rw [Nat.sub_mul]; omega

set_option maxRecDepth 100000 in
set_option maxHeartbeats 4000000 in
theorem div64_core (hi lo y s Y H L U v1 v0 n1 n0 q r u2 q2 r2 d1 d0 Q R : Nat) (w : World) (h0 : 0 < hi) (h1 : hi < y) (_h2 : lo ≤ 18446744073709551615) (h3 : y ≤ 18446744073709551615) (hs : s ≤ 63) (es : Hid (64 - Lib.bitLen y = s))
    (eY : IntKind.u64.wrap ((y : Int) * 2 ^ s) = (Y : Int)) (eH : IntKind.u64.wrap ((hi : Int) * 2 ^ s) = (H : Int)) (eL : IntKind.u64.wrap ((lo : Int) * 2 ^ s) = (L : Int))
    (eU : bits BinOp.or IntKind.u64 (H : Int) ((lo : Int) / 2 ^ (64 - s)) = (U : Int))
    (ev0 : bits BinOp.and IntKind.u64 (Y : Int) 4294967295 = (v0 : Int)) (en0 : bits BinOp.and IntKind.u64 (L : Int) 4294967295 = (n0 : Int))
    (ev1 : (Y : Int) / 4294967296 = (v1 : Int)) (en1 : (L : Int) / 4294967296 = (n1 : Int))
    (b1 : 2147483648 ≤ v1) (b2 : v1 < 4294967296) (_b3 : v0 < 4294967296) (b4 : n1 < 4294967296) (b5 : n0 < 4294967296)
    (D1 : Hid (DigitOf U Y v1 v0 n1 d1)) (G1 : Hid (GuessOf U v1 d1 q r)) (D2 : Hid (DigitOf u2 Y v1 v0 n0 d0)) (G2 : Hid (GuessOf u2 v1 d0 q2 r2))
    (E2 : Hid (IntKind.u64.wrap (IntKind.u64.wrap (IntKind.u64.wrap ((U : Int) * 4294967296) + (n1 : Int)) - IntKind.u64.wrap ((d1 : Int) * (Y : Int))) = (u2 : Int)))
    (F1 : Hid ((d1 : Int) * 4294967296 + (d0 : Int) = (Q : Int)))
    (F2 : Hid (IntKind.u64.wrap (IntKind.u64.wrap (IntKind.u64.wrap ((u2 : Int) * 4294967296) + (n0 : Int)) - IntKind.u64.wrap ((d0 : Int) * (Y : Int))) / 2 ^ s = (R : Int))) :
    Calls Try.prog 29 #[.int .u64 (hi : Int), .int .u64 (lo : Int), .int .u64 (y : Int)] w fun e w' => e = .returned (.tuple #[.int .u64 (Q : Int), .int .u64 (R : Int)]) ∧ w = w' := by
  have y0 : ((y : Int) == 0) = false := by simp; omega
  have hi0 : ((hi : Int) == 0) = false := by simp; omega
  have g1 := G1.out.quo
  have g2 := G1.out.le
  have g3 := G1.out.rest
  have g4 := G1.out.u_le
  have g5 := G1.out.q_le
  have g6 := G1.out.pos
  go_enter Try.func29, Try.ntmps29
  go_wp2_with (go_at_call 31; refine (lz64_any _ _ (by omega)).mono ?_; rintro e w' ⟨rfl, rfl⟩; rw [es.out])
  clear eY eH eL eU ev0 en0 ev1 en1 y0 hi0 g1 g2 g3 g4 g5 g6
  go_loop [15, 16] (fun t u => ∃ k j : Nat, t = .int .u64 (k : Int) ∧ u = .int .u64 (j : Int) ∧ Hid (k * v1 + j = U) ∧ j < 4294967296 ∧ d1 ≤ k ∧ k ≤ 4294967297) (fun t _ => (intOf t).toNat)
  case atStart => exact ⟨q, r, rfl, rfl, Lib.hid G1.out.parts, by have := G1.out.r_lt; omega, G1.out.d_le, G1.out.q_le⟩
  case round =>
    obtain ⟨k, j, rfl, rfl, hkj, hj, hdk, hk⟩ := hrel
    have hj' : (j : Int) < 4294967296 := by omega
    have hd1 : (d1 : Int) < 4294967296 := by have := D1.out.lt_base; omega
    have hd0 : (d0 : Int) < 4294967296 := by have := D2.out.lt_base; omega
    by_cases hlt : d1 < k
    · have T := D1.out.over k j hkj.out hlt
      have hk1 : 1 ≤ (k : Int) := by omega
      by_cases hj2 : 4294967296 ≤ (j : Int) + (v1 : Int)
      · have hkd := D1.out.brk k j hkj.out hlt hk (by omega)
        subst hkd
        by_cases hB : 4294967296 ≤ (d1 : Int) + 1
        · clear T hlt hdk hk hkj
          have e2 := E2.out
          have g1 := G2.out.quo
          have g2 := G2.out.le
          have g3 := G2.out.rest
          have g4 := G2.out.u_le
          have g5 := G2.out.q_le
          have g6 := G2.out.pos
          go_wp2
          clear e2 g1 g2 g3 g4 g5 g6 hB hj hj' hj2 hk1
          go_loop [18, 16] (fun t u => ∃ k j : Nat, t = .int .u64 (k : Int) ∧ u = .int .u64 (j : Int) ∧ Hid (k * v1 + j = u2) ∧ j < 4294967296 ∧ d0 ≤ k ∧ k ≤ 4294967297) (fun t _ => (intOf t).toNat)
          case atStart => exact ⟨q2, r2, rfl, rfl, Lib.hid G2.out.parts, by have := G2.out.r_lt; omega, G2.out.d_le, G2.out.q_le⟩
          case round =>
            obtain ⟨k, j, rfl, rfl, hkj, hj, hdk, hk⟩ := hrel
            have hj' : (j : Int) < 4294967296 := by omega
            by_cases hlt : d0 < k
            · have T := D2.out.over k j hkj.out hlt
              have hk1 : 1 ≤ (k : Int) := by omega
              by_cases hj2 : 4294967296 ≤ (j : Int) + (v1 : Int)
              · have hkd := D2.out.brk k j hkj.out hlt hk (by omega)
                subst hkd
                by_cases hB : 4294967296 ≤ (d0 : Int) + 1
                · clear T hlt hdk hk hkj
                  go_wp2
                  go_ret2
                  exact ⟨ret_two F1.out F2.out, rfl⟩
                · have T1 := T.1 (by omega)
                  have T2 := T.2 (by omega)
                  clear T hlt hdk hk hkj
                  simp only [Int.natCast_add, Int.natCast_one] at T1 T2
                  go_wp2
                  go_ret2
                  exact ⟨ret_two F1.out F2.out, rfl⟩
              · by_cases hB : 4294967296 ≤ (k : Int)
                · clear T
                  go_wp2
                  go_round
                  case rel => exact ⟨k - 1, j + v1, by go_num, by go_num, Lib.hid (step_parts hkj.out hk1), by omega, by omega, by omega⟩
                  case measure => simp [intOf]; omega
                · have T1 := T.1 (by omega)
                  have T2 := T.2 (by omega)
                  clear T
                  go_wp2
                  go_round
                  case rel => exact ⟨k - 1, j + v1, by go_num, by go_num, Lib.hid (step_parts hkj.out hk1), by omega, by omega, by omega⟩
                  case measure => simp [intOf]; omega
            · have hkd : d0 = k := by omega
              subst hkd
              have T := D2.out.under j hkj.out
              obtain ⟨T1, T2⟩ := T
              have hB : ¬ 4294967296 ≤ (d0 : Int) := by omega
              have T0 : 0 ≤ (d0 : Int) * (v0 : Int) := by rw [← Int.natCast_mul]; omega
              have T3 : decide (4294967296 * (j : Int) + (n0 : Int) < (d0 : Int) * (v0 : Int)) = false := decide_eq_false (by omega)
              clear T1
              clear hlt hdk hk hkj
              go_wp2
              go_ret2
              exact ⟨ret_two F1.out F2.out, rfl⟩
        · have T1 := T.1 (by omega)
          have T2 := T.2 (by omega)
          clear T hlt hdk hk hkj
          simp only [Int.natCast_add, Int.natCast_one] at T1 T2
          have e2 := E2.out
          have g1 := G2.out.quo
          have g2 := G2.out.le
          have g3 := G2.out.rest
          have g4 := G2.out.u_le
          have g5 := G2.out.q_le
          have g6 := G2.out.pos
          go_wp2
          clear e2 g1 g2 g3 g4 g5 g6 hB hj hj' hj2 hk1 T1 T2
          go_loop [18, 16] (fun t u => ∃ k j : Nat, t = .int .u64 (k : Int) ∧ u = .int .u64 (j : Int) ∧ Hid (k * v1 + j = u2) ∧ j < 4294967296 ∧ d0 ≤ k ∧ k ≤ 4294967297) (fun t _ => (intOf t).toNat)
          case atStart => exact ⟨q2, r2, rfl, rfl, Lib.hid G2.out.parts, by have := G2.out.r_lt; omega, G2.out.d_le, G2.out.q_le⟩
          case round =>
            obtain ⟨k, j, rfl, rfl, hkj, hj, hdk, hk⟩ := hrel
            have hj' : (j : Int) < 4294967296 := by omega
            by_cases hlt : d0 < k
            · have T := D2.out.over k j hkj.out hlt
              have hk1 : 1 ≤ (k : Int) := by omega
              by_cases hj2 : 4294967296 ≤ (j : Int) + (v1 : Int)
              · have hkd := D2.out.brk k j hkj.out hlt hk (by omega)
                subst hkd
                by_cases hB : 4294967296 ≤ (d0 : Int) + 1
                · clear T hlt hdk hk hkj
                  go_wp2
                  go_ret2
                  exact ⟨ret_two F1.out F2.out, rfl⟩
                · have T1 := T.1 (by omega)
                  have T2 := T.2 (by omega)
                  clear T hlt hdk hk hkj
                  simp only [Int.natCast_add, Int.natCast_one] at T1 T2
                  go_wp2
                  go_ret2
                  exact ⟨ret_two F1.out F2.out, rfl⟩
              · by_cases hB : 4294967296 ≤ (k : Int)
                · clear T
                  go_wp2
                  go_round
                  case rel => exact ⟨k - 1, j + v1, by go_num, by go_num, Lib.hid (step_parts hkj.out hk1), by omega, by omega, by omega⟩
                  case measure => simp [intOf]; omega
                · have T1 := T.1 (by omega)
                  have T2 := T.2 (by omega)
                  clear T
                  go_wp2
                  go_round
                  case rel => exact ⟨k - 1, j + v1, by go_num, by go_num, Lib.hid (step_parts hkj.out hk1), by omega, by omega, by omega⟩
                  case measure => simp [intOf]; omega
            · have hkd : d0 = k := by omega
              subst hkd
              have T := D2.out.under j hkj.out
              obtain ⟨T1, T2⟩ := T
              have hB : ¬ 4294967296 ≤ (d0 : Int) := by omega
              have T0 : 0 ≤ (d0 : Int) * (v0 : Int) := by rw [← Int.natCast_mul]; omega
              have T3 : decide (4294967296 * (j : Int) + (n0 : Int) < (d0 : Int) * (v0 : Int)) = false := decide_eq_false (by omega)
              clear T1
              clear hlt hdk hk hkj
              go_wp2
              go_ret2
              exact ⟨ret_two F1.out F2.out, rfl⟩
      · by_cases hB : 4294967296 ≤ (k : Int)
        · clear T
          go_wp2
          go_round
          case rel => exact ⟨k - 1, j + v1, by go_num, by go_num, Lib.hid (step_parts hkj.out hk1), by omega, by omega, by omega⟩
          case measure => simp [intOf]; omega
        · have T1 := T.1 (by omega)
          have T2 := T.2 (by omega)
          clear T
          go_wp2
          go_round
          case rel => exact ⟨k - 1, j + v1, by go_num, by go_num, Lib.hid (step_parts hkj.out hk1), by omega, by omega, by omega⟩
          case measure => simp [intOf]; omega
    · have hkd : d1 = k := by omega
      subst hkd
      have T := D1.out.under j hkj.out
      obtain ⟨T1, T2⟩ := T
      have hB : ¬ 4294967296 ≤ (d1 : Int) := by omega
      have T0 : 0 ≤ (d1 : Int) * (v0 : Int) := by rw [← Int.natCast_mul]; omega
      have T3 : decide (4294967296 * (j : Int) + (n1 : Int) < (d1 : Int) * (v0 : Int)) = false := decide_eq_false (by omega)
      clear T1
      clear hlt hdk hk hkj
      have e2 := E2.out
      have g1 := G2.out.quo
      have g2 := G2.out.le
      have g3 := G2.out.rest
      have g4 := G2.out.u_le
      have g5 := G2.out.q_le
      have g6 := G2.out.pos
      go_wp2
      clear e2 g1 g2 g3 g4 g5 g6 hB hj hj' T0 T2 T3
      go_loop [18, 16] (fun t u => ∃ k j : Nat, t = .int .u64 (k : Int) ∧ u = .int .u64 (j : Int) ∧ Hid (k * v1 + j = u2) ∧ j < 4294967296 ∧ d0 ≤ k ∧ k ≤ 4294967297) (fun t _ => (intOf t).toNat)
      case atStart => exact ⟨q2, r2, rfl, rfl, Lib.hid G2.out.parts, by have := G2.out.r_lt; omega, G2.out.d_le, G2.out.q_le⟩
      case round =>
        obtain ⟨k, j, rfl, rfl, hkj, hj, hdk, hk⟩ := hrel
        have hj' : (j : Int) < 4294967296 := by omega
        by_cases hlt : d0 < k
        · have T := D2.out.over k j hkj.out hlt
          have hk1 : 1 ≤ (k : Int) := by omega
          by_cases hj2 : 4294967296 ≤ (j : Int) + (v1 : Int)
          · have hkd := D2.out.brk k j hkj.out hlt hk (by omega)
            subst hkd
            by_cases hB : 4294967296 ≤ (d0 : Int) + 1
            · clear T hlt hdk hk hkj
              go_wp2
              go_ret2
              exact ⟨ret_two F1.out F2.out, rfl⟩
            · have T1 := T.1 (by omega)
              have T2 := T.2 (by omega)
              clear T hlt hdk hk hkj
              simp only [Int.natCast_add, Int.natCast_one] at T1 T2
              go_wp2
              go_ret2
              exact ⟨ret_two F1.out F2.out, rfl⟩
          · by_cases hB : 4294967296 ≤ (k : Int)
            · clear T
              go_wp2
              go_round
              case rel => exact ⟨k - 1, j + v1, by go_num, by go_num, Lib.hid (step_parts hkj.out hk1), by omega, by omega, by omega⟩
              case measure => simp [intOf]; omega
            · have T1 := T.1 (by omega)
              have T2 := T.2 (by omega)
              clear T
              go_wp2
              go_round
              case rel => exact ⟨k - 1, j + v1, by go_num, by go_num, Lib.hid (step_parts hkj.out hk1), by omega, by omega, by omega⟩
              case measure => simp [intOf]; omega
        · have hkd : d0 = k := by omega
          subst hkd
          have T := D2.out.under j hkj.out
          obtain ⟨T1, T2⟩ := T
          have hB : ¬ 4294967296 ≤ (d0 : Int) := by omega
          have T0 : 0 ≤ (d0 : Int) * (v0 : Int) := by rw [← Int.natCast_mul]; omega
          have T3 : decide (4294967296 * (j : Int) + (n0 : Int) < (d0 : Int) * (v0 : Int)) = false := decide_eq_false (by omega)
          clear T1
          clear hlt hdk hk hkj
          go_wp2
          go_ret2
          exact ⟨ret_two F1.out F2.out, rfl⟩
end Go.Proofs.Ytlkjopbgobkgmaa
