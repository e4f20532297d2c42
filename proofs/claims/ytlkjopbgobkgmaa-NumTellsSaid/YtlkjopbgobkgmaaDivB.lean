/- The contract of math/bits.Div64, for every dividend whose high cell is below the divisor; the contract of divide. -/
import Derived.Test.YtlkjopbgobkgmaaDivA
namespace Go.Proofs.Ytlkjopbgobkgmaa
open Go.RowKit

theorem bitLenAux_bounds : ∀ (f x : Nat), x < 2 ^ f → x < 2 ^ Lib.bitLenAux f x ∧ (0 < x → 2 ^ Lib.bitLenAux f x ≤ 2 * x)
  | 0, x, h => by
    have : x = 0 := by simpa using h
    subst this
    simp [Lib.bitLenAux]
  | f + 1, x, h => by
    by_cases h0 : x = 0
    · subst h0; simp [Lib.bitLenAux]
    · have ih := bitLenAux_bounds f (x / 2) (by rw [Nat.pow_succ] at h; omega)
      simp only [Lib.bitLenAux, h0, if_false]
      rw [Nat.add_comm 1, Nat.pow_succ]
      refine ⟨by omega, fun _ => ?_⟩
      by_cases h1 : x / 2 = 0
      · rw [h1]
        have : Lib.bitLenAux f 0 = 0 := by cases f <;> simp [Lib.bitLenAux]
        rw [this]
        omega
      · have := ih.2 (by omega)
        omega

theorem bitLen_bounds (x : Nat) (h : x < 18446744073709551616) (h0 : 0 < x) : x < 2 ^ Lib.bitLen x ∧ 2 ^ Lib.bitLen x ≤ 2 * x ∧ Lib.bitLen x ≤ 64 ∧ 1 ≤ Lib.bitLen x := by
  have hb := bitLenAux_bounds 64 x (by simpa using h)
  have hl : Lib.bitLen x ≤ 64 := Lib.bitLen_le x 64 (by omega) (by simpa using h)
  refine ⟨hb.1, hb.2 h0, hl, ?_⟩
  have h1 := hb.1
  unfold Lib.bitLen
  by_cases h2 : Lib.bitLenAux 64 x = 0
  · rw [h2] at h1; simp at h1; omega
  · omega

theorem shift_norm (y s : Nat) (hy : 0 < y) (h : y < 18446744073709551616) (es : 64 - Lib.bitLen y = s) : s ≤ 63 ∧ 9223372036854775808 ≤ y * 2 ^ s ∧ y * 2 ^ s < 18446744073709551616 := by
  obtain ⟨h1, h2, h3, h4⟩ := bitLen_bounds y h hy
  generalize Lib.bitLen y = b at *
  subst es
  have e : 2 ^ b * 2 ^ (64 - b) = 18446744073709551616 := by rw [← Nat.pow_add, show b + (64 - b) = 64 by omega]
  have hp : 0 < 2 ^ (64 - b) := Nat.two_pow_pos _
  refine ⟨by omega, ?_, ?_⟩
  · have : 2 ^ b * 2 ^ (64 - b) ≤ 2 * y * 2 ^ (64 - b) := Nat.mul_le_mul_right _ h2
    rw [Nat.mul_assoc] at this
    omega
  · have : y * 2 ^ (64 - b) < 2 ^ b * 2 ^ (64 - b) := Nat.mul_lt_mul_of_pos_right h1 hp
    omega

/-- The dividend, shifted: its high part, its low part. -/
theorem shift_parts (hi lo y s : Nat) (hs : s ≤ 63) (h1 : hi < y) (hl : lo < 18446744073709551616) (hY : y * 2 ^ s < 18446744073709551616) :
    hi * 2 ^ s < 18446744073709551616 ∧ hi * 2 ^ s ||| lo / 2 ^ (64 - s) = hi * 2 ^ s + lo / 2 ^ (64 - s) ∧ hi * 2 ^ s + lo / 2 ^ (64 - s) < y * 2 ^ s ∧
    (hi * 18446744073709551616 + lo) * 2 ^ s = (hi * 2 ^ s + lo / 2 ^ (64 - s)) * 18446744073709551616 + lo * 2 ^ s % 18446744073709551616 ∧ lo / 2 ^ (64 - s) < 18446744073709551616 := by
  have hp : 0 < 2 ^ s := Nat.two_pow_pos _
  have e : 2 ^ (64 - s) * 2 ^ s = 18446744073709551616 := by rw [← Nat.pow_add, show 64 - s + s = 64 by omega]
  have hT : lo / 2 ^ (64 - s) < 2 ^ s := by
    refine Nat.div_lt_of_lt_mul ?_
    omega
  have hH : hi * 2 ^ s + 2 ^ s ≤ y * 2 ^ s := by
    have : (hi + 1) * 2 ^ s ≤ y * 2 ^ s := Nat.mul_le_mul_right _ h1
    rw [Nat.add_mul] at this
    omega
  have ed : lo * 2 ^ s / 18446744073709551616 = lo / 2 ^ (64 - s) := by
    rw [← e]; exact Nat.mul_div_mul_right _ _ hp
  have hm := Nat.div_add_mod (lo * 2 ^ s) 18446744073709551616
  rw [ed] at hm
  refine ⟨by omega, ?_, by omega, ?_, by omega⟩
  · have := Nat.two_pow_add_eq_or_of_lt hT hi
    rw [Nat.mul_comm] at this
    exact this.symm
  · rw [Nat.add_mul, Nat.add_mul, Nat.mul_right_comm]
    omega

theorem digit_mk (u v n : Nat) (hv : 9223372036854775808 ≤ v) (hv2 : v < 18446744073709551616) (hu : u < v) (hn : n < 4294967296) :
    DigitOf u v (v / 4294967296) (v % 4294967296) n ((u * 4294967296 + n) / v) ∧
    GuessOf u (v / 4294967296) ((u * 4294967296 + n) / v) (u / (v / 4294967296)) (u % (v / 4294967296)) := by
  have e : v / 4294967296 * 4294967296 + v % 4294967296 = v := by omega
  have h1 : 2147483648 ≤ v / 4294967296 := by omega
  refine ⟨⟨e, hu, hn, by omega, h1, by omega, rfl⟩, ⟨by rw [← Int.natCast_ediv], ?_, ?_, by omega, ?_, Nat.mod_lt _ (by omega), ?_⟩⟩
  · rw [← Int.natCast_mul]
    have := Nat.div_mul_le_self u (v / 4294967296)
    omega
  · rw [← Int.natCast_mul]
    have := Nat.div_add_mod u (v / 4294967296)
    rw [Nat.mul_comm] at this
    omega
  · exact Plain.guess_le 4294967296 (v / 4294967296) (v % 4294967296) u (by omega) (by omega) (by omega) (by omega)
  · have := Plain.guess_ge 4294967296 (v / 4294967296) (v % 4294967296) u n (by omega) hn
    rw [e] at this
    exact this

theorem wrap_rest (u n d v r : Nat) (h : u * 4294967296 + n = v * d + r) (hr : r < 18446744073709551616) :
    IntKind.u64.wrap (IntKind.u64.wrap (IntKind.u64.wrap ((u : Int) * 4294967296) + (n : Int)) - IntKind.u64.wrap ((d : Int) * (v : Int))) = (r : Int) := by
  have e : (d : Int) * (v : Int) = ((v * d : Nat) : Int) := by rw [Int.natCast_mul, Int.mul_comm]
  rw [e]
  generalize v * d = p at *
  simp only [IntKind.wrap_u64]
  omega

theorem wrap_rest' (u n v : Nat) (hv : 0 < v) (hv2 : v < 18446744073709551616) :
    IntKind.u64.wrap (IntKind.u64.wrap (IntKind.u64.wrap ((u : Int) * 4294967296) + (n : Int)) - IntKind.u64.wrap (((u * 4294967296 + n) / v : Nat) * (v : Int))) = (((u * 4294967296 + n) % v : Nat) : Int) := by
  have m := Nat.div_add_mod (u * 4294967296 + n) v
  have l : (u * 4294967296 + n) % v < v := Nat.mod_lt _ hv
  generalize (u * 4294967296 + n) / v = d at *
  generalize (u * 4294967296 + n) % v = r at *
  exact wrap_rest u n d v r (by omega) (by omega)

theorem div64_any (hi lo y : Nat) (w : World) (h1 : hi < y) (h2 : lo < 18446744073709551616) (h3 : y < 18446744073709551616) :
    Calls Try.prog 29 #[.int .u64 (hi : Int), .int .u64 (lo : Int), .int .u64 (y : Int)] w fun e w' => e = .returned (.tuple #[.int .u64 (((hi * 18446744073709551616 + lo) / y : Nat) : Int), .int .u64 (((hi * 18446744073709551616 + lo) % y : Nat) : Int)]) ∧ Below w.heap.size w w' := by
  by_cases h0 : hi = 0
  · subst h0
    refine (div64_low lo y w (by omega) (by omega)).mono fun e w' h => ?_
    simpa using h
  · obtain ⟨s, es⟩ : ∃ s, 64 - Lib.bitLen y = s := ⟨_, rfl⟩
    obtain ⟨hs, hY1, hY2⟩ := shift_norm y s (by omega) h3 es
    obtain ⟨k1, k2, k3, k4, k5⟩ := shift_parts hi lo y s hs h1 h2 hY2
    have hp : 0 < 2 ^ s := Nat.two_pow_pos _
    have sc := Plain.scaled (hi * 18446744073709551616 + lo) y (2 ^ s) hp
    rw [k4] at sc
    generalize hY : y * 2 ^ s = Y at *
    generalize hH : hi * 2 ^ s = H at *
    generalize hL : lo * 2 ^ s % 18446744073709551616 = L at *
    generalize hT : lo / 2 ^ (64 - s) = T at *
    have hL2 : L < 18446744073709551616 := by omega
    obtain ⟨D1, G1⟩ := digit_mk (H + T) Y (L / 4294967296) hY1 hY2 k3 (by omega)
    have hu2 : ((H + T) * 4294967296 + L / 4294967296) % Y < Y := Nat.mod_lt _ (by omega)
    obtain ⟨D2, G2⟩ := digit_mk (((H + T) * 4294967296 + L / 4294967296) % Y) Y (L % 4294967296) hY1 hY2 hu2 (by omega)
    have td := Plain.two_digits 4294967296 Y (H + T) (L / 4294967296) (L % 4294967296) (by omega) (by omega)
    have eN : ((H + T) * 4294967296 + L / 4294967296) * 4294967296 + L % 4294967296 = (H + T) * 18446744073709551616 + L := by omega
    rw [eN, sc.1] at td
    refine (div64_core hi lo y s Y H L (H + T) (Y / 4294967296) (Y % 4294967296) (L / 4294967296) (L % 4294967296) _ _ _ _ _ _ _ ((hi * 18446744073709551616 + lo) / y) ((hi * 18446744073709551616 + lo) % y) w (by omega) h1 (by omega) (by omega) hs (Lib.hid es)
      ?_ ?_ ?_ ?_ ?_ ?_ ?_ ?_ (by omega) (by omega) (by omega) (by omega) (by omega) (Lib.hid D1) (Lib.hid G1) (Lib.hid D2) (Lib.hid G2) (Lib.hid ?_) (Lib.hid ?_) (Lib.hid ?_)).mono fun e w' ⟨he, hw⟩ => ⟨he, hw ▸ Below.refl _ _⟩
    · rw [← un_nat Y hY2, ← hY]; simp
    · rw [← un_nat H k1, ← hH]; simp
    · rw [IntKind.wrap_u64, ← hL]; simp
    · have : ((lo : Int) / 2 ^ (64 - s)) = (T : Int) := by rw [← hT]; simp
      rw [this, bits_or_u64_nat _ _ k1 k5, k2]
    · have := bits_and_u64_nat Y 4294967295 hY2 (by omega)
      rw [Nat.and_two_pow_sub_one_eq_mod Y 32] at this
      exact this
    · have := bits_and_u64_nat L 4294967295 hL2 (by omega)
      rw [Nat.and_two_pow_sub_one_eq_mod L 32] at this
      exact this
    · omega
    · omega
    · exact wrap_rest' (H + T) (L / 4294967296) Y (by omega) hY2
    · rw [← td.1]; simp
    · have := wrap_rest' (((H + T) * 4294967296 + L / 4294967296) % Y) (L % 4294967296) Y (by omega) hY2
      rw [this, td.2, ← sc.2]
      simp
end Go.Proofs.Ytlkjopbgobkgmaa
