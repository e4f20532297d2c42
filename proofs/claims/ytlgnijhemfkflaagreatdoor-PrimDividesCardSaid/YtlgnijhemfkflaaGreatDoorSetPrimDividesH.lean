/- Part 8. -/
import Derived.Test.YtlgnijhemfkflaaGreatDoorSetPrimDividesZero
import Derived.Test.YtlgnijhemfkflaaGreatDoorSetPrimDividesG
import Derived.Test.YtlgnijhemfkflaaGreatDoorSetPrimDividesF
import Derived.Test.YtlgnijhemfkflaaGreatDoorSetPrimDividesE
import Derived.Laws.RangeAny
import Derived.Lib.OthersKept
import Derived.WalkSpells
import Derived.Test.YtlgnijhemfkflaaGreatDoorSetPrimDividesA
import Derived.Lib.Mul64
set_option linter.unusedVariables false
set_option linter.unusedSimpArgs false

namespace Go.Proofs.YtlgnijhemfkflaaGreatDoor
open Go.RowKit
set_option linter.unusedVariables false
set_option linter.unusedSimpArgs false
theorem bitLenAux_bounds : ∀ (f x : Nat), x < 2 ^ f → x < 2 ^ Lib.bitLenAux f x ∧ (0 < x → 2 ^ Lib.bitLenAux f x ≤ 2 * x)
  | 0, x, h => by
    have : x = 0 := by simpa using h
    subst this;simp [Lib.bitLenAux]
  | f + 1, x, h => by
    by_cases h0 : x = 0
    · subst h0; simp [Lib.bitLenAux]
    · have ih := bitLenAux_bounds f (x / 2) (by rw [Nat.pow_succ] at h; omega)
      simp only [Lib.bitLenAux, h0, if_false];rw [Nat.add_comm 1, Nat.pow_succ];refine ⟨by omega, fun _ => ?_⟩
      by_cases h1 : x / 2 = 0
      · rw [h1]
        have : Lib.bitLenAux f 0 = 0 := by cases f <;> simp [Lib.bitLenAux]
        rw [this];omega
      · have := ih.2 (by omega)
        omega
theorem bitLen_bounds (x : Nat) (h : x < 18446744073709551616) (h0 : 0 < x) : x < 2 ^ Lib.bitLen x ∧ 2 ^ Lib.bitLen x ≤ 2 * x ∧ Lib.bitLen x ≤ 64 ∧ 1 ≤ Lib.bitLen x := by
  have hb := bitLenAux_bounds 64 x (by simpa using h);have hl : Lib.bitLen x ≤ 64 := Lib.bitLen_le x 64 (by omega) (by simpa using h);refine ⟨hb.1, hb.2 h0, hl, ?_⟩;have h1 := hb.1;unfold Lib.bitLen
  by_cases h2 : Lib.bitLenAux 64 x = 0
  · rw [h2] at h1; simp at h1; omega
  · omega
theorem shift_norm (y s : Nat) (hy : 0 < y) (h : y < 18446744073709551616) (es : 64 - Lib.bitLen y = s) : s ≤ 63 ∧ 9223372036854775808 ≤ y * 2 ^ s ∧ y * 2 ^ s < 18446744073709551616 := by
  obtain ⟨h1, h2, h3, h4⟩ := bitLen_bounds y h hy;generalize Lib.bitLen y = b at *;subst es;have e : 2 ^ b * 2 ^ (64 - b) = 18446744073709551616 := by rw [← Nat.pow_add, show b + (64 - b) = 64 by omega]
  have hp : 0 < 2 ^ (64 - b) := Nat.two_pow_pos _;refine ⟨by omega, ?_, ?_⟩
  · have : 2 ^ b * 2 ^ (64 - b) ≤ 2 * y * 2 ^ (64 - b) := Nat.mul_le_mul_right _ h2
    rw [Nat.mul_assoc] at this;omega
  · have : y * 2 ^ (64 - b) < 2 ^ b * 2 ^ (64 - b) := Nat.mul_lt_mul_of_pos_right h1 hp
    omega
theorem shift_parts (hi lo y s : Nat) (hs : s ≤ 63) (h1 : hi < y) (hl : lo < 18446744073709551616) (hY : y * 2 ^ s < 18446744073709551616) :
    hi * 2 ^ s < 18446744073709551616 ∧ hi * 2 ^ s ||| lo / 2 ^ (64 - s) = hi * 2 ^ s + lo / 2 ^ (64 - s) ∧ hi * 2 ^ s + lo / 2 ^ (64 - s) < y * 2 ^ s ∧
    (hi * 18446744073709551616 + lo) * 2 ^ s = (hi * 2 ^ s + lo / 2 ^ (64 - s)) * 18446744073709551616 + lo * 2 ^ s % 18446744073709551616 ∧ lo / 2 ^ (64 - s) < 18446744073709551616 := by
  have hp : 0 < 2 ^ s := Nat.two_pow_pos _;have e : 2 ^ (64 - s) * 2 ^ s = 18446744073709551616 := by rw [← Nat.pow_add, show 64 - s + s = 64 by omega]
  have hT : lo / 2 ^ (64 - s) < 2 ^ s := by
    refine Nat.div_lt_of_lt_mul ?_;omega
  have hH : hi * 2 ^ s + 2 ^ s ≤ y * 2 ^ s := by
    have : (hi + 1) * 2 ^ s ≤ y * 2 ^ s := Nat.mul_le_mul_right _ h1;rw [Nat.add_mul] at this;omega
  have ed : lo * 2 ^ s / 18446744073709551616 = lo / 2 ^ (64 - s) := by
    rw [← e]; exact Nat.mul_div_mul_right _ _ hp
  have hm := Nat.div_add_mod (lo * 2 ^ s) 18446744073709551616;rw [ed] at hm;refine ⟨by omega, ?_, by omega, ?_, by omega⟩
  · have := Nat.two_pow_add_eq_or_of_lt hT hi
    rw [Nat.mul_comm] at this;exact this.symm
  · rw [Nat.add_mul, Nat.add_mul, Nat.mul_right_comm]
    omega
theorem digit_mk (u v n : Nat) (hv : 9223372036854775808 ≤ v) (hv2 : v < 18446744073709551616) (hu : u < v) (hn : n < 4294967296) :
    DigitOf u v (v / 4294967296) (v % 4294967296) n ((u * 4294967296 + n) / v) ∧
    GuessOf u (v / 4294967296) ((u * 4294967296 + n) / v) (u / (v / 4294967296)) (u % (v / 4294967296)) := by
  have e : v / 4294967296 * 4294967296 + v % 4294967296 = v := by omega
  have h1 : 2147483648 ≤ v / 4294967296 := by omega
  refine ⟨⟨e, hu, hn, by omega, h1, by omega, rfl⟩, ⟨by rw [← Int.natCast_ediv], ?_, ?_, by omega, ?_, Nat.mod_lt _ (by omega), ?_⟩⟩
  · rw [← Int.natCast_mul]
    have := Nat.div_mul_le_self u (v / 4294967296);omega
  · rw [← Int.natCast_mul]
    have := Nat.div_add_mod u (v / 4294967296);rw [Nat.mul_comm] at this;omega
  · exact Plain.guess_le 4294967296 (v / 4294967296) (v % 4294967296) u (by omega) (by omega) (by omega) (by omega)
  · have := Plain.guess_ge 4294967296 (v / 4294967296) (v % 4294967296) u n (by omega) hn
    rw [e] at this;exact this
theorem wrap_rest (u n d v r : Nat) (h : u * 4294967296 + n = v * d + r) (hr : r < 18446744073709551616) :
    IntKind.u64.wrap (IntKind.u64.wrap (IntKind.u64.wrap ((u : Int) * 4294967296) + (n : Int)) - IntKind.u64.wrap ((d : Int) * (v : Int))) = (r : Int) := by
  have e : (d : Int) * (v : Int) = ((v * d : Nat) : Int) := by rw [Int.natCast_mul, Int.mul_comm]
  rw [e];generalize v * d = p at *;simp only [IntKind.wrap_u64];omega
theorem wrap_rest' (u n v : Nat) (hv : 0 < v) (hv2 : v < 18446744073709551616) :
    IntKind.u64.wrap (IntKind.u64.wrap (IntKind.u64.wrap ((u : Int) * 4294967296) + (n : Int)) - IntKind.u64.wrap (((u * 4294967296 + n) / v : Nat) * (v : Int))) = (((u * 4294967296 + n) % v : Nat) : Int) := by
  have m := Nat.div_add_mod (u * 4294967296 + n) v;have l : (u * 4294967296 + n) % v < v := Nat.mod_lt _ hv;generalize (u * 4294967296 + n) / v = d at *;generalize (u * 4294967296 + n) % v = r at *;exact wrap_rest u n d v r (by omega) (by omega)
theorem div64_any (hi lo y : Nat) (w : World) (h1 : hi < y) (h2 : lo < 18446744073709551616) (h3 : y < 18446744073709551616) :
    Calls Tryz.prog 269 #[.int .u64 (hi : Int), .int .u64 (lo : Int), .int .u64 (y : Int)] w fun e w' => e = .returned (.tuple #[.int .u64 (((hi * 18446744073709551616 + lo) / y : Nat) : Int), .int .u64 (((hi * 18446744073709551616 + lo) % y : Nat) : Int)]) ∧ Below w.heap.size w w' := by
  by_cases h0 : hi = 0
  · subst h0
    refine (div64_low lo y w (by omega) (by omega)).mono fun e w' h => ?_
    simpa using h
  · obtain ⟨s, es⟩ : ∃ s, 64 - Lib.bitLen y = s := ⟨_, rfl⟩
    obtain ⟨hs, hY1, hY2⟩ := shift_norm y s (by omega) h3 es;obtain ⟨k1, k2, k3, k4, k5⟩ := shift_parts hi lo y s hs h1 h2 hY2;have hp : 0 < 2 ^ s := Nat.two_pow_pos _;have sc := Plain.scaled (hi * 18446744073709551616 + lo) y (2 ^ s) hp;rw [k4] at sc;generalize hY : y * 2 ^ s = Y at *;generalize hH : hi * 2 ^ s = H at *;generalize hL : lo * 2 ^ s % 18446744073709551616 = L at *;generalize hT : lo / 2 ^ (64 - s) = T at *;have hL2 : L < 18446744073709551616 := by omega
    obtain ⟨D1, G1⟩ := digit_mk (H + T) Y (L / 4294967296) hY1 hY2 k3 (by omega);have hu2 : ((H + T) * 4294967296 + L / 4294967296) % Y < Y := Nat.mod_lt _ (by omega);obtain ⟨D2, G2⟩ := digit_mk (((H + T) * 4294967296 + L / 4294967296) % Y) Y (L % 4294967296) hY1 hY2 hu2 (by omega);have td := Plain.two_digits 4294967296 Y (H + T) (L / 4294967296) (L % 4294967296) (by omega) (by omega);have eN : ((H + T) * 4294967296 + L / 4294967296) * 4294967296 + L % 4294967296 = (H + T) * 18446744073709551616 + L := by omega
    rw [eN, sc.1] at td
    refine (div64_core hi lo y s Y H L (H + T) (Y / 4294967296) (Y % 4294967296) (L / 4294967296) (L % 4294967296) _ _ _ _ _ _ _ ((hi * 18446744073709551616 + lo) / y) ((hi * 18446744073709551616 + lo) % y) w (by omega) h1 (by omega) (by omega) hs (Lib.hid es)
      ?_ ?_ ?_ ?_ ?_ ?_ ?_ ?_ (by omega) (by omega) (by omega) (by omega) (by omega) (Lib.hid D1) (Lib.hid G1) (Lib.hid D2) (Lib.hid G2) (Lib.hid ?_) (Lib.hid ?_) (Lib.hid ?_)).mono fun e w' ⟨he, hw⟩ => ⟨he, hw ▸ Below.refl _ _⟩
    · rw [← un_nat Y hY2, ← hY]; simp
    · rw [← un_nat H k1, ← hH]; simp
    · rw [IntKind.wrap_u64, ← hL]; simp
    · have : ((lo : Int) / 2 ^ (64 - s)) = (T : Int) := by rw [← hT]; simp
      rw [this, bits_or_u64_nat _ _ k1 k5, k2]
    · have := bits_and_u64_nat Y 4294967295 hY2 (by omega)
      rw [Nat.and_two_pow_sub_one_eq_mod Y 32] at this;exact this
    · have := bits_and_u64_nat L 4294967295 hL2 (by omega)
      rw [Nat.and_two_pow_sub_one_eq_mod L 32] at this;exact this
    · omega
    · omega
    · exact wrap_rest' (H + T) (L / 4294967296) Y (by omega) hY2
    · rw [← td.1]; simp
    · have := wrap_rest' (((H + T) * 4294967296 + L / 4294967296) % Y) (L % 4294967296) Y (by omega) hY2
      rw [this, td.2, ← sc.2];simp
end Go.Proofs.YtlgnijhemfkflaaGreatDoor

namespace Go.Proofs.YtlgnijhemfkflaaGreatDoor
open Go.RowKit
set_option linter.unusedVariables false
set_option linter.unusedSimpArgs false
set_option maxHeartbeats 400000 in
theorem divide_zero (lo hi : Int) (w : World) :
    Calls Tryz.prog 210 #[.int .u64 lo, .int .u64 hi, .int .u64 0] w fun e w' => e = .returned (.tuple #[.int .u64 0, .int .u64 0, .int .i64 (-10)]) ∧ Below w.heap.size w w' := by
  go_enter Tryz.func210, Tryz.ntmps210;go_wp2
  go_ret3
  exact ⟨rfl, Below.refl _ _⟩
set_option maxHeartbeats 400000 in
theorem divide_range (lo hi d : Nat) (w : World) (h : d ≤ hi) (hd : 0 < d) :
    Calls Tryz.prog 210 #[.int .u64 (lo : Int), .int .u64 (hi : Int), .int .u64 (d : Int)] w fun e w' => e = .returned (.tuple #[.int .u64 0, .int .u64 0, .int .i64 (-11)]) ∧ Below w.heap.size w w' := by
  have h0 : ((d : Int) == 0) = false := by simp; omega
  have h1 : (d : Int) ≤ (hi : Int) := by omega
  go_enter Tryz.func210, Tryz.ntmps210;go_wp2
  go_ret3
  exact ⟨rfl, Below.refl _ _⟩
set_option maxHeartbeats 400000 in
theorem divide_ok (lo hi d Q R : Nat) (w : World) (h : hi < d) (hl : lo < 18446744073709551616) (hd : d < 18446744073709551616) (hQ : Hid ((hi * 18446744073709551616 + lo) / d = Q)) (hR : Hid ((hi * 18446744073709551616 + lo) % d = R)) :
    Calls Tryz.prog 210 #[.int .u64 (lo : Int), .int .u64 (hi : Int), .int .u64 (d : Int)] w fun e w' => e = .returned (.tuple #[.int .u64 (Q : Int), .int .u64 (R : Int), .int .i64 0]) ∧ Below w.heap.size w w' := by
  have h0 : ((d : Int) == 0) = false := by simp; omega
  have h1 : ¬ (d : Int) ≤ (hi : Int) := by omega
  have HC := div64_any hi lo d w h hl hd;rw [hQ.out, hR.out] at HC;clear hl hd;go_enter Tryz.func210, Tryz.ntmps210;(go_wp2_with (go_at_call 269; refine HC.mono ?_; rintro e w1 ⟨rfl, hb⟩))
  go_ret3
  exact ⟨rfl, hb⟩
theorem uok_true {hi d : Int} (h : uok hi d = true) : un hi < un d := by simpa [uok] using h
theorem uok_false {hi d : Int} (h : uok hi d = false) : un d ≤ un hi := by simpa [uok] using h
set_option maxHeartbeats 400000 in
theorem udiv_any (lo hi d : Int) (w : World) (hd : cellR d) :
    Calls Tryz.prog 92 #[.int .i64 lo, .int .i64 hi, .int .i64 d] w fun e w' => e = .returned (.tuple #[.int .i64 (uq lo hi d), .int .i64 (ur lo hi d), .int .i64 (uc hi d)]) ∧ Below w.heap.size w w' := by
  have e1 := un_cast lo;have e2 := un_cast hi;have e3 := un_cast d;have b1 := Lib.hid (un_lt lo);have b3 := Lib.hid (un_lt d)
  by_cases h0 : d = 0
  · have e4 : un d = 0 := (un_zero hd).2 h0
    have hk : uok hi d = false := by simp [uok, e4]
    clear hd;have e5 : IntKind.u64.wrap d = 0 := by rw [e3, e4]; rfl
    subst h0;have H := Lib.hid hk;clear e3 e4 hk;go_enter Tryz.func92, Tryz.ntmps92;(go_wp2_with (go_at_call 210; refine (divide_zero _ _ _).mono ?_; rintro e w1 ⟨rfl, hb⟩))
    go_ret3
    exact ⟨ret_three (by simp [uq, H.out]) (by simp [ur, H.out]) (by simp [uc]), hb⟩
  · have h4 : un d ≠ 0 := fun h => h0 ((un_zero hd).1 h)
    clear hd;cases hk : uok hi d
    · have h5 := uok_false hk
      have H := Lib.hid hk;clear hk;go_enter Tryz.func92, Tryz.ntmps92;(go_wp2_with (go_at_call 210; refine (divide_range _ _ _ _ (by omega) (by omega)).mono ?_; rintro e w1 ⟨rfl, hb⟩))
      go_ret3
      exact ⟨ret_three (by simp [uq, H.out]) (by simp [ur, H.out]) (by simp [uc, h0, H.out]), hb⟩
    · have h5 := uok_true hk
      have H := Lib.hid hk;clear hk;obtain ⟨Q, hQ⟩ : ∃ Q : Nat, Hid ((un hi * 18446744073709551616 + un lo) / un d = Q) := ⟨_, Lib.hid rfl⟩;obtain ⟨R, hR⟩ : ∃ R : Nat, Hid ((un hi * 18446744073709551616 + un lo) % un d = R) := ⟨_, Lib.hid rfl⟩;go_enter Tryz.func92, Tryz.ntmps92;(go_wp2_with (go_at_call 210; refine (divide_ok _ _ _ Q R _ h5 b1.out b3.out hQ hR).mono ?_; rintro e w1 ⟨rfl, hb⟩))
      go_ret3
      exact ⟨ret_three (by rw [uq, if_pos H.out, hQ.out]) (by rw [ur, if_pos H.out, hR.out]) (by rw [uc, if_neg h0, if_pos H.out]), hb⟩
theorem pair_abs (lo hi : Int) : (pr lo hi).natAbs / 18446744073709551616 * 18446744073709551616 + (pr lo hi).natAbs % 18446744073709551616 = (pr lo hi).natAbs := by omega
theorem sok_of (lo hi d : Int) (hd : d ≠ 0) :
    (((pr lo hi).natAbs / 18446744073709551616 ≥ d.natAbs → sok lo hi d = false)) ∧
    ((decide (hi < 0) != decide (d < 0)) = true → (pr lo hi).natAbs / d.natAbs ≤ 9223372036854775808 → sok lo hi d = true ∧ (pr lo hi).tdiv d = -(((pr lo hi).natAbs / d.natAbs : Nat) : Int)) ∧
    ((decide (hi < 0) != decide (d < 0)) = true → 9223372036854775808 < (pr lo hi).natAbs / d.natAbs → sok lo hi d = false) ∧
    ((decide (hi < 0) != decide (d < 0)) = false → (pr lo hi).natAbs / d.natAbs ≤ 9223372036854775807 → sok lo hi d = true ∧ (pr lo hi).tdiv d = (((pr lo hi).natAbs / d.natAbs : Nat) : Int)) ∧
    ((decide (hi < 0) != decide (d < 0)) = false → 9223372036854775807 < (pr lo hi).natAbs / d.natAbs → sok lo hi d = false) := by
  have hs : decide (pr lo hi < 0) = decide (hi < 0) := by
    by_cases h : hi < 0
    · simp [h, pr_neg lo hi h]
    · have := pr_nonneg lo hi (by omega)
      simp [h]; omega
  have e := tdiv_sign (pr lo hi) d;rw [hs] at e;unfold sok;have hd' : (d != 0) = true := by simp [hd]
  rw [hd', e];have hD : 0 < d.natAbs := by omega
  have hbig : (pr lo hi).natAbs / 18446744073709551616 ≥ d.natAbs → 18446744073709551616 ≤ (pr lo hi).natAbs / d.natAbs := by
    intro h;rw [Nat.le_div_iff_mul_le hD];rw [ge_iff_le, Nat.le_div_iff_mul_le (by omega)] at h;omega
  generalize (pr lo hi).natAbs / d.natAbs = q at *;generalize (decide (hi < 0) != decide (d < 0)) = c at *;refine ⟨fun h => ?_, fun h h1 => ?_, fun h h1 => ?_, fun h h1 => ?_, fun h h1 => ?_⟩
  · have := hbig h
    cases c <;> simp <;> omega
  all_goals (subst h; simp; try omega)
end Go.Proofs.YtlgnijhemfkflaaGreatDoor

namespace Go.Proofs.YtlgnijhemfkflaaGreatDoor
open Go.RowKit
set_option linter.unusedVariables false
set_option linter.unusedSimpArgs false
theorem conv_row {w : World} {v : Value} {l : List UInt8} (h : Byt w v l) (hne : l ≠ []) : (convert 24 9 v).run Tryz.prog w = .ok (.string (strB l)) w := by
  obtain ⟨A, c, rfl, _, _, hli⟩ := h
  rcases hli with h | ⟨g, o, rfl, _, hc⟩
  · have := congrArg List.length h
    rw [u8s_len] at this;exact absurd (List.eq_nil_of_length_eq_zero this) hne
  · refine run_convert_bytes_back w 24 9 5 ⟨g, o, none⟩ c l Tryz.underlying24 Tryz.underlying5 Tryz.underlying9 fun j hj => ?_
    have := hc j (encB l[j]) (by unfold u8s; rw [List.getElem?_map, List.getElem?_eq_getElem hj]; rfl);rw [← this, add_at]
theorem BOwns.keep {w w' : World} {base n : Nat} {v : Value} {l : List UInt8} (h : BOwns w base v n l) (b : Below w.heap.size w w') : BOwns w' base v n l := by
  refine ⟨h.1, ?_⟩
  rcases h.2 with h2 | ⟨g, cap, cur, e, hb, hg, h3, h4, h5, h6⟩
  · exact .inl h2
  · exact .inr ⟨g, cap, cur, e, hb, (b.block g (Array.getElem?_eq_some_iff.1 hg).1).trans hg, h3, h4, h5, h6⟩
def measU (a b : Value) : Nat := match b with | .bool true => un (intOf a) + 1 | _ => 0
theorem udiv_facts (N : Int) (u k : Nat) (hu : un N = u) (h2 : 2 ≤ k) (h36 : k ≤ 36) : uq N 0 (k : Int) = ((u / k : Nat) : Int) ∧ ur N 0 (k : Int) = ((u % k : Nat) : Int) ∧ uc 0 (k : Int) = 0 := by
  have e0 : un 0 = 0 := by decide +kernel
  have ek : un (k : Int) = k := by have := un_mod (k : Int); omega
  have hlt := un_lt N;have ok : uok 0 (k : Int) = true := by unfold uok; rw [e0, ek]; simp; omega
  have hq : u / k < 9223372036854775808 := by
    rw [Nat.div_lt_iff_lt_mul (by omega)];omega
  have hr : u % k < k := Nat.mod_lt _ (by omega);refine ⟨?_, ?_, ?_⟩
  · unfold uq
    rw [if_pos ok, e0, ek, hu, Nat.zero_mul, Nat.zero_add];generalize u / k = q at hq ⊢;exact w64_id (by omega) (by omega)
  · unfold ur
    rw [if_pos ok, e0, ek, hu, Nat.zero_mul, Nat.zero_add];generalize u % k = r at hr ⊢;exact w64_id (by omega) (by omega)
  · unfold uc
    rw [if_neg (by omega), if_pos ok]
def Half (k u0 u : Nat) (m : Bool) (l : List UInt8) : Prop := (m = true → usF k u0 = usF k u ++ l.reverse) ∧ (m = false → usF k u0 = l.reverse)
theorem Half.big {k u0 u : Nat} {l : List UInt8} (h : Half k u0 u true l) (h2 : 2 ≤ k) (hu : k ≤ u) : Half k u0 (u / k) true (l ++ [UInt8.ofNat (digN (u % k))]) := by
  refine ⟨fun _ => ?_, fun h => (by cases h)⟩;rw [h.1 rfl, usF_big h2 hu];simp
theorem Half.low {k u0 u : Nat} {l : List UInt8} (h : Half k u0 u true l) (h2 : 2 ≤ k) (hu : u < k) : Half k u0 (u / k) false (l ++ [UInt8.ofNat (digN (u % k))]) := by
  refine ⟨fun h => (by cases h), fun _ => ?_⟩;rw [h.1 rfl, usF_low hu, Nat.mod_eq_of_lt hu];simp
theorem Half.len {k u0 u : Nat} {m : Bool} {l : List UInt8} (h : Half k u0 u m l) (h2 : 2 ≤ k) (h0 : u0 < 18446744073709551616) : l.length ≤ 64 := by
  have hl := us_le h2 63 u0 (by omega);cases m with
  | true => rw [h.1 rfl, List.length_append, List.length_reverse] at hl; omega
  | false => rw [h.2 rfl, List.length_reverse] at hl; omega
theorem byt_one (w : World) (x : UInt8) : Byt (w.alloc (.cells #[.int .u8 (x.toNat : Int)] 5)) (.slice (some ⟨w.heap.size, 0, none⟩) 1 1) [x] := byt_block (l := [x]) (one_newN w _ _) (by simp)
theorem bown_app {w : World} {base : Nat} {v : Value} {l : List UInt8} {x : UInt8} (h : BOwns w base v (l.length + 1) (l ++ [x])) : BOwns w base v (l ++ [x]).length (l ++ [x]) := by
  have e : (l ++ [x]).length = l.length + 1 := by simp
  rw [e]; exact h
set_option maxRecDepth 100000 in
set_option maxHeartbeats 4000000 in
theorem ushow_any (n b : Int) (w : World) (h0 : -9223372036854775808 ≤ n) (h1 : n ≤ 9223372036854775807) :
    Calls Tryz.prog 140 #[.int .i64 n, .int .i64 b] w fun e w' => e = .returned (.tuple #[.string (strB (ushowF n b)), .int .i64 (showC b)]) ∧ Below w.heap.size w w' := by
  cases hb : baseB b with
  | false =>
    have H1 : Hid (strB (ushowF n b) = ⟨#[]⟩) := by show _ = _; unfold ushowF; rw [if_neg (by simp [hb])]; rfl
    have H2 : Hid (showC b = -24) := by show _ = _; unfold showC; rw [if_neg (by simp [hb])]
    rw [H1.out, H2.out];go_enter Tryz.func140, Tryz.ntmps140;(go_wp2_with fail);refine (isbase_any b _).mono ?_;rw [hb];rintro e w1 ⟨rfl, rfl⟩;go_wp2;go_ret2;exact ⟨rfl, Below.refl _ _⟩
  | true =>
    obtain ⟨b2, b36⟩ := (baseB_iff b).1 hb;obtain ⟨k, rfl⟩ := Int.eq_ofNat_of_zero_le (by omega : 0 ≤ b);have H1 : Hid (ushowF n (k : Int) = usF k (un n)) := by show _ = _; unfold ushowF; rw [if_pos hb, Int.toNat_natCast]
    have H2 : Hid (showC (k : Int) = 0) := by show _ = _; unfold showC; rw [if_pos hb]
    rw [H1.out, H2.out];have hul := un_lt n;obtain ⟨u0, hu0⟩ : ∃ u0, un n = u0 := ⟨_, rfl⟩;rw [hu0] at hul ⊢;have HU := Lib.hid hu0;have HUL := Lib.hid hul;have HK2 : Hid (2 ≤ k ∧ k ≤ 36) := by show _ ∧ _; omega
    clear H1 H2 hu0 hul b2 b36 h0 h1;go_enter Tryz.func140, Tryz.ntmps140;(go_wp2_with fail);refine (isbase_any _ _).mono ?_;rw [hb];rintro e w1 ⟨rfl, rfl⟩;clear hb;(go_wp2_with fail)
    go_loopw [0, 6, 7] (fun s0 s6 s7 wr => ∃ (N : Int) (u : Nat) (v : Value) (m : Bool) (l : List UInt8), s0 = .int .i64 N ∧ v = s6 ∧ s7 = .bool m ∧ Hid (un N = u) ∧ Hid (BOwns wr w.heap.size v l.length l) ∧ Hid (Below w.heap.size w wr) ∧ Hid (Half k u0 u m l)) (fun s0 _ s7 _ => measU s0 s7)
    case atStart => exact ⟨n, u0, _, true, [], rfl, rfl, rfl, HU, Lib.hid (bowns_none _ _), Lib.hid (Below.refl _ _), Lib.hid ⟨fun _ => by simp, fun h => by cases h⟩⟩
    case round =>
      obtain ⟨N, u, v, m, l, rfl, hv0, rfl, HN, HO, HB, HH⟩ := hrel;subst hv0;cases m with
      | true =>
        have hkk := HK2.out;have hF := udiv_facts N u k HN.out HK2.out.1 HK2.out.2;have HD : Hid (∀ w, Calls Tryz.prog 92 #[.int .i64 N, .int .i64 0, .int .i64 (k : Int)] w fun e w' => e = .returned (.tuple #[.int .i64 ((u / k : Nat) : Int), .int .i64 ((u % k : Nat) : Int), .int .i64 0]) ∧ Below w.heap.size w w') := by
          show ∀ _, _;intro w;have := udiv_any N 0 (k : Int) w (by unfold cellR; omega);rw [hF.1, hF.2.1, hF.2.2] at this;exact this
        have hll := HH.out.len HK2.out.1 HUL.out;have HQ : Hid ((u / k = 0 ↔ u < k) ∧ u / k < 9223372036854775808 ∧ (k ≤ u → u / k < u)) := by
          have := un_lt N;have hn := HN.out;refine ⟨Nat.div_eq_zero_iff_lt (by omega), ?_, fun h => Nat.div_lt_self (by omega) (by omega)⟩;rw [Nat.div_lt_iff_lt_mul (by omega)];omega
        have HX : Hid (digF ((u % k : Nat) : Int) = ((UInt8.ofNat (digN (u % k))).toNat : Int)) := dig_u8 _;obtain ⟨q, hq⟩ : ∃ q, u / k = q := ⟨_, rfl⟩;obtain ⟨r, hr⟩ : ∃ r, u % k = r := ⟨_, rfl⟩;obtain ⟨x, hx⟩ : ∃ x, UInt8.ofNat (digN r) = x := ⟨_, rfl⟩;have HBIG : Hid (k ≤ u → Half k u0 q true (l ++ [x])) := fun h => by have := HH.out.big HK2.out.1 h; rw [hq, hr, hx] at this; exact this
        have HLOW : Hid (u < k → Half k u0 q false (l ++ [x])) := fun h => by have := HH.out.low HK2.out.1 h; rw [hq, hr, hx] at this; exact this
        rw [hq, hr] at HD;rw [hr, hx] at HX;rw [hq] at HQ;have HUQ : Hid (un (q : Int) = q) := by show _ = _; have := un_mod (q : Int); have := HQ.out.2.1; omega
        have HLL := Lib.hid hll;clear hF hq hr hx hll hkk
        by_cases h : q = 0
        · have hH := HLOW.out (HQ.out.1.1 h)
          have HH2 := Lib.hid hH;have hm : measU (.int .i64 N) (.bool true) = u + 1 := by unfold measU intOf; rw [HN.out]
          have HM := Lib.hid hm;subst h;clear HBIG HLOW HQ hH hm HH;(go_wp2_with fail);refine (HD.out _).mono ?_;rintro e w2 ⟨rfl, bb⟩;have B2 := Lib.hid (below_then HB.out bb);have O2 := Lib.hid (HO.out.keep bb);clear bb;(go_wp2_with fail);refine (digit_any _ _).mono ?_;rw [HX.out];rintro e w3 ⟨rfl, bb⟩;have B3 := Lib.hid (below_then B2.out bb);have O3 := Lib.hid (O2.out.keep bb);clear bb;(go_wp2_with ((at_builtin; (refine wpList_bapp rfl _ _ rfl w.heap.size v l.length l rfl (O3.out.alloc _) (some ⟨w3.heap.size, 0, none⟩) 1 1 [x] rfl (byt_one w3 x) (by have := HLL.out; omega) (by have := B3.out.size; simp; omega) w (alloc_then B3.out) (Nat.le_refl _) ?_; intro v2 w4 ho hb2 hgr; have O4 := Lib.hid (bown_app ho); have B4 := Lib.hid hb2; clear ho hb2 hgr))))
          go_roundw
          case rel => exact ⟨0, 0, v2, false, l ++ [x], rfl, rfl, rfl, HUQ, O4, B4, HH2⟩
          case measure => rw [HM.out]; simp [measU]
        · have hku : k ≤ u := by have := HQ.out.1; omega
          have HH2 := Lib.hid (HBIG.out hku);have HLT := Lib.hid (HQ.out.2.2 hku);have HM : Hid (measU (.int .i64 N) (.bool true) = u + 1) := by show _ = _; unfold measU intOf; rw [HN.out]
          have hq0 : ((q : Int) == 0) = false := by simp; omega
          have hq1 : ((q : Int) != 0) = true := by rw [bne, hq0]; rfl
          have hq2 : ¬ (q : Int) = 0 := by omega
          clear HBIG HLOW HQ hku HH;(go_wp2_with fail);refine (HD.out _).mono ?_;rintro e w2 ⟨rfl, bb⟩;have B2 := Lib.hid (below_then HB.out bb);have O2 := Lib.hid (HO.out.keep bb);clear bb;(go_wp2_with fail);refine (digit_any _ _).mono ?_;rw [HX.out];rintro e w3 ⟨rfl, bb⟩;have B3 := Lib.hid (below_then B2.out bb);have O3 := Lib.hid (O2.out.keep bb);clear bb;(go_wp2_with ((at_builtin; (refine wpList_bapp rfl _ _ rfl w.heap.size v l.length l rfl (O3.out.alloc _) (some ⟨w3.heap.size, 0, none⟩) 1 1 [x] rfl (byt_one w3 x) (by have := HLL.out; omega) (by have := B3.out.size; simp; omega) w (alloc_then B3.out) (Nat.le_refl _) ?_; intro v2 w4 ho hb2 hgr; have O4 := Lib.hid (bown_app ho); have B4 := Lib.hid hb2; clear ho hb2 hgr))))
          go_roundw
          case rel => exact ⟨(q : Int), q, v2, true, l ++ [x], rfl, rfl, rfl, HUQ, O4, B4, HH2⟩
          case measure => rw [HM.out]; have := HLT.out; simp [measU, intOf, HUQ.out]; omega
      | false =>
        have he := HH.out.2 rfl;have hne : l ≠ [] := by
          intro e;rw [e] at he;exact us_ne he
        have HLL := Lib.hid (HH.out.len HK2.out.1 HUL.out);have HE := Lib.hid he;have hrn : l.reverse ≠ [] := by simpa using hne
        clear HH he;have HR := Lib.hid (rev_own wr w.heap.size l.length v l HO.out hne (by have := HLL.out; omega));(go_wp2_with fail);refine (HR.out).mono ?_;rintro e w2 ⟨rfl, hby, hbb⟩;have B2 := Lib.hid (hbb w HB.out (Nat.le_refl _));have cv := conv_row hby hrn;clear hbb hby hrn hne;(go_wp2_with fail);go_ret2;exact ⟨by rw [HE.out]; rfl, B2.out⟩
set_option maxRecDepth 100000 in
set_option maxHeartbeats 4000000 in
theorem show_any (n b : Int) (w : World) (h0 : -9223372036854775808 ≤ n) (h1 : n ≤ 9223372036854775807) :
    Calls Tryz.prog 139 #[.int .i64 n, .int .i64 b] w fun e w' => e = .returned (.tuple #[.string (strB (showF n b)), .int .i64 (showC b)]) ∧ Below w.heap.size w w' := by
  by_cases hn : 0 ≤ n
  · have H : Hid (ushowF n b = showF n b) := by
      show _ = _;unfold ushowF showF;have e : un n = n.toNat := by have := un_mod n; omega
      rw [if_pos hn, e]
    have HU := Lib.hid (ushow_any n b w h0 h1);clear h0 h1;go_enter Tryz.func139, Tryz.ntmps139;(go_wp2_with fail);refine (HU.out).mono ?_;rw [H.out];rintro e w1 ⟨rfl, hb⟩;go_wp2;go_ret2;exact ⟨rfl, hb⟩
  · have hn' : decide (0 ≤ n) = false := by simp; omega
    have HU := Lib.hid (ushow_any (wrap64 (-n)) b w (by unfold wrap64; omega) (by unfold wrap64; omega));cases hb : baseB b with
    | false =>
      have H : Hid (ushowF (wrap64 (-n)) b = [] ∧ showF n b = []) := by
        constructor
        · unfold ushowF; rw [if_neg (by simp [hb])]
        · unfold showF; rw [if_neg (by simp [hb])]
      have HC : Hid (showC b = -24) := by show _ = _; unfold showC; rw [if_neg (by simp [hb])]
      have HE : Hid (strB [] = ⟨#[]⟩) := rfl;rw [H.out.2, HC.out, HE.out];clear hn hb h0 h1;go_enter Tryz.func139, Tryz.ntmps139;(go_wp2_with fail);refine (HU.out).mono ?_;rw [HC.out];rintro e w1 ⟨rfl, hb⟩;go_wp2;go_ret2;exact ⟨rfl, hb⟩
    | true =>
      have H : Hid (showF n b = 45 :: ushowF (wrap64 (-n)) b) := by
        show _ = _;unfold ushowF showF;have e : un (wrap64 (-n)) = (-n).toNat := by have := un_mod (wrap64 (-n)); unfold wrap64 at this ⊢; omega
        rw [if_pos hb, if_pos hb, if_neg hn, e]
      have HC : Hid (showC b = 0) := by show _ = _; unfold showC; rw [if_pos hb]
      obtain ⟨l, hl⟩ : ∃ l, ushowF (wrap64 (-n)) b = l := ⟨_, rfl⟩;rw [hl] at H;have HL := Lib.hid hl;have hap : (⟨#[45]⟩ : ByteArray) ++ strB l = strB (45 :: l) := strB_app [45] l;have hll : l.length ≤ 64 := by rw [← hl]; exact ushow_len _ _
      have hsz : (strB l).size ≤ 64 := hll;have hcat : ¬ (9223372036854775807 < 1 + (strB l).size) := by omega
      rw [H.out, HC.out];clear hn hb hl H h0 h1;go_enter Tryz.func139, Tryz.ntmps139;(go_wp2_with fail);refine (HU.out).mono ?_;rw [HC.out, HL.out];rintro e w1 ⟨rfl, hb⟩;go_wp2;go_ret2;exact ⟨rfl, hb⟩
end Go.Proofs.YtlgnijhemfkflaaGreatDoor

namespace Go.Proofs.YtlgnijhemfkflaaGreatDoor
open Go.RowKit
set_option linter.unusedVariables false
set_option linter.unusedSimpArgs false
structure DInv (lo hi d j q r : Nat) : Prop where
  le : j ≤ 64
  eq : hi * 2 ^ (64 - j) + lo / 2 ^ j = d * q + r
  r_lt : r < d
  q_lt : q < 2 ^ (64 - j)
theorem DInv.first (lo hi d : Nat) (hl : lo < 18446744073709551616) (h : hi < d) : DInv lo hi d 64 0 hi := by
  refine ⟨by omega, ?_, h, by simp⟩;have : lo / 2 ^ 64 = 0 := Nat.div_eq_of_lt (by simpa using hl);rw [this];simp
theorem DInv.last {lo hi d q r : Nat} (I : DInv lo hi d 0 q r) : (hi * 18446744073709551616 + lo) / d = q ∧ (hi * 18446744073709551616 + lo) % d = r := by
  have h2 := I.eq;have h3 := I.r_lt;simp only [Nat.sub_zero, Nat.pow_zero, Nat.div_one, Nat.reducePow] at h2;rw [h2];exact ⟨by rw [Nat.mul_add_div (by omega), Nat.div_eq_of_lt h3, Nat.add_zero], by rw [Nat.mul_add_mod, Nat.mod_eq_of_lt h3]⟩
end Go.Proofs.YtlgnijhemfkflaaGreatDoor
