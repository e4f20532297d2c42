/- The walk of NumTells. -/
import Derived.Test.YtlkjopbgobkgmaaNumIn
namespace Go.Proofs.Ytlkjopbgobkgmaa
open Go.RowKit
set_option linter.unusedVariables false
set_option linter.unusedSimpArgs false

theorem showC_rng (b : Int) : -24 ≤ showC b ∧ showC b ≤ 0 := by unfold showC; split <;> omega
set_option maxRecDepth 100000 in
set_option maxHeartbeats 8000000 in
theorem tells_walk6 (n b : Int) (c : Nat) (l : List UInt8) (w : World) (h0 : -9223372036854775808 ≤ n) (h1 : n ≤ 9223372036854775807) (hc : c < 256) (hl : l.length ≤ 9223372036854775807) :
    Calls Try.prog 3 #[.agg #[.int .i64 n, .int .i64 b, .int .u8 (c : Int), .string (strB l)]] w fun e w' => e = .returned (.bool true) ∧ Below w.heap.size w w' := by
  have hsz : (strB l).size = l.length := rfl
  by_cases h100 : 100 < l.length
  · skip
    have h100' : (100 : Int) < (l.length : Int) := by omega
    go_enter Try.func3, Try.ntmps3
    go_wp2_with fail
    refine (shown_any6 _).mono ?_
    rintro e w1 ⟨rfl, bb⟩
    have B1 := Lib.hid (al_then bb)
    clear bb
    go_wp2_with fail
    go_ret
    exact ⟨rfl, B1.out⟩
  · skip
    have h100' : decide ((100 : Int) < (l.length : Int)) = false := by simp; omega
    have hl2 : l.length ≤ 1000000 := by omega
    obtain ⟨r1, r2⟩ := showC_rng b
    obtain ⟨S, hS⟩ : ∃ x, strB (showF n b) = x := ⟨_, rfl⟩
    have HS := Lib.hid hS
    obtain ⟨C, hC⟩ : ∃ x, showC b = x := ⟨_, rfl⟩
    have HC := Lib.hid hC
    obtain ⟨U, hU⟩ : ∃ x, strB (ushowF n b) = x := ⟨_, rfl⟩
    have HU := Lib.hid hU
    obtain ⟨K, hK⟩ : ∃ x, parN l b = x := ⟨_, rfl⟩
    have HK := Lib.hid hK
    obtain ⟨Q, hQ⟩ : ∃ x, parB l b = x := ⟨_, rfl⟩
    have HQ := Lib.hid hQ
    obtain ⟨V, hV⟩ : ∃ x, worthF c b = x := ⟨_, rfl⟩
    have HV := Lib.hid hV
    obtain ⟨Z, hZ⟩ : ∃ x, isW c b = x := ⟨_, rfl⟩
    have HZ := Lib.hid hZ
    obtain ⟨G, hG⟩ : ∃ x, digF n = x := ⟨_, rfl⟩
    have HG := Lib.hid hG
    rw [hC] at r1 r2
    clear hS hC hU hK hQ hV hZ hG h100
    go_enter Try.func3, Try.ntmps3
    go_wp2_with fail
    refine (shown_any6 _).mono ?_
    rintro e w1 ⟨rfl, bb⟩
    have B1 := Lib.hid (al_then bb)
    clear bb
    go_wp2_with fail
    refine (show_any n b _ h0 h1).mono ?_
    rw [HS.out, HC.out]
    rintro e w2 ⟨rfl, bb⟩
    have B2 := Lib.hid (below_then B1.out bb)
    clear bb B1
    go_wp2_with fail
    refine (rshow_any n b _ h0 h1).mono ?_
    rw [HS.out, HC.out]
    rintro e w3 ⟨rfl, bb⟩
    have B3 := Lib.hid (below_then B2.out bb)
    clear bb B2
    go_wp2_with fail
    refine (ushow_any n b _ h0 h1).mono ?_
    rw [HU.out, HC.out]
    rintro e w4 ⟨rfl, bb⟩
    have B4 := Lib.hid (below_then B3.out bb)
    clear bb B3
    go_wp2_with fail
    refine (rushow_any n b _).mono ?_
    rw [HU.out, HC.out]
    rintro e w5 ⟨rfl, bb⟩
    have B5 := Lib.hid (below_then B4.out bb)
    clear bb B4
    go_wp2_with fail
    refine (parse_any l b _ hl2).mono ?_
    rw [HK.out, HQ.out]
    rintro e w6 ⟨rfl, bb⟩
    have B6 := Lib.hid (below_then B5.out bb)
    clear bb B5
    go_wp2_with fail
    refine (rparse_b l b _ hl2).mono ?_
    rw [HK.out, HQ.out]
    rintro e w7 ⟨rfl, bb⟩
    have B7 := Lib.hid (below_then B6.out bb)
    clear bb B6
    go_wp2_with fail
    refine (worth_any c b _ hc).mono ?_
    rw [HV.out, HZ.out]
    rintro e w8 ⟨rfl, bb⟩
    have B8 := Lib.hid (below_then B7.out bb)
    clear bb B7
    go_wp2_with fail
    refine (rworth_b c b _ hc).mono ?_
    rw [HV.out, HZ.out]
    rintro e w9 ⟨rfl, bb⟩
    have B9 := Lib.hid (below_then B8.out bb)
    clear bb B8
    go_wp2_with fail
    refine (digit_any n _).mono ?_
    rw [HG.out]
    rintro e w10 ⟨rfl, bb⟩
    have B10 := Lib.hid (below_then B9.out bb)
    clear bb B9
    go_wp2_with fail
    refine (rdigit_b n _).mono ?_
    rw [HG.out]
    rintro e w11 ⟨rfl, bb⟩
    have B11 := Lib.hid (below_then B10.out bb)
    clear bb B10
    go_wp2_with fail
    go_ret
    exact ⟨rfl, B11.out⟩
theorem tells_any6 (n b c : Int) (l : List UInt8) (w : World) (h0 : -9223372036854775808 ≤ n) (h1 : n ≤ 9223372036854775807) (hc : 0 ≤ c ∧ c ≤ 255) (hl : l.length ≤ 9223372036854775807) :
    Calls Try.prog 3 #[.agg #[.int .i64 n, .int .i64 b, .int .u8 c, .string (strB l)]] w fun e w' => e = .returned (.bool true) ∧ Below w.heap.size w w' := by
  obtain ⟨k, rfl⟩ := Int.eq_ofNat_of_zero_le hc.1
  exact tells_walk6 n b k l w h0 h1 (by omega) hl
end Go.Proofs.Ytlkjopbgobkgmaa
