/- The walk of StkRoom. -/
import Derived.Test.YtjeapcpicagobaaStkNames
import Derived.Deep.RegionHeld3
namespace Go.Proofs.Ytjeapcpicagobaa
open Go.RowKit
set_option linter.unusedVariables false
set_option linter.unusedSimpArgs false

set_option maxRecDepth 100000 in
set_option maxHeartbeats 16000000 in
theorem room_under (A : Option Addr) (n c : Nat) (l o : List Int) (m : Nat) (x : Int) (k j : Nat) (s : ByteArray) (w0 : World) (hn : n ≤ 60) (he : (k : Int) % 16 = (j : Int)) (hj : (j : Int) < 16) (hk : (k : Int) ≤ 255) (HS : Hid (namesL[j]? = some s)) (S0 : Hid (Row w0 A n c l)) (HU : Hid (resF (kindF s.data.toList) l = .under)) :
    Calls Try.prog 7 #[.slice A n c, .int .i64 x, .int .u8 (k : Int)] w0 fun e w' => e = .returned (.bool true) ∧ Below w0.heap.size w0 w' := by
  have q1 : decide ((60 : Int) < (n : Int)) = false := by simp; omega
  have q2 : decide (60 < n) = false := by simp; omega
  have HLN : Hid (l.length = n) := S0.out.len
  go_enter Try.func7, Try.ntmps7
  go_wp2_with fail
  refine (shown_any _).mono ?_
  rintro e w1 ⟨rfl, bb⟩
  have B1 := Lib.hid bb
  have S1 := Lib.hid (S0.out.keep bb)
  clear bb S0
  go_wp2_with fail
  refine (names_any _).mono ?_
  rintro e w2 ⟨g, rfl, hs, bb⟩
  have B2 := Lib.hid (below_then B1.out bb)
  have S2 := Lib.hid (S1.out.keep bb)
  clear bb B1 S1
  have hc := hs.2 _ _ HS.out
  clear hs
  go_wp2_with fail
  refine (sh_under A n c _ l 1000 _ (by omega) S2 (Lib.hid (HU.out))).mono ?_
  rintro e w3 ⟨X1, y1, rfl, hr, bb⟩
  have B3 := Lib.hid (below_then B2.out bb)
  have S3 := Lib.hid (S2.out.keep bb)
  have a3 := Lib.hid hr
  clear bb B2 S2 hr
  clear hc
  go_wp2_with fail
  refine (sh_under A n c _ l _ _ (by omega) S3 (Lib.hid (HU.out))).mono ?_
  rintro e w4 ⟨X2, y2, rfl, hr, bb⟩
  have B4 := Lib.hid (below_then B3.out bb)
  have S4 := Lib.hid (S3.out.keep bb)
  have a4 := Lib.hid (a3.out.keep bb)
  have b4 := Lib.hid hr
  clear bb B3 S3 a3 hr
  go_wp2_with fail
  refine (sh_under A n c _ l _ _ (by omega) S4 (Lib.hid (HU.out))).mono ?_
  rintro e w5 ⟨X3, y3, rfl, hr, bb⟩
  have B5 := Lib.hid (below_then B4.out bb)
  have S5 := Lib.hid (S4.out.keep bb)
  have a5 := Lib.hid (a4.out.keep bb)
  have b5 := Lib.hid (b4.out.keep bb)
  have d5 := Lib.hid hr
  clear bb B4 S4 a4 b4 hr
  go_wp2_with fail
  refine (push_ok A n c x _ l _ (by omega) S5 (by omega)).mono ?_
  rintro e w6 ⟨P1, y91, rfl, hr, bb⟩
  have B6 := Lib.hid (below_then B5.out bb)
  have S6 := Lib.hid (S5.out.keep bb)
  have a6 := Lib.hid (a5.out.keep bb)
  have b6 := Lib.hid (b5.out.keep bb)
  have d6 := Lib.hid (d5.out.keep bb)
  have u6 := Lib.hid hr
  clear bb B5 S5 a5 b5 d5 hr
  go_wp2_with fail
  refine (push_over A n c x _ l _ (by omega) S6 (by omega)).mono ?_
  rintro e w7 ⟨P2, y92, rfl, hr, bb⟩
  have B7 := Lib.hid (below_then B6.out bb)
  have S7 := Lib.hid (S6.out.keep bb)
  have a7 := Lib.hid (a6.out.keep bb)
  have b7 := Lib.hid (b6.out.keep bb)
  have d7 := Lib.hid (d6.out.keep bb)
  have u7 := Lib.hid (u6.out.keep bb)
  have p7 := Lib.hid hr
  clear bb B6 S6 a6 b6 d6 u6 hr
  go_wp2_with fail
  refine (pop_one P1 n y91 (l ++ [x]) x _ (by omega) u7 (Lib.hid (by have := S7.out.len; simp [List.getD, this]))).mono ?_
  rintro e w8 ⟨P3, y93, rfl, hr, bb⟩
  have B8 := Lib.hid (below_then B7.out bb)
  have S8 := Lib.hid (S7.out.keep bb)
  have a8 := Lib.hid (a7.out.keep bb)
  have b8 := Lib.hid (b7.out.keep bb)
  have d8 := Lib.hid (d7.out.keep bb)
  have u8 := Lib.hid (u7.out.keep bb)
  have p8 := Lib.hid (p7.out.keep bb)
  have z8 := Lib.hid hr
  clear bb B7 S7 a7 b7 d7 u7 p7 hr
  go_wp2_with fail
  refine (same_true P2 A n y92 n c l l _ (by omega) (by omega) p8 S8 (Lib.hid (rfl))).mono ?_
  rintro e w9 ⟨rfl, bb⟩
  have B9 := Lib.hid (below_then B8.out bb)
  have S9 := Lib.hid (S8.out.keep bb)
  have a9 := Lib.hid (a8.out.keep bb)
  have b9 := Lib.hid (b8.out.keep bb)
  have d9 := Lib.hid (d8.out.keep bb)
  have u9 := Lib.hid (u8.out.keep bb)
  have p9 := Lib.hid (p8.out.keep bb)
  have z9 := Lib.hid (z8.out.keep bb)
  clear bb B8 S8 a8 b8 d8 u8 p8 z8
  go_wp2_with fail
  refine (same_true P3 A n y93 n c ((l ++ [x]).take n) l _ (by omega) (by omega) z9 S9 (Lib.hid (by have := HLN.out; show _ = _; rw [← this]; simp))).mono ?_
  rintro e w10 ⟨rfl, bb⟩
  have B10 := Lib.hid (below_then B9.out bb)
  have S10 := Lib.hid (S9.out.keep bb)
  have a10 := Lib.hid (a9.out.keep bb)
  have b10 := Lib.hid (b9.out.keep bb)
  have d10 := Lib.hid (d9.out.keep bb)
  have u10 := Lib.hid (u9.out.keep bb)
  have p10 := Lib.hid (p9.out.keep bb)
  have z10 := Lib.hid (z9.out.keep bb)
  clear bb B9 S9 a9 b9 d9 u9 p9 z9
  go_wp2_with fail
  go_ret
  exact ⟨rfl, B10.out⟩

set_option maxRecDepth 100000 in
set_option maxHeartbeats 16000000 in
theorem room_out (A : Option Addr) (n c : Nat) (l o : List Int) (m : Nat) (x : Int) (k j : Nat) (s : ByteArray) (w0 : World) (hn : n ≤ 60) (he : (k : Int) % 16 = (j : Int)) (hj : (j : Int) < 16) (hk : (k : Int) ≤ 255) (HS : Hid (namesL[j]? = some s)) (S0 : Hid (Row w0 A n c l)) (hm : m ≤ 62) (HM : Hid (o.length = m)) (HO : Hid (resF (kindF s.data.toList) l = .out o)) :
    Calls Try.prog 7 #[.slice A n c, .int .i64 x, .int .u8 (k : Int)] w0 fun e w' => e = .returned (.bool true) ∧ Below w0.heap.size w0 w' := by
  have q1 : decide ((60 : Int) < (n : Int)) = false := by simp; omega
  have q2 : decide (60 < n) = false := by simp; omega
  have HLN : Hid (l.length = n) := S0.out.len
  go_enter Try.func7, Try.ntmps7
  go_wp2_with fail
  refine (shown_any _).mono ?_
  rintro e w1 ⟨rfl, bb⟩
  have B1 := Lib.hid bb
  have S1 := Lib.hid (S0.out.keep bb)
  clear bb S0
  go_wp2_with fail
  refine (names_any _).mono ?_
  rintro e w2 ⟨g, rfl, hs, bb⟩
  have B2 := Lib.hid (below_then B1.out bb)
  have S2 := Lib.hid (S1.out.keep bb)
  clear bb B1 S1
  have hc := hs.2 _ _ HS.out
  clear hs
  go_wp2_with fail
  refine (sh_out A n c _ l o 1000 m _ (by omega) S2 (Lib.hid (HO.out)) (Lib.hid (HM.out)) (by omega)).mono ?_
  rintro e w3 ⟨X1, y1, rfl, hr, bb⟩
  have B3 := Lib.hid (below_then B2.out bb)
  have S3 := Lib.hid (S2.out.keep bb)
  have a3 := Lib.hid hr
  clear bb B2 S2 hr
  clear hc
  go_wp2_with fail
  refine (sh_out A n c _ l o _ m _ (by omega) S3 (Lib.hid (HO.out)) (Lib.hid (HM.out)) (by omega)).mono ?_
  rintro e w4 ⟨X2, y2, rfl, hr, bb⟩
  have B4 := Lib.hid (below_then B3.out bb)
  have S4 := Lib.hid (S3.out.keep bb)
  have a4 := Lib.hid (a3.out.keep bb)
  have b4 := Lib.hid hr
  clear bb B3 S3 a3 hr
  go_wp2_with fail
  refine (sh_over A n c _ l o _ m _ (by omega) S4 (Lib.hid (HO.out)) (Lib.hid (HM.out)) (by omega)).mono ?_
  rintro e w5 ⟨X3, y3, rfl, hr, bb⟩
  have B5 := Lib.hid (below_then B4.out bb)
  have S5 := Lib.hid (S4.out.keep bb)
  have a5 := Lib.hid (a4.out.keep bb)
  have b5 := Lib.hid (b4.out.keep bb)
  have d5 := Lib.hid hr
  clear bb B4 S4 a4 b4 hr
  go_wp2_with fail
  refine (push_ok A n c x _ l _ (by omega) S5 (by omega)).mono ?_
  rintro e w6 ⟨P1, y91, rfl, hr, bb⟩
  have B6 := Lib.hid (below_then B5.out bb)
  have S6 := Lib.hid (S5.out.keep bb)
  have a6 := Lib.hid (a5.out.keep bb)
  have b6 := Lib.hid (b5.out.keep bb)
  have d6 := Lib.hid (d5.out.keep bb)
  have u6 := Lib.hid hr
  clear bb B5 S5 a5 b5 d5 hr
  go_wp2_with fail
  refine (push_over A n c x _ l _ (by omega) S6 (by omega)).mono ?_
  rintro e w7 ⟨P2, y92, rfl, hr, bb⟩
  have B7 := Lib.hid (below_then B6.out bb)
  have S7 := Lib.hid (S6.out.keep bb)
  have a7 := Lib.hid (a6.out.keep bb)
  have b7 := Lib.hid (b6.out.keep bb)
  have d7 := Lib.hid (d6.out.keep bb)
  have u7 := Lib.hid (u6.out.keep bb)
  have p7 := Lib.hid hr
  clear bb B6 S6 a6 b6 d6 u6 hr
  go_wp2_with fail
  refine (pop_one P1 n y91 (l ++ [x]) x _ (by omega) u7 (Lib.hid (by have := S7.out.len; simp [List.getD, this]))).mono ?_
  rintro e w8 ⟨P3, y93, rfl, hr, bb⟩
  have B8 := Lib.hid (below_then B7.out bb)
  have S8 := Lib.hid (S7.out.keep bb)
  have a8 := Lib.hid (a7.out.keep bb)
  have b8 := Lib.hid (b7.out.keep bb)
  have d8 := Lib.hid (d7.out.keep bb)
  have u8 := Lib.hid (u7.out.keep bb)
  have p8 := Lib.hid (p7.out.keep bb)
  have z8 := Lib.hid hr
  clear bb B7 S7 a7 b7 d7 u7 p7 hr
  go_wp2_with fail
  refine (same_true P2 A n y92 n c l l _ (by omega) (by omega) p8 S8 (Lib.hid (rfl))).mono ?_
  rintro e w9 ⟨rfl, bb⟩
  have B9 := Lib.hid (below_then B8.out bb)
  have S9 := Lib.hid (S8.out.keep bb)
  have a9 := Lib.hid (a8.out.keep bb)
  have b9 := Lib.hid (b8.out.keep bb)
  have d9 := Lib.hid (d8.out.keep bb)
  have u9 := Lib.hid (u8.out.keep bb)
  have p9 := Lib.hid (p8.out.keep bb)
  have z9 := Lib.hid (z8.out.keep bb)
  clear bb B8 S8 a8 b8 d8 u8 p8 z8
  go_wp2_with fail
  refine (same_true P3 A n y93 n c ((l ++ [x]).take n) l _ (by omega) (by omega) z9 S9 (Lib.hid (by have := HLN.out; show _ = _; rw [← this]; simp))).mono ?_
  rintro e w10 ⟨rfl, bb⟩
  have B10 := Lib.hid (below_then B9.out bb)
  have S10 := Lib.hid (S9.out.keep bb)
  have a10 := Lib.hid (a9.out.keep bb)
  have b10 := Lib.hid (b9.out.keep bb)
  have d10 := Lib.hid (d9.out.keep bb)
  have u10 := Lib.hid (u9.out.keep bb)
  have p10 := Lib.hid (p9.out.keep bb)
  have z10 := Lib.hid (z9.out.keep bb)
  clear bb B9 S9 a9 b9 d9 u9 p9 z9
  go_wp2_with fail
  refine (same_true X1 X2 m y1 m y2 o o _ (by omega) (by omega) a10 b10 (Lib.hid (rfl))).mono ?_
  rintro e w11 ⟨rfl, bb⟩
  have B11 := Lib.hid (below_then B10.out bb)
  have S11 := Lib.hid (S10.out.keep bb)
  have a11 := Lib.hid (a10.out.keep bb)
  have b11 := Lib.hid (b10.out.keep bb)
  have d11 := Lib.hid (d10.out.keep bb)
  have u11 := Lib.hid (u10.out.keep bb)
  have p11 := Lib.hid (p10.out.keep bb)
  have z11 := Lib.hid (z10.out.keep bb)
  clear bb B10 S10 a10 b10 d10 u10 p10 z10
  go_wp2_with fail
  refine (same_true X3 A n y3 n c l l _ (by omega) (by omega) d11 S11 (Lib.hid (rfl))).mono ?_
  rintro e w12 ⟨rfl, bb⟩
  have B12 := Lib.hid (below_then B11.out bb)
  have S12 := Lib.hid (S11.out.keep bb)
  have a12 := Lib.hid (a11.out.keep bb)
  have b12 := Lib.hid (b11.out.keep bb)
  have d12 := Lib.hid (d11.out.keep bb)
  have u12 := Lib.hid (u11.out.keep bb)
  have p12 := Lib.hid (p11.out.keep bb)
  have z12 := Lib.hid (z11.out.keep bb)
  clear bb B11 S11 a11 b11 d11 u11 p11 z11
  go_wp2_with fail
  go_ret
  exact ⟨rfl, B12.out⟩

set_option maxRecDepth 100000 in
set_option maxHeartbeats 4000000 in
theorem room_long (A : Option Addr) (n c : Nat) (x k : Int) (w0 : World) (hn : (60 : Int) < (n : Int)) :
    Calls Try.prog 7 #[.slice A n c, .int .i64 x, .int .u8 k] w0 fun e w' => e = .returned (.bool true) ∧ Below w0.heap.size w0 w' := by
  go_enter Try.func7, Try.ntmps7
  go_wp2_with fail
  refine (shown_any _).mono ?_
  rintro e w1 ⟨rfl, bb⟩
  go_wp2
  go_ret
  exact ⟨rfl, bb⟩
theorem room_walk (A : Option Addr) (n c : Nat) (l : List Int) (x k : Int) (w0 : World) (hk : 0 ≤ k ∧ k ≤ 255) (HR : Hid (Row w0 A n c l)) :
    Calls Try.prog 7 #[.slice A n c, .int .i64 x, .int .u8 k] w0 fun e w' => e = .returned (.bool true) ∧ Below w0.heap.size w0 w' := by
  by_cases h1 : 60 < n
  · exact room_long A n c x k w0 (by omega)
  obtain ⟨q, rfl⟩ := Int.eq_ofNat_of_zero_le hk.1
  have hj : q % 16 < namesL.length := Nat.mod_lt _ (by decide)
  have hs : namesL[q % 16]? = some namesL[q % 16] := List.getElem?_eq_getElem hj
  have hl := HR.out.len
  rcases word_all _ _ hs l with hu | ⟨o, ho, hol⟩
  · exact room_under A n c l [] 0 x q (q % 16) _ w0 (by omega) (by omega) (by omega) (by omega) hs HR hu
  · exact room_out A n c l o o.length x q (q % 16) _ w0 (by omega) (by omega) (by omega) (by omega) hs HR (by omega) rfl ho
end Go.Proofs.Ytjeapcpicagobaa
