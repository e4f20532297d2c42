/- The walk of LexPlaces. -/
import Derived.Test.YtakeaocmiblbeaaLexFacts
namespace Go.Proofs.Ytakeaocmiblbeaa
open Go.RowKit
set_option linter.unusedVariables false
set_option linter.unusedSimpArgs false

set_option maxRecDepth 100000 in
set_option maxHeartbeats 8000000 in
theorem lplaces_big (s : List UInt8) (p : Int) (c : UInt8) (w : World) (h1 : (200 : Int) < (s.length : Int)) :
    Calls Try.prog 7 #[.string (strB s), .int .i64 p, .int .u8 (c.toNat : Int)] w fun e w' => e = .returned (.bool true) ∧ Below w.heap.size w w' := by
  have hsz : (strB s).size = s.length := rfl
  go_enter Try.func7, Try.ntmps7
  have B0 : Hid (Below w.heap.size w w) := Below.refl _ _
  go_wp2_with fail
  refine (shown_any8 _).mono ?_
  rintro e w1 ⟨rfl, bb⟩
  have B1 := Lib.hid (below_then B0.out bb)
  clear bb B0
  go_wp2_with fail
  go_ret
  exact ⟨rfl, B1.out⟩
set_option maxRecDepth 100000 in
set_option maxHeartbeats 8000000 in
theorem lplaces_lo (s : List UInt8) (p : Int) (c : UInt8) (w : World) (h1 : decide ((200 : Int) < (s.length : Int)) = false) (hs : s.length ≤ 100000) (h0 : p < 0) :
    Calls Try.prog 7 #[.string (strB s), .int .i64 p, .int .u8 (c.toNat : Int)] w fun e w' => e = .returned (.bool true) ∧ Below w.heap.size w w' := by
  have hsz : (strB s).size = s.length := rfl
  obtain ⟨q1, q2, q3, q4, q5⟩ := place_out (s := s) (p := p) c (by omega)
  have HW : Hid (strB (wordAt s p) = ⟨#[]⟩) := by show _ = _; rw [q1]; rfl
  have HN := Lib.hid q2
  have HU : Hid (strB (uptoAt s p c) = ⟨#[]⟩) := by show _ = _; rw [q3]; rfl
  have HV := Lib.hid q4
  have HC := Lib.hid q5
  clear q1 q2 q3 q4 q5
  go_enter Try.func7, Try.ntmps7
  have B0 : Hid (Below w.heap.size w w) := Below.refl _ _
  go_wp2_with fail
  refine (shown_any8 _).mono ?_
  rintro e w1 ⟨rfl, bb⟩
  have B1 := Lib.hid (below_then B0.out bb)
  clear bb B0
  go_wp2_with fail
  refine (word_any s p _ hs).mono ?_
  rw [HW.out, HN.out]
  rintro e w2 ⟨rfl, bb⟩
  have B2 := Lib.hid (below_then B1.out bb)
  clear bb B1
  go_wp2_with fail
  refine (upto_any s p c _ hs).mono ?_
  rw [HU.out, HV.out, HC.out]
  rintro e w3 ⟨rfl, bb⟩
  have B3 := Lib.hid (below_then B2.out bb)
  clear bb B2
  go_wp2_with fail
  go_ret
  exact ⟨rfl, B3.out⟩
set_option maxRecDepth 100000 in
set_option maxHeartbeats 8000000 in
theorem lplaces_hi (s : List UInt8) (p : Int) (c : UInt8) (w : World) (h1 : decide ((200 : Int) < (s.length : Int)) = false) (hs : s.length ≤ 100000) (h0 : decide (p < 0) = false) (h2 : (s.length : Int) < p) :
    Calls Try.prog 7 #[.string (strB s), .int .i64 p, .int .u8 (c.toNat : Int)] w fun e w' => e = .returned (.bool true) ∧ Below w.heap.size w w' := by
  have hsz : (strB s).size = s.length := rfl
  obtain ⟨q1, q2, q3, q4, q5⟩ := place_out (s := s) (p := p) c (by omega)
  have HW : Hid (strB (wordAt s p) = ⟨#[]⟩) := by show _ = _; rw [q1]; rfl
  have HN := Lib.hid q2
  have HU : Hid (strB (uptoAt s p c) = ⟨#[]⟩) := by show _ = _; rw [q3]; rfl
  have HV := Lib.hid q4
  have HC := Lib.hid q5
  clear q1 q2 q3 q4 q5
  go_enter Try.func7, Try.ntmps7
  have B0 : Hid (Below w.heap.size w w) := Below.refl _ _
  go_wp2_with fail
  refine (shown_any8 _).mono ?_
  rintro e w1 ⟨rfl, bb⟩
  have B1 := Lib.hid (below_then B0.out bb)
  clear bb B0
  go_wp2_with fail
  refine (word_any s p _ hs).mono ?_
  rw [HW.out, HN.out]
  rintro e w2 ⟨rfl, bb⟩
  have B2 := Lib.hid (below_then B1.out bb)
  clear bb B1
  go_wp2_with fail
  refine (upto_any s p c _ hs).mono ?_
  rw [HU.out, HV.out, HC.out]
  rintro e w3 ⟨rfl, bb⟩
  have B3 := Lib.hid (below_then B2.out bb)
  clear bb B2
  go_wp2_with fail
  go_ret
  exact ⟨rfl, B3.out⟩
set_option maxRecDepth 100000 in
set_option maxHeartbeats 8000000 in
theorem lplaces_in (s : List UInt8) (k : Nat) (c : UInt8) (w : World) (h1 : decide ((200 : Int) < (s.length : Int)) = false) (hs : s.length ≤ 100000) (hk : k ≤ s.length) :
    Calls Try.prog 7 #[.string (strB s), .int .i64 (k : Int), .int .u8 (c.toNat : Int)] w fun e w' => e = .returned (.bool true) ∧ Below w.heap.size w w' := by
  have hsz : (strB s).size = s.length := rfl
  obtain ⟨q1, q2, q3, q4, q5⟩ := place_in (s := s) c hk
  have HD : Hid ((s.drop k).length ≤ 100000) := by show _ ≤ _; rw [List.length_drop]; omega
  have hcut : (strB s).extract k s.length = strB (s.drop k) := strB_rest s k
  have hk1 : decide ((s.length : Int) < (k : Int)) = false := by simp; omega
  have hk2 : ¬ (s.length : Int) < (k : Int) := by omega
  obtain ⟨X, eX⟩ : ∃ x, strB (wordAt (s.drop k) 0) = x := ⟨_, rfl⟩
  have HX := Lib.hid eX
  obtain ⟨M, eM⟩ : ∃ x, nextN (s.drop k) 0 = x := ⟨_, rfl⟩
  have HM := Lib.hid eM
  obtain ⟨Y, eY⟩ : ∃ x, strB (uptoAt (s.drop k) 0 c) = x := ⟨_, rfl⟩
  have HY := Lib.hid eY
  obtain ⟨Z, eZ⟩ : ∃ x, uptoN (s.drop k) 0 c = x := ⟨_, rfl⟩
  have HZ := Lib.hid eZ
  obtain ⟨E, eE⟩ : ∃ x, hasC (s.drop k) 0 c = x := ⟨_, rfl⟩
  have HE := Lib.hid eE
  have hM : M ≤ 100000 := by rw [← eM]; unfold nextN; rw [List.length_drop]; omega
  have hZ : Z ≤ 100001 := by
    rw [← eZ]
    unfold uptoN uptoAt uptoW
    have h9 := takeW_len (notC c) ((s.drop k).drop (startN (s.drop k) 0))
    rw [startN_zero, List.drop_zero, List.length_drop] at *
    split <;> omega
  have HW : Hid (strB (wordAt s (k : Int)) = X) := by show _ = _; rw [q1]; exact eX
  have HN : Hid (nextN s (k : Int) = M + k) := by show _ = _; rw [q2, eM]
  have HU : Hid (strB (uptoAt s (k : Int) c) = Y) := by show _ = _; rw [q3]; exact eY
  have HV : Hid (uptoN s (k : Int) c = Z + k) := by show _ = _; rw [q4, eZ]
  have HC : Hid (hasC s (k : Int) c = E) := by show _ = _; rw [q5]; exact eE
  clear q1 q2 q3 q4 q5 eX eM eY eZ eE
  go_enter Try.func7, Try.ntmps7
  have B0 : Hid (Below w.heap.size w w) := Below.refl _ _
  go_wp2_with fail
  refine (shown_any8 _).mono ?_
  rintro e w1 ⟨rfl, bb⟩
  have B1 := Lib.hid (below_then B0.out bb)
  clear bb B0
  go_wp2_with fail
  refine (word_any s (k : Int) _ hs).mono ?_
  rw [HW.out, HN.out]
  rintro e w2 ⟨rfl, bb⟩
  have B2 := Lib.hid (below_then B1.out bb)
  clear bb B1
  go_wp2_with fail
  refine (upto_any s (k : Int) c _ hs).mono ?_
  rw [HU.out, HV.out, HC.out]
  rintro e w3 ⟨rfl, bb⟩
  have B3 := Lib.hid (below_then B2.out bb)
  clear bb B2
  go_wp2_with fail
  refine (word_any (s.drop k) 0 _ HD.out).mono ?_
  rw [HX.out, HM.out]
  rintro e w4 ⟨rfl, bb⟩
  have B4 := Lib.hid (below_then B3.out bb)
  clear bb B3
  go_wp2_with fail
  refine (upto_any (s.drop k) 0 c _ HD.out).mono ?_
  rw [HY.out, HZ.out, HE.out]
  rintro e w5 ⟨rfl, bb⟩
  have B5 := Lib.hid (below_then B4.out bb)
  clear bb B4
  go_wp2_with fail
  go_ret
  exact ⟨rfl, B5.out⟩
theorem lplaces_any (s : List UInt8) (p c : Int) (w : World) (hc : (Lit.int .u8 c).wf = true) :
    Calls Try.prog 7 #[.string (strB s), .int .i64 p, .int .u8 c] w fun e w' => e = .returned (.bool true) ∧ Below w.heap.size w w' := by
  obtain ⟨b, rfl⟩ := u8_of hc
  by_cases h1 : (200 : Int) < (s.length : Int)
  · exact lplaces_big s p b w h1
  · have h1' : decide ((200 : Int) < (s.length : Int)) = false := by simpa using h1
    by_cases h0 : p < 0
    · exact lplaces_lo s p b w h1' (by omega) h0
    · by_cases h2 : (s.length : Int) < p
      · exact lplaces_hi s p b w h1' (by omega) (by simp; omega) h2
      · obtain ⟨k, rfl⟩ := Int.eq_ofNat_of_zero_le (by omega : 0 ≤ p)
        exact lplaces_in s k b w h1' (by omega) (by omega)
end Go.Proofs.Ytakeaocmiblbeaa
