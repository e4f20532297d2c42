/- The walk of LexTells. -/
import Derived.Test.YtakeaocmiblbeaaLexIn
namespace Go.Proofs.Ytakeaocmiblbeaa
open Go.RowKit
set_option linter.unusedVariables false
set_option linter.unusedSimpArgs false

set_option maxRecDepth 100000 in
set_option maxHeartbeats 8000000 in
theorem ltells_big (s t : List UInt8) (p : Int) (c : UInt8) (w : World) (h1 : (200 : Int) < (s.length : Int)) :
    Calls Try.prog 3 #[.agg #[.string (strB s), .string (strB t), .int .i64 p, .int .u8 (c.toNat : Int)]] w fun e w' => e = .returned (.bool true) ∧ Below w.heap.size w w' := by
  have hsz : (strB s).size = s.length := rfl
  have htz : (strB t).size = t.length := rfl
  go_enter Try.func3, Try.ntmps3
  have B0 : Hid (Below w.heap.size w w) := Below.refl _ _
  go_wp2_with fail
  refine (shown_any8 _).mono ?_
  rintro e w1 ⟨rfl, bb⟩
  replace bb := al_then bb
  have B1 := Lib.hid (below_then B0.out bb)
  clear bb B0
  go_wp2_with fail
  go_ret
  exact ⟨rfl, B1.out⟩
set_option maxRecDepth 100000 in
set_option maxHeartbeats 8000000 in
theorem ltells_big2 (s t : List UInt8) (p : Int) (c : UInt8) (w : World) (h1 : decide ((200 : Int) < (s.length : Int)) = false) (h2 : (200 : Int) < (t.length : Int)) :
    Calls Try.prog 3 #[.agg #[.string (strB s), .string (strB t), .int .i64 p, .int .u8 (c.toNat : Int)]] w fun e w' => e = .returned (.bool true) ∧ Below w.heap.size w w' := by
  have hsz : (strB s).size = s.length := rfl
  have htz : (strB t).size = t.length := rfl
  go_enter Try.func3, Try.ntmps3
  have B0 : Hid (Below w.heap.size w w) := Below.refl _ _
  go_wp2_with fail
  refine (shown_any8 _).mono ?_
  rintro e w1 ⟨rfl, bb⟩
  replace bb := al_then bb
  have B1 := Lib.hid (below_then B0.out bb)
  clear bb B0
  go_wp2_with fail
  go_ret
  exact ⟨rfl, B1.out⟩
set_option maxRecDepth 100000 in
set_option maxHeartbeats 8000000 in
theorem ltells_in (s t : List UInt8) (p : Int) (c : UInt8) (w : World) (h1 : decide ((200 : Int) < (s.length : Int)) = false) (h2 : decide ((200 : Int) < (t.length : Int)) = false) (hs : s.length ≤ 100000) (ht : t.length ≤ 100000) :
    Calls Try.prog 3 #[.agg #[.string (strB s), .string (strB t), .int .i64 p, .int .u8 (c.toNat : Int)]] w fun e w' => e = .returned (.bool true) ∧ Below w.heap.size w w' := by
  have hsz : (strB s).size = s.length := rfl
  have htz : (strB t).size = t.length := rfl
  obtain ⟨W, eW⟩ : ∃ x, strB (wordAt s p) = x := ⟨_, rfl⟩
  have HW := Lib.hid eW
  obtain ⟨N, eN⟩ : ∃ x, nextN s p = x := ⟨_, rfl⟩
  have HN := Lib.hid eN
  obtain ⟨U, eU⟩ : ∃ x, strB (uptoAt s p c) = x := ⟨_, rfl⟩
  have HU := Lib.hid eU
  obtain ⟨V, eV⟩ : ∃ x, uptoN s p c = x := ⟨_, rfl⟩
  have HV := Lib.hid eV
  obtain ⟨C, eC⟩ : ∃ x, hasC s p c = x := ⟨_, rfl⟩
  have HC := Lib.hid eC
  obtain ⟨X, eX⟩ : ∃ x, strB (upperF s) = x := ⟨_, rfl⟩
  have HX := Lib.hid eX
  obtain ⟨K, eK⟩ : ∃ x, alikeF s t = x := ⟨_, rfl⟩
  have HK := Lib.hid eK
  obtain ⟨Q, eQ⟩ : ∃ x, wordsF s = x := ⟨_, rfl⟩
  have HR := Lib.hid eQ
  have HQ : Hid (Q.length ≤ 100000) := by show _ ≤ _; rw [← eQ]; have := words_len s s.length (Nat.le_refl _); omega
  clear eW eN eU eV eC eX eK eQ
  go_enter Try.func3, Try.ntmps3
  have B0 : Hid (Below w.heap.size w w) := Below.refl _ _
  go_wp2_with fail
  refine (shown_any8 _).mono ?_
  rintro e w1 ⟨rfl, bb⟩
  replace bb := al_then bb
  have B1 := Lib.hid (below_then B0.out bb)
  clear bb B0
  go_wp2_with fail
  refine (word_any s p _ hs).mono ?_
  rw [HW.out, HN.out]
  rintro e w2 ⟨rfl, bb⟩
  have B2 := Lib.hid (below_then B1.out bb)
  clear bb B1
  go_wp2_with fail
  refine (rword_any s p _ (by omega)).mono ?_
  rw [HW.out, HN.out]
  rintro e w3 ⟨rfl, bb⟩
  have B3 := Lib.hid (below_then B2.out bb)
  clear bb B2
  go_wp2_with fail
  refine (upto_any s p c _ hs).mono ?_
  rw [HU.out, HV.out, HC.out]
  rintro e w4 ⟨rfl, bb⟩
  have B4 := Lib.hid (below_then B3.out bb)
  clear bb B3
  go_wp2_with fail
  refine (rupto_any s p c _ (by omega)).mono ?_
  rw [HU.out, HV.out, HC.out]
  rintro e w5 ⟨rfl, bb⟩
  have B5 := Lib.hid (below_then B4.out bb)
  clear bb B4
  go_wp2_with fail
  refine (words_any s _ hs).mono ?_
  rw [HR.out]
  rintro e w6 ⟨A1, n1, c1, rfl, hy, bb⟩
  have B6 := Lib.hid (below_then B5.out bb)
  have S6 := Lib.hid hy
  clear bb B5 hy
  go_wp2_with fail
  refine (rwords_any s _ hs).mono ?_
  rw [HR.out]
  rintro e w7 ⟨A2, n2, c2, rfl, hy, bb⟩
  have S7 := Lib.hid (S6.out.keep bb)
  have B7 := Lib.hid (below_then B6.out bb)
  have R7 := Lib.hid hy
  clear bb S6 B6 hy
  go_wp2_with fail
  refine (rsame_any A1 A2 n1 c1 n2 c2 Q Q _ S7.out R7.out HQ.out).mono ?_
  rw [sameR_refl]
  rintro e w8 ⟨rfl, bb⟩
  have S8 := Lib.hid (S7.out.keep bb)
  have R8 := Lib.hid (R7.out.keep bb)
  have B8 := Lib.hid (below_then B7.out bb)
  clear bb S7 R7 B7
  clear S8
  clear R8
  go_wp2_with fail
  refine (upper_any s _ hs).mono ?_
  rw [HX.out]
  rintro e w9 ⟨rfl, bb⟩
  have B9 := Lib.hid (below_then B8.out bb)
  clear bb B8
  go_wp2_with fail
  refine (rupper_any s _ hs).mono ?_
  rw [HX.out]
  rintro e w10 ⟨rfl, bb⟩
  have B10 := Lib.hid (below_then B9.out bb)
  clear bb B9
  go_wp2_with fail
  refine (alike_any s t _ hs ht).mono ?_
  rw [HK.out]
  rintro e w11 ⟨rfl, bb⟩
  have B11 := Lib.hid (below_then B10.out bb)
  clear bb B10
  go_wp2_with fail
  refine (ralike_any s t _ hs ht).mono ?_
  rw [HK.out]
  rintro e w12 ⟨rfl, bb⟩
  have B12 := Lib.hid (below_then B11.out bb)
  clear bb B11
  go_wp2_with fail
  go_ret
  exact ⟨rfl, B12.out⟩
theorem ltells_any (s t : List UInt8) (p : Int) (c : UInt8) (w : World) :
    Calls Try.prog 3 #[.agg #[.string (strB s), .string (strB t), .int .i64 p, .int .u8 (c.toNat : Int)]] w fun e w' => e = .returned (.bool true) ∧ Below w.heap.size w w' := by
  by_cases h1 : (200 : Int) < (s.length : Int)
  · exact ltells_big s t p c w h1
  · have h1' : decide ((200 : Int) < (s.length : Int)) = false := by simpa using h1
    by_cases h2 : (200 : Int) < (t.length : Int)
    · exact ltells_big2 s t p c w h1' h2
    · exact ltells_in s t p c w h1' (by simpa using h2) (by omega) (by omega)
theorem ltells_int (s t : List UInt8) (p c : Int) (w : World) (hc : (Lit.int .u8 c).wf = true) :
    Calls Try.prog 3 #[.agg #[.string (strB s), .string (strB t), .int .i64 p, .int .u8 c]] w fun e w' => e = .returned (.bool true) ∧ Below w.heap.size w w' := by
  obtain ⟨b, rfl⟩ := u8_of hc
  exact ltells_any s t p b w
end Go.Proofs.Ytakeaocmiblbeaa
