/- The walk of LexUpto. -/
import Derived.Test.YtakeaocmiblbeaaLexFacts
namespace Go.Proofs.Ytakeaocmiblbeaa
open Go.RowKit
set_option linter.unusedVariables false
set_option linter.unusedSimpArgs false

set_option maxRecDepth 100000 in
set_option maxHeartbeats 8000000 in
theorem lupto_big (s : List UInt8) (a : Nat) (c : UInt8) (w : World) (h1 : (200 : Int) < (s.length : Int)) :
    Calls Try.prog 5 #[.string (strB s), .int .u8 (a : Int), .int .u8 (c.toNat : Int)] w fun e w' => e = .returned (.bool true) ∧ Below w.heap.size w w' := by
  have hsz : (strB s).size = s.length := rfl
  go_enter Try.func5, Try.ntmps5
  have B0 : Hid (Below w.heap.size w w) := Below.refl _ _
  go_wp2_with fail
  refine (shown_any8 _).mono ?_
  rintro e w1 ⟨rfl, bb⟩
  have B1 := Lib.hid (below_then B0.out bb)
  clear bb B0
  go_wp2_with fail
  go_ret
  exact ⟨rfl, B1.out⟩
set_option maxRecDepth 100000 in
set_option maxHeartbeats 8000000 in
theorem lupto_no (s : List UInt8) (a k : Nat) (c : UInt8) (u : List UInt8) (w : World) (h1 : decide ((200 : Int) < (s.length : Int)) = false) (hs : s.length ≤ 200) (ha : a < 256) (hk : k ≤ s.length) (hmod : (a : Int) % ((s.length : Int) + 1) = (k : Int)) (hmodT : (a : Int).tmod ((s.length : Int) + 1) = (k : Int)) (hul : u.length ≤ 200) (eu : uptoW (s.drop k) c = u) (hc : ¬ c ∈ s.drop k) :
    Calls Try.prog 5 #[.string (strB s), .int .u8 (a : Int), .int .u8 (c.toNat : Int)] w fun e w' => e = .returned (.bool true) ∧ Below w.heap.size w w' := by
  have hsz : (strB s).size = s.length := rfl
  have HU : Hid (strB (uptoAt s (k : Int) c) = strB u) := by show _ = _; unfold uptoAt; rw [startN_nat hk, eu]
  have hsu : (strB u).size = u.length := rfl
  have HNC : Hid (∀ x ∈ u, x ≠ c) := by rw [← eu]; exact upto_no _ _
  have HC : Hid (hasC s (k : Int) c = false) := by show _ = _; unfold hasC; rw [startN_nat hk]; simpa using hc
  have HV : Hid (uptoN s (k : Int) c = s.length) := by show _ = _; unfold uptoN; rw [if_neg (by simp [HC.out])]
  have hcut : (strB s).extract k s.length = strB u := by rw [← eu, upto_all hc]; exact strB_rest s k
  clear hc eu
  have hnz : (((s.length : Int) + 1) == 0) = false := by simp; omega
  go_enter Try.func5, Try.ntmps5
  have B0 : Hid (Below w.heap.size w w) := Below.refl _ _
  go_wp2_with fail
  refine (shown_any8 _).mono ?_
  rintro e w1 ⟨rfl, bb⟩
  have B1 := Lib.hid (below_then B0.out bb)
  clear bb B0
  go_wp2_with fail
  try simp only [hmod]
  refine (upto_any s (k : Int) c _ (by omega)).mono ?_
  rw [HU.out, HV.out, HC.out]
  rintro e w2 ⟨rfl, bb⟩
  have B2 := Lib.hid (below_then B1.out bb)
  clear bb B1
  clear hmod hmodT
  go_wp2_with fail
  go_loopw [12] (fun s1 wr => ∃ (i : Nat), s1 = .int .i64 (i : Int) ∧ i ≤ u.length ∧ Hid (Below w.heap.size w wr)) (fun s1 _ => u.length - (intOf s1).toNat)
  case atStart => exact ⟨0, rfl, Nat.zero_le _, B2⟩
  case round =>
    clear B2
    obtain ⟨i, rfl, hi, HB⟩ := hrel
    by_cases hil : i < u.length
    · have hil' : (i : Int) < (u.length : Int) := by omega
      obtain ⟨x, hx⟩ : ∃ c, u[i]? = some c := ⟨_, List.getElem?_eq_getElem hil⟩
      have ixi := ix_at u i x hx
      obtain ⟨n1, n2, n3⟩ := u8_int (HNC.out x (List.mem_of_getElem? hx))
      clear hx
      go_wp2_with fail
      go_roundw
      case rel => exact ⟨i + 1, by simp, by omega, HB⟩
      case measure => simp [intOf]; omega
    · have hil' : decide ((i : Int) < (u.length : Int)) = false := by simp; omega
      have hil2 : u.length ≤ i := by omega
      clear hil
      go_wp2_with fail
      go_ret
      exact ⟨rfl, HB.out⟩
set_option maxRecDepth 100000 in
set_option maxHeartbeats 8000000 in
theorem lupto_yes (s : List UInt8) (a k : Nat) (c : UInt8) (u : List UInt8) (w : World) (h1 : decide ((200 : Int) < (s.length : Int)) = false) (hs : s.length ≤ 200) (ha : a < 256) (hk : k ≤ s.length) (hmod : (a : Int) % ((s.length : Int) + 1) = (k : Int)) (hmodT : (a : Int).tmod ((s.length : Int) + 1) = (k : Int)) (hul : u.length ≤ 200) (eu : uptoW (s.drop k) c = u) (hc : c ∈ s.drop k) :
    Calls Try.prog 5 #[.string (strB s), .int .u8 (a : Int), .int .u8 (c.toNat : Int)] w fun e w' => e = .returned (.bool true) ∧ Below w.heap.size w w' := by
  have hsz : (strB s).size = s.length := rfl
  have HU : Hid (strB (uptoAt s (k : Int) c) = strB u) := by show _ = _; unfold uptoAt; rw [startN_nat hk, eu]
  have hsu : (strB u).size = u.length := rfl
  have HNC : Hid (∀ x ∈ u, x ≠ c) := by rw [← eu]; exact upto_no _ _
  have HC : Hid (hasC s (k : Int) c = true) := by show _ = _; unfold hasC; rw [startN_nat hk]; simpa using hc
  have HV : Hid (uptoN s (k : Int) c = k + u.length + 1) := by show _ = _; unfold uptoN uptoAt; rw [if_pos HC.out, startN_nat hk, eu]
  obtain ⟨q1, q2, q3⟩ := upto_has hc
  rw [eu] at q1 q2 q3
  rw [List.length_drop] at q1
  rw [List.getElem?_drop] at q2
  have ixs := ix_at s (k + u.length) c q2
  obtain ⟨j, ej⟩ : ∃ j, k + u.length = j := ⟨_, rfl⟩
  have hcut : (strB s).extract k j = strB u := by rw [strB_cut, ← ej, show k + u.length - k = u.length by omega, q3]
  rw [ej] at ixs HV
  have hj : j < s.length := by omega
  have hj' : (j : Int) < (s.length : Int) := by omega
  have hju : (k : Int) + (u.length : Int) = (j : Int) := by omega
  have hkj : k ≤ j := by omega
  clear hc eu q1 q2 q3
  have hnz : (((s.length : Int) + 1) == 0) = false := by simp; omega
  go_enter Try.func5, Try.ntmps5
  have B0 : Hid (Below w.heap.size w w) := Below.refl _ _
  go_wp2_with fail
  refine (shown_any8 _).mono ?_
  rintro e w1 ⟨rfl, bb⟩
  have B1 := Lib.hid (below_then B0.out bb)
  clear bb B0
  go_wp2_with fail
  try simp only [hmod]
  refine (upto_any s (k : Int) c _ (by omega)).mono ?_
  rw [HU.out, HV.out, HC.out]
  rintro e w2 ⟨rfl, bb⟩
  have B2 := Lib.hid (below_then B1.out bb)
  clear bb B1
  clear hmod hmodT
  go_wp2_with fail
  go_loopw [12] (fun s1 wr => ∃ (i : Nat), s1 = .int .i64 (i : Int) ∧ i ≤ u.length ∧ Hid (Below w.heap.size w wr)) (fun s1 _ => u.length - (intOf s1).toNat)
  case atStart => exact ⟨0, rfl, Nat.zero_le _, B2⟩
  case round =>
    clear B2
    obtain ⟨i, rfl, hi, HB⟩ := hrel
    by_cases hil : i < u.length
    · have hil' : (i : Int) < (u.length : Int) := by omega
      obtain ⟨x, hx⟩ : ∃ c, u[i]? = some c := ⟨_, List.getElem?_eq_getElem hil⟩
      have ixi := ix_at u i x hx
      obtain ⟨n1, n2, n3⟩ := u8_int (HNC.out x (List.mem_of_getElem? hx))
      clear hx
      go_wp2_with fail
      go_roundw
      case rel => exact ⟨i + 1, by simp, by omega, HB⟩
      case measure => simp [intOf]; omega
    · have hil' : decide ((i : Int) < (u.length : Int)) = false := by simp; omega
      have hil2 : u.length ≤ i := by omega
      clear hil
      go_wp2_with fail
      go_ret
      exact ⟨rfl, HB.out⟩
theorem lupto_any (s : List UInt8) (a c : Int) (w : World) (ha : (Lit.int .u8 a).wf = true) (hc : (Lit.int .u8 c).wf = true) :
    Calls Try.prog 5 #[.string (strB s), .int .u8 a, .int .u8 c] w fun e w' => e = .returned (.bool true) ∧ Below w.heap.size w w' := by
  obtain ⟨c, rfl⟩ := u8_of hc
  obtain ⟨a0, a1⟩ := wf_u8 ha
  obtain ⟨a, rfl⟩ := Int.eq_ofNat_of_zero_le a0
  by_cases h1 : (200 : Int) < (s.length : Int)
  · exact lupto_big s a c w h1
  · have h1' : decide ((200 : Int) < (s.length : Int)) = false := by simpa using h1
    have hk : a % (s.length + 1) ≤ s.length := by have := Nat.mod_lt a (by omega : 0 < s.length + 1); omega
    have hm : (a : Int) % ((s.length : Int) + 1) = ((a % (s.length + 1) : Nat) : Int) := by simp
    have hmT : (a : Int).tmod ((s.length : Int) + 1) = ((a % (s.length + 1) : Nat) : Int) := by rw [Int.tmod_eq_emod_of_nonneg (by omega)]; exact hm
    have hul : (uptoW (s.drop (a % (s.length + 1))) c).length ≤ 200 := by
      have := takeW_len (notC c) (s.drop (a % (s.length + 1)))
      rw [List.length_drop] at this
      unfold uptoW
      omega
    by_cases hc : c ∈ s.drop (a % (s.length + 1))
    · exact lupto_yes s a _ c _ w h1' (by omega) (by omega) hk hm hmT hul rfl hc
    · exact lupto_no s a _ c _ w h1' (by omega) (by omega) hk hm hmT hul rfl hc
end Go.Proofs.Ytakeaocmiblbeaa
