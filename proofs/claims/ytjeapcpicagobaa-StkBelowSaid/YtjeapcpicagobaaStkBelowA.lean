/- The walk of StkBelow. -/
import Derived.Test.YtjeapcpicagobaaStkBelowM
import Derived.Deep.RegionHeld3
namespace Go.Proofs.Ytjeapcpicagobaa
open Go.RowKit
set_option linter.unusedVariables false
set_option linter.unusedSimpArgs false

set_option maxRecDepth 100000 in
set_option maxHeartbeats 16000000 in
theorem below_uu (A Ab : Option Addr) (n c nb cb : Nat) (l bl o o2 : List Int) (m m2 : Nat) (k j : Nat) (s : ByteArray) (w0 : World) (hn : n ≤ 60) (hnb : nb ≤ 60) (he : (k : Int) % 16 = (j : Int)) (hj : (j : Int) < 16) (hk : (k : Int) ≤ 255) (HS : Hid (namesL[j]? = some s)) (S0 : Hid (Row w0 A n c l)) (R0 : Hid (Row w0 Ab nb cb bl)) (HU : Hid (resF (kindF s.data.toList) l = .under)) (HU2 : Hid (resF (kindF s.data.toList) ([] ++ bl ++ l) = .under)) :
    Calls Try.prog 4 #[.slice A n c, .slice Ab nb cb, .int .u8 (k : Int)] w0 fun e w' => e = .returned (.bool true) ∧ Below w0.heap.size w0 w' := by
  have q1 : decide ((60 : Int) < (n : Int)) = false := by simp; omega
  have q2 : decide (60 < n) = false := by simp; omega
  have q3 : decide ((60 : Int) < (nb : Int)) = false := by simp; omega
  have q4 : decide (60 < nb) = false := by simp; omega
  have HLS : Hid (l.length = n) := S0.out.len
  have HLB : Hid (bl.length = nb) := R0.out.len
  obtain ⟨N, hN⟩ : ∃ N, 0 + nb + n = N := ⟨_, rfl⟩
  have HN : Hid (nb + n = N) := by show _ = _; omega
  have HN0 := Lib.hid hN
  have hN1 : N ≤ 120 := by omega
  have HLQ : Hid (([] ++ bl ++ l).length = N) := by
    have z1 := HLB.out
    have z2 := HLS.out
    show _ = _
    simp
    omega
  clear hN
  go_enter Try.func4, Try.ntmps4
  go_wp2_with fail
  refine (shown_any _).mono ?_
  rintro e w1 ⟨rfl, bb⟩
  have B1 := Lib.hid bb
  have S1 := Lib.hid (S0.out.keep bb)
  have R1 := Lib.hid (R0.out.keep bb)
  clear bb S0 R0
  go_wp2_with fail
  refine (names_any _).mono ?_
  rintro e w2 ⟨g, rfl, hs, bb⟩
  have B2 := Lib.hid (below_then B1.out bb)
  have S2 := Lib.hid (S1.out.keep bb)
  have R2 := Lib.hid (R1.out.keep bb)
  clear bb B1 S1 R1
  have hc := hs.2 _ _ HS.out
  clear hs
  have tok1 : True := trivial
  go_wp2_with (first
    | (at_builtin; have _t := tok1; (refine wpList_app rfl _ _ rfl w2.heap.size (.slice (some ⟨w2.heap.size, 0, none⟩) 0 0) 0 [] rfl (none_owns w2) Ab nb cb bl rfl (R2.out.keep (below_one _ _)) (by omega) (by simp) w2 (below_one _ _) (Nat.le_refl _) ?_; intro v1 wq ho b1; have HO := Lib.hid ho; have HB := Lib.hid b1; clear ho b1 tok1))
    | (at_builtin; (refine wpList_app rfl _ _ rfl w2.heap.size v1 (0 + nb) ([] ++ bl) rfl HO.out A n c l rfl (S2.out.keep HB.out) (by omega) HB.out.size w2 HB.out (Nat.le_refl _) ?_; intro v2 w3 ho bb; rw [HN0.out] at ho; (obtain ⟨Q, yq, rfl, hr⟩ := ho.row); have Q3 := Lib.hid hr; have B3 := Lib.hid (below_then B2.out bb); have S3 := Lib.hid (S2.out.keep bb); have R3 := Lib.hid (R2.out.keep bb); clear ho hr bb hc HO HB B2 S2 R2)))
  skip
  refine (sh_under A n c _ l 1000 _ (by omega) S3 (Lib.hid (HU.out))).mono ?_
  rintro e w4 ⟨X1, y1, rfl, hr, bb⟩
  have B4 := Lib.hid (below_then B3.out bb)
  have S4 := Lib.hid (S3.out.keep bb)
  have R4 := Lib.hid (R3.out.keep bb)
  have Q4 := Lib.hid (Q3.out.keep bb)
  have a4 := Lib.hid hr
  clear bb B3 S3 R3 Q3 hr
  go_wp2_with fail
  refine (sh_under Q N yq _ ([] ++ bl ++ l) 1000 _ (by omega) Q4 (Lib.hid (HU2.out))).mono ?_
  rintro e w5 ⟨X2, y2, rfl, hr, bb⟩
  have B5 := Lib.hid (below_then B4.out bb)
  have S5 := Lib.hid (S4.out.keep bb)
  have R5 := Lib.hid (R4.out.keep bb)
  have Q5 := Lib.hid (Q4.out.keep bb)
  have a5 := Lib.hid (a4.out.keep bb)
  have b5 := Lib.hid hr
  clear bb B4 S4 R4 Q4 a4 hr
  go_wp2_with fail
  refine (same_true X1 A n y1 n c l l _ (by omega) (by omega) a5 S5 (Lib.hid (rfl))).mono ?_
  rintro e w6 ⟨rfl, bb⟩
  have B6 := Lib.hid (below_then B5.out bb)
  have S6 := Lib.hid (S5.out.keep bb)
  have R6 := Lib.hid (R5.out.keep bb)
  have Q6 := Lib.hid (Q5.out.keep bb)
  have a6 := Lib.hid (a5.out.keep bb)
  have b6 := Lib.hid (b5.out.keep bb)
  clear bb B5 S5 R5 Q5 a5 b5
  go_wp2_with fail
  refine (same_true X2 Q N y2 N yq ([] ++ bl ++ l) ([] ++ bl ++ l) _ (by omega) (by omega) b6 Q6 (Lib.hid (rfl))).mono ?_
  rintro e w7 ⟨rfl, bb⟩
  have B7 := Lib.hid (below_then B6.out bb)
  have S7 := Lib.hid (S6.out.keep bb)
  have R7 := Lib.hid (R6.out.keep bb)
  have Q7 := Lib.hid (Q6.out.keep bb)
  have a7 := Lib.hid (a6.out.keep bb)
  have b7 := Lib.hid (b6.out.keep bb)
  clear bb B6 S6 R6 Q6 a6 b6
  go_wp2_with fail
  go_ret
  exact ⟨rfl, B7.out⟩

set_option maxRecDepth 100000 in
set_option maxHeartbeats 16000000 in
theorem below_uo (A Ab : Option Addr) (n c nb cb : Nat) (l bl o o2 : List Int) (m m2 : Nat) (k j : Nat) (s : ByteArray) (w0 : World) (hn : n ≤ 60) (hnb : nb ≤ 60) (he : (k : Int) % 16 = (j : Int)) (hj : (j : Int) < 16) (hk : (k : Int) ≤ 255) (HS : Hid (namesL[j]? = some s)) (S0 : Hid (Row w0 A n c l)) (R0 : Hid (Row w0 Ab nb cb bl)) (HU : Hid (resF (kindF s.data.toList) l = .under)) (hm2 : m2 ≤ 122) (HO2 : Hid (resF (kindF s.data.toList) ([] ++ bl ++ l) = .out o2)) (HM2 : Hid (o2.length = m2)) :
    Calls Try.prog 4 #[.slice A n c, .slice Ab nb cb, .int .u8 (k : Int)] w0 fun e w' => e = .returned (.bool true) ∧ Below w0.heap.size w0 w' := by
  have q1 : decide ((60 : Int) < (n : Int)) = false := by simp; omega
  have q2 : decide (60 < n) = false := by simp; omega
  have q3 : decide ((60 : Int) < (nb : Int)) = false := by simp; omega
  have q4 : decide (60 < nb) = false := by simp; omega
  have HLS : Hid (l.length = n) := S0.out.len
  have HLB : Hid (bl.length = nb) := R0.out.len
  obtain ⟨N, hN⟩ : ∃ N, 0 + nb + n = N := ⟨_, rfl⟩
  have HN : Hid (nb + n = N) := by show _ = _; omega
  have HN0 := Lib.hid hN
  have hN1 : N ≤ 120 := by omega
  have HLQ : Hid (([] ++ bl ++ l).length = N) := by
    have z1 := HLB.out
    have z2 := HLS.out
    show _ = _
    simp
    omega
  clear hN
  go_enter Try.func4, Try.ntmps4
  go_wp2_with fail
  refine (shown_any _).mono ?_
  rintro e w1 ⟨rfl, bb⟩
  have B1 := Lib.hid bb
  have S1 := Lib.hid (S0.out.keep bb)
  have R1 := Lib.hid (R0.out.keep bb)
  clear bb S0 R0
  go_wp2_with fail
  refine (names_any _).mono ?_
  rintro e w2 ⟨g, rfl, hs, bb⟩
  have B2 := Lib.hid (below_then B1.out bb)
  have S2 := Lib.hid (S1.out.keep bb)
  have R2 := Lib.hid (R1.out.keep bb)
  clear bb B1 S1 R1
  have hc := hs.2 _ _ HS.out
  clear hs
  have tok1 : True := trivial
  go_wp2_with (first
    | (at_builtin; have _t := tok1; (refine wpList_app rfl _ _ rfl w2.heap.size (.slice (some ⟨w2.heap.size, 0, none⟩) 0 0) 0 [] rfl (none_owns w2) Ab nb cb bl rfl (R2.out.keep (below_one _ _)) (by omega) (by simp) w2 (below_one _ _) (Nat.le_refl _) ?_; intro v1 wq ho b1; have HO := Lib.hid ho; have HB := Lib.hid b1; clear ho b1 tok1))
    | (at_builtin; (refine wpList_app rfl _ _ rfl w2.heap.size v1 (0 + nb) ([] ++ bl) rfl HO.out A n c l rfl (S2.out.keep HB.out) (by omega) HB.out.size w2 HB.out (Nat.le_refl _) ?_; intro v2 w3 ho bb; rw [HN0.out] at ho; (obtain ⟨Q, yq, rfl, hr⟩ := ho.row); have Q3 := Lib.hid hr; have B3 := Lib.hid (below_then B2.out bb); have S3 := Lib.hid (S2.out.keep bb); have R3 := Lib.hid (R2.out.keep bb); clear ho hr bb hc HO HB B2 S2 R2)))
  skip
  refine (sh_under A n c _ l 1000 _ (by omega) S3 (Lib.hid (HU.out))).mono ?_
  rintro e w4 ⟨X1, y1, rfl, hr, bb⟩
  have B4 := Lib.hid (below_then B3.out bb)
  have S4 := Lib.hid (S3.out.keep bb)
  have R4 := Lib.hid (R3.out.keep bb)
  have Q4 := Lib.hid (Q3.out.keep bb)
  have a4 := Lib.hid hr
  clear bb B3 S3 R3 Q3 hr
  go_wp2_with fail
  refine (sh_out Q N yq _ ([] ++ bl ++ l) o2 1000 m2 _ (by omega) Q4 (Lib.hid (HO2.out)) (Lib.hid (HM2.out)) (by omega)).mono ?_
  rintro e w5 ⟨X2, y2, rfl, hr, bb⟩
  have B5 := Lib.hid (below_then B4.out bb)
  have S5 := Lib.hid (S4.out.keep bb)
  have R5 := Lib.hid (R4.out.keep bb)
  have Q5 := Lib.hid (Q4.out.keep bb)
  have a5 := Lib.hid (a4.out.keep bb)
  have b5 := Lib.hid hr
  clear bb B4 S4 R4 Q4 a4 hr
  go_wp2_with fail
  refine (same_true X1 A n y1 n c l l _ (by omega) (by omega) a5 S5 (Lib.hid (rfl))).mono ?_
  rintro e w6 ⟨rfl, bb⟩
  have B6 := Lib.hid (below_then B5.out bb)
  have S6 := Lib.hid (S5.out.keep bb)
  have R6 := Lib.hid (R5.out.keep bb)
  have Q6 := Lib.hid (Q5.out.keep bb)
  have a6 := Lib.hid (a5.out.keep bb)
  have b6 := Lib.hid (b5.out.keep bb)
  clear bb B5 S5 R5 Q5 a5 b5
  go_wp2_with fail
  go_ret
  exact ⟨rfl, B6.out⟩

set_option maxRecDepth 100000 in
set_option maxHeartbeats 16000000 in
theorem below_dep (A Ab : Option Addr) (n c nb cb : Nat) (l bl o o2 : List Int) (m m2 : Nat) (k j : Nat) (s : ByteArray) (w0 : World) (hn : n ≤ 60) (hnb : nb ≤ 60) (he : (k : Int) % 16 = (j : Int)) (hj : (j : Int) < 16) (hk : (k : Int) ≤ 255) (HS : Hid (namesL[j]? = some ⟨#[68, 69, 80, 84, 72]⟩)) (S0 : Hid (Row w0 A n c l)) (R0 : Hid (Row w0 Ab nb cb bl))  :
    Calls Try.prog 4 #[.slice A n c, .slice Ab nb cb, .int .u8 (k : Int)] w0 fun e w' => e = .returned (.bool true) ∧ Below w0.heap.size w0 w' := by
  have q1 : decide ((60 : Int) < (n : Int)) = false := by simp; omega
  have q2 : decide (60 < n) = false := by simp; omega
  have q3 : decide ((60 : Int) < (nb : Int)) = false := by simp; omega
  have q4 : decide (60 < nb) = false := by simp; omega
  have HLS : Hid (l.length = n) := S0.out.len
  have HLB : Hid (bl.length = nb) := R0.out.len
  obtain ⟨N, hN⟩ : ∃ N, 0 + nb + n = N := ⟨_, rfl⟩
  have HN : Hid (nb + n = N) := by show _ = _; omega
  have HN0 := Lib.hid hN
  have hN1 : N ≤ 120 := by omega
  have HLQ : Hid (([] ++ bl ++ l).length = N) := by
    have z1 := HLB.out
    have z2 := HLS.out
    show _ = _
    simp
    omega
  clear hN
  go_enter Try.func4, Try.ntmps4
  go_wp2_with fail
  refine (shown_any _).mono ?_
  rintro e w1 ⟨rfl, bb⟩
  have B1 := Lib.hid bb
  have S1 := Lib.hid (S0.out.keep bb)
  have R1 := Lib.hid (R0.out.keep bb)
  clear bb S0 R0
  go_wp2_with fail
  refine (names_any _).mono ?_
  rintro e w2 ⟨g, rfl, hs, bb⟩
  have B2 := Lib.hid (below_then B1.out bb)
  have S2 := Lib.hid (S1.out.keep bb)
  have R2 := Lib.hid (R1.out.keep bb)
  clear bb B1 S1 R1
  have hc := hs.2 _ _ HS.out
  clear hs
  have tok1 : True := trivial
  go_wp2_with (first
    | (at_builtin; have _t := tok1; (refine wpList_app rfl _ _ rfl w2.heap.size (.slice (some ⟨w2.heap.size, 0, none⟩) 0 0) 0 [] rfl (none_owns w2) Ab nb cb bl rfl (R2.out.keep (below_one _ _)) (by omega) (by simp) w2 (below_one _ _) (Nat.le_refl _) ?_; intro v1 wq ho b1; have HO := Lib.hid ho; have HB := Lib.hid b1; clear ho b1 tok1))
    | (at_builtin; (refine wpList_app rfl _ _ rfl w2.heap.size v1 (0 + nb) ([] ++ bl) rfl HO.out A n c l rfl (S2.out.keep HB.out) (by omega) HB.out.size w2 HB.out (Nat.le_refl _) ?_; intro v2 w3 ho bb; rw [HN0.out] at ho; (obtain ⟨Q, yq, rfl, hr⟩ := ho.row); have Q3 := Lib.hid hr; have B3 := Lib.hid (below_then B2.out bb); have S3 := Lib.hid (S2.out.keep bb); have R3 := Lib.hid (R2.out.keep bb); clear ho hr bb hc HO HB B2 S2 R2)))
  skip
  refine (sh_out A n c _ l (l ++ [(n : Int)]) 1000 (n + 1) _ (by omega) S3 (Lib.hid (by rw [kind_DEPTH]; show resF .depth l = _; simp only [resF]; rw [HLS.out])) (Lib.hid (by show _ = _; simp [HLS.out])) (by omega)).mono ?_
  rintro e w4 ⟨X1, y1, rfl, hr, bb⟩
  have B4 := Lib.hid (below_then B3.out bb)
  have S4 := Lib.hid (S3.out.keep bb)
  have R4 := Lib.hid (R3.out.keep bb)
  have Q4 := Lib.hid (Q3.out.keep bb)
  have a4 := Lib.hid hr
  clear bb B3 S3 R3 Q3 hr
  go_wp2_with fail
  refine (sh_out Q N yq _ ([] ++ bl ++ l) (([] ++ bl ++ l) ++ [(N : Int)]) 1000 (N + 1) _ (by omega) Q4 (Lib.hid (by rw [kind_DEPTH]; show resF .depth ([] ++ bl ++ l) = _; unfold resF; simp only []; rw [HLQ.out])) (Lib.hid (by show _ = _; rw [List.length_append, HLQ.out]; rfl)) (by omega)).mono ?_
  rintro e w5 ⟨X2, y2, rfl, hr, bb⟩
  have B5 := Lib.hid (below_then B4.out bb)
  have S5 := Lib.hid (S4.out.keep bb)
  have R5 := Lib.hid (R4.out.keep bb)
  have Q5 := Lib.hid (Q4.out.keep bb)
  have a5 := Lib.hid (a4.out.keep bb)
  have b5 := Lib.hid hr
  clear bb B4 S4 R4 Q4 a4 hr
  obtain ⟨gb, ob, hX, hgb, hcb⟩ := b5.out.cells (by omega)
  have kb := hcb N (by omega)
  have hv : (([] ++ bl ++ l) ++ [(N : Int)]).getD N 0 = (N : Int) := by
    have z : ([] ++ bl ++ l).length = N := HLQ.out
    unfold List.getD
    rw [List.getElem?_append_right (by omega), z, Nat.sub_self]
    rfl
  rw [hv] at kb
  have T5 : Hid (Row w5 X2 N y2 ([] ++ bl ++ l)) := by
    have z := b5.out.high (k := N) (by omega)
    rwa [show List.take N (([] ++ bl ++ l) ++ [(N : Int)]) = [] ++ bl ++ l by rw [List.take_append_of_le_length (by rw [HLQ.out]; omega), List.take_of_length_le (by rw [HLQ.out]; omega)]] at z
  have hd : (N : Int) ≤ (y2 : Int) := by have := b5.out.2.1; omega
  have hd2 : (y2 : Int) ≤ 9223372036854775807 := by have := b5.out.2.2.1; unfold maxLen at this; omega
  have hi : (N : Int) < (N : Int) + 1 := by omega
  subst hX
  clear hcb hv hgb
  go_wp2_with fail
  refine (same_true (some ⟨gb, ob, none⟩) Q N y2 N yq ([] ++ bl ++ l) ([] ++ bl ++ l) _ (by omega) (by omega) T5 Q5 (Lib.hid (rfl))).mono ?_
  rintro e w6 ⟨rfl, bb⟩
  have B6 := Lib.hid (below_then B5.out bb)
  have S6 := Lib.hid (S5.out.keep bb)
  have R6 := Lib.hid (R5.out.keep bb)
  have Q6 := Lib.hid (Q5.out.keep bb)
  have a6 := Lib.hid (a5.out.keep bb)
  have b6 := Lib.hid (b5.out.keep bb)
  have T6 := Lib.hid (T5.out.keep bb)
  clear bb B5 S5 R5 Q5 a5 b5 T5
  go_wp2_with fail
  go_ret
  exact ⟨rfl, B6.out⟩

set_option maxRecDepth 100000 in
set_option maxHeartbeats 16000000 in
theorem below_oth (A Ab : Option Addr) (n c nb cb : Nat) (l bl o o2 : List Int) (m m2 : Nat) (k j : Nat) (s : ByteArray) (w0 : World) (hn : n ≤ 60) (hnb : nb ≤ 60) (he : (k : Int) % 16 = (j : Int)) (hj : (j : Int) < 16) (hk : (k : Int) ≤ 255) (HS : Hid (namesL[j]? = some s)) (S0 : Hid (Row w0 A n c l)) (R0 : Hid (Row w0 Ab nb cb bl)) (hm : m ≤ 62) (HL : Hid (Lower s)) (HO : Hid (resF (kindF s.data.toList) l = .out o)) (HM : Hid (o.length = m)) (hd : (s.toList == [68, 69, 80, 84, 72]) = false) :
    Calls Try.prog 4 #[.slice A n c, .slice Ab nb cb, .int .u8 (k : Int)] w0 fun e w' => e = .returned (.bool true) ∧ Below w0.heap.size w0 w' := by
  have q1 : decide ((60 : Int) < (n : Int)) = false := by simp; omega
  have q2 : decide (60 < n) = false := by simp; omega
  have q3 : decide ((60 : Int) < (nb : Int)) = false := by simp; omega
  have q4 : decide (60 < nb) = false := by simp; omega
  have HLS : Hid (l.length = n) := S0.out.len
  have HLB : Hid (bl.length = nb) := R0.out.len
  obtain ⟨N, hN⟩ : ∃ N, 0 + nb + n = N := ⟨_, rfl⟩
  have HN : Hid (nb + n = N) := by show _ = _; omega
  have HN0 := Lib.hid hN
  have hN1 : N ≤ 120 := by omega
  have HLQ : Hid (([] ++ bl ++ l).length = N) := by
    have z1 := HLB.out
    have z2 := HLS.out
    show _ = _
    simp
    omega
  clear hN
  go_enter Try.func4, Try.ntmps4
  go_wp2_with fail
  refine (shown_any _).mono ?_
  rintro e w1 ⟨rfl, bb⟩
  have B1 := Lib.hid bb
  have S1 := Lib.hid (S0.out.keep bb)
  have R1 := Lib.hid (R0.out.keep bb)
  clear bb S0 R0
  go_wp2_with fail
  refine (names_any _).mono ?_
  rintro e w2 ⟨g, rfl, hs, bb⟩
  have B2 := Lib.hid (below_then B1.out bb)
  have S2 := Lib.hid (S1.out.keep bb)
  have R2 := Lib.hid (R1.out.keep bb)
  clear bb B1 S1 R1
  have hc := hs.2 _ _ HS.out
  clear hs
  have tok1 : True := trivial
  go_wp2_with (first
    | (at_builtin; have _t := tok1; (refine wpList_app rfl _ _ rfl w2.heap.size (.slice (some ⟨w2.heap.size, 0, none⟩) 0 0) 0 [] rfl (none_owns w2) Ab nb cb bl rfl (R2.out.keep (below_one _ _)) (by omega) (by simp) w2 (below_one _ _) (Nat.le_refl _) ?_; intro v1 wq ho b1; have HO := Lib.hid ho; have HB := Lib.hid b1; clear ho b1 tok1))
    | (at_builtin; (refine wpList_app rfl _ _ rfl w2.heap.size v1 (0 + nb) ([] ++ bl) rfl HO.out A n c l rfl (S2.out.keep HB.out) (by omega) HB.out.size w2 HB.out (Nat.le_refl _) ?_; intro v2 w3 ho bb; rw [HN0.out] at ho; (obtain ⟨Q, yq, rfl, hr⟩ := ho.row); have Q3 := Lib.hid hr; have B3 := Lib.hid (below_then B2.out bb); have S3 := Lib.hid (S2.out.keep bb); have R3 := Lib.hid (R2.out.keep bb); clear ho hr bb hc HO HB B2 S2 R2)))
  skip
  refine (sh_out A n c _ l o 1000 m _ (by omega) S3 (Lib.hid (HO.out)) (Lib.hid (HM.out)) (by omega)).mono ?_
  rintro e w4 ⟨X1, y1, rfl, hr, bb⟩
  have B4 := Lib.hid (below_then B3.out bb)
  have S4 := Lib.hid (S3.out.keep bb)
  have R4 := Lib.hid (R3.out.keep bb)
  have Q4 := Lib.hid (Q3.out.keep bb)
  have a4 := Lib.hid hr
  clear bb B3 S3 R3 Q3 hr
  go_wp2_with fail
  refine (sh_out Q N yq _ ([] ++ bl ++ l) (bl ++ o) 1000 (nb + m) _ (by omega) Q4 (Lib.hid (HL.out bl l o HO.out)) (Lib.hid (by show _ = _; simp [HLB.out, HM.out])) (by omega)).mono ?_
  rintro e w5 ⟨X2, y2, rfl, hr, bb⟩
  have B5 := Lib.hid (below_then B4.out bb)
  have S5 := Lib.hid (S4.out.keep bb)
  have R5 := Lib.hid (R4.out.keep bb)
  have Q5 := Lib.hid (Q4.out.keep bb)
  have a5 := Lib.hid (a4.out.keep bb)
  have b5 := Lib.hid hr
  clear bb B4 S4 R4 Q4 a4 hr
  have T5 : Hid (Row w5 X2 nb y2 bl) := by
    have z := b5.out.high (k := nb) (by omega)
    rwa [show (bl ++ o).take nb = bl by rw [← HLB.out]; simp] at z
  have U5 : Hid (Row w5 (restAt X2 nb y2) m (y2 - nb) o) := by
    have z := b5.out.rest (k := nb) (by omega)
    rwa [show (bl ++ o).drop nb = o by rw [← HLB.out]; simp, show nb + m - nb = m by omega] at z
  have hsl : ∀ w, (Instr.slice 22 (.slice X2 (nb + m) y2) (some (.int .i64 (nb : Int))) none none).run Try.prog w = .ok (.slice (restAt X2 nb y2) m (y2 - nb)) w := fun w => by
    have z := run_rest (A := X2) (c := y2) w (show nb ≤ nb + m by omega)
    rwa [show nb + m - nb = m by omega] at z
  have hd : (nb : Int) ≤ (y2 : Int) := by have := b5.out.2.1; omega
  have hd2 : (y2 : Int) ≤ 9223372036854775807 := by have := b5.out.2.2.1; unfold maxLen at this; omega
  obtain ⟨Z, hZ⟩ : ∃ Z, restAt X2 nb y2 = Z := ⟨_, rfl⟩
  obtain ⟨zc, hzc⟩ : ∃ zc, y2 - nb = zc := ⟨_, rfl⟩
  rw [hZ, hzc] at hsl U5
  clear hZ hzc
  go_wp2_with fail
  refine (same_true X2 Ab nb y2 nb cb bl bl _ (by omega) (by omega) T5 R5 (Lib.hid (rfl))).mono ?_
  rintro e w6 ⟨rfl, bb⟩
  have B6 := Lib.hid (below_then B5.out bb)
  have S6 := Lib.hid (S5.out.keep bb)
  have R6 := Lib.hid (R5.out.keep bb)
  have Q6 := Lib.hid (Q5.out.keep bb)
  have a6 := Lib.hid (a5.out.keep bb)
  have b6 := Lib.hid (b5.out.keep bb)
  have T6 := Lib.hid (T5.out.keep bb)
  have U6 := Lib.hid (U5.out.keep bb)
  clear bb B5 S5 R5 Q5 a5 b5 T5 U5
  go_wp2_with fail
  refine (same_true Z X1 m zc m y1 o o _ (by omega) (by omega) U6 a6 (Lib.hid (rfl))).mono ?_
  rintro e w7 ⟨rfl, bb⟩
  have B7 := Lib.hid (below_then B6.out bb)
  have S7 := Lib.hid (S6.out.keep bb)
  have R7 := Lib.hid (R6.out.keep bb)
  have Q7 := Lib.hid (Q6.out.keep bb)
  have a7 := Lib.hid (a6.out.keep bb)
  have b7 := Lib.hid (b6.out.keep bb)
  have T7 := Lib.hid (T6.out.keep bb)
  have U7 := Lib.hid (U6.out.keep bb)
  clear bb B6 S6 R6 Q6 a6 b6 T6 U6
  go_wp2_with fail
  go_ret
  exact ⟨rfl, B7.out⟩

set_option maxRecDepth 100000 in
set_option maxHeartbeats 4000000 in
theorem below_long1 (A Ab : Option Addr) (n c nb cb : Nat) (k : Int) (w0 : World) (hn : (60 : Int) < (n : Int)) :
    Calls Try.prog 4 #[.slice A n c, .slice Ab nb cb, .int .u8 k] w0 fun e w' => e = .returned (.bool true) ∧ Below w0.heap.size w0 w' := by
  go_enter Try.func4, Try.ntmps4
  go_wp2_with fail
  refine (shown_any _).mono ?_
  rintro e w1 ⟨rfl, bb⟩
  go_wp2
  go_ret
  exact ⟨rfl, bb⟩
set_option maxRecDepth 100000 in
set_option maxHeartbeats 4000000 in
theorem below_long2 (A Ab : Option Addr) (n c nb cb : Nat) (k : Int) (w0 : World) (hn : n ≤ 60) (hnb : (60 : Int) < (nb : Int)) :
    Calls Try.prog 4 #[.slice A n c, .slice Ab nb cb, .int .u8 k] w0 fun e w' => e = .returned (.bool true) ∧ Below w0.heap.size w0 w' := by
  have q1 : decide ((60 : Int) < (n : Int)) = false := by simp; omega
  have q2 : decide (60 < n) = false := by simp; omega
  go_enter Try.func4, Try.ntmps4
  go_wp2_with fail
  refine (shown_any _).mono ?_
  rintro e w1 ⟨rfl, bb⟩
  go_wp2
  go_ret
  exact ⟨rfl, bb⟩
theorem below_walk (A Ab : Option Addr) (n c nb cb : Nat) (l bl : List Int) (k : Int) (w0 : World) (hk : 0 ≤ k ∧ k ≤ 255) (HR : Hid (Row w0 A n c l)) (HB : Hid (Row w0 Ab nb cb bl)) :
    Calls Try.prog 4 #[.slice A n c, .slice Ab nb cb, .int .u8 k] w0 fun e w' => e = .returned (.bool true) ∧ Below w0.heap.size w0 w' := by
  by_cases h1 : 60 < n
  · exact below_long1 A Ab n c nb cb k w0 (by omega)
  by_cases h2 : 60 < nb
  · exact below_long2 A Ab n c nb cb k w0 (by omega) (by omega)
  obtain ⟨q, rfl⟩ := Int.eq_ofNat_of_zero_le hk.1
  have hj : q % 16 < namesL.length := Nat.mod_lt _ (by decide)
  have hs : namesL[q % 16]? = some namesL[q % 16] := List.getElem?_eq_getElem hj
  have hl := HR.out.len
  have hlb := HB.out.len
  rcases lower_all _ _ hs with hd | ⟨hlo, hne⟩
  · rw [hd] at hs
    exact below_dep A Ab n c nb cb l bl [] [] 0 0 q (q % 16) ⟨#[]⟩ w0 (by omega) (by omega) (by omega) (by omega) (by omega) hs HR HB
  · rcases word_all _ _ hs l with hu | ⟨o, ho, hol⟩
    · rcases word_all _ _ hs ([] ++ bl ++ l) with hu2 | ⟨o2, ho2, hol2⟩
      · exact below_uu A Ab n c nb cb l bl [] [] 0 0 q (q % 16) _ w0 (by omega) (by omega) (by omega) (by omega) (by omega) hs HR HB hu hu2
      · exact below_uo A Ab n c nb cb l bl [] o2 0 o2.length q (q % 16) _ w0 (by omega) (by omega) (by omega) (by omega) (by omega) hs HR HB hu (by simp at hol2; omega) ho2 rfl
    · exact below_oth A Ab n c nb cb l bl o [] o.length 0 q (q % 16) _ w0 (by omega) (by omega) (by omega) (by omega) (by omega) hs HR HB (by omega) hlo ho rfl (str_no hne)
end Go.Proofs.Ytjeapcpicagobaa
