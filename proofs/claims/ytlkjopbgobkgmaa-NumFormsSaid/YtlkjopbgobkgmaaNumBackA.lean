/- The walk of NumBack. -/
import Derived.Test.YtlkjopbgobkgmaaNumIn
namespace Go.Proofs.Ytlkjopbgobkgmaa
open Go.RowKit
set_option linter.unusedVariables false
set_option linter.unusedSimpArgs false

theorem showF_len {n : Int} (b : Int) (h0 : -9223372036854775808 ≤ n) (h1 : n ≤ 9223372036854775807) : (showF n b).length ≤ 65 := by
  unfold showF
  split
  · rename_i h
    have hb := (baseB_iff b).1 h
    split
    · have := us_le (b := b.toNat) (by omega) 63 n.toNat (by omega); omega
    · have := us_le (b := b.toNat) (by omega) 63 (-n).toNat (by omega)
      simp
      omega
  · simp
theorem parN_of {l : List UInt8} {b n : Int} (h : parseF l b = some n) : parN l b = n ∧ parB l b = true := by unfold parN parB; rw [h]; exact ⟨rfl, rfl⟩
theorem cat_one (c : UInt8) (l : List UInt8) : (⟨#[c]⟩ : ByteArray) ++ strB l = strB (c :: l) := strB_app [c] l

set_option maxRecDepth 100000 in
set_option maxHeartbeats 8000000 in
theorem nback_no (n m b ot : Int) (w : World) (h0 : -9223372036854775808 ≤ n) (h1 : n ≤ 9223372036854775807) (k0 : -9223372036854775808 ≤ m) (k1 : m ≤ 9223372036854775807) (hb : baseB b = false) :
    Calls Try.prog 4 #[.agg #[.int .i64 n, .int .i64 m, .int .i64 b, .int .i64 ot]] w fun e w' => e = .returned (.bool true) ∧ Below w.heap.size w w' := by
  have hno := (baseB_no b).1 hb
  by_cases c1 : b < 2
  · skip
    have HE : Hid (showC b = -24 ∧ strB (showF n b) = ⟨#[]⟩) := by show _ ∧ _; unfold showC showF; rw [if_neg (by simp [hb]), if_neg (by simp [hb])]; exact ⟨rfl, rfl⟩
    obtain ⟨SM, hSM⟩ : ∃ x, strB (showF m b) = x := ⟨_, rfl⟩
    have HSM := Lib.hid hSM
    clear hSM
    clear hno hb
    go_enter Try.func4, Try.ntmps4
    go_wp2_with fail
    refine (shown_any6 _).mono ?_
    rintro e w1 ⟨rfl, bb⟩
    have B1 := Lib.hid (al_then bb)
    clear bb
    go_wp2_with fail
    refine (show_any n b _ h0 h1).mono ?_
    rw [HE.out.2, HE.out.1]
    rintro e w2 ⟨rfl, bb⟩
    have B2 := Lib.hid (below_then B1.out bb)
    clear bb B1
    go_wp2_with fail
    refine (show_any m b _ k0 k1).mono ?_
    rw [HSM.out, HE.out.1]
    rintro e w3 ⟨rfl, bb⟩
    have B3 := Lib.hid (below_then B2.out bb)
    clear bb B2
    go_wp2_with fail
    go_ret
    exact ⟨rfl, B3.out⟩
  · have c1' : decide (b < 2) = false := by simp; omega
    have c2 : 36 < b := by omega
    have HE : Hid (showC b = -24 ∧ strB (showF n b) = ⟨#[]⟩) := by show _ ∧ _; unfold showC showF; rw [if_neg (by simp [hb]), if_neg (by simp [hb])]; exact ⟨rfl, rfl⟩
    obtain ⟨SM, hSM⟩ : ∃ x, strB (showF m b) = x := ⟨_, rfl⟩
    have HSM := Lib.hid hSM
    clear hSM
    clear hno hb c1
    go_enter Try.func4, Try.ntmps4
    go_wp2_with fail
    refine (shown_any6 _).mono ?_
    rintro e w1 ⟨rfl, bb⟩
    have B1 := Lib.hid (al_then bb)
    clear bb
    go_wp2_with fail
    refine (show_any n b _ h0 h1).mono ?_
    rw [HE.out.2, HE.out.1]
    rintro e w2 ⟨rfl, bb⟩
    have B2 := Lib.hid (below_then B1.out bb)
    clear bb B1
    go_wp2_with fail
    refine (show_any m b _ k0 k1).mono ?_
    rw [HSM.out, HE.out.1]
    rintro e w3 ⟨rfl, bb⟩
    have B3 := Lib.hid (below_then B2.out bb)
    clear bb B2
    go_wp2_with fail
    go_ret
    exact ⟨rfl, B3.out⟩
set_option maxRecDepth 100000 in
set_option maxHeartbeats 8000000 in
theorem back_same (n m b ot : Int) (w : World) (h0 : -9223372036854775808 ≤ n) (h1 : n ≤ 9223372036854775807) (k0 : -9223372036854775808 ≤ m) (k1 : m ≤ 9223372036854775807) (SN SM : ByteArray) (lt lx lb lu : List UInt8) (c1 : decide (b < 2) = false) (c2 : decide (36 < b) = false) (HN : Hid (strB (showF n b) = SN)) (HM : Hid (strB (showF m b) = SM)) (HC : Hid (showC b = 0)) (HT : Hid (showF n 10 = lt)) (HX : Hid (showF n 16 = lx)) (HB : Hid (showF n 2 = lb)) (HU : Hid (ushowF n b = lu)) (HP : Hid (parN (showF n b) b = n ∧ parB (showF n b) b = true)) (H35 : Hid (parN (35 :: lt) ot = n ∧ parB (35 :: lt) ot = true)) (H36 : Hid (parN (36 :: lx) ot = n ∧ parB (36 :: lx) ot = true)) (H37 : Hid (parN (37 :: lb) ot = n ∧ parB (37 :: lb) ot = true)) (HPU : Hid (parN lu b = n ∧ parB lu b = true)) (ll1 : (showF n b).length ≤ 65) (ll2 : lt.length ≤ 65) (ll3 : lx.length ≤ 65) (ll4 : lb.length ≤ 65) (ll5 : lu.length ≤ 64) (hnm : Hid (SM = SN)) (q1 : n = m) :
    Calls Try.prog 4 #[.agg #[.int .i64 n, .int .i64 m, .int .i64 b, .int .i64 ot]] w fun e w' => e = .returned (.bool true) ∧ Below w.heap.size w w' := by
  have hnm' := hnm.out
  subst hnm'
  subst q1
  have C35 := cat_one 35 lt
  have C36 := cat_one 36 lx
  have C37 := cat_one 37 lb
  have z2 : (strB lt).size ≤ 65 := ll2
  have y2 : ¬ (9223372036854775807 < 1 + (strB lt).size) := by omega
  have z3 : (strB lx).size ≤ 65 := ll3
  have y3 : ¬ (9223372036854775807 < 1 + (strB lx).size) := by omega
  have z4 : (strB lb).size ≤ 65 := ll4
  have y4 : ¬ (9223372036854775807 < 1 + (strB lb).size) := by omega
  have E1 : Hid (showC 10 = 0 ∧ showC 16 = 0 ∧ showC 2 = 0) := by show _ ∧ _; decide
  go_enter Try.func4, Try.ntmps4
  go_wp2_with fail
  refine (shown_any6 _).mono ?_
  rintro e w1 ⟨rfl, bb⟩
  have B1 := Lib.hid (al_then bb)
  clear bb
  go_wp2_with fail
  refine (show_any n b _ h0 h1).mono ?_
  rw [HN.out, HC.out]
  rintro e w2 ⟨rfl, bb⟩
  have B2 := Lib.hid (below_then B1.out bb)
  clear bb B1
  go_wp2_with fail
  refine (show_any n b _ h0 h1).mono ?_
  rw [HN.out, HC.out]
  rintro e w3 ⟨rfl, bb⟩
  have B3 := Lib.hid (below_then B2.out bb)
  clear bb B2
  skip
  go_wp2_with fail
  rw [← HN.out]
  refine (parse_any (showF n b) b _ (by omega)).mono ?_
  rw [HP.out.1, HP.out.2]
  rintro e w4 ⟨rfl, bb⟩
  have B4 := Lib.hid (below_then B3.out bb)
  clear bb B3
  go_wp2_with fail
  refine (show_any n 10 _ h0 h1).mono ?_
  rw [HT.out, E1.out.1]
  rintro e w5 ⟨rfl, bb⟩
  have B5 := Lib.hid (below_then B4.out bb)
  clear bb B4
  go_wp2_with fail
  refine (show_any n 16 _ h0 h1).mono ?_
  rw [HX.out, E1.out.2.1]
  rintro e w6 ⟨rfl, bb⟩
  have B6 := Lib.hid (below_then B5.out bb)
  clear bb B5
  go_wp2_with fail
  refine (show_any n 2 _ h0 h1).mono ?_
  rw [HB.out, E1.out.2.2]
  rintro e w7 ⟨rfl, bb⟩
  have B7 := Lib.hid (below_then B6.out bb)
  clear bb B6
  go_wp2_with fail
  refine (parse_any (35 :: lt) ot _ (by simp; omega)).mono ?_
  rw [H35.out.1, H35.out.2]
  rintro e w8 ⟨rfl, bb⟩
  have B8 := Lib.hid (below_then B7.out bb)
  clear bb B7
  go_wp2_with fail
  refine (parse_any (36 :: lx) ot _ (by simp; omega)).mono ?_
  rw [H36.out.1, H36.out.2]
  rintro e w9 ⟨rfl, bb⟩
  have B9 := Lib.hid (below_then B8.out bb)
  clear bb B8
  go_wp2_with fail
  refine (parse_any (37 :: lb) ot _ (by simp; omega)).mono ?_
  rw [H37.out.1, H37.out.2]
  rintro e w10 ⟨rfl, bb⟩
  have B10 := Lib.hid (below_then B9.out bb)
  clear bb B9
  go_wp2_with fail
  refine (ushow_any n b _ h0 h1).mono ?_
  rw [HU.out, HC.out]
  rintro e w11 ⟨rfl, bb⟩
  have B11 := Lib.hid (below_then B10.out bb)
  clear bb B10
  go_wp2_with fail
  refine (parse_any lu b _ (by omega)).mono ?_
  rw [HPU.out.1, HPU.out.2]
  rintro e w12 ⟨rfl, bb⟩
  have B12 := Lib.hid (below_then B11.out bb)
  clear bb B11
  go_wp2_with fail
  go_ret
  exact ⟨rfl, B12.out⟩
set_option maxRecDepth 100000 in
set_option maxHeartbeats 8000000 in
theorem back_other (n m b ot : Int) (w : World) (h0 : -9223372036854775808 ≤ n) (h1 : n ≤ 9223372036854775807) (k0 : -9223372036854775808 ≤ m) (k1 : m ≤ 9223372036854775807) (SN SM : ByteArray) (lt lx lb lu : List UInt8) (c1 : decide (b < 2) = false) (c2 : decide (36 < b) = false) (HN : Hid (strB (showF n b) = SN)) (HM : Hid (strB (showF m b) = SM)) (HC : Hid (showC b = 0)) (HT : Hid (showF n 10 = lt)) (HX : Hid (showF n 16 = lx)) (HB : Hid (showF n 2 = lb)) (HU : Hid (ushowF n b = lu)) (HP : Hid (parN (showF n b) b = n ∧ parB (showF n b) b = true)) (H35 : Hid (parN (35 :: lt) ot = n ∧ parB (35 :: lt) ot = true)) (H36 : Hid (parN (36 :: lx) ot = n ∧ parB (36 :: lx) ot = true)) (H37 : Hid (parN (37 :: lb) ot = n ∧ parB (37 :: lb) ot = true)) (HPU : Hid (parN lu b = n ∧ parB lu b = true)) (ll1 : (showF n b).length ≤ 65) (ll2 : lt.length ≤ 65) (ll3 : lx.length ≤ 65) (ll4 : lb.length ≤ 65) (ll5 : lu.length ≤ 64) (hnm : Hid (SN ≠ SM)) (q1 : (n == m) = false) :
    Calls Try.prog 4 #[.agg #[.int .i64 n, .int .i64 m, .int .i64 b, .int .i64 ot]] w fun e w' => e = .returned (.bool true) ∧ Below w.heap.size w w' := by
  have C35 := cat_one 35 lt
  have C36 := cat_one 36 lx
  have C37 := cat_one 37 lb
  have z2 : (strB lt).size ≤ 65 := ll2
  have y2 : ¬ (9223372036854775807 < 1 + (strB lt).size) := by omega
  have z3 : (strB lx).size ≤ 65 := ll3
  have y3 : ¬ (9223372036854775807 < 1 + (strB lx).size) := by omega
  have z4 : (strB lb).size ≤ 65 := ll4
  have y4 : ¬ (9223372036854775807 < 1 + (strB lb).size) := by omega
  have E1 : Hid (showC 10 = 0 ∧ showC 16 = 0 ∧ showC 2 = 0) := by show _ ∧ _; decide
  have hne : ((strB (showF n b)).toList == SM.toList) = false := str_ne (by rw [HN.out]; exact hnm.out)
  go_enter Try.func4, Try.ntmps4
  go_wp2_with fail
  refine (shown_any6 _).mono ?_
  rintro e w1 ⟨rfl, bb⟩
  have B1 := Lib.hid (al_then bb)
  clear bb
  go_wp2_with fail
  refine (show_any n b _ h0 h1).mono ?_
  rw [HN.out, HC.out]
  rintro e w2 ⟨rfl, bb⟩
  have B2 := Lib.hid (below_then B1.out bb)
  clear bb B1
  go_wp2_with fail
  refine (show_any m b _ k0 k1).mono ?_
  rw [HM.out, HC.out]
  rintro e w3 ⟨rfl, bb⟩
  have B3 := Lib.hid (below_then B2.out bb)
  clear bb B2
  skip
  go_wp2_with fail
  rw [← HN.out]
  refine (parse_any (showF n b) b _ (by omega)).mono ?_
  rw [HP.out.1, HP.out.2]
  rintro e w4 ⟨rfl, bb⟩
  have B4 := Lib.hid (below_then B3.out bb)
  clear bb B3
  go_wp2_with fail
  refine (show_any n 10 _ h0 h1).mono ?_
  rw [HT.out, E1.out.1]
  rintro e w5 ⟨rfl, bb⟩
  have B5 := Lib.hid (below_then B4.out bb)
  clear bb B4
  go_wp2_with fail
  refine (show_any n 16 _ h0 h1).mono ?_
  rw [HX.out, E1.out.2.1]
  rintro e w6 ⟨rfl, bb⟩
  have B6 := Lib.hid (below_then B5.out bb)
  clear bb B5
  go_wp2_with fail
  refine (show_any n 2 _ h0 h1).mono ?_
  rw [HB.out, E1.out.2.2]
  rintro e w7 ⟨rfl, bb⟩
  have B7 := Lib.hid (below_then B6.out bb)
  clear bb B6
  go_wp2_with fail
  refine (parse_any (35 :: lt) ot _ (by simp; omega)).mono ?_
  rw [H35.out.1, H35.out.2]
  rintro e w8 ⟨rfl, bb⟩
  have B8 := Lib.hid (below_then B7.out bb)
  clear bb B7
  go_wp2_with fail
  refine (parse_any (36 :: lx) ot _ (by simp; omega)).mono ?_
  rw [H36.out.1, H36.out.2]
  rintro e w9 ⟨rfl, bb⟩
  have B9 := Lib.hid (below_then B8.out bb)
  clear bb B8
  go_wp2_with fail
  refine (parse_any (37 :: lb) ot _ (by simp; omega)).mono ?_
  rw [H37.out.1, H37.out.2]
  rintro e w10 ⟨rfl, bb⟩
  have B10 := Lib.hid (below_then B9.out bb)
  clear bb B9
  go_wp2_with fail
  refine (ushow_any n b _ h0 h1).mono ?_
  rw [HU.out, HC.out]
  rintro e w11 ⟨rfl, bb⟩
  have B11 := Lib.hid (below_then B10.out bb)
  clear bb B10
  go_wp2_with fail
  refine (parse_any lu b _ (by omega)).mono ?_
  rw [HPU.out.1, HPU.out.2]
  rintro e w12 ⟨rfl, bb⟩
  have B12 := Lib.hid (below_then B11.out bb)
  clear bb B11
  go_wp2_with fail
  go_ret
  exact ⟨rfl, B12.out⟩
theorem back_walk6 (n m b ot : Int) (w : World) (h0 : -9223372036854775808 ≤ n) (h1 : n ≤ 9223372036854775807) (k0 : -9223372036854775808 ≤ m) (k1 : m ≤ 9223372036854775807) :
    Calls Try.prog 4 #[.agg #[.int .i64 n, .int .i64 m, .int .i64 b, .int .i64 ot]] w fun e w' => e = .returned (.bool true) ∧ Below w.heap.size w w' := by
  cases hb : baseB b with
  | false => exact nback_no n m b ot w h0 h1 k0 k1 hb
  | true =>
    obtain ⟨b2, b36⟩ := (baseB_iff b).1 hb
    have c1 : decide (b < 2) = false := by simp; omega
    have c2 : decide (36 < b) = false := by simp; omega
    have hc : showC b = 0 := by unfold showC; rw [if_pos hb]
    have b10 : baseB 10 = true := by decide
    have b16 : baseB 16 = true := by decide
    have bb2 : baseB 2 = true := by decide
    have p := parN_of (parse_show h0 h1 hb)
    have p35 := parN_of (parse_marked (o := ot) (c := 35) h0 h1 b10 (by decide))
    have p36 := parN_of (parse_marked (o := ot) (c := 36) h0 h1 b16 (by decide))
    have p37 := parN_of (parse_marked (o := ot) (c := 37) h0 h1 bb2 (by decide))
    have pu := parN_of (parse_ushow h0 h1 hb)
    by_cases hnm : n = m
    · exact back_same n m b ot w h0 h1 k0 k1 _ _ _ _ _ _ c1 c2 rfl rfl hc rfl rfl rfl rfl p p35 p36 p37 pu (showF_len b h0 h1) (showF_len 10 h0 h1) (showF_len 16 h0 h1) (showF_len 2 h0 h1) (ushow_len n b) (by rw [hnm]; rfl) hnm
    · exact back_other n m b ot w h0 h1 k0 k1 _ _ _ _ _ _ c1 c2 rfl rfl hc rfl rfl rfl rfl p p35 p36 p37 pu (showF_len b h0 h1) (showF_len 10 h0 h1) (showF_len 16 h0 h1) (showF_len 2 h0 h1) (ushow_len n b) (fun e => hnm ((show_same h0 h1 k0 k1 hb).1 (strB_inj e))) (by simp [hnm])
end Go.Proofs.Ytlkjopbgobkgmaa
