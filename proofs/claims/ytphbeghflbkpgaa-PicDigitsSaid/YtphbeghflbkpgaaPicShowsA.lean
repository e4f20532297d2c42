/- The walk of PicShows. -/
import Derived.Test.YtphbeghflbkpgaaSetD
namespace Go.Proofs.Ytphbeghflbkpgaa
open Go.RowKit
set_option linter.unusedVariables false
set_option linter.unusedSimpArgs false

theorem pair_low (n : Int) : pairN n 0 = un n := by
  unfold pairN
  rw [show un 0 = 0 by decide +kernel]
  omega
theorem figs_us {n b : Int} (hb : baseB b = true) : figs n 0 b = ushowF n b := by unfold figs ushowF; rw [if_pos hb, pair_low]
theorem shows_all {n b : Int} (hb : baseB b = true) : allL true [] n 0 b = (ushowF n b).reverse ∧ allC true [] n 0 b = 0 := by
  have h := ushow_len n b
  have hok : allOK true [] n 0 b = true := by
    unfold allOK
    rw [hb, figs_us hb]
    simp
    omega
  refine ⟨?_, ?_⟩
  · unfold allL; rw [if_pos hok, figs_us hb]; rfl
  · unfold allC; rw [if_pos hb, if_pos hok]
theorem shows_bad {n b : Int} (hb : baseB b = false) : allL true [] n 0 b = [] ∧ allC true [] n 0 b = -24 ∧ showC b = -24 := by
  have hno : allOK true [] n 0 b = false := by unfold allOK; rw [hb]; rfl
  refine ⟨pall_no hno, ?_, ?_⟩
  · unfold allC; rw [if_neg (by simp [hb])]
  · unfold showC; rw [if_neg (by simp [hb])]
theorem sfact_pos {n b : Int} (hb : baseB b = true) (h0 : 0 ≤ n) (h1 : n ≤ 9223372036854775807) : signL true (ushowF n b).reverse n = (showF n b).reverse ∧ signC true (ushowF n b).reverse n = 0 := by
  have e : un n = n.toNat := by have := un_mod n; omega
  refine ⟨?_, ?_⟩
  · unfold signL; rw [if_neg (by omega)]
    unfold ushowF showF
    rw [if_pos hb, if_pos hb, if_pos h0, e]
  · unfold signC; rw [if_neg (by omega)]
theorem sfact_neg {n b : Int} (hb : baseB b = true) (h0 : n < 0) (h1 : -9223372036854775808 ≤ n) : signL true (ushowF (wrap64 (-n)) b).reverse n = (showF n b).reverse ∧ signC true (ushowF (wrap64 (-n)) b).reverse n = 0 := by
  have hl := ushow_len (wrap64 (-n)) b
  have hk : pOpen true (ushowF (wrap64 (-n)) b).reverse = true := (pOpen_iff _ _).2 ⟨rfl, by rw [List.length_reverse]; omega⟩
  have e : un (wrap64 (-n)) = (-n).toNat := by have := un_mod (wrap64 (-n)); unfold wrap64 at this ⊢; omega
  refine ⟨?_, ?_⟩
  · unfold signL holdL; rw [if_pos h0, if_pos hk]
    unfold ushowF showF
    rw [if_pos hb, if_pos hb, if_neg (by omega), e]
    rw [show byteI 45 = 45 by decide +kernel]
    simp
  · unfold signC holdC; rw [if_pos h0, if_pos hk]
theorem end_on (l : List UInt8) : endL true l.reverse = l ∧ endC true = 0 := by unfold endL endC; simp
set_option maxRecDepth 100000 in
set_option maxHeartbeats 8000000 in
theorem shows_no (n b : Int) (w : World) (h0 : -9223372036854775808 ≤ n) (h1 : n ≤ 9223372036854775807) (hcb : cellR b) (hb : baseB b = false) :
    Calls Try.prog 5 #[.int .i64 n, .int .i64 b] w fun e w' => e = .returned (.bool true) ∧ Below w.heap.size w w' := by
  have HN : Hid (cellR n) := ⟨h0, h1⟩
  have HZ : Hid (cellR 0) := by show cellR 0; unfold cellR; omega
  have HBB := Lib.hid hcb
  obtain ⟨q1, q2, q3⟩ := shows_bad (n := n) hb
  have HA := Lib.hid q1
  have HAC := Lib.hid q2
  have HC := Lib.hid q3
  have HM : Hid (([] : List UInt8).length ≤ 1000) := by show _ ≤ _; simp
  obtain ⟨U, eU⟩ : ∃ U, strB (ushowF n b) = U := ⟨_, rfl⟩
  have HU := Lib.hid eU
  obtain ⟨E, eE⟩ : ∃ E, strB (endL true []) = E := ⟨_, rfl⟩
  have HE := Lib.hid eE
  have HEC : Hid (endC true = 0) := rfl
  clear q1 q2 q3 eU eE h0 h1 hcb hb
  go_enter Try.func5, Try.ntmps5
  have B0 : Hid (Below w.heap.size w w) := Below.refl _ _
  go_wp2_with fail
  refine (shown_any7 _).mono ?_
  rintro e w1 ⟨rfl, bb⟩
  have B1 := Lib.hid (below_then B0.out bb)
  clear bb B0
  go_wp2_with fail
  refine (rushow_any n b _).mono ?_
  rw [HU.out, HC.out]
  rintro e w2 ⟨rfl, bb⟩
  have B2 := Lib.hid (below_then B1.out bb)
  clear bb B1
  go_wp2_with fail
  refine (begin_any _).mono ?_
  rintro e w3 ⟨A0, n0, c0, rfl, hy, bb⟩
  have B3 := Lib.hid (below_then B2.out bb)
  have S3 := Lib.hid hy
  clear bb B2 hy
  go_wp2_with fail
  refine (all_any _ _ _ true [] n 0 b _ S3.out (by simp) HN.out HZ.out HBB.out).mono ?_
  rw [HA.out, HAC.out]
  rintro e w4 ⟨A1, n1, c1, rfl, hy, bb⟩
  have Sp := Lib.hid (S3.out.keep bb)
  have S4 := Lib.hid (Sp.out.keep (al_one _ (.cells #[.slice A1 n1 c1, .bool true] 24)))
  have B4 := Lib.hid (below_then (below_then B3.out bb) (al_one _ (.cells #[.slice A1 n1 c1, .bool true] 24)))
  have P4 := Lib.hid (pat_new (o := true) hy)
  clear bb S3 B3 hy
  clear S4 Sp
  go_wp2_with fail
  refine (end_any _ _ _ true _ _ P4.out.byt HM.out).mono ?_
  rw [HE.out, HEC.out]
  rintro e w5 ⟨rfl, bb⟩
  have P5 := Lib.hid (P4.out.keep bb)
  have B5 := Lib.hid (below_then B4.out bb)
  clear bb P4 B4
  have SB : Hid (∀ a, Below w5.heap.size w5 a → (a.cell? ⟨w4.heap.size, 0, none⟩ = some (.slice A1 n1 c1) ∧ a.cell? ⟨w4.heap.size, 1, none⟩ = some (.bool true) ∧ Below w5.heap.size w5 a)) := Lib.hid fun a h => ⟨(P5.out.keep h).use.1, (P5.out.keep h).use.2, h⟩
  go_wp2_with fail
  refine wp_region_noPanic ?_
  go_region_held3 (fun a => a.cell? ⟨w4.heap.size, 0, none⟩ = some (.slice A1 n1 c1) ∧ a.cell? ⟨w4.heap.size, 1, none⟩ = some (.bool true) ∧ Below w5.heap.size w5 a) (first | assumption | exact SB.out _ (since_d _))
    (first
      | (go_at_call 14; ((with_reducible refine (begin_any _).mono ?_); rintro eb wb ⟨A9, n9, c9, rfl, hy9, bv⟩; have sb := SB.out _ (below_then (by assumption : _ ∧ _ ∧ Below w5.heap.size w5 _).2.2 bv)))
      | (go_at_call 13; ((with_reducible refine (rsame_any A1 A9 n1 c1 n9 c9 true true [] [] _ (P5.out.keep (by assumption : _ ∧ _ ∧ Below w5.heap.size w5 _).2.2).byt hy9).mono ?_); rw [psame_refl]; rintro ed wd ⟨rfl, bx⟩; have sd := SB.out _ (below_then (by assumption : _ ∧ _ ∧ Below w5.heap.size w5 _).2.2 bx))))
  all_goals (refine NoPanic.normal ?_)
  all_goals (have BD := Lib.hid (below_then B5.out sd.2.2))
  all_goals go_wp2_with fail
  all_goals go_ret
  all_goals exact ⟨rfl, BD.out⟩
set_option maxRecDepth 100000 in
set_option maxHeartbeats 8000000 in
theorem shows_pos (n b : Int) (w : World) (h0 : -9223372036854775808 ≤ n) (h1 : n ≤ 9223372036854775807) (hcb : cellR b) (hb : baseB b = true) (hn : 0 ≤ n) :
    Calls Try.prog 5 #[.int .i64 n, .int .i64 b] w fun e w' => e = .returned (.bool true) ∧ Below w.heap.size w w' := by
  have HN : Hid (cellR n) := ⟨h0, h1⟩
  have HZ : Hid (cellR 0) := by show cellR 0; unfold cellR; omega
  have HBB := Lib.hid hcb
  obtain ⟨q1, q2⟩ := shows_all (n := n) hb
  have HA := Lib.hid q1
  have HAC := Lib.hid q2
  obtain ⟨q3, q4⟩ := shows_all (n := n) hb
  have HB := Lib.hid q3
  have HBC := Lib.hid q4
  obtain ⟨q5, q6⟩ := sfact_pos hb hn h1
  have HG := Lib.hid q5
  have HGC := Lib.hid q6
  have HC : Hid (showC b = 0) := by show _ = _; unfold showC; rw [if_pos hb]
  have HM : Hid ((ushowF n b).reverse.length ≤ 1000) := by show _ ≤ _; have := ushow_len n b; rw [List.length_reverse]; omega
  have HM2 : Hid ((ushowF n b).reverse.length ≤ 1000) := by show _ ≤ _; have := ushow_len n b; rw [List.length_reverse]; omega
  have HSZ : Hid (cellR n) := ⟨h0, h1⟩
  obtain ⟨U, eU⟩ : ∃ U, strB (ushowF n b) = U := ⟨_, rfl⟩
  have HU := Lib.hid eU
  have HE : Hid (strB (endL true (ushowF n b).reverse) = U) := by show _ = _; rw [(end_on _).1]; exact eU
  have HEC : Hid (endC true = 0) := rfl
  obtain ⟨V, eV⟩ : ∃ V, strB (showF n b) = V := ⟨_, rfl⟩
  have HV := Lib.hid eV
  have HF : Hid (strB (endL true (showF n b).reverse) = V) := by show _ = _; rw [(end_on _).1]; exact eV
  have HM3 : Hid ((showF n b).reverse.length ≤ 1000) := by show _ ≤ _; rw [← HG.out]; have h3 := signL_len true (ushowF n b).reverse n; have h4 := ushow_len n b; rw [List.length_reverse] at h3; omega
  have hn1 : decide (n < 0) = false := by simp; omega
  clear q1 q2 q3 q4 q5 q6 eU eV hcb hb hn
  go_enter Try.func5, Try.ntmps5
  have B0 : Hid (Below w.heap.size w w) := Below.refl _ _
  go_wp2_with fail
  refine (shown_any7 _).mono ?_
  rintro e w1 ⟨rfl, bb⟩
  have B1 := Lib.hid (below_then B0.out bb)
  clear bb B0
  go_wp2_with fail
  refine (rushow_any n b _).mono ?_
  rw [HU.out, HC.out]
  rintro e w2 ⟨rfl, bb⟩
  have B2 := Lib.hid (below_then B1.out bb)
  clear bb B1
  go_wp2_with fail
  refine (begin_any _).mono ?_
  rintro e w3 ⟨A0, n0, c0, rfl, hy, bb⟩
  have B3 := Lib.hid (below_then B2.out bb)
  have S3 := Lib.hid hy
  clear bb B2 hy
  go_wp2_with fail
  refine (all_any _ _ _ true [] n 0 b _ S3.out (by simp) HN.out HZ.out HBB.out).mono ?_
  rw [HA.out, HAC.out]
  rintro e w4 ⟨A1, n1, c1, rfl, hy, bb⟩
  have Sp := Lib.hid (S3.out.keep bb)
  have S4 := Lib.hid (Sp.out.keep (al_one _ (.cells #[.slice A1 n1 c1, .bool true] 24)))
  have B4 := Lib.hid (below_then (below_then B3.out bb) (al_one _ (.cells #[.slice A1 n1 c1, .bool true] 24)))
  have P4 := Lib.hid (pat_new (o := true) hy)
  clear bb S3 B3 hy
  clear S4 Sp
  go_wp2_with fail
  refine (end_any _ _ _ true _ _ P4.out.byt HM.out).mono ?_
  rw [HE.out, HEC.out]
  rintro e w5 ⟨rfl, bb⟩
  have P5 := Lib.hid (P4.out.keep bb)
  have B5 := Lib.hid (below_then B4.out bb)
  clear bb P4 B4
  clear P5
  go_wp2_with fail
  refine (begin_any _).mono ?_
  rintro e w6 ⟨A2, n2, c2, rfl, hy, bb⟩
  have B6 := Lib.hid (below_then B5.out bb)
  have S6 := Lib.hid hy
  clear bb B5 hy
  go_wp2_with fail
  refine (all_any _ _ _ true [] n 0 b _ S6.out (by simp) HSZ.out HZ.out HBB.out).mono ?_
  rw [HB.out, HBC.out]
  rintro e w7 ⟨A3, n3, c3, rfl, hy, bb⟩
  have Sp := Lib.hid (S6.out.keep bb)
  have S7 := Lib.hid (Sp.out.keep (al_one _ (.cells #[.slice A3 n3 c3, .bool true] 24)))
  have HSIZE : Hid (w.heap.size ≤ w7.heap.size) := Lib.hid (below_then B6.out bb).size
  have B7 := Lib.hid (below_then (below_then B6.out bb) (al_one _ (.cells #[.slice A3 n3 c3, .bool true] 24)))
  have Q7 := Lib.hid (pat_new (o := true) hy)
  clear bb S6 B6 hy
  clear S7 Sp
  go_wp2_with fail
  refine (sign_any _ _ _ true _ n _ Q7.out.byt HM2.out).mono ?_
  rw [HG.out, HGC.out]
  rintro e w8 ⟨A4, n4, c4, rfl, hy, bb⟩
  have Q8 := Lib.hid (Q7.out.keep bb)
  have B8 := Lib.hid (below_then B7.out bb)
  have Y8 := Lib.hid hy
  clear bb Q7 B7 hy
  obtain ⟨q0, q1, q2, q3⟩ := Box.use Q8.out.1
  have lq := Box.lt Q8.out.1
  obtain ⟨w9, hw9⟩ : ∃ w9, (w8.setCell ⟨w7.heap.size, 0, none⟩ (.slice A4 n4 c4)).setCell ⟨w7.heap.size, 1, none⟩ (.bool true) = w9 := ⟨_, rfl⟩
  have hq9 : PAt w7.heap.size A4 n4 c4 true _ _ := pat_set (o' := true) Q8.out.1 Y8.out
  have hb9 := below_pset B8.out (b := w7.heap.size) HSIZE.out (.slice A4 n4 c4) (.bool true)
  rw [hw9] at hq9 hb9
  have HW9 := Lib.hid hw9
  have Q9 := Lib.hid hq9
  have B9 := Lib.hid hb9
  clear hq9 hb9 hw9 Q8 Y8 B8
  go_wp2_with fail
  rw [HW9.out]
  refine (end_any _ _ _ true _ _ Q9.out.byt HM3.out).mono ?_
  rw [HF.out, HEC.out]
  rintro e w10 ⟨rfl, bb⟩
  have Q10 := Lib.hid (Q9.out.keep bb)
  have B10 := Lib.hid (below_then B9.out bb)
  clear bb q0 q1 q2 q3 lq Q9 B9
  clear Q10
  go_wp2_with fail
  refine (rshow_any n b _ HN.out.1 HN.out.2).mono ?_
  rw [HV.out, HC.out]
  rintro e w11 ⟨rfl, bb⟩
  have B11 := Lib.hid (below_then B10.out bb)
  clear bb B10
  go_wp2_with fail
  go_ret
  exact ⟨rfl, B11.out⟩
set_option maxRecDepth 100000 in
set_option maxHeartbeats 8000000 in
theorem shows_neg (n b : Int) (w : World) (h0 : -9223372036854775808 ≤ n) (h1 : n ≤ 9223372036854775807) (hcb : cellR b) (hb : baseB b = true) (hn : n < 0) :
    Calls Try.prog 5 #[.int .i64 n, .int .i64 b] w fun e w' => e = .returned (.bool true) ∧ Below w.heap.size w w' := by
  have HN : Hid (cellR n) := ⟨h0, h1⟩
  have HZ : Hid (cellR 0) := by show cellR 0; unfold cellR; omega
  have HBB := Lib.hid hcb
  obtain ⟨q1, q2⟩ := shows_all (n := n) hb
  have HA := Lib.hid q1
  have HAC := Lib.hid q2
  obtain ⟨q3, q4⟩ := shows_all (n := (wrap64 (-n))) hb
  have HB := Lib.hid q3
  have HBC := Lib.hid q4
  obtain ⟨q5, q6⟩ := sfact_neg hb hn h0
  have HG := Lib.hid q5
  have HGC := Lib.hid q6
  have HC : Hid (showC b = 0) := by show _ = _; unfold showC; rw [if_pos hb]
  have HM : Hid ((ushowF n b).reverse.length ≤ 1000) := by show _ ≤ _; have := ushow_len n b; rw [List.length_reverse]; omega
  have HM2 : Hid ((ushowF (wrap64 (-n)) b).reverse.length ≤ 1000) := by show _ ≤ _; have := ushow_len (wrap64 (-n)) b; rw [List.length_reverse]; omega
  have HSZ : Hid (cellR (wrap64 (-n))) := pcell_wrap _
  obtain ⟨U, eU⟩ : ∃ U, strB (ushowF n b) = U := ⟨_, rfl⟩
  have HU := Lib.hid eU
  have HE : Hid (strB (endL true (ushowF n b).reverse) = U) := by show _ = _; rw [(end_on _).1]; exact eU
  have HEC : Hid (endC true = 0) := rfl
  obtain ⟨V, eV⟩ : ∃ V, strB (showF n b) = V := ⟨_, rfl⟩
  have HV := Lib.hid eV
  have HF : Hid (strB (endL true (showF n b).reverse) = V) := by show _ = _; rw [(end_on _).1]; exact eV
  have HM3 : Hid ((showF n b).reverse.length ≤ 1000) := by show _ ≤ _; rw [← HG.out]; have h3 := signL_len true (ushowF (wrap64 (-n)) b).reverse n; have h4 := ushow_len (wrap64 (-n)) b; rw [List.length_reverse] at h3; omega
  skip
  clear q1 q2 q3 q4 q5 q6 eU eV hcb hb
  go_enter Try.func5, Try.ntmps5
  have B0 : Hid (Below w.heap.size w w) := Below.refl _ _
  go_wp2_with fail
  refine (shown_any7 _).mono ?_
  rintro e w1 ⟨rfl, bb⟩
  have B1 := Lib.hid (below_then B0.out bb)
  clear bb B0
  go_wp2_with fail
  refine (rushow_any n b _).mono ?_
  rw [HU.out, HC.out]
  rintro e w2 ⟨rfl, bb⟩
  have B2 := Lib.hid (below_then B1.out bb)
  clear bb B1
  go_wp2_with fail
  refine (begin_any _).mono ?_
  rintro e w3 ⟨A0, n0, c0, rfl, hy, bb⟩
  have B3 := Lib.hid (below_then B2.out bb)
  have S3 := Lib.hid hy
  clear bb B2 hy
  go_wp2_with fail
  refine (all_any _ _ _ true [] n 0 b _ S3.out (by simp) HN.out HZ.out HBB.out).mono ?_
  rw [HA.out, HAC.out]
  rintro e w4 ⟨A1, n1, c1, rfl, hy, bb⟩
  have Sp := Lib.hid (S3.out.keep bb)
  have S4 := Lib.hid (Sp.out.keep (al_one _ (.cells #[.slice A1 n1 c1, .bool true] 24)))
  have B4 := Lib.hid (below_then (below_then B3.out bb) (al_one _ (.cells #[.slice A1 n1 c1, .bool true] 24)))
  have P4 := Lib.hid (pat_new (o := true) hy)
  clear bb S3 B3 hy
  clear S4 Sp
  go_wp2_with fail
  refine (end_any _ _ _ true _ _ P4.out.byt HM.out).mono ?_
  rw [HE.out, HEC.out]
  rintro e w5 ⟨rfl, bb⟩
  have P5 := Lib.hid (P4.out.keep bb)
  have B5 := Lib.hid (below_then B4.out bb)
  clear bb P4 B4
  clear P5
  go_wp2_with fail
  refine (begin_any _).mono ?_
  rintro e w6 ⟨A2, n2, c2, rfl, hy, bb⟩
  have B6 := Lib.hid (below_then B5.out bb)
  have S6 := Lib.hid hy
  clear bb B5 hy
  go_wp2_with fail
  refine (all_any _ _ _ true [] (wrap64 (-n)) 0 b _ S6.out (by simp) HSZ.out HZ.out HBB.out).mono ?_
  rw [HB.out, HBC.out]
  rintro e w7 ⟨A3, n3, c3, rfl, hy, bb⟩
  have Sp := Lib.hid (S6.out.keep bb)
  have S7 := Lib.hid (Sp.out.keep (al_one _ (.cells #[.slice A3 n3 c3, .bool true] 24)))
  have HSIZE : Hid (w.heap.size ≤ w7.heap.size) := Lib.hid (below_then B6.out bb).size
  have B7 := Lib.hid (below_then (below_then B6.out bb) (al_one _ (.cells #[.slice A3 n3 c3, .bool true] 24)))
  have Q7 := Lib.hid (pat_new (o := true) hy)
  clear bb S6 B6 hy
  clear S7 Sp
  go_wp2_with fail
  refine (sign_any _ _ _ true _ n _ Q7.out.byt HM2.out).mono ?_
  rw [HG.out, HGC.out]
  rintro e w8 ⟨A4, n4, c4, rfl, hy, bb⟩
  have Q8 := Lib.hid (Q7.out.keep bb)
  have B8 := Lib.hid (below_then B7.out bb)
  have Y8 := Lib.hid hy
  clear bb Q7 B7 hy
  obtain ⟨q0, q1, q2, q3⟩ := Box.use Q8.out.1
  have lq := Box.lt Q8.out.1
  obtain ⟨w9, hw9⟩ : ∃ w9, (w8.setCell ⟨w7.heap.size, 0, none⟩ (.slice A4 n4 c4)).setCell ⟨w7.heap.size, 1, none⟩ (.bool true) = w9 := ⟨_, rfl⟩
  have hq9 : PAt w7.heap.size A4 n4 c4 true _ _ := pat_set (o' := true) Q8.out.1 Y8.out
  have hb9 := below_pset B8.out (b := w7.heap.size) HSIZE.out (.slice A4 n4 c4) (.bool true)
  rw [hw9] at hq9 hb9
  have HW9 := Lib.hid hw9
  have Q9 := Lib.hid hq9
  have B9 := Lib.hid hb9
  clear hq9 hb9 hw9 Q8 Y8 B8
  go_wp2_with fail
  rw [HW9.out]
  refine (end_any _ _ _ true _ _ Q9.out.byt HM3.out).mono ?_
  rw [HF.out, HEC.out]
  rintro e w10 ⟨rfl, bb⟩
  have Q10 := Lib.hid (Q9.out.keep bb)
  have B10 := Lib.hid (below_then B9.out bb)
  clear bb q0 q1 q2 q3 lq Q9 B9
  clear Q10
  go_wp2_with fail
  refine (rshow_any n b _ HN.out.1 HN.out.2).mono ?_
  rw [HV.out, HC.out]
  rintro e w11 ⟨rfl, bb⟩
  have B11 := Lib.hid (below_then B10.out bb)
  clear bb B10
  go_wp2_with fail
  go_ret
  exact ⟨rfl, B11.out⟩
theorem shows_any (n b : Int) (w : World) (h0 : -9223372036854775808 ≤ n) (h1 : n ≤ 9223372036854775807) (hcb : cellR b) :
    Calls Try.prog 5 #[.int .i64 n, .int .i64 b] w fun e w' => e = .returned (.bool true) ∧ Below w.heap.size w w' := by
  cases hb : baseB b with
  | false => exact shows_no n b w h0 h1 hcb hb
  | true =>
    by_cases hn : 0 ≤ n
    · exact shows_pos n b w h0 h1 hcb hb hn
    · exact shows_neg n b w h0 h1 hcb hb (by omega)
end Go.Proofs.Ytphbeghflbkpgaa
