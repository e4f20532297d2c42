/- Contracts of the program's isFrom, Fits, isKind, Kind, Names, Specials, Start. -/
import Derived.Test.YtbighilgkmfemaaDoorVmKind
import Derived.Test.YtbighilgkmfemaaDoorVmFits
import Derived.Test.YtbighilgkmfemaaDoorVmNames
import Derived.Test.YtbighilgkmfemaaDoorSetE
namespace Go.Proofs.YtbighilgkmfemaaDoor
open Go.RowKit
set_option linter.unusedVariables false
set_option linter.unusedSimpArgs false

set_option maxRecDepth 100000 in
set_option maxHeartbeats 4000000 in
theorem isfrom_any (n a b : Int) (w : World) : Calls Tryd.prog 23 #[.int .i64 n, .int .i64 a, .int .i64 b] w fun e w' => e = .returned (.bool (decide (a ≤ n ∧ n ≤ b))) ∧ w = w' := by
  go_enter Tryd.func23, Tryd.ntmps23
  go_wp2
  all_goals go_ret
  all_goals refine ⟨ret_bool ?_, rfl⟩
  all_goals (rw [Bool.eq_iff_iff]; simp only [decide_eq_true_eq, Bool.and_eq_true, Bool.or_eq_true, Bool.false_eq_true, true_iff, false_iff, iff_true, iff_false]; omega)
set_option maxRecDepth 100000 in
set_option maxHeartbeats 4000000 in
theorem fits_any (m d r v o : Int) (w : World) : Calls Tryd.prog 6 #[.agg #[.int .i64 m, .int .i64 d, .int .i64 r, .int .i64 v, .int .i64 o]] w fun e w' => e = .returned (.bool (fitsB m d r v o)) ∧ Below w.heap.size w w' := by
  obtain ⟨F, hF⟩ : ∃ F, fitsB m d r v o = F := ⟨_, rfl⟩
  have HF := Lib.hid hF
  rw [hF]
  clear hF
  go_enter Tryd.func6, Tryd.ntmps6
  go_wp2_with (go_at_call 23; refine (isfrom_any _ _ _ _).mono ?_; rintro e w' ⟨rfl, rfl⟩)
  all_goals go_ret
  all_goals refine ⟨ret_bool ?_, al_one _ _⟩
  all_goals rw [← HF.out]
  all_goals unfold fitsB
  all_goals (rw [Bool.eq_iff_iff]; simp only [decide_eq_true_eq, Bool.and_eq_true, Bool.or_eq_true, Bool.false_eq_true, true_iff, false_iff, iff_true, iff_false]; omega)
set_option maxRecDepth 100000 in
set_option maxHeartbeats 4000000 in
theorem iskind_any (n : Int) (w : World) : Calls Tryd.prog 28 #[.int .i64 n] w fun e w' => e = .returned (.bool (codeB n)) ∧ w = w' := by
  obtain ⟨F, hF⟩ : ∃ F, codeB n = F := ⟨_, rfl⟩
  have HF := Lib.hid hF
  rw [hF]
  clear hF
  go_enter Tryd.func28, Tryd.ntmps28
  go_wp2_with (go_at_call 23; refine (isfrom_any _ _ _ _).mono ?_; rintro e w' ⟨rfl, rfl⟩)
  all_goals go_ret
  all_goals refine ⟨ret_bool ?_, rfl⟩
  all_goals rw [← HF.out]
  all_goals unfold codeB
  all_goals (rw [Bool.eq_iff_iff]; simp only [decide_eq_true_eq, Bool.and_eq_true, Bool.or_eq_true, Bool.false_eq_true, true_iff, false_iff, iff_true, iff_false]; omega)
set_option maxRecDepth 100000 in
set_option maxHeartbeats 4000000 in
theorem vkind_any (k : VmK) (m : PM) (p : Int) (w : World) (HM : Hid (IsMem w (.agg #[.slice k.mA k.mn k.mc, .slice k.pA k.pn k.pc]) m)) (hL : k.mn ≤ 65536) :
    Calls Tryd.prog 10 #[vmV k, .int .i64 p] w fun e w' => e = .returned (.tuple #[.int .i64 (kindV m k.mn p), .int .i64 (kindC m k.mn p)]) ∧ Below w.heap.size w w' := by
  have kk := al_one w (.cells #[.int .i64 k.cm, .int .i64 k.cd, .int .i64 k.cr, .int .i64 k.cw, .int .i64 k.co, .slice k.mA k.mn k.mc, .slice k.pA k.pn k.pc, .int .i64 k.here, .slice k.dA k.dn k.dc, .slice k.rA k.rn k.rc, .slice k.fA k.fn k.fc, .slice k.wA k.wn k.wc, .int .i64 k.last, .slice k.oA k.on k.oc, .slice k.qA k.qn k.qc, .bool k.qo, .slice k.eA k.en k.ec, .int .i64 k.free, .int .i64 k.next, .int .i64 k.arg, .int .i64 k.self, .int .i64 k.now, .slice k.hA k.hn k.hc] 37)
  have HB := Lib.hid kk
  have HC := Lib.hid (fetch_at k.mA k.pA k.mn k.mc k.pn k.pc m p _ (Lib.hid (HM.out.keep kk)) hL)
  clear kk
  obtain ⟨V, hV⟩ : ∃ V, kindV m k.mn p = V := ⟨_, rfl⟩
  obtain ⟨E, hE⟩ : ∃ E, kindC m k.mn p = E := ⟨_, rfl⟩
  have HV : Hid (V = kindV m k.mn p) := hV.symm
  have HE : Hid (E = kindC m k.mn p) := hE.symm
  rw [hV, hE]
  clear hV hE
  unfold kindV at HV
  unfold kindC at HE
  obtain ⟨C, hC⟩ : ∃ C, cellC k.mn p = C := ⟨_, rfl⟩
  obtain ⟨F, hF⟩ : ∃ F, fetchF m p = F := ⟨_, rfl⟩
  rw [hC, hF] at HC HV HE
  clear hC hF HM
  by_cases h0 : C = 0
  · subst h0
    obtain ⟨b, hb⟩ : ∃ b, codeB F = b := ⟨_, rfl⟩
    have Hb := Lib.hid hb
    clear hb
    go_enter Tryd.func10, Tryd.ntmps10
    go_wp2_with fail
    refine HC.out.mono ?_
    rintro e w1 ⟨rfl, bb⟩
    have HB1 := Lib.hid (below_then HB.out bb)
    have HK := Lib.hid (iskind_any F w1)
    rw [Hb.out] at HK
    clear bb HC
    cases b with
    | true =>
      have H1 : Hid (V = F) := by show _ = _; rw [HV.out, Hb.out]; rfl
      have H2 : Hid (E = 0) := by show _ = _; rw [HE.out, Hb.out]; rfl
      clear HV HE
      go_wp2_with (go_at_call 28; refine HK.out.mono ?_; rintro e w' ⟨rfl, rfl⟩)
      go_ret2
      exact ⟨by rw [H1.out, H2.out]; rfl, HB1.out⟩
    | false =>
      have H1 : Hid (V = 0) := by show _ = _; rw [HV.out, Hb.out]; rfl
      have H2 : Hid (E = -9) := by show _ = _; rw [HE.out, Hb.out]; rfl
      clear HV HE
      go_wp2_with (go_at_call 28; refine HK.out.mono ?_; rintro e w' ⟨rfl, rfl⟩)
      go_ret2
      exact ⟨by rw [H1.out, H2.out]; rfl, HB1.out⟩
  · have H1 : Hid (V = 0) := by show _ = _; rw [HV.out, if_neg (fun h => h0 h.1)]
    have H2 : Hid (E = C) := by show _ = _; rw [HE.out, if_neg h0]
    have hz : (C == 0) = false := by simpa using h0
    clear HV HE
    go_enter Tryd.func10, Tryd.ntmps10
    go_wp2_with fail
    refine HC.out.mono ?_
    rintro e w1 ⟨rfl, bb⟩
    have HB1 := Lib.hid (below_then HB.out bb)
    clear bb HC
    go_wp2_with fail
    go_ret2
    exact ⟨by rw [H1.out, H2.out]; rfl, HB1.out⟩
set_option maxRecDepth 100000 in
def primT : List UInt8 := [10, 40, 101, 120, 105, 116, 41, 32, 40, 108, 105, 116, 41, 32, 40, 98, 114, 97, 110, 99, 104, 41, 32, 40, 48, 98, 114, 97, 110, 99, 104, 41, 32, 40, 100, 111, 41, 32, 40, 63, 100, 111, 41, 32, 40, 108, 111, 111, 112, 41, 32, 40, 43, 108, 111, 111, 112, 41, 32, 40, 104, 97, 108, 116, 41, 32, 40, 99, 97, 117, 103, 104, 116, 41, 10, 40, 100, 111, 101, 115, 41, 32, 40, 115, 116, 114, 41, 32, 69, 88, 69, 67, 85, 84, 69, 32, 67, 65, 84, 67, 72, 32, 84, 72, 82, 79, 87, 32, 73, 32, 74, 32, 85, 78, 76, 79, 79, 80, 32, 62, 82, 32, 82, 62, 10, 82, 64, 32, 50, 62, 82, 32, 50, 82, 62, 32, 68, 85, 80, 32, 68, 82, 79, 80, 32, 83, 87, 65, 80, 32, 79, 86, 69, 82, 32, 82, 79, 84, 32, 45, 82, 79, 84, 32, 78, 73, 80, 10, 84, 85, 67, 75, 32, 63, 68, 85, 80, 32, 50, 68, 85, 80, 32, 50, 68, 82, 79, 80, 32, 50, 83, 87, 65, 80, 32, 50, 79, 86, 69, 82, 32, 80, 73, 67, 75, 32, 82, 79, 76, 76, 32, 68, 69, 80, 84, 72, 32, 43, 10, 45, 32, 42, 32, 47, 32, 77, 79, 68, 32, 65, 78, 68, 32, 79, 82, 32, 88, 79, 82, 32, 76, 83, 72, 73, 70, 84, 32, 82, 83, 72, 73, 70, 84, 32, 77, 73, 78, 10, 77, 65, 88, 32, 61, 32, 60, 62, 32, 60, 32, 62, 32, 60, 61, 32, 62, 61, 32, 85, 60, 32, 85, 62, 32, 78, 69, 71, 65, 84, 69, 10, 65, 66, 83, 32, 73, 78, 86, 69, 82, 84, 32, 49, 43, 32, 49, 45, 32, 50, 42, 32, 50, 47, 32, 48, 61, 32, 48, 60, 32, 48, 60, 62, 32, 48, 62, 10, 67, 69, 76, 76, 83, 32, 67, 69, 76, 76, 43, 32, 65, 76, 73, 71, 78, 69, 68, 32, 47, 77, 79, 68, 32, 42, 47, 32, 42, 47, 77, 79, 68, 32, 85, 77, 42, 32, 85, 77, 47, 77, 79, 68, 32, 77, 42, 32, 83, 77, 47, 82, 69, 77, 10, 70, 77, 47, 77, 79, 68, 32, 83, 62, 68, 32, 87, 73, 84, 72, 73, 78, 32, 64, 32, 33, 32, 43, 33, 32, 67, 64, 32, 67, 33, 32, 50, 64, 32, 50, 33, 10, 70, 73, 76, 76, 32, 77, 79, 86, 69, 32, 67, 79, 85, 78, 84, 32, 72, 69, 82, 69, 32, 65, 76, 76, 79, 84, 32, 44, 32, 67, 44, 32, 65, 76, 73, 71, 78, 32, 66, 65, 83, 69, 32, 83, 84, 65, 84, 69, 10, 84, 82, 85, 69, 32, 70, 65, 76, 83, 69, 32, 66, 76, 32, 68, 69, 67, 73, 77, 65, 76, 32, 72, 69, 88, 32, 69, 77, 73, 84, 32, 67, 82, 32, 83, 80, 65, 67, 69, 32, 83, 80, 65, 67, 69, 83, 32, 84, 89, 80, 69, 10, 46, 32, 85, 46, 32, 60, 35, 32, 35, 32, 35, 83, 32, 72, 79, 76, 68, 32, 83, 73, 71, 78, 32, 35, 62, 32, 62, 66, 79, 68, 89, 32, 65, 66, 79, 82, 84, 10, 80, 79, 83, 84, 32, 65, 70, 84, 69, 82, 32, 69, 86, 69, 82, 89, 32, 67, 65, 78, 67, 69, 76, 32, 65, 82, 71, 32, 83, 69, 76, 70, 32, 78, 79, 87, 32, 83, 69, 84, 45, 83, 84, 65, 84, 69, 32, 65, 84, 45, 83, 84, 65, 84, 69, 32, 71, 69, 84, 45, 83, 84, 65, 84, 69, 10]
set_option maxRecDepth 100000 in
def specT : List UInt8 := [10, 58, 32, 59, 32, 67, 82, 69, 65, 84, 69, 32, 68, 79, 69, 83, 62, 32, 86, 65, 82, 73, 65, 66, 76, 69, 32, 67, 79, 78, 83, 84, 65, 78, 84, 32, 73, 77, 77, 69, 68, 73, 65, 84, 69, 32, 39, 32, 91, 39, 93, 32, 67, 72, 65, 82, 10, 91, 67, 72, 65, 82, 93, 32, 76, 73, 84, 69, 82, 65, 76, 32, 80, 79, 83, 84, 80, 79, 78, 69, 32, 82, 69, 67, 85, 82, 83, 69, 32, 73, 70, 32, 69, 76, 83, 69, 32, 84, 72, 69, 78, 32, 66, 69, 71, 73, 78, 32, 87, 72, 73, 76, 69, 32, 82, 69, 80, 69, 65, 84, 10, 85, 78, 84, 73, 76, 32, 65, 71, 65, 73, 78, 32, 68, 79, 32, 63, 68, 79, 32, 76, 79, 79, 80, 32, 43, 76, 79, 79, 80, 32, 76, 69, 65, 86, 69, 32, 83, 34, 32, 46, 34, 32, 40, 10, 92, 32, 91, 32, 93, 32, 70, 79, 82, 71, 69, 84, 32, 77, 65, 67, 72, 73, 78, 69, 32, 79, 78, 58, 32, 69, 88, 73, 84, 10]
theorem prim_fields : Lib.fields primT = primL := by kernel_rfl
theorem spec_fields : Lib.fields specT = specL := by kernel_rfl
set_option maxRecDepth 100000 in
set_option maxHeartbeats 4000000 in
theorem names_any (w : World) (HT : Tab w) : Calls Tryd.prog 7 #[] w fun e w' => e = .returned (.slice (some ⟨w.heap.size, 0, none⟩) 130 130) ∧ Sts w' (.slice (some ⟨w.heap.size, 0, none⟩) 130 130) primL ∧ Below w.heap.size w w' := by
  have HC := Lib.hid (fields_any primT w (by rw [show primT.length = 623 from by kernel_rfl]; decide) (by kernel_rfl) HT primL prim_fields)
  clear HT
  go_enter Tryd.func7, Tryd.ntmps7
  go_wp2_with fail
  refine HC.out.mono ?_
  rintro e w1 ⟨rfl, rfl⟩
  go_wp2_with fail
  go_ret
  exact ⟨rfl, sts_block (l := primL) (one_newN w _ _) (by decide), al_one _ _⟩
set_option maxRecDepth 100000 in
set_option maxHeartbeats 4000000 in
theorem specials_any (w : World) (HT : Tab w) : Calls Tryd.prog 8 #[] w fun e w' => e = .returned (.slice (some ⟨w.heap.size, 0, none⟩) 37 37) ∧ Sts w' (.slice (some ⟨w.heap.size, 0, none⟩) 37 37) specL ∧ Below w.heap.size w w' := by
  have HC := Lib.hid (fields_any specT w (by rw [show specT.length = 195 from by kernel_rfl]; decide) (by kernel_rfl) HT specL spec_fields)
  clear HT
  go_enter Tryd.func8, Tryd.ntmps8
  go_wp2_with fail
  refine HC.out.mono ?_
  rintro e w1 ⟨rfl, rfl⟩
  go_wp2_with fail
  go_ret
  exact ⟨rfl, sts_block (l := specL) (one_newN w _ _) (by decide), al_one _ _⟩
set_option maxRecDepth 100000 in
set_option maxHeartbeats 4000000 in
theorem start_any (w : World) : Calls Tryd.prog 12 #[] w fun e w' => e = .returned (.int .i64 1368) ∧ w = w' := by
  go_enter Tryd.func12, Tryd.ntmps12
  go_wp2
  go_ret
  exact ⟨rfl, rfl⟩
end Go.Proofs.YtbighilgkmfemaaDoor
