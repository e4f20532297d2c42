/- The contract of the program's firstMemory: a new machine's memory. -/
import Derived.Test.YtbighilgkmfemaaDoorVmHead
namespace Go.Proofs.YtbighilgkmfemaaDoor
open Go.RowKit
set_option linter.unusedVariables false
set_option linter.unusedSimpArgs false

theorem new_yes {L : Nat} (h8 : 8 ≤ L) (h6 : L ≤ 65536) (hm : L % 8 = 0) : newF (L : Int) = (List.replicate L 0, []) := by
  have : newOk (L : Int) = true := by unfold newOk; rw [decide_eq_true_eq]; omega
  unfold newF
  rw [if_pos this, Int.toNat_natCast]
theorem text_whole : textF (rowN 1368 167, []) 0 1368 = rowN 1368 167 := by
  have hl := rowN_len 1368 167
  have h : okB (rowN 1368 167).length 0 1368 = true := by rw [hl]; decide
  unfold textF
  rw [if_pos h]
  rw [show (0 : Int).toNat = 0 from rfl, show (1368 : Int).toNat = 1368 from rfl, List.drop_zero, List.take_of_length_le (by rw [hl]; exact Nat.le_refl _)]
theorem write_whole {L : Nat} (hL : 1368 ≤ L) : (writeF (List.replicate L 0, []) 0 (rowN 1368 167)).1 = rowN L 167 := by
  have h : okB (List.replicate L (0 : UInt8)).length 0 ((rowN 1368 167).length : Nat) = true := by
    rw [rowN_len, List.length_replicate]
    unfold okB
    rw [decide_eq_true_eq]
    omega
  unfold writeF
  rw [if_pos ⟨h, by intro e; have := congrArg List.length e; rw [rowN_len] at this; cases this⟩]
  exact head_whole hL
set_option maxRecDepth 100000 in
set_option maxHeartbeats 4000000 in
theorem firstmem_any (L : Nat) (w : World) (h1 : 2048 ≤ L) (h6 : L ≤ 65536) (hm8 : L % 8 = 0) :
    Calls Tryd.prog 21 #[.int .i64 (L : Int)] w fun e w' => ∃ A c, e = .returned (.agg #[.slice A L c, .slice none 0 0]) ∧ IsMem w' (.agg #[.slice A L c, .slice none 0 0]) (rowN L 167, []) ∧ Below w.heap.size w w' := by
  have HNW := Lib.hid (new_yes (L := L) (by omega) h6 hm8)
  have HWW := Lib.hid (write_whole (L := L) (by omega))
  have H6 := Lib.hid h6
  clear h1 h6 hm8
  go_enter Tryd.func21, Tryd.ntmps21
  go_wp2_with fail
  refine (new_any (L : Int) _).mono ?_
  rintro e w1 ⟨A, L1, c, P, K, d, rfl, hm, bb⟩
  obtain ⟨w0, hw0⟩ : ∃ w0, w.alloc (.cells #[.slice none 0 0, .slice none 0 0] 28) = w0 := ⟨_, rfl⟩
  have hz : Box w0 w.heap.size (.slice none 0 0) (.slice none 0 0) 28 := by rw [← hw0]; exact box_new _ _ _ _
  have hB0 : Below w.heap.size w w0 := by rw [← hw0]; exact al_one _ _
  rw [hw0] at bb
  rw [HNW.out] at hm
  have e1 := hm.len1
  have e2 := hm.len2
  simp only [List.length_replicate, List.length_nil] at e1 e2
  subst e1 e2
  have HZ := Lib.hid (hz.keep bb)
  have HB := Lib.hid (below_then hB0 bb)
  have HM := Lib.hid hm
  clear hw0 hz hB0 bb hm
  go_upto_region 2 with fail
  obtain ⟨b, hb⟩ : ∃ b, w1.heap.size = b := ⟨_, rfl⟩
  obtain ⟨W, hW⟩ : ∃ W, w1.alloc (.cells #[.slice A L c, .slice P 0 d] 28) = W := ⟨_, rfl⟩
  have hX : Box W b (.slice A L c) (.slice P 0 d) 28 := by rw [← hW, ← hb]; exact box_new _ _ _ _
  have k1 : Below w1.heap.size w1 W := by rw [← hW]; exact al_one _ _
  have hbw : w.heap.size < b := by rw [← hb]; exact HZ.out.lt
  have HX := Lib.hid hX
  have HZ1 := Lib.hid (HZ.out.keep k1)
  have HB1 := Lib.hid (below_then HB.out k1)
  have HM1 := Lib.hid (HM.out.keep k1)
  have HBW := Lib.hid hbw
  rw [hb, hW]
  clear hb hW hX k1 hbw HZ HB HM
  go_wp2_with fail
  refine (head_any _).mono ?_
  rintro e w2 ⟨A2, L2, c2, rfl, hm, bb⟩
  have e1 := hm.len1
  simp only [rowN_len] at e1
  have HC := Lib.hid (text_at A2 none L2 c2 0 0 (rowN 1368 167, []) 0 1368 w2 hm (by omega) (by omega))
  rw [text_whole] at HC
  have HX2 := Lib.hid (HX.out.keep bb)
  have HZ2 := Lib.hid (HZ1.out.keep bb)
  have HB2 := Lib.hid (below_then HB1.out bb)
  have HM2 := Lib.hid (HM1.out.keep bb)
  clear hm bb HX HZ1 HB1 HM1 e1
  go_wp2_with fail
  refine HC.out.mono ?_
  rintro e w3 ⟨B, n, e3, rfl, hby, bb⟩
  have HX3 := Lib.hid (HX2.out.keep bb)
  have HZ3 := Lib.hid (HZ2.out.keep bb)
  have HB3 := Lib.hid (below_then HB2.out bb)
  have HM3 := Lib.hid (HM2.out.keep bb)
  have HC2 := Lib.hid (write_sl _ _ (List.replicate L 0, []) (rowN 1368 167) 0 w3 HM3.out hby (by simp; exact H6.out) (by simp) (by rw [rowN_len]; omega))
  clear hby bb HX2 HZ2 HB2 HM2 HC
  obtain ⟨p0, p1, p2, p3⟩ := HX3.out.use
  go_wp2_with fail
  refine HC2.out.mono ?_
  rintro e w4 ⟨A4, L4, c4, P4, K4, d4, rfl, hm, bb⟩
  have e4 := hm.byt.len
  rw [HWW.out, rowN_len] at e4
  subst e4
  have hx := HX3.out.keep bb
  have HB4 := Lib.hid (((below_then HB3.out bb).setCell (p := ⟨b, 0, none⟩) (Nat.le_of_lt HBW.out) (.slice A4 L c4)).setCell (p := ⟨b, 1, none⟩) (Nat.le_of_lt HBW.out) (.slice P4 K4 d4))
  have HX4 := Lib.hid (hx.put (.slice A4 L c4) (.slice P4 K4 d4))
  have hby := (hm.row hx (row_put w4 b (.slice A4 L c4) (.slice P4 K4 d4))).byt
  rw [HWW.out] at hby
  have HBY := Lib.hid hby
  have HZ4 : Hid (Box ((w4.setCell ⟨b, 0, none⟩ (.slice A4 L c4)).setCell ⟨b, 1, none⟩ (.slice P4 K4 d4)) w.heap.size (.slice none 0 0) (.slice none 0 0) 28) := by
    show Box _ _ _ _ _
    have := HZ3.out.keep bb
    unfold Box at this ⊢
    rw [Below.heap_setCell _ _ _ _ (by have := HBW.out; show w.heap.size ≠ b; omega), Below.heap_setCell _ _ _ _ (by have := HBW.out; show w.heap.size ≠ b; omega)]
    exact this
  clear p0 p1 p2 p3
  obtain ⟨p0, p1, p2, p3⟩ := hx.use
  obtain ⟨V, hV⟩ : ∃ V, (w4.setCell ⟨b, 0, none⟩ (.slice A4 L c4)).setCell ⟨b, 1, none⟩ (.slice P4 K4 d4) = V := ⟨_, rfl⟩
  rw [hV] at HB4 HX4 HBY HZ4
  clear hm bb hx hby
  go_upto_region 4 with fail
  clear p0 p1 p2 p3 hV
  obtain ⟨p0, p1, p2, p3⟩ := HX4.out.use
  go_wp2_with fail
  refine (free_at A4 P4 L c4 K4 d4 _).mono ?_
  rintro e w5 ⟨rfl, bb⟩
  have H5 := Lib.hid (HZ4.out.keep bb)
  have HM : Hid (IsMem w5 (.agg #[.slice A4 L c4, .slice none 0 0]) (rowN L 167, [])) := mem_mk (HBY.out.keep bb) (pats_nil _)
  have HB5 := Lib.hid (below_then HB4.out bb)
  clear p0 p1 p2 p3 bb
  obtain ⟨z0, z1, z2, z3⟩ := H5.out.use
  go_wp2_with fail
  refine bodyPost_ret (v := .agg #[.slice A4 L c4, .slice none 0 0]) ?_ rfl ?_
  · obtain ⟨r0, r1⟩ := H5.out.got (.slice A4 L c4) (.slice none 0 0)
    simp [results, Tryd.results21, go_sem, r0, r1]
  · exact ⟨A4, c4, rfl, HM.out.row H5.out (row_put _ _ _ _), (HB5.out.setCell (by simp) _).setCell (by simp) _⟩
end Go.Proofs.YtbighilgkmfemaaDoor
