/- The walk of VmTells. -/
import Derived.Test.YtbighilgkmfemaaGreatDoorVmTellsM
namespace Go.Proofs.YtbighilgkmfemaaGreatDoor
open Go.RowKit
set_option linter.unusedVariables false
set_option linter.unusedSimpArgs false

set_option maxRecDepth 100000 in
set_option maxHeartbeats 4000000 in
theorem tells_any (m d r v o : Int) (k : VmK) (L : VmL) (j : VmK) (K : VmL) (w : World) (HT : Tab w) (HM : IsVm w k L) (HN : IsVm w j K) : Calls Tryz.prog 3 #[.agg #[.int .i64 m, .int .i64 d, .int .i64 r, .int .i64 v, .int .i64 o], vmV k, vmV j] w fun e w' => e = .returned (.bool true) ∧ Below w.heap.size w w' := by
  have T0 := Lib.hid HT
  have M0 := Lib.hid HM
  have N0 := Lib.hid HN
  have B0 := Lib.hid (Below.refl w.heap.size w)
  clear HT
  go_enter Tryz.func3, Tryz.ntmps3
  go_upto_region 1 with fail
  obtain ⟨w3, hw3⟩ : ∃ W, W = ((w.alloc (.cells #[.int .i64 m, .int .i64 d, .int .i64 r, .int .i64 v, .int .i64 o] 23)).alloc (.cells (vmC k) 36)).alloc (.cells (vmC j) 36) := ⟨_, rfl⟩
  have kb : Below w.heap.size w w3 := by rw [hw3]; exact al_then (al_then (al_one _ _))
  have hc : CfBox w3 w.heap.size m d r v o := by rw [hw3]; exact ((cfbox_new w m d r v o).keep (al_one _ _)).keep (al_one _ _)
  have hx : VBox w3 (w.heap.size + 1) k := by
    rw [hw3]
    have := ((vbox_new (w.alloc (.cells #[.int .i64 m, .int .i64 d, .int .i64 r, .int .i64 v, .int .i64 o] 23)) k).keep (al_one _ (.cells (vmC j) 36)))
    rwa [World.size_alloc] at this
  have hy : VBox w3 (w.heap.size + 1 + 1) j := by
    rw [hw3]
    have := vbox_new ((w.alloc (.cells #[.int .i64 m, .int .i64 d, .int .i64 r, .int .i64 v, .int .i64 o] 23)).alloc (.cells (vmC k) 36)) j
    rwa [World.size_alloc, World.size_alloc] at this
  rw [← hw3]
  clear hw3
  have T3 := Lib.hid (T0.out.keep kb)
  have M3 := Lib.hid (M0.out.keep kb)
  have N3 := Lib.hid (N0.out.keep kb)
  have B3 := Lib.hid kb
  have C3 := Lib.hid hc
  have X3 := Lib.hid hx
  have Y3 := Lib.hid hy
  clear T0 M0 N0 B0 kb hc hx hy
  go_wp2_with fail
  refine (shown_any _ T3.out).mono ?_
  rintro e w4 ⟨rfl, bb⟩
  have T4 := Lib.hid (T3.out.keep bb)
  have M4 := Lib.hid (M3.out.keep bb)
  have N4 := Lib.hid (N3.out.keep bb)
  have C4 := Lib.hid (C3.out.keep bb)
  have X4 := Lib.hid (X3.out.keep bb)
  have Y4 := Lib.hid (Y3.out.keep bb)
  have B4 := Lib.hid (below_then B3.out bb)
  clear bb T3 M3 N3 C3 X3 Y3 B3
  obtain ⟨F1, hF1⟩ : ∃ Y, vFew k L = Y := ⟨_, rfl⟩
  go_wp2_with (first | (refine wpList_vload (by rfl) _ rfl (w.heap.size + 1) k rfl X4.out ?_))
  have HC := Lib.hid (rvfew_any k L w4 M4.out)
  rw [hF1] at HC
  refine (HC.out).mono ?_
  rintro e w5 ⟨rfl, bb⟩
  clear HC
  have T5 := Lib.hid (T4.out.keep bb)
  have M5 := Lib.hid (M4.out.keep bb)
  have N5 := Lib.hid (N4.out.keep bb)
  have C5 := Lib.hid (C4.out.keep bb)
  have X5 := Lib.hid (X4.out.keep bb)
  have Y5 := Lib.hid (Y4.out.keep bb)
  have B5 := Lib.hid (below_then B4.out bb)
  clear bb T4 M4 N4 C4 X4 Y4 B4
  cases F1 with
  | false =>
    go_wp2_with fail
    go_ret
    exact ⟨rfl, B5.out⟩
  | true =>
    have HF1 := Lib.hid (fit_of hF1 HM.lens)
    clear hF1
    obtain ⟨F2, hF2⟩ : ∃ Y, vFew j K = Y := ⟨_, rfl⟩
    go_wp2_with (first | (refine wpList_vload (by rfl) _ rfl (w.heap.size + 1 + 1) j rfl Y5.out ?_))
    have HC := Lib.hid (rvfew_any j K w5 N5.out)
    rw [hF2] at HC
    refine (HC.out).mono ?_
    rintro e w6 ⟨rfl, bb⟩
    clear HC
    have T6 := Lib.hid (T5.out.keep bb)
    have M6 := Lib.hid (M5.out.keep bb)
    have N6 := Lib.hid (N5.out.keep bb)
    have C6 := Lib.hid (C5.out.keep bb)
    have X6 := Lib.hid (X5.out.keep bb)
    have Y6 := Lib.hid (Y5.out.keep bb)
    have B6 := Lib.hid (below_then B5.out bb)
    clear bb T5 M5 N5 C5 X5 Y5 B5
    cases F2 with
    | false =>
      go_wp2_with fail
      go_ret
      exact ⟨rfl, B6.out⟩
    | true =>
      have HF2 := Lib.hid (fit_of hF2 HN.lens)
      clear hF2
      obtain ⟨pc0, pc1, pc2, pc3, pc4⟩ := C6.out.use
      by_cases h1 : (8192 : Int) < m
      · by_cases h2 : m ≤ (65536 : Int)
        · go_wp2_with fail
          go_ret
          exact ⟨rfl, B6.out⟩
        have h3 : decide (m ≤ (65536 : Int)) = false := decide_eq_false h2
        have hfit : fitsB m d r v o = true → m ≤ 8192 := fun h => by have := (fits_iff m d r v o).1 h; omega
        obtain ⟨Lx, Cx, Kx, hfx, hn1, hn2⟩ := both_new m d r v o hfit
        have HFX := Lib.hid hfx
        have HN1 := Lib.hid hn1
        have HN2 := Lib.hid hn2
        clear hfx hn1 hn2 hfit
        go_wp2_with fail
        refine (HN1.out _ T6.out).mono ?_
        rintro e w7 ⟨jx, rfl, hv, hs, bb⟩
        have SX := Lib.hid hs
        clear hs
        clear pc0 pc1 pc2 pc3 pc4
        have T7 := Lib.hid (T6.out.keep bb)
        have M7 := Lib.hid (M6.out.keep bb)
        have N7 := Lib.hid (N6.out.keep bb)
        have C7 := Lib.hid (C6.out.keep bb)
        have X7 := Lib.hid (X6.out.keep bb)
        have Y7 := Lib.hid (Y6.out.keep bb)
        have B7 := Lib.hid (below_then B6.out bb)
        have P7 := Lib.hid hv
        clear bb T6 M6 N6 C6 X6 Y6 B6
        clear hv
        go_upto_region 5 with (refine wpList_vstore (by rfl) _ _ rfl _ vm0 jx rfl rfl (vbox_zero _) ?_)
        generalize hw8 : World.setRow _ _ _ = w8
        have kb : Below w7.heap.size w7 w8 := by rw [← hw8]; exact below_setRow (al_one _ _) (Nat.le_refl _) _
        have hx : VBox w8 w7.heap.size jx := by rw [← hw8]; exact vrow (vbox_zero w7) jx
        clear hw8
        have T8 := Lib.hid (T7.out.keep kb)
        have M8 := Lib.hid (M7.out.keep kb)
        have N8 := Lib.hid (N7.out.keep kb)
        have C8 := Lib.hid (C7.out.keep kb)
        have X8 := Lib.hid (X7.out.keep kb)
        have Y8 := Lib.hid (Y7.out.keep kb)
        have P8 := Lib.hid (P7.out.keep kb)
        have B8 := Lib.hid (below_then B7.out kb)
        have VP8 := Lib.hid hx
        clear kb T7 M7 N7 C7 X7 Y7 P7 B7
        clear hx
        obtain ⟨pc0, pc1, pc2, pc3, pc4⟩ := C8.out.use
        go_wp2_with fail
        refine (HN2.out _).mono ?_
        rintro e w9 ⟨jy, rfl, hv, hs, bb⟩
        have SY := Lib.hid hs
        clear hs HN1 HN2
        clear pc0 pc1 pc2 pc3 pc4
        have T9 := Lib.hid (T8.out.keep bb)
        have M9 := Lib.hid (M8.out.keep bb)
        have N9 := Lib.hid (N8.out.keep bb)
        have C9 := Lib.hid (C8.out.keep bb)
        have X9 := Lib.hid (X8.out.keep bb)
        have Y9 := Lib.hid (Y8.out.keep bb)
        have P9 := Lib.hid (P8.out.keep bb)
        have VP9 := Lib.hid (VP8.out.keep bb)
        have B9 := Lib.hid (below_then B8.out bb)
        have Q9 := Lib.hid hv
        clear bb T8 M8 N8 C8 X8 Y8 P8 VP8 B8
        clear hv
        go_upto_region 6 with (refine wpList_vstore (by rfl) _ _ rfl _ vm0 jy rfl rfl (vbox_zero _) ?_)
        generalize hw10 : World.setRow _ _ _ = w10
        have kb : Below w9.heap.size w9 w10 := by rw [← hw10]; exact below_setRow (al_one _ _) (Nat.le_refl _) _
        have hx : VBox w10 w9.heap.size jy := by rw [← hw10]; exact vrow (vbox_zero w9) jy
        clear hw10
        have T10 := Lib.hid (T9.out.keep kb)
        have M10 := Lib.hid (M9.out.keep kb)
        have N10 := Lib.hid (N9.out.keep kb)
        have C10 := Lib.hid (C9.out.keep kb)
        have X10 := Lib.hid (X9.out.keep kb)
        have Y10 := Lib.hid (Y9.out.keep kb)
        have P10 := Lib.hid (P9.out.keep kb)
        have VP10 := Lib.hid (VP9.out.keep kb)
        have Q10 := Lib.hid (Q9.out.keep kb)
        have B10 := Lib.hid (below_then B9.out kb)
        have VQ10 := Lib.hid hx
        clear kb T9 M9 N9 C9 X9 Y9 P9 VP9 Q9 B9
        clear hx
        try simp only [List.append_eq, List.cons_append, List.nil_append]
        obtain ⟨F, hF⟩ : ∃ F, fitsB m d r v o = F := ⟨_, rfl⟩
        obtain ⟨R, hR⟩ : ∃ R, vRight k L = R := ⟨_, rfl⟩
        obtain ⟨G, hG⟩ : ∃ G, vSame k L j K = G := ⟨_, rfl⟩
        have C18 := Lib.hid (fun u => fits_any m d r v o u)
        have C20 := Lib.hid (fun u => rfits_any m d r v o u)
        have C26 := Lib.hid (fun (u : World) (h : Below w10.heap.size w10 u) => rsame_two (P10.out.keep h) (Q10.out.keep h) (SX.out.trans SY.out.symm) HFX.out)
        have C35 := Lib.hid (fun (u : World) (h : Below w10.heap.size w10 u) => vright_few (M10.out.keep h) HF1.out)
        have C37 := Lib.hid (fun (u : World) (h : Below w10.heap.size w10 u) => rvright_few (M10.out.keep h) HF1.out)
        have C43 := Lib.hid (fun (u : World) (h : Below w10.heap.size w10 u) => vsame_few (M10.out.keep h) (N10.out.keep h) HF1.out)
        have C46 := Lib.hid (fun (u : World) (h : Below w10.heap.size w10 u) => rsame_few (M10.out.keep h) (N10.out.keep h) HF1.out HF2.out)
        rw [hF] at C18 C20
        rw [hR] at C35 C37
        rw [hG] at C43 C46
        clear hF hR hG
        refine wp_region_noPanic ?_
        refine wp_region_held_drew (S := fun a => Below w10.heap.size w10 a) (by kernel_rfl) (drew_bel _) (fun hHeld => ?_)
        refine wpAnyH_take (i := 0) (oi := _) (v := ?v0a) rfl (by kernel_rfl) (by kernel_rfl) (by kernel_rfl) (fun _ _ _ h => h) (Or.inl ⟨by kernel_rfl, ?y0a⟩) (by assumption) ?r0a
        case y0a => (intro u hSu; (try dsimp only at hSu); go_simp; (try with_reducible rfl))
        try simp only [List.getElem_toArray, List.getElem_cons_succ, List.getElem_cons_zero, Act.put, List.setIfInBounds_toArray, List.set_cons_zero, List.set_cons_succ]
        refine wpAnyH_take (i := 1) (oi := _) (v := ?v1a) rfl (by kernel_rfl) (by kernel_rfl) (by kernel_rfl) (fun _ _ _ h => h) (Or.inl ⟨by kernel_rfl, ?y1a⟩) (by assumption) ?r1a
        case y1a => (intro u hSu; (try dsimp only at hSu); go_simp; (try with_reducible rfl))
        try simp only [List.getElem_toArray, List.getElem_cons_succ, List.getElem_cons_zero, Act.put, List.setIfInBounds_toArray, List.set_cons_zero, List.set_cons_succ]
        refine wpAnyH_ready (rs := [2]) (by kernel_rfl) (by simp) ?_
        refine AllReadyH.cons (o := _) rfl (fun K hK => ?_) AllReadyH.nil
        go_simp
        refine (names_any _ (T10.out.keep hHeld)).mono ?_
        rintro e u2 ⟨rfl, hst, b9⟩
        have HA := Lib.hid hst
        clear hst
        have hN := below_then hHeld b9
        go_wp2_with fail
        clear hHeld b9
        refine hK.out _ _ hN (fun hHeld => ?_)
        clear hK K hN
        try simp only [List.getElem_toArray, List.getElem_cons_succ, List.getElem_cons_zero, Act.put, List.setIfInBounds_toArray, List.set_cons_zero, List.set_cons_succ]
        refine wpAnyH_ready (rs := [3]) (by kernel_rfl) (by simp) ?_
        refine AllReadyH.cons (o := _) rfl (fun K hK => ?_) AllReadyH.nil
        go_simp
        refine (rnames_any _).mono ?_
        rintro e u3 ⟨rfl, hst, b9⟩
        have HA2 := Lib.hid (HA.out.keep b9)
        have HB := Lib.hid hst
        clear hst HA
        have hN := below_then hHeld b9
        go_wp2_with fail
        clear hHeld b9
        refine hK.out _ _ hN (fun hHeld => ?_)
        clear hK K hN
        try simp only [List.getElem_toArray, List.getElem_cons_succ, List.getElem_cons_zero, Act.put, List.setIfInBounds_toArray, List.set_cons_zero, List.set_cons_succ]
        refine wpAnyH_ready (rs := [4]) (by kernel_rfl) (by simp) ?_
        refine AllReadyH.cons (o := _) rfl (fun K hK => ?_) AllReadyH.nil
        go_simp
        refine (rsame_anyL _ _ 130 130 130 130 primL primL _ HA2.out HB.out (by decide +kernel)).mono ?_
        rintro e u4 ⟨rfl, b9⟩
        clear HA2 HB
        rw [prims_self]
        have hN := below_then hHeld b9
        go_wp2_with fail
        clear hHeld b9
        refine hK.out _ _ hN (fun hHeld => ?_)
        clear hK K hN
        try simp only [List.getElem_toArray, List.getElem_cons_succ, List.getElem_cons_zero, Act.put, List.setIfInBounds_toArray, List.set_cons_zero, List.set_cons_succ]
        refine wpAnyH_take (i := 5) (oi := _) (v := ?v5a) rfl (by kernel_rfl) (by kernel_rfl) (by kernel_rfl) (fun _ _ _ h => h) (Or.inl ⟨by kernel_rfl, ?y5a⟩) (by assumption) ?r5a
        case y5a => (intro u hSu; (try dsimp only at hSu); go_simp; (try with_reducible rfl))
        try simp only [List.getElem_toArray, List.getElem_cons_succ, List.getElem_cons_zero, Act.put, List.setIfInBounds_toArray, List.set_cons_zero, List.set_cons_succ]
        refine wpAnyH_take (i := 6) (oi := _) (v := ?v6a) rfl (by kernel_rfl) (by kernel_rfl) (by kernel_rfl) (fun _ _ _ h => h) (Or.inl ⟨by kernel_rfl, ?y6a⟩) (by assumption) ?r6a
        case y6a => (intro u hSu; (try dsimp only at hSu); go_simp; (try with_reducible rfl))
        try simp only [List.getElem_toArray, List.getElem_cons_succ, List.getElem_cons_zero, Act.put, List.setIfInBounds_toArray, List.set_cons_zero, List.set_cons_succ]
        refine wpAnyH_ready (rs := [7]) (by kernel_rfl) (by simp) ?_
        refine AllReadyH.cons (o := _) rfl (fun K hK => ?_) AllReadyH.nil
        go_simp
        refine (specials_any _ (T10.out.keep hHeld)).mono ?_
        rintro e u7 ⟨rfl, hst, b9⟩
        have HA := Lib.hid hst
        clear hst
        have hN := below_then hHeld b9
        go_wp2_with fail
        clear hHeld b9
        refine hK.out _ _ hN (fun hHeld => ?_)
        clear hK K hN
        try simp only [List.getElem_toArray, List.getElem_cons_succ, List.getElem_cons_zero, Act.put, List.setIfInBounds_toArray, List.set_cons_zero, List.set_cons_succ]
        refine wpAnyH_ready (rs := [8]) (by kernel_rfl) (by simp) ?_
        refine AllReadyH.cons (o := _) rfl (fun K hK => ?_) AllReadyH.nil
        go_simp
        refine (rspecials_any _).mono ?_
        rintro e u8 ⟨rfl, hst, b9⟩
        have HA2 := Lib.hid (HA.out.keep b9)
        have HB := Lib.hid hst
        clear hst HA
        have hN := below_then hHeld b9
        go_wp2_with fail
        clear hHeld b9
        refine hK.out _ _ hN (fun hHeld => ?_)
        clear hK K hN
        try simp only [List.getElem_toArray, List.getElem_cons_succ, List.getElem_cons_zero, Act.put, List.setIfInBounds_toArray, List.set_cons_zero, List.set_cons_succ]
        refine wpAnyH_ready (rs := [9]) (by kernel_rfl) (by simp) ?_
        refine AllReadyH.cons (o := _) rfl (fun K hK => ?_) AllReadyH.nil
        go_simp
        refine (rsame_anyL _ _ 37 37 37 37 specL specL _ HA2.out HB.out (by decide +kernel)).mono ?_
        rintro e u9 ⟨rfl, b9⟩
        clear HA2 HB
        rw [specs_self]
        have hN := below_then hHeld b9
        go_wp2_with fail
        clear hHeld b9
        refine hK.out _ _ hN (fun hHeld => ?_)
        clear hK K hN
        try simp only [List.getElem_toArray, List.getElem_cons_succ, List.getElem_cons_zero, Act.put, List.setIfInBounds_toArray, List.set_cons_zero, List.set_cons_succ]
        refine wpAnyH_take (i := 10) (oi := _) (v := ?v10a) rfl (by kernel_rfl) (by kernel_rfl) (by kernel_rfl) (fun _ _ _ h => h) (Or.inl ⟨by kernel_rfl, ?y10a⟩) (by assumption) ?r10a
        case y10a => (intro u hSu; (try dsimp only at hSu); go_simp; (try with_reducible rfl))
        try simp only [List.getElem_toArray, List.getElem_cons_succ, List.getElem_cons_zero, Act.put, List.setIfInBounds_toArray, List.set_cons_zero, List.set_cons_succ]
        refine wpAnyH_take (i := 11) (oi := _) (v := ?v11a) rfl (by kernel_rfl) (by kernel_rfl) (by kernel_rfl) (fun _ _ _ h => h) (Or.inl ⟨by kernel_rfl, ?y11a⟩) (by assumption) ?r11a
        case y11a => (intro u hSu; (try dsimp only at hSu); go_simp; (try with_reducible rfl))
        try simp only [List.getElem_toArray, List.getElem_cons_succ, List.getElem_cons_zero, Act.put, List.setIfInBounds_toArray, List.set_cons_zero, List.set_cons_succ]
        refine wpAnyH_ready (rs := [12]) (by kernel_rfl) (by simp) ?_
        refine AllReadyH.cons (o := _) rfl (fun K hK => ?_) AllReadyH.nil
        go_simp
        refine (start_any _).mono ?_
        rintro e u12 ⟨rfl, rfl⟩
        go_wp2_with fail
        refine hK.out _ _ hHeld (fun _ => ?_)
        clear hK K
        try simp only [List.getElem_toArray, List.getElem_cons_succ, List.getElem_cons_zero, Act.put, List.setIfInBounds_toArray, List.set_cons_zero, List.set_cons_succ]
        refine wpAnyH_ready (rs := [13]) (by kernel_rfl) (by simp) ?_
        refine AllReadyH.cons (o := _) rfl (fun K hK => ?_) AllReadyH.nil
        go_simp
        refine (rstart10_any _).mono ?_
        rintro e u13 ⟨rfl, rfl⟩
        go_wp2_with fail
        refine hK.out _ _ hHeld (fun _ => ?_)
        clear hK K
        try simp only [List.getElem_toArray, List.getElem_cons_succ, List.getElem_cons_zero, Act.put, List.setIfInBounds_toArray, List.set_cons_zero, List.set_cons_succ]
        refine wpAnyH_take (i := 14) (oi := _) (v := ?v14a) rfl (by kernel_rfl) (by kernel_rfl) (by kernel_rfl) (fun _ _ _ h => h) (Or.inl ⟨by kernel_rfl, ?y14a⟩) (by assumption) ?r14a
        case y14a => (intro u hSu; (try dsimp only at hSu); go_simp; (try with_reducible rfl))
        try simp only [List.getElem_toArray, List.getElem_cons_succ, List.getElem_cons_zero, Act.put, List.setIfInBounds_toArray, List.set_cons_zero, List.set_cons_succ]
        refine wpAnyH_take (i := 15) (oi := _) (v := ?v15a) rfl (by kernel_rfl) (by kernel_rfl) (by kernel_rfl) (fun _ _ _ h => h) (Or.inl ⟨by kernel_rfl, ?y15a⟩) (by assumption) ?r15a
        case y15a => (intro u hSu; (try dsimp only at hSu); go_simp; (try with_reducible rfl))
        try simp only [List.getElem_toArray, List.getElem_cons_succ, List.getElem_cons_zero, Act.put, List.setIfInBounds_toArray, List.set_cons_zero, List.set_cons_succ]
        refine wpAnyH_take (i := 16) (oi := _) (v := ?v16a) rfl (by kernel_rfl) (by kernel_rfl) (by kernel_rfl) (fun _ _ _ h => h) (Or.inl ⟨by kernel_rfl, ?y16a⟩) (by assumption) ?r16a
        case y16a => (intro u hSu; (try dsimp only at hSu); go_simp; (try with_reducible rfl))
        try simp only [List.getElem_toArray, List.getElem_cons_succ, List.getElem_cons_zero, Act.put, List.setIfInBounds_toArray, List.set_cons_zero, List.set_cons_succ]
        refine wpAnyH_take (i := 17) (oi := _) (v := ?v17a) rfl (by kernel_rfl) (by kernel_rfl) (by kernel_rfl) (fun _ _ _ h => h) (Or.inl ⟨by kernel_rfl, ?y17a⟩) (by assumption) ?r17a
        case y17a => (intro u hSu; obtain ⟨q0, q1, q2, q3, q4⟩ := (C10.out.keep hSu).use; go_simp; (try with_reducible rfl))
        try simp only [List.getElem_toArray, List.getElem_cons_succ, List.getElem_cons_zero, Act.put, List.setIfInBounds_toArray, List.set_cons_zero, List.set_cons_succ]
        refine wpAnyH_take (i := 19) (oi := _) (v := ?v19a) rfl (by kernel_rfl) (by kernel_rfl) (by kernel_rfl) (fun _ _ _ h => h) (Or.inl ⟨by kernel_rfl, ?y19a⟩) (by assumption) ?r19a
        case y19a => (intro u hSu; obtain ⟨q0, q1, q2, q3, q4⟩ := (C10.out.keep hSu).use; go_simp; (try with_reducible rfl))
        try simp only [List.getElem_toArray, List.getElem_cons_succ, List.getElem_cons_zero, Act.put, List.setIfInBounds_toArray, List.set_cons_zero, List.set_cons_succ]
        refine wpAnyH_ready (rs := [18]) (by kernel_rfl) (by simp) ?_
        refine AllReadyH.cons (o := _) rfl (fun K hK => ?_) AllReadyH.nil
        go_simp
        refine (C18.out _).mono ?_
        rintro e u18 ⟨rfl, b9⟩
        have hN := below_then hHeld b9
        go_wp2_with fail
        clear hHeld b9
        refine hK.out _ _ hN (fun hHeld => ?_)
        clear hK K hN
        try simp only [List.getElem_toArray, List.getElem_cons_succ, List.getElem_cons_zero, Act.put, List.setIfInBounds_toArray, List.set_cons_zero, List.set_cons_succ]
        refine wpAnyH_ready (rs := [20]) (by kernel_rfl) (by simp) ?_
        refine AllReadyH.cons (o := _) rfl (fun K hK => ?_) AllReadyH.nil
        go_simp
        refine (C20.out _).mono ?_
        rintro e u20 ⟨rfl, b9⟩
        have hN := below_then hHeld b9
        go_wp2_with fail
        clear hHeld b9
        refine hK.out _ _ hN (fun hHeld => ?_)
        clear hK K hN
        try simp only [List.getElem_toArray, List.getElem_cons_succ, List.getElem_cons_zero, Act.put, List.setIfInBounds_toArray, List.set_cons_zero, List.set_cons_succ]
        refine wpAnyH_take (i := 21) (oi := _) (v := ?v21a) rfl (by kernel_rfl) (by kernel_rfl) (by kernel_rfl) (fun _ _ _ h => h) (Or.inl ⟨by kernel_rfl, ?y21a⟩) (by assumption) ?r21a
        case y21a => (intro u hSu; (try dsimp only at hSu); go_simp; (try with_reducible rfl))
        try simp only [List.getElem_toArray, List.getElem_cons_succ, List.getElem_cons_zero, Act.put, List.setIfInBounds_toArray, List.set_cons_zero, List.set_cons_succ]
        refine wpAnyH_take (i := 22) (oi := _) (v := ?v22a) rfl (by kernel_rfl) (by kernel_rfl) (by kernel_rfl) (fun _ _ _ h => h) (Or.inl ⟨by kernel_rfl, ?y22a⟩) (by assumption) ?r22a
        case y22a => (intro u hSu; (try dsimp only at hSu); go_simp; (try with_reducible rfl))
        try simp only [List.getElem_toArray, List.getElem_cons_succ, List.getElem_cons_zero, Act.put, List.setIfInBounds_toArray, List.set_cons_zero, List.set_cons_succ]
        refine wpAnyH_take (i := 23) (oi := _) (v := ?v23a) rfl (by kernel_rfl) (by kernel_rfl) (by kernel_rfl) (fun _ _ _ h => h) (Or.inl ⟨by kernel_rfl, ?y23a⟩) (by assumption) ?r23a
        case y23a => (intro u hSu; (try dsimp only at hSu); go_simp; (try with_reducible rfl))
        try simp only [List.getElem_toArray, List.getElem_cons_succ, List.getElem_cons_zero, Act.put, List.setIfInBounds_toArray, List.set_cons_zero, List.set_cons_succ]
        refine wpAnyH_take (i := 24) (oi := _) (v := vmV jx) rfl (by kernel_rfl) (by kernel_rfl) (by kernel_rfl) (fun _ _ _ h => h) (Or.inl ⟨by kernel_rfl, ?y24a⟩) (by assumption) ?r24a
        case y24a => (exact fun u hSu => exec_vload _ rfl w7.heap.size jx rfl (VP10.out.keep hSu))
        try simp only [List.getElem_toArray, List.getElem_cons_succ, List.getElem_cons_zero, Act.put, List.setIfInBounds_toArray, List.set_cons_zero, List.set_cons_succ]
        refine wpAnyH_take (i := 25) (oi := _) (v := vmV jy) rfl (by kernel_rfl) (by kernel_rfl) (by kernel_rfl) (fun _ _ _ h => h) (Or.inl ⟨by kernel_rfl, ?y25a⟩) (by assumption) ?r25a
        case y25a => (exact fun u hSu => exec_vload _ rfl w9.heap.size jy rfl (VQ10.out.keep hSu))
        try simp only [List.getElem_toArray, List.getElem_cons_succ, List.getElem_cons_zero, Act.put, List.setIfInBounds_toArray, List.set_cons_zero, List.set_cons_succ]
        refine wpAnyH_ready (rs := [26]) (by kernel_rfl) (by simp) ?_
        refine AllReadyH.cons (o := _) rfl (fun K hK => ?_) AllReadyH.nil
        go_simp
        refine (C26.out _ hHeld).mono ?_
        rintro e u26 ⟨rfl, b9⟩
        have hN := below_then hHeld b9
        go_wp2_with fail
        clear hHeld b9
        refine hK.out _ _ hN (fun hHeld => ?_)
        clear hK K hN
        try simp only [List.getElem_toArray, List.getElem_cons_succ, List.getElem_cons_zero, Act.put, List.setIfInBounds_toArray, List.set_cons_zero, List.set_cons_succ]
        refine wpAnyH_take (i := 27) (oi := _) (v := ?v27a) rfl (by kernel_rfl) (by kernel_rfl) (by kernel_rfl) (fun _ _ _ h => h) (Or.inl ⟨by kernel_rfl, ?y27a⟩) (by assumption) ?r27a
        case y27a => (intro u hSu; (try dsimp only at hSu); go_simp; (try with_reducible rfl))
        try simp only [List.getElem_toArray, List.getElem_cons_succ, List.getElem_cons_zero, Act.put, List.setIfInBounds_toArray, List.set_cons_zero, List.set_cons_succ]
        refine wpAnyH_take (i := 28) (oi := _) (v := ?v28a) rfl (by kernel_rfl) (by kernel_rfl) (by kernel_rfl) (fun _ _ _ h => h) (Or.inl ⟨by kernel_rfl, ?y28a⟩) (by assumption) ?r28a
        case y28a => (intro u hSu; (try dsimp only at hSu); go_simp; (try with_reducible rfl))
        try simp only [List.getElem_toArray, List.getElem_cons_succ, List.getElem_cons_zero, Act.put, List.setIfInBounds_toArray, List.set_cons_zero, List.set_cons_succ]
        refine wpAnyH_take (i := 29) (oi := _) (v := ?v29a) rfl (by kernel_rfl) (by kernel_rfl) (by kernel_rfl) (fun _ _ _ h => h) (Or.inl ⟨by kernel_rfl, ?y29a⟩) (by assumption) ?r29a
        case y29a => (intro u hSu; (try dsimp only at hSu); go_simp; (try with_reducible rfl))
        try simp only [List.getElem_toArray, List.getElem_cons_succ, List.getElem_cons_zero, Act.put, List.setIfInBounds_toArray, List.set_cons_zero, List.set_cons_succ]
        refine wpAnyH_take (i := 30) (oi := _) (v := ?v30a) rfl (by kernel_rfl) (by kernel_rfl) (by kernel_rfl) (fun _ _ _ h => h) (Or.inl ⟨by kernel_rfl, ?y30a⟩) (by assumption) ?r30a
        case y30a => (intro u hSu; (try dsimp only at hSu); go_simp; (try with_reducible rfl))
        try simp only [List.getElem_toArray, List.getElem_cons_succ, List.getElem_cons_zero, Act.put, List.setIfInBounds_toArray, List.set_cons_zero, List.set_cons_succ]
        refine wpAnyH_take (i := 31) (oi := _) (v := ?v31a) rfl (by kernel_rfl) (by kernel_rfl) (by kernel_rfl) (fun _ _ _ h => h) (Or.inl ⟨by kernel_rfl, ?y31a⟩) (by assumption) ?r31a
        case y31a => (intro u hSu; (try dsimp only at hSu); go_simp; (try with_reducible rfl))
        try simp only [List.getElem_toArray, List.getElem_cons_succ, List.getElem_cons_zero, Act.put, List.setIfInBounds_toArray, List.set_cons_zero, List.set_cons_succ]
        refine wpAnyH_take (i := 32) (oi := _) (v := ?v32a) rfl (by kernel_rfl) (by kernel_rfl) (by kernel_rfl) (fun _ _ _ h => h) (Or.inl ⟨by kernel_rfl, ?y32a⟩) (by assumption) ?r32a
        case y32a => (intro u hSu; (try dsimp only at hSu); go_simp; (try with_reducible rfl))
        try simp only [List.getElem_toArray, List.getElem_cons_succ, List.getElem_cons_zero, Act.put, List.setIfInBounds_toArray, List.set_cons_zero, List.set_cons_succ]
        refine wpAnyH_take (i := 33) (oi := _) (v := ?v33a) rfl (by kernel_rfl) (by kernel_rfl) (by kernel_rfl) (fun _ _ _ h => h) (Or.inl ⟨by kernel_rfl, ?y33a⟩) (by assumption) ?r33a
        case y33a => (intro u hSu; (try dsimp only at hSu); go_simp; (try with_reducible rfl))
        try simp only [List.getElem_toArray, List.getElem_cons_succ, List.getElem_cons_zero, Act.put, List.setIfInBounds_toArray, List.set_cons_zero, List.set_cons_succ]
        refine wpAnyH_take (i := 34) (oi := _) (v := vmV k) rfl (by kernel_rfl) (by kernel_rfl) (by kernel_rfl) (fun _ _ _ h => h) (Or.inl ⟨by kernel_rfl, ?y34a⟩) (by assumption) ?r34a
        case y34a => (exact fun u hSu => exec_vload _ rfl (w.heap.size + 1) k rfl (X10.out.keep hSu))
        try simp only [List.getElem_toArray, List.getElem_cons_succ, List.getElem_cons_zero, Act.put, List.setIfInBounds_toArray, List.set_cons_zero, List.set_cons_succ]
        refine wpAnyH_take (i := 36) (oi := _) (v := vmV k) rfl (by kernel_rfl) (by kernel_rfl) (by kernel_rfl) (fun _ _ _ h => h) (Or.inl ⟨by kernel_rfl, ?y36a⟩) (by assumption) ?r36a
        case y36a => (exact fun u hSu => exec_vload _ rfl (w.heap.size + 1) k rfl (X10.out.keep hSu))
        try simp only [List.getElem_toArray, List.getElem_cons_succ, List.getElem_cons_zero, Act.put, List.setIfInBounds_toArray, List.set_cons_zero, List.set_cons_succ]
        refine wpAnyH_ready (rs := [35]) (by kernel_rfl) (by simp) ?_
        refine AllReadyH.cons (o := _) rfl (fun K hK => ?_) AllReadyH.nil
        go_simp
        refine (C35.out _ hHeld).mono ?_
        rintro e u35 ⟨rfl, b9⟩
        have hN := below_then hHeld b9
        go_wp2_with fail
        clear hHeld b9
        refine hK.out _ _ hN (fun hHeld => ?_)
        clear hK K hN
        try simp only [List.getElem_toArray, List.getElem_cons_succ, List.getElem_cons_zero, Act.put, List.setIfInBounds_toArray, List.set_cons_zero, List.set_cons_succ]
        refine wpAnyH_ready (rs := [37]) (by kernel_rfl) (by simp) ?_
        refine AllReadyH.cons (o := _) rfl (fun K hK => ?_) AllReadyH.nil
        go_simp
        refine (C37.out _ hHeld).mono ?_
        rintro e u37 ⟨rfl, b9⟩
        have hN := below_then hHeld b9
        go_wp2_with fail
        clear hHeld b9
        refine hK.out _ _ hN (fun hHeld => ?_)
        clear hK K hN
        try simp only [List.getElem_toArray, List.getElem_cons_succ, List.getElem_cons_zero, Act.put, List.setIfInBounds_toArray, List.set_cons_zero, List.set_cons_succ]
        refine wpAnyH_take (i := 38) (oi := _) (v := ?v38a) rfl (by kernel_rfl) (by kernel_rfl) (by kernel_rfl) (fun _ _ _ h => h) (Or.inl ⟨by kernel_rfl, ?y38a⟩) (by assumption) ?r38a
        case y38a => (intro u hSu; (try dsimp only at hSu); go_simp; (try with_reducible rfl))
        try simp only [List.getElem_toArray, List.getElem_cons_succ, List.getElem_cons_zero, Act.put, List.setIfInBounds_toArray, List.set_cons_zero, List.set_cons_succ]
        refine wpAnyH_take (i := 39) (oi := _) (v := ?v39a) rfl (by kernel_rfl) (by kernel_rfl) (by kernel_rfl) (fun _ _ _ h => h) (Or.inl ⟨by kernel_rfl, ?y39a⟩) (by assumption) ?r39a
        case y39a => (intro u hSu; (try dsimp only at hSu); go_simp; (try with_reducible rfl))
        try simp only [List.getElem_toArray, List.getElem_cons_succ, List.getElem_cons_zero, Act.put, List.setIfInBounds_toArray, List.set_cons_zero, List.set_cons_succ]
        refine wpAnyH_take (i := 40) (oi := _) (v := ?v40a) rfl (by kernel_rfl) (by kernel_rfl) (by kernel_rfl) (fun _ _ _ h => h) (Or.inl ⟨by kernel_rfl, ?y40a⟩) (by assumption) ?r40a
        case y40a => (intro u hSu; (try dsimp only at hSu); go_simp; (try with_reducible rfl))
        try simp only [List.getElem_toArray, List.getElem_cons_succ, List.getElem_cons_zero, Act.put, List.setIfInBounds_toArray, List.set_cons_zero, List.set_cons_succ]
        refine wpAnyH_take (i := 41) (oi := _) (v := vmV k) rfl (by kernel_rfl) (by kernel_rfl) (by kernel_rfl) (fun _ _ _ h => h) (Or.inl ⟨by kernel_rfl, ?y41a⟩) (by assumption) ?r41a
        case y41a => (exact fun u hSu => exec_vload _ rfl (w.heap.size + 1) k rfl (X10.out.keep hSu))
        try simp only [List.getElem_toArray, List.getElem_cons_succ, List.getElem_cons_zero, Act.put, List.setIfInBounds_toArray, List.set_cons_zero, List.set_cons_succ]
        refine wpAnyH_take (i := 42) (oi := _) (v := vmV j) rfl (by kernel_rfl) (by kernel_rfl) (by kernel_rfl) (fun _ _ _ h => h) (Or.inl ⟨by kernel_rfl, ?y42a⟩) (by assumption) ?r42a
        case y42a => (exact fun u hSu => exec_vload _ rfl (w.heap.size + 1 + 1) j rfl (Y10.out.keep hSu))
        try simp only [List.getElem_toArray, List.getElem_cons_succ, List.getElem_cons_zero, Act.put, List.setIfInBounds_toArray, List.set_cons_zero, List.set_cons_succ]
        refine wpAnyH_take (i := 44) (oi := _) (v := vmV k) rfl (by kernel_rfl) (by kernel_rfl) (by kernel_rfl) (fun _ _ _ h => h) (Or.inl ⟨by kernel_rfl, ?y44a⟩) (by assumption) ?r44a
        case y44a => (exact fun u hSu => exec_vload _ rfl (w.heap.size + 1) k rfl (X10.out.keep hSu))
        try simp only [List.getElem_toArray, List.getElem_cons_succ, List.getElem_cons_zero, Act.put, List.setIfInBounds_toArray, List.set_cons_zero, List.set_cons_succ]
        refine wpAnyH_take (i := 45) (oi := _) (v := vmV j) rfl (by kernel_rfl) (by kernel_rfl) (by kernel_rfl) (fun _ _ _ h => h) (Or.inl ⟨by kernel_rfl, ?y45a⟩) (by assumption) ?r45a
        case y45a => (exact fun u hSu => exec_vload _ rfl (w.heap.size + 1 + 1) j rfl (Y10.out.keep hSu))
        try simp only [List.getElem_toArray, List.getElem_cons_succ, List.getElem_cons_zero, Act.put, List.setIfInBounds_toArray, List.set_cons_zero, List.set_cons_succ]
        refine wpAnyH_ready (rs := [43]) (by kernel_rfl) (by simp) ?_
        refine AllReadyH.cons (o := _) rfl (fun K hK => ?_) AllReadyH.nil
        go_simp
        refine (C43.out _ hHeld).mono ?_
        rintro e u43 ⟨rfl, b9⟩
        have hN := below_then hHeld b9
        go_wp2_with fail
        clear hHeld b9
        refine hK.out _ _ hN (fun hHeld => ?_)
        clear hK K hN
        try simp only [List.getElem_toArray, List.getElem_cons_succ, List.getElem_cons_zero, Act.put, List.setIfInBounds_toArray, List.set_cons_zero, List.set_cons_succ]
        refine wpAnyH_ready (rs := [46]) (by kernel_rfl) (by simp) ?_
        refine AllReadyH.cons (o := _) rfl (fun K hK => ?_) AllReadyH.nil
        go_simp
        refine (C46.out _ hHeld).mono ?_
        rintro e u46 ⟨rfl, b9⟩
        have hN := below_then hHeld b9
        go_wp2_with fail
        clear hHeld b9
        refine hK.out _ _ hN (fun hHeld => ?_)
        clear hK K hN
        try simp only [List.getElem_toArray, List.getElem_cons_succ, List.getElem_cons_zero, Act.put, List.setIfInBounds_toArray, List.set_cons_zero, List.set_cons_succ]
        refine wpAnyH_take (i := 47) (oi := _) (v := ?v47a) rfl (by kernel_rfl) (by kernel_rfl) (by kernel_rfl) (fun _ _ _ h => h) (Or.inl ⟨by kernel_rfl, ?y47a⟩) (by assumption) ?r47a
        case y47a => (intro u hSu; (try dsimp only at hSu); go_simp; (try with_reducible rfl))
        try simp only [List.getElem_toArray, List.getElem_cons_succ, List.getElem_cons_zero, Act.put, List.setIfInBounds_toArray, List.set_cons_zero, List.set_cons_succ]
        refine wpAnyH_take (i := 48) (oi := _) (v := ?v48a) rfl (by kernel_rfl) (by kernel_rfl) (by kernel_rfl) (fun _ _ _ h => h) (Or.inl ⟨by kernel_rfl, ?y48a⟩) (by assumption) ?r48a
        case y48a => (intro u hSu; (try dsimp only at hSu); go_simp; (try with_reducible rfl))
        try simp only [List.getElem_toArray, List.getElem_cons_succ, List.getElem_cons_zero, Act.put, List.setIfInBounds_toArray, List.set_cons_zero, List.set_cons_succ]
        refine wpAnyH_take (i := 49) (oi := _) (v := ?v49a) rfl (by kernel_rfl) (by kernel_rfl) (by kernel_rfl) (fun _ _ _ h => h) (Or.inl ⟨by kernel_rfl, ?y49a⟩) (by assumption) ?r49a
        case y49a => (intro u hSu; (try dsimp only at hSu); go_simp; (try with_reducible rfl))
        try simp only [List.getElem_toArray, List.getElem_cons_succ, List.getElem_cons_zero, Act.put, List.setIfInBounds_toArray, List.set_cons_zero, List.set_cons_succ]
        refine wpAnyH_done (by kernel_rfl) ?_ _
        refine NoPanic.normal ?_
        go_wp2_with fail
        go_ret
        exact ⟨by simp, below_then B10.out hHeld⟩
      · have h3 : decide ((8192 : Int) < m) = false := decide_eq_false h1
        have hfit : fitsB m d r v o = true → m ≤ 8192 := fun h => by omega
        obtain ⟨Lx, Cx, Kx, hfx, hn1, hn2⟩ := both_new m d r v o hfit
        have HFX := Lib.hid hfx
        have HN1 := Lib.hid hn1
        have HN2 := Lib.hid hn2
        clear hfx hn1 hn2 hfit
        go_wp2_with fail
        refine (HN1.out _ T6.out).mono ?_
        rintro e w7 ⟨jx, rfl, hv, hs, bb⟩
        have SX := Lib.hid hs
        clear hs
        clear pc0 pc1 pc2 pc3 pc4
        have T7 := Lib.hid (T6.out.keep bb)
        have M7 := Lib.hid (M6.out.keep bb)
        have N7 := Lib.hid (N6.out.keep bb)
        have C7 := Lib.hid (C6.out.keep bb)
        have X7 := Lib.hid (X6.out.keep bb)
        have Y7 := Lib.hid (Y6.out.keep bb)
        have B7 := Lib.hid (below_then B6.out bb)
        have P7 := Lib.hid hv
        clear bb T6 M6 N6 C6 X6 Y6 B6
        clear hv
        go_upto_region 5 with (refine wpList_vstore (by rfl) _ _ rfl _ vm0 jx rfl rfl (vbox_zero _) ?_)
        generalize hw8 : World.setRow _ _ _ = w8
        have kb : Below w7.heap.size w7 w8 := by rw [← hw8]; exact below_setRow (al_one _ _) (Nat.le_refl _) _
        have hx : VBox w8 w7.heap.size jx := by rw [← hw8]; exact vrow (vbox_zero w7) jx
        clear hw8
        have T8 := Lib.hid (T7.out.keep kb)
        have M8 := Lib.hid (M7.out.keep kb)
        have N8 := Lib.hid (N7.out.keep kb)
        have C8 := Lib.hid (C7.out.keep kb)
        have X8 := Lib.hid (X7.out.keep kb)
        have Y8 := Lib.hid (Y7.out.keep kb)
        have P8 := Lib.hid (P7.out.keep kb)
        have B8 := Lib.hid (below_then B7.out kb)
        have VP8 := Lib.hid hx
        clear kb T7 M7 N7 C7 X7 Y7 P7 B7
        clear hx
        obtain ⟨pc0, pc1, pc2, pc3, pc4⟩ := C8.out.use
        go_wp2_with fail
        refine (HN2.out _).mono ?_
        rintro e w9 ⟨jy, rfl, hv, hs, bb⟩
        have SY := Lib.hid hs
        clear hs HN1 HN2
        clear pc0 pc1 pc2 pc3 pc4
        have T9 := Lib.hid (T8.out.keep bb)
        have M9 := Lib.hid (M8.out.keep bb)
        have N9 := Lib.hid (N8.out.keep bb)
        have C9 := Lib.hid (C8.out.keep bb)
        have X9 := Lib.hid (X8.out.keep bb)
        have Y9 := Lib.hid (Y8.out.keep bb)
        have P9 := Lib.hid (P8.out.keep bb)
        have VP9 := Lib.hid (VP8.out.keep bb)
        have B9 := Lib.hid (below_then B8.out bb)
        have Q9 := Lib.hid hv
        clear bb T8 M8 N8 C8 X8 Y8 P8 VP8 B8
        clear hv
        go_upto_region 6 with (refine wpList_vstore (by rfl) _ _ rfl _ vm0 jy rfl rfl (vbox_zero _) ?_)
        generalize hw10 : World.setRow _ _ _ = w10
        have kb : Below w9.heap.size w9 w10 := by rw [← hw10]; exact below_setRow (al_one _ _) (Nat.le_refl _) _
        have hx : VBox w10 w9.heap.size jy := by rw [← hw10]; exact vrow (vbox_zero w9) jy
        clear hw10
        have T10 := Lib.hid (T9.out.keep kb)
        have M10 := Lib.hid (M9.out.keep kb)
        have N10 := Lib.hid (N9.out.keep kb)
        have C10 := Lib.hid (C9.out.keep kb)
        have X10 := Lib.hid (X9.out.keep kb)
        have Y10 := Lib.hid (Y9.out.keep kb)
        have P10 := Lib.hid (P9.out.keep kb)
        have VP10 := Lib.hid (VP9.out.keep kb)
        have Q10 := Lib.hid (Q9.out.keep kb)
        have B10 := Lib.hid (below_then B9.out kb)
        have VQ10 := Lib.hid hx
        clear kb T9 M9 N9 C9 X9 Y9 P9 VP9 Q9 B9
        clear hx
        try simp only [List.append_eq, List.cons_append, List.nil_append]
        obtain ⟨F, hF⟩ : ∃ F, fitsB m d r v o = F := ⟨_, rfl⟩
        obtain ⟨R, hR⟩ : ∃ R, vRight k L = R := ⟨_, rfl⟩
        obtain ⟨G, hG⟩ : ∃ G, vSame k L j K = G := ⟨_, rfl⟩
        have C18 := Lib.hid (fun u => fits_any m d r v o u)
        have C20 := Lib.hid (fun u => rfits_any m d r v o u)
        have C26 := Lib.hid (fun (u : World) (h : Below w10.heap.size w10 u) => rsame_two (P10.out.keep h) (Q10.out.keep h) (SX.out.trans SY.out.symm) HFX.out)
        have C35 := Lib.hid (fun (u : World) (h : Below w10.heap.size w10 u) => vright_few (M10.out.keep h) HF1.out)
        have C37 := Lib.hid (fun (u : World) (h : Below w10.heap.size w10 u) => rvright_few (M10.out.keep h) HF1.out)
        have C43 := Lib.hid (fun (u : World) (h : Below w10.heap.size w10 u) => vsame_few (M10.out.keep h) (N10.out.keep h) HF1.out)
        have C46 := Lib.hid (fun (u : World) (h : Below w10.heap.size w10 u) => rsame_few (M10.out.keep h) (N10.out.keep h) HF1.out HF2.out)
        rw [hF] at C18 C20
        rw [hR] at C35 C37
        rw [hG] at C43 C46
        clear hF hR hG
        refine wp_region_noPanic ?_
        refine wp_region_held_drew (S := fun a => Below w10.heap.size w10 a) (by kernel_rfl) (drew_bel _) (fun hHeld => ?_)
        refine wpAnyH_take (i := 0) (oi := _) (v := ?v0) rfl (by kernel_rfl) (by kernel_rfl) (by kernel_rfl) (fun _ _ _ h => h) (Or.inl ⟨by kernel_rfl, ?y0⟩) (by assumption) ?r0
        case y0 => (intro u hSu; (try dsimp only at hSu); go_simp; (try with_reducible rfl))
        try simp only [List.getElem_toArray, List.getElem_cons_succ, List.getElem_cons_zero, Act.put, List.setIfInBounds_toArray, List.set_cons_zero, List.set_cons_succ]
        refine wpAnyH_take (i := 1) (oi := _) (v := ?v1) rfl (by kernel_rfl) (by kernel_rfl) (by kernel_rfl) (fun _ _ _ h => h) (Or.inl ⟨by kernel_rfl, ?y1⟩) (by assumption) ?r1
        case y1 => (intro u hSu; (try dsimp only at hSu); go_simp; (try with_reducible rfl))
        try simp only [List.getElem_toArray, List.getElem_cons_succ, List.getElem_cons_zero, Act.put, List.setIfInBounds_toArray, List.set_cons_zero, List.set_cons_succ]
        refine wpAnyH_ready (rs := [2]) (by kernel_rfl) (by simp) ?_
        refine AllReadyH.cons (o := _) rfl (fun K hK => ?_) AllReadyH.nil
        go_simp
        refine (names_any _ (T10.out.keep hHeld)).mono ?_
        rintro e u2 ⟨rfl, hst, b9⟩
        have HA := Lib.hid hst
        clear hst
        have hN := below_then hHeld b9
        go_wp2_with fail
        clear hHeld b9
        refine hK.out _ _ hN (fun hHeld => ?_)
        clear hK K hN
        try simp only [List.getElem_toArray, List.getElem_cons_succ, List.getElem_cons_zero, Act.put, List.setIfInBounds_toArray, List.set_cons_zero, List.set_cons_succ]
        refine wpAnyH_ready (rs := [3]) (by kernel_rfl) (by simp) ?_
        refine AllReadyH.cons (o := _) rfl (fun K hK => ?_) AllReadyH.nil
        go_simp
        refine (rnames_any _).mono ?_
        rintro e u3 ⟨rfl, hst, b9⟩
        have HA2 := Lib.hid (HA.out.keep b9)
        have HB := Lib.hid hst
        clear hst HA
        have hN := below_then hHeld b9
        go_wp2_with fail
        clear hHeld b9
        refine hK.out _ _ hN (fun hHeld => ?_)
        clear hK K hN
        try simp only [List.getElem_toArray, List.getElem_cons_succ, List.getElem_cons_zero, Act.put, List.setIfInBounds_toArray, List.set_cons_zero, List.set_cons_succ]
        refine wpAnyH_ready (rs := [4]) (by kernel_rfl) (by simp) ?_
        refine AllReadyH.cons (o := _) rfl (fun K hK => ?_) AllReadyH.nil
        go_simp
        refine (rsame_anyL _ _ 130 130 130 130 primL primL _ HA2.out HB.out (by decide +kernel)).mono ?_
        rintro e u4 ⟨rfl, b9⟩
        clear HA2 HB
        rw [prims_self]
        have hN := below_then hHeld b9
        go_wp2_with fail
        clear hHeld b9
        refine hK.out _ _ hN (fun hHeld => ?_)
        clear hK K hN
        try simp only [List.getElem_toArray, List.getElem_cons_succ, List.getElem_cons_zero, Act.put, List.setIfInBounds_toArray, List.set_cons_zero, List.set_cons_succ]
        refine wpAnyH_take (i := 5) (oi := _) (v := ?v5) rfl (by kernel_rfl) (by kernel_rfl) (by kernel_rfl) (fun _ _ _ h => h) (Or.inl ⟨by kernel_rfl, ?y5⟩) (by assumption) ?r5
        case y5 => (intro u hSu; (try dsimp only at hSu); go_simp; (try with_reducible rfl))
        try simp only [List.getElem_toArray, List.getElem_cons_succ, List.getElem_cons_zero, Act.put, List.setIfInBounds_toArray, List.set_cons_zero, List.set_cons_succ]
        refine wpAnyH_take (i := 6) (oi := _) (v := ?v6) rfl (by kernel_rfl) (by kernel_rfl) (by kernel_rfl) (fun _ _ _ h => h) (Or.inl ⟨by kernel_rfl, ?y6⟩) (by assumption) ?r6
        case y6 => (intro u hSu; (try dsimp only at hSu); go_simp; (try with_reducible rfl))
        try simp only [List.getElem_toArray, List.getElem_cons_succ, List.getElem_cons_zero, Act.put, List.setIfInBounds_toArray, List.set_cons_zero, List.set_cons_succ]
        refine wpAnyH_ready (rs := [7]) (by kernel_rfl) (by simp) ?_
        refine AllReadyH.cons (o := _) rfl (fun K hK => ?_) AllReadyH.nil
        go_simp
        refine (specials_any _ (T10.out.keep hHeld)).mono ?_
        rintro e u7 ⟨rfl, hst, b9⟩
        have HA := Lib.hid hst
        clear hst
        have hN := below_then hHeld b9
        go_wp2_with fail
        clear hHeld b9
        refine hK.out _ _ hN (fun hHeld => ?_)
        clear hK K hN
        try simp only [List.getElem_toArray, List.getElem_cons_succ, List.getElem_cons_zero, Act.put, List.setIfInBounds_toArray, List.set_cons_zero, List.set_cons_succ]
        refine wpAnyH_ready (rs := [8]) (by kernel_rfl) (by simp) ?_
        refine AllReadyH.cons (o := _) rfl (fun K hK => ?_) AllReadyH.nil
        go_simp
        refine (rspecials_any _).mono ?_
        rintro e u8 ⟨rfl, hst, b9⟩
        have HA2 := Lib.hid (HA.out.keep b9)
        have HB := Lib.hid hst
        clear hst HA
        have hN := below_then hHeld b9
        go_wp2_with fail
        clear hHeld b9
        refine hK.out _ _ hN (fun hHeld => ?_)
        clear hK K hN
        try simp only [List.getElem_toArray, List.getElem_cons_succ, List.getElem_cons_zero, Act.put, List.setIfInBounds_toArray, List.set_cons_zero, List.set_cons_succ]
        refine wpAnyH_ready (rs := [9]) (by kernel_rfl) (by simp) ?_
        refine AllReadyH.cons (o := _) rfl (fun K hK => ?_) AllReadyH.nil
        go_simp
        refine (rsame_anyL _ _ 37 37 37 37 specL specL _ HA2.out HB.out (by decide +kernel)).mono ?_
        rintro e u9 ⟨rfl, b9⟩
        clear HA2 HB
        rw [specs_self]
        have hN := below_then hHeld b9
        go_wp2_with fail
        clear hHeld b9
        refine hK.out _ _ hN (fun hHeld => ?_)
        clear hK K hN
        try simp only [List.getElem_toArray, List.getElem_cons_succ, List.getElem_cons_zero, Act.put, List.setIfInBounds_toArray, List.set_cons_zero, List.set_cons_succ]
        refine wpAnyH_take (i := 10) (oi := _) (v := ?v10) rfl (by kernel_rfl) (by kernel_rfl) (by kernel_rfl) (fun _ _ _ h => h) (Or.inl ⟨by kernel_rfl, ?y10⟩) (by assumption) ?r10
        case y10 => (intro u hSu; (try dsimp only at hSu); go_simp; (try with_reducible rfl))
        try simp only [List.getElem_toArray, List.getElem_cons_succ, List.getElem_cons_zero, Act.put, List.setIfInBounds_toArray, List.set_cons_zero, List.set_cons_succ]
        refine wpAnyH_take (i := 11) (oi := _) (v := ?v11) rfl (by kernel_rfl) (by kernel_rfl) (by kernel_rfl) (fun _ _ _ h => h) (Or.inl ⟨by kernel_rfl, ?y11⟩) (by assumption) ?r11
        case y11 => (intro u hSu; (try dsimp only at hSu); go_simp; (try with_reducible rfl))
        try simp only [List.getElem_toArray, List.getElem_cons_succ, List.getElem_cons_zero, Act.put, List.setIfInBounds_toArray, List.set_cons_zero, List.set_cons_succ]
        refine wpAnyH_ready (rs := [12]) (by kernel_rfl) (by simp) ?_
        refine AllReadyH.cons (o := _) rfl (fun K hK => ?_) AllReadyH.nil
        go_simp
        refine (start_any _).mono ?_
        rintro e u12 ⟨rfl, rfl⟩
        go_wp2_with fail
        refine hK.out _ _ hHeld (fun _ => ?_)
        clear hK K
        try simp only [List.getElem_toArray, List.getElem_cons_succ, List.getElem_cons_zero, Act.put, List.setIfInBounds_toArray, List.set_cons_zero, List.set_cons_succ]
        refine wpAnyH_ready (rs := [13]) (by kernel_rfl) (by simp) ?_
        refine AllReadyH.cons (o := _) rfl (fun K hK => ?_) AllReadyH.nil
        go_simp
        refine (rstart10_any _).mono ?_
        rintro e u13 ⟨rfl, rfl⟩
        go_wp2_with fail
        refine hK.out _ _ hHeld (fun _ => ?_)
        clear hK K
        try simp only [List.getElem_toArray, List.getElem_cons_succ, List.getElem_cons_zero, Act.put, List.setIfInBounds_toArray, List.set_cons_zero, List.set_cons_succ]
        refine wpAnyH_take (i := 14) (oi := _) (v := ?v14) rfl (by kernel_rfl) (by kernel_rfl) (by kernel_rfl) (fun _ _ _ h => h) (Or.inl ⟨by kernel_rfl, ?y14⟩) (by assumption) ?r14
        case y14 => (intro u hSu; (try dsimp only at hSu); go_simp; (try with_reducible rfl))
        try simp only [List.getElem_toArray, List.getElem_cons_succ, List.getElem_cons_zero, Act.put, List.setIfInBounds_toArray, List.set_cons_zero, List.set_cons_succ]
        refine wpAnyH_take (i := 15) (oi := _) (v := ?v15) rfl (by kernel_rfl) (by kernel_rfl) (by kernel_rfl) (fun _ _ _ h => h) (Or.inl ⟨by kernel_rfl, ?y15⟩) (by assumption) ?r15
        case y15 => (intro u hSu; (try dsimp only at hSu); go_simp; (try with_reducible rfl))
        try simp only [List.getElem_toArray, List.getElem_cons_succ, List.getElem_cons_zero, Act.put, List.setIfInBounds_toArray, List.set_cons_zero, List.set_cons_succ]
        refine wpAnyH_take (i := 16) (oi := _) (v := ?v16) rfl (by kernel_rfl) (by kernel_rfl) (by kernel_rfl) (fun _ _ _ h => h) (Or.inl ⟨by kernel_rfl, ?y16⟩) (by assumption) ?r16
        case y16 => (intro u hSu; (try dsimp only at hSu); go_simp; (try with_reducible rfl))
        try simp only [List.getElem_toArray, List.getElem_cons_succ, List.getElem_cons_zero, Act.put, List.setIfInBounds_toArray, List.set_cons_zero, List.set_cons_succ]
        refine wpAnyH_take (i := 17) (oi := _) (v := ?v17) rfl (by kernel_rfl) (by kernel_rfl) (by kernel_rfl) (fun _ _ _ h => h) (Or.inl ⟨by kernel_rfl, ?y17⟩) (by assumption) ?r17
        case y17 => (intro u hSu; obtain ⟨q0, q1, q2, q3, q4⟩ := (C10.out.keep hSu).use; go_simp; (try with_reducible rfl))
        try simp only [List.getElem_toArray, List.getElem_cons_succ, List.getElem_cons_zero, Act.put, List.setIfInBounds_toArray, List.set_cons_zero, List.set_cons_succ]
        refine wpAnyH_take (i := 19) (oi := _) (v := ?v19) rfl (by kernel_rfl) (by kernel_rfl) (by kernel_rfl) (fun _ _ _ h => h) (Or.inl ⟨by kernel_rfl, ?y19⟩) (by assumption) ?r19
        case y19 => (intro u hSu; obtain ⟨q0, q1, q2, q3, q4⟩ := (C10.out.keep hSu).use; go_simp; (try with_reducible rfl))
        try simp only [List.getElem_toArray, List.getElem_cons_succ, List.getElem_cons_zero, Act.put, List.setIfInBounds_toArray, List.set_cons_zero, List.set_cons_succ]
        refine wpAnyH_ready (rs := [18]) (by kernel_rfl) (by simp) ?_
        refine AllReadyH.cons (o := _) rfl (fun K hK => ?_) AllReadyH.nil
        go_simp
        refine (C18.out _).mono ?_
        rintro e u18 ⟨rfl, b9⟩
        have hN := below_then hHeld b9
        go_wp2_with fail
        clear hHeld b9
        refine hK.out _ _ hN (fun hHeld => ?_)
        clear hK K hN
        try simp only [List.getElem_toArray, List.getElem_cons_succ, List.getElem_cons_zero, Act.put, List.setIfInBounds_toArray, List.set_cons_zero, List.set_cons_succ]
        refine wpAnyH_ready (rs := [20]) (by kernel_rfl) (by simp) ?_
        refine AllReadyH.cons (o := _) rfl (fun K hK => ?_) AllReadyH.nil
        go_simp
        refine (C20.out _).mono ?_
        rintro e u20 ⟨rfl, b9⟩
        have hN := below_then hHeld b9
        go_wp2_with fail
        clear hHeld b9
        refine hK.out _ _ hN (fun hHeld => ?_)
        clear hK K hN
        try simp only [List.getElem_toArray, List.getElem_cons_succ, List.getElem_cons_zero, Act.put, List.setIfInBounds_toArray, List.set_cons_zero, List.set_cons_succ]
        refine wpAnyH_take (i := 21) (oi := _) (v := ?v21) rfl (by kernel_rfl) (by kernel_rfl) (by kernel_rfl) (fun _ _ _ h => h) (Or.inl ⟨by kernel_rfl, ?y21⟩) (by assumption) ?r21
        case y21 => (intro u hSu; (try dsimp only at hSu); go_simp; (try with_reducible rfl))
        try simp only [List.getElem_toArray, List.getElem_cons_succ, List.getElem_cons_zero, Act.put, List.setIfInBounds_toArray, List.set_cons_zero, List.set_cons_succ]
        refine wpAnyH_take (i := 22) (oi := _) (v := ?v22) rfl (by kernel_rfl) (by kernel_rfl) (by kernel_rfl) (fun _ _ _ h => h) (Or.inl ⟨by kernel_rfl, ?y22⟩) (by assumption) ?r22
        case y22 => (intro u hSu; (try dsimp only at hSu); go_simp; (try with_reducible rfl))
        try simp only [List.getElem_toArray, List.getElem_cons_succ, List.getElem_cons_zero, Act.put, List.setIfInBounds_toArray, List.set_cons_zero, List.set_cons_succ]
        refine wpAnyH_take (i := 23) (oi := _) (v := ?v23) rfl (by kernel_rfl) (by kernel_rfl) (by kernel_rfl) (fun _ _ _ h => h) (Or.inl ⟨by kernel_rfl, ?y23⟩) (by assumption) ?r23
        case y23 => (intro u hSu; (try dsimp only at hSu); go_simp; (try with_reducible rfl))
        try simp only [List.getElem_toArray, List.getElem_cons_succ, List.getElem_cons_zero, Act.put, List.setIfInBounds_toArray, List.set_cons_zero, List.set_cons_succ]
        refine wpAnyH_take (i := 24) (oi := _) (v := vmV jx) rfl (by kernel_rfl) (by kernel_rfl) (by kernel_rfl) (fun _ _ _ h => h) (Or.inl ⟨by kernel_rfl, ?y24⟩) (by assumption) ?r24
        case y24 => (exact fun u hSu => exec_vload _ rfl w7.heap.size jx rfl (VP10.out.keep hSu))
        try simp only [List.getElem_toArray, List.getElem_cons_succ, List.getElem_cons_zero, Act.put, List.setIfInBounds_toArray, List.set_cons_zero, List.set_cons_succ]
        refine wpAnyH_take (i := 25) (oi := _) (v := vmV jy) rfl (by kernel_rfl) (by kernel_rfl) (by kernel_rfl) (fun _ _ _ h => h) (Or.inl ⟨by kernel_rfl, ?y25⟩) (by assumption) ?r25
        case y25 => (exact fun u hSu => exec_vload _ rfl w9.heap.size jy rfl (VQ10.out.keep hSu))
        try simp only [List.getElem_toArray, List.getElem_cons_succ, List.getElem_cons_zero, Act.put, List.setIfInBounds_toArray, List.set_cons_zero, List.set_cons_succ]
        refine wpAnyH_ready (rs := [26]) (by kernel_rfl) (by simp) ?_
        refine AllReadyH.cons (o := _) rfl (fun K hK => ?_) AllReadyH.nil
        go_simp
        refine (C26.out _ hHeld).mono ?_
        rintro e u26 ⟨rfl, b9⟩
        have hN := below_then hHeld b9
        go_wp2_with fail
        clear hHeld b9
        refine hK.out _ _ hN (fun hHeld => ?_)
        clear hK K hN
        try simp only [List.getElem_toArray, List.getElem_cons_succ, List.getElem_cons_zero, Act.put, List.setIfInBounds_toArray, List.set_cons_zero, List.set_cons_succ]
        refine wpAnyH_take (i := 27) (oi := _) (v := ?v27) rfl (by kernel_rfl) (by kernel_rfl) (by kernel_rfl) (fun _ _ _ h => h) (Or.inl ⟨by kernel_rfl, ?y27⟩) (by assumption) ?r27
        case y27 => (intro u hSu; (try dsimp only at hSu); go_simp; (try with_reducible rfl))
        try simp only [List.getElem_toArray, List.getElem_cons_succ, List.getElem_cons_zero, Act.put, List.setIfInBounds_toArray, List.set_cons_zero, List.set_cons_succ]
        refine wpAnyH_take (i := 28) (oi := _) (v := ?v28) rfl (by kernel_rfl) (by kernel_rfl) (by kernel_rfl) (fun _ _ _ h => h) (Or.inl ⟨by kernel_rfl, ?y28⟩) (by assumption) ?r28
        case y28 => (intro u hSu; (try dsimp only at hSu); go_simp; (try with_reducible rfl))
        try simp only [List.getElem_toArray, List.getElem_cons_succ, List.getElem_cons_zero, Act.put, List.setIfInBounds_toArray, List.set_cons_zero, List.set_cons_succ]
        refine wpAnyH_take (i := 29) (oi := _) (v := ?v29) rfl (by kernel_rfl) (by kernel_rfl) (by kernel_rfl) (fun _ _ _ h => h) (Or.inl ⟨by kernel_rfl, ?y29⟩) (by assumption) ?r29
        case y29 => (intro u hSu; (try dsimp only at hSu); go_simp; (try with_reducible rfl))
        try simp only [List.getElem_toArray, List.getElem_cons_succ, List.getElem_cons_zero, Act.put, List.setIfInBounds_toArray, List.set_cons_zero, List.set_cons_succ]
        refine wpAnyH_take (i := 30) (oi := _) (v := ?v30) rfl (by kernel_rfl) (by kernel_rfl) (by kernel_rfl) (fun _ _ _ h => h) (Or.inl ⟨by kernel_rfl, ?y30⟩) (by assumption) ?r30
        case y30 => (intro u hSu; (try dsimp only at hSu); go_simp; (try with_reducible rfl))
        try simp only [List.getElem_toArray, List.getElem_cons_succ, List.getElem_cons_zero, Act.put, List.setIfInBounds_toArray, List.set_cons_zero, List.set_cons_succ]
        refine wpAnyH_take (i := 31) (oi := _) (v := ?v31) rfl (by kernel_rfl) (by kernel_rfl) (by kernel_rfl) (fun _ _ _ h => h) (Or.inl ⟨by kernel_rfl, ?y31⟩) (by assumption) ?r31
        case y31 => (intro u hSu; (try dsimp only at hSu); go_simp; (try with_reducible rfl))
        try simp only [List.getElem_toArray, List.getElem_cons_succ, List.getElem_cons_zero, Act.put, List.setIfInBounds_toArray, List.set_cons_zero, List.set_cons_succ]
        refine wpAnyH_take (i := 32) (oi := _) (v := ?v32) rfl (by kernel_rfl) (by kernel_rfl) (by kernel_rfl) (fun _ _ _ h => h) (Or.inl ⟨by kernel_rfl, ?y32⟩) (by assumption) ?r32
        case y32 => (intro u hSu; (try dsimp only at hSu); go_simp; (try with_reducible rfl))
        try simp only [List.getElem_toArray, List.getElem_cons_succ, List.getElem_cons_zero, Act.put, List.setIfInBounds_toArray, List.set_cons_zero, List.set_cons_succ]
        refine wpAnyH_take (i := 33) (oi := _) (v := ?v33) rfl (by kernel_rfl) (by kernel_rfl) (by kernel_rfl) (fun _ _ _ h => h) (Or.inl ⟨by kernel_rfl, ?y33⟩) (by assumption) ?r33
        case y33 => (intro u hSu; (try dsimp only at hSu); go_simp; (try with_reducible rfl))
        try simp only [List.getElem_toArray, List.getElem_cons_succ, List.getElem_cons_zero, Act.put, List.setIfInBounds_toArray, List.set_cons_zero, List.set_cons_succ]
        refine wpAnyH_take (i := 34) (oi := _) (v := vmV k) rfl (by kernel_rfl) (by kernel_rfl) (by kernel_rfl) (fun _ _ _ h => h) (Or.inl ⟨by kernel_rfl, ?y34⟩) (by assumption) ?r34
        case y34 => (exact fun u hSu => exec_vload _ rfl (w.heap.size + 1) k rfl (X10.out.keep hSu))
        try simp only [List.getElem_toArray, List.getElem_cons_succ, List.getElem_cons_zero, Act.put, List.setIfInBounds_toArray, List.set_cons_zero, List.set_cons_succ]
        refine wpAnyH_take (i := 36) (oi := _) (v := vmV k) rfl (by kernel_rfl) (by kernel_rfl) (by kernel_rfl) (fun _ _ _ h => h) (Or.inl ⟨by kernel_rfl, ?y36⟩) (by assumption) ?r36
        case y36 => (exact fun u hSu => exec_vload _ rfl (w.heap.size + 1) k rfl (X10.out.keep hSu))
        try simp only [List.getElem_toArray, List.getElem_cons_succ, List.getElem_cons_zero, Act.put, List.setIfInBounds_toArray, List.set_cons_zero, List.set_cons_succ]
        refine wpAnyH_ready (rs := [35]) (by kernel_rfl) (by simp) ?_
        refine AllReadyH.cons (o := _) rfl (fun K hK => ?_) AllReadyH.nil
        go_simp
        refine (C35.out _ hHeld).mono ?_
        rintro e u35 ⟨rfl, b9⟩
        have hN := below_then hHeld b9
        go_wp2_with fail
        clear hHeld b9
        refine hK.out _ _ hN (fun hHeld => ?_)
        clear hK K hN
        try simp only [List.getElem_toArray, List.getElem_cons_succ, List.getElem_cons_zero, Act.put, List.setIfInBounds_toArray, List.set_cons_zero, List.set_cons_succ]
        refine wpAnyH_ready (rs := [37]) (by kernel_rfl) (by simp) ?_
        refine AllReadyH.cons (o := _) rfl (fun K hK => ?_) AllReadyH.nil
        go_simp
        refine (C37.out _ hHeld).mono ?_
        rintro e u37 ⟨rfl, b9⟩
        have hN := below_then hHeld b9
        go_wp2_with fail
        clear hHeld b9
        refine hK.out _ _ hN (fun hHeld => ?_)
        clear hK K hN
        try simp only [List.getElem_toArray, List.getElem_cons_succ, List.getElem_cons_zero, Act.put, List.setIfInBounds_toArray, List.set_cons_zero, List.set_cons_succ]
        refine wpAnyH_take (i := 38) (oi := _) (v := ?v38) rfl (by kernel_rfl) (by kernel_rfl) (by kernel_rfl) (fun _ _ _ h => h) (Or.inl ⟨by kernel_rfl, ?y38⟩) (by assumption) ?r38
        case y38 => (intro u hSu; (try dsimp only at hSu); go_simp; (try with_reducible rfl))
        try simp only [List.getElem_toArray, List.getElem_cons_succ, List.getElem_cons_zero, Act.put, List.setIfInBounds_toArray, List.set_cons_zero, List.set_cons_succ]
        refine wpAnyH_take (i := 39) (oi := _) (v := ?v39) rfl (by kernel_rfl) (by kernel_rfl) (by kernel_rfl) (fun _ _ _ h => h) (Or.inl ⟨by kernel_rfl, ?y39⟩) (by assumption) ?r39
        case y39 => (intro u hSu; (try dsimp only at hSu); go_simp; (try with_reducible rfl))
        try simp only [List.getElem_toArray, List.getElem_cons_succ, List.getElem_cons_zero, Act.put, List.setIfInBounds_toArray, List.set_cons_zero, List.set_cons_succ]
        refine wpAnyH_take (i := 40) (oi := _) (v := ?v40) rfl (by kernel_rfl) (by kernel_rfl) (by kernel_rfl) (fun _ _ _ h => h) (Or.inl ⟨by kernel_rfl, ?y40⟩) (by assumption) ?r40
        case y40 => (intro u hSu; (try dsimp only at hSu); go_simp; (try with_reducible rfl))
        try simp only [List.getElem_toArray, List.getElem_cons_succ, List.getElem_cons_zero, Act.put, List.setIfInBounds_toArray, List.set_cons_zero, List.set_cons_succ]
        refine wpAnyH_take (i := 41) (oi := _) (v := vmV k) rfl (by kernel_rfl) (by kernel_rfl) (by kernel_rfl) (fun _ _ _ h => h) (Or.inl ⟨by kernel_rfl, ?y41⟩) (by assumption) ?r41
        case y41 => (exact fun u hSu => exec_vload _ rfl (w.heap.size + 1) k rfl (X10.out.keep hSu))
        try simp only [List.getElem_toArray, List.getElem_cons_succ, List.getElem_cons_zero, Act.put, List.setIfInBounds_toArray, List.set_cons_zero, List.set_cons_succ]
        refine wpAnyH_take (i := 42) (oi := _) (v := vmV j) rfl (by kernel_rfl) (by kernel_rfl) (by kernel_rfl) (fun _ _ _ h => h) (Or.inl ⟨by kernel_rfl, ?y42⟩) (by assumption) ?r42
        case y42 => (exact fun u hSu => exec_vload _ rfl (w.heap.size + 1 + 1) j rfl (Y10.out.keep hSu))
        try simp only [List.getElem_toArray, List.getElem_cons_succ, List.getElem_cons_zero, Act.put, List.setIfInBounds_toArray, List.set_cons_zero, List.set_cons_succ]
        refine wpAnyH_take (i := 44) (oi := _) (v := vmV k) rfl (by kernel_rfl) (by kernel_rfl) (by kernel_rfl) (fun _ _ _ h => h) (Or.inl ⟨by kernel_rfl, ?y44⟩) (by assumption) ?r44
        case y44 => (exact fun u hSu => exec_vload _ rfl (w.heap.size + 1) k rfl (X10.out.keep hSu))
        try simp only [List.getElem_toArray, List.getElem_cons_succ, List.getElem_cons_zero, Act.put, List.setIfInBounds_toArray, List.set_cons_zero, List.set_cons_succ]
        refine wpAnyH_take (i := 45) (oi := _) (v := vmV j) rfl (by kernel_rfl) (by kernel_rfl) (by kernel_rfl) (fun _ _ _ h => h) (Or.inl ⟨by kernel_rfl, ?y45⟩) (by assumption) ?r45
        case y45 => (exact fun u hSu => exec_vload _ rfl (w.heap.size + 1 + 1) j rfl (Y10.out.keep hSu))
        try simp only [List.getElem_toArray, List.getElem_cons_succ, List.getElem_cons_zero, Act.put, List.setIfInBounds_toArray, List.set_cons_zero, List.set_cons_succ]
        refine wpAnyH_ready (rs := [43]) (by kernel_rfl) (by simp) ?_
        refine AllReadyH.cons (o := _) rfl (fun K hK => ?_) AllReadyH.nil
        go_simp
        refine (C43.out _ hHeld).mono ?_
        rintro e u43 ⟨rfl, b9⟩
        have hN := below_then hHeld b9
        go_wp2_with fail
        clear hHeld b9
        refine hK.out _ _ hN (fun hHeld => ?_)
        clear hK K hN
        try simp only [List.getElem_toArray, List.getElem_cons_succ, List.getElem_cons_zero, Act.put, List.setIfInBounds_toArray, List.set_cons_zero, List.set_cons_succ]
        refine wpAnyH_ready (rs := [46]) (by kernel_rfl) (by simp) ?_
        refine AllReadyH.cons (o := _) rfl (fun K hK => ?_) AllReadyH.nil
        go_simp
        refine (C46.out _ hHeld).mono ?_
        rintro e u46 ⟨rfl, b9⟩
        have hN := below_then hHeld b9
        go_wp2_with fail
        clear hHeld b9
        refine hK.out _ _ hN (fun hHeld => ?_)
        clear hK K hN
        try simp only [List.getElem_toArray, List.getElem_cons_succ, List.getElem_cons_zero, Act.put, List.setIfInBounds_toArray, List.set_cons_zero, List.set_cons_succ]
        refine wpAnyH_take (i := 47) (oi := _) (v := ?v47) rfl (by kernel_rfl) (by kernel_rfl) (by kernel_rfl) (fun _ _ _ h => h) (Or.inl ⟨by kernel_rfl, ?y47⟩) (by assumption) ?r47
        case y47 => (intro u hSu; (try dsimp only at hSu); go_simp; (try with_reducible rfl))
        try simp only [List.getElem_toArray, List.getElem_cons_succ, List.getElem_cons_zero, Act.put, List.setIfInBounds_toArray, List.set_cons_zero, List.set_cons_succ]
        refine wpAnyH_take (i := 48) (oi := _) (v := ?v48) rfl (by kernel_rfl) (by kernel_rfl) (by kernel_rfl) (fun _ _ _ h => h) (Or.inl ⟨by kernel_rfl, ?y48⟩) (by assumption) ?r48
        case y48 => (intro u hSu; (try dsimp only at hSu); go_simp; (try with_reducible rfl))
        try simp only [List.getElem_toArray, List.getElem_cons_succ, List.getElem_cons_zero, Act.put, List.setIfInBounds_toArray, List.set_cons_zero, List.set_cons_succ]
        refine wpAnyH_take (i := 49) (oi := _) (v := ?v49) rfl (by kernel_rfl) (by kernel_rfl) (by kernel_rfl) (fun _ _ _ h => h) (Or.inl ⟨by kernel_rfl, ?y49⟩) (by assumption) ?r49
        case y49 => (intro u hSu; (try dsimp only at hSu); go_simp; (try with_reducible rfl))
        try simp only [List.getElem_toArray, List.getElem_cons_succ, List.getElem_cons_zero, Act.put, List.setIfInBounds_toArray, List.set_cons_zero, List.set_cons_succ]
        refine wpAnyH_done (by kernel_rfl) ?_ _
        refine NoPanic.normal ?_
        go_wp2_with fail
        go_ret
        exact ⟨by simp, below_then B10.out hHeld⟩
end Go.Proofs.YtbighilgkmfemaaGreatDoor
