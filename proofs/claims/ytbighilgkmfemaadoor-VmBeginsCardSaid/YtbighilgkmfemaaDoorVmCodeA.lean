/- Contracts of the program's Push, Pop, RPush, RPop. -/
import Derived.Test.YtbighilgkmfemaaDoorVmRefB
namespace Go.Proofs.YtbighilgkmfemaaDoor
open Go.RowKit
set_option linter.unusedVariables false
set_option linter.unusedSimpArgs false

set_option maxRecDepth 100000 in
set_option maxHeartbeats 4000000 in
theorem vpush_any (k : VmK) (l : List Int) (x : Int) (w : World) (hn : k.dn ≤ 65536) (HR : Hid (Row w k.dA k.dn k.dc l)) :
    Calls Tryd.prog 15 #[vmV k, .int .i64 x] w fun e w' => ∃ B m d, e = .returned (.tuple #[vmV { k with dA := B, dn := m, dc := d }, .int .i64 (pushC l k.cd)]) ∧ Row w' B m d (pushL l x k.cd) ∧ Below w.heap.size w w' := by
  obtain ⟨o1, ho1⟩ : ∃ o1 : Obj, (.cells #[.int .i64 k.cm, .int .i64 k.cd, .int .i64 k.cr, .int .i64 k.cw, .int .i64 k.co, .slice k.mA k.mn k.mc, .slice k.pA k.pn k.pc, .int .i64 k.here, .slice k.dA k.dn k.dc, .slice k.rA k.rn k.rc, .slice k.fA k.fn k.fc, .slice k.wA k.wn k.wc, .int .i64 k.last, .slice k.oA k.on k.oc, .slice k.qA k.qn k.qc, .bool k.qo, .slice k.eA k.en k.ec, .int .i64 k.free, .int .i64 k.next, .int .i64 k.arg, .int .i64 k.self, .int .i64 k.now, .slice k.hA k.hn k.hc] 37) = o1 := ⟨_, rfl⟩
  obtain ⟨o2, ho2⟩ : ∃ o2 : Obj, (.cells #[.int .i64 0, .int .i64 0, .int .i64 0, .int .i64 0, .int .i64 0, .slice none 0 0, .slice none 0 0, .int .i64 0, .slice none 0 0, .slice none 0 0, .slice none 0 0, .slice none 0 0, .int .i64 0, .slice none 0 0, .slice none 0 0, .bool false, .slice none 0 0, .int .i64 0, .int .i64 0, .int .i64 0, .int .i64 0, .int .i64 0, .slice none 0 0] 37) = o2 := ⟨_, rfl⟩
  obtain ⟨W, hW⟩ : ∃ W, (w.alloc o1).alloc o2 = W := ⟨_, rfl⟩
  have kk := al_two w o1 o2
  have hx : VBox ((w.alloc o1).alloc o2) w.heap.size k ∧ VBox ((w.alloc o1).alloc o2) (w.heap.size + 1) vm0 := by rw [← ho1, ← ho2]; exact ⟨(vbox_new w k).keep (al_one _ _), by have := vbox_zero (w.alloc (.cells #[.int .i64 k.cm, .int .i64 k.cd, .int .i64 k.cr, .int .i64 k.cw, .int .i64 k.co, .slice k.mA k.mn k.mc, .slice k.pA k.pn k.pc, .int .i64 k.here, .slice k.dA k.dn k.dc, .slice k.rA k.rn k.rc, .slice k.fA k.fn k.fc, .slice k.wA k.wn k.wc, .int .i64 k.last, .slice k.oA k.on k.oc, .slice k.qA k.qn k.qc, .bool k.qo, .slice k.eA k.en k.ec, .int .i64 k.free, .int .i64 k.next, .int .i64 k.arg, .int .i64 k.self, .int .i64 k.now, .slice k.hA k.hn k.hc] 37)); rwa [World.size_alloc] at this⟩
  rw [hW] at kk hx
  have HB := Lib.hid kk
  have HP := Lib.hid hx.1
  have HX := Lib.hid hx.2
  have HW : Hid ((w.alloc (.cells #[.int .i64 k.cm, .int .i64 k.cd, .int .i64 k.cr, .int .i64 k.cw, .int .i64 k.co, .slice k.mA k.mn k.mc, .slice k.pA k.pn k.pc, .int .i64 k.here, .slice k.dA k.dn k.dc, .slice k.rA k.rn k.rc, .slice k.fA k.fn k.fc, .slice k.wA k.wn k.wc, .int .i64 k.last, .slice k.oA k.on k.oc, .slice k.qA k.qn k.qc, .bool k.qo, .slice k.eA k.en k.ec, .int .i64 k.free, .int .i64 k.next, .int .i64 k.arg, .int .i64 k.self, .int .i64 k.now, .slice k.hA k.hn k.hc] 37)).alloc (.cells #[.int .i64 0, .int .i64 0, .int .i64 0, .int .i64 0, .int .i64 0, .slice none 0 0, .slice none 0 0, .int .i64 0, .slice none 0 0, .slice none 0 0, .slice none 0 0, .slice none 0 0, .int .i64 0, .slice none 0 0, .slice none 0 0, .bool false, .slice none 0 0, .int .i64 0, .int .i64 0, .int .i64 0, .int .i64 0, .int .i64 0, .slice none 0 0] 37) = W) := by show _ = _; rw [ho1, ho2]; exact hW
  have HS : Hid (W.heap.size = w.heap.size + 1 + 1) := by show _ = _; rw [← hW]; simp
  by_cases hcd : k.cd ≤ (l.length : Int)
  · have H1 : Hid (pushC l k.cd = -3) := if_pos hcd
    have H3 : Hid (pushC l k.cd = -3) := if_pos hcd
    have H2 : Hid (pushL l x k.cd = l) := if_pos hcd
    have HC := Lib.hid (pushF_at k.dA k.dn k.dc x k.cd l W hn (Lib.hid (HR.out.keep kk)))
    rw [H1.out] at HC
    rw [H3.out]
    clear hcd kk hx hW ho1 ho2
    go_enter Tryd.func15, Tryd.ntmps15
    go_wp2_with fail
    rw [HW.out]
    refine HC.out.mono ?_
    rintro e w1 ⟨B, m, d, rfl, hr, hf, bb⟩
    have XP := Lib.hid (HP.out.keep bb)
    have XZ := Lib.hid (HX.out.keep bb)
    obtain ⟨p0, p1, p2, p3, p4, p5, p6, p7, p8, p9, p10, p11, p12, p13, p14, p15, p16, p17, p18, p19, p20, p21, p22⟩ := XP.out.use
    obtain ⟨f0, f1, f2, f3, f4, f5, f6, f7, f8, f9, f10, f11, f12, f13, f14, f15, f16, f17, f18, f19, f20, f21, f22⟩ := XP.out.free
    have HB1 := Lib.hid (below_then HB.out bb)
    clear HC hr bb hf
    go_wp2_with (first
      | (refine wpList_load_row rfl 37 _ rfl w.heap.size rfl _ _ _ _ XP.out Tryd.underlying37 rfl (by kernel_rfl) ?_)
      | (refine wpList_store_row rfl 37 _ _ rfl (w.heap.size + 1) (vmC k) rfl rfl _ _ XZ.out (by kernel_rfl) rfl (vm_one _) ?_))
    have YF := Lib.hid (vrow XZ.out k)
    refine bodyPost_ret (res_ct rfl _ _ _ _ rfl YF.out) rfl ⟨k.dA, k.dn, k.dc, rfl, ?_, below_setRow HB1.out (by omega) _⟩
    rw [H2.out]
    exact HR.out.keep (below_setRow HB1.out (by omega) _)
  · have H1 : Hid (pushC l k.cd = 0) := if_neg hcd
    have H3 : Hid (pushC l k.cd = 0) := if_neg hcd
    have H2 : Hid (pushL l x k.cd = l ++ [x]) := if_neg hcd
    have HC := Lib.hid (pushF_at k.dA k.dn k.dc x k.cd l W hn (Lib.hid (HR.out.keep kk)))
    rw [H1.out] at HC
    rw [H3.out]
    clear hcd kk hx hW ho1 ho2
    go_enter Tryd.func15, Tryd.ntmps15
    go_wp2_with fail
    rw [HW.out]
    refine HC.out.mono ?_
    rintro e w1 ⟨B, m, d, rfl, hr, hf, bb⟩
    have XP := Lib.hid (HP.out.keep bb)
    have XZ := Lib.hid (HX.out.keep bb)
    obtain ⟨p0, p1, p2, p3, p4, p5, p6, p7, p8, p9, p10, p11, p12, p13, p14, p15, p16, p17, p18, p19, p20, p21, p22⟩ := XP.out.use
    obtain ⟨f0, f1, f2, f3, f4, f5, f6, f7, f8, f9, f10, f11, f12, f13, f14, f15, f16, f17, f18, f19, f20, f21, f22⟩ := XP.out.free
    have YP := Lib.hid (XP.out.set_d B m d)
    have YZ : Hid (VBox (w1.setCell ⟨w.heap.size, 8, none⟩ (.slice B m d)) (w.heap.size + 1) vm0) := by show VBox _ _ _; unfold VBox; rw [Below.heap_setCell _ _ _ _ (by simp)]; exact XZ.out
    have lp := XP.out.lt
    have HR1 := Lib.hid hr
    have HB1 := Lib.hid bb
    have HF1 := Lib.hid hf
    clear HC hr bb hf
    go_wp2_with (first
      | (refine wpList_load_row rfl 37 _ rfl w.heap.size rfl _ _ _ _ YP.out Tryd.underlying37 rfl (by kernel_rfl) ?_)
      | (refine wpList_store_row rfl 37 _ _ rfl (w.heap.size + 1) (vmC { k with dA := B, dn := m, dc := d }) rfl rfl _ _ YZ.out (by kernel_rfl) rfl (vm_one _) ?_))
    have YF := Lib.hid (vrow YZ.out { k with dA := B, dn := m, dc := d })
    refine bodyPost_ret (res_ct rfl _ _ _ _ rfl YF.out) rfl ⟨B, m, d, rfl, ?_, ?_⟩
    · rw [H2.out] at HR1 ⊢
      refine HR.out.from HR1.out HF1.out HB.out.size (by simp [World.setRow, World.setCell]) fun g hg hlt => ?_
      rw [setRow_other _ _ _ _ (by have := HS.out; omega), Below.heap_setCell _ _ _ _ (by have := HS.out; show g ≠ w.heap.size; omega)]
    · exact below_setRow ((below_then HB.out HB1.out).setCell (p := ⟨w.heap.size, 8, none⟩) (Nat.le_refl _) _) (by omega) _
set_option maxRecDepth 100000 in
set_option maxHeartbeats 4000000 in
theorem vpop_any (k : VmK) (l : List Int) (w : World) (hn : k.dn ≤ 65536) (HR : Hid (Row w k.dA k.dn k.dc l)) :
    Calls Tryd.prog 16 #[vmV k] w fun e w' => ∃ B m d, e = .returned (.tuple #[.int .i64 (popX l), vmV { k with dA := B, dn := m, dc := d }, .int .i64 (popC l)]) ∧ Row w' B m d (popL l) ∧ Below w.heap.size w w' := by
  obtain ⟨o1, ho1⟩ : ∃ o1 : Obj, (.cells #[.int .i64 k.cm, .int .i64 k.cd, .int .i64 k.cr, .int .i64 k.cw, .int .i64 k.co, .slice k.mA k.mn k.mc, .slice k.pA k.pn k.pc, .int .i64 k.here, .slice k.dA k.dn k.dc, .slice k.rA k.rn k.rc, .slice k.fA k.fn k.fc, .slice k.wA k.wn k.wc, .int .i64 k.last, .slice k.oA k.on k.oc, .slice k.qA k.qn k.qc, .bool k.qo, .slice k.eA k.en k.ec, .int .i64 k.free, .int .i64 k.next, .int .i64 k.arg, .int .i64 k.self, .int .i64 k.now, .slice k.hA k.hn k.hc] 37) = o1 := ⟨_, rfl⟩
  obtain ⟨o2, ho2⟩ : ∃ o2 : Obj, (.cells #[.int .i64 0, .int .i64 0, .int .i64 0, .int .i64 0, .int .i64 0, .slice none 0 0, .slice none 0 0, .int .i64 0, .slice none 0 0, .slice none 0 0, .slice none 0 0, .slice none 0 0, .int .i64 0, .slice none 0 0, .slice none 0 0, .bool false, .slice none 0 0, .int .i64 0, .int .i64 0, .int .i64 0, .int .i64 0, .int .i64 0, .slice none 0 0] 37) = o2 := ⟨_, rfl⟩
  obtain ⟨W, hW⟩ : ∃ W, (w.alloc o1).alloc o2 = W := ⟨_, rfl⟩
  have kk := al_two w o1 o2
  have hx : VBox ((w.alloc o1).alloc o2) w.heap.size k ∧ VBox ((w.alloc o1).alloc o2) (w.heap.size + 1) vm0 := by rw [← ho1, ← ho2]; exact ⟨(vbox_new w k).keep (al_one _ _), by have := vbox_zero (w.alloc (.cells #[.int .i64 k.cm, .int .i64 k.cd, .int .i64 k.cr, .int .i64 k.cw, .int .i64 k.co, .slice k.mA k.mn k.mc, .slice k.pA k.pn k.pc, .int .i64 k.here, .slice k.dA k.dn k.dc, .slice k.rA k.rn k.rc, .slice k.fA k.fn k.fc, .slice k.wA k.wn k.wc, .int .i64 k.last, .slice k.oA k.on k.oc, .slice k.qA k.qn k.qc, .bool k.qo, .slice k.eA k.en k.ec, .int .i64 k.free, .int .i64 k.next, .int .i64 k.arg, .int .i64 k.self, .int .i64 k.now, .slice k.hA k.hn k.hc] 37)); rwa [World.size_alloc] at this⟩
  rw [hW] at kk hx
  have HB := Lib.hid kk
  have HP := Lib.hid hx.1
  have HX := Lib.hid hx.2
  have HW : Hid ((w.alloc (.cells #[.int .i64 k.cm, .int .i64 k.cd, .int .i64 k.cr, .int .i64 k.cw, .int .i64 k.co, .slice k.mA k.mn k.mc, .slice k.pA k.pn k.pc, .int .i64 k.here, .slice k.dA k.dn k.dc, .slice k.rA k.rn k.rc, .slice k.fA k.fn k.fc, .slice k.wA k.wn k.wc, .int .i64 k.last, .slice k.oA k.on k.oc, .slice k.qA k.qn k.qc, .bool k.qo, .slice k.eA k.en k.ec, .int .i64 k.free, .int .i64 k.next, .int .i64 k.arg, .int .i64 k.self, .int .i64 k.now, .slice k.hA k.hn k.hc] 37)).alloc (.cells #[.int .i64 0, .int .i64 0, .int .i64 0, .int .i64 0, .int .i64 0, .slice none 0 0, .slice none 0 0, .int .i64 0, .slice none 0 0, .slice none 0 0, .slice none 0 0, .slice none 0 0, .int .i64 0, .slice none 0 0, .slice none 0 0, .bool false, .slice none 0 0, .int .i64 0, .int .i64 0, .int .i64 0, .int .i64 0, .int .i64 0, .slice none 0 0] 37) = W) := by show _ = _; rw [ho1, ho2]; exact hW
  have HS : Hid (W.heap.size = w.heap.size + 1 + 1) := by show _ = _; rw [← hW]; simp
  by_cases hcd : l.length = 0
  · have H1 : Hid (popC l = -4) := if_pos hcd
    have H3 : Hid (popC l = -4) := if_pos hcd
    obtain rfl : l = [] := List.eq_nil_of_length_eq_zero hcd
    have HC := Lib.hid (popF_at k.dA k.dn k.dc [] W hn (Lib.hid (HR.out.keep kk)))
    rw [H1.out] at HC
    rw [H3.out]
    clear hcd kk hx hW ho1 ho2
    obtain ⟨Y, hY⟩ : ∃ Y, popX [] = Y := ⟨_, rfl⟩
    rw [hY] at HC ⊢
    have hY0 : Y = 0 := hY.symm
    subst hY0
    clear hY
    go_enter Tryd.func16, Tryd.ntmps16
    go_wp2_with fail
    rw [HW.out]
    refine HC.out.mono ?_
    rintro e w1 ⟨B, m, d, rfl, hr, hf, bb⟩
    have XP := Lib.hid (HP.out.keep bb)
    have XZ := Lib.hid (HX.out.keep bb)
    obtain ⟨p0, p1, p2, p3, p4, p5, p6, p7, p8, p9, p10, p11, p12, p13, p14, p15, p16, p17, p18, p19, p20, p21, p22⟩ := XP.out.use
    obtain ⟨f0, f1, f2, f3, f4, f5, f6, f7, f8, f9, f10, f11, f12, f13, f14, f15, f16, f17, f18, f19, f20, f21, f22⟩ := XP.out.free
    have HB1 := Lib.hid (below_then HB.out bb)
    clear HC hr bb hf
    go_upto_region 3 with fail
    refine wp_region_noPanic ?_
    refine wp_region_held_drew (S := fun a => VBox a w.heap.size k ∧ ∃ j, VBox a (w.heap.size + 1) j) (by kernel_rfl) ?_ (fun hHeld => ?_)
    · exact ⟨XP.out, vm0, XZ.out⟩
    (refine wpAnyH_take (i := 1) (oi := _) (v := ?v1e) rfl (by kernel_rfl) (by kernel_rfl) (by kernel_rfl) (fun _ _ _ h => h) (Or.inl ⟨by kernel_rfl, ?y1e⟩) (by assumption) ?r1e; case y1e => (intro w hSw; (try dsimp only at hSw); go_simp; (try with_reducible rfl))); (try simp only [List.getElem_toArray, List.getElem_cons_succ, List.getElem_cons_zero, Act.put, List.setIfInBounds_toArray, List.set_cons_zero, List.set_cons_succ])
    (refine wpAnyH_take (i := 2) (oi := _) (v := ?v2e) rfl (by kernel_rfl) (by kernel_rfl) (by kernel_rfl) (fun _ _ _ h => h) (Or.inl ⟨by kernel_rfl, ?y2e⟩) (by assumption) ?r2e; case y2e => (intro w hSw; (try dsimp only at hSw); go_simp; (try with_reducible rfl))); (try simp only [List.getElem_toArray, List.getElem_cons_succ, List.getElem_cons_zero, Act.put, List.setIfInBounds_toArray, List.set_cons_zero, List.set_cons_succ])
    refine wpAnyH_ready (rs := [0]) (by kernel_rfl) (by simp) ?_
    refine AllReadyH.cons (o := _) rfl (fun K hK => ?_) AllReadyH.nil
    refine step_vload rfl _ rfl w.heap.size k rfl hHeld.1 ?_
    refine hK.out _ _ hHeld (fun hHeld => ?_)
    clear hK K
    try simp only [List.getElem_toArray, List.getElem_cons_succ, List.getElem_cons_zero, Act.put, List.setIfInBounds_toArray, List.set_cons_zero, List.set_cons_succ]
    refine wpAnyH_ready (rs := [3]) (by kernel_rfl) (by simp) ?_
    refine AllReadyH.cons (o := _) rfl (fun K hK => ?_) AllReadyH.nil
    obtain ⟨hb1, j, hb2⟩ := hHeld
    refine step_vstore rfl _ _ rfl (w.heap.size + 1) j k rfl rfl hb2 ?_
    have hb3 := vrow hb2 k
    refine hK.out _ _ ⟨vrow_far hb1 (by omega) _, _, hb3⟩ (fun hHeld => ?_)
    clear hK K
    try simp only [List.getElem_toArray, List.getElem_cons_succ, List.getElem_cons_zero, Act.put, List.setIfInBounds_toArray, List.set_cons_zero, List.set_cons_succ]
    (refine wpAnyH_take (i := 4) (oi := _) (v := ?v4e) rfl (by kernel_rfl) (by kernel_rfl) (by kernel_rfl) (fun _ _ _ h => h) (Or.inl ⟨by kernel_rfl, ?y4e⟩) (by assumption) ?r4e; case y4e => (intro w hSw; (try dsimp only at hSw); go_simp; (try with_reducible rfl))); (try simp only [List.getElem_toArray, List.getElem_cons_succ, List.getElem_cons_zero, Act.put, List.setIfInBounds_toArray, List.set_cons_zero, List.set_cons_succ])
    refine wpAnyH_done (by kernel_rfl) ?_ _
    refine NoPanic.normal ?_
    go_wp2_with fail
    refine bodyPost_ret (res_tct rfl _ _ _ _ rfl hb3) rfl ⟨k.dA, k.dn, k.dc, rfl, ?_, below_setRow HB1.out.drew (by omega) _⟩
    exact HR.out.keep (below_setRow HB1.out.drew (by omega) _)
  · have H1 : Hid (popC l = 0) := if_neg hcd
    have H3 : Hid (popC l = 0) := if_neg hcd
    have HC := Lib.hid (popF_at k.dA k.dn k.dc l W hn (Lib.hid (HR.out.keep kk)))
    rw [H1.out] at HC
    rw [H3.out]
    clear hcd kk hx hW ho1 ho2
    obtain ⟨Y, hY⟩ : ∃ Y, popX l = Y := ⟨_, rfl⟩
    rw [hY] at HC ⊢
    clear hY
    go_enter Tryd.func16, Tryd.ntmps16
    go_wp2_with fail
    rw [HW.out]
    refine HC.out.mono ?_
    rintro e w1 ⟨B, m, d, rfl, hr, hf, bb⟩
    have XP := Lib.hid (HP.out.keep bb)
    have XZ := Lib.hid (HX.out.keep bb)
    obtain ⟨p0, p1, p2, p3, p4, p5, p6, p7, p8, p9, p10, p11, p12, p13, p14, p15, p16, p17, p18, p19, p20, p21, p22⟩ := XP.out.use
    obtain ⟨f0, f1, f2, f3, f4, f5, f6, f7, f8, f9, f10, f11, f12, f13, f14, f15, f16, f17, f18, f19, f20, f21, f22⟩ := XP.out.free
    have YP := Lib.hid (XP.out.set_d B m d)
    have YZ : Hid (VBox (w1.setCell ⟨w.heap.size, 8, none⟩ (.slice B m d)) (w.heap.size + 1) vm0) := by show VBox _ _ _; unfold VBox; rw [Below.heap_setCell _ _ _ _ (by simp)]; exact XZ.out
    have lp := XP.out.lt
    have HR1 := Lib.hid hr
    have HB1 := Lib.hid bb
    have HF1 := Lib.hid hf
    clear HC hr bb hf
    go_upto_region 5 with fail
    obtain ⟨V, hV⟩ : ∃ V, w1.setCell ⟨w.heap.size, 8, none⟩ (.slice B m d) = V := ⟨_, rfl⟩
    have hVs : V.heap.size = w1.heap.size := by rw [← hV]; simp [World.setCell]
    have hVg : ∀ g, g ≠ w.heap.size → V.heap[g]? = w1.heap[g]? := fun g hg => by rw [← hV]; exact Below.heap_setCell _ _ _ _ hg
    have hVB := (below_then HB.out HB1.out).setCell (p := ⟨w.heap.size, 8, none⟩) (Nat.le_refl _) (.slice B m d)
    rw [hV] at YP YZ hVB
    rw [hV]
    have HVS := Lib.hid hVs
    have HVG := Lib.hid hVg
    have HVB := Lib.hid hVB
    clear hV hVs hVg hVB
    refine wp_region_noPanic ?_
    refine wp_region_held_drew (S := fun a => VBox a w.heap.size { k with dA := B, dn := m, dc := d } ∧ ∃ j, VBox a (w.heap.size + 1) j) (by kernel_rfl) ?_ (fun hHeld => ?_)
    · exact ⟨YP.out, vm0, YZ.out⟩
    (refine wpAnyH_take (i := 0) (oi := _) (v := ?v0o) rfl (by kernel_rfl) (by kernel_rfl) (by kernel_rfl) (fun _ _ _ h => h) (Or.inl ⟨by kernel_rfl, ?y0o⟩) (by assumption) ?r0o; case y0o => (intro w hSw; (try dsimp only at hSw); go_simp; (try with_reducible rfl))); (try simp only [List.getElem_toArray, List.getElem_cons_succ, List.getElem_cons_zero, Act.put, List.setIfInBounds_toArray, List.set_cons_zero, List.set_cons_succ])
    (refine wpAnyH_take (i := 2) (oi := _) (v := ?v2o) rfl (by kernel_rfl) (by kernel_rfl) (by kernel_rfl) (fun _ _ _ h => h) (Or.inl ⟨by kernel_rfl, ?y2o⟩) (by assumption) ?r2o; case y2o => (intro w hSw; (try dsimp only at hSw); go_simp; (try with_reducible rfl))); (try simp only [List.getElem_toArray, List.getElem_cons_succ, List.getElem_cons_zero, Act.put, List.setIfInBounds_toArray, List.set_cons_zero, List.set_cons_succ])
    refine wpAnyH_ready (rs := [1]) (by kernel_rfl) (by simp) ?_
    refine AllReadyH.cons (o := _) rfl (fun K hK => ?_) AllReadyH.nil
    refine step_vload rfl _ rfl w.heap.size { k with dA := B, dn := m, dc := d } rfl hHeld.1 ?_
    refine hK.out _ _ hHeld (fun hHeld => ?_)
    clear hK K
    try simp only [List.getElem_toArray, List.getElem_cons_succ, List.getElem_cons_zero, Act.put, List.setIfInBounds_toArray, List.set_cons_zero, List.set_cons_succ]
    refine wpAnyH_ready (rs := [3]) (by kernel_rfl) (by simp) ?_
    refine AllReadyH.cons (o := _) rfl (fun K hK => ?_) AllReadyH.nil
    obtain ⟨hb1, j, hb2⟩ := hHeld
    refine step_vstore rfl _ _ rfl (w.heap.size + 1) j { k with dA := B, dn := m, dc := d } rfl rfl hb2 ?_
    have hb3 := vrow hb2 { k with dA := B, dn := m, dc := d }
    refine hK.out _ _ ⟨vrow_far hb1 (by omega) _, _, hb3⟩ (fun hHeld => ?_)
    clear hK K
    try simp only [List.getElem_toArray, List.getElem_cons_succ, List.getElem_cons_zero, Act.put, List.setIfInBounds_toArray, List.set_cons_zero, List.set_cons_succ]
    (refine wpAnyH_take (i := 4) (oi := _) (v := ?v4o) rfl (by kernel_rfl) (by kernel_rfl) (by kernel_rfl) (fun _ _ _ h => h) (Or.inl ⟨by kernel_rfl, ?y4o⟩) (by assumption) ?r4o; case y4o => (intro w hSw; (try dsimp only at hSw); go_simp; (try with_reducible rfl))); (try simp only [List.getElem_toArray, List.getElem_cons_succ, List.getElem_cons_zero, Act.put, List.setIfInBounds_toArray, List.set_cons_zero, List.set_cons_succ])
    refine wpAnyH_done (by kernel_rfl) ?_ _
    refine NoPanic.normal ?_
    go_wp2_with fail
    refine bodyPost_ret (res_tct rfl _ _ _ _ rfl hb3) rfl ⟨B, m, d, rfl, ?_, ?_⟩
    · refine HR.out.from HR1.out HF1.out HB.out.size (by have := HVS.out; rw [size_setRow]; exact Nat.le_of_eq this.symm) fun g hg hlt => ?_
      rw [setRow_other _ _ _ _ (by have := HS.out; omega)]
      exact HVG.out g (by have := HS.out; omega)
    · exact below_setRow HVB.out.drew (by omega) _
set_option maxRecDepth 100000 in
set_option maxHeartbeats 4000000 in
theorem vrpop_any (k : VmK) (l : List Int) (w : World) (hn : k.rn ≤ 65536) (HR : Hid (Row w k.rA k.rn k.rc l)) :
    Calls Tryd.prog 17 #[vmV k] w fun e w' => ∃ B m d, e = .returned (.tuple #[.int .i64 (popX l), vmV { k with rA := B, rn := m, rc := d }, .int .i64 (rpopC l)]) ∧ Row w' B m d (popL l) ∧ Below w.heap.size w w' := by
  obtain ⟨o1, ho1⟩ : ∃ o1 : Obj, (.cells #[.int .i64 k.cm, .int .i64 k.cd, .int .i64 k.cr, .int .i64 k.cw, .int .i64 k.co, .slice k.mA k.mn k.mc, .slice k.pA k.pn k.pc, .int .i64 k.here, .slice k.dA k.dn k.dc, .slice k.rA k.rn k.rc, .slice k.fA k.fn k.fc, .slice k.wA k.wn k.wc, .int .i64 k.last, .slice k.oA k.on k.oc, .slice k.qA k.qn k.qc, .bool k.qo, .slice k.eA k.en k.ec, .int .i64 k.free, .int .i64 k.next, .int .i64 k.arg, .int .i64 k.self, .int .i64 k.now, .slice k.hA k.hn k.hc] 37) = o1 := ⟨_, rfl⟩
  obtain ⟨o2, ho2⟩ : ∃ o2 : Obj, (.cells #[.int .i64 0, .int .i64 0, .int .i64 0, .int .i64 0, .int .i64 0, .slice none 0 0, .slice none 0 0, .int .i64 0, .slice none 0 0, .slice none 0 0, .slice none 0 0, .slice none 0 0, .int .i64 0, .slice none 0 0, .slice none 0 0, .bool false, .slice none 0 0, .int .i64 0, .int .i64 0, .int .i64 0, .int .i64 0, .int .i64 0, .slice none 0 0] 37) = o2 := ⟨_, rfl⟩
  obtain ⟨W, hW⟩ : ∃ W, (w.alloc o1).alloc o2 = W := ⟨_, rfl⟩
  have kk := al_two w o1 o2
  have hx : VBox ((w.alloc o1).alloc o2) w.heap.size k ∧ VBox ((w.alloc o1).alloc o2) (w.heap.size + 1) vm0 := by rw [← ho1, ← ho2]; exact ⟨(vbox_new w k).keep (al_one _ _), by have := vbox_zero (w.alloc (.cells #[.int .i64 k.cm, .int .i64 k.cd, .int .i64 k.cr, .int .i64 k.cw, .int .i64 k.co, .slice k.mA k.mn k.mc, .slice k.pA k.pn k.pc, .int .i64 k.here, .slice k.dA k.dn k.dc, .slice k.rA k.rn k.rc, .slice k.fA k.fn k.fc, .slice k.wA k.wn k.wc, .int .i64 k.last, .slice k.oA k.on k.oc, .slice k.qA k.qn k.qc, .bool k.qo, .slice k.eA k.en k.ec, .int .i64 k.free, .int .i64 k.next, .int .i64 k.arg, .int .i64 k.self, .int .i64 k.now, .slice k.hA k.hn k.hc] 37)); rwa [World.size_alloc] at this⟩
  rw [hW] at kk hx
  have HB := Lib.hid kk
  have HP := Lib.hid hx.1
  have HX := Lib.hid hx.2
  have HW : Hid ((w.alloc (.cells #[.int .i64 k.cm, .int .i64 k.cd, .int .i64 k.cr, .int .i64 k.cw, .int .i64 k.co, .slice k.mA k.mn k.mc, .slice k.pA k.pn k.pc, .int .i64 k.here, .slice k.dA k.dn k.dc, .slice k.rA k.rn k.rc, .slice k.fA k.fn k.fc, .slice k.wA k.wn k.wc, .int .i64 k.last, .slice k.oA k.on k.oc, .slice k.qA k.qn k.qc, .bool k.qo, .slice k.eA k.en k.ec, .int .i64 k.free, .int .i64 k.next, .int .i64 k.arg, .int .i64 k.self, .int .i64 k.now, .slice k.hA k.hn k.hc] 37)).alloc (.cells #[.int .i64 0, .int .i64 0, .int .i64 0, .int .i64 0, .int .i64 0, .slice none 0 0, .slice none 0 0, .int .i64 0, .slice none 0 0, .slice none 0 0, .slice none 0 0, .slice none 0 0, .int .i64 0, .slice none 0 0, .slice none 0 0, .bool false, .slice none 0 0, .int .i64 0, .int .i64 0, .int .i64 0, .int .i64 0, .int .i64 0, .slice none 0 0] 37) = W) := by show _ = _; rw [ho1, ho2]; exact hW
  have HS : Hid (W.heap.size = w.heap.size + 1 + 1) := by show _ = _; rw [← hW]; simp
  by_cases hcd : l.length = 0
  · have H1 : Hid (popC l = -4) := if_pos hcd
    have H3 : Hid (rpopC l = -6) := if_pos hcd
    obtain rfl : l = [] := List.eq_nil_of_length_eq_zero hcd
    have HC := Lib.hid (popF_at k.rA k.rn k.rc [] W hn (Lib.hid (HR.out.keep kk)))
    rw [H1.out] at HC
    rw [H3.out]
    clear hcd kk hx hW ho1 ho2
    obtain ⟨Y, hY⟩ : ∃ Y, popX [] = Y := ⟨_, rfl⟩
    rw [hY] at HC ⊢
    have hY0 : Y = 0 := hY.symm
    subst hY0
    clear hY
    go_enter Tryd.func17, Tryd.ntmps17
    go_wp2_with fail
    rw [HW.out]
    refine HC.out.mono ?_
    rintro e w1 ⟨B, m, d, rfl, hr, hf, bb⟩
    have XP := Lib.hid (HP.out.keep bb)
    have XZ := Lib.hid (HX.out.keep bb)
    obtain ⟨p0, p1, p2, p3, p4, p5, p6, p7, p8, p9, p10, p11, p12, p13, p14, p15, p16, p17, p18, p19, p20, p21, p22⟩ := XP.out.use
    obtain ⟨f0, f1, f2, f3, f4, f5, f6, f7, f8, f9, f10, f11, f12, f13, f14, f15, f16, f17, f18, f19, f20, f21, f22⟩ := XP.out.free
    have HB1 := Lib.hid (below_then HB.out bb)
    clear HC hr bb hf
    go_upto_region 3 with fail
    refine wp_region_noPanic ?_
    refine wp_region_held_drew (S := fun a => VBox a w.heap.size k ∧ ∃ j, VBox a (w.heap.size + 1) j) (by kernel_rfl) ?_ (fun hHeld => ?_)
    · exact ⟨XP.out, vm0, XZ.out⟩
    (refine wpAnyH_take (i := 1) (oi := _) (v := ?v1e) rfl (by kernel_rfl) (by kernel_rfl) (by kernel_rfl) (fun _ _ _ h => h) (Or.inl ⟨by kernel_rfl, ?y1e⟩) (by assumption) ?r1e; case y1e => (intro w hSw; (try dsimp only at hSw); go_simp; (try with_reducible rfl))); (try simp only [List.getElem_toArray, List.getElem_cons_succ, List.getElem_cons_zero, Act.put, List.setIfInBounds_toArray, List.set_cons_zero, List.set_cons_succ])
    refine wpAnyH_ready (rs := [0]) (by kernel_rfl) (by simp) ?_
    refine AllReadyH.cons (o := _) rfl (fun K hK => ?_) AllReadyH.nil
    refine step_vload rfl _ rfl w.heap.size k rfl hHeld.1 ?_
    refine hK.out _ _ hHeld (fun hHeld => ?_)
    clear hK K
    try simp only [List.getElem_toArray, List.getElem_cons_succ, List.getElem_cons_zero, Act.put, List.setIfInBounds_toArray, List.set_cons_zero, List.set_cons_succ]
    refine wpAnyH_ready (rs := [2]) (by kernel_rfl) (by simp) ?_
    refine AllReadyH.cons (o := _) rfl (fun K hK => ?_) AllReadyH.nil
    obtain ⟨hb1, j, hb2⟩ := hHeld
    refine step_vstore rfl _ _ rfl (w.heap.size + 1) j k rfl rfl hb2 ?_
    have hb3 := vrow hb2 k
    refine hK.out _ _ ⟨vrow_far hb1 (by omega) _, _, hb3⟩ (fun hHeld => ?_)
    clear hK K
    try simp only [List.getElem_toArray, List.getElem_cons_succ, List.getElem_cons_zero, Act.put, List.setIfInBounds_toArray, List.set_cons_zero, List.set_cons_succ]
    (refine wpAnyH_take (i := 3) (oi := _) (v := ?v3e) rfl (by kernel_rfl) (by kernel_rfl) (by kernel_rfl) (fun _ _ _ h => h) (Or.inl ⟨by kernel_rfl, ?y3e⟩) (by assumption) ?r3e; case y3e => (intro w hSw; (try dsimp only at hSw); go_simp; (try with_reducible rfl))); (try simp only [List.getElem_toArray, List.getElem_cons_succ, List.getElem_cons_zero, Act.put, List.setIfInBounds_toArray, List.set_cons_zero, List.set_cons_succ])
    refine wpAnyH_done (by kernel_rfl) ?_ _
    refine NoPanic.normal ?_
    go_wp2_with fail
    refine bodyPost_ret (res_tct rfl _ _ _ _ rfl hb3) rfl ⟨k.rA, k.rn, k.rc, rfl, ?_, below_setRow HB1.out.drew (by omega) _⟩
    exact HR.out.keep (below_setRow HB1.out.drew (by omega) _)
  · have H1 : Hid (popC l = 0) := if_neg hcd
    have H3 : Hid (rpopC l = 0) := if_neg hcd
    have HC := Lib.hid (popF_at k.rA k.rn k.rc l W hn (Lib.hid (HR.out.keep kk)))
    rw [H1.out] at HC
    rw [H3.out]
    clear hcd kk hx hW ho1 ho2
    obtain ⟨Y, hY⟩ : ∃ Y, popX l = Y := ⟨_, rfl⟩
    rw [hY] at HC ⊢
    clear hY
    go_enter Tryd.func17, Tryd.ntmps17
    go_wp2_with fail
    rw [HW.out]
    refine HC.out.mono ?_
    rintro e w1 ⟨B, m, d, rfl, hr, hf, bb⟩
    have XP := Lib.hid (HP.out.keep bb)
    have XZ := Lib.hid (HX.out.keep bb)
    obtain ⟨p0, p1, p2, p3, p4, p5, p6, p7, p8, p9, p10, p11, p12, p13, p14, p15, p16, p17, p18, p19, p20, p21, p22⟩ := XP.out.use
    obtain ⟨f0, f1, f2, f3, f4, f5, f6, f7, f8, f9, f10, f11, f12, f13, f14, f15, f16, f17, f18, f19, f20, f21, f22⟩ := XP.out.free
    have YP := Lib.hid (XP.out.set_r B m d)
    have YZ : Hid (VBox (w1.setCell ⟨w.heap.size, 9, none⟩ (.slice B m d)) (w.heap.size + 1) vm0) := by show VBox _ _ _; unfold VBox; rw [Below.heap_setCell _ _ _ _ (by simp)]; exact XZ.out
    have lp := XP.out.lt
    have HR1 := Lib.hid hr
    have HB1 := Lib.hid bb
    have HF1 := Lib.hid hf
    clear HC hr bb hf
    go_upto_region 5 with fail
    obtain ⟨V, hV⟩ : ∃ V, w1.setCell ⟨w.heap.size, 9, none⟩ (.slice B m d) = V := ⟨_, rfl⟩
    have hVs : V.heap.size = w1.heap.size := by rw [← hV]; simp [World.setCell]
    have hVg : ∀ g, g ≠ w.heap.size → V.heap[g]? = w1.heap[g]? := fun g hg => by rw [← hV]; exact Below.heap_setCell _ _ _ _ hg
    have hVB := (below_then HB.out HB1.out).setCell (p := ⟨w.heap.size, 9, none⟩) (Nat.le_refl _) (.slice B m d)
    rw [hV] at YP YZ hVB
    rw [hV]
    have HVS := Lib.hid hVs
    have HVG := Lib.hid hVg
    have HVB := Lib.hid hVB
    clear hV hVs hVg hVB
    refine wp_region_noPanic ?_
    refine wp_region_held_drew (S := fun a => VBox a w.heap.size { k with rA := B, rn := m, rc := d } ∧ ∃ j, VBox a (w.heap.size + 1) j) (by kernel_rfl) ?_ (fun hHeld => ?_)
    · exact ⟨YP.out, vm0, YZ.out⟩
    (refine wpAnyH_take (i := 0) (oi := _) (v := ?v0o) rfl (by kernel_rfl) (by kernel_rfl) (by kernel_rfl) (fun _ _ _ h => h) (Or.inl ⟨by kernel_rfl, ?y0o⟩) (by assumption) ?r0o; case y0o => (intro w hSw; (try dsimp only at hSw); go_simp; (try with_reducible rfl))); (try simp only [List.getElem_toArray, List.getElem_cons_succ, List.getElem_cons_zero, Act.put, List.setIfInBounds_toArray, List.set_cons_zero, List.set_cons_succ])
    (refine wpAnyH_take (i := 2) (oi := _) (v := ?v2o) rfl (by kernel_rfl) (by kernel_rfl) (by kernel_rfl) (fun _ _ _ h => h) (Or.inl ⟨by kernel_rfl, ?y2o⟩) (by assumption) ?r2o; case y2o => (intro w hSw; (try dsimp only at hSw); go_simp; (try with_reducible rfl))); (try simp only [List.getElem_toArray, List.getElem_cons_succ, List.getElem_cons_zero, Act.put, List.setIfInBounds_toArray, List.set_cons_zero, List.set_cons_succ])
    refine wpAnyH_ready (rs := [1]) (by kernel_rfl) (by simp) ?_
    refine AllReadyH.cons (o := _) rfl (fun K hK => ?_) AllReadyH.nil
    refine step_vload rfl _ rfl w.heap.size { k with rA := B, rn := m, rc := d } rfl hHeld.1 ?_
    refine hK.out _ _ hHeld (fun hHeld => ?_)
    clear hK K
    try simp only [List.getElem_toArray, List.getElem_cons_succ, List.getElem_cons_zero, Act.put, List.setIfInBounds_toArray, List.set_cons_zero, List.set_cons_succ]
    refine wpAnyH_ready (rs := [3]) (by kernel_rfl) (by simp) ?_
    refine AllReadyH.cons (o := _) rfl (fun K hK => ?_) AllReadyH.nil
    obtain ⟨hb1, j, hb2⟩ := hHeld
    refine step_vstore rfl _ _ rfl (w.heap.size + 1) j { k with rA := B, rn := m, rc := d } rfl rfl hb2 ?_
    have hb3 := vrow hb2 { k with rA := B, rn := m, rc := d }
    refine hK.out _ _ ⟨vrow_far hb1 (by omega) _, _, hb3⟩ (fun hHeld => ?_)
    clear hK K
    try simp only [List.getElem_toArray, List.getElem_cons_succ, List.getElem_cons_zero, Act.put, List.setIfInBounds_toArray, List.set_cons_zero, List.set_cons_succ]
    (refine wpAnyH_take (i := 4) (oi := _) (v := ?v4o) rfl (by kernel_rfl) (by kernel_rfl) (by kernel_rfl) (fun _ _ _ h => h) (Or.inl ⟨by kernel_rfl, ?y4o⟩) (by assumption) ?r4o; case y4o => (intro w hSw; (try dsimp only at hSw); go_simp; (try with_reducible rfl))); (try simp only [List.getElem_toArray, List.getElem_cons_succ, List.getElem_cons_zero, Act.put, List.setIfInBounds_toArray, List.set_cons_zero, List.set_cons_succ])
    refine wpAnyH_done (by kernel_rfl) ?_ _
    refine NoPanic.normal ?_
    go_wp2_with fail
    refine bodyPost_ret (res_tct rfl _ _ _ _ rfl hb3) rfl ⟨B, m, d, rfl, ?_, ?_⟩
    · refine HR.out.from HR1.out HF1.out HB.out.size (by have := HVS.out; rw [size_setRow]; exact Nat.le_of_eq this.symm) fun g hg hlt => ?_
      rw [setRow_other _ _ _ _ (by have := HS.out; omega)]
      exact HVG.out g (by have := HS.out; omega)
    · exact below_setRow HVB.out.drew (by omega) _
end Go.Proofs.YtbighilgkmfemaaDoor
