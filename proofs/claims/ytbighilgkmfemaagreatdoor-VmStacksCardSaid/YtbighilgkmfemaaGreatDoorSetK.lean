/- What the laws of this stage lean on, part 11: VmCodeA, VmCodeC, VmEq, PicMath, PicCodeA, VmCodeD. -/
import Derived.Test.YtbighilgkmfemaaGreatDoorSetG
import Derived.Test.YtbighilgkmfemaaGreatDoorSetH
import Derived.Test.YtbighilgkmfemaaGreatDoorSetI
import Derived.Test.YtbighilgkmfemaaGreatDoorSetD
import Derived.Shelf.SlicesQ.Equal
import Derived.Shelf.SlicesE.Equal
import Derived.WalkSpells
import Derived.Laws.StructEq
import Derived.Test.YtbighilgkmfemaaGreatDoorSetC
import Derived.Test.YtbighilgkmfemaaGreatDoorSetB
import Derived.ArgAppend
import Derived.Test.YtbighilgkmfemaaGreatDoorSetF
import Derived.Test.YtbighilgkmfemaaGreatDoorSetJ
import Derived.ChangeKeysEq

/- Contracts of the program's Push, Pop, RPush, RPop. -/
namespace Go.Proofs.YtbighilgkmfemaaGreatDoor
open Go.RowKit
set_option linter.unusedVariables false
set_option linter.unusedSimpArgs false

set_option maxRecDepth 100000 in
set_option maxHeartbeats 4000000 in
theorem vpush_any (k : VmK) (l : List Int) (x : Int) (w : World) (hn : k.dn ≤ 65536) (HR : Hid (Row w k.dA k.dn k.dc l)) :
    Calls Tryz.prog 26 #[vmV k, .int .i64 x] w fun e w' => ∃ B m d, e = .returned (.tuple #[vmV { k with dA := B, dn := m, dc := d }, .int .i64 (pushC l k.cd)]) ∧ Row w' B m d (pushL l x k.cd) ∧ Below w.heap.size w w' := by
  obtain ⟨o1, ho1⟩ : ∃ o1 : Obj, (.cells #[.int .i64 k.cm, .int .i64 k.cd, .int .i64 k.cr, .int .i64 k.cw, .int .i64 k.co, .slice k.mA k.mn k.mc, .slice k.pA k.pn k.pc, .int .i64 k.here, .slice k.dA k.dn k.dc, .slice k.rA k.rn k.rc, .slice k.fA k.fn k.fc, .slice k.wA k.wn k.wc, .int .i64 k.last, .slice k.oA k.on k.oc, .slice k.qA k.qn k.qc, .bool k.qo, .slice k.eA k.en k.ec, .int .i64 k.free, .int .i64 k.next, .int .i64 k.arg, .int .i64 k.self, .int .i64 k.now, .slice k.hA k.hn k.hc] 36) = o1 := ⟨_, rfl⟩
  obtain ⟨o2, ho2⟩ : ∃ o2 : Obj, (.cells #[.int .i64 0, .int .i64 0, .int .i64 0, .int .i64 0, .int .i64 0, .slice none 0 0, .slice none 0 0, .int .i64 0, .slice none 0 0, .slice none 0 0, .slice none 0 0, .slice none 0 0, .int .i64 0, .slice none 0 0, .slice none 0 0, .bool false, .slice none 0 0, .int .i64 0, .int .i64 0, .int .i64 0, .int .i64 0, .int .i64 0, .slice none 0 0] 36) = o2 := ⟨_, rfl⟩
  obtain ⟨W, hW⟩ : ∃ W, (w.alloc o1).alloc o2 = W := ⟨_, rfl⟩
  have kk := al_two w o1 o2
  have hx : VBox ((w.alloc o1).alloc o2) w.heap.size k ∧ VBox ((w.alloc o1).alloc o2) (w.heap.size + 1) vm0 := by rw [← ho1, ← ho2]; exact ⟨(vbox_new w k).keep (al_one _ _), by have := vbox_zero (w.alloc (.cells #[.int .i64 k.cm, .int .i64 k.cd, .int .i64 k.cr, .int .i64 k.cw, .int .i64 k.co, .slice k.mA k.mn k.mc, .slice k.pA k.pn k.pc, .int .i64 k.here, .slice k.dA k.dn k.dc, .slice k.rA k.rn k.rc, .slice k.fA k.fn k.fc, .slice k.wA k.wn k.wc, .int .i64 k.last, .slice k.oA k.on k.oc, .slice k.qA k.qn k.qc, .bool k.qo, .slice k.eA k.en k.ec, .int .i64 k.free, .int .i64 k.next, .int .i64 k.arg, .int .i64 k.self, .int .i64 k.now, .slice k.hA k.hn k.hc] 36)); rwa [World.size_alloc] at this⟩
  rw [hW] at kk hx
  have HB := Lib.hid kk
  have HP := Lib.hid hx.1
  have HX := Lib.hid hx.2
  have HW : Hid ((w.alloc (.cells #[.int .i64 k.cm, .int .i64 k.cd, .int .i64 k.cr, .int .i64 k.cw, .int .i64 k.co, .slice k.mA k.mn k.mc, .slice k.pA k.pn k.pc, .int .i64 k.here, .slice k.dA k.dn k.dc, .slice k.rA k.rn k.rc, .slice k.fA k.fn k.fc, .slice k.wA k.wn k.wc, .int .i64 k.last, .slice k.oA k.on k.oc, .slice k.qA k.qn k.qc, .bool k.qo, .slice k.eA k.en k.ec, .int .i64 k.free, .int .i64 k.next, .int .i64 k.arg, .int .i64 k.self, .int .i64 k.now, .slice k.hA k.hn k.hc] 36)).alloc (.cells #[.int .i64 0, .int .i64 0, .int .i64 0, .int .i64 0, .int .i64 0, .slice none 0 0, .slice none 0 0, .int .i64 0, .slice none 0 0, .slice none 0 0, .slice none 0 0, .slice none 0 0, .int .i64 0, .slice none 0 0, .slice none 0 0, .bool false, .slice none 0 0, .int .i64 0, .int .i64 0, .int .i64 0, .int .i64 0, .int .i64 0, .slice none 0 0] 36) = W) := by show _ = _; rw [ho1, ho2]; exact hW
  have HS : Hid (W.heap.size = w.heap.size + 1 + 1) := by show _ = _; rw [← hW]; simp
  by_cases hcd : k.cd ≤ (l.length : Int)
  · have H1 : Hid (pushC l k.cd = -3) := if_pos hcd
    have H3 : Hid (pushC l k.cd = -3) := if_pos hcd
    have H2 : Hid (pushL l x k.cd = l) := if_pos hcd
    have HC := Lib.hid (pushF_at k.dA k.dn k.dc x k.cd l W hn (Lib.hid (HR.out.keep kk)))
    rw [H1.out] at HC
    rw [H3.out]
    clear hcd kk hx hW ho1 ho2
    go_enter Tryz.func26, Tryz.ntmps26
    go_wp2_with fail
    rw [HW.out]
    refine HC.out.mono ?_
    rintro e w1 ⟨B, m, d, rfl, hr, hf, bb⟩
    have XP := Lib.hid (HP.out.keep bb)
    have XZ := Lib.hid (HX.out.keep bb)
    obtain ⟨p0, p1, p2, p3, p4, p5, p6, p7, p8, p9, p10, p11, p12, p13, p14, p15, p16, p17, p18, p19, p20, p21, p22⟩ := XP.out.use
    obtain ⟨f0, f1, f2, f3, f4, f5, f6, f7, f8, f9, f10, f11, f12, f13, f14, f15, f16, f17, f18, f19, f20, f21, f22⟩ := XP.out.free
    have HB1 := Lib.hid (below_then HB.out bb)
    clear HC hr bb hf
    go_wp2_with (first
      | (refine wpList_load_row rfl 36 _ rfl w.heap.size rfl _ _ _ _ XP.out Tryz.underlying36 rfl (by kernel_rfl) ?_)
      | (refine wpList_store_row rfl 36 _ _ rfl (w.heap.size + 1) (vmC k) rfl rfl _ _ XZ.out (by kernel_rfl) rfl (vm_one _) ?_))
    have YF := Lib.hid (vrow XZ.out k)
    refine bodyPost_ret (res_ct rfl _ _ _ _ rfl YF.out) rfl ⟨k.dA, k.dn, k.dc, rfl, ?_, below_setRow HB1.out (by omega) _⟩
    rw [H2.out]
    exact HR.out.keep (below_setRow HB1.out (by omega) _)
  · have H1 : Hid (pushC l k.cd = 0) := if_neg hcd
    have H3 : Hid (pushC l k.cd = 0) := if_neg hcd
    have H2 : Hid (pushL l x k.cd = l ++ [x]) := if_neg hcd
    have HC := Lib.hid (pushF_at k.dA k.dn k.dc x k.cd l W hn (Lib.hid (HR.out.keep kk)))
    rw [H1.out] at HC
    rw [H3.out]
    clear hcd kk hx hW ho1 ho2
    go_enter Tryz.func26, Tryz.ntmps26
    go_wp2_with fail
    rw [HW.out]
    refine HC.out.mono ?_
    rintro e w1 ⟨B, m, d, rfl, hr, hf, bb⟩
    have XP := Lib.hid (HP.out.keep bb)
    have XZ := Lib.hid (HX.out.keep bb)
    obtain ⟨p0, p1, p2, p3, p4, p5, p6, p7, p8, p9, p10, p11, p12, p13, p14, p15, p16, p17, p18, p19, p20, p21, p22⟩ := XP.out.use
    obtain ⟨f0, f1, f2, f3, f4, f5, f6, f7, f8, f9, f10, f11, f12, f13, f14, f15, f16, f17, f18, f19, f20, f21, f22⟩ := XP.out.free
    have YP := Lib.hid (XP.out.set_d B m d)
    have YZ : Hid (VBox (w1.setCell ⟨w.heap.size, 8, none⟩ (.slice B m d)) (w.heap.size + 1) vm0) := by show VBox _ _ _; unfold VBox; rw [Below.heap_setCell _ _ _ _ (by simp)]; exact XZ.out
    have lp := XP.out.lt
    have HR1 := Lib.hid hr
    have HB1 := Lib.hid bb
    have HF1 := Lib.hid hf
    clear HC hr bb hf
    go_wp2_with (first
      | (refine wpList_load_row rfl 36 _ rfl w.heap.size rfl _ _ _ _ YP.out Tryz.underlying36 rfl (by kernel_rfl) ?_)
      | (refine wpList_store_row rfl 36 _ _ rfl (w.heap.size + 1) (vmC { k with dA := B, dn := m, dc := d }) rfl rfl _ _ YZ.out (by kernel_rfl) rfl (vm_one _) ?_))
    have YF := Lib.hid (vrow YZ.out { k with dA := B, dn := m, dc := d })
    refine bodyPost_ret (res_ct rfl _ _ _ _ rfl YF.out) rfl ⟨B, m, d, rfl, ?_, ?_⟩
    · rw [H2.out] at HR1 ⊢
      refine HR.out.from HR1.out HF1.out HB.out.size (by simp [World.setRow, World.setCell]) fun g hg hlt => ?_
      rw [setRow_other _ _ _ _ (by have := HS.out; omega), Below.heap_setCell _ _ _ _ (by have := HS.out; show g ≠ w.heap.size; omega)]
    · exact below_setRow ((below_then HB.out HB1.out).setCell (p := ⟨w.heap.size, 8, none⟩) (Nat.le_refl _) _) (by omega) _
set_option maxRecDepth 100000 in
set_option maxHeartbeats 4000000 in
theorem vrpush_any (k : VmK) (l : List Int) (x : Int) (w : World) (hn : k.rn ≤ 65536) (HR : Hid (Row w k.rA k.rn k.rc l)) :
    Calls Tryz.prog 30 #[vmV k, .int .i64 x] w fun e w' => ∃ B m d, e = .returned (.tuple #[vmV { k with rA := B, rn := m, rc := d }, .int .i64 (rpushC l k.cr)]) ∧ Row w' B m d (pushL l x k.cr) ∧ Below w.heap.size w w' := by
  obtain ⟨o1, ho1⟩ : ∃ o1 : Obj, (.cells #[.int .i64 k.cm, .int .i64 k.cd, .int .i64 k.cr, .int .i64 k.cw, .int .i64 k.co, .slice k.mA k.mn k.mc, .slice k.pA k.pn k.pc, .int .i64 k.here, .slice k.dA k.dn k.dc, .slice k.rA k.rn k.rc, .slice k.fA k.fn k.fc, .slice k.wA k.wn k.wc, .int .i64 k.last, .slice k.oA k.on k.oc, .slice k.qA k.qn k.qc, .bool k.qo, .slice k.eA k.en k.ec, .int .i64 k.free, .int .i64 k.next, .int .i64 k.arg, .int .i64 k.self, .int .i64 k.now, .slice k.hA k.hn k.hc] 36) = o1 := ⟨_, rfl⟩
  obtain ⟨o2, ho2⟩ : ∃ o2 : Obj, (.cells #[.int .i64 0, .int .i64 0, .int .i64 0, .int .i64 0, .int .i64 0, .slice none 0 0, .slice none 0 0, .int .i64 0, .slice none 0 0, .slice none 0 0, .slice none 0 0, .slice none 0 0, .int .i64 0, .slice none 0 0, .slice none 0 0, .bool false, .slice none 0 0, .int .i64 0, .int .i64 0, .int .i64 0, .int .i64 0, .int .i64 0, .slice none 0 0] 36) = o2 := ⟨_, rfl⟩
  obtain ⟨W, hW⟩ : ∃ W, (w.alloc o1).alloc o2 = W := ⟨_, rfl⟩
  have kk := al_two w o1 o2
  have hx : VBox ((w.alloc o1).alloc o2) w.heap.size k ∧ VBox ((w.alloc o1).alloc o2) (w.heap.size + 1) vm0 := by rw [← ho1, ← ho2]; exact ⟨(vbox_new w k).keep (al_one _ _), by have := vbox_zero (w.alloc (.cells #[.int .i64 k.cm, .int .i64 k.cd, .int .i64 k.cr, .int .i64 k.cw, .int .i64 k.co, .slice k.mA k.mn k.mc, .slice k.pA k.pn k.pc, .int .i64 k.here, .slice k.dA k.dn k.dc, .slice k.rA k.rn k.rc, .slice k.fA k.fn k.fc, .slice k.wA k.wn k.wc, .int .i64 k.last, .slice k.oA k.on k.oc, .slice k.qA k.qn k.qc, .bool k.qo, .slice k.eA k.en k.ec, .int .i64 k.free, .int .i64 k.next, .int .i64 k.arg, .int .i64 k.self, .int .i64 k.now, .slice k.hA k.hn k.hc] 36)); rwa [World.size_alloc] at this⟩
  rw [hW] at kk hx
  have HB := Lib.hid kk
  have HP := Lib.hid hx.1
  have HX := Lib.hid hx.2
  have HW : Hid ((w.alloc (.cells #[.int .i64 k.cm, .int .i64 k.cd, .int .i64 k.cr, .int .i64 k.cw, .int .i64 k.co, .slice k.mA k.mn k.mc, .slice k.pA k.pn k.pc, .int .i64 k.here, .slice k.dA k.dn k.dc, .slice k.rA k.rn k.rc, .slice k.fA k.fn k.fc, .slice k.wA k.wn k.wc, .int .i64 k.last, .slice k.oA k.on k.oc, .slice k.qA k.qn k.qc, .bool k.qo, .slice k.eA k.en k.ec, .int .i64 k.free, .int .i64 k.next, .int .i64 k.arg, .int .i64 k.self, .int .i64 k.now, .slice k.hA k.hn k.hc] 36)).alloc (.cells #[.int .i64 0, .int .i64 0, .int .i64 0, .int .i64 0, .int .i64 0, .slice none 0 0, .slice none 0 0, .int .i64 0, .slice none 0 0, .slice none 0 0, .slice none 0 0, .slice none 0 0, .int .i64 0, .slice none 0 0, .slice none 0 0, .bool false, .slice none 0 0, .int .i64 0, .int .i64 0, .int .i64 0, .int .i64 0, .int .i64 0, .slice none 0 0] 36) = W) := by show _ = _; rw [ho1, ho2]; exact hW
  have HS : Hid (W.heap.size = w.heap.size + 1 + 1) := by show _ = _; rw [← hW]; simp
  by_cases hcd : k.cr ≤ (l.length : Int)
  · have H1 : Hid (pushC l k.cr = -3) := if_pos hcd
    have H3 : Hid (rpushC l k.cr = -5) := if_pos hcd
    have H2 : Hid (pushL l x k.cr = l) := if_pos hcd
    have HC := Lib.hid (pushF_at k.rA k.rn k.rc x k.cr l W hn (Lib.hid (HR.out.keep kk)))
    rw [H1.out] at HC
    rw [H3.out]
    clear hcd kk hx hW ho1 ho2
    go_enter Tryz.func30, Tryz.ntmps30
    go_wp2_with fail
    rw [HW.out]
    refine HC.out.mono ?_
    rintro e w1 ⟨B, m, d, rfl, hr, hf, bb⟩
    have XP := Lib.hid (HP.out.keep bb)
    have XZ := Lib.hid (HX.out.keep bb)
    obtain ⟨p0, p1, p2, p3, p4, p5, p6, p7, p8, p9, p10, p11, p12, p13, p14, p15, p16, p17, p18, p19, p20, p21, p22⟩ := XP.out.use
    obtain ⟨f0, f1, f2, f3, f4, f5, f6, f7, f8, f9, f10, f11, f12, f13, f14, f15, f16, f17, f18, f19, f20, f21, f22⟩ := XP.out.free
    have HB1 := Lib.hid (below_then HB.out bb)
    clear HC hr bb hf
    go_wp2_with (first
      | (refine wpList_load_row rfl 36 _ rfl w.heap.size rfl _ _ _ _ XP.out Tryz.underlying36 rfl (by kernel_rfl) ?_)
      | (refine wpList_store_row rfl 36 _ _ rfl (w.heap.size + 1) (vmC k) rfl rfl _ _ XZ.out (by kernel_rfl) rfl (vm_one _) ?_))
    have YF := Lib.hid (vrow XZ.out k)
    refine bodyPost_ret (res_ct rfl _ _ _ _ rfl YF.out) rfl ⟨k.rA, k.rn, k.rc, rfl, ?_, below_setRow HB1.out (by omega) _⟩
    rw [H2.out]
    exact HR.out.keep (below_setRow HB1.out (by omega) _)
  · have H1 : Hid (pushC l k.cr = 0) := if_neg hcd
    have H3 : Hid (rpushC l k.cr = 0) := if_neg hcd
    have H2 : Hid (pushL l x k.cr = l ++ [x]) := if_neg hcd
    have HC := Lib.hid (pushF_at k.rA k.rn k.rc x k.cr l W hn (Lib.hid (HR.out.keep kk)))
    rw [H1.out] at HC
    rw [H3.out]
    clear hcd kk hx hW ho1 ho2
    go_enter Tryz.func30, Tryz.ntmps30
    go_wp2_with fail
    rw [HW.out]
    refine HC.out.mono ?_
    rintro e w1 ⟨B, m, d, rfl, hr, hf, bb⟩
    have XP := Lib.hid (HP.out.keep bb)
    have XZ := Lib.hid (HX.out.keep bb)
    obtain ⟨p0, p1, p2, p3, p4, p5, p6, p7, p8, p9, p10, p11, p12, p13, p14, p15, p16, p17, p18, p19, p20, p21, p22⟩ := XP.out.use
    obtain ⟨f0, f1, f2, f3, f4, f5, f6, f7, f8, f9, f10, f11, f12, f13, f14, f15, f16, f17, f18, f19, f20, f21, f22⟩ := XP.out.free
    have YP := Lib.hid (XP.out.set_r B m d)
    have YZ : Hid (VBox (w1.setCell ⟨w.heap.size, 9, none⟩ (.slice B m d)) (w.heap.size + 1) vm0) := by show VBox _ _ _; unfold VBox; rw [Below.heap_setCell _ _ _ _ (by simp)]; exact XZ.out
    have lp := XP.out.lt
    have HR1 := Lib.hid hr
    have HB1 := Lib.hid bb
    have HF1 := Lib.hid hf
    clear HC hr bb hf
    go_wp2_with (first
      | (refine wpList_load_row rfl 36 _ rfl w.heap.size rfl _ _ _ _ YP.out Tryz.underlying36 rfl (by kernel_rfl) ?_)
      | (refine wpList_store_row rfl 36 _ _ rfl (w.heap.size + 1) (vmC { k with rA := B, rn := m, rc := d }) rfl rfl _ _ YZ.out (by kernel_rfl) rfl (vm_one _) ?_))
    have YF := Lib.hid (vrow YZ.out { k with rA := B, rn := m, rc := d })
    refine bodyPost_ret (res_ct rfl _ _ _ _ rfl YF.out) rfl ⟨B, m, d, rfl, ?_, ?_⟩
    · rw [H2.out] at HR1 ⊢
      refine HR.out.from HR1.out HF1.out HB.out.size (by simp [World.setRow, World.setCell]) fun g hg hlt => ?_
      rw [setRow_other _ _ _ _ (by have := HS.out; omega), Below.heap_setCell _ _ _ _ (by have := HS.out; show g ≠ w.heap.size; omega)]
    · exact below_setRow ((below_then HB.out HB1.out).setCell (p := ⟨w.heap.size, 9, none⟩) (Nat.le_refl _) _) (by omega) _
set_option maxRecDepth 100000 in
set_option maxHeartbeats 4000000 in
theorem vpop_any (k : VmK) (l : List Int) (w : World) (hn : k.dn ≤ 65536) (HR : Hid (Row w k.dA k.dn k.dc l)) :
    Calls Tryz.prog 28 #[vmV k] w fun e w' => ∃ B m d, e = .returned (.tuple #[.int .i64 (popX l), vmV { k with dA := B, dn := m, dc := d }, .int .i64 (popC l)]) ∧ Row w' B m d (popL l) ∧ Below w.heap.size w w' := by
  obtain ⟨o1, ho1⟩ : ∃ o1 : Obj, (.cells #[.int .i64 k.cm, .int .i64 k.cd, .int .i64 k.cr, .int .i64 k.cw, .int .i64 k.co, .slice k.mA k.mn k.mc, .slice k.pA k.pn k.pc, .int .i64 k.here, .slice k.dA k.dn k.dc, .slice k.rA k.rn k.rc, .slice k.fA k.fn k.fc, .slice k.wA k.wn k.wc, .int .i64 k.last, .slice k.oA k.on k.oc, .slice k.qA k.qn k.qc, .bool k.qo, .slice k.eA k.en k.ec, .int .i64 k.free, .int .i64 k.next, .int .i64 k.arg, .int .i64 k.self, .int .i64 k.now, .slice k.hA k.hn k.hc] 36) = o1 := ⟨_, rfl⟩
  obtain ⟨o2, ho2⟩ : ∃ o2 : Obj, (.cells #[.int .i64 0, .int .i64 0, .int .i64 0, .int .i64 0, .int .i64 0, .slice none 0 0, .slice none 0 0, .int .i64 0, .slice none 0 0, .slice none 0 0, .slice none 0 0, .slice none 0 0, .int .i64 0, .slice none 0 0, .slice none 0 0, .bool false, .slice none 0 0, .int .i64 0, .int .i64 0, .int .i64 0, .int .i64 0, .int .i64 0, .slice none 0 0] 36) = o2 := ⟨_, rfl⟩
  obtain ⟨W, hW⟩ : ∃ W, (w.alloc o1).alloc o2 = W := ⟨_, rfl⟩
  have kk := al_two w o1 o2
  have hx : VBox ((w.alloc o1).alloc o2) w.heap.size k ∧ VBox ((w.alloc o1).alloc o2) (w.heap.size + 1) vm0 := by rw [← ho1, ← ho2]; exact ⟨(vbox_new w k).keep (al_one _ _), by have := vbox_zero (w.alloc (.cells #[.int .i64 k.cm, .int .i64 k.cd, .int .i64 k.cr, .int .i64 k.cw, .int .i64 k.co, .slice k.mA k.mn k.mc, .slice k.pA k.pn k.pc, .int .i64 k.here, .slice k.dA k.dn k.dc, .slice k.rA k.rn k.rc, .slice k.fA k.fn k.fc, .slice k.wA k.wn k.wc, .int .i64 k.last, .slice k.oA k.on k.oc, .slice k.qA k.qn k.qc, .bool k.qo, .slice k.eA k.en k.ec, .int .i64 k.free, .int .i64 k.next, .int .i64 k.arg, .int .i64 k.self, .int .i64 k.now, .slice k.hA k.hn k.hc] 36)); rwa [World.size_alloc] at this⟩
  rw [hW] at kk hx
  have HB := Lib.hid kk
  have HP := Lib.hid hx.1
  have HX := Lib.hid hx.2
  have HW : Hid ((w.alloc (.cells #[.int .i64 k.cm, .int .i64 k.cd, .int .i64 k.cr, .int .i64 k.cw, .int .i64 k.co, .slice k.mA k.mn k.mc, .slice k.pA k.pn k.pc, .int .i64 k.here, .slice k.dA k.dn k.dc, .slice k.rA k.rn k.rc, .slice k.fA k.fn k.fc, .slice k.wA k.wn k.wc, .int .i64 k.last, .slice k.oA k.on k.oc, .slice k.qA k.qn k.qc, .bool k.qo, .slice k.eA k.en k.ec, .int .i64 k.free, .int .i64 k.next, .int .i64 k.arg, .int .i64 k.self, .int .i64 k.now, .slice k.hA k.hn k.hc] 36)).alloc (.cells #[.int .i64 0, .int .i64 0, .int .i64 0, .int .i64 0, .int .i64 0, .slice none 0 0, .slice none 0 0, .int .i64 0, .slice none 0 0, .slice none 0 0, .slice none 0 0, .slice none 0 0, .int .i64 0, .slice none 0 0, .slice none 0 0, .bool false, .slice none 0 0, .int .i64 0, .int .i64 0, .int .i64 0, .int .i64 0, .int .i64 0, .slice none 0 0] 36) = W) := by show _ = _; rw [ho1, ho2]; exact hW
  have HS : Hid (W.heap.size = w.heap.size + 1 + 1) := by show _ = _; rw [← hW]; simp
  by_cases hcd : l.length = 0
  · have H1 : Hid (popC l = -4) := if_pos hcd
    have H3 : Hid (popC l = -4) := if_pos hcd
    obtain rfl : l = [] := List.eq_nil_of_length_eq_zero hcd
    have HC := Lib.hid (popF_at k.dA k.dn k.dc [] W hn (Lib.hid (HR.out.keep kk)))
    rw [H1.out] at HC
    rw [H3.out]
    clear hcd kk hx hW ho1 ho2
    obtain ⟨Y, hY⟩ : ∃ Y, popX [] = Y := ⟨_, rfl⟩
    rw [hY] at HC ⊢
    have hY0 : Y = 0 := hY.symm
    subst hY0
    clear hY
    go_enter Tryz.func28, Tryz.ntmps28
    go_wp2_with fail
    rw [HW.out]
    refine HC.out.mono ?_
    rintro e w1 ⟨B, m, d, rfl, hr, hf, bb⟩
    have XP := Lib.hid (HP.out.keep bb)
    have XZ := Lib.hid (HX.out.keep bb)
    obtain ⟨p0, p1, p2, p3, p4, p5, p6, p7, p8, p9, p10, p11, p12, p13, p14, p15, p16, p17, p18, p19, p20, p21, p22⟩ := XP.out.use
    obtain ⟨f0, f1, f2, f3, f4, f5, f6, f7, f8, f9, f10, f11, f12, f13, f14, f15, f16, f17, f18, f19, f20, f21, f22⟩ := XP.out.free
    have HB1 := Lib.hid (below_then HB.out bb)
    clear HC hr bb hf
    go_upto_region 3 with fail
    refine wp_region_noPanic ?_
    refine wp_region_held_drew (S := fun a => VBox a w.heap.size k ∧ ∃ j, VBox a (w.heap.size + 1) j) (by kernel_rfl) ?_ (fun hHeld => ?_)
    · exact ⟨XP.out, vm0, XZ.out⟩
    (refine wpAnyH_take (i := 1) (oi := _) (v := ?v1e) rfl (by kernel_rfl) (by kernel_rfl) (by kernel_rfl) (fun _ _ _ h => h) (Or.inl ⟨by kernel_rfl, ?y1e⟩) (by assumption) ?r1e; case y1e => (intro w hSw; (try dsimp only at hSw); go_simp; (try with_reducible rfl))); (try simp only [List.getElem_toArray, List.getElem_cons_succ, List.getElem_cons_zero, Act.put, List.setIfInBounds_toArray, List.set_cons_zero, List.set_cons_succ])
    (refine wpAnyH_take (i := 2) (oi := _) (v := ?v2e) rfl (by kernel_rfl) (by kernel_rfl) (by kernel_rfl) (fun _ _ _ h => h) (Or.inl ⟨by kernel_rfl, ?y2e⟩) (by assumption) ?r2e; case y2e => (intro w hSw; (try dsimp only at hSw); go_simp; (try with_reducible rfl))); (try simp only [List.getElem_toArray, List.getElem_cons_succ, List.getElem_cons_zero, Act.put, List.setIfInBounds_toArray, List.set_cons_zero, List.set_cons_succ])
    refine wpAnyH_ready (rs := [0]) (by kernel_rfl) (by simp) ?_
    refine AllReadyH.cons (o := _) rfl (fun K hK => ?_) AllReadyH.nil
    refine step_vload rfl _ rfl w.heap.size k rfl hHeld.1 ?_
    refine hK.out _ _ hHeld (fun hHeld => ?_)
    clear hK K
    try simp only [List.getElem_toArray, List.getElem_cons_succ, List.getElem_cons_zero, Act.put, List.setIfInBounds_toArray, List.set_cons_zero, List.set_cons_succ]
    refine wpAnyH_ready (rs := [3]) (by kernel_rfl) (by simp) ?_
    refine AllReadyH.cons (o := _) rfl (fun K hK => ?_) AllReadyH.nil
    obtain ⟨hb1, j, hb2⟩ := hHeld
    refine step_vstore rfl _ _ rfl (w.heap.size + 1) j k rfl rfl hb2 ?_
    have hb3 := vrow hb2 k
    refine hK.out _ _ ⟨vrow_far hb1 (by omega) _, _, hb3⟩ (fun hHeld => ?_)
    clear hK K
    try simp only [List.getElem_toArray, List.getElem_cons_succ, List.getElem_cons_zero, Act.put, List.setIfInBounds_toArray, List.set_cons_zero, List.set_cons_succ]
    (refine wpAnyH_take (i := 4) (oi := _) (v := ?v4e) rfl (by kernel_rfl) (by kernel_rfl) (by kernel_rfl) (fun _ _ _ h => h) (Or.inl ⟨by kernel_rfl, ?y4e⟩) (by assumption) ?r4e; case y4e => (intro w hSw; (try dsimp only at hSw); go_simp; (try with_reducible rfl))); (try simp only [List.getElem_toArray, List.getElem_cons_succ, List.getElem_cons_zero, Act.put, List.setIfInBounds_toArray, List.set_cons_zero, List.set_cons_succ])
    refine wpAnyH_done (by kernel_rfl) ?_ _
    refine NoPanic.normal ?_
    go_wp2_with fail
    refine bodyPost_ret (res_tct rfl _ _ _ _ rfl hb3) rfl ⟨k.dA, k.dn, k.dc, rfl, ?_, below_setRow HB1.out.drew (by omega) _⟩
    exact HR.out.keep (below_setRow HB1.out.drew (by omega) _)
  · have H1 : Hid (popC l = 0) := if_neg hcd
    have H3 : Hid (popC l = 0) := if_neg hcd
    have HC := Lib.hid (popF_at k.dA k.dn k.dc l W hn (Lib.hid (HR.out.keep kk)))
    rw [H1.out] at HC
    rw [H3.out]
    clear hcd kk hx hW ho1 ho2
    obtain ⟨Y, hY⟩ : ∃ Y, popX l = Y := ⟨_, rfl⟩
    rw [hY] at HC ⊢
    clear hY
    go_enter Tryz.func28, Tryz.ntmps28
    go_wp2_with fail
    rw [HW.out]
    refine HC.out.mono ?_
    rintro e w1 ⟨B, m, d, rfl, hr, hf, bb⟩
    have XP := Lib.hid (HP.out.keep bb)
    have XZ := Lib.hid (HX.out.keep bb)
    obtain ⟨p0, p1, p2, p3, p4, p5, p6, p7, p8, p9, p10, p11, p12, p13, p14, p15, p16, p17, p18, p19, p20, p21, p22⟩ := XP.out.use
    obtain ⟨f0, f1, f2, f3, f4, f5, f6, f7, f8, f9, f10, f11, f12, f13, f14, f15, f16, f17, f18, f19, f20, f21, f22⟩ := XP.out.free
    have YP := Lib.hid (XP.out.set_d B m d)
    have YZ : Hid (VBox (w1.setCell ⟨w.heap.size, 8, none⟩ (.slice B m d)) (w.heap.size + 1) vm0) := by show VBox _ _ _; unfold VBox; rw [Below.heap_setCell _ _ _ _ (by simp)]; exact XZ.out
    have lp := XP.out.lt
    have HR1 := Lib.hid hr
    have HB1 := Lib.hid bb
    have HF1 := Lib.hid hf
    clear HC hr bb hf
    go_upto_region 5 with fail
    obtain ⟨V, hV⟩ : ∃ V, w1.setCell ⟨w.heap.size, 8, none⟩ (.slice B m d) = V := ⟨_, rfl⟩
    have hVs : V.heap.size = w1.heap.size := by rw [← hV]; simp [World.setCell]
    have hVg : ∀ g, g ≠ w.heap.size → V.heap[g]? = w1.heap[g]? := fun g hg => by rw [← hV]; exact Below.heap_setCell _ _ _ _ hg
    have hVB := (below_then HB.out HB1.out).setCell (p := ⟨w.heap.size, 8, none⟩) (Nat.le_refl _) (.slice B m d)
    rw [hV] at YP YZ hVB
    rw [hV]
    have HVS := Lib.hid hVs
    have HVG := Lib.hid hVg
    have HVB := Lib.hid hVB
    clear hV hVs hVg hVB
    refine wp_region_noPanic ?_
    refine wp_region_held_drew (S := fun a => VBox a w.heap.size { k with dA := B, dn := m, dc := d } ∧ ∃ j, VBox a (w.heap.size + 1) j) (by kernel_rfl) ?_ (fun hHeld => ?_)
    · exact ⟨YP.out, vm0, YZ.out⟩
    (refine wpAnyH_take (i := 0) (oi := _) (v := ?v0o) rfl (by kernel_rfl) (by kernel_rfl) (by kernel_rfl) (fun _ _ _ h => h) (Or.inl ⟨by kernel_rfl, ?y0o⟩) (by assumption) ?r0o; case y0o => (intro w hSw; (try dsimp only at hSw); go_simp; (try with_reducible rfl))); (try simp only [List.getElem_toArray, List.getElem_cons_succ, List.getElem_cons_zero, Act.put, List.setIfInBounds_toArray, List.set_cons_zero, List.set_cons_succ])
    (refine wpAnyH_take (i := 2) (oi := _) (v := ?v2o) rfl (by kernel_rfl) (by kernel_rfl) (by kernel_rfl) (fun _ _ _ h => h) (Or.inl ⟨by kernel_rfl, ?y2o⟩) (by assumption) ?r2o; case y2o => (intro w hSw; (try dsimp only at hSw); go_simp; (try with_reducible rfl))); (try simp only [List.getElem_toArray, List.getElem_cons_succ, List.getElem_cons_zero, Act.put, List.setIfInBounds_toArray, List.set_cons_zero, List.set_cons_succ])
    refine wpAnyH_ready (rs := [1]) (by kernel_rfl) (by simp) ?_
    refine AllReadyH.cons (o := _) rfl (fun K hK => ?_) AllReadyH.nil
    refine step_vload rfl _ rfl w.heap.size { k with dA := B, dn := m, dc := d } rfl hHeld.1 ?_
    refine hK.out _ _ hHeld (fun hHeld => ?_)
    clear hK K
    try simp only [List.getElem_toArray, List.getElem_cons_succ, List.getElem_cons_zero, Act.put, List.setIfInBounds_toArray, List.set_cons_zero, List.set_cons_succ]
    refine wpAnyH_ready (rs := [3]) (by kernel_rfl) (by simp) ?_
    refine AllReadyH.cons (o := _) rfl (fun K hK => ?_) AllReadyH.nil
    obtain ⟨hb1, j, hb2⟩ := hHeld
    refine step_vstore rfl _ _ rfl (w.heap.size + 1) j { k with dA := B, dn := m, dc := d } rfl rfl hb2 ?_
    have hb3 := vrow hb2 { k with dA := B, dn := m, dc := d }
    refine hK.out _ _ ⟨vrow_far hb1 (by omega) _, _, hb3⟩ (fun hHeld => ?_)
    clear hK K
    try simp only [List.getElem_toArray, List.getElem_cons_succ, List.getElem_cons_zero, Act.put, List.setIfInBounds_toArray, List.set_cons_zero, List.set_cons_succ]
    (refine wpAnyH_take (i := 4) (oi := _) (v := ?v4o) rfl (by kernel_rfl) (by kernel_rfl) (by kernel_rfl) (fun _ _ _ h => h) (Or.inl ⟨by kernel_rfl, ?y4o⟩) (by assumption) ?r4o; case y4o => (intro w hSw; (try dsimp only at hSw); go_simp; (try with_reducible rfl))); (try simp only [List.getElem_toArray, List.getElem_cons_succ, List.getElem_cons_zero, Act.put, List.setIfInBounds_toArray, List.set_cons_zero, List.set_cons_succ])
    refine wpAnyH_done (by kernel_rfl) ?_ _
    refine NoPanic.normal ?_
    go_wp2_with fail
    refine bodyPost_ret (res_tct rfl _ _ _ _ rfl hb3) rfl ⟨B, m, d, rfl, ?_, ?_⟩
    · refine HR.out.from HR1.out HF1.out HB.out.size (by have := HVS.out; rw [size_setRow]; exact Nat.le_of_eq this.symm) fun g hg hlt => ?_
      rw [setRow_other _ _ _ _ (by have := HS.out; omega)]
      exact HVG.out g (by have := HS.out; omega)
    · exact below_setRow HVB.out.drew (by omega) _
set_option maxRecDepth 100000 in
set_option maxHeartbeats 4000000 in
theorem vrpop_any (k : VmK) (l : List Int) (w : World) (hn : k.rn ≤ 65536) (HR : Hid (Row w k.rA k.rn k.rc l)) :
    Calls Tryz.prog 32 #[vmV k] w fun e w' => ∃ B m d, e = .returned (.tuple #[.int .i64 (popX l), vmV { k with rA := B, rn := m, rc := d }, .int .i64 (rpopC l)]) ∧ Row w' B m d (popL l) ∧ Below w.heap.size w w' := by
  obtain ⟨o1, ho1⟩ : ∃ o1 : Obj, (.cells #[.int .i64 k.cm, .int .i64 k.cd, .int .i64 k.cr, .int .i64 k.cw, .int .i64 k.co, .slice k.mA k.mn k.mc, .slice k.pA k.pn k.pc, .int .i64 k.here, .slice k.dA k.dn k.dc, .slice k.rA k.rn k.rc, .slice k.fA k.fn k.fc, .slice k.wA k.wn k.wc, .int .i64 k.last, .slice k.oA k.on k.oc, .slice k.qA k.qn k.qc, .bool k.qo, .slice k.eA k.en k.ec, .int .i64 k.free, .int .i64 k.next, .int .i64 k.arg, .int .i64 k.self, .int .i64 k.now, .slice k.hA k.hn k.hc] 36) = o1 := ⟨_, rfl⟩
  obtain ⟨o2, ho2⟩ : ∃ o2 : Obj, (.cells #[.int .i64 0, .int .i64 0, .int .i64 0, .int .i64 0, .int .i64 0, .slice none 0 0, .slice none 0 0, .int .i64 0, .slice none 0 0, .slice none 0 0, .slice none 0 0, .slice none 0 0, .int .i64 0, .slice none 0 0, .slice none 0 0, .bool false, .slice none 0 0, .int .i64 0, .int .i64 0, .int .i64 0, .int .i64 0, .int .i64 0, .slice none 0 0] 36) = o2 := ⟨_, rfl⟩
  obtain ⟨W, hW⟩ : ∃ W, (w.alloc o1).alloc o2 = W := ⟨_, rfl⟩
  have kk := al_two w o1 o2
  have hx : VBox ((w.alloc o1).alloc o2) w.heap.size k ∧ VBox ((w.alloc o1).alloc o2) (w.heap.size + 1) vm0 := by rw [← ho1, ← ho2]; exact ⟨(vbox_new w k).keep (al_one _ _), by have := vbox_zero (w.alloc (.cells #[.int .i64 k.cm, .int .i64 k.cd, .int .i64 k.cr, .int .i64 k.cw, .int .i64 k.co, .slice k.mA k.mn k.mc, .slice k.pA k.pn k.pc, .int .i64 k.here, .slice k.dA k.dn k.dc, .slice k.rA k.rn k.rc, .slice k.fA k.fn k.fc, .slice k.wA k.wn k.wc, .int .i64 k.last, .slice k.oA k.on k.oc, .slice k.qA k.qn k.qc, .bool k.qo, .slice k.eA k.en k.ec, .int .i64 k.free, .int .i64 k.next, .int .i64 k.arg, .int .i64 k.self, .int .i64 k.now, .slice k.hA k.hn k.hc] 36)); rwa [World.size_alloc] at this⟩
  rw [hW] at kk hx
  have HB := Lib.hid kk
  have HP := Lib.hid hx.1
  have HX := Lib.hid hx.2
  have HW : Hid ((w.alloc (.cells #[.int .i64 k.cm, .int .i64 k.cd, .int .i64 k.cr, .int .i64 k.cw, .int .i64 k.co, .slice k.mA k.mn k.mc, .slice k.pA k.pn k.pc, .int .i64 k.here, .slice k.dA k.dn k.dc, .slice k.rA k.rn k.rc, .slice k.fA k.fn k.fc, .slice k.wA k.wn k.wc, .int .i64 k.last, .slice k.oA k.on k.oc, .slice k.qA k.qn k.qc, .bool k.qo, .slice k.eA k.en k.ec, .int .i64 k.free, .int .i64 k.next, .int .i64 k.arg, .int .i64 k.self, .int .i64 k.now, .slice k.hA k.hn k.hc] 36)).alloc (.cells #[.int .i64 0, .int .i64 0, .int .i64 0, .int .i64 0, .int .i64 0, .slice none 0 0, .slice none 0 0, .int .i64 0, .slice none 0 0, .slice none 0 0, .slice none 0 0, .slice none 0 0, .int .i64 0, .slice none 0 0, .slice none 0 0, .bool false, .slice none 0 0, .int .i64 0, .int .i64 0, .int .i64 0, .int .i64 0, .int .i64 0, .slice none 0 0] 36) = W) := by show _ = _; rw [ho1, ho2]; exact hW
  have HS : Hid (W.heap.size = w.heap.size + 1 + 1) := by show _ = _; rw [← hW]; simp
  by_cases hcd : l.length = 0
  · have H1 : Hid (popC l = -4) := if_pos hcd
    have H3 : Hid (rpopC l = -6) := if_pos hcd
    obtain rfl : l = [] := List.eq_nil_of_length_eq_zero hcd
    have HC := Lib.hid (popF_at k.rA k.rn k.rc [] W hn (Lib.hid (HR.out.keep kk)))
    rw [H1.out] at HC
    rw [H3.out]
    clear hcd kk hx hW ho1 ho2
    obtain ⟨Y, hY⟩ : ∃ Y, popX [] = Y := ⟨_, rfl⟩
    rw [hY] at HC ⊢
    have hY0 : Y = 0 := hY.symm
    subst hY0
    clear hY
    go_enter Tryz.func32, Tryz.ntmps32
    go_wp2_with fail
    rw [HW.out]
    refine HC.out.mono ?_
    rintro e w1 ⟨B, m, d, rfl, hr, hf, bb⟩
    have XP := Lib.hid (HP.out.keep bb)
    have XZ := Lib.hid (HX.out.keep bb)
    obtain ⟨p0, p1, p2, p3, p4, p5, p6, p7, p8, p9, p10, p11, p12, p13, p14, p15, p16, p17, p18, p19, p20, p21, p22⟩ := XP.out.use
    obtain ⟨f0, f1, f2, f3, f4, f5, f6, f7, f8, f9, f10, f11, f12, f13, f14, f15, f16, f17, f18, f19, f20, f21, f22⟩ := XP.out.free
    have HB1 := Lib.hid (below_then HB.out bb)
    clear HC hr bb hf
    go_upto_region 3 with fail
    refine wp_region_noPanic ?_
    refine wp_region_held_drew (S := fun a => VBox a w.heap.size k ∧ ∃ j, VBox a (w.heap.size + 1) j) (by kernel_rfl) ?_ (fun hHeld => ?_)
    · exact ⟨XP.out, vm0, XZ.out⟩
    (refine wpAnyH_take (i := 1) (oi := _) (v := ?v1e) rfl (by kernel_rfl) (by kernel_rfl) (by kernel_rfl) (fun _ _ _ h => h) (Or.inl ⟨by kernel_rfl, ?y1e⟩) (by assumption) ?r1e; case y1e => (intro w hSw; (try dsimp only at hSw); go_simp; (try with_reducible rfl))); (try simp only [List.getElem_toArray, List.getElem_cons_succ, List.getElem_cons_zero, Act.put, List.setIfInBounds_toArray, List.set_cons_zero, List.set_cons_succ])
    refine wpAnyH_ready (rs := [0]) (by kernel_rfl) (by simp) ?_
    refine AllReadyH.cons (o := _) rfl (fun K hK => ?_) AllReadyH.nil
    refine step_vload rfl _ rfl w.heap.size k rfl hHeld.1 ?_
    refine hK.out _ _ hHeld (fun hHeld => ?_)
    clear hK K
    try simp only [List.getElem_toArray, List.getElem_cons_succ, List.getElem_cons_zero, Act.put, List.setIfInBounds_toArray, List.set_cons_zero, List.set_cons_succ]
    refine wpAnyH_ready (rs := [2]) (by kernel_rfl) (by simp) ?_
    refine AllReadyH.cons (o := _) rfl (fun K hK => ?_) AllReadyH.nil
    obtain ⟨hb1, j, hb2⟩ := hHeld
    refine step_vstore rfl _ _ rfl (w.heap.size + 1) j k rfl rfl hb2 ?_
    have hb3 := vrow hb2 k
    refine hK.out _ _ ⟨vrow_far hb1 (by omega) _, _, hb3⟩ (fun hHeld => ?_)
    clear hK K
    try simp only [List.getElem_toArray, List.getElem_cons_succ, List.getElem_cons_zero, Act.put, List.setIfInBounds_toArray, List.set_cons_zero, List.set_cons_succ]
    (refine wpAnyH_take (i := 3) (oi := _) (v := ?v3e) rfl (by kernel_rfl) (by kernel_rfl) (by kernel_rfl) (fun _ _ _ h => h) (Or.inl ⟨by kernel_rfl, ?y3e⟩) (by assumption) ?r3e; case y3e => (intro w hSw; (try dsimp only at hSw); go_simp; (try with_reducible rfl))); (try simp only [List.getElem_toArray, List.getElem_cons_succ, List.getElem_cons_zero, Act.put, List.setIfInBounds_toArray, List.set_cons_zero, List.set_cons_succ])
    refine wpAnyH_done (by kernel_rfl) ?_ _
    refine NoPanic.normal ?_
    go_wp2_with fail
    refine bodyPost_ret (res_tct rfl _ _ _ _ rfl hb3) rfl ⟨k.rA, k.rn, k.rc, rfl, ?_, below_setRow HB1.out.drew (by omega) _⟩
    exact HR.out.keep (below_setRow HB1.out.drew (by omega) _)
  · have H1 : Hid (popC l = 0) := if_neg hcd
    have H3 : Hid (rpopC l = 0) := if_neg hcd
    have HC := Lib.hid (popF_at k.rA k.rn k.rc l W hn (Lib.hid (HR.out.keep kk)))
    rw [H1.out] at HC
    rw [H3.out]
    clear hcd kk hx hW ho1 ho2
    obtain ⟨Y, hY⟩ : ∃ Y, popX l = Y := ⟨_, rfl⟩
    rw [hY] at HC ⊢
    clear hY
    go_enter Tryz.func32, Tryz.ntmps32
    go_wp2_with fail
    rw [HW.out]
    refine HC.out.mono ?_
    rintro e w1 ⟨B, m, d, rfl, hr, hf, bb⟩
    have XP := Lib.hid (HP.out.keep bb)
    have XZ := Lib.hid (HX.out.keep bb)
    obtain ⟨p0, p1, p2, p3, p4, p5, p6, p7, p8, p9, p10, p11, p12, p13, p14, p15, p16, p17, p18, p19, p20, p21, p22⟩ := XP.out.use
    obtain ⟨f0, f1, f2, f3, f4, f5, f6, f7, f8, f9, f10, f11, f12, f13, f14, f15, f16, f17, f18, f19, f20, f21, f22⟩ := XP.out.free
    have YP := Lib.hid (XP.out.set_r B m d)
    have YZ : Hid (VBox (w1.setCell ⟨w.heap.size, 9, none⟩ (.slice B m d)) (w.heap.size + 1) vm0) := by show VBox _ _ _; unfold VBox; rw [Below.heap_setCell _ _ _ _ (by simp)]; exact XZ.out
    have lp := XP.out.lt
    have HR1 := Lib.hid hr
    have HB1 := Lib.hid bb
    have HF1 := Lib.hid hf
    clear HC hr bb hf
    go_upto_region 5 with fail
    obtain ⟨V, hV⟩ : ∃ V, w1.setCell ⟨w.heap.size, 9, none⟩ (.slice B m d) = V := ⟨_, rfl⟩
    have hVs : V.heap.size = w1.heap.size := by rw [← hV]; simp [World.setCell]
    have hVg : ∀ g, g ≠ w.heap.size → V.heap[g]? = w1.heap[g]? := fun g hg => by rw [← hV]; exact Below.heap_setCell _ _ _ _ hg
    have hVB := (below_then HB.out HB1.out).setCell (p := ⟨w.heap.size, 9, none⟩) (Nat.le_refl _) (.slice B m d)
    rw [hV] at YP YZ hVB
    rw [hV]
    have HVS := Lib.hid hVs
    have HVG := Lib.hid hVg
    have HVB := Lib.hid hVB
    clear hV hVs hVg hVB
    refine wp_region_noPanic ?_
    refine wp_region_held_drew (S := fun a => VBox a w.heap.size { k with rA := B, rn := m, rc := d } ∧ ∃ j, VBox a (w.heap.size + 1) j) (by kernel_rfl) ?_ (fun hHeld => ?_)
    · exact ⟨YP.out, vm0, YZ.out⟩
    (refine wpAnyH_take (i := 0) (oi := _) (v := ?v0o) rfl (by kernel_rfl) (by kernel_rfl) (by kernel_rfl) (fun _ _ _ h => h) (Or.inl ⟨by kernel_rfl, ?y0o⟩) (by assumption) ?r0o; case y0o => (intro w hSw; (try dsimp only at hSw); go_simp; (try with_reducible rfl))); (try simp only [List.getElem_toArray, List.getElem_cons_succ, List.getElem_cons_zero, Act.put, List.setIfInBounds_toArray, List.set_cons_zero, List.set_cons_succ])
    (refine wpAnyH_take (i := 2) (oi := _) (v := ?v2o) rfl (by kernel_rfl) (by kernel_rfl) (by kernel_rfl) (fun _ _ _ h => h) (Or.inl ⟨by kernel_rfl, ?y2o⟩) (by assumption) ?r2o; case y2o => (intro w hSw; (try dsimp only at hSw); go_simp; (try with_reducible rfl))); (try simp only [List.getElem_toArray, List.getElem_cons_succ, List.getElem_cons_zero, Act.put, List.setIfInBounds_toArray, List.set_cons_zero, List.set_cons_succ])
    refine wpAnyH_ready (rs := [1]) (by kernel_rfl) (by simp) ?_
    refine AllReadyH.cons (o := _) rfl (fun K hK => ?_) AllReadyH.nil
    refine step_vload rfl _ rfl w.heap.size { k with rA := B, rn := m, rc := d } rfl hHeld.1 ?_
    refine hK.out _ _ hHeld (fun hHeld => ?_)
    clear hK K
    try simp only [List.getElem_toArray, List.getElem_cons_succ, List.getElem_cons_zero, Act.put, List.setIfInBounds_toArray, List.set_cons_zero, List.set_cons_succ]
    refine wpAnyH_ready (rs := [3]) (by kernel_rfl) (by simp) ?_
    refine AllReadyH.cons (o := _) rfl (fun K hK => ?_) AllReadyH.nil
    obtain ⟨hb1, j, hb2⟩ := hHeld
    refine step_vstore rfl _ _ rfl (w.heap.size + 1) j { k with rA := B, rn := m, rc := d } rfl rfl hb2 ?_
    have hb3 := vrow hb2 { k with rA := B, rn := m, rc := d }
    refine hK.out _ _ ⟨vrow_far hb1 (by omega) _, _, hb3⟩ (fun hHeld => ?_)
    clear hK K
    try simp only [List.getElem_toArray, List.getElem_cons_succ, List.getElem_cons_zero, Act.put, List.setIfInBounds_toArray, List.set_cons_zero, List.set_cons_succ]
    (refine wpAnyH_take (i := 4) (oi := _) (v := ?v4o) rfl (by kernel_rfl) (by kernel_rfl) (by kernel_rfl) (fun _ _ _ h => h) (Or.inl ⟨by kernel_rfl, ?y4o⟩) (by assumption) ?r4o; case y4o => (intro w hSw; (try dsimp only at hSw); go_simp; (try with_reducible rfl))); (try simp only [List.getElem_toArray, List.getElem_cons_succ, List.getElem_cons_zero, Act.put, List.setIfInBounds_toArray, List.set_cons_zero, List.set_cons_succ])
    refine wpAnyH_done (by kernel_rfl) ?_ _
    refine NoPanic.normal ?_
    go_wp2_with fail
    refine bodyPost_ret (res_tct rfl _ _ _ _ rfl hb3) rfl ⟨B, m, d, rfl, ?_, ?_⟩
    · refine HR.out.from HR1.out HF1.out HB.out.size (by have := HVS.out; rw [size_setRow]; exact Nat.le_of_eq this.symm) fun g hg hlt => ?_
      rw [setRow_other _ _ _ _ (by have := HS.out; omega)]
      exact HVG.out g (by have := HS.out; omega)
    · exact below_setRow HVB.out.drew (by omega) _
end Go.Proofs.YtbighilgkmfemaaGreatDoor

/- The contract of the program's Print. -/
namespace Go.Proofs.YtbighilgkmfemaaGreatDoor
open Go.RowKit
set_option linter.unusedVariables false
set_option linter.unusedSimpArgs false

set_option maxRecDepth 100000 in
set_option maxHeartbeats 4000000 in
theorem vprint_any (k : VmK) (l s : List UInt8) (w : World) (hn : k.on ≤ 65536) (h0 : 0 ≤ k.co) (h6 : k.co ≤ 65536) (hs : s.length ≤ 100000) (HR : Hid (Byt w (.slice k.oA k.on k.oc) l)) :
    Calls Tryz.prog 34 #[vmV k, .string (strB s)] w fun e w' => ∃ B m d, e = .returned (.tuple #[vmV { k with oA := B, on := m, oc := d }, .int .i64 (printC l s k.co)]) ∧ Byt w' (.slice B m d) (printL l s k.co) ∧ Below w.heap.size w w' := by
  have hl := HR.out.len
  have hsz : (strB s).size = s.length := rfl
  by_cases h : k.co - (k.on : Int) < (s.length : Int)
  · have H1 : Hid (printC l s k.co = -260) := if_pos (by rw [hl]; exact h)
    have H2 : Hid (printL l s k.co = l) := if_pos (by rw [hl]; exact h)
    rw [H1.out]
    have kr := al_two w (.cells #[.int .i64 k.cm, .int .i64 k.cd, .int .i64 k.cr, .int .i64 k.cw, .int .i64 k.co, .slice k.mA k.mn k.mc, .slice k.pA k.pn k.pc, .int .i64 k.here, .slice k.dA k.dn k.dc, .slice k.rA k.rn k.rc, .slice k.fA k.fn k.fc, .slice k.wA k.wn k.wc, .int .i64 k.last, .slice k.oA k.on k.oc, .slice k.qA k.qn k.qc, .bool k.qo, .slice k.eA k.en k.ec, .int .i64 k.free, .int .i64 k.next, .int .i64 k.arg, .int .i64 k.self, .int .i64 k.now, .slice k.hA k.hn k.hc] 36) (.cells #[.int .i64 0, .int .i64 0, .int .i64 0, .int .i64 0, .int .i64 0, .slice none 0 0, .slice none 0 0, .int .i64 0, .slice none 0 0, .slice none 0 0, .slice none 0 0, .slice none 0 0, .int .i64 0, .slice none 0 0, .slice none 0 0, .bool false, .slice none 0 0, .int .i64 0, .int .i64 0, .int .i64 0, .int .i64 0, .int .i64 0, .slice none 0 0] 36)
    have HPr : Hid (VBox ((w.alloc (.cells #[.int .i64 k.cm, .int .i64 k.cd, .int .i64 k.cr, .int .i64 k.cw, .int .i64 k.co, .slice k.mA k.mn k.mc, .slice k.pA k.pn k.pc, .int .i64 k.here, .slice k.dA k.dn k.dc, .slice k.rA k.rn k.rc, .slice k.fA k.fn k.fc, .slice k.wA k.wn k.wc, .int .i64 k.last, .slice k.oA k.on k.oc, .slice k.qA k.qn k.qc, .bool k.qo, .slice k.eA k.en k.ec, .int .i64 k.free, .int .i64 k.next, .int .i64 k.arg, .int .i64 k.self, .int .i64 k.now, .slice k.hA k.hn k.hc] 36)).alloc (.cells #[.int .i64 0, .int .i64 0, .int .i64 0, .int .i64 0, .int .i64 0, .slice none 0 0, .slice none 0 0, .int .i64 0, .slice none 0 0, .slice none 0 0, .slice none 0 0, .slice none 0 0, .int .i64 0, .slice none 0 0, .slice none 0 0, .bool false, .slice none 0 0, .int .i64 0, .int .i64 0, .int .i64 0, .int .i64 0, .int .i64 0, .slice none 0 0] 36)) w.heap.size k) := (vbox_new w k).keep (al_one _ _)
    have HXr : Hid (VBox ((w.alloc (.cells #[.int .i64 k.cm, .int .i64 k.cd, .int .i64 k.cr, .int .i64 k.cw, .int .i64 k.co, .slice k.mA k.mn k.mc, .slice k.pA k.pn k.pc, .int .i64 k.here, .slice k.dA k.dn k.dc, .slice k.rA k.rn k.rc, .slice k.fA k.fn k.fc, .slice k.wA k.wn k.wc, .int .i64 k.last, .slice k.oA k.on k.oc, .slice k.qA k.qn k.qc, .bool k.qo, .slice k.eA k.en k.ec, .int .i64 k.free, .int .i64 k.next, .int .i64 k.arg, .int .i64 k.self, .int .i64 k.now, .slice k.hA k.hn k.hc] 36)).alloc (.cells #[.int .i64 0, .int .i64 0, .int .i64 0, .int .i64 0, .int .i64 0, .slice none 0 0, .slice none 0 0, .int .i64 0, .slice none 0 0, .slice none 0 0, .slice none 0 0, .slice none 0 0, .int .i64 0, .slice none 0 0, .slice none 0 0, .bool false, .slice none 0 0, .int .i64 0, .int .i64 0, .int .i64 0, .int .i64 0, .int .i64 0, .slice none 0 0] 36)) (w.heap.size + 1) vm0) := by have := vbox_zero (w.alloc (.cells #[.int .i64 k.cm, .int .i64 k.cd, .int .i64 k.cr, .int .i64 k.cw, .int .i64 k.co, .slice k.mA k.mn k.mc, .slice k.pA k.pn k.pc, .int .i64 k.here, .slice k.dA k.dn k.dc, .slice k.rA k.rn k.rc, .slice k.fA k.fn k.fc, .slice k.wA k.wn k.wc, .int .i64 k.last, .slice k.oA k.on k.oc, .slice k.qA k.qn k.qc, .bool k.qo, .slice k.eA k.en k.ec, .int .i64 k.free, .int .i64 k.next, .int .i64 k.arg, .int .i64 k.self, .int .i64 k.now, .slice k.hA k.hn k.hc] 36)); rw [World.size_alloc] at this; exact this
    have HBr := Lib.hid kr
    clear hl kr
    go_enter Tryz.func34, Tryz.ntmps34
    go_wp2_with (first
    | (refine wpList_load_row rfl 36 _ rfl w.heap.size rfl _ _ _ _ HPr.out Tryz.underlying36 rfl (by kernel_rfl) ?_)
    | (refine wpList_store_row rfl 36 _ _ rfl (w.heap.size + 1) (vmC k) rfl rfl _ _ HXr.out (by kernel_rfl) rfl (vm_one _) ?_))
    refine bodyPost_ret (res_ct rfl _ _ _ _ rfl (vrow HXr.out k)) rfl ⟨k.oA, k.on, k.oc, rfl, ?_, ?_⟩
    · rw [H2.out]
      exact HR.out.keep (below_setRow HBr.out (by omega) _)
    · exact below_setRow HBr.out (by omega) _
  · have H1 : Hid (printC l s k.co = 0) := if_neg (by rw [hl]; exact h)
    have H2 : Hid (printL l s k.co = l ++ s) := if_neg (by rw [hl]; exact h)
    rw [H1.out]
    have h' : decide (k.co - (k.on : Int) < (s.length : Int)) = false := by simp; omega
    obtain ⟨o1, ho1⟩ : ∃ o1 : Obj, (.cells #[.int .i64 k.cm, .int .i64 k.cd, .int .i64 k.cr, .int .i64 k.cw, .int .i64 k.co, .slice k.mA k.mn k.mc, .slice k.pA k.pn k.pc, .int .i64 k.here, .slice k.dA k.dn k.dc, .slice k.rA k.rn k.rc, .slice k.fA k.fn k.fc, .slice k.wA k.wn k.wc, .int .i64 k.last, .slice k.oA k.on k.oc, .slice k.qA k.qn k.qc, .bool k.qo, .slice k.eA k.en k.ec, .int .i64 k.free, .int .i64 k.next, .int .i64 k.arg, .int .i64 k.self, .int .i64 k.now, .slice k.hA k.hn k.hc] 36) = o1 := ⟨_, rfl⟩
    obtain ⟨o2, ho2⟩ : ∃ o2 : Obj, (.cells #[.int .i64 0, .int .i64 0, .int .i64 0, .int .i64 0, .int .i64 0, .slice none 0 0, .slice none 0 0, .int .i64 0, .slice none 0 0, .slice none 0 0, .slice none 0 0, .slice none 0 0, .int .i64 0, .slice none 0 0, .slice none 0 0, .bool false, .slice none 0 0, .int .i64 0, .int .i64 0, .int .i64 0, .int .i64 0, .int .i64 0, .slice none 0 0] 36) = o2 := ⟨_, rfl⟩
    obtain ⟨W, hW⟩ : ∃ W, (w.alloc o1).alloc o2 = W := ⟨_, rfl⟩
    have kk := al_two w o1 o2
    have hx : VBox ((w.alloc o1).alloc o2) w.heap.size k ∧ VBox ((w.alloc o1).alloc o2) (w.heap.size + 1) vm0 := by rw [← ho1, ← ho2]; exact ⟨(vbox_new w k).keep (al_one _ _), by have := vbox_zero (w.alloc (.cells #[.int .i64 k.cm, .int .i64 k.cd, .int .i64 k.cr, .int .i64 k.cw, .int .i64 k.co, .slice k.mA k.mn k.mc, .slice k.pA k.pn k.pc, .int .i64 k.here, .slice k.dA k.dn k.dc, .slice k.rA k.rn k.rc, .slice k.fA k.fn k.fc, .slice k.wA k.wn k.wc, .int .i64 k.last, .slice k.oA k.on k.oc, .slice k.qA k.qn k.qc, .bool k.qo, .slice k.eA k.en k.ec, .int .i64 k.free, .int .i64 k.next, .int .i64 k.arg, .int .i64 k.self, .int .i64 k.now, .slice k.hA k.hn k.hc] 36)); rwa [World.size_alloc] at this⟩
    rw [hW] at kk hx
    have HB := Lib.hid kk
    have HP := Lib.hid hx.1
    have HX := Lib.hid hx.2
    have HW : Hid ((w.alloc (.cells #[.int .i64 k.cm, .int .i64 k.cd, .int .i64 k.cr, .int .i64 k.cw, .int .i64 k.co, .slice k.mA k.mn k.mc, .slice k.pA k.pn k.pc, .int .i64 k.here, .slice k.dA k.dn k.dc, .slice k.rA k.rn k.rc, .slice k.fA k.fn k.fc, .slice k.wA k.wn k.wc, .int .i64 k.last, .slice k.oA k.on k.oc, .slice k.qA k.qn k.qc, .bool k.qo, .slice k.eA k.en k.ec, .int .i64 k.free, .int .i64 k.next, .int .i64 k.arg, .int .i64 k.self, .int .i64 k.now, .slice k.hA k.hn k.hc] 36)).alloc (.cells #[.int .i64 0, .int .i64 0, .int .i64 0, .int .i64 0, .int .i64 0, .slice none 0 0, .slice none 0 0, .int .i64 0, .slice none 0 0, .slice none 0 0, .slice none 0 0, .slice none 0 0, .int .i64 0, .slice none 0 0, .slice none 0 0, .bool false, .slice none 0 0, .int .i64 0, .int .i64 0, .int .i64 0, .int .i64 0, .int .i64 0, .slice none 0 0] 36) = W) := by show _ = _; rw [ho1, ho2]; exact hW
    have hS : W.heap.size = w.heap.size + 1 + 1 := by rw [← hW]; simp
    have HS := Lib.hid hS
    obtain ⟨cc, w9, hcv, hby, hb9⟩ := conv_in s W (by omega)
    have HQ := pair_new w9 (.slice k.oA k.on k.oc) (.slice (some ⟨W.heap.size, 0, none⟩) s.length cc) 24
    have ka := below_then hb9 (al_one w9 (.cells #[.slice k.oA k.on k.oc, .slice (some ⟨W.heap.size, 0, none⟩) s.length cc] 24))
    have HC := Lib.hid (bcat_any _ _ _ _ _ _ l s w9.heap.size _ HQ.1 HQ.2 ((HR.out.keep kk).keep ka) (hby.keep (al_one w9 _)) (by omega) (by omega))
    have HKA := Lib.hid ka
    have HX9 := Lib.hid hb9.size
    obtain ⟨p0, p1, p2, p3, p4, p5, p6, p7, p8, p9, p10, p11, p12, p13, p14, p15, p16, p17, p18, p19, p20, p21, p22⟩ := HP.out.use
    clear hl h kk hx hW ho1 ho2 hS hby hb9 HQ ka
    go_enter Tryz.func34, Tryz.ntmps34
    go_upto_region 3 with fail
    rw [HW.out]
    go_wp2_with fail
    refine HC.out.mono ?_
    rintro e w4 ⟨v, rfl, o4, b4⟩
    obtain ⟨B, m, d, rfl⟩ := byt_slice o4.byt
    obtain rfl : (l ++ s).length = m := o4.byt.len
    have hfr := own_from o4
    have HF : Hid (∀ b, B = some b → W.heap.size ≤ b.block) := (fun b e => by have h1 := hfr b.block (by rw [e]; rfl); have h2 := HX9.out; rw [World.size_alloc] at h1; omega)
    have HR4 := Lib.hid o4.byt
    have bb := below_then HKA.out b4
    have XP := Lib.hid (HP.out.keep bb)
    have XZ := Lib.hid (HX.out.keep bb)
    clear p0 p1 p2 p3 p4 p5 p6 p7 p8 p9 p10 p11 p12 p13 p14 p15 p16 p17 p18 p19 p20 p21 p22
    obtain ⟨p0, p1, p2, p3, p4, p5, p6, p7, p8, p9, p10, p11, p12, p13, p14, p15, p16, p17, p18, p19, p20, p21, p22⟩ := XP.out.use
    obtain ⟨f0, f1, f2, f3, f4, f5, f6, f7, f8, f9, f10, f11, f12, f13, f14, f15, f16, f17, f18, f19, f20, f21, f22⟩ := XP.out.free
    have YP := Lib.hid (XP.out.set_o B (l ++ s).length d)
    have YZ : Hid (VBox (w4.setCell ⟨w.heap.size, 13, none⟩ (.slice B (l ++ s).length d)) (w.heap.size + 1) vm0) := by show VBox _ _ _; unfold VBox; rw [Below.heap_setCell _ _ _ _ (by simp)]; exact XZ.out
    have lp := XP.out.lt
    have HB2 := Lib.hid bb
    obtain ⟨ln, hln⟩ : ∃ n, (l ++ s).length = n := ⟨_, rfl⟩
    rw [hln] at YP YZ HR4 ⊢
    clear hfr o4 b4 bb HC hcv hln
    go_wp2_with (first
    | (refine wpList_load_row rfl 36 _ rfl w.heap.size rfl _ _ _ _ YP.out Tryz.underlying36 rfl (by kernel_rfl) ?_)
    | (refine wpList_store_row rfl 36 _ _ rfl (w.heap.size + 1) (vmC { k with oA := B, on := ln, oc := d }) rfl rfl _ _ YZ.out (by kernel_rfl) rfl (vm_one _) ?_))
    have YF := Lib.hid (vrow YZ.out { k with oA := B, on := ln, oc := d })
    refine bodyPost_ret (res_ct rfl _ _ _ _ rfl YF.out) rfl ⟨B, ln, d, rfl, ?_, ?_⟩
    · rw [H2.out]
      refine HR4.out.fresh (W := W) HF.out (by rw [size_setRow]; simp [World.setCell]) fun g hg hlt => ?_
      rw [setRow_other _ _ _ _ (by have := HS.out; omega), Below.heap_setCell _ _ _ _ (by have := HS.out; show g ≠ w.heap.size; omega)]
    · exact below_setRow ((below_then HB.out HB2.out).setCell (p := ⟨w.heap.size, 13, none⟩) (Nat.le_refl _) _) (by omega) _
end Go.Proofs.YtbighilgkmfemaaGreatDoor

/- slices.Equal at numbers, frames, what is asked for, and handlers. -/
namespace Go.Proofs
open Go.Shelf Go.Lib
def Tryz.ieq_ren : Go.Shelf.Ren := ⟨fun | 33 => 65 | n => n, fun | 0 => 0 | 3 => 3 | 4 => 4 | 22 => 28 | 23 => 3 | n => n, fun n => n⟩
theorem Tryz.ieq_lays : Go.Proofs.SlLaysE.n33 Tryz.prog Tryz.ieq_ren := {
  mixed := by kernel_rfl
  f33 := ⟨"slices.Equal[[]int,int]", by decide, Tryz.func65.trans (congrArg some (by kernel_rfl))⟩
  t0 := Tryz.underlying0
  a0 := Tryz.isAgg0
  z0 := Tryz.sizeOf0
  v0 := Tryz.zeroValue0
  t3 := Tryz.underlying3
  a3 := Tryz.isAgg3
  z3 := Tryz.sizeOf3
  v3 := Tryz.zeroValue3
  t4 := Tryz.underlying4
  a4 := Tryz.isAgg4
  z4 := Tryz.sizeOf4
  v4 := Tryz.zeroValue4
  t22 := Tryz.underlying28
  a22 := Tryz.isAgg28
  z22 := Tryz.sizeOf28
  v22 := Tryz.zeroValue28
  a23 := Tryz.isAgg3
  z23 := Tryz.sizeOf3 }
end Go.Proofs
namespace Go.Proofs
open Go.Shelf Go.Lib
def Tryz.fmeq_ren : Go.Shelf.Ren := ⟨fun | 8 => 66 | n => n, fun | 0 => 0 | 3 => 3 | 4 => 4 | 22 => 29 | 24 => 89 | n => n, fun n => n⟩
theorem Tryz.fmeq_lays : Go.Proofs.SlLaysQ.n8 Tryz.prog Tryz.fmeq_ren := {
  mixed := by kernel_rfl
  f8 := ⟨"slices.Equal[[]detent/api.Frame,detent/api.Frame]", by decide, Tryz.func66.trans (congrArg some (by kernel_rfl))⟩
  t0 := Tryz.underlying0
  a0 := Tryz.isAgg0
  z0 := Tryz.sizeOf0
  v0 := Tryz.zeroValue0
  t3 := Tryz.underlying3
  a3 := Tryz.isAgg3
  z3 := Tryz.sizeOf3
  v3 := Tryz.zeroValue3
  t4 := Tryz.underlying4
  a4 := Tryz.isAgg4
  z4 := Tryz.sizeOf4
  v4 := Tryz.zeroValue4
  t22 := Tryz.underlying29
  a22 := Tryz.isAgg29
  z22 := Tryz.sizeOf29
  v22 := Tryz.zeroValue29 }
end Go.Proofs
namespace Go.Proofs
open Go.Shelf Go.Lib
def Tryz.rqeq_ren : Go.Shelf.Ren := ⟨fun | 8 => 68 | n => n, fun | 0 => 0 | 3 => 3 | 4 => 4 | 22 => 33 | 24 => 96 | n => n, fun n => n⟩
theorem Tryz.rqeq_lays : Go.Proofs.SlLaysQ.n8 Tryz.prog Tryz.rqeq_ren := {
  mixed := by kernel_rfl
  f8 := ⟨"slices.Equal[[]detent/api.Req,detent/api.Req]", by decide, Tryz.func68.trans (congrArg some (by kernel_rfl))⟩
  t0 := Tryz.underlying0
  a0 := Tryz.isAgg0
  z0 := Tryz.sizeOf0
  v0 := Tryz.zeroValue0
  t3 := Tryz.underlying3
  a3 := Tryz.isAgg3
  z3 := Tryz.sizeOf3
  v3 := Tryz.zeroValue3
  t4 := Tryz.underlying4
  a4 := Tryz.isAgg4
  z4 := Tryz.sizeOf4
  v4 := Tryz.zeroValue4
  t22 := Tryz.underlying33
  a22 := Tryz.isAgg33
  z22 := Tryz.sizeOf33
  v22 := Tryz.zeroValue33 }
end Go.Proofs
namespace Go.Proofs
open Go.Shelf Go.Lib
def Tryz.hneq_ren : Go.Shelf.Ren := ⟨fun | 8 => 69 | n => n, fun | 0 => 0 | 3 => 3 | 4 => 4 | 22 => 34 | 24 => 91 | n => n, fun n => n⟩
theorem Tryz.hneq_lays : Go.Proofs.SlLaysQ.n8 Tryz.prog Tryz.hneq_ren := {
  mixed := by kernel_rfl
  f8 := ⟨"slices.Equal[[]detent/api.Hand,detent/api.Hand]", by decide, Tryz.func69.trans (congrArg some (by kernel_rfl))⟩
  t0 := Tryz.underlying0
  a0 := Tryz.isAgg0
  z0 := Tryz.sizeOf0
  v0 := Tryz.zeroValue0
  t3 := Tryz.underlying3
  a3 := Tryz.isAgg3
  z3 := Tryz.sizeOf3
  v3 := Tryz.zeroValue3
  t4 := Tryz.underlying4
  a4 := Tryz.isAgg4
  z4 := Tryz.sizeOf4
  v4 := Tryz.zeroValue4
  t22 := Tryz.underlying34
  a22 := Tryz.isAgg34
  z22 := Tryz.sizeOf34
  v22 := Tryz.zeroValue34 }
end Go.Proofs
namespace Go.Proofs.YtbighilgkmfemaaGreatDoor
open Go.RowKit Go.Lib Go.Shelf
set_option linter.unusedVariables false
set_option linter.unusedSimpArgs false
theorem allEq_dec {α : Type} [DecidableEq α] (a b : List α) : Lib.allEq (fun x y : α => decide (x = y)) a b = decide (a = b) := by
  induction a generalizing b with
  | nil => cases b <;> simp [Lib.allEq]
  | cons x a ih =>
    cases b with
    | nil => simp [Lib.allEq]
    | cons y b => simp [Lib.allEq, ih]
theorem neq_intD (T : TypeId) : NeqAt Tryz.prog T (Value.int .i64) (fun x y => decide (x = y)) := ⟨fun x y w => by rw [(NeqAt.int Tryz.prog T .i64).1 x y w]; by_cases h : x = y <;> simp [h], .int Tryz.prog T .i64⟩
theorem drewN_below3 (w : World) (n : Nat) : Below w.heap.size w (w.drewN n) := ⟨rfl, rfl, rfl, Nat.le_refl _, fun _ _ => rfl⟩
set_option maxRecDepth 100000 in
set_option maxHeartbeats 4000000 in
theorem iequal_any (A A' : Option Addr) (n c n' c' : Nat) (a b : List Int) (w : World) (h : Row w A n c a) (h' : Row w A' n' c' b) (ha : n ≤ 1000000) :
    Calls Tryz.prog 65 #[.slice A n c, .slice A' n' c'] w fun e w' => e = .returned (.bool (sameB a b)) ∧ Below w.heap.size w w' := by
  have ea : a.length = n := h.1
  have eb : b.length = n' := h'.1
  subst ea eb
  by_cases hl : a.length = b.length
  · by_cases h0 : a.length = 0
    · have e1 : a = [] := List.eq_nil_of_length_eq_zero h0
      have e2 : b = [] := List.eq_nil_of_length_eq_zero (by omega)
      subst e1 e2
      have H : Hid (sameB ([] : List Int) [] = true) := by show _ = _; unfold sameB; simp
      rw [H.out]
      clear h h' hl h0 ha
      go_enter Tryz.func65, Tryz.ntmps65
      go_wp2_with fail
      refine wp_loop_rounds 1 ?_
      iterate 1 (rw [rounds_succ]; go_wp2_with fail)
      go_ret
      exact ⟨rfl, Below.refl _ _⟩
    · obtain ⟨g, o, hA, _, hc⟩ := h.cells (by omega)
      obtain ⟨g', o', hA', _, hc'⟩ := h'.cells (by omega)
      subst hA hA'
      have hz := AnyE.slices_Equal Tryz.ieq_lays (Value.int .i64) (fun x y => decide (x = y)) (neq_intD 3) g o a.length c g' o' b.length c' a b w (Nat.le_refl _) (Nat.le_refl _) (by omega) (by omega) (fun j hj => by rw [hc j hj, List.getD_eq_getElem?_getD, List.getElem?_eq_getElem hj, getElem!_pos a j hj]; rfl) (fun j hj => by rw [hc' j hj, List.getD_eq_getElem?_getD, List.getElem?_eq_getElem hj, getElem!_pos b j hj]; rfl)
      refine Calls.mono hz ?_
      rintro e w1 ⟨he, q, hw⟩
      rw [List.take_length, List.take_length, allEq_dec] at he
      exact ⟨he, by rw [hw]; exact drewN_below3 w q⟩
  · have H : Hid (sameB a b = false) := by show _ = _; unfold sameB; simp; intro e; rw [e] at hl; exact hl rfl
    rw [H.out]
    have hl' : ((a.length : Int) != (b.length : Int)) = true := by simp; omega
    have hl2 : ((a.length : Int) == (b.length : Int)) = false := by simp; omega
    have hl3 : ¬ (a.length : Int) = (b.length : Int) := by omega
    clear h h' hl ha
    go_enter Tryz.func65, Tryz.ntmps65
    go_wp2_with fail
    go_ret
    exact ⟨rfl, Below.refl _ _⟩
instance : Inhabited Fm := ⟨⟨0, 0, 0⟩⟩
theorem fmneq : NeqAt Tryz.prog 89 (fun q : Fm => .agg (fmE q).toArray) (fun x y => decide (x = y)) := by
  refine ⟨fun x y w => ?_, GuardAt.agg _ (by kernel_rfl)⟩
  have u3 := Tryz.underlying3
  have a3 := Tryz.isAgg3
  have z3 := Tryz.sizeOf3
  have u4 := Tryz.underlying4
  have a4 := Tryz.isAgg4
  have z4 := Tryz.sizeOf4
  have hS : Tryz.prog.underlying 89 = some (.struct (Tryz.prog.fieldsOf 89)) := by kernel_rfl
  have hp : Tryz.prog.stoodInHeld 89 = false := by kernel_rfl
  simp only [fmE]
  rw [run_neq_struct, show (10000 : Nat) = 9999 + 1 from rfl, run_equalIn_agg w 9999 89 _ _ hS hp]
  simp only [Program.fieldsOf, Tryz.underlying89]
  by_cases h0 : x.d = y.d
  · skip
    by_cases h1 : x.r = y.r
    · skip
      by_cases h2 : x.ip = y.ip
      · skip
        have e : x = y := by cases x; cases y; simp_all
        subst e
        go_simp
      · have e : ¬ x = y := fun e => h2 (by rw [e])
        go_simp
    · have e : ¬ x = y := fun e => h1 (by rw [e])
      go_simp
  · have e : ¬ x = y := fun e => h0 (by rw [e])
    go_simp
theorem fmE_len (q : Fm) : (fmE q).length = 3 := rfl
set_option maxRecDepth 100000 in
set_option maxHeartbeats 4000000 in
theorem fmequal_any (A A' : Option Addr) (n c n' c' : Nat) (a b : List Fm) (w : World) (h : Fms w (.slice A n c) a) (h' : Fms w (.slice A' n' c') b) (ha : n ≤ 1000000) :
    Calls Tryz.prog 66 #[.slice A n c, .slice A' n' c'] w fun e w' => e = .returned (.bool (fmSame a b)) ∧ Below w.heap.size w w' := by
  have ea : a.length = n := h.len
  have eb : b.length = n' := h'.len
  subst ea eb
  by_cases hl : a.length = b.length
  · by_cases h0 : a.length = 0
    · have e1 : a = [] := List.eq_nil_of_length_eq_zero h0
      have e2 : b = [] := List.eq_nil_of_length_eq_zero (by omega)
      subst e1 e2
      have H : Hid (fmSame ([] : List Fm) [] = true) := by show _ = _; unfold fmSame; simp
      rw [H.out]
      clear h h' hl h0 ha
      go_enter Tryz.func66, Tryz.ntmps66
      go_wp2_with fail
      refine wp_loop_rounds 1 ?_
      iterate 1 (rw [rounds_succ]; go_wp2_with fail)
      go_ret
      exact ⟨rfl, Below.refl _ _⟩
    · obtain ⟨g, o, hA, _, hc⟩ := Rws.cell (s := 3) (fun _ => rfl) (by decide) h (k := 0) (by omega)
      obtain ⟨g', o', hA', _, hc'⟩ := Rws.cell (s := 3) (fun _ => rfl) (by decide) h' (k := 0) (by omega)
      subst hA hA'
      have hcell : ∀ {g o : Nat} {l : List Fm} {c : Nat}, Fms w (.slice (some ⟨g, o, none⟩) l.length c) l → ∀ j, j < l.length → ∀ i v, (fmE l[j]!)[i]? = some v → w.cell? ⟨g, o + j * 3 + i, none⟩ = some v := by
        intro g o l c h j hj i v hv
        obtain ⟨g2, o2, e, _, hc⟩ := Rws.cell (s := 3) (fun _ => rfl) (by decide) h hj
        injection e with e
        injection e with e1 e2
        subst e1 e2
        rw [getElem!_pos l j hj] at hv
        have hi : i < 3 := by have := (List.getElem?_eq_some_iff.1 hv).1; simpa [fmE] using this
        rw [Nat.add_assoc]
        exact hc i v hi hv
      have hz := AnyQ.slices_Equal Tryz.fmeq_lays 3 Tryz.isAgg89 Tryz.sizeOf89 fmE fmE_len _ fmneq g o a.length c g' o' b.length c' a b w (Nat.le_refl _) (Nat.le_refl _) (by omega) (by omega) (hcell h) (hcell h')
      refine Calls.mono hz ?_
      rintro e w1 ⟨he, q, hw⟩
      rw [List.take_length, List.take_length, allEq_dec] at he
      exact ⟨he, by rw [hw]; exact drewN_below3 w q⟩
  · have H : Hid (fmSame a b = false) := by show _ = _; unfold fmSame; simp; intro e; rw [e] at hl; exact hl rfl
    rw [H.out]
    have hl' : ((a.length : Int) != (b.length : Int)) = true := by simp; omega
    have hl2 : ((a.length : Int) == (b.length : Int)) = false := by simp; omega
    have hl3 : ¬ (a.length : Int) = (b.length : Int) := by omega
    clear h h' hl ha
    go_enter Tryz.func66, Tryz.ntmps66
    go_wp2_with fail
    go_ret
    exact ⟨rfl, Below.refl _ _⟩
instance : Inhabited Rq := ⟨⟨0, 0, 0, 0, 0, 0⟩⟩
theorem rqneq : NeqAt Tryz.prog 96 (fun q : Rq => .agg (rqE q).toArray) (fun x y => decide (x = y)) := by
  refine ⟨fun x y w => ?_, GuardAt.agg _ (by kernel_rfl)⟩
  have u3 := Tryz.underlying3
  have a3 := Tryz.isAgg3
  have z3 := Tryz.sizeOf3
  have u4 := Tryz.underlying4
  have a4 := Tryz.isAgg4
  have z4 := Tryz.sizeOf4
  have hS : Tryz.prog.underlying 96 = some (.struct (Tryz.prog.fieldsOf 96)) := by kernel_rfl
  have hp : Tryz.prog.stoodInHeld 96 = false := by kernel_rfl
  simp only [rqE]
  rw [run_neq_struct, show (10000 : Nat) = 9999 + 1 from rfl, run_equalIn_agg w 9999 96 _ _ hS hp]
  simp only [Program.fieldsOf, Tryz.underlying96]
  by_cases h0 : x.kind = y.kind
  · skip
    by_cases h1 : x.arg = y.arg
    · skip
      by_cases h2 : x.hand = y.hand
      · skip
        by_cases h3 : x.rank = y.rank
        · skip
          by_cases h4 : x.delay = y.delay
          · skip
            by_cases h5 : x.id = y.id
            · skip
              have e : x = y := by cases x; cases y; simp_all
              subst e
              go_simp
            · have e : ¬ x = y := fun e => h5 (by rw [e])
              go_simp
          · have e : ¬ x = y := fun e => h4 (by rw [e])
            go_simp
        · have e : ¬ x = y := fun e => h3 (by rw [e])
          go_simp
      · have e : ¬ x = y := fun e => h2 (by rw [e])
        go_simp
    · have e : ¬ x = y := fun e => h1 (by rw [e])
      go_simp
  · have e : ¬ x = y := fun e => h0 (by rw [e])
    go_simp
theorem rqE_len (q : Rq) : (rqE q).length = 6 := rfl
set_option maxRecDepth 100000 in
set_option maxHeartbeats 4000000 in
theorem rqequal_any (A A' : Option Addr) (n c n' c' : Nat) (a b : List Rq) (w : World) (h : Rqs w (.slice A n c) a) (h' : Rqs w (.slice A' n' c') b) (ha : n ≤ 1000000) :
    Calls Tryz.prog 68 #[.slice A n c, .slice A' n' c'] w fun e w' => e = .returned (.bool (rqSame a b)) ∧ Below w.heap.size w w' := by
  have ea : a.length = n := h.len
  have eb : b.length = n' := h'.len
  subst ea eb
  by_cases hl : a.length = b.length
  · by_cases h0 : a.length = 0
    · have e1 : a = [] := List.eq_nil_of_length_eq_zero h0
      have e2 : b = [] := List.eq_nil_of_length_eq_zero (by omega)
      subst e1 e2
      have H : Hid (rqSame ([] : List Rq) [] = true) := by show _ = _; unfold rqSame; simp
      rw [H.out]
      clear h h' hl h0 ha
      go_enter Tryz.func68, Tryz.ntmps68
      go_wp2_with fail
      refine wp_loop_rounds 1 ?_
      iterate 1 (rw [rounds_succ]; go_wp2_with fail)
      go_ret
      exact ⟨rfl, Below.refl _ _⟩
    · obtain ⟨g, o, hA, _, hc⟩ := Rws.cell (s := 6) (fun _ => rfl) (by decide) h (k := 0) (by omega)
      obtain ⟨g', o', hA', _, hc'⟩ := Rws.cell (s := 6) (fun _ => rfl) (by decide) h' (k := 0) (by omega)
      subst hA hA'
      have hcell : ∀ {g o : Nat} {l : List Rq} {c : Nat}, Rqs w (.slice (some ⟨g, o, none⟩) l.length c) l → ∀ j, j < l.length → ∀ i v, (rqE l[j]!)[i]? = some v → w.cell? ⟨g, o + j * 6 + i, none⟩ = some v := by
        intro g o l c h j hj i v hv
        obtain ⟨g2, o2, e, _, hc⟩ := Rws.cell (s := 6) (fun _ => rfl) (by decide) h hj
        injection e with e
        injection e with e1 e2
        subst e1 e2
        rw [getElem!_pos l j hj] at hv
        have hi : i < 6 := by have := (List.getElem?_eq_some_iff.1 hv).1; simpa [rqE] using this
        rw [Nat.add_assoc]
        exact hc i v hi hv
      have hz := AnyQ.slices_Equal Tryz.rqeq_lays 6 Tryz.isAgg96 Tryz.sizeOf96 rqE rqE_len _ rqneq g o a.length c g' o' b.length c' a b w (Nat.le_refl _) (Nat.le_refl _) (by omega) (by omega) (hcell h) (hcell h')
      refine Calls.mono hz ?_
      rintro e w1 ⟨he, q, hw⟩
      rw [List.take_length, List.take_length, allEq_dec] at he
      exact ⟨he, by rw [hw]; exact drewN_below3 w q⟩
  · have H : Hid (rqSame a b = false) := by show _ = _; unfold rqSame; simp; intro e; rw [e] at hl; exact hl rfl
    rw [H.out]
    have hl' : ((a.length : Int) != (b.length : Int)) = true := by simp; omega
    have hl2 : ((a.length : Int) == (b.length : Int)) = false := by simp; omega
    have hl3 : ¬ (a.length : Int) = (b.length : Int) := by omega
    clear h h' hl ha
    go_enter Tryz.func68, Tryz.ntmps68
    go_wp2_with fail
    go_ret
    exact ⟨rfl, Below.refl _ _⟩
instance : Inhabited Hn := ⟨⟨0, 0, 0, false⟩⟩
theorem hnneq : NeqAt Tryz.prog 91 (fun q : Hn => .agg (hnE q).toArray) (fun x y => decide (x = y)) := by
  refine ⟨fun x y w => ?_, GuardAt.agg _ (by kernel_rfl)⟩
  have u3 := Tryz.underlying3
  have a3 := Tryz.isAgg3
  have z3 := Tryz.sizeOf3
  have u4 := Tryz.underlying4
  have a4 := Tryz.isAgg4
  have z4 := Tryz.sizeOf4
  have hS : Tryz.prog.underlying 91 = some (.struct (Tryz.prog.fieldsOf 91)) := by kernel_rfl
  have hp : Tryz.prog.stoodInHeld 91 = false := by kernel_rfl
  simp only [hnE]
  rw [run_neq_struct, show (10000 : Nat) = 9999 + 1 from rfl, run_equalIn_agg w 9999 91 _ _ hS hp]
  simp only [Program.fieldsOf, Tryz.underlying91]
  by_cases h0 : x.xt = y.xt
  · skip
    by_cases h1 : x.fuel = y.fuel
    · skip
      by_cases h2 : x.strikes = y.strikes
      · skip
        by_cases h3 : x.out = y.out
        · skip
          have e : x = y := by cases x; cases y; simp_all
          subst e
          go_simp
        · have e : ¬ x = y := fun e => h3 (by rw [e])
          go_simp
      · have e : ¬ x = y := fun e => h2 (by rw [e])
        go_simp
    · have e : ¬ x = y := fun e => h1 (by rw [e])
      go_simp
  · have e : ¬ x = y := fun e => h0 (by rw [e])
    go_simp
theorem hnE_len (q : Hn) : (hnE q).length = 4 := rfl
set_option maxRecDepth 100000 in
set_option maxHeartbeats 4000000 in
theorem hnequal_any (A A' : Option Addr) (n c n' c' : Nat) (a b : List Hn) (w : World) (h : Hns w (.slice A n c) a) (h' : Hns w (.slice A' n' c') b) (ha : n ≤ 1000000) :
    Calls Tryz.prog 69 #[.slice A n c, .slice A' n' c'] w fun e w' => e = .returned (.bool (hnSame a b)) ∧ Below w.heap.size w w' := by
  have ea : a.length = n := h.len
  have eb : b.length = n' := h'.len
  subst ea eb
  by_cases hl : a.length = b.length
  · by_cases h0 : a.length = 0
    · have e1 : a = [] := List.eq_nil_of_length_eq_zero h0
      have e2 : b = [] := List.eq_nil_of_length_eq_zero (by omega)
      subst e1 e2
      have H : Hid (hnSame ([] : List Hn) [] = true) := by show _ = _; unfold hnSame; simp
      rw [H.out]
      clear h h' hl h0 ha
      go_enter Tryz.func69, Tryz.ntmps69
      go_wp2_with fail
      refine wp_loop_rounds 1 ?_
      iterate 1 (rw [rounds_succ]; go_wp2_with fail)
      go_ret
      exact ⟨rfl, Below.refl _ _⟩
    · obtain ⟨g, o, hA, _, hc⟩ := Rws.cell (s := 4) (fun _ => rfl) (by decide) h (k := 0) (by omega)
      obtain ⟨g', o', hA', _, hc'⟩ := Rws.cell (s := 4) (fun _ => rfl) (by decide) h' (k := 0) (by omega)
      subst hA hA'
      have hcell : ∀ {g o : Nat} {l : List Hn} {c : Nat}, Hns w (.slice (some ⟨g, o, none⟩) l.length c) l → ∀ j, j < l.length → ∀ i v, (hnE l[j]!)[i]? = some v → w.cell? ⟨g, o + j * 4 + i, none⟩ = some v := by
        intro g o l c h j hj i v hv
        obtain ⟨g2, o2, e, _, hc⟩ := Rws.cell (s := 4) (fun _ => rfl) (by decide) h hj
        injection e with e
        injection e with e1 e2
        subst e1 e2
        rw [getElem!_pos l j hj] at hv
        have hi : i < 4 := by have := (List.getElem?_eq_some_iff.1 hv).1; simpa [hnE] using this
        rw [Nat.add_assoc]
        exact hc i v hi hv
      have hz := AnyQ.slices_Equal Tryz.hneq_lays 4 Tryz.isAgg91 Tryz.sizeOf91 hnE hnE_len _ hnneq g o a.length c g' o' b.length c' a b w (Nat.le_refl _) (Nat.le_refl _) (by omega) (by omega) (hcell h) (hcell h')
      refine Calls.mono hz ?_
      rintro e w1 ⟨he, q, hw⟩
      rw [List.take_length, List.take_length, allEq_dec] at he
      exact ⟨he, by rw [hw]; exact drewN_below3 w q⟩
  · have H : Hid (hnSame a b = false) := by show _ = _; unfold hnSame; simp; intro e; rw [e] at hl; exact hl rfl
    rw [H.out]
    have hl' : ((a.length : Int) != (b.length : Int)) = true := by simp; omega
    have hl2 : ((a.length : Int) == (b.length : Int)) = false := by simp; omega
    have hl3 : ¬ (a.length : Int) = (b.length : Int) := by omega
    clear h h' hl ha
    go_enter Tryz.func69, Tryz.ntmps69
    go_wp2_with fail
    go_ret
    exact ⟨rfl, Below.refl _ _⟩
end Go.Proofs.YtbighilgkmfemaaGreatDoor

/- Plain facts on a pair's digits. -/
namespace Go.Proofs.YtbighilgkmfemaaGreatDoor
open Go.RowKit
set_option linter.unusedVariables false
set_option linter.unusedSimpArgs false

/-- What a pair's digits are made of under way: what is left yet is u, what was laid stands behind l. -/
def AllInv (o : Bool) (l : List UInt8) (lo hi b : Int) (l' : List UInt8) (u : Nat) (bad : Int) : Prop :=
  (bad = 0 ∧ o = true ∧ baseB b = true ∧ l'.length ≤ 130 ∧ ∃ laid, l' = l ++ laid ∧ (u = 0 → figs lo hi b = laid.reverse) ∧ (u ≠ 0 → figs lo hi b = usF b.toNat u ++ laid.reverse)) ∨ (bad ≠ 0 ∧ l'.length ≤ 1000 ∧ allL o l lo hi b = l ∧ bad = allC o l lo hi b)
theorem base_nat {b : Int} (h : baseB b = true) : 2 ≤ b.toNat ∧ b.toNat ≤ 36 := by have := (baseB_iff b).1 h; omega
theorem us_one (b u : Nat) : 1 ≤ (usF b u).length := by
  have := @us_ne b u
  cases h : usF b u with
  | nil => exact absurd h this
  | cons a t => simp
theorem pall_no {o : Bool} {l : List UInt8} {lo hi b : Int} (h : allOK o l lo hi b = false) : allL o l lo hi b = l := by unfold allL; rw [if_neg (by simp [h])]
theorem div_lt (P k : Nat) (h : P < 340282366920938463463374607431768211456) : P / k < 340282366920938463463374607431768211456 := Nat.lt_of_le_of_lt (Nat.div_le_self _ _) h
theorem digOK_yes {o : Bool} {l : List UInt8} {b : Int} (hb : baseB b = true) (hk : pOpen o l = true) : digOK o l b = true := by unfold digOK; rw [hb, hk]; rfl
theorem inv_step {o : Bool} {l l' laid : List UInt8} {lo hi b low high : Int} (hb : baseB b = true) (ho : o = true) (hl : l' = l ++ laid) (hl' : l'.length ≤ 130)
    (hf : figs lo hi b = usF b.toNat (pairN low high) ++ laid.reverse) : AllInv o l lo hi b (digL o l' low high b) (pairN (digLo o l' low high b) (digHi o l' low high b)) (digC o l' b) := by
  obtain ⟨h2, h36⟩ := base_nat hb
  cases hk : pOpen o l' with
  | true =>
    have hlt := ((pOpen_iff _ _).1 hk).2
    refine .inl ⟨?_, ho, hb, ?_, laid ++ [digU low high b], ?_, ?_, ?_⟩
    · unfold digC holdC; rw [if_pos hb, if_pos hk]
    · unfold digL; rw [if_pos (digOK_yes hb hk)]; simp; omega
    · unfold digL; rw [if_pos (digOK_yes hb hk), hl]; simp
    all_goals
      unfold digLo digHi
      rw [if_pos (digOK_yes hb hk), if_pos (digOK_yes hb hk), pair_back (div_lt _ _ (pairN_lt _ _)), hf]
      intro h
    · have hlt : pairN low high < b.toNat := (Nat.div_eq_zero_iff_lt (by omega)).1 h
      rw [usF_low hlt]
      unfold digU
      rw [Nat.mod_eq_of_lt hlt]
      simp
    · have hge : b.toNat ≤ pairN low high := by
        rcases Nat.lt_or_ge (pairN low high) b.toNat with h' | h'
        · exact absurd ((Nat.div_eq_zero_iff_lt (by omega)).2 h') h
        · exact h'
      rw [usF_big h2 hge]
      unfold digU
      simp
  | false =>
    have hge : 130 ≤ l'.length := by have := (pOpen_no _ _).1 hk; simp [ho] at this; omega
    have hno : allOK o l lo hi b = false := by
      unfold allOK
      rw [hb, hf]
      have := us_one b.toNat (pairN low high)
      rw [hl] at hge
      simp at hge ⊢
      intro _
      omega
    refine .inr ⟨?_, ?_, pall_no hno, ?_⟩
    · unfold digC holdC; rw [if_pos hb, if_neg (by simp [hk])]; omega
    · unfold digL digOK; rw [hb, hk, if_neg (by simp)]; omega
    · unfold digC holdC allC; rw [if_pos hb, if_pos hb, if_neg (by simp [hk]), hno, if_neg (by simp)]
theorem AllInv.next {o : Bool} {l l' : List UInt8} {lo hi b low high : Int} (h : AllInv o l lo hi b l' (pairN low high) 0) (h0 : pairN low high ≠ 0) : AllInv o l lo hi b (digL o l' low high b) (pairN (digLo o l' low high b) (digHi o l' low high b)) (digC o l' b) := by
  rcases h with ⟨_, ho, hb, hl', laid, hl, _, hf⟩ | ⟨h, _⟩
  · exact inv_step hb ho hl hl' (hf h0)
  · exact absurd rfl h
theorem AllInv.done {o : Bool} {l l' : List UInt8} {lo hi b : Int} (h : AllInv o l lo hi b l' 0 0) : l' = allL o l lo hi b ∧ allC o l lo hi b = 0 := by
  rcases h with ⟨_, ho, hb, hl', laid, hl, hf, _⟩ | ⟨h, _⟩
  · have hf := hf rfl
    have hok : allOK o l lo hi b = true := by
      unfold allOK
      rw [hb, hf, ho]
      rw [hl] at hl'
      simp at hl' ⊢
      exact hl'
    refine ⟨?_, ?_⟩
    · unfold allL; rw [if_pos hok, hf, hl]; simp
    · unfold allC; rw [if_pos hb, if_pos hok]
  · exact absurd rfl h
theorem AllInv.len {o : Bool} {l l' : List UInt8} {lo hi b bad : Int} {u : Nat} (h : AllInv o l lo hi b l' u bad) : l'.length ≤ 1000 := by
  rcases h with ⟨_, _, _, h, _⟩ | ⟨_, h, _⟩
  · omega
  · exact h
end Go.Proofs.YtbighilgkmfemaaGreatDoor

/- Contracts of the program's Begin, Right, Same, Hold, Sign. -/
namespace Go.Proofs.YtbighilgkmfemaaGreatDoor
open Go.RowKit
set_option linter.unusedVariables false
set_option linter.unusedSimpArgs false

set_option maxRecDepth 100000 in
theorem right_any (A : Option Addr) (n c : Nat) (o : Bool) (l : List UInt8) (w : World) (h : Byt w (.slice A n c) l) :
    Calls Tryz.prog 56 #[.agg #[.slice A n c, .bool o]] w fun e w' => e = .returned (.bool (pRight o l)) ∧ Below w.heap.size w w' := by
  have hl := h.len
  cases o with
  | true =>
    by_cases h1 : n ≤ 130
    · have h1' : (n : Int) ≤ 130 := by omega
      have H : Hid (pRight true l = true) := (pRight_iff _ _).2 ⟨by omega, .inl rfl⟩
      rw [H.out]
      clear h hl
      go_enter Tryz.func56, Tryz.ntmps56
      go_wp2
      go_ret
      exact ⟨rfl, al_one _ _⟩
    · have H : Hid (pRight true l = false) := (pRight_no _ _).2 (by omega)
      have h1' : decide ((n : Int) ≤ 130) = false := by simp; omega
      rw [H.out]
      clear h hl h1
      go_enter Tryz.func56, Tryz.ntmps56
      go_wp2
      go_ret
      exact ⟨rfl, al_one _ _⟩
  | false =>
    by_cases h0 : n = 0
    · have H : Hid (pRight false l = true) := (pRight_iff _ _).2 ⟨by omega, .inr (len_zero (by omega))⟩
      rw [H.out]
      clear h hl
      subst h0
      go_enter Tryz.func56, Tryz.ntmps56
      go_wp2
      go_ret
      exact ⟨rfl, al_one _ _⟩
    · have H : Hid (pRight false l = false) := (pRight_no _ _).2 (by rintro ⟨_, h | h⟩; cases h; rw [h] at hl; exact h0 hl.symm)
      rw [H.out]
      have h0' : ((n : Int) == 0) = false := by simp; omega
      clear h hl
      go_enter Tryz.func56, Tryz.ntmps56
      go_wp2
      go_ret
      exact ⟨rfl, al_one _ _⟩

set_option maxRecDepth 100000 in
theorem same_any (A A' : Option Addr) (n c n' c' : Nat) (o o' : Bool) (l l' : List UInt8) (w : World) (h : Byt w (.slice A n c) l) (h' : Byt w (.slice A' n' c') l') :
    Calls Tryz.prog 64 #[.agg #[.slice A n c, .bool o], .agg #[.slice A' n' c', .bool o']] w fun e w' => e = .returned (.bool (pSame o l o' l')) ∧ Below w.heap.size w w' := by
  by_cases ho : o = o'
  · subst ho
    have H : Hid (pSame o l o l' = decide (l = l')) := by show _ = _; unfold pSame; simp
    rw [H.out]
    obtain ⟨d, hd⟩ : ∃ d, decide (l = l') = d := ⟨_, rfl⟩
    have k1 := al_two w (.cells #[.slice A n c, .bool o] 32) (.cells #[.slice A' n' c', .bool o] 32)
    have HE := Lib.hid (equal_any A A' n c n' c' l l' _ (h.keep k1) (h'.keep k1))
    rw [hd] at HE
    rw [hd]
    have K := Lib.hid k1
    have hb : PBox _ _ _ _ _ _ ∧ PBox _ _ _ _ _ _ := box_two w (.slice A n c) (.bool o) (.slice A' n' c') (.bool o) 32 32
    obtain ⟨b1, b2, _, _⟩ := hb.1.use
    obtain ⟨b3, b4, _, _⟩ := hb.2.use
    clear h h' k1 hb hd
    go_enter Tryz.func64, Tryz.ntmps64
    go_wp2_with fail
    refine HE.out.mono ?_
    rintro e w1 ⟨rfl, rfl⟩
    go_wp2_with fail
    go_ret
    exact ⟨rfl, K.out⟩
  · have H : Hid (pSame o l o' l' = false) := by show _ = _; unfold pSame; simp [ho]
    rw [H.out]
    have ho' : (o == o') = false := by simpa using ho
    clear h h' ho
    go_enter Tryz.func64, Tryz.ntmps64
    go_wp2
    go_ret
    exact ⟨rfl, al_two w (.cells #[.slice A n c, .bool o] 32) (.cells #[.slice A' n' c', .bool o'] 32)⟩
end Go.Proofs.YtbighilgkmfemaaGreatDoor

/- The contract of the program's Same. -/
namespace Go.Proofs.YtbighilgkmfemaaGreatDoor
open Go.RowKit
set_option linter.unusedVariables false
set_option linter.unusedSimpArgs false

set_option maxRecDepth 100000 in
set_option maxHeartbeats 4000000 in
theorem conf_eql (k j : VmK) (w : World) : (binOp .eql 23 (.agg #[.int .i64 k.cm, .int .i64 k.cd, .int .i64 k.cr, .int .i64 k.cw, .int .i64 k.co]) (.agg #[.int .i64 j.cm, .int .i64 j.cd, .int .i64 j.cr, .int .i64 j.cw, .int .i64 j.co])).run Tryz.prog w = .ok (.bool (confSame k j)) w := by
  have u3 := Tryz.underlying3
  have a3 := Tryz.isAgg3
  have z3 := Tryz.sizeOf3
  have hS : Tryz.prog.underlying 23 = some (.struct (Tryz.prog.fieldsOf 23)) := by kernel_rfl
  have hp : Tryz.prog.stoodInHeld 23 = false := by kernel_rfl
  rw [run_eql_struct, show (10000 : Nat) = 9999 + 1 from rfl, run_equalIn_agg w 9999 23 _ _ hS hp]
  simp only [Program.fieldsOf, Tryz.underlying23]
  unfold confSame
  by_cases h0 : k.cm = j.cm
  · skip
    by_cases h1 : k.cd = j.cd
    · skip
      by_cases h2 : k.cr = j.cr
      · skip
        by_cases h3 : k.cw = j.cw
        · skip
          by_cases h4 : k.co = j.co
          · skip
            go_simp
          · go_simp
        · go_simp
      · go_simp
    · go_simp
  · go_simp
set_option maxRecDepth 100000 in
set_option maxHeartbeats 4000000 in
theorem nums_eql (k j : VmK) (w : World) : (binOp .eql 92 (.agg #[.int .i64 k.here, .int .i64 k.last, .int .i64 k.free, .int .i64 k.next, .int .i64 k.arg, .int .i64 k.self, .int .i64 k.now]) (.agg #[.int .i64 j.here, .int .i64 j.last, .int .i64 j.free, .int .i64 j.next, .int .i64 j.arg, .int .i64 j.self, .int .i64 j.now])).run Tryz.prog w = .ok (.bool (numsSame k j)) w := by
  have u3 := Tryz.underlying3
  have a3 := Tryz.isAgg3
  have z3 := Tryz.sizeOf3
  obtain ⟨i, hi⟩ : ∃ i, Tryz.prog.info? 3 = some i := ⟨_, by rfl⟩
  have hc : Tryz.prog.cellsOf 3 = 1 := by kernel_rfl
  rw [run_eql_struct, show (10000 : Nat) = 9999 + 1 from rfl, run_equalIn_array w 9999 _ _ Tryz.underlying92 hi, hc]
  rw [show List.range 7 = [0, 1, 2, 3, 4, 5, 6] from rfl]
  simp only [Op.eqItems]
  unfold numsSame
  by_cases h0 : k.here = j.here
  · skip
    by_cases h1 : k.last = j.last
    · skip
      by_cases h2 : k.free = j.free
      · skip
        by_cases h3 : k.next = j.next
        · skip
          by_cases h4 : k.arg = j.arg
          · skip
            by_cases h5 : k.self = j.self
            · skip
              by_cases h6 : k.now = j.now
              · skip
                go_simp
              · go_simp
            · go_simp
          · go_simp
        · go_simp
      · go_simp
    · go_simp
  · go_simp
set_option maxRecDepth 100000 in
set_option maxHeartbeats 4000000 in
theorem vnums_any (k : VmK) (w : World) : Calls Tryz.prog 61 #[vmV k] w fun e w' => e = .returned (.agg #[.int .i64 k.here, .int .i64 k.last, .int .i64 k.free, .int .i64 k.next, .int .i64 k.arg, .int .i64 k.self, .int .i64 k.now]) ∧ Below w.heap.size w w' := by
  go_enter Tryz.func61, Tryz.ntmps61
  go_wp2
  refine bodyPost_ret (v := .agg #[.int .i64 k.here, .int .i64 k.last, .int .i64 k.free, .int .i64 k.next, .int .i64 k.arg, .int .i64 k.self, .int .i64 k.now]) ?_ rfl ?_
  · simp [results, Tryz.results61, go_sem]
  · exact ⟨rfl, al_two w _ _⟩
end Go.Proofs.YtbighilgkmfemaaGreatDoor
