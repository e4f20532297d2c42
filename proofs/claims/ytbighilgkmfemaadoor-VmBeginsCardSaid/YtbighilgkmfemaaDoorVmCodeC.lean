/- The contract of the program's Print. -/
import Derived.Test.YtbighilgkmfemaaDoorVmCodeB
import Derived.Test.YtbighilgkmfemaaDoorVmCat
namespace Go.Proofs.YtbighilgkmfemaaDoor
open Go.RowKit
set_option linter.unusedVariables false
set_option linter.unusedSimpArgs false

set_option maxRecDepth 100000 in
set_option maxHeartbeats 4000000 in
theorem vprint_any (k : VmK) (l s : List UInt8) (w : World) (hn : k.on ≤ 65536) (h0 : 0 ≤ k.co) (h6 : k.co ≤ 65536) (hs : s.length ≤ 100000) (HR : Hid (Byt w (.slice k.oA k.on k.oc) l)) :
    Calls Tryd.prog 18 #[vmV k, .string (strB s)] w fun e w' => ∃ B m d, e = .returned (.tuple #[vmV { k with oA := B, on := m, oc := d }, .int .i64 (printC l s k.co)]) ∧ Byt w' (.slice B m d) (printL l s k.co) ∧ Below w.heap.size w w' := by
  have hl := HR.out.len
  have hsz : (strB s).size = s.length := rfl
  by_cases h : k.co - (k.on : Int) < (s.length : Int)
  · have H1 : Hid (printC l s k.co = -260) := if_pos (by rw [hl]; exact h)
    have H2 : Hid (printL l s k.co = l) := if_pos (by rw [hl]; exact h)
    rw [H1.out]
    have kr := al_two w (.cells #[.int .i64 k.cm, .int .i64 k.cd, .int .i64 k.cr, .int .i64 k.cw, .int .i64 k.co, .slice k.mA k.mn k.mc, .slice k.pA k.pn k.pc, .int .i64 k.here, .slice k.dA k.dn k.dc, .slice k.rA k.rn k.rc, .slice k.fA k.fn k.fc, .slice k.wA k.wn k.wc, .int .i64 k.last, .slice k.oA k.on k.oc, .slice k.qA k.qn k.qc, .bool k.qo, .slice k.eA k.en k.ec, .int .i64 k.free, .int .i64 k.next, .int .i64 k.arg, .int .i64 k.self, .int .i64 k.now, .slice k.hA k.hn k.hc] 37) (.cells #[.int .i64 0, .int .i64 0, .int .i64 0, .int .i64 0, .int .i64 0, .slice none 0 0, .slice none 0 0, .int .i64 0, .slice none 0 0, .slice none 0 0, .slice none 0 0, .slice none 0 0, .int .i64 0, .slice none 0 0, .slice none 0 0, .bool false, .slice none 0 0, .int .i64 0, .int .i64 0, .int .i64 0, .int .i64 0, .int .i64 0, .slice none 0 0] 37)
    have HPr : Hid (VBox ((w.alloc (.cells #[.int .i64 k.cm, .int .i64 k.cd, .int .i64 k.cr, .int .i64 k.cw, .int .i64 k.co, .slice k.mA k.mn k.mc, .slice k.pA k.pn k.pc, .int .i64 k.here, .slice k.dA k.dn k.dc, .slice k.rA k.rn k.rc, .slice k.fA k.fn k.fc, .slice k.wA k.wn k.wc, .int .i64 k.last, .slice k.oA k.on k.oc, .slice k.qA k.qn k.qc, .bool k.qo, .slice k.eA k.en k.ec, .int .i64 k.free, .int .i64 k.next, .int .i64 k.arg, .int .i64 k.self, .int .i64 k.now, .slice k.hA k.hn k.hc] 37)).alloc (.cells #[.int .i64 0, .int .i64 0, .int .i64 0, .int .i64 0, .int .i64 0, .slice none 0 0, .slice none 0 0, .int .i64 0, .slice none 0 0, .slice none 0 0, .slice none 0 0, .slice none 0 0, .int .i64 0, .slice none 0 0, .slice none 0 0, .bool false, .slice none 0 0, .int .i64 0, .int .i64 0, .int .i64 0, .int .i64 0, .int .i64 0, .slice none 0 0] 37)) w.heap.size k) := (vbox_new w k).keep (al_one _ _)
    have HXr : Hid (VBox ((w.alloc (.cells #[.int .i64 k.cm, .int .i64 k.cd, .int .i64 k.cr, .int .i64 k.cw, .int .i64 k.co, .slice k.mA k.mn k.mc, .slice k.pA k.pn k.pc, .int .i64 k.here, .slice k.dA k.dn k.dc, .slice k.rA k.rn k.rc, .slice k.fA k.fn k.fc, .slice k.wA k.wn k.wc, .int .i64 k.last, .slice k.oA k.on k.oc, .slice k.qA k.qn k.qc, .bool k.qo, .slice k.eA k.en k.ec, .int .i64 k.free, .int .i64 k.next, .int .i64 k.arg, .int .i64 k.self, .int .i64 k.now, .slice k.hA k.hn k.hc] 37)).alloc (.cells #[.int .i64 0, .int .i64 0, .int .i64 0, .int .i64 0, .int .i64 0, .slice none 0 0, .slice none 0 0, .int .i64 0, .slice none 0 0, .slice none 0 0, .slice none 0 0, .slice none 0 0, .int .i64 0, .slice none 0 0, .slice none 0 0, .bool false, .slice none 0 0, .int .i64 0, .int .i64 0, .int .i64 0, .int .i64 0, .int .i64 0, .slice none 0 0] 37)) (w.heap.size + 1) vm0) := by have := vbox_zero (w.alloc (.cells #[.int .i64 k.cm, .int .i64 k.cd, .int .i64 k.cr, .int .i64 k.cw, .int .i64 k.co, .slice k.mA k.mn k.mc, .slice k.pA k.pn k.pc, .int .i64 k.here, .slice k.dA k.dn k.dc, .slice k.rA k.rn k.rc, .slice k.fA k.fn k.fc, .slice k.wA k.wn k.wc, .int .i64 k.last, .slice k.oA k.on k.oc, .slice k.qA k.qn k.qc, .bool k.qo, .slice k.eA k.en k.ec, .int .i64 k.free, .int .i64 k.next, .int .i64 k.arg, .int .i64 k.self, .int .i64 k.now, .slice k.hA k.hn k.hc] 37)); rw [World.size_alloc] at this; exact this
    have HBr := Lib.hid kr
    clear hl kr
    go_enter Tryd.func18, Tryd.ntmps18
    go_wp2_with (first
    | (refine wpList_load_row rfl 37 _ rfl w.heap.size rfl _ _ _ _ HPr.out Tryd.underlying37 rfl (by kernel_rfl) ?_)
    | (refine wpList_store_row rfl 37 _ _ rfl (w.heap.size + 1) (vmC k) rfl rfl _ _ HXr.out (by kernel_rfl) rfl (vm_one _) ?_))
    refine bodyPost_ret (res_ct rfl _ _ _ _ rfl (vrow HXr.out k)) rfl ⟨k.oA, k.on, k.oc, rfl, ?_, ?_⟩
    · rw [H2.out]
      exact HR.out.keep (below_setRow HBr.out (by omega) _)
    · exact below_setRow HBr.out (by omega) _
  · have H1 : Hid (printC l s k.co = 0) := if_neg (by rw [hl]; exact h)
    have H2 : Hid (printL l s k.co = l ++ s) := if_neg (by rw [hl]; exact h)
    rw [H1.out]
    have h' : decide (k.co - (k.on : Int) < (s.length : Int)) = false := by simp; omega
    obtain ⟨o1, ho1⟩ : ∃ o1 : Obj, (.cells #[.int .i64 k.cm, .int .i64 k.cd, .int .i64 k.cr, .int .i64 k.cw, .int .i64 k.co, .slice k.mA k.mn k.mc, .slice k.pA k.pn k.pc, .int .i64 k.here, .slice k.dA k.dn k.dc, .slice k.rA k.rn k.rc, .slice k.fA k.fn k.fc, .slice k.wA k.wn k.wc, .int .i64 k.last, .slice k.oA k.on k.oc, .slice k.qA k.qn k.qc, .bool k.qo, .slice k.eA k.en k.ec, .int .i64 k.free, .int .i64 k.next, .int .i64 k.arg, .int .i64 k.self, .int .i64 k.now, .slice k.hA k.hn k.hc] 37) = o1 := ⟨_, rfl⟩
    obtain ⟨o2, ho2⟩ : ∃ o2 : Obj, (.cells #[.int .i64 0, .int .i64 0, .int .i64 0, .int .i64 0, .int .i64 0, .slice none 0 0, .slice none 0 0, .int .i64 0, .slice none 0 0, .slice none 0 0, .slice none 0 0, .slice none 0 0, .int .i64 0, .slice none 0 0, .slice none 0 0, .bool false, .slice none 0 0, .int .i64 0, .int .i64 0, .int .i64 0, .int .i64 0, .int .i64 0, .slice none 0 0] 37) = o2 := ⟨_, rfl⟩
    obtain ⟨W, hW⟩ : ∃ W, (w.alloc o1).alloc o2 = W := ⟨_, rfl⟩
    have kk := al_two w o1 o2
    have hx : VBox ((w.alloc o1).alloc o2) w.heap.size k ∧ VBox ((w.alloc o1).alloc o2) (w.heap.size + 1) vm0 := by rw [← ho1, ← ho2]; exact ⟨(vbox_new w k).keep (al_one _ _), by have := vbox_zero (w.alloc (.cells #[.int .i64 k.cm, .int .i64 k.cd, .int .i64 k.cr, .int .i64 k.cw, .int .i64 k.co, .slice k.mA k.mn k.mc, .slice k.pA k.pn k.pc, .int .i64 k.here, .slice k.dA k.dn k.dc, .slice k.rA k.rn k.rc, .slice k.fA k.fn k.fc, .slice k.wA k.wn k.wc, .int .i64 k.last, .slice k.oA k.on k.oc, .slice k.qA k.qn k.qc, .bool k.qo, .slice k.eA k.en k.ec, .int .i64 k.free, .int .i64 k.next, .int .i64 k.arg, .int .i64 k.self, .int .i64 k.now, .slice k.hA k.hn k.hc] 37)); rwa [World.size_alloc] at this⟩
    rw [hW] at kk hx
    have HB := Lib.hid kk
    have HP := Lib.hid hx.1
    have HX := Lib.hid hx.2
    have HW : Hid ((w.alloc (.cells #[.int .i64 k.cm, .int .i64 k.cd, .int .i64 k.cr, .int .i64 k.cw, .int .i64 k.co, .slice k.mA k.mn k.mc, .slice k.pA k.pn k.pc, .int .i64 k.here, .slice k.dA k.dn k.dc, .slice k.rA k.rn k.rc, .slice k.fA k.fn k.fc, .slice k.wA k.wn k.wc, .int .i64 k.last, .slice k.oA k.on k.oc, .slice k.qA k.qn k.qc, .bool k.qo, .slice k.eA k.en k.ec, .int .i64 k.free, .int .i64 k.next, .int .i64 k.arg, .int .i64 k.self, .int .i64 k.now, .slice k.hA k.hn k.hc] 37)).alloc (.cells #[.int .i64 0, .int .i64 0, .int .i64 0, .int .i64 0, .int .i64 0, .slice none 0 0, .slice none 0 0, .int .i64 0, .slice none 0 0, .slice none 0 0, .slice none 0 0, .slice none 0 0, .int .i64 0, .slice none 0 0, .slice none 0 0, .bool false, .slice none 0 0, .int .i64 0, .int .i64 0, .int .i64 0, .int .i64 0, .int .i64 0, .slice none 0 0] 37) = W) := by show _ = _; rw [ho1, ho2]; exact hW
    have hS : W.heap.size = w.heap.size + 1 + 1 := by rw [← hW]; simp
    have HS := Lib.hid hS
    obtain ⟨cc, w9, hcv, hby, hb9⟩ := conv_in s W (by omega)
    have HQ := pair_new w9 (.slice k.oA k.on k.oc) (.slice (some ⟨W.heap.size, 0, none⟩) s.length cc) 25
    have ka := below_then hb9 (al_one w9 (.cells #[.slice k.oA k.on k.oc, .slice (some ⟨W.heap.size, 0, none⟩) s.length cc] 25))
    have HC := Lib.hid (bcat_any _ _ _ _ _ _ l s w9.heap.size _ HQ.1 HQ.2 ((HR.out.keep kk).keep ka) (hby.keep (al_one w9 _)) (by omega) (by omega))
    have HKA := Lib.hid ka
    have HX9 := Lib.hid hb9.size
    obtain ⟨p0, p1, p2, p3, p4, p5, p6, p7, p8, p9, p10, p11, p12, p13, p14, p15, p16, p17, p18, p19, p20, p21, p22⟩ := HP.out.use
    clear hl h kk hx hW ho1 ho2 hS hby hb9 HQ ka
    go_enter Tryd.func18, Tryd.ntmps18
    go_upto_region 3 with fail
    rw [HW.out]
    go_wp2_with fail
    refine HC.out.mono ?_
    rintro e w4 ⟨v, rfl, o4, b4⟩
    obtain ⟨B, m, d, rfl⟩ := byt_slice o4.byt
    obtain rfl : (l ++ s).length = m := o4.byt.len
    have hfr := own_from o4
    have HF : Hid (∀ b, B = some b → W.heap.size ≤ b.block) := (fun b e => by have h1 := hfr b.block (by rw [e]; rfl); have h2 := HX9.out; rw [World.size_alloc] at h1; omega)
    have HR4 := Lib.hid o4.byt
    have bb := below_then HKA.out b4
    have XP := Lib.hid (HP.out.keep bb)
    have XZ := Lib.hid (HX.out.keep bb)
    clear p0 p1 p2 p3 p4 p5 p6 p7 p8 p9 p10 p11 p12 p13 p14 p15 p16 p17 p18 p19 p20 p21 p22
    obtain ⟨p0, p1, p2, p3, p4, p5, p6, p7, p8, p9, p10, p11, p12, p13, p14, p15, p16, p17, p18, p19, p20, p21, p22⟩ := XP.out.use
    obtain ⟨f0, f1, f2, f3, f4, f5, f6, f7, f8, f9, f10, f11, f12, f13, f14, f15, f16, f17, f18, f19, f20, f21, f22⟩ := XP.out.free
    have YP := Lib.hid (XP.out.set_o B (l ++ s).length d)
    have YZ : Hid (VBox (w4.setCell ⟨w.heap.size, 13, none⟩ (.slice B (l ++ s).length d)) (w.heap.size + 1) vm0) := by show VBox _ _ _; unfold VBox; rw [Below.heap_setCell _ _ _ _ (by simp)]; exact XZ.out
    have lp := XP.out.lt
    have HB2 := Lib.hid bb
    obtain ⟨ln, hln⟩ : ∃ n, (l ++ s).length = n := ⟨_, rfl⟩
    rw [hln] at YP YZ HR4 ⊢
    clear hfr o4 b4 bb HC hcv hln
    go_wp2_with (first
    | (refine wpList_load_row rfl 37 _ rfl w.heap.size rfl _ _ _ _ YP.out Tryd.underlying37 rfl (by kernel_rfl) ?_)
    | (refine wpList_store_row rfl 37 _ _ rfl (w.heap.size + 1) (vmC { k with oA := B, on := ln, oc := d }) rfl rfl _ _ YZ.out (by kernel_rfl) rfl (vm_one _) ?_))
    have YF := Lib.hid (vrow YZ.out { k with oA := B, on := ln, oc := d })
    refine bodyPost_ret (res_ct rfl _ _ _ _ rfl YF.out) rfl ⟨B, ln, d, rfl, ?_, ?_⟩
    · rw [H2.out]
      refine HR4.out.fresh (W := W) HF.out (by rw [size_setRow]; simp [World.setCell]) fun g hg hlt => ?_
      rw [setRow_other _ _ _ _ (by have := HS.out; omega), Below.heap_setCell _ _ _ _ (by have := HS.out; show g ≠ w.heap.size; omega)]
    · exact below_setRow ((below_then HB.out HB2.out).setCell (p := ⟨w.heap.size, 13, none⟩) (Nat.le_refl _) _) (by omega) _
end Go.Proofs.YtbighilgkmfemaaDoor
