/- The contract of the program's Right. -/
import Derived.Test.YtbighilgkmfemaaDoorVmCodeF
import Derived.Test.YtbighilgkmfemaaDoorVmMay
import Derived.Test.YtbighilgkmfemaaDoorSetF
namespace Go.Proofs.YtbighilgkmfemaaDoor
open Go.RowKit
set_option linter.unusedVariables false
set_option linter.unusedSimpArgs false

set_option maxRecDepth 100000 in
set_option maxHeartbeats 4000000 in
theorem vright_any (k : VmK) (L : VmL) (w : World) (HN : Hid (k.wn ≤ 100000)) (h : IsVm w k L) :
    Calls Tryd.prog 20 #[vmV k] w fun e w' => e = .returned (.bool (vRight k L)) ∧ Below w.heap.size w w' := by
  have kk := al_one w (.cells #[.int .i64 k.cm, .int .i64 k.cd, .int .i64 k.cr, .int .i64 k.cw, .int .i64 k.co, .slice k.mA k.mn k.mc, .slice k.pA k.pn k.pc, .int .i64 k.here, .slice k.dA k.dn k.dc, .slice k.rA k.rn k.rc, .slice k.fA k.fn k.fc, .slice k.wA k.wn k.wc, .int .i64 k.last, .slice k.oA k.on k.oc, .slice k.qA k.qn k.qc, .bool k.qo, .slice k.eA k.en k.ec, .int .i64 k.free, .int .i64 k.next, .int .i64 k.arg, .int .i64 k.self, .int .i64 k.now, .slice k.hA k.hn k.hc] 37)
  have B0 := Lib.hid kk
  have V0 := Lib.hid (h.keep kk)
  have X0 := Lib.hid (vbox_new w k)
  obtain ⟨F, hF⟩ : ∃ F, vRight k L = F := ⟨_, rfl⟩
  have HF : Hid (F = (fitsV k && ((rightB L.m && headB k) && ((L.f.all frB && decide ((k.dn : Int) ≤ k.cd ∧ (k.rn : Int) ≤ k.cr ∧ k.fn ≤ 64)) && (dRight L.dict && (decide ((k.wn : Int) ≤ k.cw) && (decide ((k.on : Int) ≤ k.co) && (pRight k.qo L.q && (decide ((k.en : Int) ≤ 16) && (decide (0 ≤ k.free ∧ k.free ≤ 64) && (decide (0 ≤ k.next ∧ k.next ≤ 4611686018427387904) && (L.h.all hnB && decide (k.hn ≤ 64))))))))))))) := by
    show _ = _
    rw [← hF]
    unfold vRight tailB
    rw [Bool.eq_iff_iff]
    simp only [Bool.and_eq_true, decide_eq_true_eq]
    constructor
    · rintro ⟨a, b, c, d, e, f, g, h1, h2, h3, h4, h5, h6, h7, h8, h9, h10, h11⟩
      exact ⟨a, ⟨b, e⟩, ⟨f, h1, h2, h3⟩, c, h4, h5, d, by omega, ⟨h7, h8⟩, ⟨h9, h10⟩, g, h11⟩
    · rintro ⟨a, ⟨b, e⟩, ⟨f, h1, h2, h3⟩, c, h4, h5, d, h6, ⟨h7, h8⟩, ⟨h9, h10⟩, g, h11⟩
      exact ⟨a, b, c, d, e, f, g, h1, h2, h3, h4, h5, by omega, h7, h8, h9, h10, h11⟩
  rw [hF]
  unfold fitsV at HF
  obtain ⟨F0, e0⟩ : ∃ F, fitsB k.cm k.cd k.cr k.cw k.co = F := ⟨_, rfl⟩
  rw [e0] at HF
  obtain ⟨F1, e1⟩ : ∃ F, (rightB L.m && headB k) = F := ⟨_, rfl⟩
  rw [e1] at HF
  obtain ⟨F2, e2⟩ : ∃ F, (L.f.all frB && decide ((k.dn : Int) ≤ k.cd ∧ (k.rn : Int) ≤ k.cr ∧ k.fn ≤ 64)) = F := ⟨_, rfl⟩
  rw [e2] at HF
  obtain ⟨F3, e3⟩ : ∃ F, dRight L.dict = F := ⟨_, rfl⟩
  rw [e3] at HF
  obtain ⟨F4, e4⟩ : ∃ F, decide ((k.wn : Int) ≤ k.cw) = F := ⟨_, rfl⟩
  rw [e4] at HF
  obtain ⟨F5, e5⟩ : ∃ F, decide ((k.on : Int) ≤ k.co) = F := ⟨_, rfl⟩
  rw [e5] at HF
  obtain ⟨F6, e6⟩ : ∃ F, pRight k.qo L.q = F := ⟨_, rfl⟩
  rw [e6] at HF
  obtain ⟨F7, e7⟩ : ∃ F, decide ((k.en : Int) ≤ 16) = F := ⟨_, rfl⟩
  rw [e7] at HF
  obtain ⟨F8, e8⟩ : ∃ F, decide (0 ≤ k.free ∧ k.free ≤ 64) = F := ⟨_, rfl⟩
  rw [e8] at HF
  obtain ⟨F9, e9⟩ : ∃ F, decide (0 ≤ k.next ∧ k.next ≤ 4611686018427387904) = F := ⟨_, rfl⟩
  rw [e9] at HF
  obtain ⟨F10, e10⟩ : ∃ F, (L.h.all hnB && decide (k.hn ≤ 64)) = F := ⟨_, rfl⟩
  rw [e10] at HF
  have E0 := Lib.hid e0
  have E1 := Lib.hid e1
  have E2 := Lib.hid e2
  have E3 := Lib.hid e3
  have E6 := Lib.hid e6
  have E8 := Lib.hid e8
  have E9 := Lib.hid e9
  have E10 := Lib.hid e10
  clear e0 e1 e2 e3 e6 e8 e9 e10 h hF kk
  go_enter Tryd.func20, Tryd.ntmps20
  obtain ⟨p0, p1, p2, p3, p4, p5, p6, p7, p8, p9, p10, p11, p12, p13, p14, p15, p16, p17, p18, p19, p20, p21, p22⟩ := X0.out.use
  clear p5 p6 p7 p8 p9 p10 p11 p12 p13 p14 p15 p16 p17 p18 p19 p20 p21 p22
  have HC := Lib.hid (fits_any k.cm k.cd k.cr k.cw k.co (w.alloc (.cells #[.int .i64 k.cm, .int .i64 k.cd, .int .i64 k.cr, .int .i64 k.cw, .int .i64 k.co, .slice k.mA k.mn k.mc, .slice k.pA k.pn k.pc, .int .i64 k.here, .slice k.dA k.dn k.dc, .slice k.rA k.rn k.rc, .slice k.fA k.fn k.fc, .slice k.wA k.wn k.wc, .int .i64 k.last, .slice k.oA k.on k.oc, .slice k.qA k.qn k.qc, .bool k.qo, .slice k.eA k.en k.ec, .int .i64 k.free, .int .i64 k.next, .int .i64 k.arg, .int .i64 k.self, .int .i64 k.now, .slice k.hA k.hn k.hc] 37)))
  rw [E0.out] at HC
  go_wp2_with fail
  refine HC.out.mono ?_
  rintro e w1 ⟨rfl, bb⟩
  have X1 := Lib.hid (X0.out.keep bb)
  have V1 := Lib.hid (V0.out.keep bb)
  have B1 := Lib.hid (below_then B0.out bb)
  clear bb HC X0 V0 B0 p0 p1 p2 p3 p4
  cases F0 with
  | false =>
    go_wp2_with fail
    go_ret
    exact ⟨by rw [HF.out]; simp, B1.out⟩
  | true =>
    have HC := Lib.hid (memright_any k L _ V1.out)
    rw [E1.out] at HC
    go_wp2_with (refine wpList_vload (by rfl) _ rfl w.heap.size k rfl X1.out ?_)
    refine HC.out.mono ?_
    rintro e w2 ⟨rfl, bb⟩
    have X2 := Lib.hid (X1.out.keep bb)
    have V2 := Lib.hid (V1.out.keep bb)
    have B2 := Lib.hid (below_then B1.out bb)
    clear bb HC X1 V1 B1 
    cases F1 with
    | false =>
      go_wp2_with fail
      go_ret
      exact ⟨by rw [HF.out]; simp, B2.out⟩
    | true =>
      have HC := Lib.hid (stacksright_any k L _ V2.out)
      rw [E2.out] at HC
      go_wp2_with (refine wpList_vload (by rfl) _ rfl w.heap.size k rfl X2.out ?_)
      refine HC.out.mono ?_
      rintro e w3 ⟨rfl, bb⟩
      have X3 := Lib.hid (X2.out.keep bb)
      have V3 := Lib.hid (V2.out.keep bb)
      have B3 := Lib.hid (below_then B2.out bb)
      clear bb HC X2 V2 B2 
      cases F2 with
      | false =>
        go_wp2_with fail
        go_ret
        exact ⟨by rw [HF.out]; simp, B3.out⟩
      | true =>
        obtain ⟨p0, p1, p2, p3, p4, p5, p6, p7, p8, p9, p10, p11, p12, p13, p14, p15, p16, p17, p18, p19, p20, p21, p22⟩ := X3.out.use
        clear p0 p1 p2 p3 p4 p5 p6 p7 p8 p9 p10 p12 p13 p14 p15 p16 p17 p18 p19 p20 p21 p22
        have HC := Lib.hid (dright_any k.wA k.wn k.wc L.dict _ V3.out.dict HN.out)
        rw [E3.out] at HC
        go_wp2_with fail
        refine HC.out.mono ?_
        rintro e w4 ⟨rfl, bb⟩
        have X4 := Lib.hid (X3.out.keep bb)
        have V4 := Lib.hid (V3.out.keep bb)
        have B4 := Lib.hid (below_then B3.out bb)
        clear bb HC X3 V3 B3 p11
        cases F3 with
        | false =>
          go_wp2_with fail
          go_ret
          exact ⟨by rw [HF.out]; simp, B4.out⟩
        | true =>
          obtain ⟨p0, p1, p2, p3, p4, p5, p6, p7, p8, p9, p10, p11, p12, p13, p14, p15, p16, p17, p18, p19, p20, p21, p22⟩ := X4.out.use
          clear p0 p1 p2 p5 p6 p7 p8 p9 p10 p12 p16 p17 p18 p19 p20 p21 p22
          cases F4 with
          | false =>
            go_wp2_with fail
            go_ret
            exact ⟨by rw [HF.out]; simp, B4.out⟩
          | true =>
            have n4 : (k.wn : Int) ≤ k.cw := of_decide_eq_true e4
            cases F5 with
            | false =>
              go_wp2_with fail
              go_ret
              exact ⟨by rw [HF.out]; simp, B4.out⟩
            | true =>
              have n5 : (k.on : Int) ≤ k.co := of_decide_eq_true e5
              have HC := Lib.hid (right_any k.qA k.qn k.qc k.qo L.q _ V4.out.q)
              rw [E6.out] at HC
              go_wp2_with fail
              refine HC.out.mono ?_
              rintro e w5 ⟨rfl, bb⟩
              have X5 := Lib.hid (X4.out.keep bb)
              have V5 := Lib.hid (V4.out.keep bb)
              have B5 := Lib.hid (below_then B4.out bb)
              clear bb HC X4 V4 B4 p3 p4 p11 p13 p14 p15
              cases F6 with
              | false =>
                go_wp2_with fail
                go_ret
                exact ⟨by rw [HF.out]; simp, B5.out⟩
              | true =>
                obtain ⟨p0, p1, p2, p3, p4, p5, p6, p7, p8, p9, p10, p11, p12, p13, p14, p15, p16, p17, p18, p19, p20, p21, p22⟩ := X5.out.use
                clear p0 p1 p2 p3 p4 p5 p6 p7 p8 p9 p10 p11 p12 p13 p14 p15 p19 p20 p21
                cases F7 with
                | false =>
                  go_wp2_with fail
                  go_ret
                  exact ⟨by rw [HF.out]; simp, B5.out⟩
                | true =>
                  have n7 : (k.en : Int) ≤ 16 := of_decide_eq_true e7
                  have HI := Lib.hid (isfrom_is k.free 0 64 F8 E8.out)
                  have HJ := Lib.hid (isfrom_is k.next 0 4611686018427387904 F9 E9.out)
                  have HC := Lib.hid (handsright_any k.hA k.hn k.hc L.h _ V5.out.h)
                  rw [E10.out] at HC
                  go_wp2_with fail
                  refine (HI.out _).mono ?_
                  rintro e w9 ⟨rfl, rfl⟩
                  cases F8 with
                  | false =>
                    go_wp2_with fail
                    go_ret
                    exact ⟨by rw [HF.out]; simp, B5.out⟩
                  | true =>
                    go_wp2_with fail
                    refine (HJ.out _).mono ?_
                    rintro e w9 ⟨rfl, rfl⟩
                    cases F9 with
                    | false =>
                      go_wp2_with fail
                      go_ret
                      exact ⟨by rw [HF.out]; simp, B5.out⟩
                    | true =>
                      go_wp2_with fail
                      refine HC.out.mono ?_
                      rintro e w9 ⟨rfl, bb⟩
                      have B6 := Lib.hid (below_then B5.out bb)
                      clear bb
                      go_wp2_with fail
                      go_ret
                      exact ⟨by rw [HF.out]; simp, B6.out⟩
end Go.Proofs.YtbighilgkmfemaaDoor
