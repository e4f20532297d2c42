/- Contracts of the program's isMemoryRight, areStacksRight, areHandsRight. -/
import Derived.Test.YtbighilgkmfemaaDoorVmRight
import Derived.Test.YtbighilgkmfemaaDoorVmCodeB
namespace Go.Proofs.YtbighilgkmfemaaDoor
open Go.RowKit
set_option linter.unusedVariables false
set_option linter.unusedSimpArgs false

theorem isfrom_is (n a b : Int) (B : Bool) (h : decide (a ≤ n ∧ n ≤ b) = B) (w : World) : Calls Tryd.prog 23 #[.int .i64 n, .int .i64 a, .int .i64 b] w fun e w' => e = .returned (.bool B) ∧ w = w' := by
  rw [← h]
  exact isfrom_any n a b w
set_option maxRecDepth 100000 in
set_option maxHeartbeats 4000000 in
theorem memright_any (k : VmK) (L : VmL) (w : World) (h : IsVm w k L) :
    Calls Tryd.prog 47 #[vmV k] w fun e w' => e = .returned (.bool (rightB L.m && headB k)) ∧ Below w.heap.size w w' := by
  have kk := al_one w (.cells #[.int .i64 k.cm, .int .i64 k.cd, .int .i64 k.cr, .int .i64 k.cw, .int .i64 k.co, .slice k.mA k.mn k.mc, .slice k.pA k.pn k.pc, .int .i64 k.here, .slice k.dA k.dn k.dc, .slice k.rA k.rn k.rc, .slice k.fA k.fn k.fc, .slice k.wA k.wn k.wc, .int .i64 k.last, .slice k.oA k.on k.oc, .slice k.qA k.qn k.qc, .bool k.qo, .slice k.eA k.en k.ec, .int .i64 k.free, .int .i64 k.next, .int .i64 k.arg, .int .i64 k.self, .int .i64 k.now, .slice k.hA k.hn k.hc] 37)
  have B0 := Lib.hid kk
  have X0 := Lib.hid (vbox_new w k)
  have HC := Lib.hid (right_at k.mA k.pA k.mn k.mc k.pn k.pc L.m _ (Lib.hid (h.m.keep kk)))
  obtain ⟨F, hF⟩ : ∃ F, (rightB L.m && headB k) = F := ⟨_, rfl⟩
  have HF : Hid (F = (rightB L.m && headB k)) := hF.symm
  rw [hF]
  obtain ⟨F1, e1⟩ : ∃ F, rightB L.m = F := ⟨_, rfl⟩
  rw [e1] at HF HC
  clear hF e1 h kk
  go_enter Tryd.func47, Tryd.ntmps47
  go_wp2_with fail
  refine HC.out.mono ?_
  rintro e w1 ⟨rfl, bb⟩
  have XP := Lib.hid (X0.out.keep bb)
  have B1 := Lib.hid (below_then B0.out bb)
  clear bb HC
  obtain ⟨p0, p1, p2, p3, p4, p5, p6, p7, p8, p9, p10, p11, p12, p13, p14, p15, p16, p17, p18, p19, p20, p21, p22⟩ := XP.out.use
  clear p1 p2 p3 p4 p8 p9 p10 p11 p12 p13 p14 p15 p16 p17 p18 p19 p20 p21 p22
  cases F1 with
  | false =>
    go_wp2_with fail
    go_ret
    exact ⟨by rw [HF.out]; rfl, B1.out⟩
  | true =>
    by_cases t0 : (k.mn : Int) = k.cm
    · have t1 : ((k.mn : Int) == k.cm) = true := by simpa using t0
      have H2 : Hid (F = decide (1368 ≤ k.here ∧ k.here ≤ k.cm)) := by
        show _ = _
        rw [HF.out]
        unfold headB
        rw [Bool.eq_iff_iff]
        simp [t0]
      obtain ⟨G, hG⟩ : ∃ G, decide (1368 ≤ k.here ∧ k.here ≤ k.cm) = G := ⟨_, rfl⟩
      have HI := Lib.hid (isfrom_is k.here 1368 k.cm G hG)
      rw [hG] at H2
      clear t0 hG HF
      go_wp2_with (go_at_call 23; refine (HI.out _).mono ?_; rintro e w' ⟨rfl, rfl⟩)
      go_ret
      exact ⟨by rw [H2.out]; rfl, B1.out⟩
    · have t1 : ((k.mn : Int) == k.cm) = false := by simpa using t0
      have H2 : Hid (F = false) := by show _ = _; rw [HF.out]; unfold headB; simp [t0]
      clear t0 HF
      go_wp2_with fail
      go_ret
      exact ⟨by rw [H2.out]; rfl, B1.out⟩
set_option maxRecDepth 100000 in
set_option maxHeartbeats 4000000 in
theorem stacksright_any (k : VmK) (L : VmL) (w : World) (h : IsVm w k L) :
    Calls Tryd.prog 48 #[vmV k] w fun e w' => e = .returned (.bool (L.f.all frB && decide ((k.dn : Int) ≤ k.cd ∧ (k.rn : Int) ≤ k.cr ∧ k.fn ≤ 64))) ∧ Below w.heap.size w w' := by
  have kk := al_one w (.cells #[.int .i64 k.cm, .int .i64 k.cd, .int .i64 k.cr, .int .i64 k.cw, .int .i64 k.co, .slice k.mA k.mn k.mc, .slice k.pA k.pn k.pc, .int .i64 k.here, .slice k.dA k.dn k.dc, .slice k.rA k.rn k.rc, .slice k.fA k.fn k.fc, .slice k.wA k.wn k.wc, .int .i64 k.last, .slice k.oA k.on k.oc, .slice k.qA k.qn k.qc, .bool k.qo, .slice k.eA k.en k.ec, .int .i64 k.free, .int .i64 k.next, .int .i64 k.arg, .int .i64 k.self, .int .i64 k.now, .slice k.hA k.hn k.hc] 37)
  have B0 := Lib.hid kk
  have V0 := Lib.hid (h.keep kk)
  have X0 := Lib.hid (vbox_new w k)
  have HLF := Lib.hid h.f.len
  have hfb := rws_small h.f
  obtain ⟨F, hF⟩ : ∃ F, (L.f.all frB && decide ((k.dn : Int) ≤ k.cd ∧ (k.rn : Int) ≤ k.cr ∧ k.fn ≤ 64)) = F := ⟨_, rfl⟩
  have HF : Hid (F = (L.f.all frB && decide ((k.dn : Int) ≤ k.cd ∧ (k.rn : Int) ≤ k.cr ∧ k.fn ≤ 64))) := hF.symm
  rw [hF]
  obtain ⟨W, hW⟩ : ∃ W, W = w.alloc (.cells #[.int .i64 k.cm, .int .i64 k.cd, .int .i64 k.cr, .int .i64 k.cw, .int .i64 k.co, .slice k.mA k.mn k.mc, .slice k.pA k.pn k.pc, .int .i64 k.here, .slice k.dA k.dn k.dc, .slice k.rA k.rn k.rc, .slice k.fA k.fn k.fc, .slice k.wA k.wn k.wc, .int .i64 k.last, .slice k.oA k.on k.oc, .slice k.qA k.qn k.qc, .bool k.qo, .slice k.eA k.en k.ec, .int .i64 k.free, .int .i64 k.next, .int .i64 k.arg, .int .i64 k.self, .int .i64 k.now, .slice k.hA k.hn k.hc] 37) := ⟨_, rfl⟩
  rw [← hW] at B0 V0 X0
  have HW0 := Lib.hid hW
  clear hF h kk hW
  go_enter Tryd.func48, Tryd.ntmps48
  go_upto_region 1 with fail
  rw [← HW0.out]
  obtain ⟨p0, p1, p2, p3, p4, p5, p6, p7, p8, p9, p10, p11, p12, p13, p14, p15, p16, p17, p18, p19, p20, p21, p22⟩ := X0.out.use
  clear p0 p1 p2 p3 p4 p5 p6 p7 p8 p9 p11 p12 p13 p14 p15 p16 p17 p18 p19 p20 p21 p22
  obtain ⟨fa, hfa⟩ : ∃ fa, k.fA = fa := ⟨_, rfl⟩
  rw [hfa] at p10
  have HFM : Hid (Fms W (.slice fa k.fn k.fc) L.f) := by show Fms _ _ _; rw [← hfa]; exact V0.out.f
  clear hfa
  go_wp2_with fail
  clear p10
  go_loopw [8] (fun s7 wr => ∃ (i : Nat), s7 = .int .i64 (i : Int) ∧ i ≤ k.fn ∧ Hid ((L.f.take i).all frB = true) ∧ Hid (Below W.heap.size W wr)) (fun s7 _ => k.fn - (intOf s7).toNat)
  case atStart => exact ⟨0, rfl, Nat.zero_le _, Lib.hid rfl, Lib.hid (Below.refl _ _)⟩
  case round =>
    obtain ⟨i, rfl, hi, HT, HW⟩ := hrel
    have XR := Lib.hid (X0.out.keep HW.out)
    obtain ⟨p0, p1, p2, p3, p4, p5, p6, p7, p8, p9, p10, p11, p12, p13, p14, p15, p16, p17, p18, p19, p20, p21, p22⟩ := XR.out.use
    by_cases hif : i < k.fn
    · have hif' : (i : Int) < (k.fn : Int) := by omega
      obtain ⟨g, o, hA, c1, c2, c3⟩ := fm_cells (HFM.out.keep HW.out) (k := i) (by have := HLF.out; omega)
      have hq : L.f[i]? = some (L.f[i]'(by have := HLF.out; omega)) := List.getElem?_eq_getElem _
      obtain ⟨q, eq⟩ : ∃ q, L.f[i]'(by have := HLF.out; omega) = q := ⟨_, rfl⟩
      rw [eq] at c1 c2 c3 hq
      clear p0 p1 p2 p3 p4 p5 p6 p7 p8 p9 p10 p11 p12 p13 p14 p15 p16 p17 p18 p19 p20 p21 p22
      subst hA
      have HQ := Lib.hid hq
      have HBW := Lib.hid (below_then B0.out HW.out)
      have HA := Lib.hid (al_one wr (.cells #[.int .i64 q.d, .int .i64 q.r, .int .i64 q.ip] 73))
      obtain ⟨G, hG⟩ : ∃ G, decide (0 ≤ q.d ∧ q.d ≤ 256) = G := ⟨_, rfl⟩
      obtain ⟨K, hK⟩ : ∃ K, decide (0 ≤ q.r ∧ q.r ≤ 256) = K := ⟨_, rfl⟩
      have HG := Lib.hid (isfrom_is q.d 0 256 G hG)
      have HK := Lib.hid (isfrom_is q.r 0 256 K hK)
      have HB : Hid (frB q = (G && K)) := by
        show _ = _
        rw [← hG, ← hK]
        unfold frB
        rw [Bool.eq_iff_iff]
        simp only [decide_eq_true_eq, Bool.and_eq_true]
        omega
      clear hq eq hG hK
      cases G with
      | false =>
        have H6 : Hid (F = false) := by show _ = _; rw [HF.out, vall_no HQ.out HB.out]; rfl
        go_wp2_with fail
        refine (HG.out _).mono ?_
        rintro e w9 ⟨rfl, rfl⟩
        go_wp2_with fail
        go_ret
        exact ⟨by rw [H6.out]; rfl, below_then HBW.out HA.out⟩
      | true =>
        cases K with
        | false =>
          have H6 : Hid (F = false) := by show _ = _; rw [HF.out, vall_no HQ.out HB.out]; rfl
          go_wp2_with fail
          refine (HG.out _).mono ?_
          rintro e w9 ⟨rfl, rfl⟩
          go_wp2_with fail
          refine (HK.out _).mono ?_
          rintro e w8 ⟨rfl, rfl⟩
          go_wp2_with fail
          go_ret
          exact ⟨by rw [H6.out]; rfl, below_then HBW.out HA.out⟩
        | true =>
          have HT2 := Lib.hid (vall_take HT.out HQ.out HB.out)
          go_wp2_with fail
          refine (HG.out _).mono ?_
          rintro e w9 ⟨rfl, rfl⟩
          go_wp2_with fail
          refine (HK.out _).mono ?_
          rintro e w8 ⟨rfl, rfl⟩
          go_wp2_with fail
          go_roundw
          case rel => exact ⟨i + 1, by simp, by omega, HT2, Lib.hid (below_then HW.out HA.out)⟩
          case measure => simp [intOf]; omega
    · obtain rfl : i = k.fn := by omega
      rw [show L.f.take k.fn = L.f by rw [← HLF.out, List.take_length]] at HT
      have H6 : Hid (F = decide ((k.dn : Int) ≤ k.cd ∧ (k.rn : Int) ≤ k.cr ∧ k.fn ≤ 64)) := by show _ = _; rw [HF.out, HT.out]; rfl
      have B5 := Lib.hid (below_then B0.out HW.out)
      clear hif hi HF HT
      clear p0 p3 p4 p5 p6 p7 p11 p12 p13 p14 p15 p16 p17 p18 p19 p20 p21 p22
      by_cases t0 : (k.dn : Int) ≤ k.cd
      · by_cases t1 : (k.rn : Int) ≤ k.cr
        · have H7 : Hid (F = decide ((k.fn : Int) ≤ 64)) := by show _ = _; rw [H6.out, decide_eq_decide]; omega
          go_wp2_with fail
          go_ret
          exact ⟨by rw [H7.out]; rfl, B5.out⟩
        · have H7 : Hid (F = false) := by show _ = _; rw [H6.out, decide_eq_false_iff_not]; omega
          have u1 : decide ((k.rn : Int) ≤ k.cr) = false := by simp; omega
          clear t1
          go_wp2_with fail
          go_ret
          exact ⟨by rw [H7.out]; rfl, B5.out⟩
      · have H7 : Hid (F = false) := by show _ = _; rw [H6.out, decide_eq_false_iff_not]; omega
        have u1 : decide ((k.dn : Int) ≤ k.cd) = false := by simp; omega
        clear t0
        go_wp2_with fail
        go_ret
        exact ⟨by rw [H7.out]; rfl, B5.out⟩
set_option maxRecDepth 100000 in
set_option maxHeartbeats 4000000 in
theorem handsright_any (A : Option Addr) (n c : Nat) (l : List Hn) (w : World) (h : Hns w (.slice A n c) l) :
    Calls Tryd.prog 51 #[.slice A n c] w fun e w' => e = .returned (.bool (l.all hnB && decide (n ≤ 64))) ∧ Below w.heap.size w w' := by
  have V0 := Lib.hid h
  have HLH := Lib.hid h.len
  have hhb := rws_small h
  obtain ⟨F, hF⟩ : ∃ F, (l.all hnB && decide (n ≤ 64)) = F := ⟨_, rfl⟩
  have HF : Hid (F = (l.all hnB && decide (n ≤ 64))) := hF.symm
  rw [hF]
  clear hF h
  go_enter Tryd.func51, Tryd.ntmps51
  go_wp2_with fail
  go_loopw [7] (fun s7 wr => ∃ (i : Nat), s7 = .int .i64 (i : Int) ∧ i ≤ n ∧ Hid ((l.take i).all hnB = true) ∧ Hid (Below w.heap.size w wr)) (fun s7 _ => n - (intOf s7).toNat)
  case atStart => exact ⟨0, rfl, Nat.zero_le _, Lib.hid rfl, Lib.hid (Below.refl _ _)⟩
  case round =>
    obtain ⟨i, rfl, hi, HT, HW⟩ := hrel
    by_cases hif : i < n
    · have hif' : (i : Int) < (n : Int) := by omega
      obtain ⟨g, o, hA, c1, c2, c3, c4⟩ := hn_cells (V0.out.keep HW.out) (k := i) (by have := HLH.out; omega)
      have hq : l[i]? = some (l[i]'(by have := HLH.out; omega)) := List.getElem?_eq_getElem _
      obtain ⟨q, eq⟩ : ∃ q, l[i]'(by have := HLH.out; omega) = q := ⟨_, rfl⟩
      rw [eq] at c1 c2 c3 c4 hq
      subst hA
      have HQ := Lib.hid hq
      have HA := Lib.hid (al_one wr (.cells #[.int .i64 q.xt, .int .i64 q.fuel, .int .i64 q.strikes, .bool q.out] 75))
      clear hq eq
      by_cases m0 : q.fuel < 0
      · have H6 : Hid (F = false) := by show _ = _; rw [HF.out, vall_no HQ.out (by unfold hnB; rw [decide_eq_false_iff_not]; omega)]; rfl
        go_wp2_with fail
        go_ret
        exact ⟨by rw [H6.out]; rfl, below_then HW.out HA.out⟩
      · have n0 : decide (q.fuel < 0) = false := by simp; omega
        have HT2 := Lib.hid (vall_take HT.out HQ.out (by unfold hnB; rw [decide_eq_true_eq]; omega))
        clear m0
        go_wp2_with fail
        go_roundw
        case rel => exact ⟨i + 1, by simp, by omega, HT2, Lib.hid (below_then HW.out HA.out)⟩
        case measure => simp [intOf]; omega
    · obtain rfl : i = n := by omega
      rw [show l.take i = l by rw [← HLH.out, List.take_length]] at HT
      have H6 : Hid (F = decide ((i : Int) ≤ 64)) := by show _ = _; rw [HF.out, HT.out, Bool.true_and, decide_eq_decide]; omega
      clear hif hi HF HT
      go_wp2_with fail
      go_ret
      exact ⟨by rw [H6.out]; rfl, HW.out⟩
end Go.Proofs.YtbighilgkmfemaaDoor
