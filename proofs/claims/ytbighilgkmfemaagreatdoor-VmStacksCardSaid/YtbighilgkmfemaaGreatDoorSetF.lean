/- What the laws of this stage lean on, part 6: VmRight, VmMay, VmCmpFm, VmCmpRq, VmCmpHn, VmSame. -/
import Derived.Test.YtbighilgkmfemaaGreatDoorSetE
import Derived.Test.YtbighilgkmfemaaGreatDoorSetD
import Derived.Test.YtbighilgkmfemaaGreatDoorSetC
import Derived.Test.YtbighilgkmfemaaGreatDoorSetB

/- Which machines are right: the document's Right. -/
namespace Go.Proofs.YtbighilgkmfemaaGreatDoor
open Go.RowKit
set_option linter.unusedVariables false
set_option linter.unusedSimpArgs false

def headB (k : VmK) : Bool := decide ((k.mn : Int) = k.cm ∧ 1368 ≤ k.here ∧ k.here ≤ k.cm)
def frB (q : Fm) : Bool := decide (0 ≤ q.d ∧ q.d ≤ 256 ∧ 0 ≤ q.r ∧ q.r ≤ 256)
def hnB (q : Hn) : Bool := decide (0 ≤ q.fuel)
def tailB (k : VmK) : Bool := decide ((k.dn : Int) ≤ k.cd ∧ (k.rn : Int) ≤ k.cr ∧ k.fn ≤ 64 ∧ (k.wn : Int) ≤ k.cw ∧ (k.on : Int) ≤ k.co ∧ k.en ≤ 16 ∧ 0 ≤ k.free ∧ k.free ≤ 64 ∧ 0 ≤ k.next ∧ k.next ≤ 4611686018427387904 ∧ k.hn ≤ 64)
def fitsV (k : VmK) : Bool := fitsB k.cm k.cd k.cr k.cw k.co
/-- Is a machine right? -/
def vRight (k : VmK) (L : VmL) : Bool := fitsV k && (rightB L.m && (dRight L.dict && (pRight k.qo L.q && (headB k && (L.f.all frB && (L.h.all hnB && tailB k))))))
theorem rws_small {α : Type} {enc : α → List Value} {w : World} {A : Option Addr} {n c : Nat} {l : List α} (h : Rws enc w (.slice A n c) l) : n ≤ 9223372036854775807 := by
  have hl := h.len
  obtain ⟨A', c', e, h1, h2, _⟩ := h
  injection e with e1 e2 e3
  unfold maxLen at h2
  omega
theorem vall_take {α : Type} {p : α → Bool} {l : List α} {k : Nat} {c : α} (h : (l.take k).all p = true) (hc : l[k]? = some c) (hp : p c = true) : (l.take (k + 1)).all p = true := by
  rw [List.take_add_one, hc, List.all_append, h]
  simp [hp]
theorem vall_no {α : Type} {p : α → Bool} {l : List α} {k : Nat} {c : α} (hc : l[k]? = some c) (hp : p c = false) : l.all p = false := by
  rw [List.all_eq_false]
  exact ⟨c, List.mem_of_getElem? hc, by simp [hp]⟩
set_option maxRecDepth 100000 in
set_option maxHeartbeats 16000000 in
theorem rvright_any (k : VmK) (L : VmL) (w : World) (HN : Hid (k.wn ≤ 1000000)) (h : IsVm w k L) :
    Calls Tryz.prog 21 #[vmV k] w fun e w' => e = .returned (.bool (vRight k L)) ∧ Below w.heap.size w w' := by
  have kk := al_one w (.cells #[.int .i64 k.cm, .int .i64 k.cd, .int .i64 k.cr, .int .i64 k.cw, .int .i64 k.co, .slice k.mA k.mn k.mc, .slice k.pA k.pn k.pc, .int .i64 k.here, .slice k.dA k.dn k.dc, .slice k.rA k.rn k.rc, .slice k.fA k.fn k.fc, .slice k.wA k.wn k.wc, .int .i64 k.last, .slice k.oA k.on k.oc, .slice k.qA k.qn k.qc, .bool k.qo, .slice k.eA k.en k.ec, .int .i64 k.free, .int .i64 k.next, .int .i64 k.arg, .int .i64 k.self, .int .i64 k.now, .slice k.hA k.hn k.hc] 36)
  have HB := Lib.hid kk
  have HV := Lib.hid (h.keep kk)
  have HP := Lib.hid (vbox_new w k)
  obtain ⟨F, hF⟩ : ∃ F, vRight k L = F := ⟨_, rfl⟩
  have HF : Hid (F = vRight k L) := hF.symm
  rw [hF]
  have HC := Lib.hid (rfits_any k.cm k.cd k.cr k.cw k.co (w.alloc (.cells #[.int .i64 k.cm, .int .i64 k.cd, .int .i64 k.cr, .int .i64 k.cw, .int .i64 k.co, .slice k.mA k.mn k.mc, .slice k.pA k.pn k.pc, .int .i64 k.here, .slice k.dA k.dn k.dc, .slice k.rA k.rn k.rc, .slice k.fA k.fn k.fc, .slice k.wA k.wn k.wc, .int .i64 k.last, .slice k.oA k.on k.oc, .slice k.qA k.qn k.qc, .bool k.qo, .slice k.eA k.en k.ec, .int .i64 k.free, .int .i64 k.next, .int .i64 k.arg, .int .i64 k.self, .int .i64 k.now, .slice k.hA k.hn k.hc] 36)))
  obtain ⟨F1, e1⟩ : ∃ F, fitsB k.cm k.cd k.cr k.cw k.co = F := ⟨_, rfl⟩
  rw [e1] at HC
  have H1 : Hid (fitsV k = F1) := e1
  have hf := h.f.len
  have hh := h.h.len
  have HLF := Lib.hid hf
  have HLH := Lib.hid hh
  clear h kk hF e1 hf hh
  go_enter Tryz.func21, Tryz.ntmps21
  go_wp2_with fail
  refine HC.out.mono ?_
  rintro e w1 ⟨rfl, bb⟩
  have X1 := Lib.hid (HP.out.keep bb)
  have V1 := Lib.hid (HV.out.keep bb)
  have B1 := Lib.hid (below_then HB.out bb)
  clear bb HC HV HP HB
  obtain ⟨p0, p1, p2, p3, p4, p5, p6, p7, p8, p9, p10, p11, p12, p13, p14, p15, p16, p17, p18, p19, p20, p21, p22⟩ := X1.out.use
  have HC := Lib.hid (rright_at k.mA k.pA k.mn k.mc k.pn k.pc L.m _ (Lib.hid V1.out.m))
  obtain ⟨F2, ef⟩ : ∃ F, rightB L.m = F := ⟨_, rfl⟩
  rw [ef] at HC
  have H2 := Lib.hid ef
  clear ef
  go_wp2_with fail
  refine HC.out.mono ?_
  rintro e w2 ⟨rfl, bb⟩
  have X2 := Lib.hid (X1.out.keep bb)
  have V2 := Lib.hid (V1.out.keep bb)
  have B2 := Lib.hid (below_then B1.out bb)
  clear bb HC X1 V1 B1 p0 p1 p2 p3 p4 p5 p6 p7 p8 p9 p10 p11 p12 p13 p14 p15 p16 p17 p18 p19 p20 p21 p22
  obtain ⟨p0, p1, p2, p3, p4, p5, p6, p7, p8, p9, p10, p11, p12, p13, p14, p15, p16, p17, p18, p19, p20, p21, p22⟩ := X2.out.use
  have HC := Lib.hid (rright_anyL k.wA k.wn k.wc L.dict _ V2.out.dict (by have := HN.out; omega))
  obtain ⟨F3, ef⟩ : ∃ F, dRight L.dict = F := ⟨_, rfl⟩
  rw [ef] at HC
  have H3 := Lib.hid ef
  clear ef
  go_wp2_with fail
  refine HC.out.mono ?_
  rintro e w3 ⟨rfl, bb⟩
  have X3 := Lib.hid (X2.out.keep bb)
  have V3 := Lib.hid (V2.out.keep bb)
  have B3 := Lib.hid (below_then B2.out bb)
  clear bb HC X2 V2 B2 p0 p1 p2 p3 p4 p5 p6 p7 p8 p9 p10 p11 p12 p13 p14 p15 p16 p17 p18 p19 p20 p21 p22
  obtain ⟨p0, p1, p2, p3, p4, p5, p6, p7, p8, p9, p10, p11, p12, p13, p14, p15, p16, p17, p18, p19, p20, p21, p22⟩ := X3.out.use
  have HC := Lib.hid (rright_any k.qA k.qn k.qc k.qo L.q _ V3.out.q)
  obtain ⟨F4, ef⟩ : ∃ F, pRight k.qo L.q = F := ⟨_, rfl⟩
  rw [ef] at HC
  have H4 := Lib.hid ef
  clear ef
  go_wp2_with fail
  refine HC.out.mono ?_
  rintro e w4 ⟨rfl, bb⟩
  have X4 := Lib.hid (X3.out.keep bb)
  have V4 := Lib.hid (V3.out.keep bb)
  have B4 := Lib.hid (below_then B3.out bb)
  clear bb HC X3 V3 B3 p0 p1 p2 p3 p4 p5 p6 p7 p8 p9 p10 p11 p12 p13 p14 p15 p16 p17 p18 p19 p20 p21 p22
  obtain ⟨p0, p1, p2, p3, p4, p5, p6, p7, p8, p9, p10, p11, p12, p13, p14, p15, p16, p17, p18, p19, p20, p21, p22⟩ := X4.out.use
  cases F1 with
  | false =>
    go_wp2
    all_goals go_ret
    all_goals exact ⟨ret_bool (by rw [HF.out]; unfold vRight; rw [H1.out]; rfl), B4.out⟩
  | true =>
    cases F2 with
    | false =>
      go_wp2
      all_goals go_ret
      all_goals exact ⟨ret_bool (by rw [HF.out]; unfold vRight; rw [H1.out, H2.out]; rfl), B4.out⟩
    | true =>
      cases F3 with
      | false =>
        go_wp2
        all_goals go_ret
        all_goals exact ⟨ret_bool (by rw [HF.out]; unfold vRight; rw [H1.out, H2.out, H3.out]; rfl), B4.out⟩
      | true =>
        cases F4 with
        | false =>
          go_wp2
          all_goals go_ret
          all_goals exact ⟨ret_bool (by rw [HF.out]; unfold vRight; rw [H1.out, H2.out, H3.out, H4.out]; rfl), B4.out⟩
        | true =>
          cases hd : headB k with
          | false =>
            have H5 := Lib.hid hd
            have hn : ¬ ((k.mn : Int) = k.cm ∧ 1368 ≤ k.here ∧ k.here ≤ k.cm) := by unfold headB at hd; simpa using hd
            by_cases g1 : (k.mn : Int) = k.cm
            · have g1a : ((k.mn : Int) != k.cm) = false := by simp [g1]
              have g1b : ((k.mn : Int) == k.cm) = true := by simp [g1]
              by_cases g2 : k.here < 1368
              · clear hn hd g1
                go_wp2
                all_goals go_ret
                all_goals exact ⟨ret_bool (by rw [HF.out]; unfold vRight; rw [H1.out, H2.out, H3.out, H4.out, H5.out]; rfl), B4.out⟩
              · have g2a : decide (k.here < 1368) = false := by simp; omega
                have g3 : k.cm < k.here := by omega
                clear hn hd g1 g2
                go_wp2
                all_goals go_ret
                all_goals exact ⟨ret_bool (by rw [HF.out]; unfold vRight; rw [H1.out, H2.out, H3.out, H4.out, H5.out]; rfl), B4.out⟩
            · have g1a : ((k.mn : Int) != k.cm) = true := by simpa using g1
              have g1b : ((k.mn : Int) == k.cm) = false := by simpa using g1
              clear hn hd g1
              go_wp2
              all_goals go_ret
              all_goals exact ⟨ret_bool (by rw [HF.out]; unfold vRight; rw [H1.out, H2.out, H3.out, H4.out, H5.out]; rfl), B4.out⟩
          | true =>
            have H5 := Lib.hid hd
            have hy : (k.mn : Int) = k.cm ∧ 1368 ≤ k.here ∧ k.here ≤ k.cm := by unfold headB at hd; simpa using hd
            have g1a : ((k.mn : Int) != k.cm) = false := by simp [hy.1]
            have g1b : ((k.mn : Int) == k.cm) = true := by simp [hy.1]
            have g2a : decide (k.here < 1368) = false := by simp; omega
            have g3a : decide (k.cm < k.here) = false := by simp; omega
            clear hd hy
            go_wp2_with fail
            have hfb := rws_small V4.out.f
            clear p0 p1 p2 p3 p4 p5 p6 p7 p8 p9 p10 p11 p12 p13 p14 p15 p16 p17 p18 p19 p20 p21 p22
            go_loopw [7] (fun s7 wr => ∃ (i : Nat), s7 = .int .i64 (i : Int) ∧ i ≤ k.fn ∧ Hid ((L.f.take i).all frB = true) ∧ Hid (Below w4.heap.size w4 wr)) (fun s7 _ => k.fn - (intOf s7).toNat)
            case atStart => exact ⟨0, rfl, Nat.zero_le _, Lib.hid rfl, Lib.hid (Below.refl _ _)⟩
            case round =>
              obtain ⟨i, rfl, hi, HT, HW⟩ := hrel
              have XR := Lib.hid (X4.out.keep HW.out)
              obtain ⟨p0, p1, p2, p3, p4, p5, p6, p7, p8, p9, p10, p11, p12, p13, p14, p15, p16, p17, p18, p19, p20, p21, p22⟩ := XR.out.use
              by_cases hif : i < k.fn
              · have hif' : (i : Int) < (k.fn : Int) := by omega
                obtain ⟨g, o, hA, c1, c2, c3⟩ := fm_cells (V4.out.f.keep HW.out) (k := i) (by have := HLF.out; omega)
                have hq : L.f[i]? = some (L.f[i]'(by have := HLF.out; omega)) := List.getElem?_eq_getElem _
                obtain ⟨q, eq⟩ : ∃ q, L.f[i]'(by have := HLF.out; omega) = q := ⟨_, rfl⟩
                rw [eq] at c1 c2 c3 hq
                rw [hA] at p10
                have HQ := Lib.hid hq
                have HBW := Lib.hid (below_then B4.out HW.out)
                clear hA hq eq
                cases hb : frB q with
                | true =>
                  have hb' : 0 ≤ q.d ∧ q.d ≤ 256 ∧ 0 ≤ q.r ∧ q.r ≤ 256 := by unfold frB at hb; simpa using hb
                  have HT2 := Lib.hid (vall_take HT.out HQ.out hb)
                  have n_0 : decide (q.d < 0) = false := by simp; omega
                  have n_1 : decide (256 < q.d) = false := by simp; omega
                  have n_2 : decide (q.r < 0) = false := by simp; omega
                  have n_3 : decide (256 < q.r) = false := by simp; omega
                  clear hb hb' HT
                  go_wp2_with fail
                  go_roundw
                  case rel => exact ⟨i + 1, by simp, by omega, HT2, HW⟩
                  case measure => simp [intOf]; omega
                | false =>
                  have hb' : ¬ (0 ≤ q.d ∧ q.d ≤ 256 ∧ 0 ≤ q.r ∧ q.r ≤ 256) := by unfold frB at hb; simpa using hb
                  have H6 : Hid (F = false) := by show _ = _; rw [HF.out]; unfold vRight; rw [H1.out, H2.out, H3.out, H4.out, H5.out, vall_no HQ.out hb]; rfl
                  clear hb HT
                  by_cases m0 : q.d < 0
                  · clear hb'
                    go_wp2_with fail
                    go_ret
                    exact ⟨ret_bool H6.out.symm, HBW.out⟩
                  · have n_0 : decide (q.d < 0) = false := by simp; omega
                    by_cases m1 : 256 < q.d
                    · clear hb'
                      go_wp2_with fail
                      go_ret
                      exact ⟨ret_bool H6.out.symm, HBW.out⟩
                    · have n_1 : decide (256 < q.d) = false := by simp; omega
                      by_cases m2 : q.r < 0
                      · clear hb'
                        go_wp2_with fail
                        go_ret
                        exact ⟨ret_bool H6.out.symm, HBW.out⟩
                      · have n_2 : decide (q.r < 0) = false := by simp; omega
                        have m3 : 256 < q.r := by omega
                        clear hb'
                        go_wp2_with fail
                        go_ret
                        exact ⟨ret_bool H6.out.symm, HBW.out⟩
              · obtain rfl : i = k.fn := by omega
                rw [show L.f.take k.fn = L.f by rw [← HLF.out, List.take_length]] at HT
                have X5 := XR
                have V5 := Lib.hid (V4.out.keep HW.out)
                have B5 := Lib.hid (below_then B4.out HW.out)
                have H6 := HT
                have hhb := rws_small V4.out.h
                clear hif hi HW XR HT X4 V4 B4
                go_wp2_with fail
                clear p0 p1 p2 p3 p4 p5 p6 p7 p8 p9 p10 p11 p12 p13 p14 p15 p16 p17 p18 p19 p20 p21 p22
                go_loopw [8] (fun s7 wz => ∃ (i : Nat), s7 = .int .i64 (i : Int) ∧ i ≤ k.hn ∧ Hid ((L.h.take i).all hnB = true) ∧ Hid (Below wr.heap.size wr wz)) (fun s7 _ => k.hn - (intOf s7).toNat)
                case atStart => exact ⟨0, rfl, Nat.zero_le _, Lib.hid rfl, Lib.hid (Below.refl _ _)⟩
                case round =>
                  obtain ⟨i, rfl, hi, HT, HW⟩ := hrel
                  have XR := Lib.hid (X5.out.keep HW.out)
                  obtain ⟨p0, p1, p2, p3, p4, p5, p6, p7, p8, p9, p10, p11, p12, p13, p14, p15, p16, p17, p18, p19, p20, p21, p22⟩ := XR.out.use
                  by_cases hif : i < k.hn
                  · have hif' : (i : Int) < (k.hn : Int) := by omega
                    obtain ⟨g, o, hA, c1, c2, c3, c4⟩ := hn_cells (V5.out.h.keep HW.out) (k := i) (by have := HLH.out; omega)
                    have hq : L.h[i]? = some (L.h[i]'(by have := HLH.out; omega)) := List.getElem?_eq_getElem _
                    obtain ⟨q, eq⟩ : ∃ q, L.h[i]'(by have := HLH.out; omega) = q := ⟨_, rfl⟩
                    rw [eq] at c1 c2 c3 c4 hq
                    rw [hA] at p22
                    have HQ := Lib.hid hq
                    have HBW := Lib.hid (below_then B5.out HW.out)
                    clear hA hq eq
                    cases hb : hnB q with
                    | true =>
                      have hb' : 0 ≤ q.fuel := by unfold hnB at hb; simpa using hb
                      have HT2 := Lib.hid (vall_take HT.out HQ.out hb)
                      have n_0 : decide (q.fuel < 0) = false := by simp; omega
                      clear hb hb' HT
                      go_wp2_with fail
                      go_roundw
                      case rel => exact ⟨i + 1, by simp, by omega, HT2, HW⟩
                      case measure => simp [intOf]; omega
                    | false =>
                      have hb' : ¬ (0 ≤ q.fuel) := by unfold hnB at hb; simpa using hb
                      have H6 : Hid (F = false) := by show _ = _; rw [HF.out]; unfold vRight; rw [H1.out, H2.out, H3.out, H4.out, H5.out, H6.out, vall_no HQ.out hb]; rfl
                      clear hb HT
                      have m0 : q.fuel < 0 := by omega
                      clear hb'
                      go_wp2_with fail
                      go_ret
                      exact ⟨ret_bool H6.out.symm, HBW.out⟩
                  · obtain rfl : i = k.hn := by omega
                    rw [show L.h.take k.hn = L.h by rw [← HLH.out, List.take_length]] at HT
                    have H8 : Hid (F = tailB k) := by show _ = _; rw [HF.out]; unfold vRight; rw [H1.out, H2.out, H3.out, H4.out, H5.out, H6.out, HT.out]; rfl
                    have B6 := Lib.hid (below_then B5.out HW.out)
                    clear hif hi HT HF H1 H2 H3 H4 H5 H6 HLF HLH
                    go_upto_region 17 with fail
                    simp only [List.append_eq, List.cons_append, List.nil_append]
                    by_cases t0 : (k.dn : Int) ≤ k.cd
                    · skip
                      by_cases t1 : (k.rn : Int) ≤ k.cr
                      · skip
                        by_cases t2 : (k.fn : Int) ≤ 64
                        · skip
                          by_cases t3 : (k.wn : Int) ≤ k.cw
                          · skip
                            by_cases t4 : (k.on : Int) ≤ k.co
                            · skip
                              by_cases t5 : (k.en : Int) ≤ 16
                              · skip
                                by_cases t6 : 0 ≤ k.free
                                · skip
                                  by_cases t7 : k.free ≤ 64
                                  · skip
                                    by_cases t8 : 0 ≤ k.next
                                    · skip
                                      by_cases t9 : k.next ≤ 4611686018427387904
                                      · skip
                                        by_cases t10 : (k.hn : Int) ≤ 64
                                        · skip
                                          have H9 : Hid (F = true) := by show _ = _; rw [H8.out]; unfold tailB; rw [decide_eq_true_eq]; omega
                                          go_wp2_with fail
                                          go_ret
                                          exact ⟨ret_bool H9.out.symm, B6.out⟩
                                        · have H9 : Hid (F = false) := by show _ = _; rw [H8.out]; unfold tailB; rw [decide_eq_false_iff_not]; omega
                                          have u10 : decide ((k.hn : Int) ≤ 64) = false := by simp; omega
                                          clear t10
                                          go_wp2_with fail
                                          go_ret
                                          exact ⟨ret_bool H9.out.symm, B6.out⟩
                                      · have H9 : Hid (F = false) := by show _ = _; rw [H8.out]; unfold tailB; rw [decide_eq_false_iff_not]; omega
                                        have u9 : decide (k.next ≤ 4611686018427387904) = false := by simp; omega
                                        clear t9
                                        go_wp2_with fail
                                        go_ret
                                        exact ⟨ret_bool H9.out.symm, B6.out⟩
                                    · have H9 : Hid (F = false) := by show _ = _; rw [H8.out]; unfold tailB; rw [decide_eq_false_iff_not]; omega
                                      have u8 : decide (0 ≤ k.next) = false := by simp; omega
                                      clear t8
                                      go_wp2_with fail
                                      go_ret
                                      exact ⟨ret_bool H9.out.symm, B6.out⟩
                                  · have H9 : Hid (F = false) := by show _ = _; rw [H8.out]; unfold tailB; rw [decide_eq_false_iff_not]; omega
                                    have u7 : decide (k.free ≤ 64) = false := by simp; omega
                                    clear t7
                                    go_wp2_with fail
                                    go_ret
                                    exact ⟨ret_bool H9.out.symm, B6.out⟩
                                · have H9 : Hid (F = false) := by show _ = _; rw [H8.out]; unfold tailB; rw [decide_eq_false_iff_not]; omega
                                  have u6 : decide (0 ≤ k.free) = false := by simp; omega
                                  clear t6
                                  go_wp2_with fail
                                  go_ret
                                  exact ⟨ret_bool H9.out.symm, B6.out⟩
                              · have H9 : Hid (F = false) := by show _ = _; rw [H8.out]; unfold tailB; rw [decide_eq_false_iff_not]; omega
                                have u5 : decide ((k.en : Int) ≤ 16) = false := by simp; omega
                                clear t5
                                go_wp2_with fail
                                go_ret
                                exact ⟨ret_bool H9.out.symm, B6.out⟩
                            · have H9 : Hid (F = false) := by show _ = _; rw [H8.out]; unfold tailB; rw [decide_eq_false_iff_not]; omega
                              have u4 : decide ((k.on : Int) ≤ k.co) = false := by simp; omega
                              clear t4
                              go_wp2_with fail
                              go_ret
                              exact ⟨ret_bool H9.out.symm, B6.out⟩
                          · have H9 : Hid (F = false) := by show _ = _; rw [H8.out]; unfold tailB; rw [decide_eq_false_iff_not]; omega
                            have u3 : decide ((k.wn : Int) ≤ k.cw) = false := by simp; omega
                            clear t3
                            go_wp2_with fail
                            go_ret
                            exact ⟨ret_bool H9.out.symm, B6.out⟩
                        · have H9 : Hid (F = false) := by show _ = _; rw [H8.out]; unfold tailB; rw [decide_eq_false_iff_not]; omega
                          have u2 : decide ((k.fn : Int) ≤ 64) = false := by simp; omega
                          clear t2
                          go_wp2_with fail
                          go_ret
                          exact ⟨ret_bool H9.out.symm, B6.out⟩
                      · have H9 : Hid (F = false) := by show _ = _; rw [H8.out]; unfold tailB; rw [decide_eq_false_iff_not]; omega
                        have u1 : decide ((k.rn : Int) ≤ k.cr) = false := by simp; omega
                        clear t1
                        go_wp2_with fail
                        go_ret
                        exact ⟨ret_bool H9.out.symm, B6.out⟩
                    · have H9 : Hid (F = false) := by show _ = _; rw [H8.out]; unfold tailB; rw [decide_eq_false_iff_not]; omega
                      have u0 : decide ((k.dn : Int) ≤ k.cd) = false := by simp; omega
                      clear t0
                      go_wp2_with fail
                      go_ret
                      exact ⟨ret_bool H9.out.symm, B6.out⟩
end Go.Proofs.YtbighilgkmfemaaGreatDoor

/- Right, and not too much: the document's May. -/
namespace Go.Proofs.YtbighilgkmfemaaGreatDoor
open Go.RowKit
set_option linter.unusedVariables false
set_option linter.unusedSimpArgs false

theorem wpList_vload {ops : Array Oper} {rest : List Oper} {o : Oper} {a : Act} {Q : Exit → Act → World → Prop} {w : World} (hw : Region.wanted o (yielded ops a.tmps) = true) (x : Operand) (ho : o.op = .load 36 x)
    (b : Nat) (k : VmK) (hx : a.eval x = .pointer (some ⟨b, 0, none⟩)) (hb : VBox w b k) (h : wpList Tryz.prog ops Q rest (a.put o.dst (vmV k)) w) : wpList Tryz.prog ops Q (o :: rest) a w :=
  wpList_step fun K hK => by
    rw [if_pos hw]
    exact wp_load_row 36 x ho b hx _ _ _ _ hb Tryz.underlying36 rfl vm_info (hK _ _ h)
def vMay (k : VmK) (L : VmL) : Bool := vFew k L && vRight k L
set_option maxRecDepth 100000 in
set_option maxHeartbeats 4000000 in
theorem rvmay_any (k : VmK) (L : VmL) (w : World) (HN : Hid (k.wn ≤ 1000000)) (h : IsVm w k L) :
    Calls Tryz.prog 23 #[vmV k] w fun e w' => e = .returned (.bool (vMay k L)) ∧ Below w.heap.size w w' := by
  have kk := al_one w (.cells (vmC k) 36)
  have B0 := Lib.hid kk
  have X0 := Lib.hid (vbox_new w k)
  have V0 := Lib.hid (h.keep kk)
  have HF := Lib.hid (rvfew_any k L _ (h.keep kk))
  clear h kk
  obtain ⟨F1, e1⟩ : ∃ b, vFew k L = b := ⟨_, rfl⟩
  rw [e1] at HF
  have HM : Hid (vMay k L = (F1 && vRight k L)) := by show _ = _; unfold vMay; rw [e1]
  clear e1
  go_enter Tryz.func23, Tryz.ntmps23
  go_wp2_with (refine wpList_vload (by rfl) _ rfl w.heap.size k rfl X0.out ?_)
  refine HF.out.mono ?_
  rintro e w1 ⟨rfl, bb⟩
  have X1 := Lib.hid (X0.out.keep bb)
  have HC := Lib.hid (rvright_any k L w1 HN (V0.out.keep bb))
  have B1 := Lib.hid (below_then B0.out bb)
  clear bb
  cases F1 with
  | false =>
    go_wp2_with fail
    go_ret
    exact ⟨by rw [HM.out]; rfl, B1.out⟩
  | true =>
    go_wp2_with (refine wpList_vload (by rfl) _ rfl w.heap.size k rfl X1.out ?_)
    refine HC.out.mono ?_
    rintro e w2 ⟨rfl, bb⟩
    have B2 := Lib.hid (below_then B1.out bb)
    clear bb
    go_wp2_with fail
    go_ret
    exact ⟨by rw [HM.out]; rfl, B2.out⟩
end Go.Proofs.YtbighilgkmfemaaGreatDoor

/- Are two rows the same: the document's frames. -/
namespace Go.Proofs.YtbighilgkmfemaaGreatDoor
open Go.RowKit
set_option linter.unusedVariables false
set_option linter.unusedSimpArgs false

set_option maxRecDepth 100000 in
set_option maxHeartbeats 4000000 in
theorem rfmsame_any (A A' : Option Addr) (n c n' c' : Nat) (a b : List Fm) (w : World) (h : Fms w (.slice A n c) a) (h' : Fms w (.slice A' n' c') b) (ha : a.length ≤ 1000000) :
    Calls Tryz.prog 48 #[.slice A n c, .slice A' n' c'] w fun e w' => e = .returned (.bool (fmSame a b)) ∧ Below w.heap.size w w' := by
  have ea := h.len
  have eb := h'.len
  subst ea eb
  by_cases hl : a.length = b.length
  · have hl' : ((a.length : Int) != (b.length : Int)) = false := by simp [hl]
    have hl2 : ((a.length : Int) == (b.length : Int)) = true := by simp [hl]
    have HA := Lib.hid h
    have HB := Lib.hid h'
    have HLN := Lib.hid hl
    clear h h' hl
    go_enter Tryz.func48, Tryz.ntmps48
    go_wp2_with fail
    go_loopw [5] (fun s5 wr => ∃ (k : Nat), s5 = .int .i64 (k : Int) ∧ k ≤ a.length ∧ Hid (a.take k = b.take k) ∧ Hid (Below w.heap.size w wr)) (fun s5 _ => a.length - (intOf s5).toNat)
    case atStart => exact ⟨0, rfl, Nat.zero_le _, Lib.hid rfl, Lib.hid (Below.refl _ _)⟩
    case round =>
      obtain ⟨k, rfl, hk, HT, HW⟩ := hrel
      by_cases hka : k < a.length
      · have hkb : k < b.length := by have := HLN.out; omega
        have hka' : (k : Int) < (a.length : Int) := by omega
        have hkb' : (k : Int) < (b.length : Int) := by omega
        obtain ⟨g, o, hA, c0, c1, c2⟩ := fm_cells (HA.out.keep HW.out) hka
        obtain ⟨g', o', hA', d0, d1, d2⟩ := fm_cells (HB.out.keep HW.out) hkb
        have hx := List.getElem?_eq_getElem hka
        have hy := List.getElem?_eq_getElem hkb
        obtain ⟨x, ex⟩ : ∃ x, a[k] = x := ⟨_, rfl⟩
        obtain ⟨y, ey⟩ : ∃ y, b[k] = y := ⟨_, rfl⟩
        rw [ex] at c0 c1 c2 hx
        rw [ey] at d0 d1 d2 hy
        subst hA hA'
        have HWd := Lib.hid fun i => below_then HW.out (drewN_belowW wr i)
        have HX := Lib.hid hx
        have HY := Lib.hid hy
        clear hx hy ex ey
        by_cases h0 : x.d = y.d
        · rw [← h0] at d0
          by_cases h1 : x.r = y.r
          · rw [← h1] at d1
            by_cases h2 : x.ip = y.ip
            · rw [← h2] at d2
              have HT2 : Hid (a.take (k + 1) = b.take (k + 1)) := by
                show _ = _
                rw [List.take_add_one, List.take_add_one, HT.out, HX.out, HY.out]
                rw [show x = y from by cases x; cases y; simp_all]
              clear HA HB HT h0 h1 h2
              go_wp2_with fail
              go_quiet (fail)
              go_wp2_with fail
              go_roundw
              case rel => exact ⟨k + 1, by simp, by omega, HT2, Lib.hid (HWd.out _)⟩
              case measure => simp [intOf]; omega
            · have n1 : ((x.ip : Int) != y.ip) = true := by simpa using h2
              have n2 : ((x.ip : Int) == y.ip) = false := by simpa using h2
              have H : Hid (fmSame a b = false) := fm_no HX.out HY.out (fun e => h2 (by rw [e]))
              clear HT HA HB
              go_wp2_with fail
              go_quiet (fail)
              go_wp2_with fail
              go_ret
              exact ⟨by rw [H.out]; rfl, HWd.out _⟩
          · have n1 : ((x.r : Int) != y.r) = true := by simpa using h1
            have n2 : ((x.r : Int) == y.r) = false := by simpa using h1
            have H : Hid (fmSame a b = false) := fm_no HX.out HY.out (fun e => h1 (by rw [e]))
            clear HT HA HB
            go_wp2_with fail
            go_quiet (fail)
            go_wp2_with fail
            go_ret
            exact ⟨by rw [H.out]; rfl, HWd.out _⟩
        · have n1 : ((x.d : Int) != y.d) = true := by simpa using h0
          have n2 : ((x.d : Int) == y.d) = false := by simpa using h0
          have H : Hid (fmSame a b = false) := fm_no HX.out HY.out (fun e => h0 (by rw [e]))
          clear HT HA HB
          go_wp2_with fail
          go_quiet (fail)
          go_wp2_with fail
          go_ret
          exact ⟨by rw [H.out]; rfl, HWd.out _⟩
      · obtain rfl : k = a.length := by omega
        have H : Hid (fmSame a b = true) := by
          show _ = _
          unfold fmSame
          have := HT.out
          rw [List.take_length, HLN.out, List.take_length] at this
          simp [this]
        clear hka hk HT HA HB HLN
        go_wp2_with fail
        go_ret
        exact ⟨by rw [H.out]; rfl, HW.out⟩
  · have hl' : ((a.length : Int) != (b.length : Int)) = true := by simp; omega
    have hl2 : ((a.length : Int) == (b.length : Int)) = false := by simp; omega
    have H : Hid (fmSame a b = false) := by show _ = _; unfold fmSame; rw [decide_eq_false_iff_not]; intro e; exact hl (by rw [e])
    clear h h' hl
    go_enter Tryz.func48, Tryz.ntmps48
    go_wp2_with fail
    go_ret
    exact ⟨by rw [H.out]; rfl, Below.refl _ _⟩
end Go.Proofs.YtbighilgkmfemaaGreatDoor

/- Are two rows the same: the document's Reqs. -/
namespace Go.Proofs.YtbighilgkmfemaaGreatDoor
open Go.RowKit
set_option linter.unusedVariables false
set_option linter.unusedSimpArgs false

set_option maxRecDepth 100000 in
set_option maxHeartbeats 4000000 in
theorem rrqsame_any (A A' : Option Addr) (n c n' c' : Nat) (a b : List Rq) (w : World) (h : Rqs w (.slice A n c) a) (h' : Rqs w (.slice A' n' c') b) (ha : a.length ≤ 1000000) :
    Calls Tryz.prog 51 #[.slice A n c, .slice A' n' c'] w fun e w' => e = .returned (.bool (rqSame a b)) ∧ Below w.heap.size w w' := by
  have ea := h.len
  have eb := h'.len
  subst ea eb
  by_cases hl : a.length = b.length
  · have hl' : ((a.length : Int) != (b.length : Int)) = false := by simp [hl]
    have hl2 : ((a.length : Int) == (b.length : Int)) = true := by simp [hl]
    have HA := Lib.hid h
    have HB := Lib.hid h'
    have HLN := Lib.hid hl
    clear h h' hl
    go_enter Tryz.func51, Tryz.ntmps51
    go_wp2_with fail
    go_loopw [5] (fun s5 wr => ∃ (k : Nat), s5 = .int .i64 (k : Int) ∧ k ≤ a.length ∧ Hid (a.take k = b.take k) ∧ Hid (Below w.heap.size w wr)) (fun s5 _ => a.length - (intOf s5).toNat)
    case atStart => exact ⟨0, rfl, Nat.zero_le _, Lib.hid rfl, Lib.hid (Below.refl _ _)⟩
    case round =>
      obtain ⟨k, rfl, hk, HT, HW⟩ := hrel
      by_cases hka : k < a.length
      · have hkb : k < b.length := by have := HLN.out; omega
        have hka' : (k : Int) < (a.length : Int) := by omega
        have hkb' : (k : Int) < (b.length : Int) := by omega
        obtain ⟨g, o, hA, c0, c1, c2, c3, c4, c5⟩ := rq_cells (HA.out.keep HW.out) hka
        obtain ⟨g', o', hA', d0, d1, d2, d3, d4, d5⟩ := rq_cells (HB.out.keep HW.out) hkb
        have hx := List.getElem?_eq_getElem hka
        have hy := List.getElem?_eq_getElem hkb
        obtain ⟨x, ex⟩ : ∃ x, a[k] = x := ⟨_, rfl⟩
        obtain ⟨y, ey⟩ : ∃ y, b[k] = y := ⟨_, rfl⟩
        rw [ex] at c0 c1 c2 c3 c4 c5 hx
        rw [ey] at d0 d1 d2 d3 d4 d5 hy
        subst hA hA'
        have HWd := Lib.hid fun i => below_then HW.out (drewN_belowW wr i)
        have HX := Lib.hid hx
        have HY := Lib.hid hy
        clear hx hy ex ey
        by_cases h0 : x.kind = y.kind
        · rw [← h0] at d0
          by_cases h1 : x.arg = y.arg
          · rw [← h1] at d1
            by_cases h2 : x.hand = y.hand
            · rw [← h2] at d2
              by_cases h3 : x.rank = y.rank
              · rw [← h3] at d3
                by_cases h4 : x.delay = y.delay
                · rw [← h4] at d4
                  by_cases h5 : x.id = y.id
                  · rw [← h5] at d5
                    have HT2 : Hid (a.take (k + 1) = b.take (k + 1)) := by
                      show _ = _
                      rw [List.take_add_one, List.take_add_one, HT.out, HX.out, HY.out]
                      rw [show x = y from by cases x; cases y; simp_all]
                    clear HA HB HT h0 h1 h2 h3 h4 h5
                    go_wp2_with fail
                    go_quiet (fail)
                    go_wp2_with fail
                    go_roundw
                    case rel => exact ⟨k + 1, by simp, by omega, HT2, Lib.hid (HWd.out _)⟩
                    case measure => simp [intOf]; omega
                  · have n1 : ((x.id : Int) != y.id) = true := by simpa using h5
                    have n2 : ((x.id : Int) == y.id) = false := by simpa using h5
                    have H : Hid (rqSame a b = false) := rq_no HX.out HY.out (fun e => h5 (by rw [e]))
                    clear HT HA HB
                    go_wp2_with fail
                    go_quiet (fail)
                    go_wp2_with fail
                    go_ret
                    exact ⟨by rw [H.out]; rfl, HWd.out _⟩
                · have n1 : ((x.delay : Int) != y.delay) = true := by simpa using h4
                  have n2 : ((x.delay : Int) == y.delay) = false := by simpa using h4
                  have H : Hid (rqSame a b = false) := rq_no HX.out HY.out (fun e => h4 (by rw [e]))
                  clear HT HA HB
                  go_wp2_with fail
                  go_quiet (fail)
                  go_wp2_with fail
                  go_ret
                  exact ⟨by rw [H.out]; rfl, HWd.out _⟩
              · have n1 : ((x.rank : Int) != y.rank) = true := by simpa using h3
                have n2 : ((x.rank : Int) == y.rank) = false := by simpa using h3
                have H : Hid (rqSame a b = false) := rq_no HX.out HY.out (fun e => h3 (by rw [e]))
                clear HT HA HB
                go_wp2_with fail
                go_quiet (fail)
                go_wp2_with fail
                go_ret
                exact ⟨by rw [H.out]; rfl, HWd.out _⟩
            · have n1 : ((x.hand : Int) != y.hand) = true := by simpa using h2
              have n2 : ((x.hand : Int) == y.hand) = false := by simpa using h2
              have H : Hid (rqSame a b = false) := rq_no HX.out HY.out (fun e => h2 (by rw [e]))
              clear HT HA HB
              go_wp2_with fail
              go_quiet (fail)
              go_wp2_with fail
              go_ret
              exact ⟨by rw [H.out]; rfl, HWd.out _⟩
          · have n1 : ((x.arg : Int) != y.arg) = true := by simpa using h1
            have n2 : ((x.arg : Int) == y.arg) = false := by simpa using h1
            have H : Hid (rqSame a b = false) := rq_no HX.out HY.out (fun e => h1 (by rw [e]))
            clear HT HA HB
            go_wp2_with fail
            go_quiet (fail)
            go_wp2_with fail
            go_ret
            exact ⟨by rw [H.out]; rfl, HWd.out _⟩
        · have n1 : ((x.kind : Int) != y.kind) = true := by simpa using h0
          have n2 : ((x.kind : Int) == y.kind) = false := by simpa using h0
          have H : Hid (rqSame a b = false) := rq_no HX.out HY.out (fun e => h0 (by rw [e]))
          clear HT HA HB
          go_wp2_with fail
          go_quiet (fail)
          go_wp2_with fail
          go_ret
          exact ⟨by rw [H.out]; rfl, HWd.out _⟩
      · obtain rfl : k = a.length := by omega
        have H : Hid (rqSame a b = true) := by
          show _ = _
          unfold rqSame
          have := HT.out
          rw [List.take_length, HLN.out, List.take_length] at this
          simp [this]
        clear hka hk HT HA HB HLN
        go_wp2_with fail
        go_ret
        exact ⟨by rw [H.out]; rfl, HW.out⟩
  · have hl' : ((a.length : Int) != (b.length : Int)) = true := by simp; omega
    have hl2 : ((a.length : Int) == (b.length : Int)) = false := by simp; omega
    have H : Hid (rqSame a b = false) := by show _ = _; unfold rqSame; rw [decide_eq_false_iff_not]; intro e; exact hl (by rw [e])
    clear h h' hl
    go_enter Tryz.func51, Tryz.ntmps51
    go_wp2_with fail
    go_ret
    exact ⟨by rw [H.out]; rfl, Below.refl _ _⟩
end Go.Proofs.YtbighilgkmfemaaGreatDoor

/- Are two rows the same: the document's Hands. -/
namespace Go.Proofs.YtbighilgkmfemaaGreatDoor
open Go.RowKit
set_option linter.unusedVariables false
set_option linter.unusedSimpArgs false

set_option maxRecDepth 100000 in
set_option maxHeartbeats 4000000 in
theorem rhnsame_any (A A' : Option Addr) (n c n' c' : Nat) (a b : List Hn) (w : World) (h : Hns w (.slice A n c) a) (h' : Hns w (.slice A' n' c') b) (ha : a.length ≤ 1000000) :
    Calls Tryz.prog 52 #[.slice A n c, .slice A' n' c'] w fun e w' => e = .returned (.bool (hnSame a b)) ∧ Below w.heap.size w w' := by
  have ea := h.len
  have eb := h'.len
  subst ea eb
  by_cases hl : a.length = b.length
  · have hl' : ((a.length : Int) != (b.length : Int)) = false := by simp [hl]
    have hl2 : ((a.length : Int) == (b.length : Int)) = true := by simp [hl]
    have HA := Lib.hid h
    have HB := Lib.hid h'
    have HLN := Lib.hid hl
    clear h h' hl
    go_enter Tryz.func52, Tryz.ntmps52
    go_wp2_with fail
    go_loopw [5] (fun s5 wr => ∃ (k : Nat), s5 = .int .i64 (k : Int) ∧ k ≤ a.length ∧ Hid (a.take k = b.take k) ∧ Hid (Below w.heap.size w wr)) (fun s5 _ => a.length - (intOf s5).toNat)
    case atStart => exact ⟨0, rfl, Nat.zero_le _, Lib.hid rfl, Lib.hid (Below.refl _ _)⟩
    case round =>
      obtain ⟨k, rfl, hk, HT, HW⟩ := hrel
      by_cases hka : k < a.length
      · have hkb : k < b.length := by have := HLN.out; omega
        have hka' : (k : Int) < (a.length : Int) := by omega
        have hkb' : (k : Int) < (b.length : Int) := by omega
        obtain ⟨g, o, hA, c0, c1, c2, c3⟩ := hn_cells (HA.out.keep HW.out) hka
        obtain ⟨g', o', hA', d0, d1, d2, d3⟩ := hn_cells (HB.out.keep HW.out) hkb
        have hx := List.getElem?_eq_getElem hka
        have hy := List.getElem?_eq_getElem hkb
        obtain ⟨x, ex⟩ : ∃ x, a[k] = x := ⟨_, rfl⟩
        obtain ⟨y, ey⟩ : ∃ y, b[k] = y := ⟨_, rfl⟩
        rw [ex] at c0 c1 c2 c3 hx
        rw [ey] at d0 d1 d2 d3 hy
        subst hA hA'
        have HWd := Lib.hid fun i => below_then HW.out (drewN_belowW wr i)
        have HX := Lib.hid hx
        have HY := Lib.hid hy
        clear hx hy ex ey
        by_cases h0 : x.xt = y.xt
        · rw [← h0] at d0
          by_cases h1 : x.fuel = y.fuel
          · rw [← h1] at d1
            by_cases h2 : x.strikes = y.strikes
            · rw [← h2] at d2
              by_cases h3 : x.out = y.out
              · rw [← h3] at d3
                have HT2 : Hid (a.take (k + 1) = b.take (k + 1)) := by
                  show _ = _
                  rw [List.take_add_one, List.take_add_one, HT.out, HX.out, HY.out]
                  rw [show x = y from by cases x; cases y; simp_all]
                clear HA HB HT h0 h1 h2 h3
                go_wp2_with fail
                go_quiet (fail)
                go_wp2_with fail
                go_roundw
                case rel => exact ⟨k + 1, by simp, by omega, HT2, Lib.hid (HWd.out _)⟩
                case measure => simp [intOf]; omega
              · have n1 : ((x.out : Bool) != y.out) = true := by simpa using h3
                have n2 : ((x.out : Bool) == y.out) = false := by simpa using h3
                have H : Hid (hnSame a b = false) := hn_no HX.out HY.out (fun e => h3 (by rw [e]))
                clear HT HA HB
                go_wp2_with fail
                go_quiet (fail)
                go_wp2_with fail
                go_ret
                exact ⟨by rw [H.out]; rfl, HWd.out _⟩
            · have n1 : ((x.strikes : Int) != y.strikes) = true := by simpa using h2
              have n2 : ((x.strikes : Int) == y.strikes) = false := by simpa using h2
              have H : Hid (hnSame a b = false) := hn_no HX.out HY.out (fun e => h2 (by rw [e]))
              clear HT HA HB
              go_wp2_with fail
              go_quiet (fail)
              go_wp2_with fail
              go_ret
              exact ⟨by rw [H.out]; rfl, HWd.out _⟩
          · have n1 : ((x.fuel : Int) != y.fuel) = true := by simpa using h1
            have n2 : ((x.fuel : Int) == y.fuel) = false := by simpa using h1
            have H : Hid (hnSame a b = false) := hn_no HX.out HY.out (fun e => h1 (by rw [e]))
            clear HT HA HB
            go_wp2_with fail
            go_quiet (fail)
            go_wp2_with fail
            go_ret
            exact ⟨by rw [H.out]; rfl, HWd.out _⟩
        · have n1 : ((x.xt : Int) != y.xt) = true := by simpa using h0
          have n2 : ((x.xt : Int) == y.xt) = false := by simpa using h0
          have H : Hid (hnSame a b = false) := hn_no HX.out HY.out (fun e => h0 (by rw [e]))
          clear HT HA HB
          go_wp2_with fail
          go_quiet (fail)
          go_wp2_with fail
          go_ret
          exact ⟨by rw [H.out]; rfl, HWd.out _⟩
      · obtain rfl : k = a.length := by omega
        have H : Hid (hnSame a b = true) := by
          show _ = _
          unfold hnSame
          have := HT.out
          rw [List.take_length, HLN.out, List.take_length] at this
          simp [this]
        clear hka hk HT HA HB HLN
        go_wp2_with fail
        go_ret
        exact ⟨by rw [H.out]; rfl, HW.out⟩
  · have hl' : ((a.length : Int) != (b.length : Int)) = true := by simp; omega
    have hl2 : ((a.length : Int) == (b.length : Int)) = false := by simp; omega
    have H : Hid (hnSame a b = false) := by show _ = _; unfold hnSame; rw [decide_eq_false_iff_not]; intro e; exact hl (by rw [e])
    clear h h' hl
    go_enter Tryz.func52, Tryz.ntmps52
    go_wp2_with fail
    go_ret
    exact ⟨by rw [H.out]; rfl, Below.refl _ _⟩
end Go.Proofs.YtbighilgkmfemaaGreatDoor

/- Are two machines the same: the document's Same. -/
namespace Go.Proofs.YtbighilgkmfemaaGreatDoor
open Go.RowKit
set_option linter.unusedVariables false
set_option linter.unusedSimpArgs false

def confSame (k j : VmK) : Bool := decide (k.cm = j.cm ∧ k.cd = j.cd ∧ k.cr = j.cr ∧ k.cw = j.cw ∧ k.co = j.co)
def numsSame (k j : VmK) : Bool := decide (k.here = j.here ∧ k.last = j.last ∧ k.free = j.free ∧ k.next = j.next ∧ k.arg = j.arg ∧ k.self = j.self ∧ k.now = j.now)
/-- Are two machines the same? -/
def vSame (k : VmK) (L : VmL) (j : VmK) (M : VmL) : Bool := decide (L.m = M.m) && (sameB L.d M.d && (sameB L.r M.r && (fmSame L.f M.f && (dSame L.dict M.dict && (pSame k.qo L.q j.qo M.q && (rqSame L.e M.e && (hnSame L.h M.h && (confSame k j && (decide (L.o = M.o) && (numsSame k j))))))))))
/-- Two machines in two new blocks. -/
def V2 (w : World) (b : Nat) (k j : VmK) : Prop := VBox w b k ∧ VBox w (b + 1) j
theorem v2_new (w : World) (k j : VmK) : Below w.heap.size w ((w.alloc (.cells #[.int .i64 k.cm, .int .i64 k.cd, .int .i64 k.cr, .int .i64 k.cw, .int .i64 k.co, .slice k.mA k.mn k.mc, .slice k.pA k.pn k.pc, .int .i64 k.here, .slice k.dA k.dn k.dc, .slice k.rA k.rn k.rc, .slice k.fA k.fn k.fc, .slice k.wA k.wn k.wc, .int .i64 k.last, .slice k.oA k.on k.oc, .slice k.qA k.qn k.qc, .bool k.qo, .slice k.eA k.en k.ec, .int .i64 k.free, .int .i64 k.next, .int .i64 k.arg, .int .i64 k.self, .int .i64 k.now, .slice k.hA k.hn k.hc] 36)).alloc (.cells #[.int .i64 j.cm, .int .i64 j.cd, .int .i64 j.cr, .int .i64 j.cw, .int .i64 j.co, .slice j.mA j.mn j.mc, .slice j.pA j.pn j.pc, .int .i64 j.here, .slice j.dA j.dn j.dc, .slice j.rA j.rn j.rc, .slice j.fA j.fn j.fc, .slice j.wA j.wn j.wc, .int .i64 j.last, .slice j.oA j.on j.oc, .slice j.qA j.qn j.qc, .bool j.qo, .slice j.eA j.en j.ec, .int .i64 j.free, .int .i64 j.next, .int .i64 j.arg, .int .i64 j.self, .int .i64 j.now, .slice j.hA j.hn j.hc] 36)) ∧ VBox ((w.alloc (.cells #[.int .i64 k.cm, .int .i64 k.cd, .int .i64 k.cr, .int .i64 k.cw, .int .i64 k.co, .slice k.mA k.mn k.mc, .slice k.pA k.pn k.pc, .int .i64 k.here, .slice k.dA k.dn k.dc, .slice k.rA k.rn k.rc, .slice k.fA k.fn k.fc, .slice k.wA k.wn k.wc, .int .i64 k.last, .slice k.oA k.on k.oc, .slice k.qA k.qn k.qc, .bool k.qo, .slice k.eA k.en k.ec, .int .i64 k.free, .int .i64 k.next, .int .i64 k.arg, .int .i64 k.self, .int .i64 k.now, .slice k.hA k.hn k.hc] 36)).alloc (.cells #[.int .i64 j.cm, .int .i64 j.cd, .int .i64 j.cr, .int .i64 j.cw, .int .i64 j.co, .slice j.mA j.mn j.mc, .slice j.pA j.pn j.pc, .int .i64 j.here, .slice j.dA j.dn j.dc, .slice j.rA j.rn j.rc, .slice j.fA j.fn j.fc, .slice j.wA j.wn j.wc, .int .i64 j.last, .slice j.oA j.on j.oc, .slice j.qA j.qn j.qc, .bool j.qo, .slice j.eA j.en j.ec, .int .i64 j.free, .int .i64 j.next, .int .i64 j.arg, .int .i64 j.self, .int .i64 j.now, .slice j.hA j.hn j.hc] 36)) w.heap.size k ∧ VBox ((w.alloc (.cells #[.int .i64 k.cm, .int .i64 k.cd, .int .i64 k.cr, .int .i64 k.cw, .int .i64 k.co, .slice k.mA k.mn k.mc, .slice k.pA k.pn k.pc, .int .i64 k.here, .slice k.dA k.dn k.dc, .slice k.rA k.rn k.rc, .slice k.fA k.fn k.fc, .slice k.wA k.wn k.wc, .int .i64 k.last, .slice k.oA k.on k.oc, .slice k.qA k.qn k.qc, .bool k.qo, .slice k.eA k.en k.ec, .int .i64 k.free, .int .i64 k.next, .int .i64 k.arg, .int .i64 k.self, .int .i64 k.now, .slice k.hA k.hn k.hc] 36)).alloc (.cells #[.int .i64 j.cm, .int .i64 j.cd, .int .i64 j.cr, .int .i64 j.cw, .int .i64 j.co, .slice j.mA j.mn j.mc, .slice j.pA j.pn j.pc, .int .i64 j.here, .slice j.dA j.dn j.dc, .slice j.rA j.rn j.rc, .slice j.fA j.fn j.fc, .slice j.wA j.wn j.wc, .int .i64 j.last, .slice j.oA j.on j.oc, .slice j.qA j.qn j.qc, .bool j.qo, .slice j.eA j.en j.ec, .int .i64 j.free, .int .i64 j.next, .int .i64 j.arg, .int .i64 j.self, .int .i64 j.now, .slice j.hA j.hn j.hc] 36)) (w.heap.size + 1) j := by
  refine ⟨((Below.refl _ _).alloc (Nat.le_refl _) _).alloc (by simp) _, ?_, ?_⟩
  · exact (vbox_new w k).keep ((Below.refl _ _).alloc (Nat.le_refl _) _)
  · have := vbox_new (w.alloc (.cells #[.int .i64 k.cm, .int .i64 k.cd, .int .i64 k.cr, .int .i64 k.cw, .int .i64 k.co, .slice k.mA k.mn k.mc, .slice k.pA k.pn k.pc, .int .i64 k.here, .slice k.dA k.dn k.dc, .slice k.rA k.rn k.rc, .slice k.fA k.fn k.fc, .slice k.wA k.wn k.wc, .int .i64 k.last, .slice k.oA k.on k.oc, .slice k.qA k.qn k.qc, .bool k.qo, .slice k.eA k.en k.ec, .int .i64 k.free, .int .i64 k.next, .int .i64 k.arg, .int .i64 k.self, .int .i64 k.now, .slice k.hA k.hn k.hc] 36)) j
    rw [World.size_alloc] at this
    exact this
set_option maxRecDepth 100000 in
set_option maxHeartbeats 8000000 in
theorem rvsame_any (k : VmK) (L : VmL) (j : VmK) (M : VmL) (w : World) (HN : Hid (k.dn ≤ 65536 ∧ k.rn ≤ 65536 ∧ j.dn ≤ 65536 ∧ j.rn ≤ 65536 ∧ k.fn ≤ 1000000 ∧ k.wn ≤ 1000000 ∧ k.en ≤ 1000000 ∧ k.hn ≤ 1000000)) (h : IsVm w k L) (h' : IsVm w j M) :
    Calls Tryz.prog 19 #[vmV k, vmV j] w fun e w' => e = .returned (.bool (vSame k L j M)) ∧ Below w.heap.size w w' := by
  obtain ⟨kk, hx, hy⟩ := v2_new w k j
  have B0 := Lib.hid kk
  have V0 := Lib.hid (h.keep kk)
  have U0 := Lib.hid (h'.keep kk)
  have X0 := Lib.hid hx
  have Y0 := Lib.hid hy
  obtain ⟨F, hF⟩ : ∃ F, vSame k L j M = F := ⟨_, rfl⟩
  have HF : Hid (F = vSame k L j M) := hF.symm
  rw [hF]
  clear h h' hF kk hx hy
  go_enter Tryz.func19, Tryz.ntmps19
  have HC := Lib.hid (rsame_at k.mA k.pA j.mA j.pA k.mn k.mc k.pn k.pc j.mn j.mc j.pn j.pc L.m M.m _ (Lib.hid V0.out.m) (Lib.hid U0.out.m))
  obtain ⟨F1, ef⟩ : ∃ F, decide (L.m = M.m) = F := ⟨_, rfl⟩
  rw [ef] at HC
  have H1 := Lib.hid ef
  clear ef
  obtain ⟨p0, p1, p2, p3, p4, p5, p6, p7, p8, p9, p10, p11, p12, p13, p14, p15, p16, p17, p18, p19, p20, p21, p22⟩ := X0.out.use
  obtain ⟨q0, q1, q2, q3, q4, q5, q6, q7, q8, q9, q10, q11, q12, q13, q14, q15, q16, q17, q18, q19, q20, q21, q22⟩ := Y0.out.use
  clear p0 p1 p2 p3 p4 p7 p8 p9 p10 p11 p12 p13 p14 p15 p16 p17 p18 p19 p20 p21 p22 q0 q1 q2 q3 q4 q7 q8 q9 q10 q11 q12 q13 q14 q15 q16 q17 q18 q19 q20 q21 q22
  go_wp2_with fail
  refine HC.out.mono ?_
  rintro e w1 ⟨rfl, bb⟩
  have X1 := Lib.hid (X0.out.keep bb)
  have Y1 := Lib.hid (Y0.out.keep bb)
  have V1 := Lib.hid (V0.out.keep bb)
  have U1 := Lib.hid (U0.out.keep bb)
  have B1 := Lib.hid (below_then B0.out bb)
  clear bb HC X0 Y0 V0 U0 B0 p5 q5 p6 q6
  have HC := Lib.hid (same_atS k.dA j.dA k.dn k.dc j.dn j.dc L.d M.d _ (by have := HN.out; omega) (by have := HN.out; omega) (Lib.hid V1.out.d) (Lib.hid U1.out.d))
  obtain ⟨F2, ef⟩ : ∃ F, sameB L.d M.d = F := ⟨_, rfl⟩
  rw [ef] at HC
  have H2 := Lib.hid ef
  clear ef
  obtain ⟨p0, p1, p2, p3, p4, p5, p6, p7, p8, p9, p10, p11, p12, p13, p14, p15, p16, p17, p18, p19, p20, p21, p22⟩ := X1.out.use
  obtain ⟨q0, q1, q2, q3, q4, q5, q6, q7, q8, q9, q10, q11, q12, q13, q14, q15, q16, q17, q18, q19, q20, q21, q22⟩ := Y1.out.use
  clear p0 p1 p2 p3 p4 p5 p6 p7 p9 p10 p11 p12 p13 p14 p15 p16 p17 p18 p19 p20 p21 p22 q0 q1 q2 q3 q4 q5 q6 q7 q9 q10 q11 q12 q13 q14 q15 q16 q17 q18 q19 q20 q21 q22
  go_wp2_with fail
  refine HC.out.mono ?_
  rintro e w2 ⟨rfl, bb⟩
  have X2 := Lib.hid (X1.out.keep bb)
  have Y2 := Lib.hid (Y1.out.keep bb)
  have V2 := Lib.hid (V1.out.keep bb)
  have U2 := Lib.hid (U1.out.keep bb)
  have B2 := Lib.hid (below_then B1.out bb)
  clear bb HC X1 Y1 V1 U1 B1 p8 q8
  have HC := Lib.hid (same_atS k.rA j.rA k.rn k.rc j.rn j.rc L.r M.r _ (by have := HN.out; omega) (by have := HN.out; omega) (Lib.hid V2.out.r) (Lib.hid U2.out.r))
  obtain ⟨F3, ef⟩ : ∃ F, sameB L.r M.r = F := ⟨_, rfl⟩
  rw [ef] at HC
  have H3 := Lib.hid ef
  clear ef
  obtain ⟨p0, p1, p2, p3, p4, p5, p6, p7, p8, p9, p10, p11, p12, p13, p14, p15, p16, p17, p18, p19, p20, p21, p22⟩ := X2.out.use
  obtain ⟨q0, q1, q2, q3, q4, q5, q6, q7, q8, q9, q10, q11, q12, q13, q14, q15, q16, q17, q18, q19, q20, q21, q22⟩ := Y2.out.use
  clear p0 p1 p2 p3 p4 p5 p6 p7 p8 p10 p11 p12 p13 p14 p15 p16 p17 p18 p19 p20 p21 p22 q0 q1 q2 q3 q4 q5 q6 q7 q8 q10 q11 q12 q13 q14 q15 q16 q17 q18 q19 q20 q21 q22
  go_wp2_with fail
  refine HC.out.mono ?_
  rintro e w3 ⟨rfl, bb⟩
  have X3 := Lib.hid (X2.out.keep bb)
  have Y3 := Lib.hid (Y2.out.keep bb)
  have V3 := Lib.hid (V2.out.keep bb)
  have U3 := Lib.hid (U2.out.keep bb)
  have B3 := Lib.hid (below_then B2.out bb)
  clear bb HC X2 Y2 V2 U2 B2 p9 q9
  have HC := Lib.hid (rfmsame_any k.fA j.fA k.fn k.fc j.fn j.fc L.f M.f _ V3.out.f U3.out.f (by have := HN.out; have := V3.out.f.len; omega))
  obtain ⟨F4, ef⟩ : ∃ F, fmSame L.f M.f = F := ⟨_, rfl⟩
  rw [ef] at HC
  have H4 := Lib.hid ef
  clear ef
  obtain ⟨p0, p1, p2, p3, p4, p5, p6, p7, p8, p9, p10, p11, p12, p13, p14, p15, p16, p17, p18, p19, p20, p21, p22⟩ := X3.out.use
  obtain ⟨q0, q1, q2, q3, q4, q5, q6, q7, q8, q9, q10, q11, q12, q13, q14, q15, q16, q17, q18, q19, q20, q21, q22⟩ := Y3.out.use
  clear p0 p1 p2 p3 p4 p5 p6 p7 p8 p9 p11 p12 p13 p14 p15 p16 p17 p18 p19 p20 p21 p22 q0 q1 q2 q3 q4 q5 q6 q7 q8 q9 q11 q12 q13 q14 q15 q16 q17 q18 q19 q20 q21 q22
  go_wp2_with fail
  refine HC.out.mono ?_
  rintro e w4 ⟨rfl, bb⟩
  have X4 := Lib.hid (X3.out.keep bb)
  have Y4 := Lib.hid (Y3.out.keep bb)
  have V4 := Lib.hid (V3.out.keep bb)
  have U4 := Lib.hid (U3.out.keep bb)
  have B4 := Lib.hid (below_then B3.out bb)
  clear bb HC X3 Y3 V3 U3 B3 p10 q10
  have HC := Lib.hid (rsame9_any k.wA j.wA k.wn k.wc j.wn j.wc L.dict M.dict _ V4.out.dict U4.out.dict (by have := HN.out; have := V4.out.dict.len; omega))
  obtain ⟨F5, ef⟩ : ∃ F, dSame L.dict M.dict = F := ⟨_, rfl⟩
  rw [ef] at HC
  have H5 := Lib.hid ef
  clear ef
  obtain ⟨p0, p1, p2, p3, p4, p5, p6, p7, p8, p9, p10, p11, p12, p13, p14, p15, p16, p17, p18, p19, p20, p21, p22⟩ := X4.out.use
  obtain ⟨q0, q1, q2, q3, q4, q5, q6, q7, q8, q9, q10, q11, q12, q13, q14, q15, q16, q17, q18, q19, q20, q21, q22⟩ := Y4.out.use
  clear p0 p1 p2 p3 p4 p5 p6 p7 p8 p9 p10 p12 p13 p14 p15 p16 p17 p18 p19 p20 p21 p22 q0 q1 q2 q3 q4 q5 q6 q7 q8 q9 q10 q12 q13 q14 q15 q16 q17 q18 q19 q20 q21 q22
  go_wp2_with fail
  refine HC.out.mono ?_
  rintro e w5 ⟨rfl, bb⟩
  have X5 := Lib.hid (X4.out.keep bb)
  have Y5 := Lib.hid (Y4.out.keep bb)
  have V5 := Lib.hid (V4.out.keep bb)
  have U5 := Lib.hid (U4.out.keep bb)
  have B5 := Lib.hid (below_then B4.out bb)
  clear bb HC X4 Y4 V4 U4 B4 p11 q11
  have HC := Lib.hid (rsame_any k.qA j.qA k.qn k.qc j.qn j.qc k.qo j.qo L.q M.q _ V5.out.q U5.out.q)
  obtain ⟨F6, ef⟩ : ∃ F, pSame k.qo L.q j.qo M.q = F := ⟨_, rfl⟩
  rw [ef] at HC
  have H6 := Lib.hid ef
  clear ef
  obtain ⟨p0, p1, p2, p3, p4, p5, p6, p7, p8, p9, p10, p11, p12, p13, p14, p15, p16, p17, p18, p19, p20, p21, p22⟩ := X5.out.use
  obtain ⟨q0, q1, q2, q3, q4, q5, q6, q7, q8, q9, q10, q11, q12, q13, q14, q15, q16, q17, q18, q19, q20, q21, q22⟩ := Y5.out.use
  clear p0 p1 p2 p3 p4 p5 p6 p7 p8 p9 p10 p11 p12 p13 p16 p17 p18 p19 p20 p21 p22 q0 q1 q2 q3 q4 q5 q6 q7 q8 q9 q10 q11 q12 q13 q16 q17 q18 q19 q20 q21 q22
  go_wp2_with fail
  refine HC.out.mono ?_
  rintro e w6 ⟨rfl, bb⟩
  have X6 := Lib.hid (X5.out.keep bb)
  have Y6 := Lib.hid (Y5.out.keep bb)
  have V6 := Lib.hid (V5.out.keep bb)
  have U6 := Lib.hid (U5.out.keep bb)
  have B6 := Lib.hid (below_then B5.out bb)
  clear bb HC X5 Y5 V5 U5 B5 p14 q14 p15 q15
  have HC := Lib.hid (rrqsame_any k.eA j.eA k.en k.ec j.en j.ec L.e M.e _ V6.out.e U6.out.e (by have := HN.out; have := V6.out.e.len; omega))
  obtain ⟨F7, ef⟩ : ∃ F, rqSame L.e M.e = F := ⟨_, rfl⟩
  rw [ef] at HC
  have H7 := Lib.hid ef
  clear ef
  obtain ⟨p0, p1, p2, p3, p4, p5, p6, p7, p8, p9, p10, p11, p12, p13, p14, p15, p16, p17, p18, p19, p20, p21, p22⟩ := X6.out.use
  obtain ⟨q0, q1, q2, q3, q4, q5, q6, q7, q8, q9, q10, q11, q12, q13, q14, q15, q16, q17, q18, q19, q20, q21, q22⟩ := Y6.out.use
  clear p0 p1 p2 p3 p4 p5 p6 p7 p8 p9 p10 p11 p12 p13 p14 p15 p17 p18 p19 p20 p21 p22 q0 q1 q2 q3 q4 q5 q6 q7 q8 q9 q10 q11 q12 q13 q14 q15 q17 q18 q19 q20 q21 q22
  go_wp2_with fail
  refine HC.out.mono ?_
  rintro e w7 ⟨rfl, bb⟩
  have X7 := Lib.hid (X6.out.keep bb)
  have Y7 := Lib.hid (Y6.out.keep bb)
  have V7 := Lib.hid (V6.out.keep bb)
  have U7 := Lib.hid (U6.out.keep bb)
  have B7 := Lib.hid (below_then B6.out bb)
  clear bb HC X6 Y6 V6 U6 B6 p16 q16
  have HC := Lib.hid (rhnsame_any k.hA j.hA k.hn k.hc j.hn j.hc L.h M.h _ V7.out.h U7.out.h (by have := HN.out; have := V7.out.h.len; omega))
  obtain ⟨F8, ef⟩ : ∃ F, hnSame L.h M.h = F := ⟨_, rfl⟩
  rw [ef] at HC
  have H8 := Lib.hid ef
  clear ef
  obtain ⟨p0, p1, p2, p3, p4, p5, p6, p7, p8, p9, p10, p11, p12, p13, p14, p15, p16, p17, p18, p19, p20, p21, p22⟩ := X7.out.use
  obtain ⟨q0, q1, q2, q3, q4, q5, q6, q7, q8, q9, q10, q11, q12, q13, q14, q15, q16, q17, q18, q19, q20, q21, q22⟩ := Y7.out.use
  clear p0 p1 p2 p3 p4 p5 p6 p7 p8 p9 p10 p11 p12 p13 p14 p15 p16 p17 p18 p19 p20 p21 q0 q1 q2 q3 q4 q5 q6 q7 q8 q9 q10 q11 q12 q13 q14 q15 q16 q17 q18 q19 q20 q21
  go_wp2_with fail
  refine HC.out.mono ?_
  rintro e w8 ⟨rfl, bb⟩
  have X8 := Lib.hid (X7.out.keep bb)
  have Y8 := Lib.hid (Y7.out.keep bb)
  have V8 := Lib.hid (V7.out.keep bb)
  have U8 := Lib.hid (U7.out.keep bb)
  have B8 := Lib.hid (below_then B7.out bb)
  clear bb HC X7 Y7 V7 U7 B7 p22 q22
  obtain ⟨p0, p1, p2, p3, p4, p5, p6, p7, p8, p9, p10, p11, p12, p13, p14, p15, p16, p17, p18, p19, p20, p21, p22⟩ := X8.out.use
  obtain ⟨q0, q1, q2, q3, q4, q5, q6, q7, q8, q9, q10, q11, q12, q13, q14, q15, q16, q17, q18, q19, q20, q21, q22⟩ := Y8.out.use
  clear p5 p6 p8 p9 p10 p11 p14 p15 p16 p22 q5 q6 q8 q9 q10 q11 q14 q15 q16 q22
  have cv1 := conv_any V8.out.o
  have cv2 := conv_any U8.out.o
  cases F1 with
  | false =>
    go_wp2_with fail
    go_ret
    exact ⟨ret_bool (by rw [HF.out]; unfold vSame; rw [H1.out]; rfl), B8.out⟩
  | true =>
    cases F2 with
    | false =>
      go_wp2_with fail
      go_ret
      exact ⟨ret_bool (by rw [HF.out]; unfold vSame; rw [H1.out, H2.out]; rfl), B8.out⟩
    | true =>
      cases F3 with
      | false =>
        go_wp2_with fail
        go_ret
        exact ⟨ret_bool (by rw [HF.out]; unfold vSame; rw [H1.out, H2.out, H3.out]; rfl), B8.out⟩
      | true =>
        cases F4 with
        | false =>
          go_wp2_with fail
          go_ret
          exact ⟨ret_bool (by rw [HF.out]; unfold vSame; rw [H1.out, H2.out, H3.out, H4.out]; rfl), B8.out⟩
        | true =>
          cases F5 with
          | false =>
            go_wp2_with fail
            go_ret
            exact ⟨ret_bool (by rw [HF.out]; unfold vSame; rw [H1.out, H2.out, H3.out, H4.out, H5.out]; rfl), B8.out⟩
          | true =>
            cases F6 with
            | false =>
              go_wp2_with fail
              go_ret
              exact ⟨ret_bool (by rw [HF.out]; unfold vSame; rw [H1.out, H2.out, H3.out, H4.out, H5.out, H6.out]; rfl), B8.out⟩
            | true =>
              cases F7 with
              | false =>
                go_wp2_with fail
                go_ret
                exact ⟨ret_bool (by rw [HF.out]; unfold vSame; rw [H1.out, H2.out, H3.out, H4.out, H5.out, H6.out, H7.out]; rfl), B8.out⟩
              | true =>
                cases F8 with
                | false =>
                  go_wp2_with fail
                  go_ret
                  exact ⟨ret_bool (by rw [HF.out]; unfold vSame; rw [H1.out, H2.out, H3.out, H4.out, H5.out, H6.out, H7.out, H8.out]; rfl), B8.out⟩
                | true =>
                  by_cases hcm : k.cm = j.cm
                  · rw [← hcm] at q0
                    by_cases hcd : k.cd = j.cd
                    · rw [← hcd] at q1
                      by_cases hcr : k.cr = j.cr
                      · rw [← hcr] at q2
                        by_cases hcw : k.cw = j.cw
                        · rw [← hcw] at q3
                          by_cases hco : k.co = j.co
                          · rw [← hco] at q4
                            have hc : confSame k j = true := by unfold confSame; rw [decide_eq_true_eq]; exact ⟨hcm, hcd, hcr, hcw, hco⟩
                            have HC := Lib.hid hc
                            clear hc
                            by_cases ho : L.o = M.o
                            · have HO : Hid (decide (L.o = M.o) = true) := by show _ = _; simpa using ho
                              rw [← ho] at cv2
                              clear ho
                              by_cases hhere : k.here = j.here
                              · rw [← hhere] at q7
                                by_cases hlast : k.last = j.last
                                · rw [← hlast] at q12
                                  by_cases hfree : k.free = j.free
                                  · rw [← hfree] at q17
                                    by_cases hnext : k.next = j.next
                                    · rw [← hnext] at q18
                                      by_cases harg : k.arg = j.arg
                                      · rw [← harg] at q19
                                        by_cases hself : k.self = j.self
                                        · rw [← hself] at q20
                                          by_cases hnow : k.now = j.now
                                          · rw [← hnow] at q21
                                            have hq : numsSame k j = true := by unfold numsSame; rw [decide_eq_true_eq]; exact ⟨hhere, hlast, hfree, hnext, harg, hself, hnow⟩
                                            have HQ := Lib.hid hq
                                            clear hq
                                            go_wp2_with fail
                                            go_ret
                                            exact ⟨ret_bool (by rw [HF.out]; unfold vSame; rw [H1.out, H2.out, H3.out, H4.out, H5.out, H6.out, H7.out, H8.out, HC.out, HO.out, HQ.out]; rfl), B8.out⟩
                                          · have hq : numsSame k j = false := by unfold numsSame; rw [decide_eq_false_iff_not]; intro x; exact hnow x.2.2.2.2.2.2
                                            have HQ := Lib.hid hq
                                            have n1 : ((k.now : Int) != j.now) = true := by simpa using hnow
                                            have n2 : ((k.now : Int) == j.now) = false := by simpa using hnow
                                            clear hq
                                            go_wp2_with fail
                                            go_ret
                                            exact ⟨ret_bool (by rw [HF.out]; unfold vSame; rw [H1.out, H2.out, H3.out, H4.out, H5.out, H6.out, H7.out, H8.out, HC.out, HO.out, HQ.out]; rfl), B8.out⟩
                                        · have hq : numsSame k j = false := by unfold numsSame; rw [decide_eq_false_iff_not]; intro x; exact hself x.2.2.2.2.2.1
                                          have HQ := Lib.hid hq
                                          have n1 : ((k.self : Int) != j.self) = true := by simpa using hself
                                          have n2 : ((k.self : Int) == j.self) = false := by simpa using hself
                                          clear hq
                                          go_wp2_with fail
                                          go_ret
                                          exact ⟨ret_bool (by rw [HF.out]; unfold vSame; rw [H1.out, H2.out, H3.out, H4.out, H5.out, H6.out, H7.out, H8.out, HC.out, HO.out, HQ.out]; rfl), B8.out⟩
                                      · have hq : numsSame k j = false := by unfold numsSame; rw [decide_eq_false_iff_not]; intro x; exact harg x.2.2.2.2.1
                                        have HQ := Lib.hid hq
                                        have n1 : ((k.arg : Int) != j.arg) = true := by simpa using harg
                                        have n2 : ((k.arg : Int) == j.arg) = false := by simpa using harg
                                        clear hq
                                        go_wp2_with fail
                                        go_ret
                                        exact ⟨ret_bool (by rw [HF.out]; unfold vSame; rw [H1.out, H2.out, H3.out, H4.out, H5.out, H6.out, H7.out, H8.out, HC.out, HO.out, HQ.out]; rfl), B8.out⟩
                                    · have hq : numsSame k j = false := by unfold numsSame; rw [decide_eq_false_iff_not]; intro x; exact hnext x.2.2.2.1
                                      have HQ := Lib.hid hq
                                      have n1 : ((k.next : Int) != j.next) = true := by simpa using hnext
                                      have n2 : ((k.next : Int) == j.next) = false := by simpa using hnext
                                      clear hq
                                      go_wp2_with fail
                                      go_ret
                                      exact ⟨ret_bool (by rw [HF.out]; unfold vSame; rw [H1.out, H2.out, H3.out, H4.out, H5.out, H6.out, H7.out, H8.out, HC.out, HO.out, HQ.out]; rfl), B8.out⟩
                                  · have hq : numsSame k j = false := by unfold numsSame; rw [decide_eq_false_iff_not]; intro x; exact hfree x.2.2.1
                                    have HQ := Lib.hid hq
                                    have n1 : ((k.free : Int) != j.free) = true := by simpa using hfree
                                    have n2 : ((k.free : Int) == j.free) = false := by simpa using hfree
                                    clear hq
                                    go_wp2_with fail
                                    go_ret
                                    exact ⟨ret_bool (by rw [HF.out]; unfold vSame; rw [H1.out, H2.out, H3.out, H4.out, H5.out, H6.out, H7.out, H8.out, HC.out, HO.out, HQ.out]; rfl), B8.out⟩
                                · have hq : numsSame k j = false := by unfold numsSame; rw [decide_eq_false_iff_not]; intro x; exact hlast x.2.1
                                  have HQ := Lib.hid hq
                                  have n1 : ((k.last : Int) != j.last) = true := by simpa using hlast
                                  have n2 : ((k.last : Int) == j.last) = false := by simpa using hlast
                                  clear hq
                                  go_wp2_with fail
                                  go_ret
                                  exact ⟨ret_bool (by rw [HF.out]; unfold vSame; rw [H1.out, H2.out, H3.out, H4.out, H5.out, H6.out, H7.out, H8.out, HC.out, HO.out, HQ.out]; rfl), B8.out⟩
                              · have hq : numsSame k j = false := by unfold numsSame; rw [decide_eq_false_iff_not]; intro x; exact hhere x.1
                                have HQ := Lib.hid hq
                                have n1 : ((k.here : Int) != j.here) = true := by simpa using hhere
                                have n2 : ((k.here : Int) == j.here) = false := by simpa using hhere
                                clear hq
                                go_wp2_with fail
                                go_ret
                                exact ⟨ret_bool (by rw [HF.out]; unfold vSame; rw [H1.out, H2.out, H3.out, H4.out, H5.out, H6.out, H7.out, H8.out, HC.out, HO.out, HQ.out]; rfl), B8.out⟩
                            · have HO : Hid (decide (L.o = M.o) = false) := by show _ = _; simpa using ho
                              have hne := str_ne (a := strB L.o) (b := strB M.o) (fun e => ho (strB_inj e))
                              have hne2 := str_neq (a := strB L.o) (b := strB M.o) (fun e => ho (strB_inj e))
                              clear ho
                              go_wp2_with fail
                              go_ret
                              exact ⟨ret_bool (by rw [HF.out]; unfold vSame; rw [H1.out, H2.out, H3.out, H4.out, H5.out, H6.out, H7.out, H8.out, HC.out, HO.out]; rfl), B8.out⟩
                          · have hc : confSame k j = false := by unfold confSame; rw [decide_eq_false_iff_not]; intro x; exact hco x.2.2.2.2
                            have HC := Lib.hid hc
                            have n1 : ((k.co : Int) != j.co) = true := by simpa using hco
                            have n2 : ((k.co : Int) == j.co) = false := by simpa using hco
                            clear hc
                            go_wp2_with fail
                            go_ret
                            exact ⟨ret_bool (by rw [HF.out]; unfold vSame; rw [H1.out, H2.out, H3.out, H4.out, H5.out, H6.out, H7.out, H8.out, HC.out]; rfl), B8.out⟩
                        · have hc : confSame k j = false := by unfold confSame; rw [decide_eq_false_iff_not]; intro x; exact hcw x.2.2.2.1
                          have HC := Lib.hid hc
                          have n1 : ((k.cw : Int) != j.cw) = true := by simpa using hcw
                          have n2 : ((k.cw : Int) == j.cw) = false := by simpa using hcw
                          clear hc
                          go_wp2_with fail
                          go_ret
                          exact ⟨ret_bool (by rw [HF.out]; unfold vSame; rw [H1.out, H2.out, H3.out, H4.out, H5.out, H6.out, H7.out, H8.out, HC.out]; rfl), B8.out⟩
                      · have hc : confSame k j = false := by unfold confSame; rw [decide_eq_false_iff_not]; intro x; exact hcr x.2.2.1
                        have HC := Lib.hid hc
                        have n1 : ((k.cr : Int) != j.cr) = true := by simpa using hcr
                        have n2 : ((k.cr : Int) == j.cr) = false := by simpa using hcr
                        clear hc
                        go_wp2_with fail
                        go_ret
                        exact ⟨ret_bool (by rw [HF.out]; unfold vSame; rw [H1.out, H2.out, H3.out, H4.out, H5.out, H6.out, H7.out, H8.out, HC.out]; rfl), B8.out⟩
                    · have hc : confSame k j = false := by unfold confSame; rw [decide_eq_false_iff_not]; intro x; exact hcd x.2.1
                      have HC := Lib.hid hc
                      have n1 : ((k.cd : Int) != j.cd) = true := by simpa using hcd
                      have n2 : ((k.cd : Int) == j.cd) = false := by simpa using hcd
                      clear hc
                      go_wp2_with fail
                      go_ret
                      exact ⟨ret_bool (by rw [HF.out]; unfold vSame; rw [H1.out, H2.out, H3.out, H4.out, H5.out, H6.out, H7.out, H8.out, HC.out]; rfl), B8.out⟩
                  · have hc : confSame k j = false := by unfold confSame; rw [decide_eq_false_iff_not]; intro x; exact hcm x.1
                    have HC := Lib.hid hc
                    have n1 : ((k.cm : Int) != j.cm) = true := by simpa using hcm
                    have n2 : ((k.cm : Int) == j.cm) = false := by simpa using hcm
                    clear hc
                    go_wp2_with fail
                    go_ret
                    exact ⟨ret_bool (by rw [HF.out]; unfold vSame; rw [H1.out, H2.out, H3.out, H4.out, H5.out, H6.out, H7.out, H8.out, HC.out]; rfl), B8.out⟩
end Go.Proofs.YtbighilgkmfemaaGreatDoor
