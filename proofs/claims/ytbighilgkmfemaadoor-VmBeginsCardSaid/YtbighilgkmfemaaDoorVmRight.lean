/- Which machines are right: the document's Right. -/
import Derived.Test.YtbighilgkmfemaaDoorVmHolds
namespace Go.Proofs.YtbighilgkmfemaaDoor
open Go.RowKit
set_option linter.unusedVariables false
set_option linter.unusedSimpArgs false

def headB (k : VmK) : Bool := decide ((k.mn : Int) = k.cm ∧ 1368 ≤ k.here ∧ k.here ≤ k.cm)
def frB (q : Fm) : Bool := decide (0 ≤ q.d ∧ q.d ≤ 256 ∧ 0 ≤ q.r ∧ q.r ≤ 256)
def hnB (q : Hn) : Bool := decide (0 ≤ q.fuel)
def tailB (k : VmK) : Bool := decide ((k.dn : Int) ≤ k.cd ∧ (k.rn : Int) ≤ k.cr ∧ k.fn ≤ 64 ∧ (k.wn : Int) ≤ k.cw ∧ (k.on : Int) ≤ k.co ∧ k.en ≤ 16 ∧ 0 ≤ k.free ∧ k.free ≤ 64 ∧ 0 ≤ k.next ∧ k.next ≤ 4611686018427387904 ∧ k.hn ≤ 64)
def fitsV (k : VmK) : Bool := fitsB k.cm k.cd k.cr k.cw k.co
/-- Is a machine right? -/
def vRight (k : VmK) (L : VmL) : Bool := fitsV k && (rightB L.m && (dRight L.dict && (pRight k.qo L.q && (headB k && (L.f.all frB && (L.h.all hnB && tailB k))))))
theorem rws_small {α : Type} {enc : α → List Value} {w : World} {A : Option Addr} {n c : Nat} {l : List α} (h : Rws enc w (.slice A n c) l) : n ≤ 9223372036854775807 := by
  have hl := h.len
  obtain ⟨A', c', e, h1, h2, _⟩ := h
  injection e with e1 e2 e3
  unfold maxLen at h2
  omega
theorem vall_take {α : Type} {p : α → Bool} {l : List α} {k : Nat} {c : α} (h : (l.take k).all p = true) (hc : l[k]? = some c) (hp : p c = true) : (l.take (k + 1)).all p = true := by
  rw [List.take_add_one, hc, List.all_append, h]
  simp [hp]
theorem vall_no {α : Type} {p : α → Bool} {l : List α} {k : Nat} {c : α} (hc : l[k]? = some c) (hp : p c = false) : l.all p = false := by
  rw [List.all_eq_false]
  exact ⟨c, List.mem_of_getElem? hc, by simp [hp]⟩
set_option maxRecDepth 100000 in
set_option maxHeartbeats 16000000 in
theorem rvright_any (k : VmK) (L : VmL) (w : World) (HN : Hid (k.wn ≤ 1000000)) (h : IsVm w k L) :
    Calls Tryd.prog 11 #[vmV k] w fun e w' => e = .returned (.bool (vRight k L)) ∧ Below w.heap.size w w' := by
  have kk := al_one w (.cells #[.int .i64 k.cm, .int .i64 k.cd, .int .i64 k.cr, .int .i64 k.cw, .int .i64 k.co, .slice k.mA k.mn k.mc, .slice k.pA k.pn k.pc, .int .i64 k.here, .slice k.dA k.dn k.dc, .slice k.rA k.rn k.rc, .slice k.fA k.fn k.fc, .slice k.wA k.wn k.wc, .int .i64 k.last, .slice k.oA k.on k.oc, .slice k.qA k.qn k.qc, .bool k.qo, .slice k.eA k.en k.ec, .int .i64 k.free, .int .i64 k.next, .int .i64 k.arg, .int .i64 k.self, .int .i64 k.now, .slice k.hA k.hn k.hc] 37)
  have HB := Lib.hid kk
  have HV := Lib.hid (h.keep kk)
  have HP := Lib.hid (vbox_new w k)
  obtain ⟨F, hF⟩ : ∃ F, vRight k L = F := ⟨_, rfl⟩
  have HF : Hid (F = vRight k L) := hF.symm
  rw [hF]
  have HC := Lib.hid (rfits_any k.cm k.cd k.cr k.cw k.co (w.alloc (.cells #[.int .i64 k.cm, .int .i64 k.cd, .int .i64 k.cr, .int .i64 k.cw, .int .i64 k.co, .slice k.mA k.mn k.mc, .slice k.pA k.pn k.pc, .int .i64 k.here, .slice k.dA k.dn k.dc, .slice k.rA k.rn k.rc, .slice k.fA k.fn k.fc, .slice k.wA k.wn k.wc, .int .i64 k.last, .slice k.oA k.on k.oc, .slice k.qA k.qn k.qc, .bool k.qo, .slice k.eA k.en k.ec, .int .i64 k.free, .int .i64 k.next, .int .i64 k.arg, .int .i64 k.self, .int .i64 k.now, .slice k.hA k.hn k.hc] 37)))
  obtain ⟨F1, e1⟩ : ∃ F, fitsB k.cm k.cd k.cr k.cw k.co = F := ⟨_, rfl⟩
  rw [e1] at HC
  have H1 : Hid (fitsV k = F1) := e1
  have hf := h.f.len
  have hh := h.h.len
  have HLF := Lib.hid hf
  have HLH := Lib.hid hh
  clear h kk hF e1 hf hh
  go_enter Tryd.func11, Tryd.ntmps11
  go_wp2_with fail
  refine HC.out.mono ?_
  rintro e w1 ⟨rfl, bb⟩
  have X1 := Lib.hid (HP.out.keep bb)
  have V1 := Lib.hid (HV.out.keep bb)
  have B1 := Lib.hid (below_then HB.out bb)
  clear bb HC HV HP HB
  obtain ⟨p0, p1, p2, p3, p4, p5, p6, p7, p8, p9, p10, p11, p12, p13, p14, p15, p16, p17, p18, p19, p20, p21, p22⟩ := X1.out.use
  have HC := Lib.hid (rright_at k.mA k.pA k.mn k.mc k.pn k.pc L.m _ (Lib.hid V1.out.m))
  obtain ⟨F2, ef⟩ : ∃ F, rightB L.m = F := ⟨_, rfl⟩
  rw [ef] at HC
  have H2 := Lib.hid ef
  clear ef
  go_wp2_with fail
  refine HC.out.mono ?_
  rintro e w2 ⟨rfl, bb⟩
  have X2 := Lib.hid (X1.out.keep bb)
  have V2 := Lib.hid (V1.out.keep bb)
  have B2 := Lib.hid (below_then B1.out bb)
  clear bb HC X1 V1 B1 p0 p1 p2 p3 p4 p5 p6 p7 p8 p9 p10 p11 p12 p13 p14 p15 p16 p17 p18 p19 p20 p21 p22
  obtain ⟨p0, p1, p2, p3, p4, p5, p6, p7, p8, p9, p10, p11, p12, p13, p14, p15, p16, p17, p18, p19, p20, p21, p22⟩ := X2.out.use
  have HC := Lib.hid (rright_anyL k.wA k.wn k.wc L.dict _ V2.out.dict (by have := HN.out; omega))
  obtain ⟨F3, ef⟩ : ∃ F, dRight L.dict = F := ⟨_, rfl⟩
  rw [ef] at HC
  have H3 := Lib.hid ef
  clear ef
  go_wp2_with fail
  refine HC.out.mono ?_
  rintro e w3 ⟨rfl, bb⟩
  have X3 := Lib.hid (X2.out.keep bb)
  have V3 := Lib.hid (V2.out.keep bb)
  have B3 := Lib.hid (below_then B2.out bb)
  clear bb HC X2 V2 B2 p0 p1 p2 p3 p4 p5 p6 p7 p8 p9 p10 p11 p12 p13 p14 p15 p16 p17 p18 p19 p20 p21 p22
  obtain ⟨p0, p1, p2, p3, p4, p5, p6, p7, p8, p9, p10, p11, p12, p13, p14, p15, p16, p17, p18, p19, p20, p21, p22⟩ := X3.out.use
  have HC := Lib.hid (rright_any k.qA k.qn k.qc k.qo L.q _ V3.out.q)
  obtain ⟨F4, ef⟩ : ∃ F, pRight k.qo L.q = F := ⟨_, rfl⟩
  rw [ef] at HC
  have H4 := Lib.hid ef
  clear ef
  go_wp2_with fail
  refine HC.out.mono ?_
  rintro e w4 ⟨rfl, bb⟩
  have X4 := Lib.hid (X3.out.keep bb)
  have V4 := Lib.hid (V3.out.keep bb)
  have B4 := Lib.hid (below_then B3.out bb)
  clear bb HC X3 V3 B3 p0 p1 p2 p3 p4 p5 p6 p7 p8 p9 p10 p11 p12 p13 p14 p15 p16 p17 p18 p19 p20 p21 p22
  obtain ⟨p0, p1, p2, p3, p4, p5, p6, p7, p8, p9, p10, p11, p12, p13, p14, p15, p16, p17, p18, p19, p20, p21, p22⟩ := X4.out.use
  cases F1 with
  | false =>
    go_wp2
    all_goals go_ret
    all_goals exact ⟨ret_bool (by rw [HF.out]; unfold vRight; rw [H1.out]; rfl), B4.out⟩
  | true =>
    cases F2 with
    | false =>
      go_wp2
      all_goals go_ret
      all_goals exact ⟨ret_bool (by rw [HF.out]; unfold vRight; rw [H1.out, H2.out]; rfl), B4.out⟩
    | true =>
      cases F3 with
      | false =>
        go_wp2
        all_goals go_ret
        all_goals exact ⟨ret_bool (by rw [HF.out]; unfold vRight; rw [H1.out, H2.out, H3.out]; rfl), B4.out⟩
      | true =>
        cases F4 with
        | false =>
          go_wp2
          all_goals go_ret
          all_goals exact ⟨ret_bool (by rw [HF.out]; unfold vRight; rw [H1.out, H2.out, H3.out, H4.out]; rfl), B4.out⟩
        | true =>
          cases hd : headB k with
          | false =>
            have H5 := Lib.hid hd
            have hn : ¬ ((k.mn : Int) = k.cm ∧ 1368 ≤ k.here ∧ k.here ≤ k.cm) := by unfold headB at hd; simpa using hd
            by_cases g1 : (k.mn : Int) = k.cm
            · have g1a : ((k.mn : Int) != k.cm) = false := by simp [g1]
              have g1b : ((k.mn : Int) == k.cm) = true := by simp [g1]
              by_cases g2 : k.here < 1368
              · clear hn hd g1
                go_wp2
                all_goals go_ret
                all_goals exact ⟨ret_bool (by rw [HF.out]; unfold vRight; rw [H1.out, H2.out, H3.out, H4.out, H5.out]; rfl), B4.out⟩
              · have g2a : decide (k.here < 1368) = false := by simp; omega
                have g3 : k.cm < k.here := by omega
                clear hn hd g1 g2
                go_wp2
                all_goals go_ret
                all_goals exact ⟨ret_bool (by rw [HF.out]; unfold vRight; rw [H1.out, H2.out, H3.out, H4.out, H5.out]; rfl), B4.out⟩
            · have g1a : ((k.mn : Int) != k.cm) = true := by simpa using g1
              have g1b : ((k.mn : Int) == k.cm) = false := by simpa using g1
              clear hn hd g1
              go_wp2
              all_goals go_ret
              all_goals exact ⟨ret_bool (by rw [HF.out]; unfold vRight; rw [H1.out, H2.out, H3.out, H4.out, H5.out]; rfl), B4.out⟩
          | true =>
            have H5 := Lib.hid hd
            have hy : (k.mn : Int) = k.cm ∧ 1368 ≤ k.here ∧ k.here ≤ k.cm := by unfold headB at hd; simpa using hd
            have g1a : ((k.mn : Int) != k.cm) = false := by simp [hy.1]
            have g1b : ((k.mn : Int) == k.cm) = true := by simp [hy.1]
            have g2a : decide (k.here < 1368) = false := by simp; omega
            have g3a : decide (k.cm < k.here) = false := by simp; omega
            clear hd hy
            go_wp2_with fail
            have hfb := rws_small V4.out.f
            clear p0 p1 p2 p3 p4 p5 p6 p7 p8 p9 p10 p11 p12 p13 p14 p15 p16 p17 p18 p19 p20 p21 p22
            go_loopw [7] (fun s7 wr => ∃ (i : Nat), s7 = .int .i64 (i : Int) ∧ i ≤ k.fn ∧ Hid ((L.f.take i).all frB = true) ∧ Hid (Below w4.heap.size w4 wr)) (fun s7 _ => k.fn - (intOf s7).toNat)
            case atStart => exact ⟨0, rfl, Nat.zero_le _, Lib.hid rfl, Lib.hid (Below.refl _ _)⟩
            case round =>
              obtain ⟨i, rfl, hi, HT, HW⟩ := hrel
              have XR := Lib.hid (X4.out.keep HW.out)
              obtain ⟨p0, p1, p2, p3, p4, p5, p6, p7, p8, p9, p10, p11, p12, p13, p14, p15, p16, p17, p18, p19, p20, p21, p22⟩ := XR.out.use
              by_cases hif : i < k.fn
              · have hif' : (i : Int) < (k.fn : Int) := by omega
                obtain ⟨g, o, hA, c1, c2, c3⟩ := fm_cells (V4.out.f.keep HW.out) (k := i) (by have := HLF.out; omega)
                have hq : L.f[i]? = some (L.f[i]'(by have := HLF.out; omega)) := List.getElem?_eq_getElem _
                obtain ⟨q, eq⟩ : ∃ q, L.f[i]'(by have := HLF.out; omega) = q := ⟨_, rfl⟩
                rw [eq] at c1 c2 c3 hq
                rw [hA] at p10
                have HQ := Lib.hid hq
                have HBW := Lib.hid (below_then B4.out HW.out)
                clear hA hq eq
                cases hb : frB q with
                | true =>
                  have hb' : 0 ≤ q.d ∧ q.d ≤ 256 ∧ 0 ≤ q.r ∧ q.r ≤ 256 := by unfold frB at hb; simpa using hb
                  have HT2 := Lib.hid (vall_take HT.out HQ.out hb)
                  have n_0 : decide (q.d < 0) = false := by simp; omega
                  have n_1 : decide (256 < q.d) = false := by simp; omega
                  have n_2 : decide (q.r < 0) = false := by simp; omega
                  have n_3 : decide (256 < q.r) = false := by simp; omega
                  clear hb hb' HT
                  go_wp2_with fail
                  go_roundw
                  case rel => exact ⟨i + 1, by simp, by omega, HT2, HW⟩
                  case measure => simp [intOf]; omega
                | false =>
                  have hb' : ¬ (0 ≤ q.d ∧ q.d ≤ 256 ∧ 0 ≤ q.r ∧ q.r ≤ 256) := by unfold frB at hb; simpa using hb
                  have H6 : Hid (F = false) := by show _ = _; rw [HF.out]; unfold vRight; rw [H1.out, H2.out, H3.out, H4.out, H5.out, vall_no HQ.out hb]; rfl
                  clear hb HT
                  by_cases m0 : q.d < 0
                  · clear hb'
                    go_wp2_with fail
                    go_ret
                    exact ⟨ret_bool H6.out.symm, HBW.out⟩
                  · have n_0 : decide (q.d < 0) = false := by simp; omega
                    by_cases m1 : 256 < q.d
                    · clear hb'
                      go_wp2_with fail
                      go_ret
                      exact ⟨ret_bool H6.out.symm, HBW.out⟩
                    · have n_1 : decide (256 < q.d) = false := by simp; omega
                      by_cases m2 : q.r < 0
                      · clear hb'
                        go_wp2_with fail
                        go_ret
                        exact ⟨ret_bool H6.out.symm, HBW.out⟩
                      · have n_2 : decide (q.r < 0) = false := by simp; omega
                        have m3 : 256 < q.r := by omega
                        clear hb'
                        go_wp2_with fail
                        go_ret
                        exact ⟨ret_bool H6.out.symm, HBW.out⟩
              · obtain rfl : i = k.fn := by omega
                rw [show L.f.take k.fn = L.f by rw [← HLF.out, List.take_length]] at HT
                have X5 := XR
                have V5 := Lib.hid (V4.out.keep HW.out)
                have B5 := Lib.hid (below_then B4.out HW.out)
                have H6 := HT
                have hhb := rws_small V4.out.h
                clear hif hi HW XR HT X4 V4 B4
                go_wp2_with fail
                clear p0 p1 p2 p3 p4 p5 p6 p7 p8 p9 p10 p11 p12 p13 p14 p15 p16 p17 p18 p19 p20 p21 p22
                go_loopw [8] (fun s7 wz => ∃ (i : Nat), s7 = .int .i64 (i : Int) ∧ i ≤ k.hn ∧ Hid ((L.h.take i).all hnB = true) ∧ Hid (Below wr.heap.size wr wz)) (fun s7 _ => k.hn - (intOf s7).toNat)
                case atStart => exact ⟨0, rfl, Nat.zero_le _, Lib.hid rfl, Lib.hid (Below.refl _ _)⟩
                case round =>
                  obtain ⟨i, rfl, hi, HT, HW⟩ := hrel
                  have XR := Lib.hid (X5.out.keep HW.out)
                  obtain ⟨p0, p1, p2, p3, p4, p5, p6, p7, p8, p9, p10, p11, p12, p13, p14, p15, p16, p17, p18, p19, p20, p21, p22⟩ := XR.out.use
                  by_cases hif : i < k.hn
                  · have hif' : (i : Int) < (k.hn : Int) := by omega
                    obtain ⟨g, o, hA, c1, c2, c3, c4⟩ := hn_cells (V5.out.h.keep HW.out) (k := i) (by have := HLH.out; omega)
                    have hq : L.h[i]? = some (L.h[i]'(by have := HLH.out; omega)) := List.getElem?_eq_getElem _
                    obtain ⟨q, eq⟩ : ∃ q, L.h[i]'(by have := HLH.out; omega) = q := ⟨_, rfl⟩
                    rw [eq] at c1 c2 c3 c4 hq
                    rw [hA] at p22
                    have HQ := Lib.hid hq
                    have HBW := Lib.hid (below_then B5.out HW.out)
                    clear hA hq eq
                    cases hb : hnB q with
                    | true =>
                      have hb' : 0 ≤ q.fuel := by unfold hnB at hb; simpa using hb
                      have HT2 := Lib.hid (vall_take HT.out HQ.out hb)
                      have n_0 : decide (q.fuel < 0) = false := by simp; omega
                      clear hb hb' HT
                      go_wp2_with fail
                      go_roundw
                      case rel => exact ⟨i + 1, by simp, by omega, HT2, HW⟩
                      case measure => simp [intOf]; omega
                    | false =>
                      have hb' : ¬ (0 ≤ q.fuel) := by unfold hnB at hb; simpa using hb
                      have H6 : Hid (F = false) := by show _ = _; rw [HF.out]; unfold vRight; rw [H1.out, H2.out, H3.out, H4.out, H5.out, H6.out, vall_no HQ.out hb]; rfl
                      clear hb HT
                      have m0 : q.fuel < 0 := by omega
                      clear hb'
                      go_wp2_with fail
                      go_ret
                      exact ⟨ret_bool H6.out.symm, HBW.out⟩
                  · obtain rfl : i = k.hn := by omega
                    rw [show L.h.take k.hn = L.h by rw [← HLH.out, List.take_length]] at HT
                    have H8 : Hid (F = tailB k) := by show _ = _; rw [HF.out]; unfold vRight; rw [H1.out, H2.out, H3.out, H4.out, H5.out, H6.out, HT.out]; rfl
                    have B6 := Lib.hid (below_then B5.out HW.out)
                    clear hif hi HT HF H1 H2 H3 H4 H5 H6 HLF HLH
                    go_upto_region 17 with fail
                    simp only [List.append_eq, List.cons_append, List.nil_append]
                    by_cases t0 : (k.dn : Int) ≤ k.cd
                    · skip
                      by_cases t1 : (k.rn : Int) ≤ k.cr
                      · skip
                        by_cases t2 : (k.fn : Int) ≤ 64
                        · skip
                          by_cases t3 : (k.wn : Int) ≤ k.cw
                          · skip
                            by_cases t4 : (k.on : Int) ≤ k.co
                            · skip
                              by_cases t5 : (k.en : Int) ≤ 16
                              · skip
                                by_cases t6 : 0 ≤ k.free
                                · skip
                                  by_cases t7 : k.free ≤ 64
                                  · skip
                                    by_cases t8 : 0 ≤ k.next
                                    · skip
                                      by_cases t9 : k.next ≤ 4611686018427387904
                                      · skip
                                        by_cases t10 : (k.hn : Int) ≤ 64
                                        · skip
                                          have H9 : Hid (F = true) := by show _ = _; rw [H8.out]; unfold tailB; rw [decide_eq_true_eq]; omega
                                          go_wp2_with fail
                                          go_ret
                                          exact ⟨ret_bool H9.out.symm, B6.out⟩
                                        · have H9 : Hid (F = false) := by show _ = _; rw [H8.out]; unfold tailB; rw [decide_eq_false_iff_not]; omega
                                          have u10 : decide ((k.hn : Int) ≤ 64) = false := by simp; omega
                                          clear t10
                                          go_wp2_with fail
                                          go_ret
                                          exact ⟨ret_bool H9.out.symm, B6.out⟩
                                      · have H9 : Hid (F = false) := by show _ = _; rw [H8.out]; unfold tailB; rw [decide_eq_false_iff_not]; omega
                                        have u9 : decide (k.next ≤ 4611686018427387904) = false := by simp; omega
                                        clear t9
                                        go_wp2_with fail
                                        go_ret
                                        exact ⟨ret_bool H9.out.symm, B6.out⟩
                                    · have H9 : Hid (F = false) := by show _ = _; rw [H8.out]; unfold tailB; rw [decide_eq_false_iff_not]; omega
                                      have u8 : decide (0 ≤ k.next) = false := by simp; omega
                                      clear t8
                                      go_wp2_with fail
                                      go_ret
                                      exact ⟨ret_bool H9.out.symm, B6.out⟩
                                  · have H9 : Hid (F = false) := by show _ = _; rw [H8.out]; unfold tailB; rw [decide_eq_false_iff_not]; omega
                                    have u7 : decide (k.free ≤ 64) = false := by simp; omega
                                    clear t7
                                    go_wp2_with fail
                                    go_ret
                                    exact ⟨ret_bool H9.out.symm, B6.out⟩
                                · have H9 : Hid (F = false) := by show _ = _; rw [H8.out]; unfold tailB; rw [decide_eq_false_iff_not]; omega
                                  have u6 : decide (0 ≤ k.free) = false := by simp; omega
                                  clear t6
                                  go_wp2_with fail
                                  go_ret
                                  exact ⟨ret_bool H9.out.symm, B6.out⟩
                              · have H9 : Hid (F = false) := by show _ = _; rw [H8.out]; unfold tailB; rw [decide_eq_false_iff_not]; omega
                                have u5 : decide ((k.en : Int) ≤ 16) = false := by simp; omega
                                clear t5
                                go_wp2_with fail
                                go_ret
                                exact ⟨ret_bool H9.out.symm, B6.out⟩
                            · have H9 : Hid (F = false) := by show _ = _; rw [H8.out]; unfold tailB; rw [decide_eq_false_iff_not]; omega
                              have u4 : decide ((k.on : Int) ≤ k.co) = false := by simp; omega
                              clear t4
                              go_wp2_with fail
                              go_ret
                              exact ⟨ret_bool H9.out.symm, B6.out⟩
                          · have H9 : Hid (F = false) := by show _ = _; rw [H8.out]; unfold tailB; rw [decide_eq_false_iff_not]; omega
                            have u3 : decide ((k.wn : Int) ≤ k.cw) = false := by simp; omega
                            clear t3
                            go_wp2_with fail
                            go_ret
                            exact ⟨ret_bool H9.out.symm, B6.out⟩
                        · have H9 : Hid (F = false) := by show _ = _; rw [H8.out]; unfold tailB; rw [decide_eq_false_iff_not]; omega
                          have u2 : decide ((k.fn : Int) ≤ 64) = false := by simp; omega
                          clear t2
                          go_wp2_with fail
                          go_ret
                          exact ⟨ret_bool H9.out.symm, B6.out⟩
                      · have H9 : Hid (F = false) := by show _ = _; rw [H8.out]; unfold tailB; rw [decide_eq_false_iff_not]; omega
                        have u1 : decide ((k.rn : Int) ≤ k.cr) = false := by simp; omega
                        clear t1
                        go_wp2_with fail
                        go_ret
                        exact ⟨ret_bool H9.out.symm, B6.out⟩
                    · have H9 : Hid (F = false) := by show _ = _; rw [H8.out]; unfold tailB; rw [decide_eq_false_iff_not]; omega
                      have u0 : decide ((k.dn : Int) ≤ k.cd) = false := by simp; omega
                      clear t0
                      go_wp2_with fail
                      go_ret
                      exact ⟨ret_bool H9.out.symm, B6.out⟩
end Go.Proofs.YtbighilgkmfemaaDoor
