/- What the struct arguments of layer 3's statements hold. -/
import Derived.Test.YtngmkbbeafefaaaMemOpen
namespace Go.Proofs.Ytngmkbbeafefaaa
open Go.ChangeShapes Go.WideShapes Go.ChangeAt Go.RowKit Go.Joins Go.Deep
set_option linter.unusedVariables false
set_option linter.unusedSimpArgs false

theorem Byt.slice {w : World} {v : Value} {l : List UInt8} (h : Byt w v l) : ∃ A n c, v = .slice A n c := by
  obtain ⟨A, c, e, _⟩ := h
  exact ⟨A, _, c, e⟩
theorem wf_i64 {n : Int} (h : (Lit.int .i64 n).wf = true) : -9223372036854775808 ≤ n ∧ n ≤ 9223372036854775807 := by
  simp only [Lit.wf, IntKind.min, IntKind.max, IntKind.signed, IntKind.bits, Bool.and_eq_true, decide_eq_true_eq] at h
  simpa using h
theorem wf_u8 {n : Int} (h : (Lit.int .u8 n).wf = true) : 0 ≤ n ∧ n ≤ 255 := by
  simp only [Lit.wf, IntKind.min, IntKind.max, IntKind.signed, IntKind.bits, Bool.and_eq_true, decide_eq_true_eq] at h
  simpa using h
theorem wf_u16 {n : Int} (h : (Lit.int .u16 n).wf = true) : 0 ≤ n ∧ n ≤ 65535 := by
  simp only [Lit.wf, IntKind.min, IntKind.max, IntKind.signed, IntKind.bits, Bool.and_eq_true, decide_eq_true_eq] at h
  simpa using h
theorem Byt.cap {w : World} {A : Option Addr} {n c : Nat} {l : List UInt8} (h : Byt w (.slice A n c) l) : n ≤ 9223372036854775807 := by
  obtain ⟨A', c', e, h1, h2, _⟩ := h
  injection e with _ e _
  have h3 : maxLen ≤ 9223372036854775807 := by decide
  omega
section
variable {H : Type} {enc : TypeId × Value → H} {w : World}
set_option maxRecDepth 100000 in
theorem open_memTellsIn {fuel : Nat} {cs : List Value} {x : DataW H × List MemPlace} (h : DataW.trod enc Try.prog w 0 (fun _ => true) true fuel 27 cs = some x) : ∃ A_m L_m c_m P_m K_m d_m m_m A_o L_o c_o P_o K_o d_o m_o j_p j_n, cs = [.slice A_m L_m c_m, .slice P_m K_m d_m, .slice A_o L_o c_o, .slice P_o K_o d_o, .int .i64 j_p, .int .i64 j_n] ∧ IsMem w (.agg #[.slice A_m L_m c_m, .slice P_m K_m d_m]) m_m ∧ IsMem w (.agg #[.slice A_o L_o c_o, .slice P_o K_o d_o]) m_o ∧ (Lit.int .i64 j_p).wf = true ∧ (Lit.int .i64 j_n).wf = true := by
  obtain ⟨ys, n, _, _, hlen, hyl, hf⟩ := DataW.trod_struct Try.underlying27 h
  have h2 : cs.length = 6 := hlen.trans (by kernel_rfl)
  have hy2 : ys.length = 4 := hyl
  match cs, h2 with
  | [c0, c1, c2, c3, c4, c5], _ =>
    have f0 : DataW.trod enc Try.prog w 0 (fun _ => true) true n 25 (([c0, c1, c2, c3, c4, c5].drop 0).take (Try.prog.cellsOf 25)) = ys[0]? := hf 0 _ rfl
    rw [show Try.prog.cellsOf 25 = 2 by kernel_rfl] at f0
    rw [show ys[0]? = some (ys[0]'(by omega)) from List.getElem?_eq_getElem _] at f0
    have f1 : DataW.trod enc Try.prog w 0 (fun _ => true) true n 25 (([c0, c1, c2, c3, c4, c5].drop 2).take (Try.prog.cellsOf 25)) = ys[1]? := hf 1 _ rfl
    rw [show Try.prog.cellsOf 25 = 2 by kernel_rfl] at f1
    rw [show ys[1]? = some (ys[1]'(by omega)) from List.getElem?_eq_getElem _] at f1
    have f2 : DataW.trod enc Try.prog w 0 (fun _ => true) true n 3 (([c0, c1, c2, c3, c4, c5].drop 4).take (Try.prog.cellsOf 3)) = ys[2]? := hf 2 _ rfl
    rw [show Try.prog.cellsOf 3 = 1 by kernel_rfl] at f2
    rw [show ys[2]? = some (ys[2]'(by omega)) from List.getElem?_eq_getElem _] at f2
    have f3 : DataW.trod enc Try.prog w 0 (fun _ => true) true n 3 (([c0, c1, c2, c3, c4, c5].drop 5).take (Try.prog.cellsOf 3)) = ys[3]? := hf 3 _ rfl
    rw [show Try.prog.cellsOf 3 = 1 by kernel_rfl] at f3
    rw [show ys[3]? = some (ys[3]'(by omega)) from List.getElem?_eq_getElem _] at f3
    obtain ⟨A0, L0, g0, P0, K0, d0, m0, e0, hm0⟩ := open_mem f0
    obtain ⟨rfl, rfl⟩ : c0 = .slice A0 L0 g0 ∧ c1 = .slice P0 K0 d0 := by simpa using e0
    obtain ⟨A1, L1, g1, P1, K1, d1, m1, e1, hm1⟩ := open_mem f1
    obtain ⟨rfl, rfl⟩ : c2 = .slice A1 L1 g1 ∧ c3 = .slice P1 K1 d1 := by simpa using e1
    obtain ⟨p2, e2, _, w2⟩ := DataW.trod_int Try.underlying3 f2
    have e2' : c4 = .int .i64 p2 := by simpa using e2
    subst e2'
    obtain ⟨p3, e3, _, w3⟩ := DataW.trod_int Try.underlying3 f3
    have e3' : c5 = .int .i64 p3 := by simpa using e3
    subst e3'
    exact ⟨A0, L0, g0, P0, K0, d0, m0, A1, L1, g1, P1, K1, d1, m1, p2, p3, rfl, hm0, hm1, w2, w3⟩
set_option maxRecDepth 100000 in
theorem open_memTextsIn {fuel : Nat} {cs : List Value} {x : DataW H × List MemPlace} (h : DataW.trod enc Try.prog w 0 (fun _ => true) true fuel 45 cs = some x) : ∃ A_m L_m c_m P_m K_m d_m m_m j_p j_t j_n B_b l_b e_b b_b, cs = [.slice A_m L_m c_m, .slice P_m K_m d_m, .int .i64 j_p, .int .i64 j_t, .int .i64 j_n, .slice B_b l_b e_b] ∧ IsMem w (.agg #[.slice A_m L_m c_m, .slice P_m K_m d_m]) m_m ∧ (Lit.int .i64 j_p).wf = true ∧ (Lit.int .i64 j_t).wf = true ∧ (Lit.int .i64 j_n).wf = true ∧ Byt w (.slice B_b l_b e_b) b_b := by
  obtain ⟨ys, n, _, _, hlen, hyl, hf⟩ := DataW.trod_struct Try.underlying45 h
  have h2 : cs.length = 6 := hlen.trans (by kernel_rfl)
  have hy2 : ys.length = 5 := hyl
  match cs, h2 with
  | [c0, c1, c2, c3, c4, c5], _ =>
    have f0 : DataW.trod enc Try.prog w 0 (fun _ => true) true n 25 (([c0, c1, c2, c3, c4, c5].drop 0).take (Try.prog.cellsOf 25)) = ys[0]? := hf 0 _ rfl
    rw [show Try.prog.cellsOf 25 = 2 by kernel_rfl] at f0
    rw [show ys[0]? = some (ys[0]'(by omega)) from List.getElem?_eq_getElem _] at f0
    have f1 : DataW.trod enc Try.prog w 0 (fun _ => true) true n 3 (([c0, c1, c2, c3, c4, c5].drop 2).take (Try.prog.cellsOf 3)) = ys[1]? := hf 1 _ rfl
    rw [show Try.prog.cellsOf 3 = 1 by kernel_rfl] at f1
    rw [show ys[1]? = some (ys[1]'(by omega)) from List.getElem?_eq_getElem _] at f1
    have f2 : DataW.trod enc Try.prog w 0 (fun _ => true) true n 3 (([c0, c1, c2, c3, c4, c5].drop 3).take (Try.prog.cellsOf 3)) = ys[2]? := hf 2 _ rfl
    rw [show Try.prog.cellsOf 3 = 1 by kernel_rfl] at f2
    rw [show ys[2]? = some (ys[2]'(by omega)) from List.getElem?_eq_getElem _] at f2
    have f3 : DataW.trod enc Try.prog w 0 (fun _ => true) true n 3 (([c0, c1, c2, c3, c4, c5].drop 4).take (Try.prog.cellsOf 3)) = ys[3]? := hf 3 _ rfl
    rw [show Try.prog.cellsOf 3 = 1 by kernel_rfl] at f3
    rw [show ys[3]? = some (ys[3]'(by omega)) from List.getElem?_eq_getElem _] at f3
    have f4 : DataW.trod enc Try.prog w 0 (fun _ => true) true n 22 (([c0, c1, c2, c3, c4, c5].drop 5).take (Try.prog.cellsOf 22)) = ys[4]? := hf 4 _ rfl
    rw [show Try.prog.cellsOf 22 = 1 by kernel_rfl] at f4
    rw [show ys[4]? = some (ys[4]'(by omega)) from List.getElem?_eq_getElem _] at f4
    obtain ⟨A0, L0, g0, P0, K0, d0, m0, e0, hm0⟩ := open_mem f0
    obtain ⟨rfl, rfl⟩ : c0 = .slice A0 L0 g0 ∧ c1 = .slice P0 K0 d0 := by simpa using e0
    obtain ⟨p1, e1, _, w1⟩ := DataW.trod_int Try.underlying3 f1
    have e1' : c2 = .int .i64 p1 := by simpa using e1
    subst e1'
    obtain ⟨p2, e2, _, w2⟩ := DataW.trod_int Try.underlying3 f2
    have e2' : c3 = .int .i64 p2 := by simpa using e2
    subst e2'
    obtain ⟨p3, e3, _, w3⟩ := DataW.trod_int Try.underlying3 f3
    have e3' : c4 = .int .i64 p3 := by simpa using e3
    subst e3'
    obtain ⟨b4, hb4⟩ := open_byt f4
    obtain ⟨B4, l4, z4, e4⟩ := hb4.slice
    have e4' : c5 = .slice B4 l4 z4 := e4
    subst e4'
    exact ⟨A0, L0, g0, P0, K0, d0, m0, p1, p2, p3, B4, l4, z4, b4, rfl, hm0, w1, w2, w3, hb4⟩
set_option maxRecDepth 100000 in
theorem open_memHoldsIn {fuel : Nat} {cs : List Value} {x : DataW H × List MemPlace} (h : DataW.trod enc Try.prog w 0 (fun _ => true) true fuel 65 cs = some x) : ∃ A_m L_m c_m P_m K_m d_m m_m j_p j_n B_b l_b e_b b_b j_o, cs = [.slice A_m L_m c_m, .slice P_m K_m d_m, .int .i64 j_p, .int .i64 j_n, .slice B_b l_b e_b, .int .i64 j_o] ∧ IsMem w (.agg #[.slice A_m L_m c_m, .slice P_m K_m d_m]) m_m ∧ (Lit.int .i64 j_p).wf = true ∧ (Lit.int .i64 j_n).wf = true ∧ Byt w (.slice B_b l_b e_b) b_b ∧ (Lit.int .i64 j_o).wf = true := by
  obtain ⟨ys, n, _, _, hlen, hyl, hf⟩ := DataW.trod_struct Try.underlying65 h
  have h2 : cs.length = 6 := hlen.trans (by kernel_rfl)
  have hy2 : ys.length = 5 := hyl
  match cs, h2 with
  | [c0, c1, c2, c3, c4, c5], _ =>
    have f0 : DataW.trod enc Try.prog w 0 (fun _ => true) true n 25 (([c0, c1, c2, c3, c4, c5].drop 0).take (Try.prog.cellsOf 25)) = ys[0]? := hf 0 _ rfl
    rw [show Try.prog.cellsOf 25 = 2 by kernel_rfl] at f0
    rw [show ys[0]? = some (ys[0]'(by omega)) from List.getElem?_eq_getElem _] at f0
    have f1 : DataW.trod enc Try.prog w 0 (fun _ => true) true n 3 (([c0, c1, c2, c3, c4, c5].drop 2).take (Try.prog.cellsOf 3)) = ys[1]? := hf 1 _ rfl
    rw [show Try.prog.cellsOf 3 = 1 by kernel_rfl] at f1
    rw [show ys[1]? = some (ys[1]'(by omega)) from List.getElem?_eq_getElem _] at f1
    have f2 : DataW.trod enc Try.prog w 0 (fun _ => true) true n 3 (([c0, c1, c2, c3, c4, c5].drop 3).take (Try.prog.cellsOf 3)) = ys[2]? := hf 2 _ rfl
    rw [show Try.prog.cellsOf 3 = 1 by kernel_rfl] at f2
    rw [show ys[2]? = some (ys[2]'(by omega)) from List.getElem?_eq_getElem _] at f2
    have f3 : DataW.trod enc Try.prog w 0 (fun _ => true) true n 22 (([c0, c1, c2, c3, c4, c5].drop 4).take (Try.prog.cellsOf 22)) = ys[3]? := hf 3 _ rfl
    rw [show Try.prog.cellsOf 22 = 1 by kernel_rfl] at f3
    rw [show ys[3]? = some (ys[3]'(by omega)) from List.getElem?_eq_getElem _] at f3
    have f4 : DataW.trod enc Try.prog w 0 (fun _ => true) true n 3 (([c0, c1, c2, c3, c4, c5].drop 5).take (Try.prog.cellsOf 3)) = ys[4]? := hf 4 _ rfl
    rw [show Try.prog.cellsOf 3 = 1 by kernel_rfl] at f4
    rw [show ys[4]? = some (ys[4]'(by omega)) from List.getElem?_eq_getElem _] at f4
    obtain ⟨A0, L0, g0, P0, K0, d0, m0, e0, hm0⟩ := open_mem f0
    obtain ⟨rfl, rfl⟩ : c0 = .slice A0 L0 g0 ∧ c1 = .slice P0 K0 d0 := by simpa using e0
    obtain ⟨p1, e1, _, w1⟩ := DataW.trod_int Try.underlying3 f1
    have e1' : c2 = .int .i64 p1 := by simpa using e1
    subst e1'
    obtain ⟨p2, e2, _, w2⟩ := DataW.trod_int Try.underlying3 f2
    have e2' : c3 = .int .i64 p2 := by simpa using e2
    subst e2'
    obtain ⟨b3, hb3⟩ := open_byt f3
    obtain ⟨B3, l3, z3, e3⟩ := hb3.slice
    have e3' : c4 = .slice B3 l3 z3 := e3
    subst e3'
    obtain ⟨p4, e4, _, w4⟩ := DataW.trod_int Try.underlying3 f4
    have e4' : c5 = .int .i64 p4 := by simpa using e4
    subst e4'
    exact ⟨A0, L0, g0, P0, K0, d0, m0, p1, p2, B3, l3, z3, b3, p4, rfl, hm0, w1, w2, hb3, w4⟩
set_option maxRecDepth 100000 in
theorem open_memMovesIn {fuel : Nat} {cs : List Value} {x : DataW H × List MemPlace} (h : DataW.trod enc Try.prog w 0 (fun _ => true) true fuel 69 cs = some x) : ∃ A_m L_m c_m P_m K_m d_m m_m j_f j_t j_n j_c, cs = [.slice A_m L_m c_m, .slice P_m K_m d_m, .int .u16 j_f, .int .u16 j_t, .int .u8 j_n, .int .i64 j_c] ∧ IsMem w (.agg #[.slice A_m L_m c_m, .slice P_m K_m d_m]) m_m ∧ (Lit.int .u16 j_f).wf = true ∧ (Lit.int .u16 j_t).wf = true ∧ (Lit.int .u8 j_n).wf = true ∧ (Lit.int .i64 j_c).wf = true := by
  obtain ⟨ys, n, _, _, hlen, hyl, hf⟩ := DataW.trod_struct Try.underlying69 h
  have h2 : cs.length = 6 := hlen.trans (by kernel_rfl)
  have hy2 : ys.length = 5 := hyl
  match cs, h2 with
  | [c0, c1, c2, c3, c4, c5], _ =>
    have f0 : DataW.trod enc Try.prog w 0 (fun _ => true) true n 25 (([c0, c1, c2, c3, c4, c5].drop 0).take (Try.prog.cellsOf 25)) = ys[0]? := hf 0 _ rfl
    rw [show Try.prog.cellsOf 25 = 2 by kernel_rfl] at f0
    rw [show ys[0]? = some (ys[0]'(by omega)) from List.getElem?_eq_getElem _] at f0
    have f1 : DataW.trod enc Try.prog w 0 (fun _ => true) true n 67 (([c0, c1, c2, c3, c4, c5].drop 2).take (Try.prog.cellsOf 67)) = ys[1]? := hf 1 _ rfl
    rw [show Try.prog.cellsOf 67 = 1 by kernel_rfl] at f1
    rw [show ys[1]? = some (ys[1]'(by omega)) from List.getElem?_eq_getElem _] at f1
    have f2 : DataW.trod enc Try.prog w 0 (fun _ => true) true n 67 (([c0, c1, c2, c3, c4, c5].drop 3).take (Try.prog.cellsOf 67)) = ys[2]? := hf 2 _ rfl
    rw [show Try.prog.cellsOf 67 = 1 by kernel_rfl] at f2
    rw [show ys[2]? = some (ys[2]'(by omega)) from List.getElem?_eq_getElem _] at f2
    have f3 : DataW.trod enc Try.prog w 0 (fun _ => true) true n 5 (([c0, c1, c2, c3, c4, c5].drop 4).take (Try.prog.cellsOf 5)) = ys[3]? := hf 3 _ rfl
    rw [show Try.prog.cellsOf 5 = 1 by kernel_rfl] at f3
    rw [show ys[3]? = some (ys[3]'(by omega)) from List.getElem?_eq_getElem _] at f3
    have f4 : DataW.trod enc Try.prog w 0 (fun _ => true) true n 3 (([c0, c1, c2, c3, c4, c5].drop 5).take (Try.prog.cellsOf 3)) = ys[4]? := hf 4 _ rfl
    rw [show Try.prog.cellsOf 3 = 1 by kernel_rfl] at f4
    rw [show ys[4]? = some (ys[4]'(by omega)) from List.getElem?_eq_getElem _] at f4
    obtain ⟨A0, L0, g0, P0, K0, d0, m0, e0, hm0⟩ := open_mem f0
    obtain ⟨rfl, rfl⟩ : c0 = .slice A0 L0 g0 ∧ c1 = .slice P0 K0 d0 := by simpa using e0
    obtain ⟨p1, e1, _, w1⟩ := DataW.trod_int Try.underlying67 f1
    have e1' : c2 = .int .u16 p1 := by simpa using e1
    subst e1'
    obtain ⟨p2, e2, _, w2⟩ := DataW.trod_int Try.underlying67 f2
    have e2' : c3 = .int .u16 p2 := by simpa using e2
    subst e2'
    obtain ⟨p3, e3, _, w3⟩ := DataW.trod_int Try.underlying5 f3
    have e3' : c4 = .int .u8 p3 := by simpa using e3
    subst e3'
    obtain ⟨p4, e4, _, w4⟩ := DataW.trod_int Try.underlying3 f4
    have e4' : c5 = .int .i64 p4 := by simpa using e4
    subst e4'
    exact ⟨A0, L0, g0, P0, K0, d0, m0, p1, p2, p3, p4, rfl, hm0, w1, w2, w3, w4⟩
set_option maxRecDepth 100000 in
theorem open_memTwoIn {fuel : Nat} {cs : List Value} {x : DataW H × List MemPlace} (h : DataW.trod enc Try.prog w 0 (fun _ => true) true fuel 73 cs = some x) : ∃ A_m L_m c_m P_m K_m d_m m_m j_p j_t B_b l_b e_b b_b B_c l_c e_c b_c, cs = [.slice A_m L_m c_m, .slice P_m K_m d_m, .int .i64 j_p, .int .i64 j_t, .slice B_b l_b e_b, .slice B_c l_c e_c] ∧ IsMem w (.agg #[.slice A_m L_m c_m, .slice P_m K_m d_m]) m_m ∧ (Lit.int .i64 j_p).wf = true ∧ (Lit.int .i64 j_t).wf = true ∧ Byt w (.slice B_b l_b e_b) b_b ∧ Byt w (.slice B_c l_c e_c) b_c := by
  obtain ⟨ys, n, _, _, hlen, hyl, hf⟩ := DataW.trod_struct Try.underlying73 h
  have h2 : cs.length = 6 := hlen.trans (by kernel_rfl)
  have hy2 : ys.length = 5 := hyl
  match cs, h2 with
  | [c0, c1, c2, c3, c4, c5], _ =>
    have f0 : DataW.trod enc Try.prog w 0 (fun _ => true) true n 25 (([c0, c1, c2, c3, c4, c5].drop 0).take (Try.prog.cellsOf 25)) = ys[0]? := hf 0 _ rfl
    rw [show Try.prog.cellsOf 25 = 2 by kernel_rfl] at f0
    rw [show ys[0]? = some (ys[0]'(by omega)) from List.getElem?_eq_getElem _] at f0
    have f1 : DataW.trod enc Try.prog w 0 (fun _ => true) true n 3 (([c0, c1, c2, c3, c4, c5].drop 2).take (Try.prog.cellsOf 3)) = ys[1]? := hf 1 _ rfl
    rw [show Try.prog.cellsOf 3 = 1 by kernel_rfl] at f1
    rw [show ys[1]? = some (ys[1]'(by omega)) from List.getElem?_eq_getElem _] at f1
    have f2 : DataW.trod enc Try.prog w 0 (fun _ => true) true n 3 (([c0, c1, c2, c3, c4, c5].drop 3).take (Try.prog.cellsOf 3)) = ys[2]? := hf 2 _ rfl
    rw [show Try.prog.cellsOf 3 = 1 by kernel_rfl] at f2
    rw [show ys[2]? = some (ys[2]'(by omega)) from List.getElem?_eq_getElem _] at f2
    have f3 : DataW.trod enc Try.prog w 0 (fun _ => true) true n 22 (([c0, c1, c2, c3, c4, c5].drop 4).take (Try.prog.cellsOf 22)) = ys[3]? := hf 3 _ rfl
    rw [show Try.prog.cellsOf 22 = 1 by kernel_rfl] at f3
    rw [show ys[3]? = some (ys[3]'(by omega)) from List.getElem?_eq_getElem _] at f3
    have f4 : DataW.trod enc Try.prog w 0 (fun _ => true) true n 22 (([c0, c1, c2, c3, c4, c5].drop 5).take (Try.prog.cellsOf 22)) = ys[4]? := hf 4 _ rfl
    rw [show Try.prog.cellsOf 22 = 1 by kernel_rfl] at f4
    rw [show ys[4]? = some (ys[4]'(by omega)) from List.getElem?_eq_getElem _] at f4
    obtain ⟨A0, L0, g0, P0, K0, d0, m0, e0, hm0⟩ := open_mem f0
    obtain ⟨rfl, rfl⟩ : c0 = .slice A0 L0 g0 ∧ c1 = .slice P0 K0 d0 := by simpa using e0
    obtain ⟨p1, e1, _, w1⟩ := DataW.trod_int Try.underlying3 f1
    have e1' : c2 = .int .i64 p1 := by simpa using e1
    subst e1'
    obtain ⟨p2, e2, _, w2⟩ := DataW.trod_int Try.underlying3 f2
    have e2' : c3 = .int .i64 p2 := by simpa using e2
    subst e2'
    obtain ⟨b3, hb3⟩ := open_byt f3
    obtain ⟨B3, l3, z3, e3⟩ := hb3.slice
    have e3' : c4 = .slice B3 l3 z3 := e3
    subst e3'
    obtain ⟨b4, hb4⟩ := open_byt f4
    obtain ⟨B4, l4, z4, e4⟩ := hb4.slice
    have e4' : c5 = .slice B4 l4 z4 := e4
    subst e4'
    exact ⟨A0, L0, g0, P0, K0, d0, m0, p1, p2, B3, l3, z3, b3, B4, l4, z4, b4, rfl, hm0, w1, w2, hb3, hb4⟩
end
end Go.Proofs.Ytngmkbbeafefaaa
