/- What the struct arguments of layer 5's statements hold. -/
import Derived.Test.YtekfemkoiadipaaSpcShown
import Derived.Test.YtekfemkoiadipaaMemIn
namespace Go.Proofs.Ytekfemkoiadipaa
open Go.ChangeShapes Go.WideShapes Go.ChangeAt Go.RowKit Go.Joins Go.Deep
set_option linter.unusedVariables false
set_option linter.unusedSimpArgs false

section
variable {H : Type} {enc : TypeId × Value → H} {w : World}
set_option maxRecDepth 100000 in
theorem open_spcTellsIn {fuel : Nat} {cs : List Value} {x : DataW H × List MemPlace} (h : DataW.trod enc Try.prog w 0 (fun _ => true) true fuel 27 cs = some x) : ∃ A_m L_m c_m P_m K_m d_m m_m j_low j_here j_n B_b l_b e_b b_b, cs = [.slice A_m L_m c_m, .slice P_m K_m d_m, .int .i64 j_low, .int .i64 j_here, .int .i64 j_n, .slice B_b l_b e_b] ∧ IsMem w (.agg #[.slice A_m L_m c_m, .slice P_m K_m d_m]) m_m ∧ (Lit.int .i64 j_low).wf = true ∧ (Lit.int .i64 j_here).wf = true ∧ (Lit.int .i64 j_n).wf = true ∧ Byt w (.slice B_b l_b e_b) b_b := by
  obtain ⟨ys, n, _, _, hlen, hyl, hf⟩ := DataW.trod_struct Try.underlying27 h
  have h2 : cs.length = 6 := hlen.trans (by kernel_rfl)
  have hy2 : ys.length = 5 := hyl
  match cs, h2 with
  | [c0, c1, c2, c3, c4, c5], _ =>
    have f0 : DataW.trod enc Try.prog w 0 (fun _ => true) true n 25 (([c0, c1, c2, c3, c4, c5].drop 0).take (Try.prog.cellsOf 25)) = ys[0]? := hf 0 _ rfl
    rw [show Try.prog.cellsOf 25 = 2 by kernel_rfl] at f0
    rw [show ys[0]? = some (ys[0]'(by omega)) from List.getElem?_eq_getElem _] at f0
    have f1 : DataW.trod enc Try.prog w 0 (fun _ => true) true n 3 (([c0, c1, c2, c3, c4, c5].drop 2).take (Try.prog.cellsOf 3)) = ys[1]? := hf 1 _ rfl
    rw [show Try.prog.cellsOf 3 = 1 by kernel_rfl] at f1
    rw [show ys[1]? = some (ys[1]'(by omega)) from List.getElem?_eq_getElem _] at f1
    have f2 : DataW.trod enc Try.prog w 0 (fun _ => true) true n 3 (([c0, c1, c2, c3, c4, c5].drop 3).take (Try.prog.cellsOf 3)) = ys[2]? := hf 2 _ rfl
    rw [show Try.prog.cellsOf 3 = 1 by kernel_rfl] at f2
    rw [show ys[2]? = some (ys[2]'(by omega)) from List.getElem?_eq_getElem _] at f2
    have f3 : DataW.trod enc Try.prog w 0 (fun _ => true) true n 3 (([c0, c1, c2, c3, c4, c5].drop 4).take (Try.prog.cellsOf 3)) = ys[3]? := hf 3 _ rfl
    rw [show Try.prog.cellsOf 3 = 1 by kernel_rfl] at f3
    rw [show ys[3]? = some (ys[3]'(by omega)) from List.getElem?_eq_getElem _] at f3
    have f4 : DataW.trod enc Try.prog w 0 (fun _ => true) true n 22 (([c0, c1, c2, c3, c4, c5].drop 5).take (Try.prog.cellsOf 22)) = ys[4]? := hf 4 _ rfl
    rw [show Try.prog.cellsOf 22 = 1 by kernel_rfl] at f4
    rw [show ys[4]? = some (ys[4]'(by omega)) from List.getElem?_eq_getElem _] at f4
    obtain ⟨A0, L0, g0, P0, K0, d0, m0, e0, hm0⟩ := open_mem f0
    obtain ⟨rfl, rfl⟩ : c0 = .slice A0 L0 g0 ∧ c1 = .slice P0 K0 d0 := by simpa using e0
    obtain ⟨p1, e1, _, w1⟩ := DataW.trod_int Try.underlying3 f1
    have e1' : c2 = .int .i64 p1 := by simpa using e1
    subst e1'
    obtain ⟨p2, e2, _, w2⟩ := DataW.trod_int Try.underlying3 f2
    have e2' : c3 = .int .i64 p2 := by simpa using e2
    subst e2'
    obtain ⟨p3, e3, _, w3⟩ := DataW.trod_int Try.underlying3 f3
    have e3' : c4 = .int .i64 p3 := by simpa using e3
    subst e3'
    obtain ⟨b4, hb4⟩ := open_byt f4
    obtain ⟨B4, l4, z4, e4⟩ := hb4.slice
    have e4' : c5 = .slice B4 l4 z4 := e4
    subst e4'
    exact ⟨A0, L0, g0, P0, K0, d0, m0, p1, p2, p3, B4, l4, z4, b4, rfl, hm0, w1, w2, w3, hb4⟩
set_option maxRecDepth 100000 in
theorem open_spcMovesIn {fuel : Nat} {cs : List Value} {x : DataW H × List MemPlace} (h : DataW.trod enc Try.prog w 0 (fun _ => true) true fuel 49 cs = some x) : ∃ A_m L_m c_m P_m K_m d_m m_m j_low j_here j_n, cs = [.slice A_m L_m c_m, .slice P_m K_m d_m, .int .i64 j_low, .int .i64 j_here, .int .i64 j_n] ∧ IsMem w (.agg #[.slice A_m L_m c_m, .slice P_m K_m d_m]) m_m ∧ (Lit.int .i64 j_low).wf = true ∧ (Lit.int .i64 j_here).wf = true ∧ (Lit.int .i64 j_n).wf = true := by
  obtain ⟨ys, n, _, _, hlen, hyl, hf⟩ := DataW.trod_struct Try.underlying49 h
  have h2 : cs.length = 5 := hlen.trans (by kernel_rfl)
  have hy2 : ys.length = 4 := hyl
  match cs, h2 with
  | [c0, c1, c2, c3, c4], _ =>
    have f0 : DataW.trod enc Try.prog w 0 (fun _ => true) true n 25 (([c0, c1, c2, c3, c4].drop 0).take (Try.prog.cellsOf 25)) = ys[0]? := hf 0 _ rfl
    rw [show Try.prog.cellsOf 25 = 2 by kernel_rfl] at f0
    rw [show ys[0]? = some (ys[0]'(by omega)) from List.getElem?_eq_getElem _] at f0
    have f1 : DataW.trod enc Try.prog w 0 (fun _ => true) true n 3 (([c0, c1, c2, c3, c4].drop 2).take (Try.prog.cellsOf 3)) = ys[1]? := hf 1 _ rfl
    rw [show Try.prog.cellsOf 3 = 1 by kernel_rfl] at f1
    rw [show ys[1]? = some (ys[1]'(by omega)) from List.getElem?_eq_getElem _] at f1
    have f2 : DataW.trod enc Try.prog w 0 (fun _ => true) true n 3 (([c0, c1, c2, c3, c4].drop 3).take (Try.prog.cellsOf 3)) = ys[2]? := hf 2 _ rfl
    rw [show Try.prog.cellsOf 3 = 1 by kernel_rfl] at f2
    rw [show ys[2]? = some (ys[2]'(by omega)) from List.getElem?_eq_getElem _] at f2
    have f3 : DataW.trod enc Try.prog w 0 (fun _ => true) true n 3 (([c0, c1, c2, c3, c4].drop 4).take (Try.prog.cellsOf 3)) = ys[3]? := hf 3 _ rfl
    rw [show Try.prog.cellsOf 3 = 1 by kernel_rfl] at f3
    rw [show ys[3]? = some (ys[3]'(by omega)) from List.getElem?_eq_getElem _] at f3
    obtain ⟨A0, L0, g0, P0, K0, d0, m0, e0, hm0⟩ := open_mem f0
    obtain ⟨rfl, rfl⟩ : c0 = .slice A0 L0 g0 ∧ c1 = .slice P0 K0 d0 := by simpa using e0
    obtain ⟨p1, e1, _, w1⟩ := DataW.trod_int Try.underlying3 f1
    have e1' : c2 = .int .i64 p1 := by simpa using e1
    subst e1'
    obtain ⟨p2, e2, _, w2⟩ := DataW.trod_int Try.underlying3 f2
    have e2' : c3 = .int .i64 p2 := by simpa using e2
    subst e2'
    obtain ⟨p3, e3, _, w3⟩ := DataW.trod_int Try.underlying3 f3
    have e3' : c4 = .int .i64 p3 := by simpa using e3
    subst e3'
    exact ⟨A0, L0, g0, P0, K0, d0, m0, p1, p2, p3, rfl, hm0, w1, w2, w3⟩
set_option maxRecDepth 100000 in
theorem open_spcCellsIn {fuel : Nat} {cs : List Value} {x : DataW H × List MemPlace} (h : DataW.trod enc Try.prog w 0 (fun _ => true) true fuel 52 cs = some x) : ∃ A_m L_m c_m P_m K_m d_m m_m j_here j_a j_b, cs = [.slice A_m L_m c_m, .slice P_m K_m d_m, .int .i64 j_here, .int .i64 j_a, .int .i64 j_b] ∧ IsMem w (.agg #[.slice A_m L_m c_m, .slice P_m K_m d_m]) m_m ∧ (Lit.int .i64 j_here).wf = true ∧ (Lit.int .i64 j_a).wf = true ∧ (Lit.int .i64 j_b).wf = true := by
  obtain ⟨ys, n, _, _, hlen, hyl, hf⟩ := DataW.trod_struct Try.underlying52 h
  have h2 : cs.length = 5 := hlen.trans (by kernel_rfl)
  have hy2 : ys.length = 4 := hyl
  match cs, h2 with
  | [c0, c1, c2, c3, c4], _ =>
    have f0 : DataW.trod enc Try.prog w 0 (fun _ => true) true n 25 (([c0, c1, c2, c3, c4].drop 0).take (Try.prog.cellsOf 25)) = ys[0]? := hf 0 _ rfl
    rw [show Try.prog.cellsOf 25 = 2 by kernel_rfl] at f0
    rw [show ys[0]? = some (ys[0]'(by omega)) from List.getElem?_eq_getElem _] at f0
    have f1 : DataW.trod enc Try.prog w 0 (fun _ => true) true n 3 (([c0, c1, c2, c3, c4].drop 2).take (Try.prog.cellsOf 3)) = ys[1]? := hf 1 _ rfl
    rw [show Try.prog.cellsOf 3 = 1 by kernel_rfl] at f1
    rw [show ys[1]? = some (ys[1]'(by omega)) from List.getElem?_eq_getElem _] at f1
    have f2 : DataW.trod enc Try.prog w 0 (fun _ => true) true n 3 (([c0, c1, c2, c3, c4].drop 3).take (Try.prog.cellsOf 3)) = ys[2]? := hf 2 _ rfl
    rw [show Try.prog.cellsOf 3 = 1 by kernel_rfl] at f2
    rw [show ys[2]? = some (ys[2]'(by omega)) from List.getElem?_eq_getElem _] at f2
    have f3 : DataW.trod enc Try.prog w 0 (fun _ => true) true n 3 (([c0, c1, c2, c3, c4].drop 4).take (Try.prog.cellsOf 3)) = ys[3]? := hf 3 _ rfl
    rw [show Try.prog.cellsOf 3 = 1 by kernel_rfl] at f3
    rw [show ys[3]? = some (ys[3]'(by omega)) from List.getElem?_eq_getElem _] at f3
    obtain ⟨A0, L0, g0, P0, K0, d0, m0, e0, hm0⟩ := open_mem f0
    obtain ⟨rfl, rfl⟩ : c0 = .slice A0 L0 g0 ∧ c1 = .slice P0 K0 d0 := by simpa using e0
    obtain ⟨p1, e1, _, w1⟩ := DataW.trod_int Try.underlying3 f1
    have e1' : c2 = .int .i64 p1 := by simpa using e1
    subst e1'
    obtain ⟨p2, e2, _, w2⟩ := DataW.trod_int Try.underlying3 f2
    have e2' : c3 = .int .i64 p2 := by simpa using e2
    subst e2'
    obtain ⟨p3, e3, _, w3⟩ := DataW.trod_int Try.underlying3 f3
    have e3' : c4 = .int .i64 p3 := by simpa using e3
    subst e3'
    exact ⟨A0, L0, g0, P0, K0, d0, m0, p1, p2, p3, rfl, hm0, w1, w2, w3⟩
set_option maxRecDepth 100000 in
theorem open_spcJoinsIn {fuel : Nat} {cs : List Value} {x : DataW H × List MemPlace} (h : DataW.trod enc Try.prog w 0 (fun _ => true) true fuel 56 cs = some x) : ∃ A_m L_m c_m P_m K_m d_m m_m j_here B_a l_a e_a b_a B_b l_b e_b b_b, cs = [.slice A_m L_m c_m, .slice P_m K_m d_m, .int .i64 j_here, .slice B_a l_a e_a, .slice B_b l_b e_b] ∧ IsMem w (.agg #[.slice A_m L_m c_m, .slice P_m K_m d_m]) m_m ∧ (Lit.int .i64 j_here).wf = true ∧ Byt w (.slice B_a l_a e_a) b_a ∧ Byt w (.slice B_b l_b e_b) b_b := by
  obtain ⟨ys, n, _, _, hlen, hyl, hf⟩ := DataW.trod_struct Try.underlying56 h
  have h2 : cs.length = 5 := hlen.trans (by kernel_rfl)
  have hy2 : ys.length = 4 := hyl
  match cs, h2 with
  | [c0, c1, c2, c3, c4], _ =>
    have f0 : DataW.trod enc Try.prog w 0 (fun _ => true) true n 25 (([c0, c1, c2, c3, c4].drop 0).take (Try.prog.cellsOf 25)) = ys[0]? := hf 0 _ rfl
    rw [show Try.prog.cellsOf 25 = 2 by kernel_rfl] at f0
    rw [show ys[0]? = some (ys[0]'(by omega)) from List.getElem?_eq_getElem _] at f0
    have f1 : DataW.trod enc Try.prog w 0 (fun _ => true) true n 3 (([c0, c1, c2, c3, c4].drop 2).take (Try.prog.cellsOf 3)) = ys[1]? := hf 1 _ rfl
    rw [show Try.prog.cellsOf 3 = 1 by kernel_rfl] at f1
    rw [show ys[1]? = some (ys[1]'(by omega)) from List.getElem?_eq_getElem _] at f1
    have f2 : DataW.trod enc Try.prog w 0 (fun _ => true) true n 22 (([c0, c1, c2, c3, c4].drop 3).take (Try.prog.cellsOf 22)) = ys[2]? := hf 2 _ rfl
    rw [show Try.prog.cellsOf 22 = 1 by kernel_rfl] at f2
    rw [show ys[2]? = some (ys[2]'(by omega)) from List.getElem?_eq_getElem _] at f2
    have f3 : DataW.trod enc Try.prog w 0 (fun _ => true) true n 22 (([c0, c1, c2, c3, c4].drop 4).take (Try.prog.cellsOf 22)) = ys[3]? := hf 3 _ rfl
    rw [show Try.prog.cellsOf 22 = 1 by kernel_rfl] at f3
    rw [show ys[3]? = some (ys[3]'(by omega)) from List.getElem?_eq_getElem _] at f3
    obtain ⟨A0, L0, g0, P0, K0, d0, m0, e0, hm0⟩ := open_mem f0
    obtain ⟨rfl, rfl⟩ : c0 = .slice A0 L0 g0 ∧ c1 = .slice P0 K0 d0 := by simpa using e0
    obtain ⟨p1, e1, _, w1⟩ := DataW.trod_int Try.underlying3 f1
    have e1' : c2 = .int .i64 p1 := by simpa using e1
    subst e1'
    obtain ⟨b2, hb2⟩ := open_byt f2
    obtain ⟨B2, l2, z2, e2⟩ := hb2.slice
    have e2' : c3 = .slice B2 l2 z2 := e2
    subst e2'
    obtain ⟨b3, hb3⟩ := open_byt f3
    obtain ⟨B3, l3, z3, e3⟩ := hb3.slice
    have e3' : c4 = .slice B3 l3 z3 := e3
    subst e3'
    exact ⟨A0, L0, g0, P0, K0, d0, m0, p1, B2, l2, z2, b2, B3, l3, z3, b3, rfl, hm0, w1, hb2, hb3⟩
end
end Go.Proofs.Ytekfemkoiadipaa
