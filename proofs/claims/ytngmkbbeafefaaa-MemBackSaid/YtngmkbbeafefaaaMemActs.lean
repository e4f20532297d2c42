/- What a row of acts holds. -/
import Derived.Test.YtngmkbbeafefaaaMemIn
import Derived.Test.YtngmkbbeafefaaaMemBackM
namespace Go.Proofs.Ytngmkbbeafefaaa
open Go.ChangeShapes Go.WideShapes Go.ChangeAt Go.RowKit Go.Joins Go.Deep
set_option linter.unusedVariables false
set_option linter.unusedSimpArgs false

/-- An act, as it lies in a row's block. -/
def ActIs (w : World) (g o j : Nat) (a : Do) : Prop := ∃ B nb cb, w.cell? ⟨g, o + j * 5, none⟩ = some (.int .u8 a.1) ∧ w.cell? ⟨g, o + j * 5 + 1, none⟩ = some (.int .i64 a.2.1) ∧ w.cell? ⟨g, o + j * 5 + 2, none⟩ = some (.int .i64 a.2.2.1) ∧ w.cell? ⟨g, o + j * 5 + 3, none⟩ = some (.int .i64 a.2.2.2.1) ∧ w.cell? ⟨g, o + j * 5 + 4, none⟩ = some (.slice B nb cb) ∧ Byt w (.slice B nb cb) a.2.2.2.2 ∧ (0 ≤ a.1 ∧ a.1 ≤ 255) ∧ a.2.2.2.1 ≤ 9223372036854775807
/-- A row of acts. -/
def Acts (w : World) (A : Option Addr) (n c : Nat) (l : List Do) : Prop := l.length = n ∧ n ≤ c ∧ c ≤ 9223372036854775807 ∧ (n = 0 ∨ ∃ g o, A = some ⟨g, o, none⟩ ∧ g < w.heap.size ∧ ∀ (j : Nat) (a : Do), l[j]? = some a → ActIs w g o j a)

section
variable {H : Type} {enc : TypeId × Value → H} {w : World}
set_option maxRecDepth 100000 in
theorem open_act {fuel : Nat} {cs : List Value} {x : DataW H × List MemPlace} (h : DataW.trod enc Try.prog w 0 (fun _ => true) true fuel 61 cs = some x) : ∃ j_k j_p j_t j_n B_b l_b e_b b_b, cs = [.int .u8 j_k, .int .i64 j_p, .int .i64 j_t, .int .i64 j_n, .slice B_b l_b e_b] ∧ (Lit.int .u8 j_k).wf = true ∧ (Lit.int .i64 j_p).wf = true ∧ (Lit.int .i64 j_t).wf = true ∧ (Lit.int .i64 j_n).wf = true ∧ Byt w (.slice B_b l_b e_b) b_b := by
  obtain ⟨ys, n, _, _, hlen, hyl, hf⟩ := DataW.trod_struct Try.underlying61 h
  have h2 : cs.length = 5 := hlen.trans (by kernel_rfl)
  have hy2 : ys.length = 5 := hyl
  match cs, h2 with
  | [c0, c1, c2, c3, c4], _ =>
    have f0 : DataW.trod enc Try.prog w 0 (fun _ => true) true n 5 (([c0, c1, c2, c3, c4].drop 0).take (Try.prog.cellsOf 5)) = ys[0]? := hf 0 _ rfl
    rw [show Try.prog.cellsOf 5 = 1 by kernel_rfl] at f0
    rw [show ys[0]? = some (ys[0]'(by omega)) from List.getElem?_eq_getElem _] at f0
    have f1 : DataW.trod enc Try.prog w 0 (fun _ => true) true n 3 (([c0, c1, c2, c3, c4].drop 1).take (Try.prog.cellsOf 3)) = ys[1]? := hf 1 _ rfl
    rw [show Try.prog.cellsOf 3 = 1 by kernel_rfl] at f1
    rw [show ys[1]? = some (ys[1]'(by omega)) from List.getElem?_eq_getElem _] at f1
    have f2 : DataW.trod enc Try.prog w 0 (fun _ => true) true n 3 (([c0, c1, c2, c3, c4].drop 2).take (Try.prog.cellsOf 3)) = ys[2]? := hf 2 _ rfl
    rw [show Try.prog.cellsOf 3 = 1 by kernel_rfl] at f2
    rw [show ys[2]? = some (ys[2]'(by omega)) from List.getElem?_eq_getElem _] at f2
    have f3 : DataW.trod enc Try.prog w 0 (fun _ => true) true n 3 (([c0, c1, c2, c3, c4].drop 3).take (Try.prog.cellsOf 3)) = ys[3]? := hf 3 _ rfl
    rw [show Try.prog.cellsOf 3 = 1 by kernel_rfl] at f3
    rw [show ys[3]? = some (ys[3]'(by omega)) from List.getElem?_eq_getElem _] at f3
    have f4 : DataW.trod enc Try.prog w 0 (fun _ => true) true n 22 (([c0, c1, c2, c3, c4].drop 4).take (Try.prog.cellsOf 22)) = ys[4]? := hf 4 _ rfl
    rw [show Try.prog.cellsOf 22 = 1 by kernel_rfl] at f4
    rw [show ys[4]? = some (ys[4]'(by omega)) from List.getElem?_eq_getElem _] at f4
    obtain ⟨p0, e0, _, w0⟩ := DataW.trod_int Try.underlying5 f0
    have e0' : c0 = .int .u8 p0 := by simpa using e0
    subst e0'
    obtain ⟨p1, e1, _, w1⟩ := DataW.trod_int Try.underlying3 f1
    have e1' : c1 = .int .i64 p1 := by simpa using e1
    subst e1'
    obtain ⟨p2, e2, _, w2⟩ := DataW.trod_int Try.underlying3 f2
    have e2' : c2 = .int .i64 p2 := by simpa using e2
    subst e2'
    obtain ⟨p3, e3, _, w3⟩ := DataW.trod_int Try.underlying3 f3
    have e3' : c3 = .int .i64 p3 := by simpa using e3
    subst e3'
    obtain ⟨b4, hb4⟩ := open_byt f4
    obtain ⟨B4, l4, z4, e4⟩ := hb4.slice
    have e4' : c4 = .slice B4 l4 z4 := e4
    subst e4'
    exact ⟨p0, p1, p2, p3, B4, l4, z4, b4, rfl, w0, w1, w2, w3, hb4⟩

set_option maxRecDepth 100000 in
theorem open_acts {fuel : Nat} {v : Value} {x : DataW H × List MemPlace} (h : DataW.trod enc Try.prog w 0 (fun _ => true) true fuel 59 [v] = some x) : ∃ A n c l, v = .slice A n c ∧ Acts w A n c l := by
  have hC : Try.prog.cellsOf 61 = 5 := by kernel_rfl
  rcases open_slice Try.underlying59 h with ⟨hcs, _⟩ | ⟨a, len, cap, mm, n, D, Pl, hcs, _, hl, hm, hmm, _, hi⟩
  · simp at hcs
    exact ⟨none, 0, 0, [], hcs, rfl, Nat.le_refl _, by omega, .inl rfl⟩
  · simp at hcs hmm
    rw [hC] at hi
    have hmx : maxLen ≤ 9223372036854775807 := by decide
    obtain ⟨L, hL, hR⟩ := list_of len (fun i (q : Do) => ∃ B nb cb, w.cell? (a.add (i * 5)) = some (.int .u8 q.1) ∧ w.cell? (a.add (i * 5 + 1)) = some (.int .i64 q.2.1) ∧ w.cell? (a.add (i * 5 + 2)) = some (.int .i64 q.2.2.1) ∧ w.cell? (a.add (i * 5 + 3)) = some (.int .i64 q.2.2.2.1) ∧ w.cell? (a.add (i * 5 + 4)) = some (.slice B nb cb) ∧ Byt w (.slice B nb cb) q.2.2.2.2 ∧ (0 ≤ q.1 ∧ q.1 ≤ 255) ∧ q.2.2.2.1 ≤ 9223372036854775807) (fun i hilt => by
      obtain ⟨cs', hc, ht⟩ := hi i (by omega)
      obtain ⟨jk, jp, jt, jn, B, nb, cb, b, rfl, w1, w2, w3, w4, hb⟩ := open_act ht
      obtain ⟨_, _, hat⟩ := World.cells?_some hc
      refine ⟨(jk, jp, jt, jn, b), B, nb, cb, ?_, ?_, ?_, ?_, ?_, hb, wf_u8 w1, (wf_i64 w4).2⟩
      · have := hat 0 (by omega)
        rw [Go.Deep.add_add] at this
        simpa using this
      · have := hat 1 (by omega)
        rw [Go.Deep.add_add] at this
        simpa using this
      · have := hat 2 (by omega)
        rw [Go.Deep.add_add] at this
        simpa using this
      · have := hat 3 (by omega)
        rw [Go.Deep.add_add] at this
        simpa using this
      · have := hat 4 (by omega)
        rw [Go.Deep.add_add] at this
        simpa using this)
    refine ⟨some a, len, cap, L, hcs, hL, hl, by omega, ?_⟩
    by_cases h0 : len = 0
    · exact .inl h0
    · have hL0 : L[0]? = some (L[0]'(by omega)) := List.getElem?_eq_getElem _
      obtain ⟨_, _, _, h00, _⟩ := hR 0 _ hL0
      obtain ⟨b, off, rfl, hb⟩ := plain_of h00
      refine .inr ⟨b, off, rfl, hb, fun j q hq => ?_⟩
      obtain ⟨B, nb, cb, c0, c1, c2, c3, c4, h5, h6, h7⟩ := hR j q hq
      rw [add_at] at c0 c1 c2 c3 c4
      exact ⟨B, nb, cb, c0, c1, c2, c3, c4, h5, h6, h7⟩
end
end Go.Proofs.Ytngmkbbeafefaaa
