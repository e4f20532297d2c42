/- What the arguments of layer 8's statements hold. -/
import Derived.Test.YtakeaocmiblbeaaLexShown
import Derived.Test.YtakeaocmiblbeaaMemOpen
import Derived.Test.YtakeaocmiblbeaaMemIn
import Derived.ChangeMaps5
namespace Go.Proofs.Ytakeaocmiblbeaa
open Go.ChangeShapes Go.WideShapes Go.ChangeAt Go.RowKit Go.Joins Go.Deep
set_option linter.unusedVariables false
set_option linter.unusedSimpArgs false

theorem u8_of {c : Int} (h : (Lit.int .u8 c).wf = true) : ∃ b : UInt8, c = (b.toNat : Int) := by
  obtain ⟨h0, h1⟩ := wf_u8 h
  refine ⟨UInt8.ofNat c.toNat, ?_⟩
  rw [UInt8.toNat_ofNat']
  omega
section
variable {H : Type} {enc : TypeId × Value → H} {w : World}
set_option maxRecDepth 100000 in
theorem open_lexTellsIn {fuel : Nat} {cs : List Value} {x : DataW H × List MemPlace} (h : DataW.trod enc Try.prog w 0 (fun _ => true) true fuel 23 cs = some x) : ∃ s_s s_t j_p j_c, cs = [.string (strB s_s), .string (strB s_t), .int .i64 j_p, .int .u8 j_c] ∧ s_s.length ≤ 9223372036854775807 ∧ s_t.length ≤ 9223372036854775807 ∧ (Lit.int .i64 j_p).wf = true ∧ (Lit.int .u8 j_c).wf = true := by
  obtain ⟨ys, n, _, _, hlen, hyl, hf⟩ := DataW.trod_struct Try.underlying23 h
  have h2 : cs.length = 4 := hlen.trans (by kernel_rfl)
  have hy2 : ys.length = 4 := hyl
  match cs, h2 with
  | [c0, c1, c2, c3], _ =>
    have f0 : DataW.trod enc Try.prog w 0 (fun _ => true) true n 9 (([c0, c1, c2, c3].drop 0).take (Try.prog.cellsOf 9)) = ys[0]? := hf 0 _ rfl
    rw [show Try.prog.cellsOf 9 = 1 by kernel_rfl] at f0
    rw [show ys[0]? = some (ys[0]'(by omega)) from List.getElem?_eq_getElem _] at f0
    have f1 : DataW.trod enc Try.prog w 0 (fun _ => true) true n 9 (([c0, c1, c2, c3].drop 1).take (Try.prog.cellsOf 9)) = ys[1]? := hf 1 _ rfl
    rw [show Try.prog.cellsOf 9 = 1 by kernel_rfl] at f1
    rw [show ys[1]? = some (ys[1]'(by omega)) from List.getElem?_eq_getElem _] at f1
    have f2 : DataW.trod enc Try.prog w 0 (fun _ => true) true n 3 (([c0, c1, c2, c3].drop 2).take (Try.prog.cellsOf 3)) = ys[2]? := hf 2 _ rfl
    rw [show Try.prog.cellsOf 3 = 1 by kernel_rfl] at f2
    rw [show ys[2]? = some (ys[2]'(by omega)) from List.getElem?_eq_getElem _] at f2
    have f3 : DataW.trod enc Try.prog w 0 (fun _ => true) true n 5 (([c0, c1, c2, c3].drop 3).take (Try.prog.cellsOf 5)) = ys[3]? := hf 3 _ rfl
    rw [show Try.prog.cellsOf 5 = 1 by kernel_rfl] at f3
    rw [show ys[3]? = some (ys[3]'(by omega)) from List.getElem?_eq_getElem _] at f3
    obtain ⟨p0, e0, _, w0⟩ := DataW.trod_string Try.underlying9 f0
    have e0' : c0 = .string p0 := by simpa using e0
    subst e0'
    obtain ⟨q0, rfl⟩ : ∃ l, p0 = strB l := ⟨_, (strB_of p0).symm⟩
    have hw0 : q0.length ≤ 9223372036854775807 := Nat.le_trans w0 (by decide)
    obtain ⟨p1, e1, _, w1⟩ := DataW.trod_string Try.underlying9 f1
    have e1' : c1 = .string p1 := by simpa using e1
    subst e1'
    obtain ⟨q1, rfl⟩ : ∃ l, p1 = strB l := ⟨_, (strB_of p1).symm⟩
    have hw1 : q1.length ≤ 9223372036854775807 := Nat.le_trans w1 (by decide)
    obtain ⟨p2, e2, _, w2⟩ := DataW.trod_int Try.underlying3 f2
    have e2' : c2 = .int .i64 p2 := by simpa using e2
    subst e2'
    obtain ⟨p3, e3, _, w3⟩ := DataW.trod_int Try.underlying5 f3
    have e3' : c3 = .int .u8 p3 := by simpa using e3
    subst e3'
    exact ⟨q0, q1, p2, p3, rfl, hw0, hw1, w2, w3⟩
end
end Go.Proofs.Ytakeaocmiblbeaa
