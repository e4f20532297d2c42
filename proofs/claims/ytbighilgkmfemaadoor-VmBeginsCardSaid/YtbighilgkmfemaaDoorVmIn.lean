/- What a machine that came as an argument holds. -/
import Derived.Test.YtbighilgkmfemaaDoorVmNew
import Derived.Test.YtbighilgkmfemaaDoorVmMay
import Derived.Test.YtbighilgkmfemaaDoorVmSame
import Derived.Test.YtbighilgkmfemaaDoorSetC
import Derived.ProofKit
import Derived.OpenShut
import Derived.ShutString
import Derived.ChangeOld
import Derived.Below
import Derived.Lib.SmallJoins
import Derived.Deep.Slices
import Derived.Deep.Fields
import Derived.Test.YtbighilgkmfemaaDoorSetD
import Derived.ChangeMaps5
namespace Go.Proofs.YtbighilgkmfemaaDoor
open Go.ChangeShapes Go.WideShapes Go.ChangeAt Go.RowKit Go.Joins Go.Deep
set_option linter.unusedVariables false
set_option linter.unusedSimpArgs false

section
variable {H : Type} {enc : TypeId × Value → H} {w : World}
set_option maxRecDepth 100000 in
theorem open_conf {fuel : Nat} {cs : List Value} {x : DataW H × List MemPlace} (h : DataW.trod enc Tryd.prog w 0 (fun _ => true) true fuel 23 cs = some x) : ∃ j_m j_d j_r j_w j_o, cs = [.int .i64 j_m, .int .i64 j_d, .int .i64 j_r, .int .i64 j_w, .int .i64 j_o] ∧ (Lit.int .i64 j_m).wf = true ∧ (Lit.int .i64 j_d).wf = true ∧ (Lit.int .i64 j_r).wf = true ∧ (Lit.int .i64 j_w).wf = true ∧ (Lit.int .i64 j_o).wf = true := by
  obtain ⟨ys, n, _, _, hlen, hyl, hf⟩ := DataW.trod_struct Tryd.underlying23 h
  have h2 : cs.length = 5 := hlen.trans (by kernel_rfl)
  have hy2 : ys.length = 5 := hyl
  match cs, h2 with
  | [c0, c1, c2, c3, c4], _ =>
    have f0 : DataW.trod enc Tryd.prog w 0 (fun _ => true) true n 3 (([c0, c1, c2, c3, c4].drop 0).take (Tryd.prog.cellsOf 3)) = ys[0]? := hf 0 _ rfl
    rw [show Tryd.prog.cellsOf 3 = 1 by kernel_rfl] at f0
    rw [show ys[0]? = some (ys[0]'(by omega)) from List.getElem?_eq_getElem _] at f0
    have f1 : DataW.trod enc Tryd.prog w 0 (fun _ => true) true n 3 (([c0, c1, c2, c3, c4].drop 1).take (Tryd.prog.cellsOf 3)) = ys[1]? := hf 1 _ rfl
    rw [show Tryd.prog.cellsOf 3 = 1 by kernel_rfl] at f1
    rw [show ys[1]? = some (ys[1]'(by omega)) from List.getElem?_eq_getElem _] at f1
    have f2 : DataW.trod enc Tryd.prog w 0 (fun _ => true) true n 3 (([c0, c1, c2, c3, c4].drop 2).take (Tryd.prog.cellsOf 3)) = ys[2]? := hf 2 _ rfl
    rw [show Tryd.prog.cellsOf 3 = 1 by kernel_rfl] at f2
    rw [show ys[2]? = some (ys[2]'(by omega)) from List.getElem?_eq_getElem _] at f2
    have f3 : DataW.trod enc Tryd.prog w 0 (fun _ => true) true n 3 (([c0, c1, c2, c3, c4].drop 3).take (Tryd.prog.cellsOf 3)) = ys[3]? := hf 3 _ rfl
    rw [show Tryd.prog.cellsOf 3 = 1 by kernel_rfl] at f3
    rw [show ys[3]? = some (ys[3]'(by omega)) from List.getElem?_eq_getElem _] at f3
    have f4 : DataW.trod enc Tryd.prog w 0 (fun _ => true) true n 3 (([c0, c1, c2, c3, c4].drop 4).take (Tryd.prog.cellsOf 3)) = ys[4]? := hf 4 _ rfl
    rw [show Tryd.prog.cellsOf 3 = 1 by kernel_rfl] at f4
    rw [show ys[4]? = some (ys[4]'(by omega)) from List.getElem?_eq_getElem _] at f4
    obtain ⟨p0, e0, _, w0⟩ := DataW.trod_int Tryd.underlying3 f0
    have e0' : c0 = .int .i64 p0 := by simpa using e0
    subst e0'
    obtain ⟨p1, e1, _, w1⟩ := DataW.trod_int Tryd.underlying3 f1
    have e1' : c1 = .int .i64 p1 := by simpa using e1
    subst e1'
    obtain ⟨p2, e2, _, w2⟩ := DataW.trod_int Tryd.underlying3 f2
    have e2' : c2 = .int .i64 p2 := by simpa using e2
    subst e2'
    obtain ⟨p3, e3, _, w3⟩ := DataW.trod_int Tryd.underlying3 f3
    have e3' : c3 = .int .i64 p3 := by simpa using e3
    subst e3'
    obtain ⟨p4, e4, _, w4⟩ := DataW.trod_int Tryd.underlying3 f4
    have e4' : c4 = .int .i64 p4 := by simpa using e4
    subst e4'
    exact ⟨p0, p1, p2, p3, p4, rfl, w0, w1, w2, w3, w4⟩
end
end Go.Proofs.YtbighilgkmfemaaDoor
