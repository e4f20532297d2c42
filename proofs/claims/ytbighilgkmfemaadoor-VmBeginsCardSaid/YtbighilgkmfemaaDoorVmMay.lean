/- Right, and not too much: the document's May. -/
import Derived.Test.YtbighilgkmfemaaDoorVmRight
namespace Go.Proofs.YtbighilgkmfemaaDoor
open Go.RowKit
set_option linter.unusedVariables false
set_option linter.unusedSimpArgs false

theorem wpList_vload {ops : Array Oper} {rest : List Oper} {o : Oper} {a : Act} {Q : Exit → Act → World → Prop} {w : World} (hw : Region.wanted o (yielded ops a.tmps) = true) (x : Operand) (ho : o.op = .load 37 x)
    (b : Nat) (k : VmK) (hx : a.eval x = .pointer (some ⟨b, 0, none⟩)) (hb : VBox w b k) (h : wpList Tryd.prog ops Q rest (a.put o.dst (vmV k)) w) : wpList Tryd.prog ops Q (o :: rest) a w :=
  wpList_step fun K hK => by
    rw [if_pos hw]
    exact wp_load_row 37 x ho b hx _ _ _ _ hb Tryd.underlying37 rfl vm_info (hK _ _ h)
end Go.Proofs.YtbighilgkmfemaaDoor
