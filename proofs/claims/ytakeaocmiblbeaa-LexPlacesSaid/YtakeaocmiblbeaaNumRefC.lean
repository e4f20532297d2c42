/- A contract of the document's Parse. -/
import Derived.Test.YtakeaocmiblbeaaNumRefB
import Derived.Deep.DeepCutAuto
import Derived.Deep.Cut
namespace Go.Proofs.Ytakeaocmiblbeaa
open Go.RowKit
set_option linter.unusedVariables false
set_option linter.unusedSimpArgs false

theorem drop_cons {l : List UInt8} {i : Nat} (h : i < l.length) : l.drop i = l[i] :: l.drop (i + 1) := List.drop_eq_getElem_cons h
theorem u8_ne {c : UInt8} {k : Nat} (hk : k < 256) (h : c ≠ UInt8.ofNat k) : ((c.toNat : Int) == (k : Int)) = false := by
  have : c.toNat ≠ k := by
    intro e
    apply h
    rw [← e]
    simp
  simp
  omega
theorem ret_pair {a c : Int} {b d : Bool} (h : a = c) (g : b = d) : Ending.returned (.tuple #[.int .i64 a, .bool b]) = .returned (.tuple #[.int .i64 c, .bool d]) := by rw [h, g]
theorem ix_at (l : List UInt8) (i : Nat) (c : UInt8) (h : l[i]? = some c) : ∀ w, (Instr.index 9 (.string (strB l)) (.int .i64 (i : Int))).run Try.prog w = .ok (.int .u8 (c.toNat : Int)) w := by
  intro w
  have hi := (List.getElem?_eq_some_iff.1 h).1
  have := run_ix l i hi w
  rw [(List.getElem?_eq_some_iff.1 h).2] at this
  exact this
theorem ix_0 {l : List UInt8} {c : UInt8} (h : l[0]? = some c) : ∀ w, (Instr.index 9 (.string (strB l)) (.int .i64 0)).run Try.prog w = .ok (.int .u8 (c.toNat : Int)) w := ix_at l 0 c h
theorem ix_1 {l : List UInt8} {c : UInt8} (h : l[1]? = some c) : ∀ w, (Instr.index 9 (.string (strB l)) (.int .i64 1)).run Try.prog w = .ok (.int .u8 (c.toNat : Int)) w := ix_at l 1 c h
end Go.Proofs.Ytakeaocmiblbeaa
