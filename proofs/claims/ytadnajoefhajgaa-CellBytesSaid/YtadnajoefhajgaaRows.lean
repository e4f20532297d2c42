/-
  No cell of these rows narrows 'for every input' (looked for: loops, veiled, ifaces, maps, wideKeys, modest, calm, conditions, laid).
  DERIVED. THE GIVEN ROWS OF THIS SEAT. 9 by the template 'for every input the law returns true; each argument reads behind the call as it read before'; 0 by the template 'total and deterministic' (their statements: YtadnajoefhajgaaTotals.lean).
  GIVEN WITH THE SEED: the statements are not yours to turn. If you find one false, say at which input.
  Laid BY PROGRAM, IN A SANDBOX (cutbox-rows.mjs): the forced cells as the released guide's own fill.sh prints them over the translation b42dd6e00fcacde6… (all of the seat's roots in one cut). By AI agents, Wed Nov 11 2026. No macro, syntax, notation, axiom, sorry.
-/
import Derived.Test.YtadnajoefhajgaaChecked
import GoSem.Claim
import GoSem.ClaimJoined
import GoSem.ClaimMapViews
import Derived.JoinedTies
import Derived.KernelRfl
namespace Go.Proofs.Ytadnajoefhajgaa
/- THE CELL 'sum', in the pinned program and in every row, IS THE sha256 OF THE DUMP (.gsa) THAT YtadnajoefhajgaaProg.lean LOADS. Nothing in Lean hashes anything: it is a label: what it is worth is what the hold of that sum in a sandbox is worth. -/
noncomputable def Try.pinned : Pinned := { name := "ytadnajoefhajgaa", sum := "b42dd6e00fcacde637e1adf6e1dda0e3201147b43face1e1eee429fc34531c4a", checked := Try.checked }
namespace Rows
def none {H : Type} : Left H := { results := [], args := [] }

/-- 'detentlaw01.CellBytes': WHATEVER THE INPUT: true; the input reads as it did. -/
def cellBytesSpec : ChangeSpec := { name := "cellBytes", fn := fun _ => fun
  | [d1, d2, d3] => { results := [.lit (.bool true)], args := [d1, d2, d3] }
  | _ => none }
def cellBytesRow : OpenClaim := { program := "ytadnajoefhajgaa", sum := "b42dd6e00fcacde637e1adf6e1dda0e3201147b43face1e1eee429fc34531c4a", func := "detent/detentlaw01.CellBytes", spec := "cellBytes", inPlace := ["math/bits.Sub64"], named := ["math/bits.divideError", "math/bits.overflowError"], apart := false }
def CellBytesSaid : Prop := cellBytesRow.holds Try.pinned (OpenSpec.ofChange cellBytesSpec)

/-- ITS FALSE NEIGHBOUR: 'it returns false'. Refute it at one input. -/
def cellBytesWrong : ChangeSpec := { name := "cellBytes", fn := fun _ => fun
  | [d1, d2, d3] => { results := [.lit (.bool false)], args := [d1, d2, d3] }
  | _ => none }
def CellBytesWrongFalsely : Prop := cellBytesRow.holds Try.pinned (OpenSpec.ofChange cellBytesWrong)

/-- 'detentlaw01.CellReckons': WHATEVER THE INPUT: true; the input reads as it did. -/
def cellReckonsSpec : ChangeSpec := { name := "cellReckons", fn := fun _ => fun
  | [d1, d2] => { results := [.lit (.bool true)], args := [d1, d2] }
  | _ => none }
def cellReckonsRow : OpenClaim := { program := "ytadnajoefhajgaa", sum := "b42dd6e00fcacde637e1adf6e1dda0e3201147b43face1e1eee429fc34531c4a", func := "detent/detentlaw01.CellReckons", spec := "cellReckons", inPlace := ["math/bits.Sub64"], named := ["math/bits.divideError", "math/bits.overflowError"], apart := false }
def CellReckonsSaid : Prop := cellReckonsRow.holds Try.pinned (OpenSpec.ofChange cellReckonsSpec)

/-- ITS FALSE NEIGHBOUR: 'it returns false'. Refute it at one input. -/
def cellReckonsWrong : ChangeSpec := { name := "cellReckons", fn := fun _ => fun
  | [d1, d2] => { results := [.lit (.bool false)], args := [d1, d2] }
  | _ => none }
def CellReckonsWrongFalsely : Prop := cellReckonsRow.holds Try.pinned (OpenSpec.ofChange cellReckonsWrong)

/-- 'detentlaw01.CellDivides': WHATEVER THE INPUT: true; the input reads as it did. -/
def cellDividesSpec : ChangeSpec := { name := "cellDivides", fn := fun _ => fun
  | [d1, d2, d3] => { results := [.lit (.bool true)], args := [d1, d2, d3] }
  | _ => none }
def cellDividesRow : OpenClaim := { program := "ytadnajoefhajgaa", sum := "b42dd6e00fcacde637e1adf6e1dda0e3201147b43face1e1eee429fc34531c4a", func := "detent/detentlaw01.CellDivides", spec := "cellDivides", inPlace := ["math/bits.Sub64"], named := ["math/bits.divideError", "math/bits.overflowError"], apart := false }
def CellDividesSaid : Prop := cellDividesRow.holds Try.pinned (OpenSpec.ofChange cellDividesSpec)

/-- ITS FALSE NEIGHBOUR: 'it returns false'. Refute it at one input. -/
def cellDividesWrong : ChangeSpec := { name := "cellDivides", fn := fun _ => fun
  | [d1, d2, d3] => { results := [.lit (.bool false)], args := [d1, d2, d3] }
  | _ => none }
def CellDividesWrongFalsely : Prop := cellDividesRow.holds Try.pinned (OpenSpec.ofChange cellDividesWrong)

/-- 'detentlaw01.CellBack': WHATEVER THE INPUT: true; the input reads as it did. -/
def cellBackSpec : ChangeSpec := { name := "cellBack", fn := fun _ => fun
  | [d1, d2, d3] => { results := [.lit (.bool true)], args := [d1, d2, d3] }
  | _ => none }
def cellBackRow : OpenClaim := { program := "ytadnajoefhajgaa", sum := "b42dd6e00fcacde637e1adf6e1dda0e3201147b43face1e1eee429fc34531c4a", func := "detent/detentlaw01.CellBack", spec := "cellBack", inPlace := ["math/bits.Sub64"], named := ["math/bits.divideError", "math/bits.overflowError"], apart := false }
def CellBackSaid : Prop := cellBackRow.holds Try.pinned (OpenSpec.ofChange cellBackSpec)

/-- ITS FALSE NEIGHBOUR: 'it returns false'. Refute it at one input. -/
def cellBackWrong : ChangeSpec := { name := "cellBack", fn := fun _ => fun
  | [d1, d2, d3] => { results := [.lit (.bool false)], args := [d1, d2, d3] }
  | _ => none }
def CellBackWrongFalsely : Prop := cellBackRow.holds Try.pinned (OpenSpec.ofChange cellBackWrong)

/-- 'detentlaw01.CellParts': WHATEVER THE INPUT: true; the input reads as it did. -/
def cellPartsSpec : ChangeSpec := { name := "cellParts", fn := fun _ => fun
  | [d1, d2] => { results := [.lit (.bool true)], args := [d1, d2] }
  | _ => none }
def cellPartsRow : OpenClaim := { program := "ytadnajoefhajgaa", sum := "b42dd6e00fcacde637e1adf6e1dda0e3201147b43face1e1eee429fc34531c4a", func := "detent/detentlaw01.CellParts", spec := "cellParts", inPlace := ["math/bits.Sub64"], named := ["math/bits.divideError", "math/bits.overflowError"], apart := false }
def CellPartsSaid : Prop := cellPartsRow.holds Try.pinned (OpenSpec.ofChange cellPartsSpec)

/-- ITS FALSE NEIGHBOUR: 'it returns false'. Refute it at one input. -/
def cellPartsWrong : ChangeSpec := { name := "cellParts", fn := fun _ => fun
  | [d1, d2] => { results := [.lit (.bool false)], args := [d1, d2] }
  | _ => none }
def CellPartsWrongFalsely : Prop := cellPartsRow.holds Try.pinned (OpenSpec.ofChange cellPartsWrong)

/-- 'detentlaw01.CellProducts': WHATEVER THE INPUT: true; the input reads as it did. -/
def cellProductsSpec : ChangeSpec := { name := "cellProducts", fn := fun _ => fun
  | [d1, d2, d3] => { results := [.lit (.bool true)], args := [d1, d2, d3] }
  | _ => none }
def cellProductsRow : OpenClaim := { program := "ytadnajoefhajgaa", sum := "b42dd6e00fcacde637e1adf6e1dda0e3201147b43face1e1eee429fc34531c4a", func := "detent/detentlaw01.CellProducts", spec := "cellProducts", inPlace := ["math/bits.Sub64"], named := ["math/bits.divideError", "math/bits.overflowError"], apart := false }
def CellProductsSaid : Prop := cellProductsRow.holds Try.pinned (OpenSpec.ofChange cellProductsSpec)

/-- ITS FALSE NEIGHBOUR: 'it returns false'. Refute it at one input. -/
def cellProductsWrong : ChangeSpec := { name := "cellProducts", fn := fun _ => fun
  | [d1, d2, d3] => { results := [.lit (.bool false)], args := [d1, d2, d3] }
  | _ => none }
def CellProductsWrongFalsely : Prop := cellProductsRow.holds Try.pinned (OpenSpec.ofChange cellProductsWrong)

/-- 'detentlaw01.CellSides': WHATEVER THE INPUT: true; the input reads as it did. -/
def cellSidesSpec : ChangeSpec := { name := "cellSides", fn := fun _ => fun
  | [d1, d2, d3] => { results := [.lit (.bool true)], args := [d1, d2, d3] }
  | _ => none }
def cellSidesRow : OpenClaim := { program := "ytadnajoefhajgaa", sum := "b42dd6e00fcacde637e1adf6e1dda0e3201147b43face1e1eee429fc34531c4a", func := "detent/detentlaw01.CellSides", spec := "cellSides", inPlace := ["math/bits.Sub64"], named := ["math/bits.divideError", "math/bits.overflowError"], apart := false }
def CellSidesSaid : Prop := cellSidesRow.holds Try.pinned (OpenSpec.ofChange cellSidesSpec)

/-- ITS FALSE NEIGHBOUR: 'it returns false'. Refute it at one input. -/
def cellSidesWrong : ChangeSpec := { name := "cellSides", fn := fun _ => fun
  | [d1, d2, d3] => { results := [.lit (.bool false)], args := [d1, d2, d3] }
  | _ => none }
def CellSidesWrongFalsely : Prop := cellSidesRow.holds Try.pinned (OpenSpec.ofChange cellSidesWrong)

/-- 'detentlaw01.CellOne': WHATEVER THE INPUT: true; the input reads as it did. -/
def cellOneSpec : ChangeSpec := { name := "cellOne", fn := fun _ => fun
  | [d1, d2] => { results := [.lit (.bool true)], args := [d1, d2] }
  | _ => none }
def cellOneRow : OpenClaim := { program := "ytadnajoefhajgaa", sum := "b42dd6e00fcacde637e1adf6e1dda0e3201147b43face1e1eee429fc34531c4a", func := "detent/detentlaw01.CellOne", spec := "cellOne", inPlace := ["math/bits.Sub64"], named := ["math/bits.divideError", "math/bits.overflowError"], apart := false }
def CellOneSaid : Prop := cellOneRow.holds Try.pinned (OpenSpec.ofChange cellOneSpec)

/-- ITS FALSE NEIGHBOUR: 'it returns false'. Refute it at one input. -/
def cellOneWrong : ChangeSpec := { name := "cellOne", fn := fun _ => fun
  | [d1, d2] => { results := [.lit (.bool false)], args := [d1, d2] }
  | _ => none }
def CellOneWrongFalsely : Prop := cellOneRow.holds Try.pinned (OpenSpec.ofChange cellOneWrong)

/-- 'detentlaw01.CellSigns': WHATEVER THE INPUT: true; the input reads as it did. -/
def cellSignsSpec : ChangeSpec := { name := "cellSigns", fn := fun _ => fun
  | [d1, d2] => { results := [.lit (.bool true)], args := [d1, d2] }
  | _ => none }
def cellSignsRow : OpenClaim := { program := "ytadnajoefhajgaa", sum := "b42dd6e00fcacde637e1adf6e1dda0e3201147b43face1e1eee429fc34531c4a", func := "detent/detentlaw01.CellSigns", spec := "cellSigns", inPlace := ["math/bits.Sub64"], named := ["math/bits.divideError", "math/bits.overflowError"], apart := false }
def CellSignsSaid : Prop := cellSignsRow.holds Try.pinned (OpenSpec.ofChange cellSignsSpec)

/-- ITS FALSE NEIGHBOUR: 'it returns false'. Refute it at one input. -/
def cellSignsWrong : ChangeSpec := { name := "cellSigns", fn := fun _ => fun
  | [d1, d2] => { results := [.lit (.bool false)], args := [d1, d2] }
  | _ => none }
def CellSignsWrongFalsely : Prop := cellSignsRow.holds Try.pinned (OpenSpec.ofChange cellSignsWrong)

/- THE SECOND FORM. 'bulk': how many values and letters a reading holds, each counted each time it is reached (what is shared counts as often as it is met; a slice's spare places count too). A statement '..UptoSaid' is the law's where the arguments, and the package variables that the reading takes, are together of bulk at most 1048576: NARROWER than '..Said'. Prove '..Said' where nothing that the law and all that it calls make is longer than what came in: it says more and counts as full. Else prove '..UptoSaid'. A law counts once. -/
mutual
def uptoBulk {H : Type} : DataW H → Nat
  | .lit (.string bytes) => bytes.length + 1
  | .lit _ => 1
  | .nil => 1
  | .ptr d => uptoBulk d + 1
  | .slice elems spare => uptoBulkAll elems + uptoBulkAll spare + 1
  | .agg parts => uptoBulkAll parts + 1
  | .iface _ d => uptoBulk d + 1
  | .map entries => uptoBulkEntries entries + 1
  | .held _ => 1
def uptoBulkAll {H : Type} : List (DataW H) → Nat
  | [] => 0
  | d :: r => uptoBulk d + uptoBulkAll r
def uptoBulkEntries {H : Type} : List (Lit × DataW H) → Nat
  | [] => 0
  | x :: r => uptoBulkEntry x + uptoBulkEntries r
def uptoBulkEntry {H : Type} : Lit × DataW H → Nat
  | (.string bytes, d) => bytes.length + uptoBulk d + 1
  | (_, d) => uptoBulk d + 1
 end
def uptoSmall : (H : Type) → List (DataW H) → Bool := fun _ ds => decide (uptoBulkAll ds ≤ 1048576)
def OpenSpec.upto (s : _root_.Go.ChangeSpec) : _root_.Go.OpenSpec := { _root_.Go.OpenSpec.ofChange s with cond := some uptoSmall }

/-- 'detentlaw01.CellBytes', WHERE WHAT IT READS IS OF BULK AT MOST 1048576: true; the input reads as it did. -/
def cellBytesUptoRow : OpenClaim := { program := "ytadnajoefhajgaa", sum := "b42dd6e00fcacde637e1adf6e1dda0e3201147b43face1e1eee429fc34531c4a", func := "detent/detentlaw01.CellBytes", spec := "cellBytes", inPlace := ["math/bits.Sub64"], named := ["math/bits.divideError", "math/bits.overflowError"], apart := false, narrowed := true }
def CellBytesUptoSaid : Prop := cellBytesUptoRow.holds Try.pinned (OpenSpec.upto cellBytesSpec)

/-- 'detentlaw01.CellReckons', WHERE WHAT IT READS IS OF BULK AT MOST 1048576: true; the input reads as it did. -/
def cellReckonsUptoRow : OpenClaim := { program := "ytadnajoefhajgaa", sum := "b42dd6e00fcacde637e1adf6e1dda0e3201147b43face1e1eee429fc34531c4a", func := "detent/detentlaw01.CellReckons", spec := "cellReckons", inPlace := ["math/bits.Sub64"], named := ["math/bits.divideError", "math/bits.overflowError"], apart := false, narrowed := true }
def CellReckonsUptoSaid : Prop := cellReckonsUptoRow.holds Try.pinned (OpenSpec.upto cellReckonsSpec)

/-- 'detentlaw01.CellDivides', WHERE WHAT IT READS IS OF BULK AT MOST 1048576: true; the input reads as it did. -/
def cellDividesUptoRow : OpenClaim := { program := "ytadnajoefhajgaa", sum := "b42dd6e00fcacde637e1adf6e1dda0e3201147b43face1e1eee429fc34531c4a", func := "detent/detentlaw01.CellDivides", spec := "cellDivides", inPlace := ["math/bits.Sub64"], named := ["math/bits.divideError", "math/bits.overflowError"], apart := false, narrowed := true }
def CellDividesUptoSaid : Prop := cellDividesUptoRow.holds Try.pinned (OpenSpec.upto cellDividesSpec)

/-- 'detentlaw01.CellBack', WHERE WHAT IT READS IS OF BULK AT MOST 1048576: true; the input reads as it did. -/
def cellBackUptoRow : OpenClaim := { program := "ytadnajoefhajgaa", sum := "b42dd6e00fcacde637e1adf6e1dda0e3201147b43face1e1eee429fc34531c4a", func := "detent/detentlaw01.CellBack", spec := "cellBack", inPlace := ["math/bits.Sub64"], named := ["math/bits.divideError", "math/bits.overflowError"], apart := false, narrowed := true }
def CellBackUptoSaid : Prop := cellBackUptoRow.holds Try.pinned (OpenSpec.upto cellBackSpec)

/-- 'detentlaw01.CellParts', WHERE WHAT IT READS IS OF BULK AT MOST 1048576: true; the input reads as it did. -/
def cellPartsUptoRow : OpenClaim := { program := "ytadnajoefhajgaa", sum := "b42dd6e00fcacde637e1adf6e1dda0e3201147b43face1e1eee429fc34531c4a", func := "detent/detentlaw01.CellParts", spec := "cellParts", inPlace := ["math/bits.Sub64"], named := ["math/bits.divideError", "math/bits.overflowError"], apart := false, narrowed := true }
def CellPartsUptoSaid : Prop := cellPartsUptoRow.holds Try.pinned (OpenSpec.upto cellPartsSpec)

/-- 'detentlaw01.CellProducts', WHERE WHAT IT READS IS OF BULK AT MOST 1048576: true; the input reads as it did. -/
def cellProductsUptoRow : OpenClaim := { program := "ytadnajoefhajgaa", sum := "b42dd6e00fcacde637e1adf6e1dda0e3201147b43face1e1eee429fc34531c4a", func := "detent/detentlaw01.CellProducts", spec := "cellProducts", inPlace := ["math/bits.Sub64"], named := ["math/bits.divideError", "math/bits.overflowError"], apart := false, narrowed := true }
def CellProductsUptoSaid : Prop := cellProductsUptoRow.holds Try.pinned (OpenSpec.upto cellProductsSpec)

/-- 'detentlaw01.CellSides', WHERE WHAT IT READS IS OF BULK AT MOST 1048576: true; the input reads as it did. -/
def cellSidesUptoRow : OpenClaim := { program := "ytadnajoefhajgaa", sum := "b42dd6e00fcacde637e1adf6e1dda0e3201147b43face1e1eee429fc34531c4a", func := "detent/detentlaw01.CellSides", spec := "cellSides", inPlace := ["math/bits.Sub64"], named := ["math/bits.divideError", "math/bits.overflowError"], apart := false, narrowed := true }
def CellSidesUptoSaid : Prop := cellSidesUptoRow.holds Try.pinned (OpenSpec.upto cellSidesSpec)

/-- 'detentlaw01.CellOne', WHERE WHAT IT READS IS OF BULK AT MOST 1048576: true; the input reads as it did. -/
def cellOneUptoRow : OpenClaim := { program := "ytadnajoefhajgaa", sum := "b42dd6e00fcacde637e1adf6e1dda0e3201147b43face1e1eee429fc34531c4a", func := "detent/detentlaw01.CellOne", spec := "cellOne", inPlace := ["math/bits.Sub64"], named := ["math/bits.divideError", "math/bits.overflowError"], apart := false, narrowed := true }
def CellOneUptoSaid : Prop := cellOneUptoRow.holds Try.pinned (OpenSpec.upto cellOneSpec)

/-- 'detentlaw01.CellSigns', WHERE WHAT IT READS IS OF BULK AT MOST 1048576: true; the input reads as it did. -/
def cellSignsUptoRow : OpenClaim := { program := "ytadnajoefhajgaa", sum := "b42dd6e00fcacde637e1adf6e1dda0e3201147b43face1e1eee429fc34531c4a", func := "detent/detentlaw01.CellSigns", spec := "cellSigns", inPlace := ["math/bits.Sub64"], named := ["math/bits.divideError", "math/bits.overflowError"], apart := false, narrowed := true }
def CellSignsUptoSaid : Prop := cellSignsUptoRow.holds Try.pinned (OpenSpec.upto cellSignsSpec)

end Rows
end Go.Proofs.Ytadnajoefhajgaa
