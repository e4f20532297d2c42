/-
  No cell of these rows narrows 'for every input' (looked for: loops, veiled, ifaces, maps, wideKeys, modest, calm, conditions, laid).
  DERIVED. THE GIVEN ROWS OF THIS SEAT. 5 by the template 'for every input the law returns true; each argument reads behind the call as it read before'; 0 by the template 'total and deterministic' (their statements: YtjeapcpicagobaaTotals.lean).
  GIVEN WITH THE SEED: the statements are not yours to turn. If you find one false, say at which input.
  Laid BY PROGRAM, IN A SANDBOX (cutbox-rows.mjs): the forced cells as the released guide's own fill.sh prints them over the translation 95b58a816d88b768… (all of the seat's roots in one cut). By AI agents, Wed Nov 11 2026. No macro, syntax, notation, axiom, sorry.
-/
import Derived.Test.YtjeapcpicagobaaChecked
import GoSem.Claim
import GoSem.ClaimJoined
import GoSem.ClaimMapViews
import Derived.JoinedTies
import Derived.KernelRfl
namespace Go.Proofs.Ytjeapcpicagobaa
/- THE CELL 'sum', in the pinned program and in every row, IS THE sha256 OF THE DUMP (.gsa) THAT YtjeapcpicagobaaProg.lean LOADS. Nothing in Lean hashes anything: it is a label: what it is worth is what the hold of that sum in a sandbox is worth. -/
noncomputable def Try.pinned : Pinned := { name := "ytjeapcpicagobaa", sum := "95b58a816d88b768f401e31e5781164df64b48d028bae80d9a939cf2b268ce30", checked := Try.checked }
namespace Rows
def none {H : Type} : Left H := { results := [], args := [] }

/-- 'detentlaw04.StkTells': WHATEVER THE INPUT: true; the input reads as it did. -/
def stkTellsSpec : ChangeSpec := { name := "stkTells", fn := fun _ => fun
  | [d] => { results := [.lit (.bool true)], args := [d] }
  | _ => none }
def stkTellsRow : OpenClaim := { program := "ytjeapcpicagobaa", sum := "95b58a816d88b768f401e31e5781164df64b48d028bae80d9a939cf2b268ce30", func := "detent/detentlaw04.StkTells", spec := "stkTells", inPlace := ["internal/bytealg.IndexByteString", "internal/bytealg.IndexString"], named := ["internal/bytealg.MaxLen"], apart := false }
def StkTellsSaid : Prop := stkTellsRow.holds Try.pinned (OpenSpec.ofChange stkTellsSpec)

/-- ITS FALSE NEIGHBOUR: 'it returns false'. Refute it at one input. -/
def stkTellsWrong : ChangeSpec := { name := "stkTells", fn := fun _ => fun
  | [d] => { results := [.lit (.bool false)], args := [d] }
  | _ => none }
def StkTellsWrongFalsely : Prop := stkTellsRow.holds Try.pinned (OpenSpec.ofChange stkTellsWrong)

/-- 'detentlaw04.StkBelow': WHATEVER THE INPUT: true; the input reads as it did. -/
def stkBelowSpec : ChangeSpec := { name := "stkBelow", fn := fun _ => fun
  | [d1, d2, d3] => { results := [.lit (.bool true)], args := [d1, d2, d3] }
  | _ => none }
def stkBelowRow : OpenClaim := { program := "ytjeapcpicagobaa", sum := "95b58a816d88b768f401e31e5781164df64b48d028bae80d9a939cf2b268ce30", func := "detent/detentlaw04.StkBelow", spec := "stkBelow", inPlace := ["internal/bytealg.IndexByteString", "internal/bytealg.IndexString"], named := ["internal/bytealg.MaxLen"], apart := false }
def StkBelowSaid : Prop := stkBelowRow.holds Try.pinned (OpenSpec.ofChange stkBelowSpec)

/-- ITS FALSE NEIGHBOUR: 'it returns false'. Refute it at one input. -/
def stkBelowWrong : ChangeSpec := { name := "stkBelow", fn := fun _ => fun
  | [d1, d2, d3] => { results := [.lit (.bool false)], args := [d1, d2, d3] }
  | _ => none }
def StkBelowWrongFalsely : Prop := stkBelowRow.holds Try.pinned (OpenSpec.ofChange stkBelowWrong)

/-- 'detentlaw04.StkTurns': WHATEVER THE INPUT: true; the input reads as it did. -/
def stkTurnsSpec : ChangeSpec := { name := "stkTurns", fn := fun _ => fun
  | [d] => { results := [.lit (.bool true)], args := [d] }
  | _ => none }
def stkTurnsRow : OpenClaim := { program := "ytjeapcpicagobaa", sum := "95b58a816d88b768f401e31e5781164df64b48d028bae80d9a939cf2b268ce30", func := "detent/detentlaw04.StkTurns", spec := "stkTurns", inPlace := ["internal/bytealg.IndexByteString", "internal/bytealg.IndexString"], named := ["internal/bytealg.MaxLen"], apart := false }
def StkTurnsSaid : Prop := stkTurnsRow.holds Try.pinned (OpenSpec.ofChange stkTurnsSpec)

/-- ITS FALSE NEIGHBOUR: 'it returns false'. Refute it at one input. -/
def stkTurnsWrong : ChangeSpec := { name := "stkTurns", fn := fun _ => fun
  | [d] => { results := [.lit (.bool false)], args := [d] }
  | _ => none }
def StkTurnsWrongFalsely : Prop := stkTurnsRow.holds Try.pinned (OpenSpec.ofChange stkTurnsWrong)

/-- 'detentlaw04.StkDeep': WHATEVER THE INPUT: true; the input reads as it did. -/
def stkDeepSpec : ChangeSpec := { name := "stkDeep", fn := fun _ => fun
  | [d1, d2] => { results := [.lit (.bool true)], args := [d1, d2] }
  | _ => none }
def stkDeepRow : OpenClaim := { program := "ytjeapcpicagobaa", sum := "95b58a816d88b768f401e31e5781164df64b48d028bae80d9a939cf2b268ce30", func := "detent/detentlaw04.StkDeep", spec := "stkDeep", inPlace := ["internal/bytealg.IndexByteString", "internal/bytealg.IndexString"], named := ["internal/bytealg.MaxLen"], apart := false }
def StkDeepSaid : Prop := stkDeepRow.holds Try.pinned (OpenSpec.ofChange stkDeepSpec)

/-- ITS FALSE NEIGHBOUR: 'it returns false'. Refute it at one input. -/
def stkDeepWrong : ChangeSpec := { name := "stkDeep", fn := fun _ => fun
  | [d1, d2] => { results := [.lit (.bool false)], args := [d1, d2] }
  | _ => none }
def StkDeepWrongFalsely : Prop := stkDeepRow.holds Try.pinned (OpenSpec.ofChange stkDeepWrong)

/-- 'detentlaw04.StkRoom': WHATEVER THE INPUT: true; the input reads as it did. -/
def stkRoomSpec : ChangeSpec := { name := "stkRoom", fn := fun _ => fun
  | [d1, d2, d3] => { results := [.lit (.bool true)], args := [d1, d2, d3] }
  | _ => none }
def stkRoomRow : OpenClaim := { program := "ytjeapcpicagobaa", sum := "95b58a816d88b768f401e31e5781164df64b48d028bae80d9a939cf2b268ce30", func := "detent/detentlaw04.StkRoom", spec := "stkRoom", inPlace := ["internal/bytealg.IndexByteString", "internal/bytealg.IndexString"], named := ["internal/bytealg.MaxLen"], apart := false }
def StkRoomSaid : Prop := stkRoomRow.holds Try.pinned (OpenSpec.ofChange stkRoomSpec)

/-- ITS FALSE NEIGHBOUR: 'it returns false'. Refute it at one input. -/
def stkRoomWrong : ChangeSpec := { name := "stkRoom", fn := fun _ => fun
  | [d1, d2, d3] => { results := [.lit (.bool false)], args := [d1, d2, d3] }
  | _ => none }
def StkRoomWrongFalsely : Prop := stkRoomRow.holds Try.pinned (OpenSpec.ofChange stkRoomWrong)

/- THE SECOND FORM. 'bulk': how many values and letters a reading holds, each counted each time it is reached (what is shared counts as often as it is met; a slice's spare places count too). A statement '..UptoSaid' is the law's where the arguments, and the package variables that the reading takes, are together of bulk at most 1048576: NARROWER than '..Said'. Prove '..Said' where nothing that the law and all that it calls make is longer than what came in: it says more and counts as full. Else prove '..UptoSaid'. A law counts once. -/
mutual
def uptoBulk {H : Type} : DataW H → Nat
  | .lit (.string bytes) => bytes.length + 1
  | .lit _ => 1
  | .nil => 1
  | .ptr d => uptoBulk d + 1
  | .slice elems spare => uptoBulkAll elems + uptoBulkAll spare + 1
  | .agg parts => uptoBulkAll parts + 1
  | .iface _ d => uptoBulk d + 1
  | .map entries => uptoBulkEntries entries + 1
  | .held _ => 1
def uptoBulkAll {H : Type} : List (DataW H) → Nat
  | [] => 0
  | d :: r => uptoBulk d + uptoBulkAll r
def uptoBulkEntries {H : Type} : List (Lit × DataW H) → Nat
  | [] => 0
  | x :: r => uptoBulkEntry x + uptoBulkEntries r
def uptoBulkEntry {H : Type} : Lit × DataW H → Nat
  | (.string bytes, d) => bytes.length + uptoBulk d + 1
  | (_, d) => uptoBulk d + 1
 end
def uptoSmall : (H : Type) → List (DataW H) → Bool := fun _ ds => decide (uptoBulkAll ds ≤ 1048576)
def OpenSpec.upto (s : _root_.Go.ChangeSpec) : _root_.Go.OpenSpec := { _root_.Go.OpenSpec.ofChange s with cond := some uptoSmall }

/-- 'detentlaw04.StkTells', WHERE WHAT IT READS IS OF BULK AT MOST 1048576: true; the input reads as it did. -/
def stkTellsUptoRow : OpenClaim := { program := "ytjeapcpicagobaa", sum := "95b58a816d88b768f401e31e5781164df64b48d028bae80d9a939cf2b268ce30", func := "detent/detentlaw04.StkTells", spec := "stkTells", inPlace := ["internal/bytealg.IndexByteString", "internal/bytealg.IndexString"], named := ["internal/bytealg.MaxLen"], apart := false, narrowed := true }
def StkTellsUptoSaid : Prop := stkTellsUptoRow.holds Try.pinned (OpenSpec.upto stkTellsSpec)

/-- 'detentlaw04.StkBelow', WHERE WHAT IT READS IS OF BULK AT MOST 1048576: true; the input reads as it did. -/
def stkBelowUptoRow : OpenClaim := { program := "ytjeapcpicagobaa", sum := "95b58a816d88b768f401e31e5781164df64b48d028bae80d9a939cf2b268ce30", func := "detent/detentlaw04.StkBelow", spec := "stkBelow", inPlace := ["internal/bytealg.IndexByteString", "internal/bytealg.IndexString"], named := ["internal/bytealg.MaxLen"], apart := false, narrowed := true }
def StkBelowUptoSaid : Prop := stkBelowUptoRow.holds Try.pinned (OpenSpec.upto stkBelowSpec)

/-- 'detentlaw04.StkTurns', WHERE WHAT IT READS IS OF BULK AT MOST 1048576: true; the input reads as it did. -/
def stkTurnsUptoRow : OpenClaim := { program := "ytjeapcpicagobaa", sum := "95b58a816d88b768f401e31e5781164df64b48d028bae80d9a939cf2b268ce30", func := "detent/detentlaw04.StkTurns", spec := "stkTurns", inPlace := ["internal/bytealg.IndexByteString", "internal/bytealg.IndexString"], named := ["internal/bytealg.MaxLen"], apart := false, narrowed := true }
def StkTurnsUptoSaid : Prop := stkTurnsUptoRow.holds Try.pinned (OpenSpec.upto stkTurnsSpec)

/-- 'detentlaw04.StkDeep', WHERE WHAT IT READS IS OF BULK AT MOST 1048576: true; the input reads as it did. -/
def stkDeepUptoRow : OpenClaim := { program := "ytjeapcpicagobaa", sum := "95b58a816d88b768f401e31e5781164df64b48d028bae80d9a939cf2b268ce30", func := "detent/detentlaw04.StkDeep", spec := "stkDeep", inPlace := ["internal/bytealg.IndexByteString", "internal/bytealg.IndexString"], named := ["internal/bytealg.MaxLen"], apart := false, narrowed := true }
def StkDeepUptoSaid : Prop := stkDeepUptoRow.holds Try.pinned (OpenSpec.upto stkDeepSpec)

/-- 'detentlaw04.StkRoom', WHERE WHAT IT READS IS OF BULK AT MOST 1048576: true; the input reads as it did. -/
def stkRoomUptoRow : OpenClaim := { program := "ytjeapcpicagobaa", sum := "95b58a816d88b768f401e31e5781164df64b48d028bae80d9a939cf2b268ce30", func := "detent/detentlaw04.StkRoom", spec := "stkRoom", inPlace := ["internal/bytealg.IndexByteString", "internal/bytealg.IndexString"], named := ["internal/bytealg.MaxLen"], apart := false, narrowed := true }
def StkRoomUptoSaid : Prop := stkRoomUptoRow.holds Try.pinned (OpenSpec.upto stkRoomSpec)

end Rows
end Go.Proofs.Ytjeapcpicagobaa
