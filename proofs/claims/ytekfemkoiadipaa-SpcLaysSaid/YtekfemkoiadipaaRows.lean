/-
  No cell of these rows narrows 'for every input' (looked for: loops, veiled, ifaces, maps, wideKeys, modest, calm, conditions, laid).
  DERIVED. THE GIVEN ROWS OF THIS SEAT. 5 by the template 'for every input the law returns true; each argument reads behind the call as it read before'; 0 by the template 'total and deterministic' (their statements: YtekfemkoiadipaaTotals.lean).
  GIVEN WITH THE SEED: the statements are not yours to turn. If you find one false, say at which input.
  Laid BY PROGRAM, IN A SANDBOX (cutbox-rows.mjs): the forced cells as the released guide's own fill.sh prints them over the translation 926376b705635bf3… (all of the seat's roots in one cut). By AI agents, Wed Nov 11 2026. No macro, syntax, notation, axiom, sorry.
-/
import Derived.Test.YtekfemkoiadipaaChecked
import GoSem.Claim
import GoSem.ClaimJoined
import GoSem.ClaimMapViews
import Derived.JoinedTies
import Derived.KernelRfl
namespace Go.Proofs.Ytekfemkoiadipaa
/- THE CELL 'sum', in the pinned program and in every row, IS THE sha256 OF THE DUMP (.gsa) THAT YtekfemkoiadipaaProg.lean LOADS. Nothing in Lean hashes anything: it is a label: what it is worth is what the hold of that sum in a sandbox is worth. -/
noncomputable def Try.pinned : Pinned := { name := "ytekfemkoiadipaa", sum := "926376b705635bf36c28e7b9f4f13a9d3af7ac68a5d59ec0ac2d22e0d6bd1ae0", checked := Try.checked }
namespace Rows
def none {H : Type} : Left H := { results := [], args := [] }

/-- 'detentlaw05.SpcTells': WHATEVER THE INPUT: true; the input reads as it did. -/
def spcTellsSpec : ChangeSpec := { name := "spcTells", fn := fun _ => fun
  | [d] => { results := [.lit (.bool true)], args := [d] }
  | _ => none }
def spcTellsRow : OpenClaim := { program := "ytekfemkoiadipaa", sum := "926376b705635bf36c28e7b9f4f13a9d3af7ac68a5d59ec0ac2d22e0d6bd1ae0", func := "detent/detentlaw05.SpcTells", spec := "spcTells", unfollowed := true, recurses := true, apart := false }
def SpcTellsSaid : Prop := spcTellsRow.holds Try.pinned (OpenSpec.ofChange spcTellsSpec)

/-- ITS FALSE NEIGHBOUR: 'it returns false'. Refute it at one input. -/
def spcTellsWrong : ChangeSpec := { name := "spcTells", fn := fun _ => fun
  | [d] => { results := [.lit (.bool false)], args := [d] }
  | _ => none }
def SpcTellsWrongFalsely : Prop := spcTellsRow.holds Try.pinned (OpenSpec.ofChange spcTellsWrong)

/-- 'detentlaw05.SpcLays': WHATEVER THE INPUT: true; the input reads as it did. -/
def spcLaysSpec : ChangeSpec := { name := "spcLays", fn := fun _ => fun
  | [d1, d2, d3] => { results := [.lit (.bool true)], args := [d1, d2, d3] }
  | _ => none }
def spcLaysRow : OpenClaim := { program := "ytekfemkoiadipaa", sum := "926376b705635bf36c28e7b9f4f13a9d3af7ac68a5d59ec0ac2d22e0d6bd1ae0", func := "detent/detentlaw05.SpcLays", spec := "spcLays", unfollowed := true, recurses := true, apart := false }
def SpcLaysSaid : Prop := spcLaysRow.holds Try.pinned (OpenSpec.ofChange spcLaysSpec)

/-- ITS FALSE NEIGHBOUR: 'it returns false'. Refute it at one input. -/
def spcLaysWrong : ChangeSpec := { name := "spcLays", fn := fun _ => fun
  | [d1, d2, d3] => { results := [.lit (.bool false)], args := [d1, d2, d3] }
  | _ => none }
def SpcLaysWrongFalsely : Prop := spcLaysRow.holds Try.pinned (OpenSpec.ofChange spcLaysWrong)

/-- 'detentlaw05.SpcMoves': WHATEVER THE INPUT: true; the input reads as it did. -/
def spcMovesSpec : ChangeSpec := { name := "spcMoves", fn := fun _ => fun
  | [d] => { results := [.lit (.bool true)], args := [d] }
  | _ => none }
def spcMovesRow : OpenClaim := { program := "ytekfemkoiadipaa", sum := "926376b705635bf36c28e7b9f4f13a9d3af7ac68a5d59ec0ac2d22e0d6bd1ae0", func := "detent/detentlaw05.SpcMoves", spec := "spcMoves", unfollowed := true, recurses := true, apart := false }
def SpcMovesSaid : Prop := spcMovesRow.holds Try.pinned (OpenSpec.ofChange spcMovesSpec)

/-- ITS FALSE NEIGHBOUR: 'it returns false'. Refute it at one input. -/
def spcMovesWrong : ChangeSpec := { name := "spcMoves", fn := fun _ => fun
  | [d] => { results := [.lit (.bool false)], args := [d] }
  | _ => none }
def SpcMovesWrongFalsely : Prop := spcMovesRow.holds Try.pinned (OpenSpec.ofChange spcMovesWrong)

/-- 'detentlaw05.SpcCells': WHATEVER THE INPUT: true; the input reads as it did. -/
def spcCellsSpec : ChangeSpec := { name := "spcCells", fn := fun _ => fun
  | [d] => { results := [.lit (.bool true)], args := [d] }
  | _ => none }
def spcCellsRow : OpenClaim := { program := "ytekfemkoiadipaa", sum := "926376b705635bf36c28e7b9f4f13a9d3af7ac68a5d59ec0ac2d22e0d6bd1ae0", func := "detent/detentlaw05.SpcCells", spec := "spcCells", unfollowed := true, recurses := true, apart := false }
def SpcCellsSaid : Prop := spcCellsRow.holds Try.pinned (OpenSpec.ofChange spcCellsSpec)

/-- ITS FALSE NEIGHBOUR: 'it returns false'. Refute it at one input. -/
def spcCellsWrong : ChangeSpec := { name := "spcCells", fn := fun _ => fun
  | [d] => { results := [.lit (.bool false)], args := [d] }
  | _ => none }
def SpcCellsWrongFalsely : Prop := spcCellsRow.holds Try.pinned (OpenSpec.ofChange spcCellsWrong)

/-- 'detentlaw05.SpcJoins': WHATEVER THE INPUT: true; the input reads as it did. -/
def spcJoinsSpec : ChangeSpec := { name := "spcJoins", fn := fun _ => fun
  | [d] => { results := [.lit (.bool true)], args := [d] }
  | _ => none }
def spcJoinsRow : OpenClaim := { program := "ytekfemkoiadipaa", sum := "926376b705635bf36c28e7b9f4f13a9d3af7ac68a5d59ec0ac2d22e0d6bd1ae0", func := "detent/detentlaw05.SpcJoins", spec := "spcJoins", unfollowed := true, recurses := true, apart := false }
def SpcJoinsSaid : Prop := spcJoinsRow.holds Try.pinned (OpenSpec.ofChange spcJoinsSpec)

/-- ITS FALSE NEIGHBOUR: 'it returns false'. Refute it at one input. -/
def spcJoinsWrong : ChangeSpec := { name := "spcJoins", fn := fun _ => fun
  | [d] => { results := [.lit (.bool false)], args := [d] }
  | _ => none }
def SpcJoinsWrongFalsely : Prop := spcJoinsRow.holds Try.pinned (OpenSpec.ofChange spcJoinsWrong)

/- THE SECOND FORM. 'bulk': how many values and letters a reading holds, each counted each time it is reached (what is shared counts as often as it is met; a slice's spare places count too). A statement '..UptoSaid' is the law's where the arguments, and the package variables that the reading takes, are together of bulk at most 1048576: NARROWER than '..Said'. Prove '..Said' where nothing that the law and all that it calls make is longer than what came in: it says more and counts as full. Else prove '..UptoSaid'. A law counts once. -/
mutual
def uptoBulk {H : Type} : DataW H → Nat
  | .lit (.string bytes) => bytes.length + 1
  | .lit _ => 1
  | .nil => 1
  | .ptr d => uptoBulk d + 1
  | .slice elems spare => uptoBulkAll elems + uptoBulkAll spare + 1
  | .agg parts => uptoBulkAll parts + 1
  | .iface _ d => uptoBulk d + 1
  | .map entries => uptoBulkEntries entries + 1
  | .held _ => 1
def uptoBulkAll {H : Type} : List (DataW H) → Nat
  | [] => 0
  | d :: r => uptoBulk d + uptoBulkAll r
def uptoBulkEntries {H : Type} : List (Lit × DataW H) → Nat
  | [] => 0
  | x :: r => uptoBulkEntry x + uptoBulkEntries r
def uptoBulkEntry {H : Type} : Lit × DataW H → Nat
  | (.string bytes, d) => bytes.length + uptoBulk d + 1
  | (_, d) => uptoBulk d + 1
 end
def uptoSmall : (H : Type) → List (DataW H) → Bool := fun _ ds => decide (uptoBulkAll ds ≤ 1048576)
def OpenSpec.upto (s : _root_.Go.ChangeSpec) : _root_.Go.OpenSpec := { _root_.Go.OpenSpec.ofChange s with cond := some uptoSmall }

/-- 'detentlaw05.SpcTells', WHERE WHAT IT READS IS OF BULK AT MOST 1048576: true; the input reads as it did. -/
def spcTellsUptoRow : OpenClaim := { program := "ytekfemkoiadipaa", sum := "926376b705635bf36c28e7b9f4f13a9d3af7ac68a5d59ec0ac2d22e0d6bd1ae0", func := "detent/detentlaw05.SpcTells", spec := "spcTells", unfollowed := true, recurses := true, apart := false, narrowed := true }
def SpcTellsUptoSaid : Prop := spcTellsUptoRow.holds Try.pinned (OpenSpec.upto spcTellsSpec)

/-- 'detentlaw05.SpcLays', WHERE WHAT IT READS IS OF BULK AT MOST 1048576: true; the input reads as it did. -/
def spcLaysUptoRow : OpenClaim := { program := "ytekfemkoiadipaa", sum := "926376b705635bf36c28e7b9f4f13a9d3af7ac68a5d59ec0ac2d22e0d6bd1ae0", func := "detent/detentlaw05.SpcLays", spec := "spcLays", unfollowed := true, recurses := true, apart := false, narrowed := true }
def SpcLaysUptoSaid : Prop := spcLaysUptoRow.holds Try.pinned (OpenSpec.upto spcLaysSpec)

/-- 'detentlaw05.SpcMoves', WHERE WHAT IT READS IS OF BULK AT MOST 1048576: true; the input reads as it did. -/
def spcMovesUptoRow : OpenClaim := { program := "ytekfemkoiadipaa", sum := "926376b705635bf36c28e7b9f4f13a9d3af7ac68a5d59ec0ac2d22e0d6bd1ae0", func := "detent/detentlaw05.SpcMoves", spec := "spcMoves", unfollowed := true, recurses := true, apart := false, narrowed := true }
def SpcMovesUptoSaid : Prop := spcMovesUptoRow.holds Try.pinned (OpenSpec.upto spcMovesSpec)

/-- 'detentlaw05.SpcCells', WHERE WHAT IT READS IS OF BULK AT MOST 1048576: true; the input reads as it did. -/
def spcCellsUptoRow : OpenClaim := { program := "ytekfemkoiadipaa", sum := "926376b705635bf36c28e7b9f4f13a9d3af7ac68a5d59ec0ac2d22e0d6bd1ae0", func := "detent/detentlaw05.SpcCells", spec := "spcCells", unfollowed := true, recurses := true, apart := false, narrowed := true }
def SpcCellsUptoSaid : Prop := spcCellsUptoRow.holds Try.pinned (OpenSpec.upto spcCellsSpec)

/-- 'detentlaw05.SpcJoins', WHERE WHAT IT READS IS OF BULK AT MOST 1048576: true; the input reads as it did. -/
def spcJoinsUptoRow : OpenClaim := { program := "ytekfemkoiadipaa", sum := "926376b705635bf36c28e7b9f4f13a9d3af7ac68a5d59ec0ac2d22e0d6bd1ae0", func := "detent/detentlaw05.SpcJoins", spec := "spcJoins", unfollowed := true, recurses := true, apart := false, narrowed := true }
def SpcJoinsUptoSaid : Prop := spcJoinsUptoRow.holds Try.pinned (OpenSpec.upto spcJoinsSpec)

end Rows
end Go.Proofs.Ytekfemkoiadipaa
