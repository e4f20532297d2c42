/-
  No cell of these rows narrows 'for every input' (looked for: loops, veiled, ifaces, maps, wideKeys, modest, calm, conditions, laid).
  DERIVED. THE GIVEN ROWS OF THIS SEAT. 8 by the template 'for every input the law returns true; each argument reads behind the call as it read before'; 0 by the template 'total and deterministic' (their statements: YtncljldoioplaaaTotals.lean).
  GIVEN WITH THE SEED: the statements are not yours to turn. If you find one false, say at which input.
  Laid BY PROGRAM, IN A SANDBOX (cutbox-rows.mjs): the forced cells as the released guide's own fill.sh prints them over the translation bda6e06903a3774c… (all of the seat's roots in one cut). By AI agents, Wed Nov 11 2026. No macro, syntax, notation, axiom, sorry.
-/
import Derived.Test.YtncljldoioplaaaChecked
import GoSem.Claim
import GoSem.ClaimJoined
import GoSem.ClaimMapViews
import Derived.JoinedTies
import Derived.KernelRfl
namespace Go.Proofs.Ytncljldoioplaaa
/- THE CELL 'sum', in the pinned program and in every row, IS THE sha256 OF THE DUMP (.gsa) THAT YtncljldoioplaaaProg.lean LOADS. Nothing in Lean hashes anything: it is a label: what it is worth is what the hold of that sum in a sandbox is worth. -/
noncomputable def Try.pinned : Pinned := { name := "ytncljldoioplaaa", sum := "bda6e06903a3774c514a841465d9549f3828b64b7a89923aced2226963e7b336", checked := Try.checked }
namespace Rows
def none {H : Type} : Left H := { results := [], args := [] }

/-- 'detentlaw02.AluTells': WHATEVER THE INPUT: true; the input reads as it did. -/
def aluTellsSpec : ChangeSpec := { name := "aluTells", fn := fun _ => fun
  | [d1, d2, d3] => { results := [.lit (.bool true)], args := [d1, d2, d3] }
  | _ => none }
def aluTellsRow : OpenClaim := { program := "ytncljldoioplaaa", sum := "bda6e06903a3774c514a841465d9549f3828b64b7a89923aced2226963e7b336", func := "detent/detentlaw02.AluTells", spec := "aluTells", unfollowed := true, recurses := true, apart := false }
def AluTellsSaid : Prop := aluTellsRow.holds Try.pinned (OpenSpec.ofChange aluTellsSpec)

/-- ITS FALSE NEIGHBOUR: 'it returns false'. Refute it at one input. -/
def aluTellsWrong : ChangeSpec := { name := "aluTells", fn := fun _ => fun
  | [d1, d2, d3] => { results := [.lit (.bool false)], args := [d1, d2, d3] }
  | _ => none }
def AluTellsWrongFalsely : Prop := aluTellsRow.holds Try.pinned (OpenSpec.ofChange aluTellsWrong)

/-- 'detentlaw02.AluLoops': WHATEVER THE INPUT: true; the input reads as it did. -/
def aluLoopsSpec : ChangeSpec := { name := "aluLoops", fn := fun _ => fun
  | [d1, d2, d3] => { results := [.lit (.bool true)], args := [d1, d2, d3] }
  | _ => none }
def aluLoopsRow : OpenClaim := { program := "ytncljldoioplaaa", sum := "bda6e06903a3774c514a841465d9549f3828b64b7a89923aced2226963e7b336", func := "detent/detentlaw02.AluLoops", spec := "aluLoops", unfollowed := true, recurses := true, apart := false }
def AluLoopsSaid : Prop := aluLoopsRow.holds Try.pinned (OpenSpec.ofChange aluLoopsSpec)

/-- ITS FALSE NEIGHBOUR: 'it returns false'. Refute it at one input. -/
def aluLoopsWrong : ChangeSpec := { name := "aluLoops", fn := fun _ => fun
  | [d1, d2, d3] => { results := [.lit (.bool false)], args := [d1, d2, d3] }
  | _ => none }
def AluLoopsWrongFalsely : Prop := aluLoopsRow.holds Try.pinned (OpenSpec.ofChange aluLoopsWrong)

/-- 'detentlaw02.AluTurns': WHATEVER THE INPUT: true; the input reads as it did. -/
def aluTurnsSpec : ChangeSpec := { name := "aluTurns", fn := fun _ => fun
  | [d] => { results := [.lit (.bool true)], args := [d] }
  | _ => none }
def aluTurnsRow : OpenClaim := { program := "ytncljldoioplaaa", sum := "bda6e06903a3774c514a841465d9549f3828b64b7a89923aced2226963e7b336", func := "detent/detentlaw02.AluTurns", spec := "aluTurns", unfollowed := true, recurses := true, apart := false }
def AluTurnsSaid : Prop := aluTurnsRow.holds Try.pinned (OpenSpec.ofChange aluTurnsSpec)

/-- ITS FALSE NEIGHBOUR: 'it returns false'. Refute it at one input. -/
def aluTurnsWrong : ChangeSpec := { name := "aluTurns", fn := fun _ => fun
  | [d] => { results := [.lit (.bool false)], args := [d] }
  | _ => none }
def AluTurnsWrongFalsely : Prop := aluTurnsRow.holds Try.pinned (OpenSpec.ofChange aluTurnsWrong)

/-- 'detentlaw02.AluHolds': WHATEVER THE INPUT: true; the input reads as it did. -/
def aluHoldsSpec : ChangeSpec := { name := "aluHolds", fn := fun _ => fun
  | [d1, d2] => { results := [.lit (.bool true)], args := [d1, d2] }
  | _ => none }
def aluHoldsRow : OpenClaim := { program := "ytncljldoioplaaa", sum := "bda6e06903a3774c514a841465d9549f3828b64b7a89923aced2226963e7b336", func := "detent/detentlaw02.AluHolds", spec := "aluHolds", unfollowed := true, recurses := true, apart := false }
def AluHoldsSaid : Prop := aluHoldsRow.holds Try.pinned (OpenSpec.ofChange aluHoldsSpec)

/-- ITS FALSE NEIGHBOUR: 'it returns false'. Refute it at one input. -/
def aluHoldsWrong : ChangeSpec := { name := "aluHolds", fn := fun _ => fun
  | [d1, d2] => { results := [.lit (.bool false)], args := [d1, d2] }
  | _ => none }
def AluHoldsWrongFalsely : Prop := aluHoldsRow.holds Try.pinned (OpenSpec.ofChange aluHoldsWrong)

/-- 'detentlaw02.AluBits': WHATEVER THE INPUT: true; the input reads as it did. -/
def aluBitsSpec : ChangeSpec := { name := "aluBits", fn := fun _ => fun
  | [d1, d2, d3] => { results := [.lit (.bool true)], args := [d1, d2, d3] }
  | _ => none }
def aluBitsRow : OpenClaim := { program := "ytncljldoioplaaa", sum := "bda6e06903a3774c514a841465d9549f3828b64b7a89923aced2226963e7b336", func := "detent/detentlaw02.AluBits", spec := "aluBits", unfollowed := true, recurses := true, apart := false }
def AluBitsSaid : Prop := aluBitsRow.holds Try.pinned (OpenSpec.ofChange aluBitsSpec)

/-- ITS FALSE NEIGHBOUR: 'it returns false'. Refute it at one input. -/
def aluBitsWrong : ChangeSpec := { name := "aluBits", fn := fun _ => fun
  | [d1, d2, d3] => { results := [.lit (.bool false)], args := [d1, d2, d3] }
  | _ => none }
def AluBitsWrongFalsely : Prop := aluBitsRow.holds Try.pinned (OpenSpec.ofChange aluBitsWrong)

/-- 'detentlaw02.AluCounts': WHATEVER THE INPUT: true; the input reads as it did. -/
def aluCountsSpec : ChangeSpec := { name := "aluCounts", fn := fun _ => fun
  | [d1, d2] => { results := [.lit (.bool true)], args := [d1, d2] }
  | _ => none }
def aluCountsRow : OpenClaim := { program := "ytncljldoioplaaa", sum := "bda6e06903a3774c514a841465d9549f3828b64b7a89923aced2226963e7b336", func := "detent/detentlaw02.AluCounts", spec := "aluCounts", unfollowed := true, recurses := true, apart := false }
def AluCountsSaid : Prop := aluCountsRow.holds Try.pinned (OpenSpec.ofChange aluCountsSpec)

/-- ITS FALSE NEIGHBOUR: 'it returns false'. Refute it at one input. -/
def aluCountsWrong : ChangeSpec := { name := "aluCounts", fn := fun _ => fun
  | [d1, d2] => { results := [.lit (.bool false)], args := [d1, d2] }
  | _ => none }
def AluCountsWrongFalsely : Prop := aluCountsRow.holds Try.pinned (OpenSpec.ofChange aluCountsWrong)

/-- 'detentlaw02.AluWithin': WHATEVER THE INPUT: true; the input reads as it did. -/
def aluWithinSpec : ChangeSpec := { name := "aluWithin", fn := fun _ => fun
  | [d] => { results := [.lit (.bool true)], args := [d] }
  | _ => none }
def aluWithinRow : OpenClaim := { program := "ytncljldoioplaaa", sum := "bda6e06903a3774c514a841465d9549f3828b64b7a89923aced2226963e7b336", func := "detent/detentlaw02.AluWithin", spec := "aluWithin", unfollowed := true, recurses := true, apart := false }
def AluWithinSaid : Prop := aluWithinRow.holds Try.pinned (OpenSpec.ofChange aluWithinSpec)

/-- ITS FALSE NEIGHBOUR: 'it returns false'. Refute it at one input. -/
def aluWithinWrong : ChangeSpec := { name := "aluWithin", fn := fun _ => fun
  | [d] => { results := [.lit (.bool false)], args := [d] }
  | _ => none }
def AluWithinWrongFalsely : Prop := aluWithinRow.holds Try.pinned (OpenSpec.ofChange aluWithinWrong)

/-- 'detentlaw02.AluSwaps': WHATEVER THE INPUT: true; the input reads as it did. -/
def aluSwapsSpec : ChangeSpec := { name := "aluSwaps", fn := fun _ => fun
  | [d1, d2, d3] => { results := [.lit (.bool true)], args := [d1, d2, d3] }
  | _ => none }
def aluSwapsRow : OpenClaim := { program := "ytncljldoioplaaa", sum := "bda6e06903a3774c514a841465d9549f3828b64b7a89923aced2226963e7b336", func := "detent/detentlaw02.AluSwaps", spec := "aluSwaps", unfollowed := true, recurses := true, apart := false }
def AluSwapsSaid : Prop := aluSwapsRow.holds Try.pinned (OpenSpec.ofChange aluSwapsSpec)

/-- ITS FALSE NEIGHBOUR: 'it returns false'. Refute it at one input. -/
def aluSwapsWrong : ChangeSpec := { name := "aluSwaps", fn := fun _ => fun
  | [d1, d2, d3] => { results := [.lit (.bool false)], args := [d1, d2, d3] }
  | _ => none }
def AluSwapsWrongFalsely : Prop := aluSwapsRow.holds Try.pinned (OpenSpec.ofChange aluSwapsWrong)

/- THE SECOND FORM. 'bulk': how many values and letters a reading holds, each counted each time it is reached (what is shared counts as often as it is met; a slice's spare places count too). A statement '..UptoSaid' is the law's where the arguments, and the package variables that the reading takes, are together of bulk at most 1048576: NARROWER than '..Said'. Prove '..Said' where nothing that the law and all that it calls make is longer than what came in: it says more and counts as full. Else prove '..UptoSaid'. A law counts once. -/
mutual
def uptoBulk {H : Type} : DataW H → Nat
  | .lit (.string bytes) => bytes.length + 1
  | .lit _ => 1
  | .nil => 1
  | .ptr d => uptoBulk d + 1
  | .slice elems spare => uptoBulkAll elems + uptoBulkAll spare + 1
  | .agg parts => uptoBulkAll parts + 1
  | .iface _ d => uptoBulk d + 1
  | .map entries => uptoBulkEntries entries + 1
  | .held _ => 1
def uptoBulkAll {H : Type} : List (DataW H) → Nat
  | [] => 0
  | d :: r => uptoBulk d + uptoBulkAll r
def uptoBulkEntries {H : Type} : List (Lit × DataW H) → Nat
  | [] => 0
  | x :: r => uptoBulkEntry x + uptoBulkEntries r
def uptoBulkEntry {H : Type} : Lit × DataW H → Nat
  | (.string bytes, d) => bytes.length + uptoBulk d + 1
  | (_, d) => uptoBulk d + 1
 end
def uptoSmall : (H : Type) → List (DataW H) → Bool := fun _ ds => decide (uptoBulkAll ds ≤ 1048576)
def OpenSpec.upto (s : _root_.Go.ChangeSpec) : _root_.Go.OpenSpec := { _root_.Go.OpenSpec.ofChange s with cond := some uptoSmall }

/-- 'detentlaw02.AluTells', WHERE WHAT IT READS IS OF BULK AT MOST 1048576: true; the input reads as it did. -/
def aluTellsUptoRow : OpenClaim := { program := "ytncljldoioplaaa", sum := "bda6e06903a3774c514a841465d9549f3828b64b7a89923aced2226963e7b336", func := "detent/detentlaw02.AluTells", spec := "aluTells", unfollowed := true, recurses := true, apart := false, narrowed := true }
def AluTellsUptoSaid : Prop := aluTellsUptoRow.holds Try.pinned (OpenSpec.upto aluTellsSpec)

/-- 'detentlaw02.AluLoops', WHERE WHAT IT READS IS OF BULK AT MOST 1048576: true; the input reads as it did. -/
def aluLoopsUptoRow : OpenClaim := { program := "ytncljldoioplaaa", sum := "bda6e06903a3774c514a841465d9549f3828b64b7a89923aced2226963e7b336", func := "detent/detentlaw02.AluLoops", spec := "aluLoops", unfollowed := true, recurses := true, apart := false, narrowed := true }
def AluLoopsUptoSaid : Prop := aluLoopsUptoRow.holds Try.pinned (OpenSpec.upto aluLoopsSpec)

/-- 'detentlaw02.AluTurns', WHERE WHAT IT READS IS OF BULK AT MOST 1048576: true; the input reads as it did. -/
def aluTurnsUptoRow : OpenClaim := { program := "ytncljldoioplaaa", sum := "bda6e06903a3774c514a841465d9549f3828b64b7a89923aced2226963e7b336", func := "detent/detentlaw02.AluTurns", spec := "aluTurns", unfollowed := true, recurses := true, apart := false, narrowed := true }
def AluTurnsUptoSaid : Prop := aluTurnsUptoRow.holds Try.pinned (OpenSpec.upto aluTurnsSpec)

/-- 'detentlaw02.AluHolds', WHERE WHAT IT READS IS OF BULK AT MOST 1048576: true; the input reads as it did. -/
def aluHoldsUptoRow : OpenClaim := { program := "ytncljldoioplaaa", sum := "bda6e06903a3774c514a841465d9549f3828b64b7a89923aced2226963e7b336", func := "detent/detentlaw02.AluHolds", spec := "aluHolds", unfollowed := true, recurses := true, apart := false, narrowed := true }
def AluHoldsUptoSaid : Prop := aluHoldsUptoRow.holds Try.pinned (OpenSpec.upto aluHoldsSpec)

/-- 'detentlaw02.AluBits', WHERE WHAT IT READS IS OF BULK AT MOST 1048576: true; the input reads as it did. -/
def aluBitsUptoRow : OpenClaim := { program := "ytncljldoioplaaa", sum := "bda6e06903a3774c514a841465d9549f3828b64b7a89923aced2226963e7b336", func := "detent/detentlaw02.AluBits", spec := "aluBits", unfollowed := true, recurses := true, apart := false, narrowed := true }
def AluBitsUptoSaid : Prop := aluBitsUptoRow.holds Try.pinned (OpenSpec.upto aluBitsSpec)

/-- 'detentlaw02.AluCounts', WHERE WHAT IT READS IS OF BULK AT MOST 1048576: true; the input reads as it did. -/
def aluCountsUptoRow : OpenClaim := { program := "ytncljldoioplaaa", sum := "bda6e06903a3774c514a841465d9549f3828b64b7a89923aced2226963e7b336", func := "detent/detentlaw02.AluCounts", spec := "aluCounts", unfollowed := true, recurses := true, apart := false, narrowed := true }
def AluCountsUptoSaid : Prop := aluCountsUptoRow.holds Try.pinned (OpenSpec.upto aluCountsSpec)

/-- 'detentlaw02.AluWithin', WHERE WHAT IT READS IS OF BULK AT MOST 1048576: true; the input reads as it did. -/
def aluWithinUptoRow : OpenClaim := { program := "ytncljldoioplaaa", sum := "bda6e06903a3774c514a841465d9549f3828b64b7a89923aced2226963e7b336", func := "detent/detentlaw02.AluWithin", spec := "aluWithin", unfollowed := true, recurses := true, apart := false, narrowed := true }
def AluWithinUptoSaid : Prop := aluWithinUptoRow.holds Try.pinned (OpenSpec.upto aluWithinSpec)

/-- 'detentlaw02.AluSwaps', WHERE WHAT IT READS IS OF BULK AT MOST 1048576: true; the input reads as it did. -/
def aluSwapsUptoRow : OpenClaim := { program := "ytncljldoioplaaa", sum := "bda6e06903a3774c514a841465d9549f3828b64b7a89923aced2226963e7b336", func := "detent/detentlaw02.AluSwaps", spec := "aluSwaps", unfollowed := true, recurses := true, apart := false, narrowed := true }
def AluSwapsUptoSaid : Prop := aluSwapsUptoRow.holds Try.pinned (OpenSpec.upto aluSwapsSpec)

end Rows
end Go.Proofs.Ytncljldoioplaaa
