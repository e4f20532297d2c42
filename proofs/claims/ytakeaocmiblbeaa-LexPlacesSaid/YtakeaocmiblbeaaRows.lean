/-
  No cell of these rows narrows 'for every input' (looked for: loops, veiled, ifaces, maps, wideKeys, modest, calm, conditions, laid).
  DERIVED. THE GIVEN ROWS OF THIS SEAT. 6 by the template 'for every input the law returns true; each argument reads behind the call as it read before'; 0 by the template 'total and deterministic' (their statements: YtakeaocmiblbeaaTotals.lean).
  GIVEN WITH THE SEED: the statements are not yours to turn. If you find one false, say at which input.
  Laid BY PROGRAM, IN A SANDBOX (cutbox-rows.mjs): the forced cells as the released guide's own fill.sh prints them over the translation d3d126a38bee8d87… (all of the seat's roots in one cut). By AI agents, Wed Nov 11 2026. No macro, syntax, notation, axiom, sorry.
-/
import Derived.Test.YtakeaocmiblbeaaChecked
import GoSem.Claim
import GoSem.ClaimJoined
import GoSem.ClaimMapViews
import Derived.JoinedTies
import Derived.KernelRfl
namespace Go.Proofs.Ytakeaocmiblbeaa
/- THE CELL 'sum', in the pinned program and in every row, IS THE sha256 OF THE DUMP (.gsa) THAT YtakeaocmiblbeaaProg.lean LOADS. Nothing in Lean hashes anything: it is a label: what it is worth is what the hold of that sum in a sandbox is worth. -/
noncomputable def Try.pinned : Pinned := { name := "ytakeaocmiblbeaa", sum := "d3d126a38bee8d87e24f57693398e231104c2c8f120bdb9db777e8b34f796d13", checked := Try.checked }
namespace Rows
def none {H : Type} : Left H := { results := [], args := [] }

/-- 'detentlaw08.LexTells': WHATEVER THE INPUT: true; the input reads as it did. -/
def lexTellsSpec : ChangeSpec := { name := "lexTells", fn := fun _ => fun
  | [d] => { results := [.lit (.bool true)], args := [d] }
  | _ => none }
def lexTellsRow : OpenClaim := { program := "ytakeaocmiblbeaa", sum := "d3d126a38bee8d87e24f57693398e231104c2c8f120bdb9db777e8b34f796d13", func := "detent/detentlaw08.LexTells", spec := "lexTells", inPlace := ["internal/bytealg.IndexByteString"], unfollowed := true, recurses := true, apart := false }
def LexTellsSaid : Prop := lexTellsRow.holds Try.pinned (OpenSpec.ofChange lexTellsSpec)

/-- ITS FALSE NEIGHBOUR: 'it returns false'. Refute it at one input. -/
def lexTellsWrong : ChangeSpec := { name := "lexTells", fn := fun _ => fun
  | [d] => { results := [.lit (.bool false)], args := [d] }
  | _ => none }
def LexTellsWrongFalsely : Prop := lexTellsRow.holds Try.pinned (OpenSpec.ofChange lexTellsWrong)

/-- 'detentlaw08.LexWords': WHATEVER THE INPUT: true; the input reads as it did. -/
def lexWordsSpec : ChangeSpec := { name := "lexWords", fn := fun _ => fun
  | [d1, d2] => { results := [.lit (.bool true)], args := [d1, d2] }
  | _ => none }
def lexWordsRow : OpenClaim := { program := "ytakeaocmiblbeaa", sum := "d3d126a38bee8d87e24f57693398e231104c2c8f120bdb9db777e8b34f796d13", func := "detent/detentlaw08.LexWords", spec := "lexWords", inPlace := ["internal/bytealg.IndexByteString"], unfollowed := true, recurses := true, apart := false }
def LexWordsSaid : Prop := lexWordsRow.holds Try.pinned (OpenSpec.ofChange lexWordsSpec)

/-- ITS FALSE NEIGHBOUR: 'it returns false'. Refute it at one input. -/
def lexWordsWrong : ChangeSpec := { name := "lexWords", fn := fun _ => fun
  | [d1, d2] => { results := [.lit (.bool false)], args := [d1, d2] }
  | _ => none }
def LexWordsWrongFalsely : Prop := lexWordsRow.holds Try.pinned (OpenSpec.ofChange lexWordsWrong)

/-- 'detentlaw08.LexUpto': WHATEVER THE INPUT: true; the input reads as it did. -/
def lexUptoSpec : ChangeSpec := { name := "lexUpto", fn := fun _ => fun
  | [d1, d2, d3] => { results := [.lit (.bool true)], args := [d1, d2, d3] }
  | _ => none }
def lexUptoRow : OpenClaim := { program := "ytakeaocmiblbeaa", sum := "d3d126a38bee8d87e24f57693398e231104c2c8f120bdb9db777e8b34f796d13", func := "detent/detentlaw08.LexUpto", spec := "lexUpto", inPlace := ["internal/bytealg.IndexByteString"], unfollowed := true, recurses := true, apart := false }
def LexUptoSaid : Prop := lexUptoRow.holds Try.pinned (OpenSpec.ofChange lexUptoSpec)

/-- ITS FALSE NEIGHBOUR: 'it returns false'. Refute it at one input. -/
def lexUptoWrong : ChangeSpec := { name := "lexUpto", fn := fun _ => fun
  | [d1, d2, d3] => { results := [.lit (.bool false)], args := [d1, d2, d3] }
  | _ => none }
def LexUptoWrongFalsely : Prop := lexUptoRow.holds Try.pinned (OpenSpec.ofChange lexUptoWrong)

/-- 'detentlaw08.LexUpper': WHATEVER THE INPUT: true; the input reads as it did. -/
def lexUpperSpec : ChangeSpec := { name := "lexUpper", fn := fun _ => fun
  | [d1, d2] => { results := [.lit (.bool true)], args := [d1, d2] }
  | _ => none }
def lexUpperRow : OpenClaim := { program := "ytakeaocmiblbeaa", sum := "d3d126a38bee8d87e24f57693398e231104c2c8f120bdb9db777e8b34f796d13", func := "detent/detentlaw08.LexUpper", spec := "lexUpper", inPlace := ["internal/bytealg.IndexByteString"], unfollowed := true, recurses := true, apart := false }
def LexUpperSaid : Prop := lexUpperRow.holds Try.pinned (OpenSpec.ofChange lexUpperSpec)

/-- ITS FALSE NEIGHBOUR: 'it returns false'. Refute it at one input. -/
def lexUpperWrong : ChangeSpec := { name := "lexUpper", fn := fun _ => fun
  | [d1, d2] => { results := [.lit (.bool false)], args := [d1, d2] }
  | _ => none }
def LexUpperWrongFalsely : Prop := lexUpperRow.holds Try.pinned (OpenSpec.ofChange lexUpperWrong)

/-- 'detentlaw08.LexPlaces': WHATEVER THE INPUT: true; the input reads as it did. -/
def lexPlacesSpec : ChangeSpec := { name := "lexPlaces", fn := fun _ => fun
  | [d1, d2, d3] => { results := [.lit (.bool true)], args := [d1, d2, d3] }
  | _ => none }
def lexPlacesRow : OpenClaim := { program := "ytakeaocmiblbeaa", sum := "d3d126a38bee8d87e24f57693398e231104c2c8f120bdb9db777e8b34f796d13", func := "detent/detentlaw08.LexPlaces", spec := "lexPlaces", inPlace := ["internal/bytealg.IndexByteString"], unfollowed := true, recurses := true, apart := false }
def LexPlacesSaid : Prop := lexPlacesRow.holds Try.pinned (OpenSpec.ofChange lexPlacesSpec)

/-- ITS FALSE NEIGHBOUR: 'it returns false'. Refute it at one input. -/
def lexPlacesWrong : ChangeSpec := { name := "lexPlaces", fn := fun _ => fun
  | [d1, d2, d3] => { results := [.lit (.bool false)], args := [d1, d2, d3] }
  | _ => none }
def LexPlacesWrongFalsely : Prop := lexPlacesRow.holds Try.pinned (OpenSpec.ofChange lexPlacesWrong)

/-- 'detentlaw08.LexSteps': WHATEVER THE INPUT: true; the input reads as it did. -/
def lexStepsSpec : ChangeSpec := { name := "lexSteps", fn := fun _ => fun
  | [d] => { results := [.lit (.bool true)], args := [d] }
  | _ => none }
def lexStepsRow : OpenClaim := { program := "ytakeaocmiblbeaa", sum := "d3d126a38bee8d87e24f57693398e231104c2c8f120bdb9db777e8b34f796d13", func := "detent/detentlaw08.LexSteps", spec := "lexSteps", inPlace := ["internal/bytealg.IndexByteString"], unfollowed := true, recurses := true, apart := false }
def LexStepsSaid : Prop := lexStepsRow.holds Try.pinned (OpenSpec.ofChange lexStepsSpec)

/-- ITS FALSE NEIGHBOUR: 'it returns false'. Refute it at one input. -/
def lexStepsWrong : ChangeSpec := { name := "lexSteps", fn := fun _ => fun
  | [d] => { results := [.lit (.bool false)], args := [d] }
  | _ => none }
def LexStepsWrongFalsely : Prop := lexStepsRow.holds Try.pinned (OpenSpec.ofChange lexStepsWrong)

/- THE SECOND FORM. 'bulk': how many values and letters a reading holds, each counted each time it is reached (what is shared counts as often as it is met; a slice's spare places count too). A statement '..UptoSaid' is the law's where the arguments, and the package variables that the reading takes, are together of bulk at most 1048576: NARROWER than '..Said'. Prove '..Said' where nothing that the law and all that it calls make is longer than what came in: it says more and counts as full. Else prove '..UptoSaid'. A law counts once. -/
mutual
def uptoBulk {H : Type} : DataW H → Nat
  | .lit (.string bytes) => bytes.length + 1
  | .lit _ => 1
  | .nil => 1
  | .ptr d => uptoBulk d + 1
  | .slice elems spare => uptoBulkAll elems + uptoBulkAll spare + 1
  | .agg parts => uptoBulkAll parts + 1
  | .iface _ d => uptoBulk d + 1
  | .map entries => uptoBulkEntries entries + 1
  | .held _ => 1
def uptoBulkAll {H : Type} : List (DataW H) → Nat
  | [] => 0
  | d :: r => uptoBulk d + uptoBulkAll r
def uptoBulkEntries {H : Type} : List (Lit × DataW H) → Nat
  | [] => 0
  | x :: r => uptoBulkEntry x + uptoBulkEntries r
def uptoBulkEntry {H : Type} : Lit × DataW H → Nat
  | (.string bytes, d) => bytes.length + uptoBulk d + 1
  | (_, d) => uptoBulk d + 1
 end
def uptoSmall : (H : Type) → List (DataW H) → Bool := fun _ ds => decide (uptoBulkAll ds ≤ 1048576)
def OpenSpec.upto (s : _root_.Go.ChangeSpec) : _root_.Go.OpenSpec := { _root_.Go.OpenSpec.ofChange s with cond := some uptoSmall }

/-- 'detentlaw08.LexTells', WHERE WHAT IT READS IS OF BULK AT MOST 1048576: true; the input reads as it did. -/
def lexTellsUptoRow : OpenClaim := { program := "ytakeaocmiblbeaa", sum := "d3d126a38bee8d87e24f57693398e231104c2c8f120bdb9db777e8b34f796d13", func := "detent/detentlaw08.LexTells", spec := "lexTells", inPlace := ["internal/bytealg.IndexByteString"], unfollowed := true, recurses := true, apart := false, narrowed := true }
def LexTellsUptoSaid : Prop := lexTellsUptoRow.holds Try.pinned (OpenSpec.upto lexTellsSpec)

/-- 'detentlaw08.LexWords', WHERE WHAT IT READS IS OF BULK AT MOST 1048576: true; the input reads as it did. -/
def lexWordsUptoRow : OpenClaim := { program := "ytakeaocmiblbeaa", sum := "d3d126a38bee8d87e24f57693398e231104c2c8f120bdb9db777e8b34f796d13", func := "detent/detentlaw08.LexWords", spec := "lexWords", inPlace := ["internal/bytealg.IndexByteString"], unfollowed := true, recurses := true, apart := false, narrowed := true }
def LexWordsUptoSaid : Prop := lexWordsUptoRow.holds Try.pinned (OpenSpec.upto lexWordsSpec)

/-- 'detentlaw08.LexUpto', WHERE WHAT IT READS IS OF BULK AT MOST 1048576: true; the input reads as it did. -/
def lexUptoUptoRow : OpenClaim := { program := "ytakeaocmiblbeaa", sum := "d3d126a38bee8d87e24f57693398e231104c2c8f120bdb9db777e8b34f796d13", func := "detent/detentlaw08.LexUpto", spec := "lexUpto", inPlace := ["internal/bytealg.IndexByteString"], unfollowed := true, recurses := true, apart := false, narrowed := true }
def LexUptoUptoSaid : Prop := lexUptoUptoRow.holds Try.pinned (OpenSpec.upto lexUptoSpec)

/-- 'detentlaw08.LexUpper', WHERE WHAT IT READS IS OF BULK AT MOST 1048576: true; the input reads as it did. -/
def lexUpperUptoRow : OpenClaim := { program := "ytakeaocmiblbeaa", sum := "d3d126a38bee8d87e24f57693398e231104c2c8f120bdb9db777e8b34f796d13", func := "detent/detentlaw08.LexUpper", spec := "lexUpper", inPlace := ["internal/bytealg.IndexByteString"], unfollowed := true, recurses := true, apart := false, narrowed := true }
def LexUpperUptoSaid : Prop := lexUpperUptoRow.holds Try.pinned (OpenSpec.upto lexUpperSpec)

/-- 'detentlaw08.LexPlaces', WHERE WHAT IT READS IS OF BULK AT MOST 1048576: true; the input reads as it did. -/
def lexPlacesUptoRow : OpenClaim := { program := "ytakeaocmiblbeaa", sum := "d3d126a38bee8d87e24f57693398e231104c2c8f120bdb9db777e8b34f796d13", func := "detent/detentlaw08.LexPlaces", spec := "lexPlaces", inPlace := ["internal/bytealg.IndexByteString"], unfollowed := true, recurses := true, apart := false, narrowed := true }
def LexPlacesUptoSaid : Prop := lexPlacesUptoRow.holds Try.pinned (OpenSpec.upto lexPlacesSpec)

/-- 'detentlaw08.LexSteps', WHERE WHAT IT READS IS OF BULK AT MOST 1048576: true; the input reads as it did. -/
def lexStepsUptoRow : OpenClaim := { program := "ytakeaocmiblbeaa", sum := "d3d126a38bee8d87e24f57693398e231104c2c8f120bdb9db777e8b34f796d13", func := "detent/detentlaw08.LexSteps", spec := "lexSteps", inPlace := ["internal/bytealg.IndexByteString"], unfollowed := true, recurses := true, apart := false, narrowed := true }
def LexStepsUptoSaid : Prop := lexStepsUptoRow.holds Try.pinned (OpenSpec.upto lexStepsSpec)

end Rows
end Go.Proofs.Ytakeaocmiblbeaa
