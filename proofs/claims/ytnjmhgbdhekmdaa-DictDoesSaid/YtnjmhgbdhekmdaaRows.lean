/-
  No cell of these rows narrows 'for every input' (looked for: loops, veiled, ifaces, maps, wideKeys, modest, calm, conditions, laid).
  DERIVED. THE GIVEN ROWS OF THIS SEAT. 6 by the template 'for every input the law returns true; each argument reads behind the call as it read before'; 0 by the template 'total and deterministic' (their statements: YtnjmhgbdhekmdaaTotals.lean).
  GIVEN WITH THE SEED: the statements are not yours to turn. If you find one false, say at which input.
  Laid BY PROGRAM, IN A SANDBOX (cutbox-rows.mjs): the forced cells as the released guide's own fill.sh prints them over the translation f4891420e705b276… (all of the seat's roots in one cut). By AI agents, Wed Nov 11 2026. No macro, syntax, notation, axiom, sorry.
-/
import Derived.Test.YtnjmhgbdhekmdaaChecked
import GoSem.Claim
import GoSem.ClaimJoined
import GoSem.ClaimMapViews
import Derived.JoinedTies
import Derived.KernelRfl
namespace Go.Proofs.Ytnjmhgbdhekmdaa
/- THE CELL 'sum', in the pinned program and in every row, IS THE sha256 OF THE DUMP (.gsa) THAT YtnjmhgbdhekmdaaProg.lean LOADS. Nothing in Lean hashes anything: it is a label: what it is worth is what the hold of that sum in a sandbox is worth. -/
noncomputable def Try.pinned : Pinned := { name := "ytnjmhgbdhekmdaa", sum := "f4891420e705b276ccefb01f0f30fd5ea3990174d1ca460470c4e919c58d2f82", checked := Try.checked }
namespace Rows
def none {H : Type} : Left H := { results := [], args := [] }

/-- 'detentlaw09.DictTells': WHATEVER THE INPUT: true; the input reads as it did. -/
def dictTellsSpec : ChangeSpec := { name := "dictTells", fn := fun _ => fun
  | [d] => { results := [.lit (.bool true)], args := [d] }
  | _ => none }
def dictTellsRow : OpenClaim := { program := "ytnjmhgbdhekmdaa", sum := "f4891420e705b276ccefb01f0f30fd5ea3990174d1ca460470c4e919c58d2f82", func := "detent/detentlaw09.DictTells", spec := "dictTells", unfollowed := true, recurses := true, apart := false }
def DictTellsSaid : Prop := dictTellsRow.holds Try.pinned (OpenSpec.ofChange dictTellsSpec)

/-- ITS FALSE NEIGHBOUR: 'it returns false'. Refute it at one input. -/
def dictTellsWrong : ChangeSpec := { name := "dictTells", fn := fun _ => fun
  | [d] => { results := [.lit (.bool false)], args := [d] }
  | _ => none }
def DictTellsWrongFalsely : Prop := dictTellsRow.holds Try.pinned (OpenSpec.ofChange dictTellsWrong)

/-- 'detentlaw09.DictDoes': WHATEVER THE INPUT: true; the input reads as it did. -/
def dictDoesSpec : ChangeSpec := { name := "dictDoes", fn := fun _ => fun
  | [d] => { results := [.lit (.bool true)], args := [d] }
  | _ => none }
def dictDoesRow : OpenClaim := { program := "ytnjmhgbdhekmdaa", sum := "f4891420e705b276ccefb01f0f30fd5ea3990174d1ca460470c4e919c58d2f82", func := "detent/detentlaw09.DictDoes", spec := "dictDoes", unfollowed := true, recurses := true, apart := false }
def DictDoesSaid : Prop := dictDoesRow.holds Try.pinned (OpenSpec.ofChange dictDoesSpec)

/-- ITS FALSE NEIGHBOUR: 'it returns false'. Refute it at one input. -/
def dictDoesWrong : ChangeSpec := { name := "dictDoes", fn := fun _ => fun
  | [d] => { results := [.lit (.bool false)], args := [d] }
  | _ => none }
def DictDoesWrongFalsely : Prop := dictDoesRow.holds Try.pinned (OpenSpec.ofChange dictDoesWrong)

/-- 'detentlaw09.DictNewest': WHATEVER THE INPUT: true; the input reads as it did. -/
def dictNewestSpec : ChangeSpec := { name := "dictNewest", fn := fun _ => fun
  | [d] => { results := [.lit (.bool true)], args := [d] }
  | _ => none }
def dictNewestRow : OpenClaim := { program := "ytnjmhgbdhekmdaa", sum := "f4891420e705b276ccefb01f0f30fd5ea3990174d1ca460470c4e919c58d2f82", func := "detent/detentlaw09.DictNewest", spec := "dictNewest", unfollowed := true, recurses := true, apart := false }
def DictNewestSaid : Prop := dictNewestRow.holds Try.pinned (OpenSpec.ofChange dictNewestSpec)

/-- ITS FALSE NEIGHBOUR: 'it returns false'. Refute it at one input. -/
def dictNewestWrong : ChangeSpec := { name := "dictNewest", fn := fun _ => fun
  | [d] => { results := [.lit (.bool false)], args := [d] }
  | _ => none }
def DictNewestWrongFalsely : Prop := dictNewestRow.holds Try.pinned (OpenSpec.ofChange dictNewestWrong)

/-- 'detentlaw09.DictHides': WHATEVER THE INPUT: true; the input reads as it did. -/
def dictHidesSpec : ChangeSpec := { name := "dictHides", fn := fun _ => fun
  | [d1, d2] => { results := [.lit (.bool true)], args := [d1, d2] }
  | _ => none }
def dictHidesRow : OpenClaim := { program := "ytnjmhgbdhekmdaa", sum := "f4891420e705b276ccefb01f0f30fd5ea3990174d1ca460470c4e919c58d2f82", func := "detent/detentlaw09.DictHides", spec := "dictHides", unfollowed := true, recurses := true, apart := false }
def DictHidesSaid : Prop := dictHidesRow.holds Try.pinned (OpenSpec.ofChange dictHidesSpec)

/-- ITS FALSE NEIGHBOUR: 'it returns false'. Refute it at one input. -/
def dictHidesWrong : ChangeSpec := { name := "dictHides", fn := fun _ => fun
  | [d1, d2] => { results := [.lit (.bool false)], args := [d1, d2] }
  | _ => none }
def DictHidesWrongFalsely : Prop := dictHidesRow.holds Try.pinned (OpenSpec.ofChange dictHidesWrong)

/-- 'detentlaw09.DictNames': WHATEVER THE INPUT: true; the input reads as it did. -/
def dictNamesSpec : ChangeSpec := { name := "dictNames", fn := fun _ => fun
  | [d] => { results := [.lit (.bool true)], args := [d] }
  | _ => none }
def dictNamesRow : OpenClaim := { program := "ytnjmhgbdhekmdaa", sum := "f4891420e705b276ccefb01f0f30fd5ea3990174d1ca460470c4e919c58d2f82", func := "detent/detentlaw09.DictNames", spec := "dictNames", unfollowed := true, recurses := true, apart := false }
def DictNamesSaid : Prop := dictNamesRow.holds Try.pinned (OpenSpec.ofChange dictNamesSpec)

/-- ITS FALSE NEIGHBOUR: 'it returns false'. Refute it at one input. -/
def dictNamesWrong : ChangeSpec := { name := "dictNames", fn := fun _ => fun
  | [d] => { results := [.lit (.bool false)], args := [d] }
  | _ => none }
def DictNamesWrongFalsely : Prop := dictNamesRow.holds Try.pinned (OpenSpec.ofChange dictNamesWrong)

/-- 'detentlaw09.DictCuts': WHATEVER THE INPUT: true; the input reads as it did. -/
def dictCutsSpec : ChangeSpec := { name := "dictCuts", fn := fun _ => fun
  | [d] => { results := [.lit (.bool true)], args := [d] }
  | _ => none }
def dictCutsRow : OpenClaim := { program := "ytnjmhgbdhekmdaa", sum := "f4891420e705b276ccefb01f0f30fd5ea3990174d1ca460470c4e919c58d2f82", func := "detent/detentlaw09.DictCuts", spec := "dictCuts", unfollowed := true, recurses := true, apart := false }
def DictCutsSaid : Prop := dictCutsRow.holds Try.pinned (OpenSpec.ofChange dictCutsSpec)

/-- ITS FALSE NEIGHBOUR: 'it returns false'. Refute it at one input. -/
def dictCutsWrong : ChangeSpec := { name := "dictCuts", fn := fun _ => fun
  | [d] => { results := [.lit (.bool false)], args := [d] }
  | _ => none }
def DictCutsWrongFalsely : Prop := dictCutsRow.holds Try.pinned (OpenSpec.ofChange dictCutsWrong)

/- THE SECOND FORM. 'bulk': how many values and letters a reading holds, each counted each time it is reached (what is shared counts as often as it is met; a slice's spare places count too). A statement '..UptoSaid' is the law's where the arguments, and the package variables that the reading takes, are together of bulk at most 1048576: NARROWER than '..Said'. Prove '..Said' where nothing that the law and all that it calls make is longer than what came in: it says more and counts as full. Else prove '..UptoSaid'. A law counts once. -/
mutual
def uptoBulk {H : Type} : DataW H → Nat
  | .lit (.string bytes) => bytes.length + 1
  | .lit _ => 1
  | .nil => 1
  | .ptr d => uptoBulk d + 1
  | .slice elems spare => uptoBulkAll elems + uptoBulkAll spare + 1
  | .agg parts => uptoBulkAll parts + 1
  | .iface _ d => uptoBulk d + 1
  | .map entries => uptoBulkEntries entries + 1
  | .held _ => 1
def uptoBulkAll {H : Type} : List (DataW H) → Nat
  | [] => 0
  | d :: r => uptoBulk d + uptoBulkAll r
def uptoBulkEntries {H : Type} : List (Lit × DataW H) → Nat
  | [] => 0
  | x :: r => uptoBulkEntry x + uptoBulkEntries r
def uptoBulkEntry {H : Type} : Lit × DataW H → Nat
  | (.string bytes, d) => bytes.length + uptoBulk d + 1
  | (_, d) => uptoBulk d + 1
 end
def uptoSmall : (H : Type) → List (DataW H) → Bool := fun _ ds => decide (uptoBulkAll ds ≤ 1048576)
def OpenSpec.upto (s : _root_.Go.ChangeSpec) : _root_.Go.OpenSpec := { _root_.Go.OpenSpec.ofChange s with cond := some uptoSmall }

/-- 'detentlaw09.DictTells', WHERE WHAT IT READS IS OF BULK AT MOST 1048576: true; the input reads as it did. -/
def dictTellsUptoRow : OpenClaim := { program := "ytnjmhgbdhekmdaa", sum := "f4891420e705b276ccefb01f0f30fd5ea3990174d1ca460470c4e919c58d2f82", func := "detent/detentlaw09.DictTells", spec := "dictTells", unfollowed := true, recurses := true, apart := false, narrowed := true }
def DictTellsUptoSaid : Prop := dictTellsUptoRow.holds Try.pinned (OpenSpec.upto dictTellsSpec)

/-- 'detentlaw09.DictDoes', WHERE WHAT IT READS IS OF BULK AT MOST 1048576: true; the input reads as it did. -/
def dictDoesUptoRow : OpenClaim := { program := "ytnjmhgbdhekmdaa", sum := "f4891420e705b276ccefb01f0f30fd5ea3990174d1ca460470c4e919c58d2f82", func := "detent/detentlaw09.DictDoes", spec := "dictDoes", unfollowed := true, recurses := true, apart := false, narrowed := true }
def DictDoesUptoSaid : Prop := dictDoesUptoRow.holds Try.pinned (OpenSpec.upto dictDoesSpec)

/-- 'detentlaw09.DictNewest', WHERE WHAT IT READS IS OF BULK AT MOST 1048576: true; the input reads as it did. -/
def dictNewestUptoRow : OpenClaim := { program := "ytnjmhgbdhekmdaa", sum := "f4891420e705b276ccefb01f0f30fd5ea3990174d1ca460470c4e919c58d2f82", func := "detent/detentlaw09.DictNewest", spec := "dictNewest", unfollowed := true, recurses := true, apart := false, narrowed := true }
def DictNewestUptoSaid : Prop := dictNewestUptoRow.holds Try.pinned (OpenSpec.upto dictNewestSpec)

/-- 'detentlaw09.DictHides', WHERE WHAT IT READS IS OF BULK AT MOST 1048576: true; the input reads as it did. -/
def dictHidesUptoRow : OpenClaim := { program := "ytnjmhgbdhekmdaa", sum := "f4891420e705b276ccefb01f0f30fd5ea3990174d1ca460470c4e919c58d2f82", func := "detent/detentlaw09.DictHides", spec := "dictHides", unfollowed := true, recurses := true, apart := false, narrowed := true }
def DictHidesUptoSaid : Prop := dictHidesUptoRow.holds Try.pinned (OpenSpec.upto dictHidesSpec)

/-- 'detentlaw09.DictNames', WHERE WHAT IT READS IS OF BULK AT MOST 1048576: true; the input reads as it did. -/
def dictNamesUptoRow : OpenClaim := { program := "ytnjmhgbdhekmdaa", sum := "f4891420e705b276ccefb01f0f30fd5ea3990174d1ca460470c4e919c58d2f82", func := "detent/detentlaw09.DictNames", spec := "dictNames", unfollowed := true, recurses := true, apart := false, narrowed := true }
def DictNamesUptoSaid : Prop := dictNamesUptoRow.holds Try.pinned (OpenSpec.upto dictNamesSpec)

/-- 'detentlaw09.DictCuts', WHERE WHAT IT READS IS OF BULK AT MOST 1048576: true; the input reads as it did. -/
def dictCutsUptoRow : OpenClaim := { program := "ytnjmhgbdhekmdaa", sum := "f4891420e705b276ccefb01f0f30fd5ea3990174d1ca460470c4e919c58d2f82", func := "detent/detentlaw09.DictCuts", spec := "dictCuts", unfollowed := true, recurses := true, apart := false, narrowed := true }
def DictCutsUptoSaid : Prop := dictCutsUptoRow.holds Try.pinned (OpenSpec.upto dictCutsSpec)

end Rows
end Go.Proofs.Ytnjmhgbdhekmdaa
