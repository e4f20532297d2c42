/-
  No cell of these rows narrows 'for every input' (looked for: loops, veiled, ifaces, maps, wideKeys, modest, calm, conditions, laid).
  DERIVED. THE GIVEN ROWS OF THIS SEAT. 6 by the template 'for every input the law returns true; each argument reads behind the call as it read before'; 0 by the template 'total and deterministic' (their statements: YtphbeghflbkpgaaTotals.lean).
  GIVEN WITH THE SEED: the statements are not yours to turn. If you find one false, say at which input.
  Laid BY PROGRAM, IN A SANDBOX (cutbox-rows.mjs): the forced cells as the released guide's own fill.sh prints them over the translation 18e006d02f199b1b… (all of the seat's roots in one cut). By AI agents, Wed Nov 11 2026. No macro, syntax, notation, axiom, sorry.
-/
import Derived.Test.YtphbeghflbkpgaaChecked
import GoSem.Claim
import GoSem.ClaimJoined
import GoSem.ClaimMapViews
import Derived.JoinedTies
import Derived.KernelRfl
namespace Go.Proofs.Ytphbeghflbkpgaa
/- THE CELL 'sum', in the pinned program and in every row, IS THE sha256 OF THE DUMP (.gsa) THAT YtphbeghflbkpgaaProg.lean LOADS. Nothing in Lean hashes anything: it is a label: what it is worth is what the hold of that sum in a sandbox is worth. -/
noncomputable def Try.pinned : Pinned := { name := "ytphbeghflbkpgaa", sum := "18e006d02f199b1b20efa5b472abd7ecc93b8ec58163feadd6747b313ca23dc4", checked := Try.checked }
namespace Rows
def none {H : Type} : Left H := { results := [], args := [] }

/-- 'detentlaw07.PicTells': WHATEVER THE INPUT: true; the input reads as it did. -/
def picTellsSpec : ChangeSpec := { name := "picTells", fn := fun _ => fun
  | [d1, d2] => { results := [.lit (.bool true)], args := [d1, d2] }
  | _ => none }
def picTellsRow : OpenClaim := { program := "ytphbeghflbkpgaa", sum := "18e006d02f199b1b20efa5b472abd7ecc93b8ec58163feadd6747b313ca23dc4", func := "detent/detentlaw07.PicTells", spec := "picTells", unfollowed := true, recurses := true, named := ["math/bits.divideError", "math/bits.overflowError"], apart := false }
def PicTellsSaid : Prop := picTellsRow.holds Try.pinned (OpenSpec.ofChange picTellsSpec)

/-- ITS FALSE NEIGHBOUR: 'it returns false'. Refute it at one input. -/
def picTellsWrong : ChangeSpec := { name := "picTells", fn := fun _ => fun
  | [d1, d2] => { results := [.lit (.bool false)], args := [d1, d2] }
  | _ => none }
def PicTellsWrongFalsely : Prop := picTellsRow.holds Try.pinned (OpenSpec.ofChange picTellsWrong)

/-- 'detentlaw07.PicLays': WHATEVER THE INPUT: true; the input reads as it did. -/
def picLaysSpec : ChangeSpec := { name := "picLays", fn := fun _ => fun
  | [d] => { results := [.lit (.bool true)], args := [d] }
  | _ => none }
def picLaysRow : OpenClaim := { program := "ytphbeghflbkpgaa", sum := "18e006d02f199b1b20efa5b472abd7ecc93b8ec58163feadd6747b313ca23dc4", func := "detent/detentlaw07.PicLays", spec := "picLays", unfollowed := true, recurses := true, named := ["math/bits.divideError", "math/bits.overflowError"], apart := false }
def PicLaysSaid : Prop := picLaysRow.holds Try.pinned (OpenSpec.ofChange picLaysSpec)

/-- ITS FALSE NEIGHBOUR: 'it returns false'. Refute it at one input. -/
def picLaysWrong : ChangeSpec := { name := "picLays", fn := fun _ => fun
  | [d] => { results := [.lit (.bool false)], args := [d] }
  | _ => none }
def PicLaysWrongFalsely : Prop := picLaysRow.holds Try.pinned (OpenSpec.ofChange picLaysWrong)

/-- 'detentlaw07.PicShows': WHATEVER THE INPUT: true; the input reads as it did. -/
def picShowsSpec : ChangeSpec := { name := "picShows", fn := fun _ => fun
  | [d1, d2] => { results := [.lit (.bool true)], args := [d1, d2] }
  | _ => none }
def picShowsRow : OpenClaim := { program := "ytphbeghflbkpgaa", sum := "18e006d02f199b1b20efa5b472abd7ecc93b8ec58163feadd6747b313ca23dc4", func := "detent/detentlaw07.PicShows", spec := "picShows", unfollowed := true, recurses := true, named := ["math/bits.divideError", "math/bits.overflowError"], apart := false }
def PicShowsSaid : Prop := picShowsRow.holds Try.pinned (OpenSpec.ofChange picShowsSpec)

/-- ITS FALSE NEIGHBOUR: 'it returns false'. Refute it at one input. -/
def picShowsWrong : ChangeSpec := { name := "picShows", fn := fun _ => fun
  | [d1, d2] => { results := [.lit (.bool false)], args := [d1, d2] }
  | _ => none }
def PicShowsWrongFalsely : Prop := picShowsRow.holds Try.pinned (OpenSpec.ofChange picShowsWrong)

/-- 'detentlaw07.PicDigits': WHATEVER THE INPUT: true; the input reads as it did. -/
def picDigitsSpec : ChangeSpec := { name := "picDigits", fn := fun _ => fun
  | [d1, d2, d3] => { results := [.lit (.bool true)], args := [d1, d2, d3] }
  | _ => none }
def picDigitsRow : OpenClaim := { program := "ytphbeghflbkpgaa", sum := "18e006d02f199b1b20efa5b472abd7ecc93b8ec58163feadd6747b313ca23dc4", func := "detent/detentlaw07.PicDigits", spec := "picDigits", unfollowed := true, recurses := true, named := ["math/bits.divideError", "math/bits.overflowError"], apart := false }
def PicDigitsSaid : Prop := picDigitsRow.holds Try.pinned (OpenSpec.ofChange picDigitsSpec)

/-- ITS FALSE NEIGHBOUR: 'it returns false'. Refute it at one input. -/
def picDigitsWrong : ChangeSpec := { name := "picDigits", fn := fun _ => fun
  | [d1, d2, d3] => { results := [.lit (.bool false)], args := [d1, d2, d3] }
  | _ => none }
def PicDigitsWrongFalsely : Prop := picDigitsRow.holds Try.pinned (OpenSpec.ofChange picDigitsWrong)

/-- 'detentlaw07.PicOrder': WHATEVER THE INPUT: true; the input reads as it did. -/
def picOrderSpec : ChangeSpec := { name := "picOrder", fn := fun _ => fun
  | [d1, d2] => { results := [.lit (.bool true)], args := [d1, d2] }
  | _ => none }
def picOrderRow : OpenClaim := { program := "ytphbeghflbkpgaa", sum := "18e006d02f199b1b20efa5b472abd7ecc93b8ec58163feadd6747b313ca23dc4", func := "detent/detentlaw07.PicOrder", spec := "picOrder", unfollowed := true, recurses := true, named := ["math/bits.divideError", "math/bits.overflowError"], apart := false }
def PicOrderSaid : Prop := picOrderRow.holds Try.pinned (OpenSpec.ofChange picOrderSpec)

/-- ITS FALSE NEIGHBOUR: 'it returns false'. Refute it at one input. -/
def picOrderWrong : ChangeSpec := { name := "picOrder", fn := fun _ => fun
  | [d1, d2] => { results := [.lit (.bool false)], args := [d1, d2] }
  | _ => none }
def PicOrderWrongFalsely : Prop := picOrderRow.holds Try.pinned (OpenSpec.ofChange picOrderWrong)

/-- 'detentlaw07.PicSteps': WHATEVER THE INPUT: true; the input reads as it did. -/
def picStepsSpec : ChangeSpec := { name := "picSteps", fn := fun _ => fun
  | [d] => { results := [.lit (.bool true)], args := [d] }
  | _ => none }
def picStepsRow : OpenClaim := { program := "ytphbeghflbkpgaa", sum := "18e006d02f199b1b20efa5b472abd7ecc93b8ec58163feadd6747b313ca23dc4", func := "detent/detentlaw07.PicSteps", spec := "picSteps", unfollowed := true, recurses := true, named := ["math/bits.divideError", "math/bits.overflowError"], apart := false }
def PicStepsSaid : Prop := picStepsRow.holds Try.pinned (OpenSpec.ofChange picStepsSpec)

/-- ITS FALSE NEIGHBOUR: 'it returns false'. Refute it at one input. -/
def picStepsWrong : ChangeSpec := { name := "picSteps", fn := fun _ => fun
  | [d] => { results := [.lit (.bool false)], args := [d] }
  | _ => none }
def PicStepsWrongFalsely : Prop := picStepsRow.holds Try.pinned (OpenSpec.ofChange picStepsWrong)

/- THE SECOND FORM. 'bulk': how many values and letters a reading holds, each counted each time it is reached (what is shared counts as often as it is met; a slice's spare places count too). A statement '..UptoSaid' is the law's where the arguments, and the package variables that the reading takes, are together of bulk at most 1048576: NARROWER than '..Said'. Prove '..Said' where nothing that the law and all that it calls make is longer than what came in: it says more and counts as full. Else prove '..UptoSaid'. A law counts once. -/
mutual
def uptoBulk {H : Type} : DataW H → Nat
  | .lit (.string bytes) => bytes.length + 1
  | .lit _ => 1
  | .nil => 1
  | .ptr d => uptoBulk d + 1
  | .slice elems spare => uptoBulkAll elems + uptoBulkAll spare + 1
  | .agg parts => uptoBulkAll parts + 1
  | .iface _ d => uptoBulk d + 1
  | .map entries => uptoBulkEntries entries + 1
  | .held _ => 1
def uptoBulkAll {H : Type} : List (DataW H) → Nat
  | [] => 0
  | d :: r => uptoBulk d + uptoBulkAll r
def uptoBulkEntries {H : Type} : List (Lit × DataW H) → Nat
  | [] => 0
  | x :: r => uptoBulkEntry x + uptoBulkEntries r
def uptoBulkEntry {H : Type} : Lit × DataW H → Nat
  | (.string bytes, d) => bytes.length + uptoBulk d + 1
  | (_, d) => uptoBulk d + 1
 end
def uptoSmall : (H : Type) → List (DataW H) → Bool := fun _ ds => decide (uptoBulkAll ds ≤ 1048576)
def OpenSpec.upto (s : _root_.Go.ChangeSpec) : _root_.Go.OpenSpec := { _root_.Go.OpenSpec.ofChange s with cond := some uptoSmall }

/-- 'detentlaw07.PicTells', WHERE WHAT IT READS IS OF BULK AT MOST 1048576: true; the input reads as it did. -/
def picTellsUptoRow : OpenClaim := { program := "ytphbeghflbkpgaa", sum := "18e006d02f199b1b20efa5b472abd7ecc93b8ec58163feadd6747b313ca23dc4", func := "detent/detentlaw07.PicTells", spec := "picTells", unfollowed := true, recurses := true, named := ["math/bits.divideError", "math/bits.overflowError"], apart := false, narrowed := true }
def PicTellsUptoSaid : Prop := picTellsUptoRow.holds Try.pinned (OpenSpec.upto picTellsSpec)

/-- 'detentlaw07.PicLays', WHERE WHAT IT READS IS OF BULK AT MOST 1048576: true; the input reads as it did. -/
def picLaysUptoRow : OpenClaim := { program := "ytphbeghflbkpgaa", sum := "18e006d02f199b1b20efa5b472abd7ecc93b8ec58163feadd6747b313ca23dc4", func := "detent/detentlaw07.PicLays", spec := "picLays", unfollowed := true, recurses := true, named := ["math/bits.divideError", "math/bits.overflowError"], apart := false, narrowed := true }
def PicLaysUptoSaid : Prop := picLaysUptoRow.holds Try.pinned (OpenSpec.upto picLaysSpec)

/-- 'detentlaw07.PicShows', WHERE WHAT IT READS IS OF BULK AT MOST 1048576: true; the input reads as it did. -/
def picShowsUptoRow : OpenClaim := { program := "ytphbeghflbkpgaa", sum := "18e006d02f199b1b20efa5b472abd7ecc93b8ec58163feadd6747b313ca23dc4", func := "detent/detentlaw07.PicShows", spec := "picShows", unfollowed := true, recurses := true, named := ["math/bits.divideError", "math/bits.overflowError"], apart := false, narrowed := true }
def PicShowsUptoSaid : Prop := picShowsUptoRow.holds Try.pinned (OpenSpec.upto picShowsSpec)

/-- 'detentlaw07.PicDigits', WHERE WHAT IT READS IS OF BULK AT MOST 1048576: true; the input reads as it did. -/
def picDigitsUptoRow : OpenClaim := { program := "ytphbeghflbkpgaa", sum := "18e006d02f199b1b20efa5b472abd7ecc93b8ec58163feadd6747b313ca23dc4", func := "detent/detentlaw07.PicDigits", spec := "picDigits", unfollowed := true, recurses := true, named := ["math/bits.divideError", "math/bits.overflowError"], apart := false, narrowed := true }
def PicDigitsUptoSaid : Prop := picDigitsUptoRow.holds Try.pinned (OpenSpec.upto picDigitsSpec)

/-- 'detentlaw07.PicOrder', WHERE WHAT IT READS IS OF BULK AT MOST 1048576: true; the input reads as it did. -/
def picOrderUptoRow : OpenClaim := { program := "ytphbeghflbkpgaa", sum := "18e006d02f199b1b20efa5b472abd7ecc93b8ec58163feadd6747b313ca23dc4", func := "detent/detentlaw07.PicOrder", spec := "picOrder", unfollowed := true, recurses := true, named := ["math/bits.divideError", "math/bits.overflowError"], apart := false, narrowed := true }
def PicOrderUptoSaid : Prop := picOrderUptoRow.holds Try.pinned (OpenSpec.upto picOrderSpec)

/-- 'detentlaw07.PicSteps', WHERE WHAT IT READS IS OF BULK AT MOST 1048576: true; the input reads as it did. -/
def picStepsUptoRow : OpenClaim := { program := "ytphbeghflbkpgaa", sum := "18e006d02f199b1b20efa5b472abd7ecc93b8ec58163feadd6747b313ca23dc4", func := "detent/detentlaw07.PicSteps", spec := "picSteps", unfollowed := true, recurses := true, named := ["math/bits.divideError", "math/bits.overflowError"], apart := false, narrowed := true }
def PicStepsUptoSaid : Prop := picStepsUptoRow.holds Try.pinned (OpenSpec.upto picStepsSpec)

end Rows
end Go.Proofs.Ytphbeghflbkpgaa
