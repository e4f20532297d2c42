/- Is a text in a row; a word's flags: the document's in and flags. -/
import Derived.Test.YtbighilgkmfemaaDoorVmNames
namespace Go.Proofs.YtbighilgkmfemaaDoor
open Go.RowKit
set_option linter.unusedVariables false
set_option linter.unusedSimpArgs false

def inB (ls : List (List UInt8)) (s : List UInt8) : Bool := decide (s ∈ ls)
set_option maxRecDepth 100000 in
def onlyL : List (List UInt8) := [[73], [74], [85, 78, 76, 79, 79, 80], [62, 82], [82, 62], [82, 64], [50, 62, 82], [50, 82, 62]]
set_option maxRecDepth 100000 in
def nowL : List (List UInt8) := [[46, 34], [40], [92], [91]]
set_option maxRecDepth 100000 in
def bothL : List (List UInt8) := [[59], [68, 79, 69, 83, 62], [91, 39, 93], [91, 67, 72, 65, 82, 93], [76, 73, 84, 69, 82, 65, 76], [80, 79, 83, 84, 80, 79, 78, 69], [82, 69, 67, 85, 82, 83, 69], [73, 70], [69, 76, 83, 69], [84, 72, 69, 78], [66, 69, 71, 73, 78], [87, 72, 73, 76, 69], [82, 69, 80, 69, 65, 84], [85, 78, 84, 73, 76], [65, 71, 65, 73, 78], [68, 79], [63, 68, 79], [76, 79, 79, 80], [43, 76, 79, 79, 80], [76, 69, 65, 86, 69], [83, 34], [69, 88, 73, 84]]
/-- A word's flags. -/
def flagF (s : List UInt8) (i : Nat) : Int := if i < 12 then 6 else if inB onlyL s = true then 4 else if inB nowL s = true then 1 else if inB bothL s = true then 5 else 0
end Go.Proofs.YtbighilgkmfemaaDoor
