/- Contracts of num's unmarked, quoted, of strings.CutPrefix by a minus, and of Parse. -/
import Derived.Test.YtakeaocmiblbeaaNumRefC
import Derived.Test.YtakeaocmiblbeaaBytApp
import Derived.Laws.RangeAny
import Derived.Lib.OthersKept
import Derived.WalkSpells
namespace Go.Proofs.Ytakeaocmiblbeaa
open Go.RowKit
set_option linter.unusedVariables false
set_option linter.unusedSimpArgs false

theorem strB_tail (c : UInt8) (r : List UInt8) : (strB (c :: r)).extract 1 (strB (c :: r)).size = strB r := by
  apply ByteArray.ext
  rw [ByteArray.data_extract]
  simp [strB, strB_size, ByteArray.size]
theorem strB_first (c : UInt8) (r : List UInt8) : (strB (c :: r)).extract 0 1 = strB [c] := by
  apply ByteArray.ext
  rw [ByteArray.data_extract]
  simp [strB]

end Go.Proofs.Ytakeaocmiblbeaa
