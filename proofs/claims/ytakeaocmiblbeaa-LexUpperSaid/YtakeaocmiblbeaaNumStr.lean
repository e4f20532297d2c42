/- Texts as values: their bytes, one by one, and put together. -/
import Derived.Test.YtakeaocmiblbeaaMemSame
import Derived.Test.YtakeaocmiblbeaaNumMath
import Derived.Laws.BytesString
import Derived.Laws.IdiomStrings
namespace Go.Proofs.Ytakeaocmiblbeaa
open Go.RowKit
set_option linter.unusedVariables false
set_option linter.unusedSimpArgs false

theorem strB_of (s : ByteArray) : strB s.data.toList = s := by
  cases s
  simp [strB]
theorem strB_size (l : List UInt8) : (strB l).size = l.length := rfl
theorem strB_app (a b : List UInt8) : strB a ++ strB b = strB (a ++ b) := by
  apply ByteArray.ext
  simp [strB, ByteArray.data_append]
theorem run_ix (l : List UInt8) (i : Nat) (h : i < l.length) (w : World) :
    (Instr.index 9 (.string (strB l)) (.int .i64 (i : Int))).run Try.prog w = .ok (.int .u8 ((l[i]).toNat : Int)) w := by
  have e : (strB l)[i]? = some l[i] := by
    have hs : i < (strB l).size := h
    rw [getElem?_pos (strB l) i hs]
    rfl
  simp [Instr.index, run_underlying Try.underlying9, asIntOf, e]
theorem one_newN (w1 : World) (b : Array Value) (t : TypeId) : (w1.alloc (.cells b t)).heap[w1.heap.size]? = some (.cells b t (0, 0)) := by
  show (w1.heap.push _)[w1.heap.size]? = _
  exact Array.getElem?_push_size
theorem conv_one (x : UInt8) (w : World) : (convert 46 9 (.slice (some ⟨w.heap.size, 0, none⟩) 1 1)).run Try.prog (w.alloc (.cells #[.int .u8 (x.toNat : Int)] 5)) = .ok (.string (strB [x])) (w.alloc (.cells #[.int .u8 (x.toNat : Int)] 5)) := by
  refine run_convert_bytes_back (w.alloc (.cells #[.int .u8 (x.toNat : Int)] 5)) 46 9 5 ⟨w.heap.size, 0, none⟩ 1 [x] Try.underlying46 Try.underlying5 Try.underlying9 fun j hj => ?_
  have h0 : j = 0 := by simp at hj; omega
  subst h0
  have h := one_newN w #[.int .u8 (x.toNat : Int)] 5
  rw [show (⟨w.heap.size, 0, none⟩ : Addr).add 0 = ⟨w.heap.size, 0, none⟩ from by simp [Addr.add]]
  unfold World.cell?
  rw [h]
  rfl
end Go.Proofs.Ytakeaocmiblbeaa
