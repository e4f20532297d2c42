/- Bytes that lie in memory, as a string; and with what Put and Get answer there. -/
import Derived.Test.YtadnajoefhajgaaShown
import Derived.Test.YtadnajoefhajgaaMathC
import Derived.Laws.BytesArg
namespace Go.Proofs.Ytadnajoefhajgaa
open Go.RowKit

/-- The string of a number's eight bytes. -/
def strOf (n : Nat) : ByteArray := strOfNums [(byteOf n 0 : Int), (byteOf n 1 : Int), (byteOf n 2 : Int), (byteOf n 3 : Int), (byteOf n 4 : Int), (byteOf n 5 : Int), (byteOf n 6 : Int), (byteOf n 7 : Int)]

/-- Eight bytes lie in block g, as an array. -/
def HasA (n : Nat) (g : Nat) (w : World) : Prop := w.heap[g]? = some (.cells #[.int .u8 (byteOf n 0 : Int), .int .u8 (byteOf n 1 : Int), .int .u8 (byteOf n 2 : Int), .int .u8 (byteOf n 3 : Int), .int .u8 (byteOf n 4 : Int), .int .u8 (byteOf n 5 : Int), .int .u8 (byteOf n 6 : Int), .int .u8 (byteOf n 7 : Int)] 40 (0, 0))
theorem HasA.lt {n g : Nat} {w : World} (h : HasA n g w) : g < w.heap.size := by
  unfold HasA at h
  exact (Array.getElem?_eq_some_iff.1 h).1
theorem HasA.keep {n g : Nat} {w w' : World} (h : HasA n g w) (hb : Below w.heap.size w w') : HasA n g w' := (hb.block g h.lt).trans h
theorem HasA.cells {n g : Nat} {w : World} (h : HasA n g w) : ∀ j v, [.int .u8 (byteOf n 0 : Int), .int .u8 (byteOf n 1 : Int), .int .u8 (byteOf n 2 : Int), .int .u8 (byteOf n 3 : Int), .int .u8 (byteOf n 4 : Int), .int .u8 (byteOf n 5 : Int), .int .u8 (byteOf n 6 : Int), .int .u8 (byteOf n 7 : Int)][j]? = some v → w.cell? ((⟨g, 0, none⟩ : Addr).add j) = some v :=
  fun j v hv => cells_at (cs := [.int .u8 (byteOf n 0 : Int), .int .u8 (byteOf n 1 : Int), .int .u8 (byteOf n 2 : Int), .int .u8 (byteOf n 3 : Int), .int .u8 (byteOf n 4 : Int), .int .u8 (byteOf n 5 : Int), .int .u8 (byteOf n 6 : Int), .int .u8 (byteOf n 7 : Int)]) h j v hv

theorem conv_of (n g : Nat) (w : World) (h : ∀ j v, [.int .u8 (byteOf n 0 : Int), .int .u8 (byteOf n 1 : Int), .int .u8 (byteOf n 2 : Int), .int .u8 (byteOf n 3 : Int), .int .u8 (byteOf n 4 : Int), .int .u8 (byteOf n 5 : Int), .int .u8 (byteOf n 6 : Int), .int .u8 (byteOf n 7 : Int)][j]? = some v → w.cell? ((⟨g, 0, none⟩ : Addr).add j) = some v) :
    (convert 22 9 (.slice (some ⟨g, 0, none⟩) 8 8)).run Try.prog w = .ok (.string (strOf n)) w := by
  refine run_convert_bytes_arg w 22 5 Try.underlying22 Try.underlying5 g 0 8 8 [(byteOf n 0 : Int), (byteOf n 1 : Int), (byteOf n 2 : Int), (byteOf n 3 : Int), (byteOf n 4 : Int), (byteOf n 5 : Int), (byteOf n 6 : Int), (byteOf n 7 : Int)] rfl ?_ 9 Try.underlying9
  intro i hi
  have hp : (⟨g, 0, none⟩ : Addr).add i = ⟨g, 0 + i, none⟩ := by unfold Addr.add; split <;> simp_all
  rw [← hp]
  have h8 : i = 0 ∨ i = 1 ∨ i = 2 ∨ i = 3 ∨ i = 4 ∨ i = 5 ∨ i = 6 ∨ i = 7 := by omega
  rcases h8 with rfl | rfl | rfl | rfl | rfl | rfl | rfl | rfl <;> exact h _ _ rfl
theorem Has.conv {n g : Nat} {w : World} (h : Has n g w) : (convert 22 9 (.slice (some ⟨g, 0, none⟩) 8 8)).run Try.prog w = .ok (.string (strOf n)) w := conv_of n g w h.cells
theorem HasA.conv {n g : Nat} {w : World} (h : HasA n g w) : (convert 22 9 (.slice (some ⟨g, 0, none⟩) 8 8)).run Try.prog w = .ok (.string (strOf n)) w := conv_of n g w h.cells

theorem get_hasA (n g : Nat) (w : World) (h : HasA n g w) (hn : n < 18446744073709551616) :
    Calls Try.prog 13 #[.slice (some ⟨g, 0, none⟩) 8 8] w fun e w' => e = .returned (.tuple #[.int .i64 (wrap64 (n : Int)), .int .i64 0]) ∧ Below w.heap.size w w' := by
  have c := get_yes ⟨g, 0, none⟩ 8 (byteOf n 0) (byteOf n 1) (byteOf n 2) (byteOf n 3) (byteOf n 4) (byteOf n 5) (byteOf n 6) (byteOf n 7) w h.lt (byteOf_lt _ _) (byteOf_lt _ _) (byteOf_lt _ _) (byteOf_lt _ _) (byteOf_lt _ _) (byteOf_lt _ _) (byteOf_lt _ _) (byteOf_lt _ _) (Lib.hid h.cells)
  rw [eight_bytes n hn] at c
  exact c

theorem u8_inj {x y : Nat} (hx : x < 256) (hy : y < 256) (h : UInt8.ofNat x = UInt8.ofNat y) : x = y := by
  have := congrArg UInt8.toNat h
  simp only [UInt8.toNat_ofNat'] at this
  omega
theorem str_inj (a b : Nat) (ha : a < 18446744073709551616) (hb : b < 18446744073709551616) (h : strOf a = strOf b) : a = b := by
  rw [← eight_bytes a ha, ← eight_bytes b hb]
  unfold strOf strOfNums at h
  simp only [List.map_cons, List.map_nil, Int.toNat_natCast, ByteArray.mk.injEq, Array.mk.injEq, List.cons.injEq, and_true] at h
  obtain ⟨h0, h1, h2, h3, h4, h5, h6, h7⟩ := h
  rw [u8_inj (byteOf_lt _ _) (byteOf_lt _ _) h0, u8_inj (byteOf_lt _ _) (byteOf_lt _ _) h1, u8_inj (byteOf_lt _ _) (byteOf_lt _ _) h2, u8_inj (byteOf_lt _ _) (byteOf_lt _ _) h3, u8_inj (byteOf_lt _ _) (byteOf_lt _ _) h4, u8_inj (byteOf_lt _ _) (byteOf_lt _ _) h5, u8_inj (byteOf_lt _ _) (byteOf_lt _ _) h6, u8_inj (byteOf_lt _ _) (byteOf_lt _ _) h7]
end Go.Proofs.Ytadnajoefhajgaa
