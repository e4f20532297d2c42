/- The head of all statements of layer 1: the document's examples come out. -/
import Derived.Test.YtadnajoefhajgaaWalksD
import Derived.Test.YtadnajoefhajgaaBytesC
namespace Go.Proofs.Ytadnajoefhajgaa
open Go.RowKit

/-- Eight bytes that were put lie in block g. -/
def Has (n : Nat) (g : Nat) (w : World) : Prop := w.heap[g]? = some (.cells #[.int .u8 (byteOf n 0 : Int), .int .u8 (byteOf n 1 : Int), .int .u8 (byteOf n 2 : Int), .int .u8 (byteOf n 3 : Int), .int .u8 (byteOf n 4 : Int), .int .u8 (byteOf n 5 : Int), .int .u8 (byteOf n 6 : Int), .int .u8 (byteOf n 7 : Int)] 5 (0, 0))
theorem Has.lt {n g : Nat} {w : World} (h : Has n g w) : g < w.heap.size := by
  unfold Has at h
  exact (Array.getElem?_eq_some_iff.1 h).1
theorem Has.keep {n g : Nat} {w w' : World} (h : Has n g w) (hb : Below w.heap.size w w') : Has n g w' := (hb.block g h.lt).trans h
theorem Has.cells {n g : Nat} {w : World} (h : Has n g w) : ∀ j v, [.int .u8 (byteOf n 0 : Int), .int .u8 (byteOf n 1 : Int), .int .u8 (byteOf n 2 : Int), .int .u8 (byteOf n 3 : Int), .int .u8 (byteOf n 4 : Int), .int .u8 (byteOf n 5 : Int), .int .u8 (byteOf n 6 : Int), .int .u8 (byteOf n 7 : Int)][j]? = some v → w.cell? ((⟨g, 0, none⟩ : Addr).add j) = some v :=
  fun j v hv => cells_at (cs := [.int .u8 (byteOf n 0 : Int), .int .u8 (byteOf n 1 : Int), .int .u8 (byteOf n 2 : Int), .int .u8 (byteOf n 3 : Int), .int .u8 (byteOf n 4 : Int), .int .u8 (byteOf n 5 : Int), .int .u8 (byteOf n 6 : Int), .int .u8 (byteOf n 7 : Int)]) h j v hv

theorem put_has (n : Int) (w : World) : Calls Try.prog 15 #[.int .i64 n] w fun e w' => ∃ g, e = .returned (.slice (some ⟨g, 0, none⟩) 8 8) ∧ w.heap.size ≤ g ∧ Has (un n) g w' ∧ Below w.heap.size w w' :=
  (put_any n w).mono fun _ _ h => h

/-- What lies in such a block is got. -/
theorem get_has (n g : Nat) (w : World) (h : Has n g w) (hn : n < 18446744073709551616) :
    Calls Try.prog 13 #[.slice (some ⟨g, 0, none⟩) 8 8] w fun e w' => e = .returned (.tuple #[.int .i64 (wrap64 (n : Int)), .int .i64 0]) ∧ Below w.heap.size w w' := by
  have c := get_yes ⟨g, 0, none⟩ 8 (byteOf n 0) (byteOf n 1) (byteOf n 2) (byteOf n 3) (byteOf n 4) (byteOf n 5) (byteOf n 6) (byteOf n 7) w h.lt (byteOf_lt _ _) (byteOf_lt _ _) (byteOf_lt _ _) (byteOf_lt _ _) (byteOf_lt _ _) (byteOf_lt _ _) (byteOf_lt _ _) (byteOf_lt _ _) (Lib.hid h.cells)
  rw [eight_bytes n hn] at c
  exact c

theorem shown_put (w : World) : Calls Try.prog 15 #[.int .i64 258] w fun e w' => ∃ g, e = .returned (.slice (some ⟨g, 0, none⟩) 8 8) ∧ w.heap.size ≤ g ∧ Has 258 g w' ∧ Below w.heap.size w w' := put_has 258 w
theorem shown_get (g : Nat) (w : World) (h : Has 258 g w) :
    Calls Try.prog 13 #[.slice (some ⟨g, 0, none⟩) 8 8] w fun e w' => e = .returned (.tuple #[.int .i64 258, .int .i64 0]) ∧ Below w.heap.size w w' := by
  have c := get_has 258 g w h (by omega)
  have e : wrap64 ((258 : Nat) : Int) = 258 := by decide +kernel
  rw [e] at c
  exact c
theorem Has.three {g : Nat} {w : World} (h : Has 258 g w) : w.cell? ⟨g, 0, none⟩ = some (.int .u8 2) ∧ w.cell? ⟨g, 1, none⟩ = some (.int .u8 1) ∧ w.cell? ⟨g, 7, none⟩ = some (.int .u8 0) :=
  ⟨h.cells 0 _ rfl, h.cells 1 _ rfl, h.cells 7 _ rfl⟩
theorem shown_div (w : World) : Calls Try.prog 19 #[.int .i64 (-7), .int .i64 2] w fun e w' => e = .returned (.tuple #[.int .i64 (-4), .int .i64 1, .int .i64 0]) ∧ Below w.heap.size w w' := by
  have c := div_any (-7) 2 w (by unfold cellR; omega) (by unfold cellR; omega)
  rw [show dq (-7) 2 = -4 by decide +kernel, show dr (-7) 2 = 1 by decide +kernel, show dc 2 = 0 by decide +kernel] at c
  exact c
theorem shown_umul (w : World) : Calls Try.prog 21 #[.int .i64 (-1), .int .i64 (-1)] w fun e w' => e = .returned (.tuple #[.int .i64 1, .int .i64 (-2)]) ∧ w = w' := by
  have c := umul_any (-1) (-1) w
  rw [show umLo (-1) (-1) = 1 by decide +kernel, show umHi (-1) (-1) = -2 by decide +kernel] at c
  exact c
theorem shown_sdiv (w : World) : Calls Try.prog 27 #[.int .i64 (-7), .int .i64 (-1), .int .i64 2] w fun e w' => e = .returned (.tuple #[.int .i64 (-3), .int .i64 (-1), .int .i64 0]) ∧ Below w.heap.size w w' := by
  have c := sdiv_any (-7) (-1) 2 w (by unfold cellR; omega) (by unfold cellR; omega)
  rw [show sq (-7) (-1) 2 = -3 by decide +kernel, show sr (-7) (-1) 2 = -1 by decide +kernel, show sc (-7) (-1) 2 = 0 by decide +kernel] at c
  exact c
theorem shown_fdiv (w : World) : Calls Try.prog 29 #[.int .i64 (-7), .int .i64 (-1), .int .i64 2] w fun e w' => e = .returned (.tuple #[.int .i64 (-4), .int .i64 1, .int .i64 0]) ∧ Below w.heap.size w w' := by
  have c := fdiv_any (-7) (-1) 2 w (by unfold cellR; omega) (by unfold cellR; omega)
  rw [show fq (-7) (-1) 2 = -4 by decide +kernel, show fr (-7) (-1) 2 = 1 by decide +kernel, show fc (-7) (-1) 2 = 0 by decide +kernel] at c
  exact c
theorem shown_mul (w : World) : Calls Try.prog 23 #[.int .i64 (-3), .int .i64 5] w fun e w' => e = .returned (.tuple #[.int .i64 (-15), .int .i64 (-1)]) ∧ w = w' := by
  have c := mul_any (-3) 5 w (by unfold cellR; omega) (by unfold cellR; omega)
  rw [show umLo (-3) 5 = -15 by decide +kernel, show smHi (-3) 5 = -1 by decide +kernel] at c
  exact c
theorem shown_udiv (w : World) : Calls Try.prog 25 #[.int .i64 1, .int .i64 0, .int .i64 0] w fun e w' => e = .returned (.tuple #[.int .i64 0, .int .i64 0, .int .i64 (-10)]) ∧ Below w.heap.size w w' := by
  have c := udiv_any 1 0 0 w (by unfold cellR; omega)
  rw [show uq 1 0 0 = 0 by decide +kernel, show ur 1 0 0 = 0 by decide +kernel, show uc 0 0 = -10 by decide +kernel] at c
  exact c
theorem shown_less (w : World) : Calls Try.prog 17 #[.int .i64 1, .int .i64 (-1)] w fun e w' => e = .returned (.bool true) ∧ w = w' := by
  have c := uless_any 1 (-1) w
  rw [show decide (un 1 < un (-1)) = true by decide +kernel] at c
  exact c
theorem shown_more (w : World) : Calls Try.prog 17 #[.int .i64 (-1), .int .i64 1] w fun e w' => e = .returned (.bool false) ∧ w = w' := by
  have c := uless_any (-1) 1 w
  rw [show decide (un (-1) < un 1) = false by decide +kernel] at c
  exact c

theorem below_then {w w1 w2 : World} (h : Below w.heap.size w w1) (k : Below w1.heap.size w1 w2) : Below w.heap.size w w2 := h.trans (k.mono h.size)

set_option maxRecDepth 100000 in
set_option maxHeartbeats 4000000 in
theorem shown_any (w : World) : Calls Try.prog 12 #[] w fun e w' => e = .returned (.bool true) ∧ Below w.heap.size w w' := by
  go_enter Try.func12, Try.ntmps12
  go_wp2_with fail
  refine (shown_put _).mono ?_
  rintro e w1 ⟨g, rfl, hg, H1, b1⟩
  go_wp2_with fail
  refine (shown_get g _ H1).mono ?_
  rintro e w2 ⟨rfl, b2⟩
  have H2 := H1.keep b2
  have c2 := below_then b1 b2
  clear H1 b1 b2
  go_wp2_with fail
  refine (shown_div _).mono ?_
  rintro e w3 ⟨rfl, b3⟩
  have H3 := H2.keep b3
  have c3 := below_then c2 b3
  clear H2 c2 b3
  go_wp2_with fail
  refine (shown_umul _).mono ?_
  rintro e w3' ⟨rfl, rfl⟩
  go_wp2_with fail
  refine (shown_sdiv _).mono ?_
  rintro e w4 ⟨rfl, b4⟩
  have H4 := H3.keep b4
  have c4 := below_then c3 b4
  clear H3 c3 b4
  go_wp2_with fail
  refine (shown_fdiv _).mono ?_
  rintro e w5 ⟨rfl, b5⟩
  have H5 := H4.keep b5
  have c5 := below_then c4 b5
  clear H4 c4 b5
  go_wp2_with fail
  refine (shown_mul _).mono ?_
  rintro e w5' ⟨rfl, rfl⟩
  go_wp2_with fail
  refine (shown_udiv _).mono ?_
  rintro e w6 ⟨rfl, b6⟩
  have H6 := H5.keep b6
  have c6 := below_then c5 b6
  clear H5 c5 b6
  obtain ⟨k0, k1, k7⟩ := H6.three
  go_wp2_with fail
  refine (shown_less _).mono ?_
  rintro e w6' ⟨rfl, rfl⟩
  go_wp2_with fail
  refine (shown_more _).mono ?_
  rintro e w6' ⟨rfl, rfl⟩
  go_wp2_with fail
  go_ret
  exact ⟨rfl, c6⟩
end Go.Proofs.Ytadnajoefhajgaa
