/- The head of all statements of layer 8: the document's examples come out. -/
import Derived.Test.YtakeaocmiblbeaaLexCode
namespace Go.Proofs.Ytakeaocmiblbeaa
open Go.RowKit
set_option linter.unusedVariables false
set_option linter.unusedSimpArgs false

theorem l8a : wordsF [58, 32, 120, 32, 49, 32, 59] = [[58], [120], [49], [59]] := by
  rw [wordsF_cons (by decide), wordsF_cons (by decide), wordsF_cons (by decide), wordsF_cons (by decide), wordsF_nil (by decide)]
  decide
theorem l8u : strB (uptoAt [97, 98, 34, 32, 99] 0 34) = ⟨#[97, 98]⟩ ∧ uptoN [97, 98, 34, 32, 99] 0 34 = 3 ∧ hasC [97, 98, 34, 32, 99] 0 34 = true := ⟨by rw [show uptoAt [97, 98, 34, 32, 99] 0 34 = [97, 98] by decide]; rfl, by decide, by decide⟩
theorem l8w : strB (wordAt [32, 32, 97, 98, 32, 99, 100] 0) = ⟨#[97, 98]⟩ ∧ nextN [32, 32, 97, 98, 32, 99, 100] 0 = 5 := ⟨by rw [show wordAt [32, 32, 97, 98, 32, 99, 100] 0 = [97, 98] by decide]; rfl, by decide⟩
theorem l8p : strB (upperF [97, 90, 49, 233]) = ⟨#[65, 90, 49, 233]⟩ := by rw [show upperF [97, 90, 49, 233] = [65, 90, 49, 233] by decide]; rfl
theorem l8k : alikeF [68, 117, 112] [100, 85, 80] = true ∧ alikeF [97] [98] = false := by decide

set_option maxRecDepth 100000 in
set_option maxHeartbeats 8000000 in
theorem shown_any8 (w : World) : Calls Try.prog 9 #[] w fun e w' => e = .returned (.bool true) ∧ Below w.heap.size w w' := by
  go_enter Try.func9, Try.ntmps9
  have B0 : Hid (Below w.heap.size w w) := Below.refl _ _
  go_wp2_with fail
  refine (upto_any [97, 98, 34, 32, 99] 0 34 _ (by simp)).mono ?_
  rw [l8u.1, l8u.2.1, l8u.2.2]
  rintro e w1 ⟨rfl, bb⟩
  have B1 := Lib.hid (below_then B0.out bb)
  clear bb B0
  go_wp2_with fail
  refine (word_any [32, 32, 97, 98, 32, 99, 100] 0 _ (by simp)).mono ?_
  rw [l8w.1, l8w.2]
  rintro e w2 ⟨rfl, bb⟩
  have B2 := Lib.hid (below_then B1.out bb)
  clear bb B1
  go_wp2_with fail
  refine (words_any [58, 32, 120, 32, 49, 32, 59] _ (by simp)).mono ?_
  rw [l8a]
  rintro e w3 ⟨A3, n3, c3, rfl, hs, bb⟩
  have S3 := Lib.hid (hs.keep (al_one w3 (.cells #[.string ⟨#[58]⟩, .string ⟨#[120]⟩, .string ⟨#[49]⟩, .string ⟨#[59]⟩] 9)))
  have T3 : Hid (Sts (w3.alloc (.cells #[.string ⟨#[58]⟩, .string ⟨#[120]⟩, .string ⟨#[49]⟩, .string ⟨#[59]⟩] 9)) (.slice (some ⟨w3.heap.size, 0, none⟩) 4 4) [[58], [120], [49], [59]]) := sts_block (l := [[58], [120], [49], [59]]) (one_newN w3 _ _) (by simp)
  have B3 := Lib.hid (alloc_then (o := .cells #[.string ⟨#[58]⟩, .string ⟨#[120]⟩, .string ⟨#[49]⟩, .string ⟨#[59]⟩] 9) (below_then B2.out bb))
  clear bb hs B2
  go_wp2_with fail
  refine (rsame_any A3 (some ⟨w3.heap.size, 0, none⟩) n3 c3 4 4 [[58], [120], [49], [59]] [[58], [120], [49], [59]] _ S3.out T3.out (by simp)).mono ?_
  rw [sameR_refl]
  rintro e w4 ⟨rfl, bb⟩
  have B4 := Lib.hid (below_then B3.out bb)
  clear bb B3 S3 T3
  go_wp2_with fail
  refine (upper_any [97, 90, 49, 233] _ (by simp)).mono ?_
  rw [l8p]
  rintro e w5 ⟨rfl, bb⟩
  have B5 := Lib.hid (below_then B4.out bb)
  clear bb B4
  go_wp2_with fail
  refine (alike_any [68, 117, 112] [100, 85, 80] _ (by simp) (by simp)).mono ?_
  rw [l8k.1]
  rintro e w6 ⟨rfl, bb⟩
  have B6 := Lib.hid (below_then B5.out bb)
  clear bb B5
  go_wp2_with fail
  refine (alike_any [97] [98] _ (by simp) (by simp)).mono ?_
  rw [l8k.2]
  rintro e w7 ⟨rfl, bb⟩
  have B7 := Lib.hid (below_then B6.out bb)
  clear bb B6
  go_wp2_with fail
  go_ret
  exact ⟨rfl, B7.out⟩
end Go.Proofs.Ytakeaocmiblbeaa
