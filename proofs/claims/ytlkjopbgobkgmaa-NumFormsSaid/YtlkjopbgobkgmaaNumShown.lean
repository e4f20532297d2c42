/- The head of all statements of layer 6: the document's examples come out. -/
import Derived.Test.YtlkjopbgobkgmaaNumCode
namespace Go.Proofs.Ytlkjopbgobkgmaa
open Go.RowKit
set_option linter.unusedVariables false
set_option linter.unusedSimpArgs false

theorem rdigit_b (n : Int) (w : World) : Calls Try.prog 18 #[.int .i64 n] w fun e w' => e = .returned (.int .u8 (digF n)) ∧ Below w.heap.size w w' := (rdigit_any n w).mono fun _ _ ⟨h, e⟩ => ⟨h, e ▸ Below.refl _ _⟩
theorem rworth_b (c : Nat) (b : Int) (w : World) (hc : c < 256) : Calls Try.prog 16 #[.int .u8 (c : Int), .int .i64 b] w fun e w' => e = .returned (.tuple #[.int .i64 (worthF c b), .bool (isW c b)]) ∧ Below w.heap.size w w' := (rworth_any c b w hc).mono fun _ _ ⟨h, e⟩ => ⟨h, e ▸ Below.refl _ _⟩
theorem rparse_b (l : List UInt8) (b : Int) (w : World) (hl : l.length ≤ 1000000) : Calls Try.prog 14 #[.string (strB l), .int .i64 b] w fun e w' => e = .returned (.tuple #[.int .i64 (parN l b), .bool (parB l b)]) ∧ Below w.heap.size w w' := (rparse_any l b w hl).mono fun _ _ ⟨h, e⟩ => ⟨h, e ▸ Below.refl _ _⟩
theorem sixF : usF 16 18446744073709551615 = [70, 70, 70, 70, 70, 70, 70, 70, 70, 70, 70, 70, 70, 70, 70, 70] := by
  rw [usF_big (by omega) (by omega), usF_big (by omega) (by omega), usF_big (by omega) (by omega), usF_big (by omega) (by omega), usF_big (by omega) (by omega), usF_big (by omega) (by omega), usF_big (by omega) (by omega), usF_big (by omega) (by omega), usF_big (by omega) (by omega), usF_big (by omega) (by omega), usF_big (by omega) (by omega), usF_big (by omega) (by omega), usF_big (by omega) (by omega), usF_big (by omega) (by omega), usF_big (by omega) (by omega), usF_low (by omega)]
  decide +kernel
theorem ff16 : usF 16 255 = [70, 70] := by
  rw [usF_big (by omega) (by omega), usF_low (by omega)]
  decide +kernel
theorem n6u : strB (ushowF (-1) 16) = ⟨#[70, 70, 70, 70, 70, 70, 70, 70, 70, 70, 70, 70, 70, 70, 70, 70]⟩ ∧ showC 16 = 0 := by
  constructor
  · have e : un (-1) = 18446744073709551615 := by decide +kernel
    unfold ushowF
    rw [if_pos (by decide), e, show (16 : Int).toNat = 16 from rfl, sixF]
    rfl
  · decide
theorem n6s : strB (showF (-255) 16) = ⟨#[45, 70, 70]⟩ := by
  unfold showF
  rw [if_pos (by decide), if_neg (by decide), show (16 : Int).toNat = 16 from rfl, show (-(-255 : Int)).toNat = 255 from rfl, ff16]
  rfl
theorem n6a : parN [36, 45, 49, 102] 10 = -31 ∧ parB [36, 45, 49, 102] 10 = true := by decide +kernel
theorem n6b : parN [39, 65, 39] 10 = 65 ∧ parB [39, 65, 39] 10 = true := by decide +kernel
theorem n6c : parN [49, 50] 3 = 5 ∧ parB [49, 50] 3 = true := by decide +kernel
theorem n6d : parN [49, 50] 2 = 0 ∧ parB [49, 50] 2 = false := by decide +kernel
theorem n6w : worthF 122 36 = 35 ∧ isW 122 36 = true := by decide +kernel
theorem n6g : digF 10 = 65 := by decide +kernel

set_option maxRecDepth 100000 in
set_option maxHeartbeats 8000000 in
theorem shown_any6 (w : World) : Calls Try.prog 8 #[] w fun e w' => e = .returned (.bool true) ∧ Below w.heap.size w w' := by
  go_enter Try.func8, Try.ntmps8
  have B0 : Hid (Below w.heap.size w w) := Below.refl _ _
  go_wp2_with fail
  refine (parse_any [36, 45, 49, 102] 10 _ (by simp)).mono ?_
  rw [n6a.1, n6a.2]
  rintro e w1 ⟨rfl, bb⟩
  have B1 := Lib.hid (below_then B0.out bb)
  clear bb B0
  go_wp2_with fail
  refine (parse_any [39, 65, 39] 10 _ (by simp)).mono ?_
  rw [n6b.1, n6b.2]
  rintro e w2 ⟨rfl, bb⟩
  have B2 := Lib.hid (below_then B1.out bb)
  clear bb B1
  go_wp2_with fail
  refine (parse_any [49, 50] 3 _ (by simp)).mono ?_
  rw [n6c.1, n6c.2]
  rintro e w3 ⟨rfl, bb⟩
  have B3 := Lib.hid (below_then B2.out bb)
  clear bb B2
  go_wp2_with fail
  refine (show_any (-255) 16 _ (by omega) (by omega)).mono ?_
  rw [n6s, n6u.2]
  rintro e w4 ⟨rfl, bb⟩
  have B4 := Lib.hid (below_then B3.out bb)
  clear bb B3
  go_wp2_with fail
  refine (ushow_any (-1) 16 _ (by omega) (by omega)).mono ?_
  rw [n6u.1, n6u.2]
  rintro e w5 ⟨rfl, bb⟩
  have B5 := Lib.hid (below_then B4.out bb)
  clear bb B4
  go_wp2_with fail
  refine (parse_any [49, 50] 2 _ (by simp)).mono ?_
  rw [n6d.1, n6d.2]
  rintro e w6 ⟨rfl, bb⟩
  have B6 := Lib.hid (below_then B5.out bb)
  clear bb B5
  go_wp2_with fail
  refine (worth_any 122 36 _ (by omega)).mono ?_
  rw [n6w.1, n6w.2]
  rintro e w7 ⟨rfl, bb⟩
  have B7 := Lib.hid (below_then B6.out bb)
  clear bb B6
  go_wp2_with fail
  refine (digit_any 10 _).mono ?_
  rw [n6g]
  rintro e w8 ⟨rfl, bb⟩
  have B8 := Lib.hid (below_then B7.out bb)
  clear bb B7
  go_wp2_with fail
  go_ret
  exact ⟨rfl, B8.out⟩
end Go.Proofs.Ytlkjopbgobkgmaa
