/- The walk of DictHides. -/
import Derived.Test.YtnjmhgbdhekmdaaDictHidesNo
import Derived.Test.YtnjmhgbdhekmdaaDictHidesYes
namespace Go.Proofs.Ytnjmhgbdhekmdaa
open Go.RowKit
set_option linter.unusedVariables false
set_option linter.unusedSimpArgs false

set_option maxRecDepth 100000 in
set_option maxHeartbeats 8000000 in
theorem dhides_1 (A : Option Addr) (n c : Nat) (l : List Wr) (a : Nat) (w : World) (h : Wds w (.slice A n c) l) (ha : a < 256) (f1 : dFew l 60 = false) :
    Calls Try.prog 6 #[.slice A n c, .int .u8 (a : Int)] w fun e w' => e = .returned (.bool true) ∧ Below w.heap.size w w' := by
  have L0 := Lib.hid h
  have B0 : Hid (Below w.heap.size w w) := Below.refl _ _
  clear h
  go_enter Try.func6, Try.ntmps6
  go_wp2_with fail
  refine (shown_any9 _).mono ?_
  rintro e w1 ⟨rfl, bb⟩
  have L1 := Lib.hid (L0.out.keep bb)
  have B1 := Lib.hid (below_then B0.out bb)
  clear bb L0 B0
  go_wp2_with fail
  refine (rfew_any A n c l 60 _ L1.out (by omega)).mono ?_
  rw [f1]
  rintro e w2 ⟨rfl, bb⟩
  have L2 := Lib.hid (L1.out.keep bb)
  have B2 := Lib.hid (below_then B1.out bb)
  clear bb L1 B1
  go_wp2_with fail
  go_ret
  exact ⟨rfl, B2.out⟩
set_option maxRecDepth 100000 in
set_option maxHeartbeats 8000000 in
theorem dhides_2 (A : Option Addr) (n c : Nat) (l : List Wr) (a : Nat) (w : World) (h : Wds w (.slice A n c) l) (ha : a < 256) (f1 : dFew l 60 = true) (hr : dRight l = false) :
    Calls Try.prog 6 #[.slice A n c, .int .u8 (a : Int)] w fun e w' => e = .returned (.bool true) ∧ Below w.heap.size w w' := by
  have hlen := (few_facts f1).1
  have hl := h.len
  have hn : n ≤ 60 := by omega
  have L0 := Lib.hid h
  have B0 : Hid (Below w.heap.size w w) := Below.refl _ _
  clear h
  go_enter Try.func6, Try.ntmps6
  go_wp2_with fail
  refine (shown_any9 _).mono ?_
  rintro e w1 ⟨rfl, bb⟩
  have L1 := Lib.hid (L0.out.keep bb)
  have B1 := Lib.hid (below_then B0.out bb)
  clear bb L0 B0
  go_wp2_with fail
  refine (rfew_any A n c l 60 _ L1.out (by omega)).mono ?_
  rw [f1]
  rintro e w2 ⟨rfl, bb⟩
  have L2 := Lib.hid (L1.out.keep bb)
  have B2 := Lib.hid (below_then B1.out bb)
  clear bb L1 B1
  go_wp2_with fail
  refine (rright_any A n c l _ L2.out (by omega)).mono ?_
  rw [hr]
  rintro e w3 ⟨rfl, bb⟩
  have L3 := Lib.hid (L2.out.keep bb)
  have B3 := Lib.hid (below_then B2.out bb)
  clear bb L2 B2
  go_wp2_with fail
  go_ret
  exact ⟨rfl, B3.out⟩
set_option maxRecDepth 100000 in
set_option maxHeartbeats 8000000 in
theorem dhides_3 (A : Option Addr) (c : Nat) (l : List Wr) (a : Nat) (w : World) (h : Wds w (.slice A 0 c) l) (ha : a < 256) (f1 : dFew l 60 = true) (hr : dRight l = true) :
    Calls Try.prog 6 #[.slice A 0 c, .int .u8 (a : Int)] w fun e w' => e = .returned (.bool true) ∧ Below w.heap.size w w' := by
  have L0 := Lib.hid h
  have B0 : Hid (Below w.heap.size w w) := Below.refl _ _
  clear h
  go_enter Try.func6, Try.ntmps6
  go_wp2_with fail
  refine (shown_any9 _).mono ?_
  rintro e w1 ⟨rfl, bb⟩
  have L1 := Lib.hid (L0.out.keep bb)
  have B1 := Lib.hid (below_then B0.out bb)
  clear bb L0 B0
  go_wp2_with fail
  refine (rfew_any A 0 c l 60 _ L1.out (by omega)).mono ?_
  rw [f1]
  rintro e w2 ⟨rfl, bb⟩
  have L2 := Lib.hid (L1.out.keep bb)
  have B2 := Lib.hid (below_then B1.out bb)
  clear bb L1 B1
  go_wp2_with fail
  refine (rright_any A 0 c l _ L2.out (by omega)).mono ?_
  rw [hr]
  rintro e w3 ⟨rfl, bb⟩
  have L3 := Lib.hid (L2.out.keep bb)
  have B3 := Lib.hid (below_then B2.out bb)
  clear bb L2 B2
  go_wp2_with fail
  go_ret
  exact ⟨rfl, B3.out⟩
theorem dhides_any (A : Option Addr) (n c : Nat) (l : List Wr) (x : Int) (w : World) (h : Wds w (.slice A n c) l) (hx : (Lit.int .u8 x).wf = true) :
    Calls Try.prog 6 #[.slice A n c, .int .u8 x] w fun e w' => e = .returned (.bool true) ∧ Below w.heap.size w w' := by
  obtain ⟨x0, x1⟩ := wf_u8 hx
  obtain ⟨a, rfl⟩ := Int.eq_ofNat_of_zero_le x0
  have hl := h.len
  cases f1 : dFew l 60 with
  | false => exact dhides_1 A n c l a w h (by omega) f1
  | true =>
    cases hr : dRight l with
    | false => exact dhides_2 A n c l a w h (by omega) f1 hr
    | true =>
      by_cases hn : n = 0
      · subst hn
        exact dhides_3 A c l a w h (by omega) f1 hr
      · have hi : a % n < n := Nat.mod_lt a (by omega)
        have hm1 : (a : Int) % (n : Int) = ((a % n : Nat) : Int) := by rw [Int.natCast_emod]
        have hm1T : (a : Int).tmod (n : Int) = ((a % n : Nat) : Int) := by rw [Int.tmod_eq_emod_of_nonneg (Int.natCast_nonneg a)]; exact hm1
        cases hf : findI (l.set (a % n) { l[a % n]'(by omega) with fl := 2 }) (l[a % n]'(by omega)).nm with
        | none => exact dhides_no A n c l a w h (by omega) (a % n) f1 hr hi hm1 hm1T (fun X q hX hq => by subst hX hq; exact hf)
        | some s => exact dhides_yes A n c l a w h (by omega) (a % n) f1 hr hi hm1 hm1T (fun X q hX hq => by subst hX hq; exact ⟨s, hf⟩)
abbrev WdsL (w : World) (A : Option Addr) (n c : Nat) (l : List Wr) : Prop := Wds w (.slice A n c) l
end Go.Proofs.Ytnjmhgbdhekmdaa
