/- The walk of CellBack's Go text: bytes that are put are got, and the other way round. -/
import Derived.Test.YtadnajoefhajgaaStr
import Derived.Deep.RegionWith
import Derived.Deep.RegionHeld3
namespace Go.Proofs.Ytadnajoefhajgaa
open Go.RowKit
theorem box_hasA (n : Nat) (w : World) : HasA n w.heap.size (w.alloc (.cells #[.int .u8 (byteOf n 0 : Int), .int .u8 (byteOf n 1 : Int), .int .u8 (byteOf n 2 : Int), .int .u8 (byteOf n 3 : Int), .int .u8 (byteOf n 4 : Int), .int .u8 (byteOf n 5 : Int), .int .u8 (byteOf n 6 : Int), .int .u8 (byteOf n 7 : Int)] 40)) := one_new _ _ _

theorem keepS {w wc w5 : World} {N : Nat} (s : Below w.heap.size w wc ∧ HasA N w.heap.size wc ∧ (convert 22 9 (.slice (some ⟨w.heap.size, 0, none⟩) 8 8)).run Try.prog wc = .ok (.string (strOf N)) wc) (b : Below wc.heap.size wc w5) :
    Below w.heap.size w w5 ∧ HasA N w.heap.size w5 ∧ (convert 22 9 (.slice (some ⟨w.heap.size, 0, none⟩) 8 8)).run Try.prog w5 = .ok (.string (strOf N)) w5 :=
  ⟨below_then s.1 b, s.2.1.keep b, (s.2.1.keep b).conv⟩
theorem startS {w w4 : World} {N : Nat} (c : Below w.heap.size w w4) (k : HasA N w.heap.size w4) :
    Below w.heap.size w w4.drew ∧ HasA N w.heap.size w4.drew ∧ (convert 22 9 (.slice (some ⟨w.heap.size, 0, none⟩) 8 8)).run Try.prog w4.drew = .ok (.string (strOf N)) w4.drew :=
  ⟨c.trans ⟨rfl, rfl, rfl, Nat.le_refl _, fun _ _ => rfl⟩, k, HasA.conv (n := N) (g := w.heap.size) (w := w4.drew) k⟩

set_option maxRecDepth 100000 in
set_option maxHeartbeats 2000000 in
theorem back_core (n m y : Int) (N : Nat) (w : World)
    (CPn : Hid (∀ w, Calls Try.prog 15 #[.int .i64 n] w fun e w' => ∃ g, e = .returned (.slice (some ⟨g, 0, none⟩) 8 8) ∧ w.heap.size ≤ g ∧ Has (un n) g w' ∧ Below w.heap.size w w'))
    (CPm : Hid (∀ w, Calls Try.prog 15 #[.int .i64 m] w fun e w' => ∃ g, e = .returned (.slice (some ⟨g, 0, none⟩) 8 8) ∧ w.heap.size ≤ g ∧ Has (un m) g w' ∧ Below w.heap.size w w'))
    (CPy : Hid (∀ w, Calls Try.prog 15 #[.int .i64 y] w fun e w' => ∃ g, e = .returned (.slice (some ⟨g, 0, none⟩) 8 8) ∧ w.heap.size ≤ g ∧ Has N g w' ∧ Below w.heap.size w w'))
    (E : ((strOf (un n)).toList == (strOf (un m)).toList) = (n == m))
    (CGn : Hid (∀ g w, Has (un n) g w → Calls Try.prog 13 #[.slice (some ⟨g, 0, none⟩) 8 8] w fun e w' => e = .returned (.tuple #[.int .i64 n, .int .i64 0]) ∧ Below w.heap.size w w'))
    (CGb : Hid (∀ g w, HasA N g w → Calls Try.prog 13 #[.slice (some ⟨g, 0, none⟩) 8 8] w fun e w' => e = .returned (.tuple #[.int .i64 y, .int .i64 0]) ∧ Below w.heap.size w w')) :
    Calls Try.prog 6 #[.int .i64 n, .int .i64 m, .agg #[.int .u8 (byteOf N 0 : Int), .int .u8 (byteOf N 1 : Int), .int .u8 (byteOf N 2 : Int), .int .u8 (byteOf N 3 : Int), .int .u8 (byteOf N 4 : Int), .int .u8 (byteOf N 5 : Int), .int .u8 (byteOf N 6 : Int), .int .u8 (byteOf N 7 : Int)]] w fun e w' => e = .returned (.bool true) ∧ Below w.heap.size w w' := by
  go_enter Try.func6, Try.ntmps6
  go_wp2_with fail
  refine (shown_any _).mono ?_
  rintro e w1 ⟨rfl, b1⟩
  have K1 := (box_hasA N w).keep b1
  have c1 := below_then ((Below.refl w.heap.size w).alloc (Nat.le_refl _) _) b1
  clear b1
  go_wp2_with fail
  refine (CPn.out _).mono ?_
  rintro e w2 ⟨g, rfl, hg, H2, b2⟩
  have K2 := K1.keep b2
  have c2 := below_then c1 b2
  clear K1 c1 b2 hg
  go_wp2_with fail
  refine (CGn.out _ _ H2).mono ?_
  rintro e w3 ⟨rfl, b3⟩
  have K3 := K2.keep b3
  have c3 := below_then c2 b3
  clear K2 c2 b3 H2
  go_wp2_with fail
  refine (CGb.out _ _ K3).mono ?_
  rintro e w4 ⟨rfl, b4⟩
  have K4 := K3.keep b4
  have c4 := below_then c3 b4
  clear K3 c3 b4
  go_wp2_with fail
  refine wp_region_noPanic ?_
  go_region_held (fun w' => Below w.heap.size w w' ∧ HasA N w.heap.size w' ∧ (convert 22 9 (.slice (some ⟨w.heap.size, 0, none⟩) 8 8)).run Try.prog w' = .ok (.string (strOf N)) w') (first | assumption | exact startS c4 K4)
    (first | (go_at_call 15; ((with_reducible refine (CPy.out _).mono ?_); rintro e w5 ⟨g5, rfl, hg5, H5, b5⟩; have cv5 := H5.conv; have s5 := keepS (N := N) (by assumption) b5)) | (go_at_call 15; ((with_reducible refine (CPm.out _).mono ?_); rintro e w7 ⟨g7, rfl, hg7, H7, b7⟩; have cv7 := H7.conv; have cv6' := (H6.keep b7).conv; have s7 := keepS (N := N) (by assumption) b7)) | (go_at_call 15; ((with_reducible refine (CPn.out _).mono ?_); rintro e w6 ⟨g6, rfl, hg6, H6, b6⟩; have cv6 := H6.conv; have s6 := keepS (N := N) (by assumption) b6)))
  all_goals (refine NoPanic.normal ?_)
  all_goals go_wp2
  all_goals go_ret
  all_goals exact ⟨rfl, s6.1⟩
end Go.Proofs.Ytadnajoefhajgaa
