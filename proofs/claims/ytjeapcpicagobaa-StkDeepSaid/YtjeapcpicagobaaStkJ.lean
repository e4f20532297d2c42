/- A contract of the document's left, at each name. -/
import Derived.Test.YtjeapcpicagobaaStkI
import Derived.Deep.RegionHeld3
namespace Go.Proofs.Ytjeapcpicagobaa
open Go.RowKit
set_option linter.unusedVariables false
set_option linter.unusedSimpArgs false

theorem lit_row (w : World) (l : List Int) (n : Nat) (hl : l.length = n) (hn : n ≤ 100) : Row (w.alloc (.cells (ints l).toArray 3)) (some ⟨w.heap.size, 0, none⟩) n n l :=
  (owns_block (base := 0) (heap_alloc_new w _) hl (Nat.zero_le _) (by unfold maxLen; omega)).row.elim fun _ ⟨_, e, h⟩ => by
    injection e with e1 e2 e3
    subst e1 e3
    exact h

set_option maxRecDepth 100000 in
set_option maxHeartbeats 4000000 in
theorem left_DUP (g o c : Nat) (x0 d : Int) (w : World) (hg : g < w.heap.size) (c0 : w.cell? ⟨g, o, none⟩ = some (.int .i64 x0)) :
    Calls Try.prog 22 #[.string ⟨#[68, 85, 80]⟩, .slice (some ⟨g, o, none⟩) 1 c, .int .i64 d] w fun e w' => ∃ B d', e = .returned (.slice B 2 d') ∧ Row w' B 2 d' [x0, x0] ∧ Below w.heap.size w w' := by
  have HR := Lib.hid (lit_row w [x0, x0] 2 rfl (by omega))
  have SD : Hid (∀ a, (a.cell? ⟨g, o, none⟩ = some (.int .i64 x0) ∧ Since w a) → (a.drew.cell? ⟨g, o, none⟩ = some (.int .i64 x0) ∧ Since w a.drew)) := Lib.hid fun a h => ⟨h.1, h.2.drew⟩
  have SA : Hid (∀ a b, (a.cell? ⟨g, o, none⟩ = some (.int .i64 x0) ∧ Since w a) → Below a.heap.size a b → (b.cell? ⟨g, o, none⟩ = some (.int .i64 x0) ∧ Since w b)) := Lib.hid fun a b h k => ⟨(h.2.then k).cell hg c0, h.2.then k⟩
  have HS : Hid (w.cell? ⟨g, o, none⟩ = some (.int .i64 x0) ∧ Since w w) := Lib.hid ⟨c0, Below.refl _ _⟩
  go_enter Try.func22, Try.ntmps22
  go_wp2_with fail
  refine wp_region_noPanic ?_
  go_region_held3 (fun a => a.cell? ⟨g, o, none⟩ = some (.int .i64 x0) ∧ Since w a) (first | assumption | exact SD.out _ HS.out | exact SA.out _ _ HS.out (below_ad _ _))
    ((fail))
  all_goals (refine NoPanic.normal ?_)
  all_goals go_wp2
  all_goals go_ret
  all_goals exact ⟨_, _, rfl, HR.out, below_ad _ _⟩

set_option maxRecDepth 100000 in
set_option maxHeartbeats 4000000 in
theorem left_DROP (g o c : Nat) (x0 d : Int) (w : World) (hg : g < w.heap.size) (c0 : w.cell? ⟨g, o, none⟩ = some (.int .i64 x0)) :
    Calls Try.prog 22 #[.string ⟨#[68, 82, 79, 80]⟩, .slice (some ⟨g, o, none⟩) 1 c, .int .i64 d] w fun e w' => ∃ B d', e = .returned (.slice B 0 d') ∧ Row w' B 0 d' [] ∧ Below w.heap.size w w' := by
  go_enter Try.func22, Try.ntmps22
  go_wp2
  go_ret
  exact ⟨_, _, rfl, row_nil _, Below.refl _ _⟩

set_option maxRecDepth 100000 in
set_option maxHeartbeats 4000000 in
theorem left_SWAP (g o c : Nat) (x0 x1 d : Int) (w : World) (hg : g < w.heap.size) (c0 : w.cell? ⟨g, o, none⟩ = some (.int .i64 x0)) (c1 : w.cell? ⟨g, o + 1, none⟩ = some (.int .i64 x1)) :
    Calls Try.prog 22 #[.string ⟨#[83, 87, 65, 80]⟩, .slice (some ⟨g, o, none⟩) 2 c, .int .i64 d] w fun e w' => ∃ B d', e = .returned (.slice B 2 d') ∧ Row w' B 2 d' [x1, x0] ∧ Below w.heap.size w w' := by
  have HR := Lib.hid (lit_row w [x1, x0] 2 rfl (by omega))
  have SD : Hid (∀ a, (a.cell? ⟨g, o, none⟩ = some (.int .i64 x0) ∧ a.cell? ⟨g, o + 1, none⟩ = some (.int .i64 x1) ∧ Since w a) → (a.drew.cell? ⟨g, o, none⟩ = some (.int .i64 x0) ∧ a.drew.cell? ⟨g, o + 1, none⟩ = some (.int .i64 x1) ∧ Since w a.drew)) := Lib.hid fun a h => ⟨h.1, h.2.1, h.2.2.drew⟩
  have SA : Hid (∀ a b, (a.cell? ⟨g, o, none⟩ = some (.int .i64 x0) ∧ a.cell? ⟨g, o + 1, none⟩ = some (.int .i64 x1) ∧ Since w a) → Below a.heap.size a b → (b.cell? ⟨g, o, none⟩ = some (.int .i64 x0) ∧ b.cell? ⟨g, o + 1, none⟩ = some (.int .i64 x1) ∧ Since w b)) := Lib.hid fun a b h k => ⟨(h.2.2.then k).cell hg c0, (h.2.2.then k).cell hg c1, h.2.2.then k⟩
  have HS : Hid (w.cell? ⟨g, o, none⟩ = some (.int .i64 x0) ∧ w.cell? ⟨g, o + 1, none⟩ = some (.int .i64 x1) ∧ Since w w) := Lib.hid ⟨c0, c1, Below.refl _ _⟩
  go_enter Try.func22, Try.ntmps22
  go_wp2_with fail
  refine wp_region_noPanic ?_
  go_region_held3 (fun a => a.cell? ⟨g, o, none⟩ = some (.int .i64 x0) ∧ a.cell? ⟨g, o + 1, none⟩ = some (.int .i64 x1) ∧ Since w a) (first | assumption | exact SD.out _ HS.out | exact SA.out _ _ HS.out (below_ad _ _))
    ((fail))
  all_goals (refine NoPanic.normal ?_)
  all_goals go_wp2
  all_goals go_ret
  all_goals exact ⟨_, _, rfl, HR.out, below_ad _ _⟩

set_option maxRecDepth 100000 in
set_option maxHeartbeats 4000000 in
theorem left_OVER (g o c : Nat) (x0 x1 d : Int) (w : World) (hg : g < w.heap.size) (c0 : w.cell? ⟨g, o, none⟩ = some (.int .i64 x0)) (c1 : w.cell? ⟨g, o + 1, none⟩ = some (.int .i64 x1)) :
    Calls Try.prog 22 #[.string ⟨#[79, 86, 69, 82]⟩, .slice (some ⟨g, o, none⟩) 2 c, .int .i64 d] w fun e w' => ∃ B d', e = .returned (.slice B 3 d') ∧ Row w' B 3 d' [x0, x1, x0] ∧ Below w.heap.size w w' := by
  have HR := Lib.hid (lit_row w [x0, x1, x0] 3 rfl (by omega))
  have SD : Hid (∀ a, (a.cell? ⟨g, o, none⟩ = some (.int .i64 x0) ∧ a.cell? ⟨g, o + 1, none⟩ = some (.int .i64 x1) ∧ Since w a) → (a.drew.cell? ⟨g, o, none⟩ = some (.int .i64 x0) ∧ a.drew.cell? ⟨g, o + 1, none⟩ = some (.int .i64 x1) ∧ Since w a.drew)) := Lib.hid fun a h => ⟨h.1, h.2.1, h.2.2.drew⟩
  have SA : Hid (∀ a b, (a.cell? ⟨g, o, none⟩ = some (.int .i64 x0) ∧ a.cell? ⟨g, o + 1, none⟩ = some (.int .i64 x1) ∧ Since w a) → Below a.heap.size a b → (b.cell? ⟨g, o, none⟩ = some (.int .i64 x0) ∧ b.cell? ⟨g, o + 1, none⟩ = some (.int .i64 x1) ∧ Since w b)) := Lib.hid fun a b h k => ⟨(h.2.2.then k).cell hg c0, (h.2.2.then k).cell hg c1, h.2.2.then k⟩
  have HS : Hid (w.cell? ⟨g, o, none⟩ = some (.int .i64 x0) ∧ w.cell? ⟨g, o + 1, none⟩ = some (.int .i64 x1) ∧ Since w w) := Lib.hid ⟨c0, c1, Below.refl _ _⟩
  go_enter Try.func22, Try.ntmps22
  go_wp2_with fail
  refine wp_region_noPanic ?_
  go_region_held3 (fun a => a.cell? ⟨g, o, none⟩ = some (.int .i64 x0) ∧ a.cell? ⟨g, o + 1, none⟩ = some (.int .i64 x1) ∧ Since w a) (first | assumption | exact SD.out _ HS.out | exact SA.out _ _ HS.out (below_ad _ _))
    ((fail))
  all_goals (refine NoPanic.normal ?_)
  all_goals go_wp2
  all_goals go_ret
  all_goals exact ⟨_, _, rfl, HR.out, below_ad _ _⟩

set_option maxRecDepth 100000 in
set_option maxHeartbeats 4000000 in
theorem left_NIP (g o c : Nat) (x0 x1 d : Int) (w : World) (hg : g < w.heap.size) (c0 : w.cell? ⟨g, o, none⟩ = some (.int .i64 x0)) (c1 : w.cell? ⟨g, o + 1, none⟩ = some (.int .i64 x1)) :
    Calls Try.prog 22 #[.string ⟨#[78, 73, 80]⟩, .slice (some ⟨g, o, none⟩) 2 c, .int .i64 d] w fun e w' => ∃ B d', e = .returned (.slice B 1 d') ∧ Row w' B 1 d' [x1] ∧ Below w.heap.size w w' := by
  have HR := Lib.hid (lit_row w [x1] 1 rfl (by omega))
  go_enter Try.func22, Try.ntmps22
  go_wp2
  go_ret
  exact ⟨_, _, rfl, HR.out, below_one _ _⟩

set_option maxRecDepth 100000 in
set_option maxHeartbeats 4000000 in
theorem left_TUCK (g o c : Nat) (x0 x1 d : Int) (w : World) (hg : g < w.heap.size) (c0 : w.cell? ⟨g, o, none⟩ = some (.int .i64 x0)) (c1 : w.cell? ⟨g, o + 1, none⟩ = some (.int .i64 x1)) :
    Calls Try.prog 22 #[.string ⟨#[84, 85, 67, 75]⟩, .slice (some ⟨g, o, none⟩) 2 c, .int .i64 d] w fun e w' => ∃ B d', e = .returned (.slice B 3 d') ∧ Row w' B 3 d' [x1, x0, x1] ∧ Below w.heap.size w w' := by
  have HR := Lib.hid (lit_row w [x1, x0, x1] 3 rfl (by omega))
  have SD : Hid (∀ a, (a.cell? ⟨g, o, none⟩ = some (.int .i64 x0) ∧ a.cell? ⟨g, o + 1, none⟩ = some (.int .i64 x1) ∧ Since w a) → (a.drew.cell? ⟨g, o, none⟩ = some (.int .i64 x0) ∧ a.drew.cell? ⟨g, o + 1, none⟩ = some (.int .i64 x1) ∧ Since w a.drew)) := Lib.hid fun a h => ⟨h.1, h.2.1, h.2.2.drew⟩
  have SA : Hid (∀ a b, (a.cell? ⟨g, o, none⟩ = some (.int .i64 x0) ∧ a.cell? ⟨g, o + 1, none⟩ = some (.int .i64 x1) ∧ Since w a) → Below a.heap.size a b → (b.cell? ⟨g, o, none⟩ = some (.int .i64 x0) ∧ b.cell? ⟨g, o + 1, none⟩ = some (.int .i64 x1) ∧ Since w b)) := Lib.hid fun a b h k => ⟨(h.2.2.then k).cell hg c0, (h.2.2.then k).cell hg c1, h.2.2.then k⟩
  have HS : Hid (w.cell? ⟨g, o, none⟩ = some (.int .i64 x0) ∧ w.cell? ⟨g, o + 1, none⟩ = some (.int .i64 x1) ∧ Since w w) := Lib.hid ⟨c0, c1, Below.refl _ _⟩
  go_enter Try.func22, Try.ntmps22
  go_wp2_with fail
  refine wp_region_noPanic ?_
  go_region_held3 (fun a => a.cell? ⟨g, o, none⟩ = some (.int .i64 x0) ∧ a.cell? ⟨g, o + 1, none⟩ = some (.int .i64 x1) ∧ Since w a) (first | assumption | exact SD.out _ HS.out | exact SA.out _ _ HS.out (below_ad _ _))
    ((fail))
  all_goals (refine NoPanic.normal ?_)
  all_goals go_wp2
  all_goals go_ret
  all_goals exact ⟨_, _, rfl, HR.out, below_ad _ _⟩

set_option maxRecDepth 100000 in
set_option maxHeartbeats 4000000 in
theorem left_ROT (g o c : Nat) (x0 x1 x2 d : Int) (w : World) (hg : g < w.heap.size) (c0 : w.cell? ⟨g, o, none⟩ = some (.int .i64 x0)) (c1 : w.cell? ⟨g, o + 1, none⟩ = some (.int .i64 x1)) (c2 : w.cell? ⟨g, o + 2, none⟩ = some (.int .i64 x2)) :
    Calls Try.prog 22 #[.string ⟨#[82, 79, 84]⟩, .slice (some ⟨g, o, none⟩) 3 c, .int .i64 d] w fun e w' => ∃ B d', e = .returned (.slice B 3 d') ∧ Row w' B 3 d' [x1, x2, x0] ∧ Below w.heap.size w w' := by
  have HR := Lib.hid (lit_row w [x1, x2, x0] 3 rfl (by omega))
  have SD : Hid (∀ a, (a.cell? ⟨g, o, none⟩ = some (.int .i64 x0) ∧ a.cell? ⟨g, o + 1, none⟩ = some (.int .i64 x1) ∧ a.cell? ⟨g, o + 2, none⟩ = some (.int .i64 x2) ∧ Since w a) → (a.drew.cell? ⟨g, o, none⟩ = some (.int .i64 x0) ∧ a.drew.cell? ⟨g, o + 1, none⟩ = some (.int .i64 x1) ∧ a.drew.cell? ⟨g, o + 2, none⟩ = some (.int .i64 x2) ∧ Since w a.drew)) := Lib.hid fun a h => ⟨h.1, h.2.1, h.2.2.1, h.2.2.2.drew⟩
  have SA : Hid (∀ a b, (a.cell? ⟨g, o, none⟩ = some (.int .i64 x0) ∧ a.cell? ⟨g, o + 1, none⟩ = some (.int .i64 x1) ∧ a.cell? ⟨g, o + 2, none⟩ = some (.int .i64 x2) ∧ Since w a) → Below a.heap.size a b → (b.cell? ⟨g, o, none⟩ = some (.int .i64 x0) ∧ b.cell? ⟨g, o + 1, none⟩ = some (.int .i64 x1) ∧ b.cell? ⟨g, o + 2, none⟩ = some (.int .i64 x2) ∧ Since w b)) := Lib.hid fun a b h k => ⟨(h.2.2.2.then k).cell hg c0, (h.2.2.2.then k).cell hg c1, (h.2.2.2.then k).cell hg c2, h.2.2.2.then k⟩
  have HS : Hid (w.cell? ⟨g, o, none⟩ = some (.int .i64 x0) ∧ w.cell? ⟨g, o + 1, none⟩ = some (.int .i64 x1) ∧ w.cell? ⟨g, o + 2, none⟩ = some (.int .i64 x2) ∧ Since w w) := Lib.hid ⟨c0, c1, c2, Below.refl _ _⟩
  go_enter Try.func22, Try.ntmps22
  go_wp2_with fail
  refine wp_region_noPanic ?_
  go_region_held3 (fun a => a.cell? ⟨g, o, none⟩ = some (.int .i64 x0) ∧ a.cell? ⟨g, o + 1, none⟩ = some (.int .i64 x1) ∧ a.cell? ⟨g, o + 2, none⟩ = some (.int .i64 x2) ∧ Since w a) (first | assumption | exact SD.out _ HS.out | exact SA.out _ _ HS.out (below_ad _ _))
    ((fail))
  all_goals (refine NoPanic.normal ?_)
  all_goals go_wp2
  all_goals go_ret
  all_goals exact ⟨_, _, rfl, HR.out, below_ad _ _⟩

set_option maxRecDepth 100000 in
set_option maxHeartbeats 4000000 in
theorem left_mROT (g o c : Nat) (x0 x1 x2 d : Int) (w : World) (hg : g < w.heap.size) (c0 : w.cell? ⟨g, o, none⟩ = some (.int .i64 x0)) (c1 : w.cell? ⟨g, o + 1, none⟩ = some (.int .i64 x1)) (c2 : w.cell? ⟨g, o + 2, none⟩ = some (.int .i64 x2)) :
    Calls Try.prog 22 #[.string ⟨#[45, 82, 79, 84]⟩, .slice (some ⟨g, o, none⟩) 3 c, .int .i64 d] w fun e w' => ∃ B d', e = .returned (.slice B 3 d') ∧ Row w' B 3 d' [x2, x0, x1] ∧ Below w.heap.size w w' := by
  have HR := Lib.hid (lit_row w [x2, x0, x1] 3 rfl (by omega))
  have SD : Hid (∀ a, (a.cell? ⟨g, o, none⟩ = some (.int .i64 x0) ∧ a.cell? ⟨g, o + 1, none⟩ = some (.int .i64 x1) ∧ a.cell? ⟨g, o + 2, none⟩ = some (.int .i64 x2) ∧ Since w a) → (a.drew.cell? ⟨g, o, none⟩ = some (.int .i64 x0) ∧ a.drew.cell? ⟨g, o + 1, none⟩ = some (.int .i64 x1) ∧ a.drew.cell? ⟨g, o + 2, none⟩ = some (.int .i64 x2) ∧ Since w a.drew)) := Lib.hid fun a h => ⟨h.1, h.2.1, h.2.2.1, h.2.2.2.drew⟩
  have SA : Hid (∀ a b, (a.cell? ⟨g, o, none⟩ = some (.int .i64 x0) ∧ a.cell? ⟨g, o + 1, none⟩ = some (.int .i64 x1) ∧ a.cell? ⟨g, o + 2, none⟩ = some (.int .i64 x2) ∧ Since w a) → Below a.heap.size a b → (b.cell? ⟨g, o, none⟩ = some (.int .i64 x0) ∧ b.cell? ⟨g, o + 1, none⟩ = some (.int .i64 x1) ∧ b.cell? ⟨g, o + 2, none⟩ = some (.int .i64 x2) ∧ Since w b)) := Lib.hid fun a b h k => ⟨(h.2.2.2.then k).cell hg c0, (h.2.2.2.then k).cell hg c1, (h.2.2.2.then k).cell hg c2, h.2.2.2.then k⟩
  have HS : Hid (w.cell? ⟨g, o, none⟩ = some (.int .i64 x0) ∧ w.cell? ⟨g, o + 1, none⟩ = some (.int .i64 x1) ∧ w.cell? ⟨g, o + 2, none⟩ = some (.int .i64 x2) ∧ Since w w) := Lib.hid ⟨c0, c1, c2, Below.refl _ _⟩
  go_enter Try.func22, Try.ntmps22
  go_wp2_with fail
  refine wp_region_noPanic ?_
  go_region_held3 (fun a => a.cell? ⟨g, o, none⟩ = some (.int .i64 x0) ∧ a.cell? ⟨g, o + 1, none⟩ = some (.int .i64 x1) ∧ a.cell? ⟨g, o + 2, none⟩ = some (.int .i64 x2) ∧ Since w a) (first | assumption | exact SD.out _ HS.out | exact SA.out _ _ HS.out (below_ad _ _))
    ((fail))
  all_goals (refine NoPanic.normal ?_)
  all_goals go_wp2
  all_goals go_ret
  all_goals exact ⟨_, _, rfl, HR.out, below_ad _ _⟩

set_option maxRecDepth 100000 in
set_option maxHeartbeats 4000000 in
theorem left_2DUP (g o c : Nat) (x0 x1 d : Int) (w : World) (hg : g < w.heap.size) (c0 : w.cell? ⟨g, o, none⟩ = some (.int .i64 x0)) (c1 : w.cell? ⟨g, o + 1, none⟩ = some (.int .i64 x1)) :
    Calls Try.prog 22 #[.string ⟨#[50, 68, 85, 80]⟩, .slice (some ⟨g, o, none⟩) 2 c, .int .i64 d] w fun e w' => ∃ B d', e = .returned (.slice B 4 d') ∧ Row w' B 4 d' [x0, x1, x0, x1] ∧ Below w.heap.size w w' := by
  have HR := Lib.hid (lit_row w [x0, x1, x0, x1] 4 rfl (by omega))
  have SD : Hid (∀ a, (a.cell? ⟨g, o, none⟩ = some (.int .i64 x0) ∧ a.cell? ⟨g, o + 1, none⟩ = some (.int .i64 x1) ∧ Since w a) → (a.drew.cell? ⟨g, o, none⟩ = some (.int .i64 x0) ∧ a.drew.cell? ⟨g, o + 1, none⟩ = some (.int .i64 x1) ∧ Since w a.drew)) := Lib.hid fun a h => ⟨h.1, h.2.1, h.2.2.drew⟩
  have SA : Hid (∀ a b, (a.cell? ⟨g, o, none⟩ = some (.int .i64 x0) ∧ a.cell? ⟨g, o + 1, none⟩ = some (.int .i64 x1) ∧ Since w a) → Below a.heap.size a b → (b.cell? ⟨g, o, none⟩ = some (.int .i64 x0) ∧ b.cell? ⟨g, o + 1, none⟩ = some (.int .i64 x1) ∧ Since w b)) := Lib.hid fun a b h k => ⟨(h.2.2.then k).cell hg c0, (h.2.2.then k).cell hg c1, h.2.2.then k⟩
  have HS : Hid (w.cell? ⟨g, o, none⟩ = some (.int .i64 x0) ∧ w.cell? ⟨g, o + 1, none⟩ = some (.int .i64 x1) ∧ Since w w) := Lib.hid ⟨c0, c1, Below.refl _ _⟩
  go_enter Try.func22, Try.ntmps22
  go_wp2_with fail
  refine wp_region_noPanic ?_
  go_region_held3 (fun a => a.cell? ⟨g, o, none⟩ = some (.int .i64 x0) ∧ a.cell? ⟨g, o + 1, none⟩ = some (.int .i64 x1) ∧ Since w a) (first | assumption | exact SD.out _ HS.out | exact SA.out _ _ HS.out (below_ad _ _))
    ((fail))
  all_goals (refine NoPanic.normal ?_)
  all_goals go_wp2
  all_goals go_ret
  all_goals exact ⟨_, _, rfl, HR.out, below_ad _ _⟩

set_option maxRecDepth 100000 in
set_option maxHeartbeats 4000000 in
theorem left_2DROP (g o c : Nat) (x0 x1 d : Int) (w : World) (hg : g < w.heap.size) (c0 : w.cell? ⟨g, o, none⟩ = some (.int .i64 x0)) (c1 : w.cell? ⟨g, o + 1, none⟩ = some (.int .i64 x1)) :
    Calls Try.prog 22 #[.string ⟨#[50, 68, 82, 79, 80]⟩, .slice (some ⟨g, o, none⟩) 2 c, .int .i64 d] w fun e w' => ∃ B d', e = .returned (.slice B 0 d') ∧ Row w' B 0 d' [] ∧ Below w.heap.size w w' := by
  go_enter Try.func22, Try.ntmps22
  go_wp2
  go_ret
  exact ⟨_, _, rfl, row_nil _, Below.refl _ _⟩

set_option maxRecDepth 100000 in
set_option maxHeartbeats 4000000 in
theorem left_2SWAP (g o c : Nat) (x0 x1 x2 x3 d : Int) (w : World) (hg : g < w.heap.size) (c0 : w.cell? ⟨g, o, none⟩ = some (.int .i64 x0)) (c1 : w.cell? ⟨g, o + 1, none⟩ = some (.int .i64 x1)) (c2 : w.cell? ⟨g, o + 2, none⟩ = some (.int .i64 x2)) (c3 : w.cell? ⟨g, o + 3, none⟩ = some (.int .i64 x3)) :
    Calls Try.prog 22 #[.string ⟨#[50, 83, 87, 65, 80]⟩, .slice (some ⟨g, o, none⟩) 4 c, .int .i64 d] w fun e w' => ∃ B d', e = .returned (.slice B 4 d') ∧ Row w' B 4 d' [x2, x3, x0, x1] ∧ Below w.heap.size w w' := by
  have HR := Lib.hid (lit_row w [x2, x3, x0, x1] 4 rfl (by omega))
  have SD : Hid (∀ a, (a.cell? ⟨g, o, none⟩ = some (.int .i64 x0) ∧ a.cell? ⟨g, o + 1, none⟩ = some (.int .i64 x1) ∧ a.cell? ⟨g, o + 2, none⟩ = some (.int .i64 x2) ∧ a.cell? ⟨g, o + 3, none⟩ = some (.int .i64 x3) ∧ Since w a) → (a.drew.cell? ⟨g, o, none⟩ = some (.int .i64 x0) ∧ a.drew.cell? ⟨g, o + 1, none⟩ = some (.int .i64 x1) ∧ a.drew.cell? ⟨g, o + 2, none⟩ = some (.int .i64 x2) ∧ a.drew.cell? ⟨g, o + 3, none⟩ = some (.int .i64 x3) ∧ Since w a.drew)) := Lib.hid fun a h => ⟨h.1, h.2.1, h.2.2.1, h.2.2.2.1, h.2.2.2.2.drew⟩
  have SA : Hid (∀ a b, (a.cell? ⟨g, o, none⟩ = some (.int .i64 x0) ∧ a.cell? ⟨g, o + 1, none⟩ = some (.int .i64 x1) ∧ a.cell? ⟨g, o + 2, none⟩ = some (.int .i64 x2) ∧ a.cell? ⟨g, o + 3, none⟩ = some (.int .i64 x3) ∧ Since w a) → Below a.heap.size a b → (b.cell? ⟨g, o, none⟩ = some (.int .i64 x0) ∧ b.cell? ⟨g, o + 1, none⟩ = some (.int .i64 x1) ∧ b.cell? ⟨g, o + 2, none⟩ = some (.int .i64 x2) ∧ b.cell? ⟨g, o + 3, none⟩ = some (.int .i64 x3) ∧ Since w b)) := Lib.hid fun a b h k => ⟨(h.2.2.2.2.then k).cell hg c0, (h.2.2.2.2.then k).cell hg c1, (h.2.2.2.2.then k).cell hg c2, (h.2.2.2.2.then k).cell hg c3, h.2.2.2.2.then k⟩
  have HS : Hid (w.cell? ⟨g, o, none⟩ = some (.int .i64 x0) ∧ w.cell? ⟨g, o + 1, none⟩ = some (.int .i64 x1) ∧ w.cell? ⟨g, o + 2, none⟩ = some (.int .i64 x2) ∧ w.cell? ⟨g, o + 3, none⟩ = some (.int .i64 x3) ∧ Since w w) := Lib.hid ⟨c0, c1, c2, c3, Below.refl _ _⟩
  go_enter Try.func22, Try.ntmps22
  go_wp2_with fail
  refine wp_region_noPanic ?_
  go_region_held3 (fun a => a.cell? ⟨g, o, none⟩ = some (.int .i64 x0) ∧ a.cell? ⟨g, o + 1, none⟩ = some (.int .i64 x1) ∧ a.cell? ⟨g, o + 2, none⟩ = some (.int .i64 x2) ∧ a.cell? ⟨g, o + 3, none⟩ = some (.int .i64 x3) ∧ Since w a) (first | assumption | exact SD.out _ HS.out | exact SA.out _ _ HS.out (below_ad _ _))
    ((fail))
  all_goals (refine NoPanic.normal ?_)
  all_goals go_wp2
  all_goals go_ret
  all_goals exact ⟨_, _, rfl, HR.out, below_ad _ _⟩

set_option maxRecDepth 100000 in
set_option maxHeartbeats 4000000 in
theorem left_2OVER (g o c : Nat) (x0 x1 x2 x3 d : Int) (w : World) (hg : g < w.heap.size) (c0 : w.cell? ⟨g, o, none⟩ = some (.int .i64 x0)) (c1 : w.cell? ⟨g, o + 1, none⟩ = some (.int .i64 x1)) (c2 : w.cell? ⟨g, o + 2, none⟩ = some (.int .i64 x2)) (c3 : w.cell? ⟨g, o + 3, none⟩ = some (.int .i64 x3)) :
    Calls Try.prog 22 #[.string ⟨#[50, 79, 86, 69, 82]⟩, .slice (some ⟨g, o, none⟩) 4 c, .int .i64 d] w fun e w' => ∃ B d', e = .returned (.slice B 6 d') ∧ Row w' B 6 d' [x0, x1, x2, x3, x0, x1] ∧ Below w.heap.size w w' := by
  have HR := Lib.hid (lit_row w [x0, x1, x2, x3, x0, x1] 6 rfl (by omega))
  have SD : Hid (∀ a, (a.cell? ⟨g, o, none⟩ = some (.int .i64 x0) ∧ a.cell? ⟨g, o + 1, none⟩ = some (.int .i64 x1) ∧ a.cell? ⟨g, o + 2, none⟩ = some (.int .i64 x2) ∧ a.cell? ⟨g, o + 3, none⟩ = some (.int .i64 x3) ∧ Since w a) → (a.drew.cell? ⟨g, o, none⟩ = some (.int .i64 x0) ∧ a.drew.cell? ⟨g, o + 1, none⟩ = some (.int .i64 x1) ∧ a.drew.cell? ⟨g, o + 2, none⟩ = some (.int .i64 x2) ∧ a.drew.cell? ⟨g, o + 3, none⟩ = some (.int .i64 x3) ∧ Since w a.drew)) := Lib.hid fun a h => ⟨h.1, h.2.1, h.2.2.1, h.2.2.2.1, h.2.2.2.2.drew⟩
  have SA : Hid (∀ a b, (a.cell? ⟨g, o, none⟩ = some (.int .i64 x0) ∧ a.cell? ⟨g, o + 1, none⟩ = some (.int .i64 x1) ∧ a.cell? ⟨g, o + 2, none⟩ = some (.int .i64 x2) ∧ a.cell? ⟨g, o + 3, none⟩ = some (.int .i64 x3) ∧ Since w a) → Below a.heap.size a b → (b.cell? ⟨g, o, none⟩ = some (.int .i64 x0) ∧ b.cell? ⟨g, o + 1, none⟩ = some (.int .i64 x1) ∧ b.cell? ⟨g, o + 2, none⟩ = some (.int .i64 x2) ∧ b.cell? ⟨g, o + 3, none⟩ = some (.int .i64 x3) ∧ Since w b)) := Lib.hid fun a b h k => ⟨(h.2.2.2.2.then k).cell hg c0, (h.2.2.2.2.then k).cell hg c1, (h.2.2.2.2.then k).cell hg c2, (h.2.2.2.2.then k).cell hg c3, h.2.2.2.2.then k⟩
  have HS : Hid (w.cell? ⟨g, o, none⟩ = some (.int .i64 x0) ∧ w.cell? ⟨g, o + 1, none⟩ = some (.int .i64 x1) ∧ w.cell? ⟨g, o + 2, none⟩ = some (.int .i64 x2) ∧ w.cell? ⟨g, o + 3, none⟩ = some (.int .i64 x3) ∧ Since w w) := Lib.hid ⟨c0, c1, c2, c3, Below.refl _ _⟩
  go_enter Try.func22, Try.ntmps22
  go_wp2_with fail
  refine wp_region_noPanic ?_
  go_region_held3 (fun a => a.cell? ⟨g, o, none⟩ = some (.int .i64 x0) ∧ a.cell? ⟨g, o + 1, none⟩ = some (.int .i64 x1) ∧ a.cell? ⟨g, o + 2, none⟩ = some (.int .i64 x2) ∧ a.cell? ⟨g, o + 3, none⟩ = some (.int .i64 x3) ∧ Since w a) (first | assumption | exact SD.out _ HS.out | exact SA.out _ _ HS.out (below_ad _ _))
    ((fail))
  all_goals (refine NoPanic.normal ?_)
  all_goals go_wp2
  all_goals go_ret
  all_goals exact ⟨_, _, rfl, HR.out, below_ad _ _⟩
end Go.Proofs.Ytjeapcpicagobaa
