/- Contracts of own, with, Push and Pop of package stk. -/
import Derived.Test.YtjeapcpicagobaaStkBase
namespace Go.Proofs.Ytjeapcpicagobaa
open Go.RowKit
set_option linter.unusedVariables false
set_option linter.unusedSimpArgs false

set_option maxRecDepth 100000 in
set_option maxHeartbeats 1000000 in
theorem own_any (A : Option Addr) (n c : Nat) (l : List Int) (w : World) (hn : n ≤ 65536) (HR : Hid (Row w A n c l)) :
    Calls Try.prog 18 #[.slice A n c] w fun e w' => ∃ g, e = .returned (.slice (some ⟨g, 0, none⟩) n n) ∧ Owns w' w.heap.size (.slice (some ⟨g, 0, none⟩) n n) n l ∧ Below w.heap.size w w' := by
  obtain ⟨i0, hi, hz0, hz1, hz2⟩ := info_parts info_int
  obtain ⟨Z, hZ⟩ : ∃ Z, Z = (madeCells (Value.int .i64 0).cells n).toList := ⟨_, rfl⟩
  obtain ⟨X, hX⟩ : ∃ X, X = ints l := ⟨_, rfl⟩
  have hmk : (Instr.makeSlice 22 (.int .i64 (n : Int)) (.int .i64 (n : Int))).run Try.prog w = .ok (.slice (some ⟨w.heap.size, 0, none⟩) n n) (w.alloc (.cells Z.toArray 3)) := by
    have := run_make (P := Try.prog) w 22 3 i0 (.int .i64 0) Try.underlying22 hi hz0 .i64 .i64 n n (by omega) (Int.le_refl _) (by rw [hz2]; omega) (by omega)
    rw [hz1] at this
    simpa [hZ] using this
  have HZ : Hid (Z.length = n) := by rw [hZ]; show _ = n; simp [size_madeCells]
  have HX : Hid (X.length = n) := by rw [hX]; have := HR.out.1; show _ = n; rw [ints_len]; exact this
  have HE := Lib.hid hX
  have HL0 := Lib.hid HR.out.2.2.2
  clear hX hZ hi hz0 hz1 hz2
  go_enter Try.func18, Try.ntmps18
  go_wp2_with (with_reducible refine wpList_copy_splice rfl (.tmp 7) (.tmp 8) 22 22 rfl 3 Try.underlying22 ?c0 (some ⟨w.heap.size, 0, none⟩) A n n n c rfl rfl w.heap.size 0 Z 3 ?c1 X ?c2 (fun hx => ⟨rfl, hpos_of (HE.out ▸ HL0.out) ((Below.refl _ _).alloc (Nat.le_refl _) _) hx⟩) ?c3 ?c4 w.heap.size w ?c5 ?c6 ?_)
  case c0 => kernel_rfl
  case c1 => exact heap_alloc_new _ _
  case c2 => rw [HX.out]; simp
  case c3 => rw [HX.out, HZ.out]; omega
  case c4 => rw [HE.out]; exact ints_one l
  case c5 => exact (Below.refl _ _).alloc (Nat.le_refl _) _
  case c6 => omega
  intro w2 hg hb2
  go_wp2
  go_ret
  refine ⟨w.heap.size, rfl, owns_block ?_ HR.out.1 (Nat.le_refl _) (by unfold maxLen; omega), hb2⟩
  have h2 := hg.out
  have e : splice Z 0 X = X := by
    have z := HZ.out
    have x := HX.out
    simp [splice, z, x]
  rw [e, HE.out] at h2
  exact h2

set_option maxRecDepth 100000 in
set_option maxHeartbeats 1000000 in
theorem with_any (A : Option Addr) (n c : Nat) (x : Int) (l : List Int) (w : World) (hn : n ≤ 65536) (HR : Hid (Row w A n c l)) :
    Calls Try.prog 19 #[.slice A n c, .int .i64 x] w fun e w' => ∃ g, e = .returned (.slice (some ⟨g, 0, none⟩) (n + 1) (n + 1)) ∧ Owns w' w.heap.size (.slice (some ⟨g, 0, none⟩) (n + 1) (n + 1)) (n + 1) (l ++ [x]) ∧ Below w.heap.size w w' := by
  obtain ⟨i0, hi, hz0, hz1, hz2⟩ := info_parts info_int
  obtain ⟨Z, hZ⟩ : ∃ Z, Z = (madeCells (Value.int .i64 0).cells (n + 1)).toList := ⟨_, rfl⟩
  obtain ⟨X, hX⟩ : ∃ X, X = ints l := ⟨_, rfl⟩
  have hmk : (Instr.makeSlice 22 (.int .i64 ((n : Int) + 1)) (.int .i64 ((n : Int) + 1))).run Try.prog w = .ok (.slice (some ⟨w.heap.size, 0, none⟩) (n + 1) (n + 1)) (w.alloc (.cells Z.toArray 3)) := by
    have := run_make (P := Try.prog) w 22 3 i0 (.int .i64 0) Try.underlying22 hi hz0 .i64 .i64 ((n : Int) + 1) ((n : Int) + 1) (by omega) (Int.le_refl _) (by rw [hz2]; omega) (by omega)
    rw [hz1] at this
    simpa [hZ] using this
  have HZ : Hid (Z.length = n + 1) := by rw [hZ]; show _ = n + 1; simp [size_madeCells]
  have HX : Hid (X.length = n) := by rw [hX]; have := HR.out.1; show _ = n; rw [ints_len]; exact this
  have HE := Lib.hid hX
  have HL0 := Lib.hid HR.out.2.2.2
  clear hX hZ hi hz0 hz1 hz2
  go_enter Try.func19, Try.ntmps19
  go_wp2_with (with_reducible refine wpList_copy_splice rfl (.tmp 10) (.tmp 11) 22 22 rfl 3 Try.underlying22 ?c0 (some ⟨w.heap.size, 0, none⟩) A (n + 1) (n + 1) n c rfl rfl w.heap.size 0 Z 3 ?c1 X ?c2 (fun hx => ⟨rfl, hpos_of (HE.out ▸ HL0.out) ((Below.refl _ _).alloc (Nat.le_refl _) _) hx⟩) ?c3 ?c4 w.heap.size w ?c5 ?c6 ?_)
  case c0 => kernel_rfl
  case c1 => exact heap_alloc_new _ _
  case c2 => rw [HX.out]; simp
  case c3 => rw [HX.out, HZ.out]; omega
  case c4 => rw [HE.out]; exact ints_one l
  case c5 => exact (Below.refl _ _).alloc (Nat.le_refl _) _
  case c6 => omega
  intro w2 hg hb2
  have e : splice Z 0 X = X ++ Z.drop n := by
    have z := HZ.out
    have x := HX.out
    simp [splice, z, x]
  rw [e] at hg
  have hl : (X ++ Z.drop n).length = n + 1 := by have z := HZ.out; have x := HX.out; simp [z, x]
  obtain ⟨y, hy⟩ : ∃ y, (X ++ Z.drop n)[n]? = some y := ⟨_, List.getElem?_eq_getElem (by omega)⟩
  have k2 : w2.cell? ⟨w.heap.size, n, none⟩ = some y := by
    simp only [World.cell?, hg.out]
    simpa using hy
  have f2 : w2.frozen? ⟨w.heap.size, n, none⟩ = false := by simp [World.frozen?, hg.out]
  have HB2 := Lib.hid hb2
  have HL := Lib.hid hl
  clear e hl hb2 hy
  go_wp2
  go_ret
  refine ⟨w.heap.size, rfl, owns_block ?_ (by have := HR.out.1; simp [this]) (Nat.le_refl _) (by unfold maxLen; omega), HB2.out.setCell (Nat.le_refl _) _⟩
  rw [Go.Joins.block_setCell hg.out]
  congr 2
  have z := HZ.out
  have x' := HX.out
  have hx : (X ++ Z.drop n).set n (.int .i64 x) = X ++ [.int .i64 x] := by
    rw [List.set_append_right _ _ (by omega), x', Nat.sub_self]
    congr 1
    have : Z.drop n = [Z[n]] := by
      rw [List.drop_eq_getElem_cons (by omega), List.drop_eq_nil_of_le (by omega)]
    rw [this]
    rfl
  rw [show ints (l ++ [x]) = X ++ [.int .i64 x] by rw [HE.out, ints_app]; rfl]
  simp [hx]
end Go.Proofs.Ytjeapcpicagobaa
