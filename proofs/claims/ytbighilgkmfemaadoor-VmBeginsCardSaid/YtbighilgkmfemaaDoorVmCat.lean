/- slices.Grow of no row, and slices.Concat of two rows, at bytes and at strings. -/
import Derived.Test.YtbighilgkmfemaaDoorSetC
import Derived.Shelf.Spec.SlicesGrow
namespace Go.Proofs
open Go.Shelf
def Tryd.growb_ren : Go.Shelf.Ren := ⟨fun | 4 => 70 | n => n, fun | 0 => 0 | 3 => 3 | 4 => 4 | 9 => 9 | 20 => 20 | 22 => 25 | 25 => 5 | n => n, fun | n => n⟩
theorem Tryd.growb_lays : Go.Proofs.Lays8.n4 Tryd.prog Tryd.growb_ren := {
  mixed := by kernel_rfl
  f4 := ⟨"slices.Grow[[]byte,byte]", by decide, Tryd.func70.trans (congrArg some (by kernel_rfl))⟩
  t0 := Tryd.underlying0
  a0 := Tryd.isAgg0
  z0 := Tryd.sizeOf0
  v0 := Tryd.zeroValue0
  t3 := Tryd.underlying3
  a3 := Tryd.isAgg3
  z3 := Tryd.sizeOf3
  v3 := Tryd.zeroValue3
  t4 := Tryd.underlying4
  a4 := Tryd.isAgg4
  z4 := Tryd.sizeOf4
  v4 := Tryd.zeroValue4
  t9 := Tryd.underlying9
  a9 := Tryd.isAgg9
  z9 := Tryd.sizeOf9
  v9 := Tryd.zeroValue9
  t20 := Tryd.underlying20
  a20 := Tryd.isAgg20
  z20 := Tryd.sizeOf20
  v20 := Tryd.zeroValue20
  t22 := Tryd.underlying25
  a22 := Tryd.isAgg25
  z22 := Tryd.sizeOf25
  v22 := Tryd.zeroValue25 }
end Go.Proofs
namespace Go.Proofs
open Go.Shelf
def Tryd.grows_ren : Go.Shelf.Ren := ⟨fun | 4 => 86 | n => n, fun | 0 => 0 | 3 => 3 | 4 => 4 | 9 => 9 | 20 => 20 | 22 => 42 | 25 => 9 | n => n, fun | n => n⟩
theorem Tryd.grows_lays : Go.Proofs.Lays8.n4 Tryd.prog Tryd.grows_ren := {
  mixed := by kernel_rfl
  f4 := ⟨"slices.Grow[[]string,string]", by decide, Tryd.func86.trans (congrArg some (by kernel_rfl))⟩
  t0 := Tryd.underlying0
  a0 := Tryd.isAgg0
  z0 := Tryd.sizeOf0
  v0 := Tryd.zeroValue0
  t3 := Tryd.underlying3
  a3 := Tryd.isAgg3
  z3 := Tryd.sizeOf3
  v3 := Tryd.zeroValue3
  t4 := Tryd.underlying4
  a4 := Tryd.isAgg4
  z4 := Tryd.sizeOf4
  v4 := Tryd.zeroValue4
  t9 := Tryd.underlying9
  a9 := Tryd.isAgg9
  z9 := Tryd.sizeOf9
  v9 := Tryd.zeroValue9
  t20 := Tryd.underlying20
  a20 := Tryd.isAgg20
  z20 := Tryd.sizeOf20
  v20 := Tryd.zeroValue20
  t22 := Tryd.underlying42
  a22 := Tryd.isAgg42
  z22 := Tryd.sizeOf42
  v22 := Tryd.zeroValue42 }
end Go.Proofs
namespace Go.Proofs.YtbighilgkmfemaaDoor
open Go.RowKit Go.Lib Go.Shelf
set_option linter.unusedVariables false
set_option linter.unusedSimpArgs false

theorem pair_new (w : World) (a b : Value) (t : TypeId) : (w.alloc (.cells #[a, b] t)).cell? ⟨w.heap.size, 0, none⟩ = some a ∧ (w.alloc (.cells #[a, b] t)).cell? ⟨w.heap.size, 1, none⟩ = some b := by
  have h := one_newN w #[a, b] t
  constructor <;> (unfold World.cell?; rw [h]; rfl)
theorem bgrow_any (n : Nat) (w : World) (hn : n ≤ 200000) : Calls Tryd.prog 70 #[.slice none 0 0, .int .i64 (n : Int)] w fun e w' => ∃ v, e = .returned v ∧ BOwns w' w.heap.size v 0 [] ∧ Below w.heap.size w w' := by
  by_cases h0 : n = 0
  · subst h0
    refine (Any8.slices_Grow_room Tryd.growb_lays none 0 0 0 w (Nat.le_refl _) (by decide) (by decide) (by decide)).mono ?_
    rintro e w1 ⟨rfl, rfl⟩
    exact ⟨_, rfl, ⟨rfl, .inl ⟨rfl, rfl⟩⟩, Below.refl _ _⟩
  · obtain ⟨i0, hi, hz0, hz1, hz2⟩ := info_parts info_u8
    have h := Any8.slices_Grow_grow Tryd.growb_lays i0 _ hi hz0 (by rw [hz1]; decide) none 0 0 n [] w (Nat.le_refl _) (by omega) (by rw [hz2]; omega) (by omega) (by simp) (fun _ => rfl) (fun a e => by cases e)
    refine h.mono ?_
    rintro e w1 ⟨rfl, rfl⟩
    refine ⟨_, rfl, ⟨rfl, .inr ⟨w.heap.size, _, _, rfl, Nat.le_refl _, one_newN w.drew _ _, Nat.zero_le _, grownCap_le_maxLen _ _ _ _ (by unfold maxLen; omega), ?_, by simp [u8s]⟩⟩, ?_⟩
    · have hge := grownCap_ge w (0 + n) 0 (Tryd.growb_ren.t 25)
      obtain ⟨G, hG⟩ : ∃ G, grownCap w (0 + n) 0 (Tryd.growb_ren.t 25) = G := ⟨_, rfl⟩
      rw [hG] at hge ⊢
      simp [Builtin.zeroCells, Value.cells]
      omega
    · exact (⟨rfl, rfl, rfl, Nat.le_refl _, fun _ _ => rfl⟩ : Below w.heap.size w w.drew).alloc (Nat.le_refl _) _
set_option maxRecDepth 100000 in
set_option maxHeartbeats 4000000 in
theorem bcat_any (A A' : Option Addr) (n c n' c' : Nat) (l l' : List UInt8) (g : Nat) (w : World) (H0 : w.cell? ⟨g, 0, none⟩ = some (.slice A n c)) (H1 : w.cell? ⟨g, 1, none⟩ = some (.slice A' n' c'))
    (h : Byt w (.slice A n c) l) (h' : Byt w (.slice A' n' c') l') (hl : l.length ≤ 100000) (hl' : l'.length ≤ 100000) :
    Calls Tryd.prog 37 #[.slice (some ⟨g, 0, none⟩) 2 2] w fun e w' => ∃ v, e = .returned v ∧ BOwns w' w.heap.size v (l ++ l').length (l ++ l') ∧ Below w.heap.size w w' := by
  have e1 := h.len
  have e2 := h'.len
  subst e1 e2
  have X := Lib.hid h
  have Y := Lib.hid h'
  have hs : IntKind.i64.wrap ((l.length : Int) + (l'.length : Int)) = ((l.length + l'.length : Nat) : Int) := by
    rw [IntWalk.i64_in _ ⟨by omega, by omega⟩]
    simp
  have hp : decide (((l.length + l'.length : Nat) : Int) < 0) = false := by simp; omega
  have hp0 : decide ((l.length : Int) < 0) = false := by simp
  have HG := Lib.hid (bgrow_any (l.length + l'.length) w (by omega))
  clear h h'
  go_enter Tryd.func37, Tryd.ntmps37
  go_wp2_with fail
  refine wp_loop_rounds 3 ?_
  iterate 3 (rw [rounds_succ]; go_wp2_with fail)
  refine HG.out.mono ?_
  rintro e w1 ⟨v0, rfl, o0, b0⟩
  have O0 := Lib.hid o0
  have B0 := Lib.hid b0
  have K0 : w1.cell? ⟨g, 0, none⟩ = some (.slice A l.length c) := (b0.cell (p := ⟨g, 0, none⟩) (World.block_lt_of_cell? _ _ H0)).trans H0
  have X1 := Lib.hid (X.out.keep b0)
  have HS := Lib.hid b0.size
  have HH := Lib.hid H1
  clear o0 b0 H0 H1 X HG
  go_wp2_with fail
  refine wp_loop_rounds 3 ?_
  rw [rounds_succ]
  go_wp2_with (at_builtin; (refine wpList_bapp rfl _ _ rfl w.heap.size v0 0 [] rfl O0.out A l.length c l rfl X1.out (by omega) HS.out w B0.out (Nat.le_refl _) ?_; intro v1 w2 o1 b1 g1))
  have O1 := Lib.hid o1
  have B1 := Lib.hid b1
  have K1 : w2.cell? ⟨g, 1, none⟩ = some (.slice A' l'.length c') := (b1.cell (p := ⟨g, 1, none⟩) (World.block_lt_of_cell? _ _ HH.out)).trans HH.out
  have Y1 := Lib.hid (Y.out.keep b1)
  have HS1 := Lib.hid b1.size
  clear o1 b1 g1 K0 X1 O0 B0 HS
  rw [rounds_succ]
  go_wp2_with (at_builtin; (refine wpList_bapp rfl _ _ rfl w.heap.size v1 (0 + l.length) ([] ++ l) rfl O1.out A' l'.length c' l' rfl Y1.out (by omega) HS1.out w B1.out (Nat.le_refl _) ?_; intro v2 w3 o2 b2 g2))
  have O2 := Lib.hid o2
  have B2 := Lib.hid b2
  clear o2 b2 g2 K1 Y1 O1 B1 HS1
  rw [rounds_succ]
  go_wp2_with fail
  go_ret
  refine ⟨v2, rfl, ?_, B2.out⟩
  have := O2.out
  rw [Nat.zero_add, List.nil_append, ← List.length_append] at this
  exact this
theorem sgrow_any (n : Nat) (w : World) (hn : n ≤ 200000) : Calls Tryd.prog 86 #[.slice none 0 0, .int .i64 (n : Int)] w fun e w' => ∃ v, e = .returned v ∧ SOwns w' w.heap.size v 0 [] ∧ Below w.heap.size w w' := by
  by_cases h0 : n = 0
  · subst h0
    refine (Any8.slices_Grow_room Tryd.grows_lays none 0 0 0 w (Nat.le_refl _) (by decide) (by decide) (by decide)).mono ?_
    rintro e w1 ⟨rfl, rfl⟩
    exact ⟨_, rfl, ⟨rfl, .inl ⟨rfl, rfl⟩⟩, Below.refl _ _⟩
  · obtain ⟨i0, hi, hz0, hz1, hz2⟩ := info_parts info_str
    have h := Any8.slices_Grow_grow Tryd.grows_lays i0 _ hi hz0 (by rw [hz1]; decide) none 0 0 n [] w (Nat.le_refl _) (by omega) (by rw [hz2]; omega) (by omega) (by simp) (fun _ => rfl) (fun a e => by cases e)
    refine h.mono ?_
    rintro e w1 ⟨rfl, rfl⟩
    refine ⟨_, rfl, ⟨rfl, .inr ⟨w.heap.size, _, _, rfl, Nat.le_refl _, one_newN w.drew _ _, Nat.zero_le _, grownCap_le_maxLen _ _ _ _ (by unfold maxLen; omega), ?_, by simp [sts]⟩⟩, ?_⟩
    · have hge := grownCap_ge w (0 + n) 0 (Tryd.grows_ren.t 25)
      obtain ⟨G, hG⟩ : ∃ G, grownCap w (0 + n) 0 (Tryd.grows_ren.t 25) = G := ⟨_, rfl⟩
      rw [hG] at hge ⊢
      simp [Builtin.zeroCells, Value.cells]
      omega
    · exact (⟨rfl, rfl, rfl, Nat.le_refl _, fun _ _ => rfl⟩ : Below w.heap.size w w.drew).alloc (Nat.le_refl _) _
set_option maxRecDepth 100000 in
set_option maxHeartbeats 4000000 in
theorem scat_any (A A' : Option Addr) (n c n' c' : Nat) (l l' : List (List UInt8)) (g : Nat) (w : World) (H0 : w.cell? ⟨g, 0, none⟩ = some (.slice A n c)) (H1 : w.cell? ⟨g, 1, none⟩ = some (.slice A' n' c'))
    (h : Sts w (.slice A n c) l) (h' : Sts w (.slice A' n' c') l') (hl : l.length ≤ 100000) (hl' : l'.length ≤ 100000) :
    Calls Tryd.prog 58 #[.slice (some ⟨g, 0, none⟩) 2 2] w fun e w' => ∃ v, e = .returned v ∧ SOwns w' w.heap.size v (l ++ l').length (l ++ l') ∧ Below w.heap.size w w' := by
  have e1 := h.len
  have e2 := h'.len
  subst e1 e2
  have X := Lib.hid h
  have Y := Lib.hid h'
  have hs : IntKind.i64.wrap ((l.length : Int) + (l'.length : Int)) = ((l.length + l'.length : Nat) : Int) := by
    rw [IntWalk.i64_in _ ⟨by omega, by omega⟩]
    simp
  have hp : decide (((l.length + l'.length : Nat) : Int) < 0) = false := by simp; omega
  have hp0 : decide ((l.length : Int) < 0) = false := by simp
  have HG := Lib.hid (sgrow_any (l.length + l'.length) w (by omega))
  clear h h'
  go_enter Tryd.func58, Tryd.ntmps58
  go_wp2_with fail
  refine wp_loop_rounds 3 ?_
  iterate 3 (rw [rounds_succ]; go_wp2_with fail)
  refine HG.out.mono ?_
  rintro e w1 ⟨v0, rfl, o0, b0⟩
  have O0 := Lib.hid o0
  have B0 := Lib.hid b0
  have K0 : w1.cell? ⟨g, 0, none⟩ = some (.slice A l.length c) := (b0.cell (p := ⟨g, 0, none⟩) (World.block_lt_of_cell? _ _ H0)).trans H0
  have X1 := Lib.hid (X.out.keep b0)
  have HS := Lib.hid b0.size
  have HH := Lib.hid H1
  clear o0 b0 H0 H1 X HG
  go_wp2_with fail
  refine wp_loop_rounds 3 ?_
  rw [rounds_succ]
  go_wp2_with (at_builtin; (refine wpList_sapp rfl _ _ rfl w.heap.size v0 0 [] rfl O0.out A l.length c l rfl X1.out (by omega) HS.out w B0.out (Nat.le_refl _) ?_; intro v1 w2 o1 b1 g1))
  have O1 := Lib.hid o1
  have B1 := Lib.hid b1
  have K1 : w2.cell? ⟨g, 1, none⟩ = some (.slice A' l'.length c') := (b1.cell (p := ⟨g, 1, none⟩) (World.block_lt_of_cell? _ _ HH.out)).trans HH.out
  have Y1 := Lib.hid (Y.out.keep b1)
  have HS1 := Lib.hid b1.size
  clear o1 b1 g1 K0 X1 O0 B0 HS
  rw [rounds_succ]
  go_wp2_with (at_builtin; (refine wpList_sapp rfl _ _ rfl w.heap.size v1 (0 + l.length) ([] ++ l) rfl O1.out A' l'.length c' l' rfl Y1.out (by omega) HS1.out w B1.out (Nat.le_refl _) ?_; intro v2 w3 o2 b2 g2))
  have O2 := Lib.hid o2
  have B2 := Lib.hid b2
  clear o2 b2 g2 K1 Y1 O1 B1 HS1
  rw [rounds_succ]
  go_wp2_with fail
  go_ret
  refine ⟨v2, rfl, ?_, B2.out⟩
  have := O2.out
  rw [Nat.zero_add, List.nil_append, ← List.length_append] at this
  exact this
end Go.Proofs.YtbighilgkmfemaaDoor
