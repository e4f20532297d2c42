/- The walk of PicTells. -/
import Derived.Test.YtphbeghflbkpgaaSetD
namespace Go.Proofs.Ytphbeghflbkpgaa
open Go.RowKit
set_option linter.unusedVariables false
set_option linter.unusedSimpArgs false

set_option maxRecDepth 100000 in
set_option maxHeartbeats 8000000 in
theorem tells_big (A A' : Option Addr) (n c n' c' : Nat) (o o' : Bool) (l l' : List UInt8) (w : World) (h : Byt w (.slice A n c) l) (h' : Byt w (.slice A' n' c') l') (h1 : (200 : Int) < (n : Int)) :
    Calls Try.prog 3 #[.agg #[.slice A n c, .bool o], .agg #[.slice A' n' c', .bool o']] w fun e w' => e = .returned (.bool true) ∧ Below w.heap.size w w' := by
  obtain ⟨p0, q0⟩ := start77 (o := o) (o' := o') h h'
  have P0 := Lib.hid p0
  have Q0 := Lib.hid q0
  have B0 : Hid (Below w.heap.size w ((w.alloc (.cells #[.slice A n c, .bool o] 24)).alloc (.cells #[.slice A' n' c', .bool o'] 24))) := al_two _ _ _
  clear h h' p0 q0
  go_enter Try.func3, Try.ntmps3
  go_wp2_with fail
  refine (shown_any7 _).mono ?_
  rintro e w1 ⟨rfl, bb⟩
  have P1 := Lib.hid (P0.out.keep bb)
  have Q1 := Lib.hid (Q0.out.keep bb)
  have B1 := Lib.hid (below_then B0.out bb)
  clear bb P0 Q0 B0
  obtain ⟨cP0, cP1⟩ := P1.out.use
  obtain ⟨cQ0, cQ1⟩ := Q1.out.use
  go_wp2_with fail
  go_ret
  exact ⟨rfl, B1.out⟩
set_option maxRecDepth 100000 in
set_option maxHeartbeats 8000000 in
theorem tells_big2 (A A' : Option Addr) (n c n' c' : Nat) (o o' : Bool) (l l' : List UInt8) (w : World) (h : Byt w (.slice A n c) l) (h' : Byt w (.slice A' n' c') l') (h1 : decide ((200 : Int) < (n : Int)) = false) (h2 : (200 : Int) < (n' : Int)) :
    Calls Try.prog 3 #[.agg #[.slice A n c, .bool o], .agg #[.slice A' n' c', .bool o']] w fun e w' => e = .returned (.bool true) ∧ Below w.heap.size w w' := by
  obtain ⟨p0, q0⟩ := start77 (o := o) (o' := o') h h'
  have P0 := Lib.hid p0
  have Q0 := Lib.hid q0
  have B0 : Hid (Below w.heap.size w ((w.alloc (.cells #[.slice A n c, .bool o] 24)).alloc (.cells #[.slice A' n' c', .bool o'] 24))) := al_two _ _ _
  clear h h' p0 q0
  go_enter Try.func3, Try.ntmps3
  go_wp2_with fail
  refine (shown_any7 _).mono ?_
  rintro e w1 ⟨rfl, bb⟩
  have P1 := Lib.hid (P0.out.keep bb)
  have Q1 := Lib.hid (Q0.out.keep bb)
  have B1 := Lib.hid (below_then B0.out bb)
  clear bb P0 Q0 B0
  obtain ⟨cP0, cP1⟩ := P1.out.use
  obtain ⟨cQ0, cQ1⟩ := Q1.out.use
  go_wp2_with fail
  go_ret
  exact ⟨rfl, B1.out⟩
set_option maxRecDepth 100000 in
set_option maxHeartbeats 8000000 in
theorem tells_false (A A' : Option Addr) (n c n' c' : Nat) (o o' : Bool) (l l' : List UInt8) (w : World) (h : Byt w (.slice A n c) l) (h' : Byt w (.slice A' n' c') l') (h1 : decide ((200 : Int) < (n : Int)) = false) (h2 : decide ((200 : Int) < (n' : Int)) = false) (hr : pRight o l = false) :
    Calls Try.prog 3 #[.agg #[.slice A n c, .bool o], .agg #[.slice A' n' c', .bool o']] w fun e w' => e = .returned (.bool true) ∧ Below w.heap.size w w' := by
  obtain ⟨p0, q0⟩ := start77 (o := o) (o' := o') h h'
  have P0 := Lib.hid p0
  have Q0 := Lib.hid q0
  have B0 : Hid (Below w.heap.size w ((w.alloc (.cells #[.slice A n c, .bool o] 24)).alloc (.cells #[.slice A' n' c', .bool o'] 24))) := al_two _ _ _
  clear h h' p0 q0
  go_enter Try.func3, Try.ntmps3
  go_wp2_with fail
  refine (shown_any7 _).mono ?_
  rintro e w1 ⟨rfl, bb⟩
  have P1 := Lib.hid (P0.out.keep bb)
  have Q1 := Lib.hid (Q0.out.keep bb)
  have B1 := Lib.hid (below_then B0.out bb)
  clear bb P0 Q0 B0
  obtain ⟨cP0, cP1⟩ := P1.out.use
  obtain ⟨cQ0, cQ1⟩ := Q1.out.use
  go_wp2_with fail
  refine (rright_any _ _ _ _ _ _ P1.out.byt).mono ?_
  rw [hr]
  rintro e w2 ⟨rfl, bb⟩
  have P2 := Lib.hid (P1.out.keep bb)
  have Q2 := Lib.hid (Q1.out.keep bb)
  have B2 := Lib.hid (below_then B1.out bb)
  clear bb cP0 cP1 cQ0 cQ1 P1 Q1 B1
  have SB : Hid (∀ a, Below w2.heap.size w2 a → (a.cell? ⟨w.heap.size, 0, none⟩ = some (.slice A n c) ∧ a.cell? ⟨w.heap.size, 1, none⟩ = some (.bool o) ∧ a.cell? ⟨w.heap.size + 1, 0, none⟩ = some (.slice A' n' c') ∧ a.cell? ⟨w.heap.size + 1, 1, none⟩ = some (.bool o') ∧ Below w2.heap.size w2 a)) := Lib.hid fun a h => ⟨(P2.out.keep h).use.1, (P2.out.keep h).use.2, (Q2.out.keep h).use.1, (Q2.out.keep h).use.2, h⟩
  have HR : Hid (∀ a, Below w2.heap.size w2 a → Calls Try.prog 11 #[.agg #[.slice A n c, .bool o]] a fun e w' => e = .returned (.bool false) ∧ Below a.heap.size a w') := Lib.hid fun a h => by have := right_any A n c o l a (P2.out.keep h).byt; rwa [hr] at this
  have HS : Hid (∀ a, Below w2.heap.size w2 a → Calls Try.prog 12 #[.agg #[.slice A n c, .bool o], .agg #[.slice A' n' c', .bool o']] a fun e w' => e = .returned (.bool (pSame o l o' l')) ∧ Below a.heap.size a w') := Lib.hid fun a h => same_any A A' n c n' c' o o' l l' a (P2.out.keep h).byt (Q2.out.keep h).byt
  have HT : Hid (∀ a, Below w2.heap.size w2 a → Calls Try.prog 13 #[.agg #[.slice A n c, .bool o], .agg #[.slice A' n' c', .bool o']] a fun e w' => e = .returned (.bool (pSame o l o' l')) ∧ Below a.heap.size a w') := Lib.hid fun a h => rsame_any A A' n c n' c' o o' l l' a (P2.out.keep h).byt (Q2.out.keep h).byt
  generalize pSame o l o' l' = SS at HS HT
  go_wp2_with fail
  refine wp_region_noPanic ?_
  go_region_held3 (fun a => a.cell? ⟨w.heap.size, 0, none⟩ = some (.slice A n c) ∧ a.cell? ⟨w.heap.size, 1, none⟩ = some (.bool o) ∧ a.cell? ⟨w.heap.size + 1, 0, none⟩ = some (.slice A' n' c') ∧ a.cell? ⟨w.heap.size + 1, 1, none⟩ = some (.bool o') ∧ Below w2.heap.size w2 a) (first | assumption | exact SB.out _ (since_d _))
    (first
      | (go_at_call 11; ((with_reducible refine (HR.out _ (by assumption : _ ∧ _ ∧ _ ∧ _ ∧ Below w2.heap.size w2 _).2.2.2.2).mono ?_); rintro er wr ⟨rfl, br⟩; have sr := SB.out _ (below_then (by assumption : _ ∧ _ ∧ _ ∧ _ ∧ Below w2.heap.size w2 _).2.2.2.2 br)))
      | (go_at_call 12; ((with_reducible refine (HS.out _ (by assumption : _ ∧ _ ∧ _ ∧ _ ∧ Below w2.heap.size w2 _).2.2.2.2).mono ?_); rintro es ws ⟨rfl, bt⟩; have ss := SB.out _ (below_then (by assumption : _ ∧ _ ∧ _ ∧ _ ∧ Below w2.heap.size w2 _).2.2.2.2 bt)))
      | (go_at_call 13; ((with_reducible refine (HT.out _ (by assumption : _ ∧ _ ∧ _ ∧ _ ∧ Below w2.heap.size w2 _).2.2.2.2).mono ?_); rintro et wt ⟨rfl, bu⟩; have st := SB.out _ (below_then (by assumption : _ ∧ _ ∧ _ ∧ _ ∧ Below w2.heap.size w2 _).2.2.2.2 bu)))
      | (go_at_call 14; ((with_reducible refine (begin_any _).mono ?_); rintro eb wb ⟨A9, n9, c9, rfl, hy9, bv⟩; have sb := SB.out _ (below_then (by assumption : _ ∧ _ ∧ _ ∧ _ ∧ Below w2.heap.size w2 _).2.2.2.2 bv)))
      | (go_at_call 15; ((with_reducible refine (rbegin_any _).mono ?_); rintro ec wc ⟨rfl, bw⟩; have sc := SB.out _ (below_then (by assumption : _ ∧ _ ∧ _ ∧ _ ∧ Below w2.heap.size w2 _).2.2.2.2 bw)))
      | (go_at_call 13; ((with_reducible refine (rsame_any A9 none n9 c9 0 0 true true [] [] _ hy9 (byt_nil _)).mono ?_); rw [psame_refl]; rintro ed wd ⟨rfl, bx⟩; have sd := SB.out _ (below_then (by assumption : _ ∧ _ ∧ _ ∧ _ ∧ Below w2.heap.size w2 _).2.2.2.2 bx)))
      | (go_at_call 13; ((with_reducible refine (rsame_any A9 none n9 c9 0 0 true true [] [] _ (hy9.keep bw) (byt_nil _)).mono ?_); rw [psame_refl]; rintro ed wd ⟨rfl, bx⟩; have sd := SB.out _ (below_then (by assumption : _ ∧ _ ∧ _ ∧ _ ∧ Below w2.heap.size w2 _).2.2.2.2 bx))))
  all_goals (refine NoPanic.normal ?_)
  all_goals (have BD := Lib.hid (below_then B2.out sd.2.2.2.2); have PD := Lib.hid (P2.out.keep sd.2.2.2.2))
  all_goals (obtain ⟨cP0, cP1⟩ := PD.out.use)
  all_goals go_wp2_with fail
  all_goals go_ret
  all_goals exact ⟨rfl, BD.out⟩
set_option maxRecDepth 100000 in
set_option maxHeartbeats 8000000 in
theorem tells_true (A A' : Option Addr) (n c n' c' : Nat) (o o' : Bool) (l l' : List UInt8) (w : World) (h : Byt w (.slice A n c) l) (h' : Byt w (.slice A' n' c') l') (h1 : decide ((200 : Int) < (n : Int)) = false) (h2 : decide ((200 : Int) < (n' : Int)) = false) (hr : pRight o l = true) :
    Calls Try.prog 3 #[.agg #[.slice A n c, .bool o], .agg #[.slice A' n' c', .bool o']] w fun e w' => e = .returned (.bool true) ∧ Below w.heap.size w w' := by
  obtain ⟨p0, q0⟩ := start77 (o := o) (o' := o') h h'
  have P0 := Lib.hid p0
  have Q0 := Lib.hid q0
  have B0 : Hid (Below w.heap.size w ((w.alloc (.cells #[.slice A n c, .bool o] 24)).alloc (.cells #[.slice A' n' c', .bool o'] 24))) := al_two _ _ _
  have hm : l.length ≤ 1000 := by have := ((pRight_iff _ _).1 hr).1; omega
  obtain ⟨r1, r2⟩ := endC_rng o
  obtain ⟨E, eE⟩ : ∃ x, strB (endL o l) = x := ⟨_, rfl⟩
  have HE := Lib.hid eE
  obtain ⟨C, eC⟩ : ∃ x, endC o = x := ⟨_, rfl⟩
  have HC := Lib.hid eC
  rw [eC] at r1 r2
  clear eE eC
  clear h h' p0 q0
  go_enter Try.func3, Try.ntmps3
  go_wp2_with fail
  refine (shown_any7 _).mono ?_
  rintro e w1 ⟨rfl, bb⟩
  have P1 := Lib.hid (P0.out.keep bb)
  have Q1 := Lib.hid (Q0.out.keep bb)
  have B1 := Lib.hid (below_then B0.out bb)
  clear bb P0 Q0 B0
  obtain ⟨cP0, cP1⟩ := P1.out.use
  obtain ⟨cQ0, cQ1⟩ := Q1.out.use
  go_wp2_with fail
  refine (rright_any _ _ _ _ _ _ P1.out.byt).mono ?_
  rw [hr]
  rintro e w2 ⟨rfl, bb⟩
  have P2 := Lib.hid (P1.out.keep bb)
  have Q2 := Lib.hid (Q1.out.keep bb)
  have B2 := Lib.hid (below_then B1.out bb)
  clear bb cP0 cP1 cQ0 cQ1 P1 Q1 B1
  have SB : Hid (∀ a, Below w2.heap.size w2 a → (a.cell? ⟨w.heap.size, 0, none⟩ = some (.slice A n c) ∧ a.cell? ⟨w.heap.size, 1, none⟩ = some (.bool o) ∧ a.cell? ⟨w.heap.size + 1, 0, none⟩ = some (.slice A' n' c') ∧ a.cell? ⟨w.heap.size + 1, 1, none⟩ = some (.bool o') ∧ Below w2.heap.size w2 a)) := Lib.hid fun a h => ⟨(P2.out.keep h).use.1, (P2.out.keep h).use.2, (Q2.out.keep h).use.1, (Q2.out.keep h).use.2, h⟩
  have HR : Hid (∀ a, Below w2.heap.size w2 a → Calls Try.prog 11 #[.agg #[.slice A n c, .bool o]] a fun e w' => e = .returned (.bool true) ∧ Below a.heap.size a w') := Lib.hid fun a h => by have := right_any A n c o l a (P2.out.keep h).byt; rwa [hr] at this
  have HS : Hid (∀ a, Below w2.heap.size w2 a → Calls Try.prog 12 #[.agg #[.slice A n c, .bool o], .agg #[.slice A' n' c', .bool o']] a fun e w' => e = .returned (.bool (pSame o l o' l')) ∧ Below a.heap.size a w') := Lib.hid fun a h => same_any A A' n c n' c' o o' l l' a (P2.out.keep h).byt (Q2.out.keep h).byt
  have HT : Hid (∀ a, Below w2.heap.size w2 a → Calls Try.prog 13 #[.agg #[.slice A n c, .bool o], .agg #[.slice A' n' c', .bool o']] a fun e w' => e = .returned (.bool (pSame o l o' l')) ∧ Below a.heap.size a w') := Lib.hid fun a h => rsame_any A A' n c n' c' o o' l l' a (P2.out.keep h).byt (Q2.out.keep h).byt
  generalize pSame o l o' l' = SS at HS HT
  go_wp2_with fail
  refine wp_region_noPanic ?_
  go_region_held3 (fun a => a.cell? ⟨w.heap.size, 0, none⟩ = some (.slice A n c) ∧ a.cell? ⟨w.heap.size, 1, none⟩ = some (.bool o) ∧ a.cell? ⟨w.heap.size + 1, 0, none⟩ = some (.slice A' n' c') ∧ a.cell? ⟨w.heap.size + 1, 1, none⟩ = some (.bool o') ∧ Below w2.heap.size w2 a) (first | assumption | exact SB.out _ (since_d _))
    (first
      | (go_at_call 11; ((with_reducible refine (HR.out _ (by assumption : _ ∧ _ ∧ _ ∧ _ ∧ Below w2.heap.size w2 _).2.2.2.2).mono ?_); rintro er wr ⟨rfl, br⟩; have sr := SB.out _ (below_then (by assumption : _ ∧ _ ∧ _ ∧ _ ∧ Below w2.heap.size w2 _).2.2.2.2 br)))
      | (go_at_call 12; ((with_reducible refine (HS.out _ (by assumption : _ ∧ _ ∧ _ ∧ _ ∧ Below w2.heap.size w2 _).2.2.2.2).mono ?_); rintro es ws ⟨rfl, bt⟩; have ss := SB.out _ (below_then (by assumption : _ ∧ _ ∧ _ ∧ _ ∧ Below w2.heap.size w2 _).2.2.2.2 bt)))
      | (go_at_call 13; ((with_reducible refine (HT.out _ (by assumption : _ ∧ _ ∧ _ ∧ _ ∧ Below w2.heap.size w2 _).2.2.2.2).mono ?_); rintro et wt ⟨rfl, bu⟩; have st := SB.out _ (below_then (by assumption : _ ∧ _ ∧ _ ∧ _ ∧ Below w2.heap.size w2 _).2.2.2.2 bu)))
      | (go_at_call 14; ((with_reducible refine (begin_any _).mono ?_); rintro eb wb ⟨A9, n9, c9, rfl, hy9, bv⟩; have sb := SB.out _ (below_then (by assumption : _ ∧ _ ∧ _ ∧ _ ∧ Below w2.heap.size w2 _).2.2.2.2 bv)))
      | (go_at_call 15; ((with_reducible refine (rbegin_any _).mono ?_); rintro ec wc ⟨rfl, bw⟩; have sc := SB.out _ (below_then (by assumption : _ ∧ _ ∧ _ ∧ _ ∧ Below w2.heap.size w2 _).2.2.2.2 bw)))
      | (go_at_call 13; ((with_reducible refine (rsame_any A9 none n9 c9 0 0 true true [] [] _ hy9 (byt_nil _)).mono ?_); rw [psame_refl]; rintro ed wd ⟨rfl, bx⟩; have sd := SB.out _ (below_then (by assumption : _ ∧ _ ∧ _ ∧ _ ∧ Below w2.heap.size w2 _).2.2.2.2 bx)))
      | (go_at_call 13; ((with_reducible refine (rsame_any A9 none n9 c9 0 0 true true [] [] _ (hy9.keep bw) (byt_nil _)).mono ?_); rw [psame_refl]; rintro ed wd ⟨rfl, bx⟩; have sd := SB.out _ (below_then (by assumption : _ ∧ _ ∧ _ ∧ _ ∧ Below w2.heap.size w2 _).2.2.2.2 bx))))
  all_goals (refine NoPanic.normal ?_)
  all_goals (have BD := Lib.hid (below_then B2.out sd.2.2.2.2); have PD := Lib.hid (P2.out.keep sd.2.2.2.2))
  all_goals (obtain ⟨cP0, cP1⟩ := PD.out.use)
  all_goals go_wp2_with fail
  all_goals (refine (end_any _ _ _ o l _ PD.out.byt hm).mono ?_)
  all_goals (rw [HE.out, HC.out])
  all_goals (rintro e3 w3 ⟨rfl, b3⟩)
  all_goals (have PE := Lib.hid (PD.out.keep b3); have BE := Lib.hid (below_then BD.out b3); clear PD BD b3 cP0 cP1)
  all_goals (obtain ⟨cP0, cP1⟩ := PE.out.use)
  all_goals go_wp2_with fail
  all_goals (refine (rend_any _ _ _ o l _ PE.out.byt hm).mono ?_)
  all_goals (rw [HE.out, HC.out])
  all_goals (rintro e4 w4 ⟨rfl, b4⟩)
  all_goals (have BF := Lib.hid (below_then BE.out b4); clear PE BE b4 cP0 cP1)
  all_goals go_wp2_with fail
  all_goals go_ret
  all_goals exact ⟨rfl, BF.out⟩
theorem tells_any (A A' : Option Addr) (n c n' c' : Nat) (o o' : Bool) (l l' : List UInt8) (w : World) (h : Byt w (.slice A n c) l) (h' : Byt w (.slice A' n' c') l') :
    Calls Try.prog 3 #[.agg #[.slice A n c, .bool o], .agg #[.slice A' n' c', .bool o']] w fun e w' => e = .returned (.bool true) ∧ Below w.heap.size w w' := by
  by_cases h1 : (200 : Int) < (n : Int)
  · exact tells_big A A' n c n' c' o o' l l' w h h' h1
  · have h1' : decide ((200 : Int) < (n : Int)) = false := by simpa using h1
    by_cases h2 : (200 : Int) < (n' : Int)
    · exact tells_big2 A A' n c n' c' o o' l l' w h h' h1' h2
    · have h2' : decide ((200 : Int) < (n' : Int)) = false := by simpa using h2
      cases hr : pRight o l with
      | false => exact tells_false A A' n c n' c' o o' l l' w h h' h1' h2' hr
      | true => exact tells_true A A' n c n' c' o o' l l' w h h' h1' h2' hr
end Go.Proofs.Ytphbeghflbkpgaa
