/- A walk of StkDeep. -/
import Derived.Test.YtjeapcpicagobaaStkDeepM
import Derived.Deep.RegionHeld3
namespace Go.Proofs.Ytjeapcpicagobaa
open Go.RowKit
set_option linter.unusedVariables false
set_option linter.unusedSimpArgs false

set_option maxRecDepth 100000 in
set_option maxHeartbeats 16000000 in
theorem deep_1 (A : Option Addr) (N c k : Nat) (p : Nat) (r : List Int) (a b d : Int) (w0 : World) (hn : N ≤ 59) (h3 : 2 ≤ N) (hk : (k : Int) ≤ 255) (he : (k : Int) % ((N : Int) + 1) = 1) (hpj : p + 1 = N) (HL : Hid ((r ++ [a, b, d]).length = p + 1 + 1)) (HX : Hid ((r ++ [a, b, d]).getD p 0 = b)) (S0 : Hid (Row w0 A (N + 1) c (r ++ [a, b, d]))) :
    Calls Try.prog 6 #[.slice A (N + 1) c, .int .u8 (k : Int)] w0 fun e w' => e = .returned (.bool true) ∧ Below w0.heap.size w0 w' := by
  have q1 : decide ((60 : Int) < (N : Int) + 1) = false := by simp; omega
  have q2 : decide (60 < N + 1) = false := by simp; omega
  have q3 : decide ((N : Int) + 1 < 3) = false := by simp; omega
  have q4 : decide (N + 1 < 3) = false := by simp; omega
  have q5 : ((N : Int) + 1 == 0) = false := by simp; omega
  have hp : (N : Int) - 1 = (p : Int) := by omega
  have HPJ := Lib.hid hpj
  go_enter Try.func6, Try.ntmps6
  go_wp2_with fail
  refine (shown_any _).mono ?_
  rintro e w1 ⟨rfl, bb⟩
  have B1 := Lib.hid bb
  have S1 := Lib.hid (S0.out.keep bb)
  clear bb S0
  have tok1 : True := trivial
  go_wp2_with (first
    | (at_builtin; have _t := tok1; (refine wpList_app rfl _ _ rfl w1.heap.size (.slice (some ⟨w1.heap.size, 0, none⟩) 0 0) 0 [] rfl (none_owns w1) A (N + 1) c (r ++ [a, b, d]) rfl (S1.out.keep (below_one _ _)) (by omega) (by simp) w1 (below_one _ _) (Nat.le_refl _) ?_; intro va1 wqa ho b1; have HO := Lib.hid ho; have HB := Lib.hid b1; clear ho b1 tok1))
    | (at_builtin; (refine wpList_app rfl _ _ rfl w1.heap.size va1 (0 + (N + 1)) ([] ++ (r ++ [a, b, d])) rfl (HO.out.alloc _) (some ⟨wqa.heap.size, 0, none⟩) 1 1 [1] rfl (one_row wqa 1) (by omega) (by have := HB.out.size; simp; omega) w1 (below_then HB.out (below_one _ _)) (Nat.le_refl _) ?_; intro va2 w2 ho bb; rw [show 0 + (N + 1) + 1 = N + 2 by omega] at ho; (obtain ⟨Qa, yqa, rfl, hr⟩ := ho.row); have Q2 := Lib.hid hr; have B2 := Lib.hid (below_then B1.out bb); have S2 := Lib.hid (S1.out.keep bb); clear ho hr bb HO HB B1 S1)))
  skip
  refine (sh_out Qa (N + 2) yqa _ ([] ++ (r ++ [a, b, d]) ++ [1]) ((r ++ [a, b, d]) ++ [b]) 1000 (N + 2) _ (by omega) Q2 (Lib.hid (by rw [kind_PICK]; exact deep_pick (p := p) (j := 1) HL.out HX.out)) (Lib.hid (by have h := HL.out; have h2 := HPJ.out; have h3 : [b].length = 1 := rfl; show _ = _; rw [List.length_append, h]; omega)) (by omega)).mono ?_
  rintro e w3 ⟨X1, y1, rfl, hr, bb⟩
  have B3 := Lib.hid (below_then B2.out bb)
  have S3 := Lib.hid (S2.out.keep bb)
  have Q3 := Lib.hid (Q2.out.keep bb)
  have a3 := Lib.hid hr
  clear bb B2 S2 Q2 hr
  clear Q3
  have tok1 : True := trivial
  go_wp2_with (first
    | (at_builtin; have _t := tok1; (refine wpList_app rfl _ _ rfl w3.heap.size (.slice (some ⟨w3.heap.size, 0, none⟩) 0 0) 0 [] rfl (none_owns w3) A (N + 1) c (r ++ [a, b, d]) rfl (S3.out.keep (below_one _ _)) (by omega) (by simp) w3 (below_one _ _) (Nat.le_refl _) ?_; intro vb1 wqb ho b1; have HO := Lib.hid ho; have HB := Lib.hid b1; clear ho b1 tok1))
    | (at_builtin; (refine wpList_app rfl _ _ rfl w3.heap.size vb1 (0 + (N + 1)) ([] ++ (r ++ [a, b, d])) rfl (HO.out.alloc _) (some ⟨wqb.heap.size, 0, none⟩) 1 1 [1] rfl (one_row wqb 1) (by omega) (by have := HB.out.size; simp; omega) w3 (below_then HB.out (below_one _ _)) (Nat.le_refl _) ?_; intro vb2 w4 ho bb; rw [show 0 + (N + 1) + 1 = N + 2 by omega] at ho; (obtain ⟨Qb, yqb, rfl, hr⟩ := ho.row); have Q4 := Lib.hid hr; have B4 := Lib.hid (below_then B3.out bb); have S4 := Lib.hid (S3.out.keep bb); have a4 := Lib.hid (a3.out.keep bb); clear ho hr bb HO HB B3 S3 a3)))
  skip
  refine (sh_out Qb (N + 2) yqb _ ([] ++ (r ++ [a, b, d]) ++ [1]) (rollL (r ++ [a, b, d]) p b) 1000 (N + 1) _ (by omega) Q4 (Lib.hid (by rw [kind_ROLL]; exact deep_roll (p := p) (j := 1) HL.out HX.out)) (Lib.hid (by have h := rollL_len (p := p) (j := 1) (x := b) HL.out; have h2 := HPJ.out; show _ = _; exact h.trans (by omega))) (by omega)).mono ?_
  rintro e w5 ⟨X2, y2, rfl, hr, bb⟩
  have B5 := Lib.hid (below_then B4.out bb)
  have S5 := Lib.hid (S4.out.keep bb)
  have a5 := Lib.hid (a4.out.keep bb)
  have Q5 := Lib.hid (Q4.out.keep bb)
  have b5 := Lib.hid hr
  clear bb B4 S4 a4 Q4 hr
  clear Q5
  have ST : StrRow w5.heap.size [⟨#[68, 85, 80]⟩, ⟨#[]⟩, ⟨#[79, 86, 69, 82]⟩, ⟨#[83, 87, 65, 80]⟩, ⟨#[]⟩, ⟨#[82, 79, 84]⟩] (w5.alloc (.cells #[.string ⟨#[68, 85, 80]⟩, .string ⟨#[]⟩, .string ⟨#[79, 86, 69, 82]⟩, .string ⟨#[83, 87, 65, 80]⟩, .string ⟨#[]⟩, .string ⟨#[82, 79, 84]⟩] 47)) := by
    refine ⟨by simp, fun k s hk => ?_⟩
    rw [World.cell?_alloc_new]
    have e : (([⟨#[68, 85, 80]⟩, ⟨#[]⟩, ⟨#[79, 86, 69, 82]⟩, ⟨#[83, 87, 65, 80]⟩, ⟨#[]⟩, ⟨#[82, 79, 84]⟩] : List ByteArray).map Value.string)[k]? = some (.string s) := by rw [List.getElem?_map, hk]; rfl
    rw [← Array.getElem?_toList]
    exact e
  have HST := Lib.hid ST
  clear ST
  go_wp2_with fail
  refine (sh_out A (N + 1) c ⟨#[79, 86, 69, 82]⟩ (r ++ [a, b, d]) (r ++ [a, b, d, b]) 1000 (N + 2) _ (by omega) (Lib.hid (S5.out.keep (below_one _ _))) (Lib.hid (perm_on 2 [0, 1, 0] r [a, b, d] [a, b, d, b] (by simp) rfl)) (Lib.hid (by have h := HL.out; have h2 := HPJ.out; show _ = _; simp at h ⊢; omega)) (by omega)).mono ?_
  rintro e w6 ⟨X3, y3, rfl, hr, bb⟩
  have HT6 := Lib.hid (HST.out.keep bb)
  have kk := below_then (below_one w5 _) bb
  have B6 := Lib.hid (below_then B5.out kk)
  have S6 := Lib.hid (S5.out.keep kk)
  have a6 := Lib.hid (a5.out.keep kk)
  have b6 := Lib.hid (b5.out.keep kk)
  have p6 := Lib.hid hr
  clear bb kk B5 S5 a5 b5 hr
  have kc0 := HT6.out.2 2 _ rfl
  have kc1 := HT6.out.2 3 _ rfl
  go_wp2_with fail
  refine (sh_out A (N + 1) c ⟨#[83, 87, 65, 80]⟩ (r ++ [a, b, d]) (r ++ [a, d, b]) 1000 (N + 1) _ (by omega) S6 (Lib.hid (perm_on 2 [1, 0] r [a, b, d] [a, d, b] (by simp) rfl)) (Lib.hid (by have h := HL.out; have h2 := HPJ.out; show _ = _; simp at h ⊢; omega)) (by omega)).mono ?_
  rintro e w7 ⟨X4, y4, rfl, hr, bb⟩
  have HT7 := Lib.hid (HT6.out.keep bb)
  have B7 := Lib.hid (below_then B6.out bb)
  have S7 := Lib.hid (S6.out.keep bb)
  have a7 := Lib.hid (a6.out.keep bb)
  have b7 := Lib.hid (b6.out.keep bb)
  have p7 := Lib.hid (p6.out.keep bb)
  have q7 := Lib.hid hr
  clear bb B6 S6 a6 b6 p6 hr
  clear kc0 kc1 HT6
  have kc0 := HT7.out.2 2 _ rfl
  have kc1 := HT7.out.2 3 _ rfl
  go_wp2_with fail
  refine (same_true X1 X3 (N + 2) y1 (N + 2) y3 ((r ++ [a, b, d]) ++ [b]) (r ++ [a, b, d, b]) _ (by omega) (by omega) a7 p7 (Lib.hid (by show _ = _; simp))).mono ?_
  rintro e w8 ⟨rfl, bb⟩
  have HT8 := Lib.hid (HT7.out.keep bb)
  have B8 := Lib.hid (below_then B7.out bb)
  have S8 := Lib.hid (S7.out.keep bb)
  have a8 := Lib.hid (a7.out.keep bb)
  have b8 := Lib.hid (b7.out.keep bb)
  have p8 := Lib.hid (p7.out.keep bb)
  have q8 := Lib.hid (q7.out.keep bb)
  clear bb B7 S7 a7 b7 p7 q7
  clear kc0 kc1 HT7
  have kc0 := HT8.out.2 2 _ rfl
  have kc1 := HT8.out.2 3 _ rfl
  go_wp2_with fail
  refine (same_true X2 X4 (N + 1) y2 (N + 1) y4 (rollL (r ++ [a, b, d]) p b) (r ++ [a, d, b]) _ (by omega) (by omega) b8 q8 (Lib.hid (roll1 HL.out))).mono ?_
  rintro e w9 ⟨rfl, bb⟩
  have HT9 := Lib.hid (HT8.out.keep bb)
  have B9 := Lib.hid (below_then B8.out bb)
  have S9 := Lib.hid (S8.out.keep bb)
  have a9 := Lib.hid (a8.out.keep bb)
  have b9 := Lib.hid (b8.out.keep bb)
  have p9 := Lib.hid (p8.out.keep bb)
  have q9 := Lib.hid (q8.out.keep bb)
  clear bb B8 S8 a8 b8 p8 q8
  clear kc0 kc1 HT8
  have kc0 := HT9.out.2 2 _ rfl
  have kc1 := HT9.out.2 3 _ rfl
  obtain ⟨ga, oa, hXa, hga, hca⟩ := a9.out.cells (by omega)
  obtain ⟨gb, ob, hXb, hgb, hcb⟩ := b9.out.cells (by omega)
  obtain ⟨gs, os, hXs, hgs, hcs⟩ := S9.out.cells (by omega)
  have ka := hca (N + 1) (by omega)
  have kb := hcb N (by omega)
  have ks := hcs p (by omega)
  rw [show ((r ++ [a, b, d]) ++ [b]).getD (N + 1) 0 = b by have z := getD_app (r ++ [a, b, d]) [b] 0; have h := HL.out; have h2 := HPJ.out; rw [show N + 1 = (r ++ [a, b, d]).length + 0 by omega]; exact z] at ka
  rw [show (rollL (r ++ [a, b, d]) p b).getD N 0 = b by have z := rollL_top (p := p) (j := 1) (x := b) HL.out; have h2 := HPJ.out; rwa [h2] at z] at kb
  rw [HX.out] at ks
  have ya := a9.out.2.1
  have ya2 := a9.out.2.2.1
  have yb := b9.out.2.1
  have yb2 := b9.out.2.2.1
  have yc := S9.out.2.1
  have yc2 := S9.out.2.2.1
  unfold maxLen at ya2 yb2 yc2
  have T0 := Lib.hid S9.out
  have T1 : Hid (Row w9 X1 (N + 1) y1 (r ++ [a, b, d])) := by
    have z := a9.out.high (k := N + 1) (by omega)
    rwa [show ((r ++ [a, b, d]) ++ [b]).take (N + 1) = (r ++ [a, b, d]) by have h := HL.out; have h2 := HPJ.out; rw [List.take_append_of_le_length (by omega), List.take_of_length_le (by omega)]] at z
  have T2 : Hid (Row w9 X2 p y2 ((r ++ [a, b, d]).take p)) := by
    have z := b9.out.high (k := p) (by omega)
    rwa [rollL_low (p := p) (j := 1) HL.out] at z
  have T3 : Hid (Row w9 A p c ((r ++ [a, b, d]).take p)) := S9.out.high (by omega)
  have T4 : Hid (Row w9 (restAt X2 p y2) 1 (y2 - p) ((r ++ [a, b, d]).drop (p + 1))) := by
    have z := (b9.out.rest (k := p) (by omega)).high (k := 1) (by omega)
    rwa [rollL_mid (p := p) (j := 1) HL.out] at z
  have T5 : Hid (Row w9 (restAt A (p + 1) c) 1 (c - (p + 1)) ((r ++ [a, b, d]).drop (p + 1))) := by
    have z := S9.out.rest (k := p + 1) (by omega)
    rwa [show N + 1 - (p + 1) = 1 by omega] at z
  have hs1 : ∀ w, (Instr.slice 22 (.slice X2 (N + 1) y2) (some (.int .i64 (p : Int))) (some (.int .i64 (N : Int))) none).run Try.prog w = .ok (.slice (restAt X2 p y2) 1 (y2 - p)) w := fun w => run_mid w hXb hpj (by omega)
  have hs2 : ∀ w, (Instr.slice 22 (.slice A (N + 1) c) (some (.int .i64 ((p : Int) + 1))) none none).run Try.prog w = .ok (.slice (restAt A (p + 1) c) 1 (c - (p + 1))) w := fun w => by
    have z := run_rest (A := A) (c := c) w (show p + 1 ≤ N + 1 by omega)
    rwa [show N + 1 - (p + 1) = 1 by omega] at z
  obtain ⟨Z4, hZ4⟩ : ∃ Z, restAt X2 p y2 = Z := ⟨_, rfl⟩
  obtain ⟨z4, hz4⟩ : ∃ z, y2 - p = z := ⟨_, rfl⟩
  obtain ⟨Z5, hZ5⟩ : ∃ Z, restAt A (p + 1) c = Z := ⟨_, rfl⟩
  obtain ⟨z5, hz5⟩ : ∃ z, c - (p + 1) = z := ⟨_, rfl⟩
  rw [hZ4, hz4] at T4 hs1
  rw [hZ5, hz5] at T5 hs2
  clear hZ4 hz4 hZ5 hz5
  have g1 : N + 1 ≤ 50000 := by omega
  have g2 : p ≤ 50000 := by omega
  have g3 : 1 ≤ 50000 := by omega
  have f1 : (N : Int) + 1 ≤ (y1 : Int) := by omega
  have f2 : (p : Int) ≤ (y2 : Int) := by omega
  have f3 : (p : Int) ≤ (c : Int) := by omega
  have f4 : (N : Int) + 1 < (N : Int) + 2 := by omega
  have f5 : (p : Int) < (N : Int) + 1 := by omega
  have f6 : (N : Int) < (N : Int) + 1 := by omega
  have f7 : IntKind.i64.wrap (N : Int) = (N : Int) := IntWalk.i64_in _ (by omega)
  have f8 : IntKind.i64.wrap ((p : Int) + 1) = (p : Int) + 1 := IntWalk.i64_in _ (by omega)
  have f9 : (0 : Int) ≤ (p : Int) + 1 := by omega
  have f10 : (0 : Int) ≤ (N : Int) + 1 := by omega
  have f11 : ((N : Int) + 1).toNat = N + 1 := by omega
  have SD : Hid (∀ u1, (u1.cell? ⟨ga, oa + (N + 1), none⟩ = some (.int .i64 b) ∧ u1.cell? ⟨gb, ob + N, none⟩ = some (.int .i64 b) ∧ u1.cell? ⟨gs, os + p, none⟩ = some (.int .i64 b) ∧ Since w9 u1) → (u1.drew.cell? ⟨ga, oa + (N + 1), none⟩ = some (.int .i64 b) ∧ u1.drew.cell? ⟨gb, ob + N, none⟩ = some (.int .i64 b) ∧ u1.drew.cell? ⟨gs, os + p, none⟩ = some (.int .i64 b) ∧ Since w9 u1.drew)) := Lib.hid fun u1 h => ⟨h.1, h.2.1, h.2.2.1, h.2.2.2.drew⟩
  have SA : Hid (∀ u1 u2, (u1.cell? ⟨ga, oa + (N + 1), none⟩ = some (.int .i64 b) ∧ u1.cell? ⟨gb, ob + N, none⟩ = some (.int .i64 b) ∧ u1.cell? ⟨gs, os + p, none⟩ = some (.int .i64 b) ∧ Since w9 u1) → Below u1.heap.size u1 u2 → (u2.cell? ⟨ga, oa + (N + 1), none⟩ = some (.int .i64 b) ∧ u2.cell? ⟨gb, ob + N, none⟩ = some (.int .i64 b) ∧ u2.cell? ⟨gs, os + p, none⟩ = some (.int .i64 b) ∧ Since w9 u2)) := Lib.hid fun u1 u2 h k => ⟨(h.2.2.2.then k).cell hga ka, (h.2.2.2.then k).cell hgb kb, (h.2.2.2.then k).cell hgs ks, h.2.2.2.then k⟩
  have HS : Hid (w9.cell? ⟨ga, oa + (N + 1), none⟩ = some (.int .i64 b) ∧ w9.cell? ⟨gb, ob + N, none⟩ = some (.int .i64 b) ∧ w9.cell? ⟨gs, os + p, none⟩ = some (.int .i64 b) ∧ Since w9 w9) := Lib.hid ⟨ka, kb, ks, Below.refl _ _⟩
  subst hXa hXb hXs
  clear hca hcb hcs ka kb ks hga hgb hgs ya ya2 yb yb2 yc yc2 a9 b9 S9
  clear p9
  clear q9
  go_wp2_with fail
  clear kc0 kc1 HT9
  refine wp_region_noPanic ?_
  go_region_held3 (fun u1 => u1.cell? ⟨ga, oa + (N + 1), none⟩ = some (.int .i64 b) ∧ u1.cell? ⟨gb, ob + N, none⟩ = some (.int .i64 b) ∧ u1.cell? ⟨gs, os + p, none⟩ = some (.int .i64 b) ∧ Since w9 u1) (first | assumption | exact SD.out _ HS.out | exact SD.out _ (SA.out _ _ HS.out (below_one _ _)))
    (first
      | (go_at_call 13; have s4 : (_ ∧ _ ∧ _ ∧ Since w9 _) := (by assumption); first
        | ((with_reducible refine (same_true _ _ (N + 1) y1 (N + 1) c _ _ _ g1 g1 (Lib.hid (T1.out.keep s4.2.2.2.bel)) (Lib.hid (T0.out.keep s4.2.2.2.bel)) (Lib.hid rfl)).mono ?_); rintro e wz ⟨rfl, b5⟩; have s5 := SA.out _ _ s4 b5; clear s4)
        | ((with_reducible refine (same_true _ _ p y2 p c _ _ _ g2 g2 (Lib.hid (T2.out.keep s4.2.2.2.bel)) (Lib.hid (T3.out.keep s4.2.2.2.bel)) (Lib.hid rfl)).mono ?_); rintro e wz ⟨rfl, b5⟩; have s5 := SA.out _ _ s4 b5; clear s4)
        | ((with_reducible refine (same_true _ _ 1 z4 1 z5 _ _ _ g3 g3 (Lib.hid (T4.out.keep s4.2.2.2.bel)) (Lib.hid (T5.out.keep s4.2.2.2.bel)) (Lib.hid rfl)).mono ?_); rintro e wz ⟨rfl, b5⟩; have s5 := SA.out _ _ s4 b5; clear s4)))
  all_goals (refine NoPanic.normal ?_)
  all_goals go_wp2
  all_goals go_ret
  all_goals exact ⟨rfl, below_then B9.out s5.2.2.2⟩
end Go.Proofs.Ytjeapcpicagobaa
