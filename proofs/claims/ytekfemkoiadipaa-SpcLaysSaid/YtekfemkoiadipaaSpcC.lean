/- Contracts of Comma and AlignUp of package spc, and of the document's Allot, Comma and AlignUp. -/
import Derived.Test.YtekfemkoiadipaaSpcB
import Derived.Deep.RegionHeld3
namespace Go.Proofs.Ytekfemkoiadipaa
open Go.RowKit
set_option linter.unusedVariables false
set_option linter.unusedSimpArgs false

set_option maxRecDepth 100000 in
set_option maxHeartbeats 1000000 in
theorem rallot_at (A P : Option Addr) (L c K d : Nat) (low p n : Int) (w : World) (hL : L ≤ 65536) (hp : endB L p = true) (hl : endB L low = true) :
    Calls Try.prog 12 #[.agg #[.slice A L c, .slice P K d], .int .i64 low, .int .i64 p, .int .i64 n] w fun e w' => e = .returned (.tuple #[.int .i64 (movP L low p n), .int .i64 (movC L low p n)]) ∧ Below w.heap.size w w' := by
  obtain ⟨p0, p1⟩ := (endB_iff _ _).1 hp
  obtain ⟨l0, l1⟩ := (endB_iff _ _).1 hl
  clear hp hl
  by_cases h0 : 0 ≤ n
  · have h0' : decide (n < 0) = false := by simp; omega
    by_cases h1 : (L : Int) - p < n
    · have HE : Hid (movB L low p n = false) := (movB_no _ _ _ _).2 (by omega)
      go_enter Try.func12, Try.ntmps12
      go_wp2
      go_ret2
      exact ⟨ret_two (movP_no HE.out).symm (movC_no HE.out).symm, (Below.refl _ _).alloc (Nat.le_refl _) _⟩
    · have h1' : decide ((L : Int) - p < n) = false := by simp; omega
      have h3 : 0 ≤ p + n := by omega
      have h4 : p + n ≤ 65536 := by omega
      by_cases h2 : p + n < low
      · have HE : Hid (movB L low p n = false) := (movB_no _ _ _ _).2 (by omega)
        clear h1
        go_enter Try.func12, Try.ntmps12
        go_wp2
        go_ret2
        exact ⟨ret_two (movP_no HE.out).symm (movC_no HE.out).symm, (Below.refl _ _).alloc (Nat.le_refl _) _⟩
      · have HE : Hid (movB L low p n = true) := (movB_iff _ _ _ _).2 (by omega)
        have h2' : decide (p + n < low) = false := by simp; omega
        clear h1 h2
        go_enter Try.func12, Try.ntmps12
        go_wp2
        go_ret2
        exact ⟨ret_two (movP_yes HE.out).symm (movC_yes HE.out).symm, (Below.refl _ _).alloc (Nat.le_refl _) _⟩
  · have h0' : decide (0 ≤ n) = false := by simp; omega
    have h5 : n < 0 := by omega
    clear h0
    by_cases h1 : n < low - p
    · have HE : Hid (movB L low p n = false) := (movB_no _ _ _ _).2 (by omega)
      go_enter Try.func12, Try.ntmps12
      go_wp2
      go_ret2
      exact ⟨ret_two (movP_no HE.out).symm (movC_no HE.out).symm, (Below.refl _ _).alloc (Nat.le_refl _) _⟩
    · have HE : Hid (movB L low p n = true) := (movB_iff _ _ _ _).2 (by omega)
      have h1' : decide (n < low - p) = false := by simp; omega
      have h3 : 0 ≤ p + n := by omega
      have h4 : p + n ≤ 65536 := by omega
      clear h1
      go_enter Try.func12, Try.ntmps12
      go_wp2
      go_ret2
      exact ⟨ret_two (movP_yes HE.out).symm (movC_yes HE.out).symm, (Below.refl _ _).alloc (Nat.le_refl _) _⟩

theorem comM_yes {m : PM} {p n : Int} (h : p % 8 = 0) : comM m p n = layM m p (cellBytes n) := by unfold comM; rw [if_pos h]
theorem comM_no {m : PM} {p n : Int} (h : p % 8 ≠ 0) : comM m p n = m := by unfold comM; rw [if_neg h]
theorem comP_yes {L : Nat} {p : Int} (h : p % 8 = 0) : comP L p = layP L p 8 := by unfold comP; rw [if_pos h]
theorem comP_no {L : Nat} {p : Int} (h : p % 8 ≠ 0) : comP L p = p := by unfold comP; rw [if_neg h]
theorem comC_yes {L : Nat} {p : Int} (h : p % 8 = 0) : comC L p = layC L p 8 := by unfold comC; rw [if_pos h]
theorem comC_no {L : Nat} {p : Int} (h : p % 8 ≠ 0) : comC L p = -23 := by unfold comC; rw [if_neg h]
theorem mis_no {p : Int} (h : p % 8 = 0) : ((misN p : Int) != 0) = false := by rw [misN_int]; simp; omega
theorem mis_yes {p : Int} (h : p % 8 ≠ 0) : ((misN p : Int) != 0) = true := by rw [misN_int]; simp; omega

set_option maxRecDepth 100000 in
set_option maxHeartbeats 2000000 in
theorem comma_at (A P : Option Addr) (L c K d : Nat) (m : PM) (p n : Int) (w : World) (HM : Hid (IsMem w (.agg #[.slice A L c, .slice P K d]) m)) (hL : L ≤ 65536) (hK : K < 1000) (hp : endB L p = true) :
    Calls Try.prog 15 #[.agg #[.slice A L c, .slice P K d], .int .i64 p, .int .i64 n] w fun e w' => ∃ A' L' c' P' K' d', e = .returned (.tuple #[.agg #[.slice A' L' c', .slice P' K' d'], .int .i64 (comP L p), .int .i64 (comC L p)]) ∧ IsMem w' (.agg #[.slice A' L' c', .slice P' K' d']) (comM m p n) ∧ Below w.heap.size w w' := by
  obtain ⟨p0, p1⟩ := (endB_iff _ _).1 hp
  have p2 : p ≤ 65536 := by omega
  by_cases h8 : p % 8 = 0
  · have HZ := Lib.hid (mis_no h8)
    rw [comP_yes h8, comC_yes h8, comM_yes h8]
    obtain ⟨E, hE⟩ : ∃ x, layP L p 8 = x := ⟨_, rfl⟩
    obtain ⟨C, hC⟩ : ∃ x, layC L p 8 = x := ⟨_, rfl⟩
    have CW : Hid (∀ (w1 : World) (B : Option Addr) (k e : Nat), IsMem w1 (.agg #[.slice A L c, .slice P K d]) m → Byt w1 (.slice B k e) (cellBytes n) → Calls Try.prog 13 #[.agg #[.slice A L c, .slice P K d], .int .i64 p, .slice B k e] w1 fun e w' => ∃ A' L' c' P' K' d', e = .returned (.tuple #[.agg #[.slice A' L' c', .slice P' K' d'], .int .i64 E, .int .i64 C]) ∧ IsMem w' (.agg #[.slice A' L' c', .slice P' K' d']) (layM m p (cellBytes n)) ∧ Below w1.heap.size w1 w') := by
      intro w1 B k e hm hb
      have h8 : (8 : Nat) = k := hb.len
      subst h8
      have := lay_at A P B L c K d 8 e m (cellBytes n) p w1 hm hb hL hK hp (by omega)
      rw [hE, hC] at this
      exact this
    rw [hE, hC]
    clear hE hC h8 hp
    go_enter Try.func15, Try.ntmps15
    go_wp2_with fail
    refine (missing_any _ _ p0 p2).mono ?_
    rintro e w1 ⟨rfl, b1⟩
    have hz := HZ.out
    have F1 := fr_two b1
    clear b1
    go_wp2_with fail
    refine wp_region_noPanic ?_
    go_region_held (fun w' => w'.cell? ⟨w.heap.size, 0, none⟩ = some (.slice A L c) ∧ w'.cell? ⟨w.heap.size, 1, none⟩ = some (.slice P K d) ∧ Fw w A P L c K d w') (first | assumption | exact fwS F1.drew | exact fwP (by assumption) _ _ _ _ _ _)
      (first | (go_at_call 27; ((with_reducible refine (put_byt _ _).mono ?_); rintro e w2 ⟨B, k, e', rfl, hu2, b2⟩; have s2 := fwK (by assumption) b2)) | (go_at_call 13; ((with_reducible refine (CW.out _ _ _ _ (HM.out.keep s2.2.2.bel) hu2).mono ?_); rintro e w3 ⟨A', L', c', P', K', d', rfl, hm3, b3⟩; have s3 := fwK (by assumption) b3; obtain ⟨A0, n0, c0, P0, k0, d0, hres⟩ := s3.2.2.res; obtain ⟨q2, q3, q4, q5⟩ := hres.use)))
    all_goals (refine NoPanic.normal ?_)
    all_goals go_wp2
    all_goals refine bodyPost_ret (v := .tuple #[.agg #[.slice A' L' c', .slice P' K' d'], .int .i64 E, .int .i64 C]) ?_ rfl ?_
    · obtain ⟨r0, r1⟩ := hres.got (.slice A' L' c') (.slice P' K' d')
      simp [results, Try.results15, go_sem, r0, r1]
    · exact ⟨_, _, _, _, _, _, rfl, hm3.row hres (row_put _ _ _ _), (s3.2.2.bel.setCell (by simp) _).setCell (by simp) _⟩
  · have HZ := Lib.hid (mis_yes h8)
    rw [comP_no h8, comC_no h8, comM_no h8]
    clear h8 hp
    go_enter Try.func15, Try.ntmps15
    go_wp2_with fail
    refine (missing_any _ _ p0 p2).mono ?_
    rintro e w1 ⟨rfl, b1⟩
    have hz := HZ.out
    have F1 := Lib.hid (fr_two b1)
    obtain ⟨q0, q1, _, _⟩ := (fr_two b1).2.1.use
    obtain ⟨q2, q3, q4, q5⟩ := (fr_two b1).2.2.use
    clear b1
    go_wp2_with fail
    refine bodyPost_ret (v := .tuple #[.agg #[.slice A L c, .slice P K d], .int .i64 p, .int .i64 (-23)]) ?_ rfl ?_
    · obtain ⟨r0, r1⟩ := F1.out.2.2.got (.slice A L c) (.slice P K d)
      simp [results, Try.results15, go_sem, r0, r1]
    · exact ⟨_, _, _, _, _, _, rfl, F1.out.mem (HM.out.keep F1.out.bel) _ _, F1.out.put _ _⟩

set_option maxRecDepth 100000 in
set_option maxHeartbeats 2000000 in
theorem rcomma_at (A P : Option Addr) (L c K d : Nat) (m : PM) (p n : Int) (w : World) (HM : Hid (IsMem w (.agg #[.slice A L c, .slice P K d]) m)) (hL : L ≤ 65536) (hK : K < 1000) (hp : endB L p = true) :
    Calls Try.prog 16 #[.agg #[.slice A L c, .slice P K d], .int .i64 p, .int .i64 n] w fun e w' => ∃ A' L' c' P' K' d', e = .returned (.tuple #[.agg #[.slice A' L' c', .slice P' K' d'], .int .i64 (comP L p), .int .i64 (comC L p)]) ∧ IsMem w' (.agg #[.slice A' L' c', .slice P' K' d']) (comM m p n) ∧ Below w.heap.size w w' := by
  obtain ⟨p0, p1⟩ := (endB_iff _ _).1 hp
  have p2 : p ≤ 65536 := by omega
  by_cases h8 : p % 8 = 0
  · have hz : (p % 8 != 0) = false := by simp [h8]
    rw [comP_yes h8, comC_yes h8, comM_yes h8]
    obtain ⟨E, hE⟩ : ∃ x, layP L p 8 = x := ⟨_, rfl⟩
    obtain ⟨C, hC⟩ : ∃ x, layC L p 8 = x := ⟨_, rfl⟩
    have CW : Hid (∀ (w1 : World) (B : Option Addr) (k e : Nat), IsMem w1 (.agg #[.slice A L c, .slice P K d]) m → Byt w1 (.slice B k e) (cellBytes n) → Calls Try.prog 14 #[.agg #[.slice A L c, .slice P K d], .int .i64 p, .slice B k e] w1 fun e w' => ∃ A' L' c' P' K' d', e = .returned (.tuple #[.agg #[.slice A' L' c', .slice P' K' d'], .int .i64 E, .int .i64 C]) ∧ IsMem w' (.agg #[.slice A' L' c', .slice P' K' d']) (layM m p (cellBytes n)) ∧ Below w1.heap.size w1 w') := by
      intro w1 B k e hm hb
      have h8 : (8 : Nat) = k := hb.len
      subst h8
      have := rlay_at A P B L c K d 8 e m (cellBytes n) p w1 hm hb hL hK hp (by omega)
      rw [hE, hC] at this
      exact this
    rw [hE, hC]
    have F1 := fr_new w A P L c K d
    clear hE hC h8 hp
    go_enter Try.func16, Try.ntmps16
    go_wp2_with fail
    refine wp_region_noPanic ?_
    go_region_held (fun w' => w'.cell? ⟨w.heap.size, 0, none⟩ = some (.slice A L c) ∧ w'.cell? ⟨w.heap.size, 1, none⟩ = some (.slice P K d) ∧ Fw w A P L c K d w') (first | assumption | exact fwS F1.drew | exact fwP (by assumption) _ _ _ _ _ _)
      (first | (go_at_call 28; ((with_reducible refine (rput_byt _ _).mono ?_); rintro e w2 ⟨B, k, e', rfl, hu2, b2⟩; have s2 := fwK (by assumption) b2)) | (go_at_call 14; ((with_reducible refine (CW.out _ _ _ _ (HM.out.keep s2.2.2.bel) hu2).mono ?_); rintro e w3 ⟨A', L', c', P', K', d', rfl, hm3, b3⟩; have s3 := fwK (by assumption) b3; obtain ⟨A0, n0, c0, P0, k0, d0, hres⟩ := s3.2.2.res; obtain ⟨q2, q3, q4, q5⟩ := hres.use)))
    all_goals (refine NoPanic.normal ?_)
    all_goals go_wp2
    all_goals refine bodyPost_ret (v := .tuple #[.agg #[.slice A' L' c', .slice P' K' d'], .int .i64 E, .int .i64 C]) ?_ rfl ?_
    · obtain ⟨r0, r1⟩ := hres.got (.slice A' L' c') (.slice P' K' d')
      simp [results, Try.results16, go_sem, r0, r1]
    · exact ⟨_, _, _, _, _, _, rfl, hm3.row hres (row_put _ _ _ _), (s3.2.2.bel.setCell (by simp) _).setCell (by simp) _⟩
  · have hz : (p % 8 != 0) = true := by simp [h8]
    rw [comP_no h8, comC_no h8, comM_no h8]
    have F1 := Lib.hid (fr_new w A P L c K d)
    obtain ⟨q0, q1, _, _⟩ := F1.out.2.1.use
    obtain ⟨q2, q3, q4, q5⟩ := F1.out.2.2.use
    clear h8 hp
    go_enter Try.func16, Try.ntmps16
    go_wp2_with fail
    refine bodyPost_ret (v := .tuple #[.agg #[.slice A L c, .slice P K d], .int .i64 p, .int .i64 (-23)]) ?_ rfl ?_
    · obtain ⟨r0, r1⟩ := F1.out.2.2.got (.slice A L c) (.slice P K d)
      simp [results, Try.results16, go_sem, r0, r1]
    · have b : Below w.heap.size w ((w.alloc (.cells #[.slice A L c, .slice P K d] 25)).alloc (.cells #[.slice A L c, .slice P K d] 25)) := ((Below.refl _ w).alloc (Nat.le_refl _) _).alloc (by simp) _
      exact ⟨_, _, _, _, _, _, rfl, HM.out.keep b, b⟩
end Go.Proofs.Ytekfemkoiadipaa
