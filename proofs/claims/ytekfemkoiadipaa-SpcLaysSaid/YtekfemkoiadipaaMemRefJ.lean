/- The document's own Same. -/
import Derived.Test.YtekfemkoiadipaaMemSameB
namespace Go.Proofs.Ytekfemkoiadipaa
open Go.RowKit

theorem R2.drewN {w w1 : World} {A P A' P' : Option Addr} {L c K d L' c' K' d' : Nat} (h : R2 w A P A' P' L c K d L' c' K' d' w1) (i : Nat) : R2 w A P A' P' L c K d L' c' K' d' (w1.drewN i) := ⟨h.1.trans (Go.Joins.below_draws _ _ _), h.2.1, h.2.2⟩
theorem str_neq {a b : ByteArray} (h : a ≠ b) : (a.toList != b.toList) = true := by rw [bne, str_ne h]; rfl
theorem Byt.drewN {w : World} {v : Value} {l : List UInt8} (h : Byt w v l) (i : Nat) : Byt (w.drewN i) v l := h

set_option maxRecDepth 100000 in
set_option maxHeartbeats 4000000 in
theorem rsame_at (A P A' P' : Option Addr) (L c K d L' c' K' d' : Nat) (m o : PM) (w : World) (HM : Hid (IsMem w (.agg #[.slice A L c, .slice P K d]) m)) (HO : Hid (IsMem w (.agg #[.slice A' L' c', .slice P' K' d']) o)) :
    Calls Try.prog 19 #[.agg #[.slice A L c, .slice P K d], .agg #[.slice A' L' c', .slice P' K' d']] w fun e w' => e = .returned (.bool (decide (m = o))) ∧ Below w.heap.size w w' := by
  have R0 := Lib.hid (r2_new w A P A' P' L c K d L' c' K' d')
  have hk1 := HM.out.big.2
  have hk2 := HO.out.big.2
  unfold maxLen at hk1 hk2
  have c1 := (HM.out.keep R0.out.bel).byt.conv
  have c2 := (HO.out.keep R0.out.bel).byt.conv
  have hz1 : w.heap.size < w.heap.size + 1 := by omega
  obtain ⟨R, hR⟩ : ∃ R, decide (m = o) = R := ⟨_, rfl⟩
  rw [hR]
  have HR := Lib.hid hR
  clear hR
  by_cases h1 : m.1 = o.1
  · rw [h1] at c1
    obtain ⟨s, hs⟩ : ∃ s, strB o.1 = s := ⟨_, rfl⟩
    rw [hs] at c1 c2
    have HR2 : Hid (R = decide (m.2 = o.2)) := by rw [← HR.out, pm_eq, decide_eq_true h1]; rfl
    clear hs
    by_cases hK : K = K'
    · subst hK
      have hKK : ((K : Int) != (K : Int)) = false := by simp
      clear h1
      go_enter Try.func19, Try.ntmps19
      go_wp2
      clear c1 c2
      go_loopw [5] (fun i wr => ∃ j : Nat, j ≤ K ∧ i = .int .i64 (j : Int) ∧ Hid (m.2.take j = o.2.take j) ∧ R2 w A P A' P' L c K d L' c' K d' wr) (fun i _ => K - (intOf i).toNat)
      case atStart => exact ⟨0, Nat.zero_le _, rfl, by simp [Hid], R0.out⟩
      case round =>
        obtain ⟨j, hj, rfl, hall, hr2⟩ := hrel
        by_cases hlt : j < K
        · obtain ⟨g, o1, B, n, e, p, rfl, hg, hp, hc1, hc2, hby, hn, hKd⟩ := mem_patch HM.out hlt
          obtain ⟨g', o1', B', n', e', p', rfl, hg', hp', hc1', hc2', hby', hn', hKd'⟩ := mem_patch HO.out hlt
          have d1 : wr.cell? ⟨g, o1 + j * 2, none⟩ = some (.int .i64 p.1) := (hr2.bel.cell (p := ⟨g, o1 + j * 2, none⟩) hg).trans hc1
          have d2 : wr.cell? ⟨g, o1 + j * 2 + 1, none⟩ = some (.slice B n e) := (hr2.bel.cell (p := ⟨g, o1 + j * 2 + 1, none⟩) hg).trans hc2
          have d3 : wr.cell? ⟨g', o1' + j * 2, none⟩ = some (.int .i64 p'.1) := (hr2.bel.cell (p := ⟨g', o1' + j * 2, none⟩) hg').trans hc1'
          have d4 : wr.cell? ⟨g', o1' + j * 2 + 1, none⟩ = some (.slice B' n' e') := (hr2.bel.cell (p := ⟨g', o1' + j * 2 + 1, none⟩) hg').trans hc2'
          obtain ⟨q0, q1, _, _⟩ := hr2.one.use
          obtain ⟨q2, q3, _, _⟩ := hr2.two.use
          have v1 := fun i => ((hby.keep hr2.bel).drewN i).conv
          have v2 := fun i => ((hby'.keep hr2.bel).drewN i).conv
          have HP := Lib.hid hp
          have HP' := Lib.hid hp'
          have HRR := Lib.hid hr2
          have hji : (j : Int) < (K : Int) := by omega
          obtain ⟨a1, ha1⟩ : ∃ a1, p.1 = a1 := ⟨_, rfl⟩
          obtain ⟨a2, ha2⟩ : ∃ a2, p'.1 = a2 := ⟨_, rfl⟩
          rw [ha1] at d1
          rw [ha2] at d3
          have HA1 := Lib.hid ha1
          have HA2 := Lib.hid ha2
          clear hby hby' hp hp' hc1 hc2 hc1' hc2' hr2 ha1 ha2
          by_cases ha : a1 = a2
          · subst ha
            have hab : (a1 != a1) = false := by simp
            by_cases hs : p.2 = p'.2
            · rw [hs] at v1
              generalize strB p'.2 = t at v1 v2
              go_wp2_with fail
              go_quiet (fail)
              have HA : Hid (m.2.take (j + 1) = o.2.take (j + 1)) := take_eq_step hall.out HP.out HP'.out (by
                obtain ⟨x, y⟩ := p
                obtain ⟨x', y'⟩ := p'
                have h1 := HA1.out
                have h2 := HA2.out
                simp only at h1 h2
                simp only at hs
                rw [h1, h2, hs])
              have HF := fun i => HRR.out.drewN i
              have HFF := Lib.hid HF
              clear HF v1 v2 d1 d2 d3 d4 q0 q1 q2 q3
              go_wp2
              go_roundw
              case rel => exact ⟨j + 1, by omega, by go_num, HA.out, HFF.out _⟩
              case measure => simp [intOf]; omega
            · have HA : Hid (R = false) := by
                rw [HR2.out, decide_eq_false_iff_not]
                intro e
                have x1 := HP.out
                rw [e, HP'.out] at x1
                injection x1 with x1
                rw [x1] at hs
                exact hs rfl
              have hne : strB p.2 ≠ strB p'.2 := fun h => hs (strB_inj h)
              generalize strB p.2 = t1 at v1 hne
              generalize strB p'.2 = t2 at v2 hne
              have hne' := str_neq hne
              have hne2 := str_ne hne
              clear hs hne
              go_wp2_with fail
              go_quiet (fail)
              have HF := fun i => HRR.out.drewN i
              have HFF := Lib.hid HF
              clear HF v1 v2 d1 d2 d3 d4 q0 q1 q2 q3
              go_wp2
              go_ret
              exact ⟨ret_bool HA.out.symm, (HFF.out _).bel⟩
          · have hab : (a1 != a2) = true := by simp [ha]
            have HA : Hid (R = false) := by
              rw [HR2.out, decide_eq_false_iff_not]
              intro e
              have x1 := HP.out
              rw [e, HP'.out] at x1
              injection x1 with x1
              rw [x1] at HA2
              exact ha (HA1.out.symm.trans HA2.out)
            clear ha
            go_wp2_with fail
            go_quiet (fail)
            have HF := fun i => HRR.out.drewN i
            have HFF := Lib.hid HF
            clear HF v1 v2 d1 d2 d3 d4 q0 q1 q2 q3
            go_wp2
            go_ret
            exact ⟨ret_bool HA.out.symm, (HFF.out _).bel⟩
        · have hjk : j = K := by omega
          subst hjk
          have HA : Hid (R = true) := by
            have x1 := HM.out.len2
            have x2 := HO.out.len2
            have x3 := hall.out
            rw [List.take_of_length_le (by omega), List.take_of_length_le (by omega)] at x3
            rw [HR2.out, decide_eq_true x3]
            rfl
          obtain ⟨q0, q1, _, _⟩ := hr2.one.use
          have HRR := Lib.hid hr2
          clear hr2
          go_wp2
          go_ret
          exact ⟨ret_bool HA.out.symm, HRR.out.bel⟩
    · have HA : Hid (R = false) := by
        rw [HR2.out, decide_eq_false_iff_not]
        intro e
        have x1 := HM.out.len2
        have x2 := HO.out.len2
        rw [e] at x1
        omega
      have hKK : ((K : Int) != (K' : Int)) = true := by simp; omega
      clear h1 hK
      go_enter Try.func19, Try.ntmps19
      go_wp2
      go_ret
      exact ⟨ret_bool HA.out.symm, R0.out.bel⟩
  · have HA : Hid (R = false) := by rw [← HR.out, pm_eq, decide_eq_false h1]; rfl
    have hne : strB m.1 ≠ strB o.1 := fun h => h1 (strB_inj h)
    generalize strB m.1 = t1 at c1 hne
    generalize strB o.1 = t2 at c2 hne
    have hne' := str_neq hne
    have hne2 := str_ne hne
    clear h1 hne
    go_enter Try.func19, Try.ntmps19
    go_wp2
    go_ret
    exact ⟨ret_bool HA.out.symm, R0.out.bel⟩
end Go.Proofs.Ytekfemkoiadipaa
