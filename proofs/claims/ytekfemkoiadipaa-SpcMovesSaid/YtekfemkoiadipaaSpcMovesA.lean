/- The walk of SpcMoves. -/
import Derived.Test.YtekfemkoiadipaaSpcIn
namespace Go.Proofs.Ytekfemkoiadipaa
open Go.RowKit
set_option linter.unusedVariables false
set_option linter.unusedSimpArgs false

set_option maxRecDepth 100000 in
set_option maxHeartbeats 16000000 in
theorem moves_walk (A P : Option Addr) (L c K d : Nat) (m : PM) (lo p n : Int) (w : World) (HM : Hid (IsMem w (.agg #[.slice A L c, .slice P K d]) m)) :
    Calls Try.prog 5 #[.agg #[.slice A L c, .slice P K d, .int .i64 lo, .int .i64 p, .int .i64 n]] w fun e w' => e = .returned (.bool true) ∧ Below w.heap.size w w' := by
  cases hmay : (fewB m 600 && rightB m) with
  | false =>
    go_enter Try.func5, Try.ntmps5
    go_wp2_with fail
    refine (shown_any _).mono ?_
    rintro e w1 ⟨rfl, bb⟩
    have M1 := Lib.hid ((start6 HM.out _).keep bb)
    have B1 := Lib.hid (below_two bb)
    clear bb
    obtain ⟨cM0, cM1⟩ := M1.out.use
    go_wp2_with fail
    refine (may_at _ _ _ _ _ _ m _ M1.out.mem).mono ?_
    rw [hmay]
    rintro e w2 ⟨rfl, bb⟩
    have M2 := Lib.hid (M1.out.keep bb)
    have B2 := Lib.hid (below_then B1.out bb)
    clear bb cM0 cM1 M1 B1
    go_wp2_with fail
    go_ret
    exact ⟨rfl, B2.out⟩
  | true =>
    obtain ⟨hL, hK, HRi⟩ := may_parts hmay
    rw [HM.out.len1] at hL
    rw [HM.out.len2] at hK
    clear HRi
    cases hp : endB L p with
    | false =>
      go_enter Try.func5, Try.ntmps5
      go_wp2_with fail
      refine (shown_any _).mono ?_
      rintro e w1 ⟨rfl, bb⟩
      have M1 := Lib.hid ((start6 HM.out _).keep bb)
      have B1 := Lib.hid (below_two bb)
      clear bb
      obtain ⟨cM0, cM1⟩ := M1.out.use
      go_wp2_with fail
      refine (may_at _ _ _ _ _ _ m _ M1.out.mem).mono ?_
      rw [hmay]
      rintro e w2 ⟨rfl, bb⟩
      have M2 := Lib.hid (M1.out.keep bb)
      have B2 := Lib.hid (below_then B1.out bb)
      clear bb cM0 cM1 M1 B1
      obtain ⟨cM0, cM1⟩ := M2.out.use
      go_wp2_with fail
      refine (is_at _ _ _ _ _ _ p _).mono ?_
      rw [hp]
      rintro e w3 ⟨rfl, bb⟩
      have M3 := Lib.hid (M2.out.keep bb)
      have B3 := Lib.hid (below_then B2.out bb)
      clear bb cM0 cM1 M2 B2
      go_wp2_with fail
      go_ret
      exact ⟨rfl, B3.out⟩
    | true =>
      cases hl : endB L lo with
      | false =>
        go_enter Try.func5, Try.ntmps5
        go_wp2_with fail
        refine (shown_any _).mono ?_
        rintro e w1 ⟨rfl, bb⟩
        have M1 := Lib.hid ((start6 HM.out _).keep bb)
        have B1 := Lib.hid (below_two bb)
        clear bb
        obtain ⟨cM0, cM1⟩ := M1.out.use
        go_wp2_with fail
        refine (may_at _ _ _ _ _ _ m _ M1.out.mem).mono ?_
        rw [hmay]
        rintro e w2 ⟨rfl, bb⟩
        have M2 := Lib.hid (M1.out.keep bb)
        have B2 := Lib.hid (below_then B1.out bb)
        clear bb cM0 cM1 M1 B1
        obtain ⟨cM0, cM1⟩ := M2.out.use
        go_wp2_with fail
        refine (is_at _ _ _ _ _ _ p _).mono ?_
        rw [hp]
        rintro e w3 ⟨rfl, bb⟩
        have M3 := Lib.hid (M2.out.keep bb)
        have B3 := Lib.hid (below_then B2.out bb)
        clear bb cM0 cM1 M2 B2
        obtain ⟨cM0, cM1⟩ := M3.out.use
        go_wp2_with fail
        refine (is_at _ _ _ _ _ _ lo _).mono ?_
        rw [hl]
        rintro e w4 ⟨rfl, bb⟩
        have M4 := Lib.hid (M3.out.keep bb)
        have B4 := Lib.hid (below_then B3.out bb)
        clear bb cM0 cM1 M3 B3
        go_wp2_with fail
        go_ret
        exact ⟨rfl, B4.out⟩
      | true =>
        obtain ⟨p0, p1⟩ := (endB_iff _ _).1 hp
        obtain ⟨l0, l1⟩ := (endB_iff _ _).1 hl
        by_cases hq : p < lo
        · skip
          go_enter Try.func5, Try.ntmps5
          go_wp2_with fail
          refine (shown_any _).mono ?_
          rintro e w1 ⟨rfl, bb⟩
          have M1 := Lib.hid ((start6 HM.out _).keep bb)
          have B1 := Lib.hid (below_two bb)
          clear bb
          obtain ⟨cM0, cM1⟩ := M1.out.use
          go_wp2_with fail
          refine (may_at _ _ _ _ _ _ m _ M1.out.mem).mono ?_
          rw [hmay]
          rintro e w2 ⟨rfl, bb⟩
          have M2 := Lib.hid (M1.out.keep bb)
          have B2 := Lib.hid (below_then B1.out bb)
          clear bb cM0 cM1 M1 B1
          obtain ⟨cM0, cM1⟩ := M2.out.use
          go_wp2_with fail
          refine (is_at _ _ _ _ _ _ p _).mono ?_
          rw [hp]
          rintro e w3 ⟨rfl, bb⟩
          have M3 := Lib.hid (M2.out.keep bb)
          have B3 := Lib.hid (below_then B2.out bb)
          clear bb cM0 cM1 M2 B2
          obtain ⟨cM0, cM1⟩ := M3.out.use
          go_wp2_with fail
          refine (is_at _ _ _ _ _ _ lo _).mono ?_
          rw [hl]
          rintro e w4 ⟨rfl, bb⟩
          have M4 := Lib.hid (M3.out.keep bb)
          have B4 := Lib.hid (below_then B3.out bb)
          clear bb cM0 cM1 M3 B3
          go_wp2_with fail
          go_ret
          exact ⟨rfl, B4.out⟩
        · have hq' : decide (p < lo) = false := by simp; omega
          cases hv : movB L lo p n with
          | false =>
            have hno := (movB_no _ _ _ _).1 hv
            by_cases hu : n ≤ (L : Int) - p
            · have hu2 : decide (lo - p ≤ n) = false := by simp; omega
              clear hno hq
              go_enter Try.func5, Try.ntmps5
              go_wp2_with fail
              refine (shown_any _).mono ?_
              rintro e w1 ⟨rfl, bb⟩
              have M1 := Lib.hid ((start6 HM.out _).keep bb)
              have B1 := Lib.hid (below_two bb)
              clear bb
              obtain ⟨cM0, cM1⟩ := M1.out.use
              go_wp2_with fail
              refine (may_at _ _ _ _ _ _ m _ M1.out.mem).mono ?_
              rw [hmay]
              rintro e w2 ⟨rfl, bb⟩
              have M2 := Lib.hid (M1.out.keep bb)
              have B2 := Lib.hid (below_then B1.out bb)
              clear bb cM0 cM1 M1 B1
              obtain ⟨cM0, cM1⟩ := M2.out.use
              go_wp2_with fail
              refine (is_at _ _ _ _ _ _ p _).mono ?_
              rw [hp]
              rintro e w3 ⟨rfl, bb⟩
              have M3 := Lib.hid (M2.out.keep bb)
              have B3 := Lib.hid (below_then B2.out bb)
              clear bb cM0 cM1 M2 B2
              obtain ⟨cM0, cM1⟩ := M3.out.use
              go_wp2_with fail
              refine (is_at _ _ _ _ _ _ lo _).mono ?_
              rw [hl]
              rintro e w4 ⟨rfl, bb⟩
              have M4 := Lib.hid (M3.out.keep bb)
              have B4 := Lib.hid (below_then B3.out bb)
              clear bb cM0 cM1 M3 B3
              obtain ⟨cM0, cM1⟩ := M4.out.use
              go_wp2_with fail
              refine (allot_at _ _ _ _ _ _ lo p n _ (by omega) hp hl).mono ?_
              rw [movP_no hv, movC_no hv]
              rintro e w5 ⟨rfl, bb⟩
              have M5 := Lib.hid (M4.out.keep bb)
              have B5 := Lib.hid (below_then B4.out bb)
              clear bb cM0 cM1 M4 B4
              obtain ⟨cM0, cM1⟩ := M5.out.use
              go_wp2_with fail
              go_ret
              exact ⟨rfl, B5.out⟩
            · have hu2 : decide (n ≤ (L : Int) - p) = false := by simp; omega
              clear hno hq hu
              go_enter Try.func5, Try.ntmps5
              go_wp2_with fail
              refine (shown_any _).mono ?_
              rintro e w1 ⟨rfl, bb⟩
              have M1 := Lib.hid ((start6 HM.out _).keep bb)
              have B1 := Lib.hid (below_two bb)
              clear bb
              obtain ⟨cM0, cM1⟩ := M1.out.use
              go_wp2_with fail
              refine (may_at _ _ _ _ _ _ m _ M1.out.mem).mono ?_
              rw [hmay]
              rintro e w2 ⟨rfl, bb⟩
              have M2 := Lib.hid (M1.out.keep bb)
              have B2 := Lib.hid (below_then B1.out bb)
              clear bb cM0 cM1 M1 B1
              obtain ⟨cM0, cM1⟩ := M2.out.use
              go_wp2_with fail
              refine (is_at _ _ _ _ _ _ p _).mono ?_
              rw [hp]
              rintro e w3 ⟨rfl, bb⟩
              have M3 := Lib.hid (M2.out.keep bb)
              have B3 := Lib.hid (below_then B2.out bb)
              clear bb cM0 cM1 M2 B2
              obtain ⟨cM0, cM1⟩ := M3.out.use
              go_wp2_with fail
              refine (is_at _ _ _ _ _ _ lo _).mono ?_
              rw [hl]
              rintro e w4 ⟨rfl, bb⟩
              have M4 := Lib.hid (M3.out.keep bb)
              have B4 := Lib.hid (below_then B3.out bb)
              clear bb cM0 cM1 M3 B3
              obtain ⟨cM0, cM1⟩ := M4.out.use
              go_wp2_with fail
              refine (allot_at _ _ _ _ _ _ lo p n _ (by omega) hp hl).mono ?_
              rw [movP_no hv, movC_no hv]
              rintro e w5 ⟨rfl, bb⟩
              have M5 := Lib.hid (M4.out.keep bb)
              have B5 := Lib.hid (below_then B4.out bb)
              clear bb cM0 cM1 M4 B4
              obtain ⟨cM0, cM1⟩ := M5.out.use
              go_wp2_with fail
              go_ret
              exact ⟨rfl, B5.out⟩
          | true =>
            obtain ⟨v0, v1⟩ := (movB_iff _ _ _ _).1 hv
            have hx : endB L (p + n) = true := (endB_iff _ _).2 (by omega)
            have hw : movB L lo (p + n) (-n) = true := (movB_iff _ _ _ _).2 (by omega)
            have hback : p + n + -n = p := by omega
            have n0 : -700 ≤ n := by omega
            have n1 : n ≤ 700 := by omega
            clear hq
            go_enter Try.func5, Try.ntmps5
            go_wp2_with fail
            refine (shown_any _).mono ?_
            rintro e w1 ⟨rfl, bb⟩
            have M1 := Lib.hid ((start6 HM.out _).keep bb)
            have B1 := Lib.hid (below_two bb)
            clear bb
            obtain ⟨cM0, cM1⟩ := M1.out.use
            go_wp2_with fail
            refine (may_at _ _ _ _ _ _ m _ M1.out.mem).mono ?_
            rw [hmay]
            rintro e w2 ⟨rfl, bb⟩
            have M2 := Lib.hid (M1.out.keep bb)
            have B2 := Lib.hid (below_then B1.out bb)
            clear bb cM0 cM1 M1 B1
            obtain ⟨cM0, cM1⟩ := M2.out.use
            go_wp2_with fail
            refine (is_at _ _ _ _ _ _ p _).mono ?_
            rw [hp]
            rintro e w3 ⟨rfl, bb⟩
            have M3 := Lib.hid (M2.out.keep bb)
            have B3 := Lib.hid (below_then B2.out bb)
            clear bb cM0 cM1 M2 B2
            obtain ⟨cM0, cM1⟩ := M3.out.use
            go_wp2_with fail
            refine (is_at _ _ _ _ _ _ lo _).mono ?_
            rw [hl]
            rintro e w4 ⟨rfl, bb⟩
            have M4 := Lib.hid (M3.out.keep bb)
            have B4 := Lib.hid (below_then B3.out bb)
            clear bb cM0 cM1 M3 B3
            obtain ⟨cM0, cM1⟩ := M4.out.use
            go_wp2_with fail
            refine (allot_at _ _ _ _ _ _ lo p n _ (by omega) hp hl).mono ?_
            rw [movP_yes hv, movC_yes hv]
            rintro e w5 ⟨rfl, bb⟩
            have M5 := Lib.hid (M4.out.keep bb)
            have B5 := Lib.hid (below_then B4.out bb)
            clear bb cM0 cM1 M4 B4
            obtain ⟨cM0, cM1⟩ := M5.out.use
            go_wp2_with fail
            refine (allot_at _ _ _ _ _ _ lo (p + n) (-n) _ (by omega) hx hl).mono ?_
            rw [movP_yes hw, movC_yes hw, hback]
            rintro e w6 ⟨rfl, bb⟩
            have M6 := Lib.hid (M5.out.keep bb)
            have B6 := Lib.hid (below_then B5.out bb)
            clear bb cM0 cM1 M5 B5
            go_wp2_with fail
            go_ret
            exact ⟨rfl, B6.out⟩
end Go.Proofs.Ytekfemkoiadipaa
