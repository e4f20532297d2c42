/- The document's own Right and May. -/
import Derived.Test.YtekfemkoiadipaaMemRight
namespace Go.Proofs.Ytekfemkoiadipaa
open Go.RowKit

theorem rtS {w w1 : World} {A P : Option Addr} {L c K d : Nat} (h : Rt w A P L c K d w1) {g o1 o2 : Nat} {x y : Value} (h1 : w1.cell? ⟨g, o1, none⟩ = some x) (h2 : w1.cell? ⟨g, o2, none⟩ = some y) : w1.drew.cell? ⟨w.heap.size, 0, none⟩ = some (.slice A L c) ∧ w1.drew.cell? ⟨w.heap.size, 1, none⟩ = some (.slice P K d) ∧ w1.drew.cell? ⟨g, o1, none⟩ = some x ∧ w1.drew.cell? ⟨g, o2, none⟩ = some y ∧ Rt w A P L c K d w1.drew :=
  ⟨h.box.use.1, h.box.use.2.1, h1, h2, h.drew⟩
theorem rtK {w w1 w2 : World} {A P : Option Addr} {L c K d : Nat} {g o1 o2 : Nat} {x y : Value} (hg : g < w.heap.size) (h : w1.cell? ⟨w.heap.size, 0, none⟩ = some (.slice A L c) ∧ w1.cell? ⟨w.heap.size, 1, none⟩ = some (.slice P K d) ∧ w1.cell? ⟨g, o1, none⟩ = some x ∧ w1.cell? ⟨g, o2, none⟩ = some y ∧ Rt w A P L c K d w1) (b : Below w1.heap.size w1 w2) : w2.cell? ⟨w.heap.size, 0, none⟩ = some (.slice A L c) ∧ w2.cell? ⟨w.heap.size, 1, none⟩ = some (.slice P K d) ∧ w2.cell? ⟨g, o1, none⟩ = some x ∧ w2.cell? ⟨g, o2, none⟩ = some y ∧ Rt w A P L c K d w2 := by
  obtain ⟨_, _, h1, h2, h3⟩ := h
  have h4 := h3.keep b
  have hl := Nat.lt_of_lt_of_le hg h3.bel.size
  exact ⟨h4.box.use.1, h4.box.use.2.1, (b.cell (p := ⟨g, o1, none⟩) hl).trans h1, (b.cell (p := ⟨g, o2, none⟩) hl).trans h2, h4⟩

set_option maxRecDepth 100000 in
set_option maxHeartbeats 4000000 in
theorem rright_at (A P : Option Addr) (L c K d : Nat) (m : PM) (w : World) (HM : Hid (IsMem w (.agg #[.slice A L c, .slice P K d]) m)) :
    Calls Try.prog 22 #[.agg #[.slice A L c, .slice P K d]] w fun e w' => e = .returned (.bool (rightB m)) ∧ Below w.heap.size w w' := by
  have hbig := HM.out.big
  unfold maxLen at hbig
  obtain ⟨hL, hK⟩ := hbig
  have H := Lib.hid (rightB_eq m L HM.out.len1)
  obtain ⟨R, hR⟩ : ∃ R, rightB m = R := ⟨_, rfl⟩
  rw [hR] at H ⊢
  clear hR
  go_enter Try.func22, Try.ntmps22
  go_wp2
  go_loopw [3] (fun i wr => ∃ j : Nat, j ≤ K ∧ i = .int .i64 (j : Int) ∧ Hid ((m.2.take j).all (rightP L) = true) ∧ Rt w A P L c K d wr) (fun i _ => K - (intOf i).toNat)
  case atStart => exact ⟨0, Nat.zero_le _, rfl, by simp [Hid], rt_new _ _ _ _ _ _ _⟩
  case round =>
    obtain ⟨j, hj, rfl, hall, hrt⟩ := hrel
    by_cases hlt : j < K
    · obtain ⟨g, o, B, n, e, p, rfl, hg, hp, hc1, hc2, hby, hn, hKd⟩ := mem_patch HM.out hlt
      have hd1 : wr.cell? ⟨g, o + j * 2, none⟩ = some (.int .i64 p.1) := (hrt.bel.cell (p := ⟨g, o + j * 2, none⟩) hg).trans hc1
      have hd2 : wr.cell? ⟨g, o + j * 2 + 1, none⟩ = some (.slice B n e) := (hrt.bel.cell (p := ⟨g, o + j * 2 + 1, none⟩) hg).trans hc2
      obtain ⟨q0, q1, _, _⟩ := hrt.box.use
      have hlt1 := hrt.box.lt
      have HP := Lib.hid hp
      have HR : Hid (rightP L p = okB L p.1 n) := by unfold rightP; rw [hby.len]; rfl
      obtain ⟨p1, hp1⟩ : ∃ p1, p.1 = p1 := ⟨_, rfl⟩
      rw [hp1] at hd1 HR
      have CT : Hid (∀ w1, Calls Try.prog 31 #[.agg #[.slice A L c, .slice (some ⟨g, o, none⟩) K d], .int .i64 p1, .int .i64 (n : Int)] w1 fun e w' => e = .returned (.bool (okB L p1 n)) ∧ Below w1.heap.size w1 w') := fun w1 => rthere_any _ _ _ _ _ _ _ _ _ (by omega) (by unfold maxLen at hn; omega)
      unfold maxLen at hn
      have hji : (j : Int) < (K : Int) := by omega
      clear hp hby hc1 hc2 hp1
      cases ok : okB L p1 n with
      | true =>
        have HA : Hid ((m.2.take (j + 1)).all (rightP L) = true) := by rw [all_take_step HP.out, hall.out, HR.out, ok]; rfl
        rw [ok] at CT
        go_wp2_with fail
        refine wp_region_noPanic ?_
        go_region_held3 (fun w' => w'.cell? ⟨w.heap.size, 0, none⟩ = some (.slice A L c) ∧ w'.cell? ⟨w.heap.size, 1, none⟩ = some (.slice (some ⟨g, o, none⟩) K d) ∧ w'.cell? ⟨g, o + j * 2, none⟩ = some (.int .i64 p1) ∧ w'.cell? ⟨g, o + j * 2 + 1, none⟩ = some (.slice B n e) ∧ Rt w A (some ⟨g, o, none⟩) L c K d w') (first | assumption | exact rtS hrt hd1 hd2)
          (first | (go_at_call 31; ((with_reducible refine (CT.out _).mono ?_); rintro e w2 ⟨rfl, b2⟩; have s2 := rtK hg (by assumption) b2)))
        all_goals (refine NoPanic.normal ?_)
        have HRT2 := Lib.hid s2.2.2.2.2
        clear s2 b2 q0 q1 hd1 hd2 hrt
        go_wp2
        go_roundw
        case rel => exact ⟨j + 1, by omega, by go_num, HA.out, HRT2.out⟩
        case measure => simp [intOf]; omega
      | false =>
        have HA : Hid (m.2.all (rightP L) = false) := all_no HP.out (by rw [HR.out, ok])
        rw [ok] at CT
        go_wp2_with fail
        refine wp_region_noPanic ?_
        go_region_held3 (fun w' => w'.cell? ⟨w.heap.size, 0, none⟩ = some (.slice A L c) ∧ w'.cell? ⟨w.heap.size, 1, none⟩ = some (.slice (some ⟨g, o, none⟩) K d) ∧ w'.cell? ⟨g, o + j * 2, none⟩ = some (.int .i64 p1) ∧ w'.cell? ⟨g, o + j * 2 + 1, none⟩ = some (.slice B n e) ∧ Rt w A (some ⟨g, o, none⟩) L c K d w') (first | assumption | exact rtS hrt hd1 hd2)
          (first | (go_at_call 31; ((with_reducible refine (CT.out _).mono ?_); rintro e w2 ⟨rfl, b2⟩; have s2 := rtK hg (by assumption) b2)))
        all_goals (refine NoPanic.normal ?_)
        have HRT2 := Lib.hid s2.2.2.2.2
        clear s2 b2 q0 q1 hd1 hd2 hrt
        go_wp2
        go_ret
        exact ⟨ret_bool (by rw [H.out, HA.out]; simp), HRT2.out.bel⟩
    · have hjk : j = K := by omega
      subst hjk
      have hl := HM.out.len2
      have HR : Hid (R = (decide (L ≤ 65536) && decide (L % 8 = 0))) := by
        have := hall.out
        rw [List.take_of_length_le (by omega)] at this
        rw [H.out, this, Bool.and_true]
        rfl
      have HRT := Lib.hid hrt
      obtain ⟨q0, q1, _, _⟩ := hrt.box.use
      clear hl hrt
      by_cases h1 : L ≤ 65536
      · have h1' : (L : Int) ≤ 65536 := by omega
        by_cases h2 : L % 8 = 0
        · have h2' : ((L : Int) % 8 == 0) = true := by simp; omega
          have HE : Hid (R = true) := by rw [HR.out, decide_eq_true h1, decide_eq_true h2]; rfl
          clear h1 h2
          go_wp2
          go_ret
          exact ⟨ret_bool HE.out.symm, HRT.out.bel⟩
        · have h2' : ((L : Int) % 8 == 0) = false := by simp; omega
          have HE : Hid (R = false) := by rw [HR.out, decide_eq_false h2]; simp [Hid]
          clear h1 h2
          go_wp2
          go_ret
          exact ⟨ret_bool HE.out.symm, HRT.out.bel⟩
      · have h1' : decide ((L : Int) ≤ 65536) = false := by simp; omega
        have HE : Hid (R = false) := by rw [HR.out, decide_eq_false h1]; rfl
        clear h1
        go_wp2
        go_ret
        exact ⟨ret_bool HE.out.symm, HRT.out.bel⟩

set_option maxRecDepth 100000 in
set_option maxHeartbeats 1000000 in
theorem may_at (A P : Option Addr) (L c K d : Nat) (m : PM) (w : World) (HM : Hid (IsMem w (.agg #[.slice A L c, .slice P K d]) m)) :
    Calls Try.prog 9 #[.agg #[.slice A L c, .slice P K d]] w fun e w' => e = .returned (.bool (fewB m 600 && rightB m)) ∧ Below w.heap.size w w' := by
  cases hf : fewB m 600 with
  | false =>
    go_enter Try.func9, Try.ntmps9
    go_wp2_with fail
    refine (few_at _ _ _ _ _ _ m _ (HM.out.keep (rt_new w A P L c K d).bel)).mono ?_
    rw [hf]
    rintro e w1 ⟨rfl, b1⟩
    have HR := Lib.hid ((rt_new w A P L c K d).keep b1)
    clear b1
    go_wp2_with fail
    go_ret
    exact ⟨rfl, HR.out.bel⟩
  | true =>
    obtain ⟨R, hR⟩ : ∃ R, rightB m = R := ⟨_, rfl⟩
    rw [hR]
    have H := Lib.hid hR
    clear hR
    go_enter Try.func9, Try.ntmps9
    go_wp2_with fail
    refine (few_at _ _ _ _ _ _ m _ (HM.out.keep (rt_new w A P L c K d).bel)).mono ?_
    rw [hf]
    rintro e w1 ⟨rfl, b1⟩
    have HR := Lib.hid ((rt_new w A P L c K d).keep b1)
    obtain ⟨q0, q1, _, _⟩ := HR.out.box.use
    clear b1
    go_wp2_with fail
    refine (rright_at _ _ _ _ _ _ m _ (HM.out.keep HR.out.bel)).mono ?_
    rw [H.out]
    rintro e w2 ⟨rfl, b2⟩
    have HR2 := Lib.hid (HR.out.keep b2)
    clear b2 q0 q1
    go_wp2_with fail
    go_ret
    exact ⟨rfl, HR2.out.bel⟩
end Go.Proofs.Ytekfemkoiadipaa
