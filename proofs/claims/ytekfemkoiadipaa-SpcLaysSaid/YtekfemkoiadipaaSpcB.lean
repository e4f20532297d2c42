/- Contracts of Lay of package spc, and of the document's. -/
import Derived.Test.YtekfemkoiadipaaSpcA
namespace Go.Proofs.Ytekfemkoiadipaa
open Go.RowKit
set_option linter.unusedVariables false
set_option linter.unusedSimpArgs false

theorem layM_yes {m : PM} {p : Int} {b : List UInt8} (h : roomB m.1.length p b.length = true) : layM m p b = writeF m p b := by unfold layM; rw [if_pos h]
theorem layM_no {m : PM} {p : Int} {b : List UInt8} (h : roomB m.1.length p b.length = false) : layM m p b = m := by unfold layM; rw [if_neg (by simp [h])]
theorem layP_yes {L : Nat} {p : Int} {k : Nat} (h : roomB L p k = true) : layP L p k = p + k := by unfold layP; rw [if_pos h]
theorem layP_no {L : Nat} {p : Int} {k : Nat} (h : roomB L p k = false) : layP L p k = p := by unfold layP; rw [if_neg (by simp [h])]
theorem layC_yes {L : Nat} {p : Int} {k : Nat} (h : roomB L p k = true) : layC L p k = 0 := by unfold layC; rw [if_pos h]
theorem layC_no {L : Nat} {p : Int} {k : Nat} (h : roomB L p k = false) : layC L p k = -8 := by unfold layC; rw [if_neg (by simp [h])]

set_option maxRecDepth 100000 in
set_option maxHeartbeats 1000000 in
theorem lay_no (A P A2 : Option Addr) (L c K d n c2 : Nat) (p : Int) (w : World) (hL : L ≤ 65536) (hp : endB L p = true) (hn : n ≤ 9223372036854775807) (hno : roomB L p n = false) :
    Calls Try.prog 13 #[.agg #[.slice A L c, .slice P K d], .int .i64 p, .slice A2 n c2] w fun e w' => e = .returned (.tuple #[.agg #[.slice A L c, .slice P K d], .int .i64 p, .int .i64 (-8)]) ∧ Below w.heap.size w w' := by
  have hmf : ∀ (fn : Fn) (first cap : Array Value) (w : World), (Instr.makeFunc fn first cap).run Try.prog w = .ok (.func fn first cap) w := fun _ _ _ _ => rfl
  obtain ⟨p0, p1⟩ := (endB_iff _ _).1 hp
  have h1 : (L : Int) - p < (n : Int) := by have := (roomB_no _ _ _).1 hno; omega
  clear hp hno
  go_enter Try.func13, Try.ntmps13
  go_wp2_with fail
  refine (left_any _ _ _ _ _ _ _ _ hL p0 p1).mono ?_
  rintro e w1 ⟨rfl, b1⟩
  have F1 := Lib.hid (fr_two b1)
  obtain ⟨q0, q1, _, _⟩ := (fr_two b1).2.1.use
  obtain ⟨q2, q3, q4, q5⟩ := (fr_two b1).2.2.use
  clear b1
  go_wp2_with fail
  refine bodyPost_ret (v := .tuple #[.agg #[.slice A L c, .slice P K d], .int .i64 p, .int .i64 (-8)]) ?_ rfl ?_
  · obtain ⟨r0, r1⟩ := F1.out.2.2.got (.slice A L c) (.slice P K d)
    simp [results, Try.results13, go_sem, r0, r1]
  · exact ⟨rfl, F1.out.put _ _⟩

set_option maxRecDepth 100000 in
set_option maxHeartbeats 1000000 in
theorem lay_yes (A P A2 : Option Addr) (L c K d n c2 : Nat) (m : PM) (b : List UInt8) (p : Int) (w : World) (HM : Hid (IsMem w (.agg #[.slice A L c, .slice P K d]) m)) (HU : Hid (Byt w (.slice A2 n c2) b)) (hL : L ≤ 65536) (hK : K < 1000) (hp : endB L p = true) (hr : roomB L p n = true) :
    Calls Try.prog 13 #[.agg #[.slice A L c, .slice P K d], .int .i64 p, .slice A2 n c2] w fun e w' => ∃ A' L' c' P' K' d', e = .returned (.tuple #[.agg #[.slice A' L' c', .slice P' K' d'], .int .i64 (p + (n : Int)), .int .i64 0]) ∧ IsMem w' (.agg #[.slice A' L' c', .slice P' K' d']) (writeF m p b) ∧ Below w.heap.size w w' := by
  have hmf : ∀ (fn : Fn) (first cap : Array Value) (w : World), (Instr.makeFunc fn first cap).run Try.prog w = .ok (.func fn first cap) w := fun _ _ _ _ => rfl
  obtain ⟨p0, p1⟩ := (endB_iff _ _).1 hp
  have h1 := (roomB_iff _ _ _).1 hr
  have h1' : decide ((L : Int) - p < (n : Int)) = false := by simp; omega
  have hn : n ≤ 65536 := by omega
  have h2 : p + (n : Int) ≤ 65536 := by omega
  have CW : Hid (∀ w1 : World, IsMem w1 (.agg #[.slice A L c, .slice P K d]) m → Byt w1 (.slice A2 n c2) b → Calls Try.prog 24 #[.agg #[.slice A L c, .slice P K d], .int .i64 p, .slice A2 n c2] w1 fun e w' => ∃ A' L' c' P' K' d', e = .returned (.tuple #[.agg #[.slice A' L' c', .slice P' K' d'], .int .i64 0]) ∧ IsMem w' (.agg #[.slice A' L' c', .slice P' K' d']) (writeF m p b) ∧ Below w1.heap.size w1 w') := by
    intro w1 hm hb
    have := write_sl _ _ m b p w1 hm hb (by rw [HM.out.len1]; exact hL) (by rw [HM.out.len2]; exact hK) (by rw [HU.out.len]; exact hn)
    rw [HM.out.len1, HU.out.len, room_ok hp hr, codeF_yes] at this
    exact this
  clear hp hr h1
  go_enter Try.func13, Try.ntmps13
  go_wp2_with fail
  refine (left_any _ _ _ _ _ _ _ _ hL p0 p1).mono ?_
  rintro e w1 ⟨rfl, b1⟩
  have F1 := Lib.hid (fr_two b1)
  obtain ⟨q0, q1, _, _⟩ := (fr_two b1).2.1.use
  clear b1
  go_wp2_with fail
  refine (CW.out _ (HM.out.keep F1.out.bel) (HU.out.keep F1.out.bel)).mono ?_
  rintro e w2 ⟨A', L', c', P', K', d', rfl, hm2, b2⟩
  have F2 := Lib.hid ((F1.out.keep b2).keep (al_one _ (.cells #[.slice A' L' c', .slice P' K' d'] 25)))
  have X2 := Lib.hid (at_new hm2)
  obtain ⟨q2, q3, q4, q5⟩ := F2.out.2.2.use
  obtain ⟨x0, x1⟩ := X2.out.use
  have M2 := Lib.hid hm2
  clear b2 hm2 F1 q0 q1
  go_wp2_with fail
  refine bodyPost_ret (v := .tuple #[.agg #[.slice A' L' c', .slice P' K' d'], .int .i64 (p + (n : Int)), .int .i64 0]) ?_ rfl ?_
  · obtain ⟨r0, r1⟩ := F2.out.2.2.got (.slice A' L' c') (.slice P' K' d')
    simp [results, Try.results13, go_sem, r0, r1]
  · exact ⟨_, _, _, _, _, _, rfl, F2.out.mem X2.out.mem _ _, F2.out.put _ _⟩

/-- Lay. -/
theorem lay_at (A P A2 : Option Addr) (L c K d n c2 : Nat) (m : PM) (b : List UInt8) (p : Int) (w : World) (HM : Hid (IsMem w (.agg #[.slice A L c, .slice P K d]) m)) (HU : Hid (Byt w (.slice A2 n c2) b)) (hL : L ≤ 65536) (hK : K < 1000) (hp : endB L p = true) (hn : n ≤ 9223372036854775807) :
    Calls Try.prog 13 #[.agg #[.slice A L c, .slice P K d], .int .i64 p, .slice A2 n c2] w fun e w' => ∃ A' L' c' P' K' d', e = .returned (.tuple #[.agg #[.slice A' L' c', .slice P' K' d'], .int .i64 (layP L p n), .int .i64 (layC L p n)]) ∧ IsMem w' (.agg #[.slice A' L' c', .slice P' K' d']) (layM m p b) ∧ Below w.heap.size w w' := by
  cases hr : roomB L p n with
  | false =>
    rw [layP_no hr, layC_no hr, layM_no (by rw [HM.out.len1, HU.out.len]; exact hr)]
    exact (lay_no A P A2 L c K d n c2 p w hL hp hn hr).mono fun e w' ⟨he, hb⟩ => ⟨_, _, _, _, _, _, he, HM.out.keep hb, hb⟩
  | true =>
    rw [layP_yes hr, layC_yes hr, layM_yes (by rw [HM.out.len1, HU.out.len]; exact hr)]
    exact lay_yes A P A2 L c K d n c2 m b p w HM HU hL hK hp hr

set_option maxRecDepth 100000 in
set_option maxHeartbeats 1000000 in
theorem rlay_no (A P A2 : Option Addr) (L c K d n c2 : Nat) (p : Int) (w : World) (hL : L ≤ 65536) (hp : endB L p = true) (hn : n ≤ 9223372036854775807) (hno : roomB L p n = false) :
    Calls Try.prog 14 #[.agg #[.slice A L c, .slice P K d], .int .i64 p, .slice A2 n c2] w fun e w' => e = .returned (.tuple #[.agg #[.slice A L c, .slice P K d], .int .i64 p, .int .i64 (-8)]) ∧ Below w.heap.size w w' := by
  obtain ⟨p0, p1⟩ := (endB_iff _ _).1 hp
  have h1 : (L : Int) - p < (n : Int) := by have := (roomB_no _ _ _).1 hno; omega
  have F1 := Lib.hid (fr_new w A P L c K d)
  obtain ⟨q0, q1, _, _⟩ := F1.out.2.1.use
  obtain ⟨q2, q3, q4, q5⟩ := F1.out.2.2.use
  clear hp hno
  go_enter Try.func14, Try.ntmps14
  go_wp2_with fail
  refine bodyPost_ret (v := .tuple #[.agg #[.slice A L c, .slice P K d], .int .i64 p, .int .i64 (-8)]) ?_ rfl ?_
  · obtain ⟨r0, r1⟩ := F1.out.2.2.got (.slice A L c) (.slice P K d)
    simp [results, Try.results14, go_sem, r0, r1]
  · exact ⟨rfl, ((Below.refl _ w).alloc (Nat.le_refl _) _).alloc (by simp) _⟩

set_option maxRecDepth 100000 in
set_option maxHeartbeats 1000000 in
theorem rlay_yes (A P A2 : Option Addr) (L c K d n c2 : Nat) (m : PM) (b : List UInt8) (p : Int) (w : World) (HM : Hid (IsMem w (.agg #[.slice A L c, .slice P K d]) m)) (HU : Hid (Byt w (.slice A2 n c2) b)) (hL : L ≤ 65536) (hK : K < 1000) (hp : endB L p = true) (hr : roomB L p n = true) :
    Calls Try.prog 14 #[.agg #[.slice A L c, .slice P K d], .int .i64 p, .slice A2 n c2] w fun e w' => ∃ A' L' c' P' K' d', e = .returned (.tuple #[.agg #[.slice A' L' c', .slice P' K' d'], .int .i64 (p + (n : Int)), .int .i64 0]) ∧ IsMem w' (.agg #[.slice A' L' c', .slice P' K' d']) (writeF m p b) ∧ Below w.heap.size w w' := by
  obtain ⟨p0, p1⟩ := (endB_iff _ _).1 hp
  have h1 := (roomB_iff _ _ _).1 hr
  have h1' : decide ((L : Int) - p < (n : Int)) = false := by simp; omega
  have hn : n ≤ 65536 := by omega
  have h2 : p + (n : Int) ≤ 65536 := by omega
  have CW : Hid (∀ w1 : World, IsMem w1 (.agg #[.slice A L c, .slice P K d]) m → Byt w1 (.slice A2 n c2) b → Calls Try.prog 25 #[.agg #[.slice A L c, .slice P K d], .int .i64 p, .slice A2 n c2] w1 fun e w' => ∃ A' L' c' P' K' d', e = .returned (.tuple #[.agg #[.slice A' L' c', .slice P' K' d'], .int .i64 0]) ∧ IsMem w' (.agg #[.slice A' L' c', .slice P' K' d']) (writeF m p b) ∧ Below w1.heap.size w1 w') := by
    intro w1 hm hb
    have := rwrite_sl _ _ m b p w1 hm hb (by rw [HM.out.len1]; exact hL) (by rw [HM.out.len2]; exact hK) (by rw [HU.out.len]; exact hn)
    rw [HM.out.len1, HU.out.len, room_ok hp hr, codeF_yes] at this
    exact this
  have F1 := Lib.hid (fr_new w A P L c K d)
  obtain ⟨q0, q1, _, _⟩ := F1.out.2.1.use
  clear hp hr h1
  go_enter Try.func14, Try.ntmps14
  go_wp2_with fail
  refine (CW.out _ (HM.out.keep F1.out.bel) (HU.out.keep F1.out.bel)).mono ?_
  rintro e w2 ⟨A', L', c', P', K', d', rfl, hm2, b2⟩
  have F2 := Lib.hid ((F1.out.keep b2).keep (al_one _ (.cells #[.slice A' L' c', .slice P' K' d'] 25)))
  have X2 := Lib.hid (at_new hm2)
  obtain ⟨q2, q3, q4, q5⟩ := F2.out.2.2.use
  obtain ⟨x0, x1⟩ := X2.out.use
  clear b2 hm2 F1 q0 q1
  go_wp2_with fail
  refine bodyPost_ret (v := .tuple #[.agg #[.slice A' L' c', .slice P' K' d'], .int .i64 (p + (n : Int)), .int .i64 0]) ?_ rfl ?_
  · obtain ⟨r0, r1⟩ := F2.out.2.2.got (.slice A' L' c') (.slice P' K' d')
    simp [results, Try.results14, go_sem, r0, r1]
  · exact ⟨_, _, _, _, _, _, rfl, F2.out.mem X2.out.mem _ _, F2.out.put _ _⟩

/-- The document's Lay. -/
theorem rlay_at (A P A2 : Option Addr) (L c K d n c2 : Nat) (m : PM) (b : List UInt8) (p : Int) (w : World) (HM : Hid (IsMem w (.agg #[.slice A L c, .slice P K d]) m)) (HU : Hid (Byt w (.slice A2 n c2) b)) (hL : L ≤ 65536) (hK : K < 1000) (hp : endB L p = true) (hn : n ≤ 9223372036854775807) :
    Calls Try.prog 14 #[.agg #[.slice A L c, .slice P K d], .int .i64 p, .slice A2 n c2] w fun e w' => ∃ A' L' c' P' K' d', e = .returned (.tuple #[.agg #[.slice A' L' c', .slice P' K' d'], .int .i64 (layP L p n), .int .i64 (layC L p n)]) ∧ IsMem w' (.agg #[.slice A' L' c', .slice P' K' d']) (layM m p b) ∧ Below w.heap.size w w' := by
  cases hr : roomB L p n with
  | false =>
    rw [layP_no hr, layC_no hr, layM_no (by rw [HM.out.len1, HU.out.len]; exact hr)]
    exact (rlay_no A P A2 L c K d n c2 p w hL hp hn hr).mono fun e w' ⟨he, hb⟩ => ⟨_, _, _, _, _, _, he, HM.out.keep hb, hb⟩
  | true =>
    rw [layP_yes hr, layC_yes hr, layM_yes (by rw [HM.out.len1, HU.out.len]; exact hr)]
    exact rlay_yes A P A2 L c K d n c2 m b p w HM HU hL hK hp hr
end Go.Proofs.Ytekfemkoiadipaa
