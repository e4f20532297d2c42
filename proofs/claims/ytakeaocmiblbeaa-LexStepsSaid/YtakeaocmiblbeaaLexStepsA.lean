/- The walk of LexSteps. -/
import Derived.Test.YtakeaocmiblbeaaLexFacts
namespace Go.Proofs.Ytakeaocmiblbeaa
open Go.RowKit
set_option linter.unusedVariables false
set_option linter.unusedSimpArgs false

theorem rem_len {s R : List UInt8} (h : Rem s R) : R.length ≤ s.length := h.le
theorem steps_on {Q : List (List UInt8)} {R : List UInt8} {i : Nat} (h : Q.drop i = wordsF R) (hi : i < Q.length) : wordW R ≠ [] ∧ Q[i]? = some (wordW R) ∧ Q.drop (i + 1) = wordsF (wordT R) := by
  have hw : wordW R ≠ [] := by
    intro e
    rw [wordsF_nil e] at h
    have := congrArg List.length h
    rw [List.length_drop] at this
    simp at this
    omega
  rw [wordsF_cons hw] at h
  refine ⟨hw, ?_, ?_⟩
  · have := congrArg (fun l => l[0]?) h
    simpa using this
  · have := congrArg (fun l => l.drop 1) h
    simpa [List.drop_drop] using this
theorem steps_end {Q : List (List UInt8)} {R : List UInt8} {i : Nat} (h : Q.drop i = wordsF R) (hi : Q.length ≤ i) : wordW R = [] := by
  rw [List.drop_eq_nil_of_le hi] at h
  by_cases e : wordW R = []
  · exact e
  · rw [wordsF_cons e] at h; cases h
set_option maxRecDepth 100000 in
set_option maxHeartbeats 8000000 in
theorem lsteps_big (s : List UInt8) (w : World) (h1 : (200 : Int) < (s.length : Int)) :
    Calls Try.prog 8 #[.string (strB s)] w fun e w' => e = .returned (.bool true) ∧ Below w.heap.size w w' := by
  have hsz : (strB s).size = s.length := rfl
  go_enter Try.func8, Try.ntmps8
  have B0 : Hid (Below w.heap.size w w) := Below.refl _ _
  go_wp2_with fail
  refine (shown_any8 _).mono ?_
  rintro e w1 ⟨rfl, bb⟩
  have B1 := Lib.hid (below_then B0.out bb)
  clear bb B0
  go_wp2_with fail
  go_ret
  exact ⟨rfl, B1.out⟩
set_option maxRecDepth 100000 in
set_option maxHeartbeats 8000000 in
theorem lsteps_in (s : List UInt8) (w : World) (h1 : decide ((200 : Int) < (s.length : Int)) = false) (hs : s.length ≤ 100000) :
    Calls Try.prog 8 #[.string (strB s)] w fun e w' => e = .returned (.bool true) ∧ Below w.heap.size w w' := by
  have hsz : (strB s).size = s.length := rfl
  obtain ⟨Q, eQ⟩ : ∃ x, wordsF s = x := ⟨_, rfl⟩
  have HQ := Lib.hid eQ
  have HQL : Hid (Q.length ≤ 100000) := by show _ ≤ _; rw [← eQ]; have := words_len s s.length (Nat.le_refl _); omega
  have HS : Hid (s.length ≤ 100000) := hs
  clear eQ
  go_enter Try.func8, Try.ntmps8
  have B0 : Hid (Below w.heap.size w w) := Below.refl _ _
  go_wp2_with fail
  refine (shown_any8 _).mono ?_
  rintro e w1 ⟨rfl, bb⟩
  have B1 := Lib.hid (below_then B0.out bb)
  clear bb B0
  go_wp2_with fail
  refine (words_any s _ hs).mono ?_
  rw [HQ.out]
  rintro e w2 ⟨A1, n1, c1, rfl, hy, bb⟩
  have B2 := Lib.hid (below_then B1.out bb)
  have S2 := Lib.hid hy
  clear bb B1 hy
  obtain rfl : Q.length = n1 := S2.out.len
  go_wp2_with fail
  go_loopw [5, 6] (fun s5 s6 wr => ∃ (i : Nat) (R : List UInt8), s5 = .int .i64 ((s.length - R.length : Nat) : Int) ∧ s6 = .int .i64 (i : Int) ∧ i ≤ Q.length ∧ Hid (Rem s R) ∧ Hid (Q.drop i = wordsF R) ∧ Hid (Below w.heap.size w wr) ∧ Hid (Sts wr (.slice A1 Q.length c1) Q)) (fun _ s6 _ => Q.length - (intOf s6).toNat)
  case atStart => exact ⟨0, s, by simp, rfl, Nat.zero_le _, Lib.hid (Rem.all s), Lib.hid HQ.out.symm, B2, S2⟩
  case round =>
    clear B2 S2
    obtain ⟨i, R, rfl, rfl, hi, HR, HD, HB, HT⟩ := hrel
    have HWD : Hid (∀ w, Calls Try.prog 10 #[.string (strB s), .int .i64 ((s.length - R.length : Nat) : Int)] w fun e w' => e = .returned (.tuple #[.string (strB (wordW R)), .int .i64 ((s.length - (wordT R).length : Nat) : Int)]) ∧ Below w.heap.size w w') := by
      show ∀ _, _
      intro w
      have := word_any s ((s.length - R.length : Nat) : Int) w HS.out
      rw [(word_at HR.out).1, (word_at HR.out).2] at this
      exact this
    by_cases hil : i < Q.length
    · have hil' : (i : Int) < (Q.length : Int) := by omega
      obtain ⟨q1, q2, q3⟩ := steps_on HD.out hil
      have h1 := wordT_lt q1
      have h2 := HR.out.le
      have HR2 := Lib.hid HR.out.word
      obtain ⟨N, eN⟩ : ∃ n, s.length - R.length = n := ⟨_, rfl⟩
      obtain ⟨N2, eN2⟩ : ∃ n, s.length - (wordT R).length = n := ⟨_, rfl⟩
      have HN2 := Lib.hid eN2
      have hc1 : decide ((N2 : Int) ≤ (N : Int)) = false := by simp; omega
      have hc2 : decide (N2 ≤ N) = false := by simp; omega
      have hc3 : N < N2 := by omega
      have hc4 : N2 ≤ s.length := by omega
      have hc5 : decide ((s.length : Int) < (N2 : Int)) = false := by simp; omega
      obtain ⟨g, o, hA, hc⟩ := sts_cell HT.out hil
      have hx := (List.getElem?_eq_some_iff.1 q2).2
      rw [hx] at hc
      obtain ⟨u, eu⟩ : ∃ u, wordW R = u := ⟨_, rfl⟩
      rw [eu] at hc HWD
      rw [eN, eN2] at HWD
      simp only [eN]
      have HC := Lib.hid hc
      have hg := World.block_lt_of_cell? wr ⟨g, o + i, none⟩ hc
      subst hA
      have H3 := Lib.hid q3
      clear q1 q2 q3 hx eu eN eN2 h1 h2 hc HD HR
      go_wp2_with fail
      refine (HWD.out _).mono ?_
      rintro e w5 ⟨rfl, b5⟩
      have hc := (b5.cell (p := ⟨g, o + i, none⟩) hg).trans HC.out
      have B5 := Lib.hid (below_then HB.out b5)
      have T5 := Lib.hid (HT.out.keep b5)
      clear b5 HB HT
      have hql := HQL.out
      go_wp2_with fail
      go_roundw
      case rel => exact ⟨i + 1, wordT R, by rw [HN2.out], by simp, by omega, HR2, H3, B5, T5⟩
      case measure => simp [intOf]; omega
    · have q1 := steps_end HD.out (by omega)
      have q2 := wordW_nil q1
      have hil' : decide ((i : Int) < (Q.length : Int)) = false := by simp; omega
      have hil2 : Q.length ≤ i := by omega
      rw [q1, q2] at HWD
      have HE : Hid (∀ w, Calls Try.prog 10 #[.string (strB s), .int .i64 ((s.length - R.length : Nat) : Int)] w fun e w' => e = .returned (.tuple #[.string ⟨#[]⟩, .int .i64 (s.length : Int)]) ∧ Below w.heap.size w w') := HWD.out
      obtain ⟨N, eN⟩ : ∃ n, s.length - R.length = n := ⟨_, rfl⟩
      rw [eN] at HE
      simp only [eN]
      clear HWD q1 q2 eN HD HR hil
      go_wp2_with fail
      refine (HE.out _).mono ?_
      rintro e w5 ⟨rfl, b5⟩
      have B5 := Lib.hid (below_then HB.out b5)
      clear b5
      go_wp2_with fail
      go_ret
      exact ⟨rfl, B5.out⟩
theorem lsteps_any (s : List UInt8) (w : World) :
    Calls Try.prog 8 #[.string (strB s)] w fun e w' => e = .returned (.bool true) ∧ Below w.heap.size w w' := by
  by_cases h1 : (200 : Int) < (s.length : Int)
  · exact lsteps_big s w h1
  · exact lsteps_in s w (by simpa using h1) (by omega)
end Go.Proofs.Ytakeaocmiblbeaa
