/- The walk of LexWords. -/
import Derived.Test.YtakeaocmiblbeaaLexWordsM
namespace Go.Proofs.Ytakeaocmiblbeaa
open Go.RowKit
set_option linter.unusedVariables false
set_option linter.unusedSimpArgs false

set_option maxRecDepth 100000 in
set_option maxHeartbeats 8000000 in
theorem lwords_big (s t : List UInt8) (w : World) (h1 : (200 : Int) < (s.length : Int)) :
    Calls Try.prog 4 #[.string (strB s), .string (strB t)] w fun e w' => e = .returned (.bool true) ∧ Below w.heap.size w w' := by
  have hsz : (strB s).size = s.length := rfl
  have htz : (strB t).size = t.length := rfl
  go_enter Try.func4, Try.ntmps4
  have B0 : Hid (Below w.heap.size w w) := Below.refl _ _
  go_wp2_with fail
  refine (shown_any8 _).mono ?_
  rintro e w1 ⟨rfl, bb⟩
  have B1 := Lib.hid (below_then B0.out bb)
  clear bb B0
  go_wp2_with fail
  go_ret
  exact ⟨rfl, B1.out⟩
set_option maxRecDepth 100000 in
set_option maxHeartbeats 8000000 in
theorem lwords_big2 (s t : List UInt8) (w : World) (h1 : decide ((200 : Int) < (s.length : Int)) = false) (h2 : (200 : Int) < (t.length : Int)) :
    Calls Try.prog 4 #[.string (strB s), .string (strB t)] w fun e w' => e = .returned (.bool true) ∧ Below w.heap.size w w' := by
  have hsz : (strB s).size = s.length := rfl
  have htz : (strB t).size = t.length := rfl
  go_enter Try.func4, Try.ntmps4
  have B0 : Hid (Below w.heap.size w w) := Below.refl _ _
  go_wp2_with fail
  refine (shown_any8 _).mono ?_
  rintro e w1 ⟨rfl, bb⟩
  have B1 := Lib.hid (below_then B0.out bb)
  clear bb B0
  go_wp2_with fail
  go_ret
  exact ⟨rfl, B1.out⟩
set_option maxRecDepth 100000 in
set_option maxHeartbeats 8000000 in
theorem lwords_in (s t : List UInt8) (Q : List (List UInt8)) (w : World) (h1 : decide ((200 : Int) < (s.length : Int)) = false) (h2 : decide ((200 : Int) < (t.length : Int)) = false) (hs : s.length ≤ 200) (ht : t.length ≤ 200) (HQ : Hid (wordsF s = Q)) :
    Calls Try.prog 4 #[.string (strB s), .string (strB t)] w fun e w' => e = .returned (.bool true) ∧ Below w.heap.size w w' := by
  have hsz : (strB s).size = s.length := rfl
  have htz : (strB t).size = t.length := rfl
  have hql : Q.length ≤ 200 := by have := HQ.out; rw [← this]; have := words_len s s.length (Nat.le_refl _); omega
  have HWD : Hid (∀ u ∈ Q, Wd u) := by rw [← HQ.out]; exact words_wd s.length s (Nat.le_refl _)
  have HJC : Hid ((joinB Q).length = (s.filter solid).length + Q.length) := by show _ = _; rw [← HQ.out]; exact join_count s
  have HWJ : Hid (wordsF (joinB Q) = Q) := by show _ = _; rw [← HQ.out]; exact words_again s
  obtain ⟨P, eP⟩ : ∃ P, wordsF t = P := ⟨_, rfl⟩
  have HP := Lib.hid eP
  have hpl : P.length ≤ 200 := by rw [← eP]; have := words_len t t.length (Nat.le_refl _); omega
  have HW2 : Hid (wordsF (s ++ 32 :: t) = Q ++ P) := by show _ = _; rw [words_two s.length s t (Nat.le_refl _), HQ.out, eP]
  have hst1 : strB s ++ ⟨#[32]⟩ = strB (s ++ [32]) := strB_app s [32]
  have hst2 : strB (s ++ [32]) ++ strB t = strB (s ++ 32 :: t) := by rw [strB_app]; simp
  have hcs1 := cat_ok (a := s) (b := [32]) (by simp; omega)
  have hcs2 := cat_ok (a := s ++ [32]) (b := t) (by simp; omega)
  rw [show strB [32] = ⟨#[32]⟩ from rfl] at hcs1
  clear eP
  have HJL : Hid ((joinB Q).length ≤ 400) := by show _ ≤ _; have := HJC.out; have := filter_le s; omega
  have HUL : Hid (∀ u ∈ Q, u.length ≤ 200) := by
    show ∀ _, _
    intro u hu
    have h1 : (s.filter solid) = Q.flatten := by rw [← HQ.out]; exact filter_words s.length s (Nat.le_refl _)
    have h2 := filter_le s
    rw [h1] at h2
    have h3 := flat_le hu
    omega
  go_enter Try.func4, Try.ntmps4
  have B0 : Hid (Below w.heap.size w w) := Below.refl _ _
  go_wp2_with fail
  refine (shown_any8 _).mono ?_
  rintro e w1 ⟨rfl, bb⟩
  have B1 := Lib.hid (below_then B0.out bb)
  clear bb B0
  go_wp2_with fail
  refine (words_any s _ (by omega)).mono ?_
  rw [HQ.out]
  rintro e w2 ⟨A1, n1, c1, rfl, hy, bb⟩
  have B2 := Lib.hid (below_then B1.out bb)
  have S2 := Lib.hid hy
  clear bb B1 hy
  obtain rfl : Q.length = n1 := S2.out.len
  go_wp2_with fail
  go_loopw [7, 8] (fun s7 s8 wr => ∃ (i : Nat), s7 = .string (strB (joinB (Q.take i))) ∧ s8 = .int .i64 (i : Int) ∧ i ≤ Q.length ∧ Hid (Below w.heap.size w wr) ∧ Hid (Sts wr (.slice A1 Q.length c1) Q)) (fun _ s8 _ => Q.length - (intOf s8).toNat)
  case atStart => exact ⟨0, rfl, rfl, Nat.zero_le _, B2, S2⟩
  case round =>
    clear B2 S2
    obtain ⟨i, rfl, rfl, hi, HB, HT⟩ := hrel
    by_cases hil : i < Q.length
    · have hil' : (i : Int) < (Q.length : Int) := by omega
      have hx : Q[i]? = some Q[i] := List.getElem?_eq_getElem hil
      obtain ⟨g, o, hA, hc⟩ := sts_cell HT.out hil
      obtain ⟨u, eu⟩ : ∃ u, Q[i] = u := ⟨_, rfl⟩
      rw [eu] at hc hx
      have hwd := HWD.out u (List.mem_of_getElem? hx)
      have hne := str_nil hwd.1
      have hne2 := str_emp hwd.1
      have HSO := Lib.hid hwd.2
      have hsu : (strB u).size = u.length := rfl
      have hjl := joinB_take Q i
      have hjs := joinB_step hx
      have hul := HUL.out u (List.mem_of_getElem? hx)
      obtain ⟨z, ez⟩ : ∃ z, joinB (Q.take i) = z := ⟨_, rfl⟩
      rw [ez] at hjl hjs
      have hjl2 : z.length ≤ 1000 := by have := HJL.out; omega
      have hap1 : strB z ++ ⟨#[32]⟩ = strB (z ++ [32]) := strB_app z [32]
      have hap2 : strB (z ++ [32]) ++ strB u = strB (z ++ [32] ++ u) := strB_app _ u
      have hcat1 := cat_ok (a := z) (b := [32]) (by simp; omega)
      have hcat2 := cat_ok (a := z ++ [32]) (b := u) (by simp; omega)
      have h32s : (strB [32]) = ⟨#[32]⟩ := rfl
      rw [h32s] at hcat1
      have HJS := Lib.hid hjs
      simp only [ez]
      subst hA
      clear hx eu hwd hjs ez h32s hjl hul
      go_wp2_with fail
      go_loopw [9] (fun s9 wi => ∃ (k : Nat), s9 = .int .i64 (k : Int) ∧ k ≤ u.length ∧ wr = wi) (fun s9 _ => u.length - (intOf s9).toNat)
      case atStart => exact ⟨0, rfl, Nat.zero_le _, rfl⟩
      case round =>
        obtain ⟨k, rfl, hk, rfl⟩ := hrel
        by_cases hku : k < u.length
        · have hku' : (k : Int) < (u.length : Int) := by omega
          obtain ⟨x, hx⟩ : ∃ x, u[k]? = some x := ⟨_, List.getElem?_eq_getElem hku⟩
          have ixk := ix_at u k x hx
          have hso := HSO.out x (List.mem_of_getElem? hx)
          have h32 : 32 < x.toNat := by unfold solid at hso; simpa using hso
          have h32' : decide ((x.toNat : Int) ≤ 32) = false := by simp; omega
          clear hx hso h32
          go_wp2_with fail
          go_roundw
          case rel => exact ⟨k + 1, by simp, by omega, (by first | rfl | trivial)⟩
          case measure => simp [intOf]; omega
        · have hku' : decide ((k : Int) < (u.length : Int)) = false := by simp; omega
          have hku2 : u.length ≤ k := by omega
          clear hku hk
          go_wp2_with fail
          go_roundw
          case rel => exact ⟨i + 1, by rw [HJS.out]; simp, by simp, by omega, HB, HT⟩
          case measure => simp [intOf]; omega
    · obtain rfl : i = Q.length := by omega
      rw [List.take_length]
      clear hil hi
      go_wp2_with fail
      go_loopw [10, 11] (fun s10 s11 wi => ∃ (j : Nat), s10 = .int .i64 (((s.take j).filter solid).length : Int) ∧ s11 = .int .i64 (j : Int) ∧ j ≤ s.length ∧ wr = wi) (fun _ s11 _ => s.length - (intOf s11).toNat)
      case atStart => exact ⟨0, rfl, rfl, Nat.zero_le _, rfl⟩
      case round =>
        obtain ⟨j, rfl, rfl, hj, rfl⟩ := hrel
        by_cases hjs : j < s.length
        · have hjs' : (j : Int) < (s.length : Int) := by omega
          obtain ⟨x, hx⟩ : ∃ x, s[j]? = some x := ⟨_, List.getElem?_eq_getElem hjs⟩
          have ixj := ix_at s j x hx
          have HFS := Lib.hid (filter_step hx)
          have hfl : ((s.take j).filter solid).length ≤ 200 := by have := filter_le (s.take j); rw [List.length_take] at this; omega
          obtain ⟨n, en⟩ : ∃ n, ((s.take j).filter solid).length = n := ⟨_, rfl⟩
          rw [en] at HFS hfl ⊢
          by_cases h32 : 32 < x.toNat
          · have h32' : (32 : Int) < (x.toNat : Int) := by omega
            have HC : Hid (solid x = true) := solid_yes h32
            clear hx en h32
            go_wp2_with fail
            go_roundw
            case rel => exact ⟨j + 1, by rw [HFS.out, if_pos HC.out]; simp, by simp, by omega, (by first | rfl | trivial)⟩
            case measure => simp [intOf]; omega
          · have h32' : decide ((32 : Int) < (x.toNat : Int)) = false := by simp; omega
            have HC : Hid (solid x = false) := solid_no h32
            clear hx en h32
            go_wp2_with fail
            go_roundw
            case rel => exact ⟨j + 1, by rw [HFS.out, if_neg (by simp [HC.out])]; rfl, by simp, by omega, (by first | rfl | trivial)⟩
            case measure => simp [intOf]; omega
        · obtain rfl : j = s.length := by omega
          rw [List.take_length]
          clear hjs hj
          obtain ⟨n, en⟩ : ∃ n, (s.filter solid).length = n := ⟨_, rfl⟩
          have hcnt : ((joinB Q).length : Int) = (n : Int) + (Q.length : Int) := by have := HJC.out; rw [en] at this; omega
          have hnl : n ≤ 200 := by have := filter_le s; omega
          have hszj : (strB (joinB Q)).size = (joinB Q).length := rfl
          simp only [en]
          clear en
          go_wp2_with fail
          refine (words_any (joinB Q) _ (by have := HJL.out; omega)).mono ?_
          rw [HWJ.out]
          rintro e w5 ⟨A5, n5, c5, rfl, hy, bb⟩
          have B5 := Lib.hid (below_then HB.out bb)
          have T5 := Lib.hid (HT.out.keep bb)
          have J5 := Lib.hid hy
          clear bb hy HB HT
          go_wp2_with fail
          refine (rsame_any A5 A1 n5 c5 Q.length c1 Q Q _ J5.out T5.out (by omega)).mono ?_
          rw [sameR_refl]
          rintro e w6 ⟨rfl, bb⟩
          have B6 := Lib.hid (below_then B5.out bb)
          have T6 := Lib.hid (T5.out.keep bb)
          clear bb B5 T5 J5
          go_wp2_with fail
          refine (words_any (s ++ 32 :: t) _ (by simp; omega)).mono ?_
          rw [HW2.out]
          rintro e w7 ⟨A7, n7, c7, rfl, hy, bb⟩
          have B7 := Lib.hid (below_then B6.out bb)
          have T7 := Lib.hid (T6.out.keep bb)
          have J7 := Lib.hid hy
          clear bb hy B6 T6
          have HB7 := Lib.hid B7
          go_wp2_with (at_builtin; (refine wpList_sapp_w (by rfl) _ _ rfl w7.heap.size (.slice (some ⟨w7.heap.size, 0, none⟩) 0 0) 0 [] rfl (none_sowns w7) A1 Q.length c1 Q rfl (T7.out.keep (al_one _ _)) (by omega) (by simp) w7 (al_one _ _) (Nat.le_refl _) ?_; intro v8 w8 ho hb2 hgr; have O8 := Lib.hid ho; have B8 := Lib.hid hb2; clear ho hb2 hgr))
          refine (words_any t _ (by omega)).mono ?_
          rw [HP.out]
          rintro e w9 ⟨A9, n9, c9, rfl, hy, bb⟩
          obtain rfl : P.length = n9 := hy.len
          have O9 := Lib.hid (O8.out.keep bb)
          have B9 := Lib.hid (below_then B8.out bb)
          have R9 := Lib.hid hy
          clear bb hy O8 B8
          go_wp2_with (at_builtin; (refine wpList_sapp_w (by rfl) _ _ rfl w7.heap.size v8 (0 + Q.length) ([] ++ Q) rfl O9.out A9 P.length c9 P rfl R9.out (by omega) B9.out.size w7 B9.out (Nat.le_refl _) ?_; intro v10 w10 ho hb2 hgr; obtain ⟨A10, n10, c10, rfl⟩ := sts_slice ho.sts; have O10 := Lib.hid ho.sts; have B10 := Lib.hid hb2; clear ho hb2 hgr))
          refine (rsame_any A7 A10 n7 c7 n10 c10 (Q ++ P) ([] ++ Q ++ P) _ (J7.out.keep B10.out) O10.out (by simp; omega)).mono ?_
          rw [show sameR (Q ++ P) ([] ++ Q ++ P) = true from sameR_refl _]
          rintro e w11 ⟨rfl, bb⟩
          have B11 := Lib.hid (below_then (below_then B7.out B10.out) bb)
          clear bb
          go_wp2_with fail
          go_ret
          exact ⟨rfl, B11.out⟩
theorem lwords_any (s t : List UInt8) (w : World) :
    Calls Try.prog 4 #[.string (strB s), .string (strB t)] w fun e w' => e = .returned (.bool true) ∧ Below w.heap.size w w' := by
  by_cases h1 : (200 : Int) < (s.length : Int)
  · exact lwords_big s t w h1
  · have h1' : decide ((200 : Int) < (s.length : Int)) = false := by simpa using h1
    by_cases h2 : (200 : Int) < (t.length : Int)
    · exact lwords_big2 s t w h1' h2
    · exact lwords_in s t _ w h1' (by simpa using h2) (by omega) (by omega) (Lib.hid rfl)
end Go.Proofs.Ytakeaocmiblbeaa
