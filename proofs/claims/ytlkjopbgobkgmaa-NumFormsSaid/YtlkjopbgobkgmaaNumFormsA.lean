/- The walk of NumForms. -/
import Derived.Test.YtlkjopbgobkgmaaNumFormsM
namespace Go.Proofs.Ytlkjopbgobkgmaa
open Go.RowKit
set_option linter.unusedVariables false
set_option linter.unusedSimpArgs false

set_option maxRecDepth 100000 in
set_option maxHeartbeats 8000000 in
theorem forms_early (l : List UInt8) (b : Int) (w : World) (hl : l.length ≤ 9223372036854775807) (H0 : 60 < l.length ∨ l.length ≤ 60 ∧ baseB b = false) :
    Calls Try.prog 5 #[.string (strB l), .int .i64 b] w fun e w' => e = .returned (.bool true) ∧ Below w.heap.size w w' := by
  have hsz : (strB l).size = l.length := rfl
  rcases H0 with h | ⟨h, hb⟩
  · skip
    have h' : (60 : Int) < (l.length : Int) := by omega
    go_enter Try.func5, Try.ntmps5
    go_wp2_with fail
    refine (shown_any6 _).mono ?_
    rintro e w1 ⟨rfl, bb⟩
    have B1 := Lib.hid bb
    clear bb
    go_wp2_with fail
    go_ret
    exact ⟨rfl, B1.out⟩
  · have hno := (baseB_no b).1 hb
    have h' : decide ((60 : Int) < (l.length : Int)) = false := by simp; omega
    by_cases c1 : b < 2
    · skip
      clear hno hb h
      go_enter Try.func5, Try.ntmps5
      go_wp2_with fail
      refine (shown_any6 _).mono ?_
      rintro e w1 ⟨rfl, bb⟩
      have B1 := Lib.hid bb
      clear bb
      go_wp2_with fail
      go_ret
      exact ⟨rfl, B1.out⟩
    · skip
      have c1' : decide (b < 2) = false := by simp; omega
      have c2 : 36 < b := by omega
      clear hno hb c1 h
      go_enter Try.func5, Try.ntmps5
      go_wp2_with fail
      refine (shown_any6 _).mono ?_
      rintro e w1 ⟨rfl, bb⟩
      have B1 := Lib.hid bb
      clear bb
      go_wp2_with fail
      go_ret
      exact ⟨rfl, B1.out⟩
set_option maxRecDepth 100000 in
set_option maxHeartbeats 8000000 in
theorem forms_loop (l : List UInt8) (b : Int) (w : World) (hl : l.length ≤ 9223372036854775807) (k : Nat) (h60 : k ≤ 60) (hb : baseB b = true) (hsz : (strB l).size = k) (HK : Hid (l.length = k)) :
    Calls Try.prog 5 #[.string (strB l), .int .i64 b] w fun e w' => e = .returned (.bool true) ∧ Below w.heap.size w w' := by
  obtain ⟨b2, b36⟩ := (baseB_iff b).1 hb
  have h' : decide ((60 : Int) < (k : Int)) = false := by simp; omega
  have c1 : decide (b < 2) = false := by simp; omega
  have c2 : decide (36 < b) = false := by simp; omega
  have HBB := Lib.hid hb
  obtain ⟨g0, hg0⟩ : ∃ x, decide ((0 : Int) < (k : Int)) = x := ⟨_, rfl⟩
  have hg1 : decide (0 < k) = g0 := by rw [← hg0]; simp
  have HG0 := Lib.hid hg0
  clear hb
  go_enter Try.func5, Try.ntmps5
  go_wp2_with fail
  refine (shown_any6 _).mono ?_
  rintro e w1 ⟨rfl, bb⟩
  have B1 := Lib.hid bb
  clear bb
  go_wp2_with fail
  go_loopw [6, 7, 8] (fun s6 s7 s8 wr => ∃ (j : Nat) (g : Bool), j ≤ k ∧ s8 = .int .i64 (j : Int) ∧ s7 = .string (strB ((l.take j).map lowC)) ∧ s6 = .bool g ∧ Hid (g = (g0 && (l.take j).all (fun c => isW c.toNat b))) ∧ Below w.heap.size w wr) (fun _ _ s8 _ => k - (intOf s8).toNat)
  case atStart => exact ⟨0, g0, Nat.zero_le _, rfl, rfl, rfl, by simp [Hid], B1.out⟩
  case round =>
    obtain ⟨j, g, hj, rfl, rfl, rfl, HG, hbel⟩ := hrel
    clear B1
    by_cases hjk : j < k
    · have hjk' : (j : Int) < (k : Int) := by omega
      obtain ⟨c, hc⟩ : ∃ c, l[j]? = some c := ⟨_, List.getElem?_eq_getElem (by rw [HK.out]; exact hjk)⟩
      have ix := ix_at l j c hc
      have HTL := Lib.hid (take_low hc)
      have HTA := Lib.hid (take_all (b := b) hc)
      obtain ⟨y, hy⟩ : ∃ y, isW c.toNat b = y := ⟨_, rfl⟩
      obtain ⟨v, hv⟩ : ∃ v, worthF c.toNat b = v := ⟨_, rfl⟩
      rw [hy] at HTA
      have HY := Lib.hid hy
      have HV := Lib.hid hv
      obtain ⟨A, hA⟩ : ∃ A, (l.take j).map lowC = A := ⟨_, rfl⟩
      rw [hA] at HTL
      have hAl : A.length ≤ 60 := by rw [← hA]; simp; omega
      rw [hA]
      obtain ⟨x, hx⟩ : ∃ x, lowC c = x := ⟨_, rfl⟩
      rw [hx] at HTL
      have hap : strB A ++ strB [x] = strB (A ++ [x]) := strB_app A [x]
      have hcat := cat_ok (a := A) (b := [x]) (by simp; omega)
      have hcl := c.toNat_lt
      have HX := Lib.hid hx
      have HNX : Hid ((l.take (j + 1)).map lowC = A ++ [x]) := HTL.out
      clear hy hv hA hc HTL
      cases g with
      | true =>
        rcases (by omega : c.toNat < 65 ∨ 90 < c.toNat ∨ (65 ≤ c.toNat ∧ c.toNat ≤ 90)) with hr | hr | hr
        · have n65 : decide ((65 : Int) ≤ (c.toNat : Int)) = false := by simp; omega
          have hcx : c = x := by rw [← HX.out]; exact (low_no (by omega)).symm
          subst hcx
          go_wp2_with fail
          refine (worth_any c.toNat b _ c.toNat_lt).mono ?_
          rw [HV.out, HY.out]
          rintro e wa ⟨rfl, bb⟩
          have bw := below_then hbel bb
          have cv := conv_one c wa
          clear bb
          go_wp2_with fail
          go_roundw
          case rel => exact ⟨j + 1, y, by omega, by go_num, by rw [HNX.out], rfl, by show _ = _; rw [HTA.out]; have h := HG.out; rw [← Bool.and_assoc, ← h]; rfl, alloc_then bw⟩
          case measure => simp [intOf]; omega
        · have g65 : (65 : Int) ≤ (c.toNat : Int) := by omega
          have n90 : decide ((c.toNat : Int) ≤ 90) = false := by simp; omega
          have hcx : c = x := by rw [← HX.out]; exact (low_no (by omega)).symm
          subst hcx
          go_wp2_with fail
          refine (worth_any c.toNat b _ c.toNat_lt).mono ?_
          rw [HV.out, HY.out]
          rintro e wa ⟨rfl, bb⟩
          have bw := below_then hbel bb
          have cv := conv_one c wa
          clear bb
          go_wp2_with fail
          go_roundw
          case rel => exact ⟨j + 1, y, by omega, by go_num, by rw [HNX.out], rfl, by show _ = _; rw [HTA.out]; have h := HG.out; rw [← Bool.and_assoc, ← h]; rfl, alloc_then bw⟩
          case measure => simp [intOf]; omega
        · have g65 : (65 : Int) ≤ (c.toNat : Int) := by omega
          have l90 : (c.toNat : Int) ≤ 90 := by omega
          have hcx : (c.toNat : Int) + 32 = (x.toNat : Int) := by rw [← HX.out]; exact low_yes hr
          go_wp2_with fail
          refine (worth_any c.toNat b _ c.toNat_lt).mono ?_
          rw [HV.out, HY.out]
          rintro e wa ⟨rfl, bb⟩
          have bw := below_then hbel bb
          have cv := conv_one x wa
          clear bb
          go_wp2_with fail
          go_roundw
          case rel => exact ⟨j + 1, y, by omega, by go_num, by rw [HNX.out], rfl, by show _ = _; rw [HTA.out]; have h := HG.out; rw [← Bool.and_assoc, ← h]; rfl, alloc_then bw⟩
          case measure => simp [intOf]; omega
      | false =>
        rcases (by omega : c.toNat < 65 ∨ 90 < c.toNat ∨ (65 ≤ c.toNat ∧ c.toNat ≤ 90)) with hr | hr | hr
        · have n65 : decide ((65 : Int) ≤ (c.toNat : Int)) = false := by simp; omega
          have hcx : c = x := by rw [← HX.out]; exact (low_no (by omega)).symm
          subst hcx
          go_wp2_with fail
          refine (worth_any c.toNat b _ c.toNat_lt).mono ?_
          rw [HV.out, HY.out]
          rintro e wa ⟨rfl, bb⟩
          have bw := below_then hbel bb
          have cv := conv_one c wa
          clear bb
          go_wp2_with fail
          go_roundw
          case rel => exact ⟨j + 1, false, by omega, by go_num, by rw [HNX.out], rfl, by show _ = _; rw [HTA.out]; have h := HG.out; rw [← Bool.and_assoc, ← h]; rfl, alloc_then bw⟩
          case measure => simp [intOf]; omega
        · have g65 : (65 : Int) ≤ (c.toNat : Int) := by omega
          have n90 : decide ((c.toNat : Int) ≤ 90) = false := by simp; omega
          have hcx : c = x := by rw [← HX.out]; exact (low_no (by omega)).symm
          subst hcx
          go_wp2_with fail
          refine (worth_any c.toNat b _ c.toNat_lt).mono ?_
          rw [HV.out, HY.out]
          rintro e wa ⟨rfl, bb⟩
          have bw := below_then hbel bb
          have cv := conv_one c wa
          clear bb
          go_wp2_with fail
          go_roundw
          case rel => exact ⟨j + 1, false, by omega, by go_num, by rw [HNX.out], rfl, by show _ = _; rw [HTA.out]; have h := HG.out; rw [← Bool.and_assoc, ← h]; rfl, alloc_then bw⟩
          case measure => simp [intOf]; omega
        · have g65 : (65 : Int) ≤ (c.toNat : Int) := by omega
          have l90 : (c.toNat : Int) ≤ 90 := by omega
          have hcx : (c.toNat : Int) + 32 = (x.toNat : Int) := by rw [← HX.out]; exact low_yes hr
          go_wp2_with fail
          refine (worth_any c.toNat b _ c.toNat_lt).mono ?_
          rw [HV.out, HY.out]
          rintro e wa ⟨rfl, bb⟩
          have bw := below_then hbel bb
          have cv := conv_one x wa
          clear bb
          go_wp2_with fail
          go_roundw
          case rel => exact ⟨j + 1, false, by omega, by go_num, by rw [HNX.out], rfl, by show _ = _; rw [HTA.out]; have h := HG.out; rw [← Bool.and_assoc, ← h]; rfl, alloc_then bw⟩
          case measure => simp [intOf]; omega
    · have hjk' : decide (j < k) = false := by simp; omega
      have hjk2 : decide ((j : Int) < (k : Int)) = false := by simp; omega
      have hjl : l.take j = l := List.take_of_length_le (by rw [HK.out]; omega)
      rw [hjl] at HG ⊢
      clear hjk
      cases g with
      | false =>
        go_wp2
        go_ret
        exact ⟨rfl, hbel⟩
      | true =>
        have hgg := HG.out
        have hg3 : g0 = true ∧ l.all (fun c => isW c.toNat b) = true := by simpa using hgg.symm
        have hl0 : l ≠ [] := by intro e; have h2 := HG0.out; rw [hg3.1] at h2; have h3 := HK.out; rw [e] at h3; have h4 : k = 0 := h3.symm; rw [h4] at h2; simp at h2
        have FF := forms_facts HBB.out hl0 (all_isW.1 hg3.2)
        obtain ⟨n, hn⟩ : ∃ n, wrap64 (valF b 0 l) = n := ⟨_, rfl⟩
        rw [hn] at FF
        have P1 := Lib.hid (parN_of FF.1)
        have P2 := Lib.hid (parN_of FF.2.1)
        have P3 := Lib.hid (parN_of FF.2.2.1)
        have P4 := Lib.hid (parN_of FF.2.2.2.1)
        have P5 := Lib.hid (parB_of FF.2.2.2.2.1)
        have P6 := Lib.hid (parB_of FF.2.2.2.2.2.1)
        have P7 := Lib.hid (parB_of FF.2.2.2.2.2.2)
        have ll : l.length ≤ 60 := by rw [HK.out]; exact h60
        have C48 := cat_one 48 l
        have C45 := cat_one 45 l
        have C43 := cat_one 43 l
        have C4545 : (⟨#[45, 45]⟩ : ByteArray) ++ strB l = strB (45 :: 45 :: l) := strB_app [45, 45] l
        have Ce : strB l ++ (⟨#[45]⟩ : ByteArray) = strB (l ++ [45]) := strB_app l [45]
        have y1 : ¬ (9223372036854775807 < 1 + (strB l).size) := by omega
        have y2 : ¬ (9223372036854775807 < 2 + (strB l).size) := by omega
        have y3 : ¬ (9223372036854775807 < (strB l).size + 1) := by omega
        have B0 := Lib.hid hbel
        clear hn FF hg3 hgg HG hl0 hbel hg0 hg1
        go_wp2_with fail
        refine (parse_any l b _ (by omega)).mono ?_
        rw [P1.out.1, P1.out.2]
        rintro e wz1 ⟨rfl, bb⟩
        have B1 := Lib.hid (below_then B0.out bb)
        clear bb B0
        go_wp2_with fail
        refine (parse_any (l.map lowC) b _ (by simp; omega)).mono ?_
        rw [P2.out.1, P2.out.2]
        rintro e wz2 ⟨rfl, bb⟩
        have B2 := Lib.hid (below_then B1.out bb)
        clear bb B1
        go_wp2_with fail
        refine (parse_any (48 :: l) b _ (by simp; omega)).mono ?_
        rw [P3.out.1, P3.out.2]
        rintro e wz3 ⟨rfl, bb⟩
        have B3 := Lib.hid (below_then B2.out bb)
        clear bb B2
        go_wp2_with fail
        refine (parse_any (45 :: l) b _ (by simp; omega)).mono ?_
        rw [P4.out.1, P4.out.2]
        rintro e wz4 ⟨rfl, bb⟩
        have B4 := Lib.hid (below_then B3.out bb)
        clear bb B3
        go_wp2_with fail
        refine (parse_any (45 :: 45 :: l) b _ (by simp; omega)).mono ?_
        rw [P5.out.1, P5.out.2]
        rintro e wz5 ⟨rfl, bb⟩
        have B5 := Lib.hid (below_then B4.out bb)
        clear bb B4
        go_wp2_with fail
        refine (parse_any (l ++ [45]) b _ (by simp; omega)).mono ?_
        rw [P6.out.1, P6.out.2]
        rintro e wz6 ⟨rfl, bb⟩
        have B6 := Lib.hid (below_then B5.out bb)
        clear bb B5
        go_wp2_with fail
        refine (parse_any (43 :: l) b _ (by simp; omega)).mono ?_
        rw [P7.out.1, P7.out.2]
        rintro e wz7 ⟨rfl, bb⟩
        have B7 := Lib.hid (below_then B6.out bb)
        clear bb B6
        go_wp2_with fail
        go_ret
        exact ⟨rfl, B7.out⟩
theorem forms_walk6 (l : List UInt8) (b : Int) (w : World) (hl : l.length ≤ 9223372036854775807) :
    Calls Try.prog 5 #[.string (strB l), .int .i64 b] w fun e w' => e = .returned (.bool true) ∧ Below w.heap.size w w' := by
  by_cases h60 : 60 < l.length
  · exact forms_early l b w hl (.inl h60)
  cases hb : baseB b with
  | false => exact forms_early l b w hl (.inr ⟨by omega, hb⟩)
  | true => exact forms_loop l b w hl l.length (by omega) hb rfl rfl
end Go.Proofs.Ytlkjopbgobkgmaa
