/- The walk of LexUpper. -/
import Derived.Test.YtakeaocmiblbeaaLexFacts
namespace Go.Proofs.Ytakeaocmiblbeaa
open Go.RowKit
set_option linter.unusedVariables false
set_option linter.unusedSimpArgs false

theorem upC_out (c : UInt8) : ¬ (97 ≤ (upC c).toNat ∧ (upC c).toNat ≤ 122) := by
  by_cases h : 97 ≤ c.toNat ∧ c.toNat ≤ 122
  · have := upC_low h.1 h.2
    omega
  · rw [upC_same h]; exact h
theorem upper_out (l : List UInt8) : ∀ x ∈ upperF l, ¬ (97 ≤ x.toNat ∧ x.toNat ≤ 122) := by
  intro x hx
  unfold upperF at hx
  rw [List.mem_map] at hx
  obtain ⟨c, _, rfl⟩ := hx
  exact upC_out c
theorem upper_up {l : List UInt8} (h : ∀ x ∈ l, ¬ (97 ≤ x.toNat ∧ x.toNat ≤ 122)) : upperF l = l := by
  induction l with
  | nil => rfl
  | cons c r ih =>
    show upC c :: upperF r = c :: r
    rw [upC_same (h c (by simp)), ih (fun x hx => h x (by simp [hx]))]
theorem upper_two (l : List UInt8) : upperF (upperF l) = upperF l := upper_up (upper_out l)
theorem upper_app (a b : List UInt8) : upperF (a ++ b) = upperF a ++ upperF b := by simp [upperF]
set_option maxRecDepth 100000 in
set_option maxHeartbeats 8000000 in
theorem lupper_big (s t : List UInt8) (w : World) (h1 : (200 : Int) < (s.length : Int)) :
    Calls Try.prog 6 #[.string (strB s), .string (strB t)] w fun e w' => e = .returned (.bool true) ∧ Below w.heap.size w w' := by
  have hsz : (strB s).size = s.length := rfl
  have htz : (strB t).size = t.length := rfl
  go_enter Try.func6, Try.ntmps6
  have B0 : Hid (Below w.heap.size w w) := Below.refl _ _
  go_wp2_with fail
  refine (shown_any8 _).mono ?_
  rintro e w1 ⟨rfl, bb⟩
  have B1 := Lib.hid (below_then B0.out bb)
  clear bb B0
  go_wp2_with fail
  go_ret
  exact ⟨rfl, B1.out⟩
set_option maxRecDepth 100000 in
set_option maxHeartbeats 8000000 in
theorem lupper_big2 (s t : List UInt8) (w : World) (h1 : decide ((200 : Int) < (s.length : Int)) = false) (h2 : (200 : Int) < (t.length : Int)) :
    Calls Try.prog 6 #[.string (strB s), .string (strB t)] w fun e w' => e = .returned (.bool true) ∧ Below w.heap.size w w' := by
  have hsz : (strB s).size = s.length := rfl
  have htz : (strB t).size = t.length := rfl
  go_enter Try.func6, Try.ntmps6
  have B0 : Hid (Below w.heap.size w w) := Below.refl _ _
  go_wp2_with fail
  refine (shown_any8 _).mono ?_
  rintro e w1 ⟨rfl, bb⟩
  have B1 := Lib.hid (below_then B0.out bb)
  clear bb B0
  go_wp2_with fail
  go_ret
  exact ⟨rfl, B1.out⟩
set_option maxRecDepth 100000 in
set_option maxHeartbeats 8000000 in
theorem lupper_yes (s t X Y : List UInt8) (w : World) (h1 : decide ((200 : Int) < (s.length : Int)) = false) (h2 : decide ((200 : Int) < (t.length : Int)) = false) (hs : s.length ≤ 200) (ht : t.length ≤ 200) (eX : upperF s = X) (eY : upperF t = Y) (hk : upperF s = upperF t) :
    Calls Try.prog 6 #[.string (strB s), .string (strB t)] w fun e w' => e = .returned (.bool true) ∧ Below w.heap.size w w' := by
  have hsz : (strB s).size = s.length := rfl
  have htz : (strB t).size = t.length := rfl
  have hsX : (strB X).size = X.length := rfl
  have hsY : (strB Y).size = Y.length := rfl
  have HNC : Hid (∀ x ∈ X, ¬ (97 ≤ x.toNat ∧ x.toNat ≤ 122)) := by rw [← eX]; exact upper_out s
  have HX : Hid (strB (upperF s) = strB X) := by show _ = _; rw [eX]
  have HXX : Hid (strB (upperF X) = strB X) := by show _ = _; rw [← eX, upper_two]
  have HSX : Hid (alikeF s X = true) := by show _ = _; apply alike_yes; rw [← eX, upper_two]
  have HZ : Hid (strB (upperF (s ++ t)) = strB (X ++ Y)) := by show _ = _; rw [upper_app, eX, eY]
  have HST : Hid ((s ++ t).length ≤ 100000) := by show _ ≤ _; simp; omega
  have hlx : X.length = s.length := by rw [← eX]; exact upper_len s
  have hly : Y.length = t.length := by rw [← eY]; exact upper_len t
  have hap : strB s ++ strB t = strB (s ++ t) := strB_app s t
  have hap2 : strB X ++ strB Y = strB (X ++ Y) := strB_app X Y
  have hcat := cat_ok (a := s) (b := t) (by omega)
  have hcat2 := cat_ok (a := X) (b := Y) (by omega)
  have hlen : ((X.length : Int) == (s.length : Int)) = true := by simp; omega
  have hX2 : X.length ≤ 200 := by omega
  have hY2 : Y.length ≤ 200 := by omega
  have hXY : X = Y := by rw [← eX, ← eY, hk]
  have HK : Hid (alikeF s t = true) := alike_yes hk
  have hst : ((s.length : Int) == (t.length : Int)) = true := by simp; rw [← hlx, ← hly, hXY]
  have HY : Hid (strB (upperF t) = strB X) := by show _ = _; rw [eY, hXY]
  rw [← hXY] at hap2 hcat2 HZ
  clear eX eY hk hsY hly hlx hXY
  go_enter Try.func6, Try.ntmps6
  have B0 : Hid (Below w.heap.size w w) := Below.refl _ _
  go_wp2_with fail
  refine (shown_any8 _).mono ?_
  rintro e w1 ⟨rfl, bb⟩
  have B1 := Lib.hid (below_then B0.out bb)
  clear bb B0
  go_wp2_with fail
  refine (upper_any s _ (by omega)).mono ?_
  rw [HX.out]
  rintro e w2 ⟨rfl, bb⟩
  have B2 := Lib.hid (below_then B1.out bb)
  clear bb B1
  go_wp2_with fail
  go_loopw [7] (fun s1 wr => ∃ (i : Nat), s1 = .int .i64 (i : Int) ∧ i ≤ X.length ∧ Hid (Below w.heap.size w wr)) (fun s1 _ => X.length - (intOf s1).toNat)
  case atStart => exact ⟨0, rfl, Nat.zero_le _, B2⟩
  case round =>
    clear B2
    obtain ⟨i, rfl, hi, HB⟩ := hrel
    by_cases hil : i < X.length
    · have hil' : (i : Int) < (X.length : Int) := by omega
      obtain ⟨x, hx⟩ : ∃ c, X[i]? = some c := ⟨_, List.getElem?_eq_getElem hil⟩
      have ixi := ix_at X i x hx
      have hxr := HNC.out x (List.mem_of_getElem? hx)
      clear hx
      by_cases h97 : 97 ≤ x.toNat
      · have g97 : (97 : Int) ≤ (x.toNat : Int) := by omega
        have g122 : decide ((x.toNat : Int) ≤ 122) = false := by simp; omega
        clear h97 hxr
        go_wp2_with fail
        go_roundw
        case rel => exact ⟨i + 1, by simp, by omega, HB⟩
        case measure => simp [intOf]; omega
      · have g97 : decide ((97 : Int) ≤ (x.toNat : Int)) = false := by simp; omega
        clear h97 hxr
        go_wp2_with fail
        go_roundw
        case rel => exact ⟨i + 1, by simp, by omega, HB⟩
        case measure => simp [intOf]; omega
    · have hil' : decide ((i : Int) < (X.length : Int)) = false := by simp; omega
      have hil2 : X.length ≤ i := by omega
      clear hil
      have B3 := HB
      clear HB
      go_wp2_with fail
      refine (upper_any X _ (by omega)).mono ?_
      rw [HXX.out]
      rintro e w4 ⟨rfl, bb⟩
      have B4 := Lib.hid (below_then B3.out bb)
      clear bb B3
      go_wp2_with fail
      refine (alike_any s X _ (by omega) (by omega)).mono ?_
      rw [HSX.out]
      rintro e w5 ⟨rfl, bb⟩
      have B5 := Lib.hid (below_then B4.out bb)
      clear bb B4
      go_wp2_with fail
      refine (alike_any s t _ (by omega) (by omega)).mono ?_
      rw [HK.out]
      rintro e w6 ⟨rfl, bb⟩
      have B6 := Lib.hid (below_then B5.out bb)
      clear bb B5
      go_wp2_with fail
      refine (upper_any t _ (by omega)).mono ?_
      rw [HY.out]
      rintro e w7 ⟨rfl, bb⟩
      have B7 := Lib.hid (below_then B6.out bb)
      clear bb B6
      go_wp2_with fail
      refine (alike_any s t _ (by omega) (by omega)).mono ?_
      rw [HK.out]
      rintro e w8 ⟨rfl, bb⟩
      have B8 := Lib.hid (below_then B7.out bb)
      clear bb B7
      go_wp2_with fail
      refine (upper_any (s ++ t) _ HST.out).mono ?_
      rw [HZ.out]
      rintro e w9 ⟨rfl, bb⟩
      have B9 := Lib.hid (below_then B8.out bb)
      clear bb B8
      go_wp2_with fail
      refine (upper_any t _ (by omega)).mono ?_
      rw [HY.out]
      rintro e w10 ⟨rfl, bb⟩
      have B10 := Lib.hid (below_then B9.out bb)
      clear bb B9
      go_wp2_with fail
      go_ret
      exact ⟨rfl, B10.out⟩
set_option maxRecDepth 100000 in
set_option maxHeartbeats 8000000 in
theorem lupper_no (s t X Y : List UInt8) (w : World) (h1 : decide ((200 : Int) < (s.length : Int)) = false) (h2 : decide ((200 : Int) < (t.length : Int)) = false) (hs : s.length ≤ 200) (ht : t.length ≤ 200) (eX : upperF s = X) (eY : upperF t = Y) (hk : ¬ upperF s = upperF t) :
    Calls Try.prog 6 #[.string (strB s), .string (strB t)] w fun e w' => e = .returned (.bool true) ∧ Below w.heap.size w w' := by
  have hsz : (strB s).size = s.length := rfl
  have htz : (strB t).size = t.length := rfl
  have hsX : (strB X).size = X.length := rfl
  have hsY : (strB Y).size = Y.length := rfl
  have HNC : Hid (∀ x ∈ X, ¬ (97 ≤ x.toNat ∧ x.toNat ≤ 122)) := by rw [← eX]; exact upper_out s
  have HX : Hid (strB (upperF s) = strB X) := by show _ = _; rw [eX]
  have HXX : Hid (strB (upperF X) = strB X) := by show _ = _; rw [← eX, upper_two]
  have HSX : Hid (alikeF s X = true) := by show _ = _; apply alike_yes; rw [← eX, upper_two]
  have HZ : Hid (strB (upperF (s ++ t)) = strB (X ++ Y)) := by show _ = _; rw [upper_app, eX, eY]
  have HST : Hid ((s ++ t).length ≤ 100000) := by show _ ≤ _; simp; omega
  have hlx : X.length = s.length := by rw [← eX]; exact upper_len s
  have hly : Y.length = t.length := by rw [← eY]; exact upper_len t
  have hap : strB s ++ strB t = strB (s ++ t) := strB_app s t
  have hap2 : strB X ++ strB Y = strB (X ++ Y) := strB_app X Y
  have hcat := cat_ok (a := s) (b := t) (by omega)
  have hcat2 := cat_ok (a := X) (b := Y) (by omega)
  have hlen : ((X.length : Int) == (s.length : Int)) = true := by simp; omega
  have hX2 : X.length ≤ 200 := by omega
  have hY2 : Y.length ≤ 200 := by omega
  have HK : Hid (alikeF s t = false) := alike_no hk
  have hne := str_ne (a := strB X) (b := strB Y) (fun e => hk (by rw [eX, eY]; exact strB_inj e))
  have HY : Hid (strB (upperF t) = strB Y) := by show _ = _; rw [eY]
  clear eX eY hk hlx hly
  go_enter Try.func6, Try.ntmps6
  have B0 : Hid (Below w.heap.size w w) := Below.refl _ _
  go_wp2_with fail
  refine (shown_any8 _).mono ?_
  rintro e w1 ⟨rfl, bb⟩
  have B1 := Lib.hid (below_then B0.out bb)
  clear bb B0
  go_wp2_with fail
  refine (upper_any s _ (by omega)).mono ?_
  rw [HX.out]
  rintro e w2 ⟨rfl, bb⟩
  have B2 := Lib.hid (below_then B1.out bb)
  clear bb B1
  go_wp2_with fail
  go_loopw [7] (fun s1 wr => ∃ (i : Nat), s1 = .int .i64 (i : Int) ∧ i ≤ X.length ∧ Hid (Below w.heap.size w wr)) (fun s1 _ => X.length - (intOf s1).toNat)
  case atStart => exact ⟨0, rfl, Nat.zero_le _, B2⟩
  case round =>
    clear B2
    obtain ⟨i, rfl, hi, HB⟩ := hrel
    by_cases hil : i < X.length
    · have hil' : (i : Int) < (X.length : Int) := by omega
      obtain ⟨x, hx⟩ : ∃ c, X[i]? = some c := ⟨_, List.getElem?_eq_getElem hil⟩
      have ixi := ix_at X i x hx
      have hxr := HNC.out x (List.mem_of_getElem? hx)
      clear hx
      by_cases h97 : 97 ≤ x.toNat
      · have g97 : (97 : Int) ≤ (x.toNat : Int) := by omega
        have g122 : decide ((x.toNat : Int) ≤ 122) = false := by simp; omega
        clear h97 hxr
        go_wp2_with fail
        go_roundw
        case rel => exact ⟨i + 1, by simp, by omega, HB⟩
        case measure => simp [intOf]; omega
      · have g97 : decide ((97 : Int) ≤ (x.toNat : Int)) = false := by simp; omega
        clear h97 hxr
        go_wp2_with fail
        go_roundw
        case rel => exact ⟨i + 1, by simp, by omega, HB⟩
        case measure => simp [intOf]; omega
    · have hil' : decide ((i : Int) < (X.length : Int)) = false := by simp; omega
      have hil2 : X.length ≤ i := by omega
      clear hil
      have B3 := HB
      clear HB
      go_wp2_with fail
      refine (upper_any X _ (by omega)).mono ?_
      rw [HXX.out]
      rintro e w4 ⟨rfl, bb⟩
      have B4 := Lib.hid (below_then B3.out bb)
      clear bb B3
      go_wp2_with fail
      refine (alike_any s X _ (by omega) (by omega)).mono ?_
      rw [HSX.out]
      rintro e w5 ⟨rfl, bb⟩
      have B5 := Lib.hid (below_then B4.out bb)
      clear bb B4
      go_wp2_with fail
      refine (alike_any s t _ (by omega) (by omega)).mono ?_
      rw [HK.out]
      rintro e w6 ⟨rfl, bb⟩
      have B6 := Lib.hid (below_then B5.out bb)
      clear bb B5
      go_wp2_with fail
      refine (upper_any t _ (by omega)).mono ?_
      rw [HY.out]
      rintro e w7 ⟨rfl, bb⟩
      have B7 := Lib.hid (below_then B6.out bb)
      clear bb B6
      go_wp2_with fail
      refine (alike_any s t _ (by omega) (by omega)).mono ?_
      rw [HK.out]
      rintro e w8 ⟨rfl, bb⟩
      have B8 := Lib.hid (below_then B7.out bb)
      clear bb B7
      go_wp2_with fail
      refine (upper_any (s ++ t) _ HST.out).mono ?_
      rw [HZ.out]
      rintro e w9 ⟨rfl, bb⟩
      have B9 := Lib.hid (below_then B8.out bb)
      clear bb B8
      go_wp2_with fail
      refine (upper_any t _ (by omega)).mono ?_
      rw [HY.out]
      rintro e w10 ⟨rfl, bb⟩
      have B10 := Lib.hid (below_then B9.out bb)
      clear bb B9
      go_wp2_with fail
      go_ret
      exact ⟨rfl, B10.out⟩
theorem lupper_any (s t : List UInt8) (w : World) :
    Calls Try.prog 6 #[.string (strB s), .string (strB t)] w fun e w' => e = .returned (.bool true) ∧ Below w.heap.size w w' := by
  by_cases h1 : (200 : Int) < (s.length : Int)
  · exact lupper_big s t w h1
  · have h1' : decide ((200 : Int) < (s.length : Int)) = false := by simpa using h1
    by_cases h2 : (200 : Int) < (t.length : Int)
    · exact lupper_big2 s t w h1' h2
    · have h2' : decide ((200 : Int) < (t.length : Int)) = false := by simpa using h2
      by_cases hk : upperF s = upperF t
      · exact lupper_yes s t _ _ w h1' h2' (by omega) (by omega) rfl rfl hk
      · exact lupper_no s t _ _ w h1' h2' (by omega) (by omega) rfl rfl hk
end Go.Proofs.Ytakeaocmiblbeaa
