/- Contracts of the document's Upper, Alike, Same. -/
import Derived.Test.YtakeaocmiblbeaaLexRefB
namespace Go.Proofs.Ytakeaocmiblbeaa
open Go.RowKit
set_option linter.unusedVariables false
set_option linter.unusedSimpArgs false

set_option maxRecDepth 100000 in
set_option maxHeartbeats 4000000 in
theorem rupper_any (l : List UInt8) (w : World) (hl : l.length ≤ 100000) : Calls Try.prog 18 #[.string (strB l)] w fun e w' => e = .returned (.string (strB (upperF l))) ∧ Below w.heap.size w w' := by
  have hsz : (strB l).size = l.length := rfl
  go_enter Try.func18, Try.ntmps18
  go_wp2_with fail
  go_loopw [3, 4] (fun s3 s4 wr => ∃ (k : Nat), s3 = .string (strB (upperF (l.take k))) ∧ s4 = .int .i64 (k : Int) ∧ k ≤ l.length ∧ Hid (Below w.heap.size w wr)) (fun _ s4 _ => l.length - (intOf s4).toNat)
  case atStart => exact ⟨0, rfl, rfl, Nat.zero_le _, Lib.hid (Below.refl _ _)⟩
  case round =>
    obtain ⟨k, rfl, rfl, hk, HB⟩ := hrel
    by_cases hkl : k < l.length
    · have hkl' : (k : Int) < (l.length : Int) := by omega
      obtain ⟨c, hc⟩ : ∃ c, l[k]? = some c := ⟨_, List.getElem?_eq_getElem hkl⟩
      have ixk := ix_at l k c hc
      have HS := Lib.hid (upper_step hc)
      have hlen : (upperF (l.take k)).length = k := by rw [upper_len, List.length_take]; omega
      obtain ⟨u, eu⟩ : ∃ u, upperF (l.take k) = u := ⟨_, rfl⟩
      rw [eu] at HS hlen ⊢
      have hap : strB u ++ strB [upC c] = strB (u ++ [upC c]) := strB_app u [upC c]
      have hcat := cat_ok (a := u) (b := [upC c]) (by simp; omega)
      have hcv := conv_one (upC c) wr
      clear hc eu hlen
      by_cases h97 : 97 ≤ c.toNat
      · have g97 : (97 : Int) ≤ (c.toNat : Int) := by omega
        by_cases h122 : c.toNat ≤ 122
        · have g122 : (c.toNat : Int) ≤ 122 := by omega
          have hx := upC_low h97 h122
          have hx2 : ((c.toNat : Int) - 32) % 256 = ((upC c).toNat : Int) := by omega
          rw [hx] at hcv
          obtain ⟨x, ex⟩ : ∃ x, upC c = x := ⟨_, rfl⟩
          rw [ex] at hap hcat hcv hx hx2 HS
          have hx3 : ((c.toNat : Int) - 32) = (x.toNat : Int) := hx.symm
          rw [hx3] at hcv
          have hx4 : (x.toNat : Int) % 256 = (x.toNat : Int) := by have := x.toNat_lt; omega
          have hx5 : IntKind.u8.wrap (x.toNat : Int) = (x.toNat : Int) := by rw [IntKind.wrap_u8]; exact hx4
          clear ex h97 h122 hx hx2
          go_wp2_with fail
          go_roundw
          case rel => exact ⟨k + 1, by rw [HS.out], by simp, by omega, Lib.hid (alloc_then HB.out)⟩
          case measure => simp [intOf]; omega
        · have g122 : decide ((c.toNat : Int) ≤ 122) = false := by simp; omega
          rw [upC_same (by omega)] at hap hcat hcv HS
          clear h97 h122
          go_wp2_with fail
          go_roundw
          case rel => exact ⟨k + 1, by rw [HS.out], by simp, by omega, Lib.hid (alloc_then HB.out)⟩
          case measure => simp [intOf]; omega
      · have g97 : decide ((97 : Int) ≤ (c.toNat : Int)) = false := by simp; omega
        rw [upC_same (by omega)] at hap hcat hcv HS
        clear h97
        go_wp2_with fail
        go_roundw
        case rel => exact ⟨k + 1, by rw [HS.out], by simp, by omega, Lib.hid (alloc_then HB.out)⟩
        case measure => simp [intOf]; omega
    · obtain rfl : k = l.length := by omega
      have HT : Hid (l.take l.length = l) := List.take_length
      clear hkl hk
      go_wp2_with fail
      go_ret
      exact ⟨by rw [HT.out]; rfl, HB.out⟩

theorem alike_yes {a b : List UInt8} (h : upperF a = upperF b) : alikeF a b = true := by unfold alikeF; simpa using h
theorem alike_no {a b : List UInt8} (h : ¬ upperF a = upperF b) : alikeF a b = false := by unfold alikeF; simpa using h
set_option maxRecDepth 100000 in
theorem ralike_any (a b : List UInt8) (w : World) (ha : a.length ≤ 100000) (hb : b.length ≤ 100000) : Calls Try.prog 20 #[.string (strB a), .string (strB b)] w fun e w' => e = .returned (.bool (alikeF a b)) ∧ Below w.heap.size w w' := by
  have HA := Lib.hid (fun w => rupper_any a w ha)
  have HB := Lib.hid (fun w => rupper_any b w hb)
  clear ha hb
  by_cases he : upperF a = upperF b
  · have H : Hid (alikeF a b = true) := alike_yes he
    rw [H.out]
    rw [he] at HA
    clear he
    go_enter Try.func20, Try.ntmps20
    go_wp2_with fail
    refine (HA.out _).mono ?_
    rintro e w1 ⟨rfl, b1⟩
    go_wp2_with fail
    refine (HB.out _).mono ?_
    rintro e w2 ⟨rfl, b2⟩
    go_wp2_with fail
    go_ret
    exact ⟨rfl, below_then b1 b2⟩
  · have H : Hid (alikeF a b = false) := alike_no he
    have hne := str_ne (a := strB (upperF a)) (b := strB (upperF b)) (fun e => he (strB_inj e))
    rw [H.out]
    clear he
    go_enter Try.func20, Try.ntmps20
    go_wp2_with fail
    refine (HA.out _).mono ?_
    rintro e w1 ⟨rfl, b1⟩
    go_wp2_with fail
    refine (HB.out _).mono ?_
    rintro e w2 ⟨rfl, b2⟩
    go_wp2_with fail
    go_ret
    exact ⟨rfl, below_then b1 b2⟩

def sameR (a b : List (List UInt8)) : Bool := decide (a = b)
theorem sameR_refl (a : List (List UInt8)) : sameR a a = true := by unfold sameR; simp
set_option maxRecDepth 100000 in
set_option maxHeartbeats 4000000 in
theorem rsame_any (A A' : Option Addr) (n c n' c' : Nat) (a b : List (List UInt8)) (w : World) (h : Sts w (.slice A n c) a) (h' : Sts w (.slice A' n' c') b) (ha : a.length ≤ 100000) :
    Calls Try.prog 14 #[.slice A n c, .slice A' n' c'] w fun e w' => e = .returned (.bool (sameR a b)) ∧ Below w.heap.size w w' := by
  have ea := h.len
  have eb := h'.len
  subst ea eb
  by_cases hl : a.length = b.length
  · have hl' : ((a.length : Int) != (b.length : Int)) = false := by simp [hl]
    have hl2 : ((a.length : Int) == (b.length : Int)) = true := by simp [hl]
    have HA := Lib.hid h
    have HB := Lib.hid h'
    have HLN := Lib.hid hl
    clear h h' hl
    go_enter Try.func14, Try.ntmps14
    go_wp2_with fail
    go_loopw [5] (fun s5 wr => ∃ (k : Nat), s5 = .int .i64 (k : Int) ∧ k ≤ a.length ∧ Hid (a.take k = b.take k) ∧ Hid (Below w.heap.size w wr)) (fun s5 _ => a.length - (intOf s5).toNat)
    case atStart => exact ⟨0, rfl, Nat.zero_le _, Lib.hid rfl, Lib.hid (Below.refl _ _)⟩
    case round =>
      obtain ⟨k, rfl, hk, HT, HW⟩ := hrel
      by_cases hka : k < a.length
      · have hkb : k < b.length := by have := HLN.out; omega
        have hka' : (k : Int) < (a.length : Int) := by omega
        have hkb' : (k : Int) < (b.length : Int) := by omega
        obtain ⟨g, o, hA, hc⟩ := sts_cell (HA.out.keep HW.out) hka
        obtain ⟨g', o', hA', hc'⟩ := sts_cell (HB.out.keep HW.out) hkb
        have hx := List.getElem?_eq_getElem hka
        have hy := List.getElem?_eq_getElem hkb
        obtain ⟨x, ex⟩ : ∃ x, a[k] = x := ⟨_, rfl⟩
        obtain ⟨y, ey⟩ : ∃ y, b[k] = y := ⟨_, rfl⟩
        rw [ex] at hc hx
        rw [ey] at hc' hy
        subst hA hA'
        have HWd := Lib.hid fun i => below_then HW.out (drewN_below wr i)
        by_cases he : x = y
        · subst he
          have HT2 : Hid (a.take (k + 1) = b.take (k + 1)) := by show _ = _; rw [List.take_add_one, List.take_add_one, HT.out, hx, hy]
          clear hx hy ex ey HA HB HT
          go_wp2_with fail
          go_quiet (fail)
          go_wp2_with fail
          go_roundw
          case rel => exact ⟨k + 1, by simp, by omega, HT2, Lib.hid (HWd.out _)⟩
          case measure => simp [intOf]; omega
        · have H : Hid (sameR a b = false) := by
            show _ = _
            unfold sameR
            rw [decide_eq_false_iff_not]
            intro e
            rw [e, hy] at hx
            injection hx with hx
            exact he hx.symm
          have hne := str_ne (a := strB x) (b := strB y) (fun e => he (strB_inj e))
          have hne2 := str_neq (a := strB x) (b := strB y) (fun e => he (strB_inj e))
          clear hx hy ex ey HA HB HT he
          go_wp2_with fail
          go_quiet (fail)
          go_wp2_with fail
          go_ret
          exact ⟨by rw [H.out]; rfl, HWd.out _⟩
      · obtain rfl : k = a.length := by omega
        have H : Hid (sameR a b = true) := by
          have ht := HT.out
          have hl := HLN.out
          show _ = _
          unfold sameR
          rw [List.take_length, hl, List.take_length] at ht
          simpa using ht
        have hkl : decide ((a.length : Int) < (a.length : Int)) = false := by simp
        clear hka hk HT HA HB
        go_wp2_with fail
        go_ret
        exact ⟨by rw [H.out]; rfl, HW.out⟩
  · have H : Hid (sameR a b = false) := by show _ = _; unfold sameR; simp; intro e; rw [e] at hl; exact hl rfl
    rw [H.out]
    have hl' : ((a.length : Int) != (b.length : Int)) = true := by simp; omega
    have hl2 : ((a.length : Int) == (b.length : Int)) = false := by simp; omega
    have hl3 : ¬ (a.length : Int) = (b.length : Int) := by omega
    clear h h' hl ha
    go_enter Try.func14, Try.ntmps14
    go_wp2_with fail
    go_ret
    exact ⟨rfl, Below.refl _ _⟩
end Go.Proofs.Ytakeaocmiblbeaa
