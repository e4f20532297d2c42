/- The walk of NumDigits: all ways. -/
import Derived.Test.YtlkjopbgobkgmaaNumDigitsA
namespace Go.Proofs.Ytlkjopbgobkgmaa
open Go.RowKit
set_option linter.unusedVariables false
set_option linter.unusedSimpArgs false

theorem par_some {l : List UInt8} {b : Int} (h : parB l b = true) : parseF l b = some (parN l b) := by
  unfold parB at h
  unfold parN
  cases e : parseF l b with
  | none => rw [e] at h; cases h
  | some n => rfl
theorem parB_of {l : List UInt8} {b : Int} {o : Option Int} (h : parseF l b = o) : parB l b = o.isSome ∧ parN l b = o.getD 0 := by unfold parB parN; rw [h]; exact ⟨rfl, rfl⟩

theorem digits_walk6 (dn : Nat) (b : Int) (l : List UInt8) (w : World) (hd : dn < 256) (hl : l.length ≤ 9223372036854775807) :
    Calls Try.prog 6 #[.int .u8 (dn : Int), .int .i64 b, .string (strB l)] w fun e w' => e = .returned (.bool true) ∧ Below w.heap.size w w' := by
  by_cases h60 : 60 < l.length
  · exact digits_early dn b l w hd hl (.inl h60)
  cases hb : baseB b with
  | false => exact digits_early dn b l w hd hl (.inr ⟨by omega, hb⟩)
  | true =>
    obtain ⟨b2, b36⟩ := (baseB_iff b).1 hb
    obtain ⟨kk, hkk⟩ : ∃ k, dn % 36 = k := ⟨_, rfl⟩
    have hk : kk < 36 := by omega
    have hm : (dn : Int) % 36 = (kk : Int) := by omega
    obtain ⟨x, hx⟩ : ∃ x, UInt8.ofNat (digN kk) = x := ⟨_, rfl⟩
    have HG : digF (kk : Int) = (x.toNat : Int) := by rw [← hx]; exact dig_u8 kk
    have hwx : wN x.toNat = kk := by rw [← hx, digN_u8, wN_dig (by omega)]
    have h6 : l.length ≤ 60 := by omega
    have hnil : ∀ h : parB l b = true, l ≠ [] := by
      intro h e
      rw [e] at h
      unfold parB at h
      rw [parse_nil] at h
      cases h
    cases hw : isW x.toNat b with
    | true =>
      have hlt : decide ((kk : Int) < b) = true := by have := (isW_iff _ _).1 hw; rw [hwx] at this; simp; omega
      have HW : worthF x.toNat b = (kk : Int) := by unfold worthF; rw [if_pos hw, hwx]
      cases hp : parB l b with
      | false => exact digits_none_t dn b l w hd hl kk x _ _ true h6 b2 b36 hm hk HG HW hw hlt rfl rfl _ rfl hp
      | true =>
        have hne := hnil hp
        obtain ⟨c0, r, rfl⟩ : ∃ c r, l = c :: r := by
          cases l with
          | nil => exact absurd rfl hne
          | cons c r => exact ⟨c, r, rfl⟩
        have hps := par_some hp
        have hse : ((strB (c0 :: r)).toList == (⟨#[]⟩ : ByteArray).toList) = false := str_ne (fun e => by have := congrArg ByteArray.size e; simp [strB, ByteArray.size] at this)
        by_cases c35 : c0 = 35
        · exact digits_35_t dn b (c0 :: r) w hd hl kk x _ _ true h6 b2 b36 hm hk HG HW hw hlt rfl rfl _ c0 rfl hp rfl hse (by rw [c35]; rfl)
        by_cases c36 : c0 = 36
        · exact digits_36_t dn b (c0 :: r) w hd hl kk x _ _ true h6 b2 b36 hm hk HG HW hw hlt rfl rfl _ c0 rfl hp rfl hse (by rw [c36]; rfl)
        by_cases c37 : c0 = 37
        · exact digits_37_t dn b (c0 :: r) w hd hl kk x _ _ true h6 b2 b36 hm hk HG HW hw hlt rfl rfl _ c0 rfl hp rfl hse (by rw [c37]; rfl)
        by_cases c39 : c0 = 39
        · exact digits_39_t dn b (c0 :: r) w hd hl kk x _ _ true h6 b2 b36 hm hk HG HW hw hlt rfl rfl _ c0 rfl hp rfl hse (by rw [c39]; rfl)
        by_cases c45 : c0 = 45
        · subst c45
          have hm2 := parB_of (more_min (x := x) hps)
          rw [if_pos hw, hwx] at hm2
          exact digits_45_t dn b (45 :: r) w hd hl kk x _ _ true h6 b2 b36 hm hk HG HW hw hlt rfl rfl _ 45 rfl hp rfl hse (by rfl) hm2.1 hm2.2
        · have hm2 := parB_of (more_plain (x := x) ⟨c35, c36, c37, c39, c45⟩ hps)
          rw [if_pos hw, hwx] at hm2
          exact digits_pl_t dn b (c0 :: r) w hd hl kk x _ _ true h6 b2 b36 hm hk HG HW hw hlt rfl rfl _ c0 rfl hp rfl hse (u8_ne (k := 35) (by omega) c35) (u8_ne (k := 36) (by omega) c36) (u8_ne (k := 37) (by omega) c37) (u8_ne (k := 39) (by omega) c39) (u8_ne (k := 45) (by omega) c45) hm2.1 hm2.2
    | false =>
      have hlt : decide ((kk : Int) < b) = false := by have := (isW_no _ _).1 hw; rw [hwx] at this; simp; omega
      have HW : worthF x.toNat b = 0 := by unfold worthF; rw [if_neg (by simp [hw])]
      cases hp : parB l b with
      | false => exact digits_none_f dn b l w hd hl kk x _ _ true h6 b2 b36 hm hk HG HW hw hlt rfl rfl _ rfl hp
      | true =>
        have hne := hnil hp
        obtain ⟨c0, r, rfl⟩ : ∃ c r, l = c :: r := by
          cases l with
          | nil => exact absurd rfl hne
          | cons c r => exact ⟨c, r, rfl⟩
        have hps := par_some hp
        have hse : ((strB (c0 :: r)).toList == (⟨#[]⟩ : ByteArray).toList) = false := str_ne (fun e => by have := congrArg ByteArray.size e; simp [strB, ByteArray.size] at this)
        by_cases c35 : c0 = 35
        · exact digits_35_f dn b (c0 :: r) w hd hl kk x _ _ true h6 b2 b36 hm hk HG HW hw hlt rfl rfl _ c0 rfl hp rfl hse (by rw [c35]; rfl)
        by_cases c36 : c0 = 36
        · exact digits_36_f dn b (c0 :: r) w hd hl kk x _ _ true h6 b2 b36 hm hk HG HW hw hlt rfl rfl _ c0 rfl hp rfl hse (by rw [c36]; rfl)
        by_cases c37 : c0 = 37
        · exact digits_37_f dn b (c0 :: r) w hd hl kk x _ _ true h6 b2 b36 hm hk HG HW hw hlt rfl rfl _ c0 rfl hp rfl hse (by rw [c37]; rfl)
        by_cases c39 : c0 = 39
        · exact digits_39_f dn b (c0 :: r) w hd hl kk x _ _ true h6 b2 b36 hm hk HG HW hw hlt rfl rfl _ c0 rfl hp rfl hse (by rw [c39]; rfl)
        by_cases c45 : c0 = 45
        · subst c45
          have hm2 := parB_of (more_min (x := x) hps)
          rw [if_neg (by simp [hw])] at hm2
          exact digits_45_f dn b (45 :: r) w hd hl kk x _ _ true h6 b2 b36 hm hk HG HW hw hlt rfl rfl _ 45 rfl hp rfl hse (by rfl) hm2.1
        · have hm2 := parB_of (more_plain (x := x) ⟨c35, c36, c37, c39, c45⟩ hps)
          rw [if_neg (by simp [hw])] at hm2
          exact digits_pl_f dn b (c0 :: r) w hd hl kk x _ _ true h6 b2 b36 hm hk HG HW hw hlt rfl rfl _ c0 rfl hp rfl hse (u8_ne (k := 35) (by omega) c35) (u8_ne (k := 36) (by omega) c36) (u8_ne (k := 37) (by omega) c37) (u8_ne (k := 39) (by omega) c39) (u8_ne (k := 45) (by omega) c45) hm2.1
theorem digits_any6 (d b : Int) (l : List UInt8) (w : World) (hd : 0 ≤ d ∧ d ≤ 255) (hl : l.length ≤ 9223372036854775807) :
    Calls Try.prog 6 #[.int .u8 d, .int .i64 b, .string (strB l)] w fun e w' => e = .returned (.bool true) ∧ Below w.heap.size w w' := by
  obtain ⟨k, rfl⟩ := Int.eq_ofNat_of_zero_le hd.1
  exact digits_walk6 k b l w (by omega) hl
end Go.Proofs.Ytlkjopbgobkgmaa
