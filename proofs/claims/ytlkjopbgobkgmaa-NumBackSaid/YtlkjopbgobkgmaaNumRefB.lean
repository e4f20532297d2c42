/- Contracts of the document's UShow and Show. -/
import Derived.Test.YtlkjopbgobkgmaaNumRefA
namespace Go.Proofs.Ytlkjopbgobkgmaa
open Go.RowKit
set_option linter.unusedVariables false
set_option linter.unusedSimpArgs false

theorem dig_u8 (n : Nat) : digF (n : Int) = ((UInt8.ofNat (digN n)).toNat : Int) := by
  unfold digF
  rw [if_pos (by omega), digN_u8, Int.toNat_natCast]
/-- What is there yet of a number's text, and what comes ahead of it. -/
def Rest (b u0 u : Nat) (l : List UInt8) : Prop := (b ≤ u → usF b u0 = usF b (u / b) ++ l) ∧ (u < b → usF b u0 = l)
theorem rest_zero {b : Nat} (h2 : 2 ≤ b) (u : Nat) : Rest b u u [UInt8.ofNat (digN (u % b))] :=
  ⟨fun h => usF_big h2 h, fun h => by rw [usF_low h, Nat.mod_eq_of_lt h]⟩
theorem Rest.step {b u0 u : Nat} {l : List UInt8} (h2 : 2 ≤ b) (h : Rest b u0 u l) (hu : b ≤ u) : Rest b u0 (u / b) (UInt8.ofNat (digN (u / b % b)) :: l) := by
  have e := h.1 hu
  refine ⟨fun h => ?_, fun h => ?_⟩
  · rw [e, usF_big h2 h, List.append_assoc]
    rfl
  · rw [e, usF_low h, Nat.mod_eq_of_lt h]
    rfl
theorem us_le {b : Nat} (h2 : 2 ≤ b) : ∀ j u, u < 2 ^ (j + 1) → (usF b u).length ≤ j + 1 := by
  intro j
  induction j with
  | zero =>
    intro u hu
    rw [usF_low (by omega)]
    simp
  | succ j ih =>
    intro u hu
    by_cases h : b ≤ u
    · rw [usF_big h2 h, List.length_append]
      have hd : u / b < 2 ^ (j + 1) := by
        rw [Nat.div_lt_iff_lt_mul (by omega)]
        have e : 2 ^ (j + 1 + 1) = 2 ^ (j + 1) * 2 := Nat.pow_succ _ _
        have : 2 ^ (j + 1) * 2 ≤ 2 ^ (j + 1) * b := Nat.mul_le_mul_left _ h2
        omega
      have := ih _ hd
      simp
      omega
    · rw [usF_low (by omega)]
      simp
theorem Rest.len {b u0 u : Nat} {l : List UInt8} (h2 : 2 ≤ b) (h : Rest b u0 u l) (h0 : u0 < 18446744073709551616) : l.length ≤ 64 := by
  have hl := us_le h2 63 u0 (by omega)
  by_cases hu : b ≤ u
  · rw [h.1 hu, List.length_append] at hl
    omega
  · rw [h.2 (by omega)] at hl
    exact hl
theorem cat_ok {a b : List UInt8} (h : a.length + b.length ≤ 9223372036854775807) : ¬ (9223372036854775807 < (strB a).size + (strB b).size) := by
  rw [strB_size, strB_size]
  omega
theorem ushow_len (n b : Int) : (ushowF n b).length ≤ 64 := by
  unfold ushowF
  split
  · rename_i h
    have := (baseB_iff b).1 h
    exact us_le (by omega) 63 _ (by have := un_lt n; omega)
  · simp
theorem alloc_then {w w1 : World} {o : Obj} (b : Below w.heap.size w w1) : Below w.heap.size w (w1.alloc o) := b.alloc b.size o

set_option maxRecDepth 100000 in
set_option maxHeartbeats 4000000 in
theorem rushow_any (n b : Int) (w : World) :
    Calls Try.prog 12 #[.int .i64 n, .int .i64 b] w fun e w' => e = .returned (.tuple #[.string (strB (ushowF n b)), .int .i64 (showC b)]) ∧ Below w.heap.size w w' := by
  cases hb : baseB b with
  | false =>
    have H1 : Hid (strB (ushowF n b) = ⟨#[]⟩) := by show _ = _; unfold ushowF; rw [if_neg (by simp [hb])]; rfl
    have H2 : Hid (showC b = -24) := by show _ = _; unfold showC; rw [if_neg (by simp [hb])]
    have hno := (baseB_no b).1 hb
    rw [H1.out, H2.out]
    by_cases k1 : b < 2
    · go_enter Try.func12, Try.ntmps12
      go_wp2
      go_ret2
      exact ⟨rfl, Below.refl _ _⟩
    · have k1' : decide (b < 2) = false := by simp; omega
      have k2 : 36 < b := by omega
      clear k1 hno
      go_enter Try.func12, Try.ntmps12
      go_wp2
      go_ret2
      exact ⟨rfl, Below.refl _ _⟩
  | true =>
    obtain ⟨b2, b36⟩ := (baseB_iff b).1 hb
    obtain ⟨k, rfl⟩ := Int.eq_ofNat_of_zero_le (by omega : 0 ≤ b)
    have H1 : Hid (ushowF n (k : Int) = usF k (un n)) := by show _ = _; unfold ushowF; rw [if_pos hb, Int.toNat_natCast]
    have H2 : Hid (showC (k : Int) = 0) := by show _ = _; unfold showC; rw [if_pos hb]
    rw [H1.out, H2.out]
    have hu := un_cast n
    have hul := un_lt n
    obtain ⟨u0, hu0⟩ : ∃ u0, un n = u0 := ⟨_, rfl⟩
    rw [hu0] at hu hul ⊢
    have k1' : decide ((k : Int) < 2) = false := by simp; omega
    have k2' : decide (36 < (k : Int)) = false := by simp; omega
    have k64 : IntKind.u64.wrap (k : Int) = (k : Int) := un_nat k (by omega)
    have hk0 : ((k : Int) == 0) = false := by simp; omega
    have hk2 : 2 ≤ k := by omega
    have hk36 : k ≤ 36 := by omega
    have R0 : Hid (Rest k u0 u0 [UInt8.ofNat (digN (u0 % k))]) := rest_zero hk2 u0
    have hm : u0 % k < k := Nat.mod_lt _ (by omega)
    obtain ⟨r0, hr0⟩ : ∃ r, u0 % k = r := ⟨_, rfl⟩
    have q0 : (u0 : Int) % (k : Int) = (r0 : Int) := by rw [← hr0]; simp
    rw [hr0] at R0 hm
    obtain ⟨x0, hx0⟩ : ∃ x, UInt8.ofNat (digN r0) = x := ⟨_, rfl⟩
    have HX : Hid (digF (r0 : Int) = (x0.toNat : Int)) := by rw [← hx0]; exact dig_u8 r0
    rw [hx0] at R0
    have cv := conv_one x0 w
    clear hb hu0 H1 H2 hr0 hx0 b2 b36
    go_enter Try.func12, Try.ntmps12
    go_wp2_with fail
    refine (rdigit_any _ _).mono ?_
    rw [HX.out]
    rintro e w1 ⟨rfl, rfl⟩
    go_wp2_with fail
    clear cv q0 hm
    go_loopw [6, 8] (fun u6 s8 wr => ∃ (u : Nat) (l : List UInt8), u6 = .int .u64 (u : Int) ∧ s8 = .string (strB l) ∧ u < 18446744073709551616 ∧ Hid (Rest k u0 u l) ∧ Below w.heap.size w wr) (fun u6 _ _ => (intOf u6).toNat)
    case atStart => exact ⟨u0, [x0], rfl, rfl, hul, R0.out, alloc_then (Below.refl _ _)⟩
    case round =>
      obtain ⟨u, l, rfl, rfl, hul2, R, hbel⟩ := hrel
      by_cases hku : k ≤ u
      · have hku' : (k : Int) ≤ (u : Int) := by omega
        have RS := Lib.hid (R.out.step hk2 hku)
        have hlt : u / k < u := Nat.div_lt_self (by omega) (by omega)
        obtain ⟨v, hv⟩ : ∃ v, u / k = v := ⟨_, rfl⟩
        have qv : (u : Int) / (k : Int) = (v : Int) := by rw [← hv]; simp
        rw [hv] at RS hlt
        have hm : v % k < k := Nat.mod_lt _ (by omega)
        obtain ⟨r, hr⟩ : ∃ r, v % k = r := ⟨_, rfl⟩
        have qr : (v : Int) % (k : Int) = (r : Int) := by rw [← hr]; simp
        rw [hr] at RS hm
        obtain ⟨x, hx⟩ : ∃ x, UInt8.ofNat (digN r) = x := ⟨_, rfl⟩
        have HX2 : Hid (digF (r : Int) = (x.toNat : Int)) := by rw [← hx]; exact dig_u8 r
        rw [hx] at RS
        have cv := conv_one x wr
        have hap : strB [x] ++ strB l = strB (x :: l) := strB_app [x] l
        have hll := R.out.len hk2 hul
        have hcat := cat_ok (a := [x]) (b := l) (by simp; omega)
        clear hv hr hx R hku
        go_wp2_with fail
        refine (rdigit_any _ _).mono ?_
        rw [HX2.out]
        rintro e w2 ⟨rfl, rfl⟩
        go_wp2_with fail
        go_roundw
        case rel => exact ⟨v, x :: l, rfl, rfl, by omega, RS.out, alloc_then hbel⟩
        case measure => simp [intOf]; omega
      · have hku' : decide (k ≤ u) = false := by simp; omega
        have he : Hid (usF k u0 = l) := R.out.2 (by omega)
        clear hku R
        go_wp2
        go_ret2
        refine ⟨?_, hbel⟩
        rw [he.out]
        rfl

set_option maxRecDepth 100000 in
set_option maxHeartbeats 4000000 in
theorem rshow_any (n b : Int) (w : World) (h0 : -9223372036854775808 ≤ n) (h1 : n ≤ 9223372036854775807) :
    Calls Try.prog 10 #[.int .i64 n, .int .i64 b] w fun e w' => e = .returned (.tuple #[.string (strB (showF n b)), .int .i64 (showC b)]) ∧ Below w.heap.size w w' := by
  by_cases hn : 0 ≤ n
  · have H : Hid (ushowF n b = showF n b) := by
      show _ = _
      unfold ushowF showF
      have e : un n = n.toNat := by have := un_mod n; omega
      rw [if_pos hn, e]
    go_enter Try.func10, Try.ntmps10
    go_wp2_with fail
    refine (rushow_any n b _).mono ?_
    rw [H.out]
    rintro e w1 ⟨rfl, hb⟩
    go_wp2
    go_ret2
    exact ⟨rfl, hb⟩
  · have hn' : decide (0 ≤ n) = false := by simp; omega
    cases hb : baseB b with
    | false =>
      have H : Hid (ushowF (wrap64 (-n)) b = [] ∧ showF n b = []) := by
        constructor
        · unfold ushowF; rw [if_neg (by simp [hb])]
        · unfold showF; rw [if_neg (by simp [hb])]
      have HC : Hid (showC b = -24) := by show _ = _; unfold showC; rw [if_neg (by simp [hb])]
      have HE : Hid (strB [] = ⟨#[]⟩) := rfl
      rw [H.out.2, HC.out, HE.out]
      clear hn hb
      go_enter Try.func10, Try.ntmps10
      go_wp2_with fail
      refine (rushow_any _ b _).mono ?_
      rw [HC.out]
      rintro e w1 ⟨rfl, hb⟩
      go_wp2
      go_ret2
      exact ⟨rfl, hb⟩
    | true =>
      have H : Hid (showF n b = 45 :: ushowF (wrap64 (-n)) b) := by
        show _ = _
        unfold ushowF showF
        have e : un (wrap64 (-n)) = (-n).toNat := by have := un_mod (wrap64 (-n)); unfold wrap64 at this ⊢; omega
        rw [if_pos hb, if_pos hb, if_neg hn, e]
      have HC : Hid (showC b = 0) := by show _ = _; unfold showC; rw [if_pos hb]
      obtain ⟨l, hl⟩ : ∃ l, ushowF (wrap64 (-n)) b = l := ⟨_, rfl⟩
      rw [hl] at H
      have HL := Lib.hid hl
      have hap : (⟨#[45]⟩ : ByteArray) ++ strB l = strB (45 :: l) := strB_app [45] l
      have hll : l.length ≤ 64 := by rw [← hl]; exact ushow_len _ _
      have hsz : (strB l).size ≤ 64 := hll
      have hcat : ¬ (9223372036854775807 < 1 + (strB l).size) := by omega
      rw [H.out, HC.out]
      clear hn hb hl H
      go_enter Try.func10, Try.ntmps10
      go_wp2_with fail
      refine (rushow_any _ b _).mono ?_
      rw [HC.out, HL.out]
      rintro e w1 ⟨rfl, hb⟩
      go_wp2
      go_ret2
      exact ⟨rfl, hb⟩
end Go.Proofs.Ytlkjopbgobkgmaa
