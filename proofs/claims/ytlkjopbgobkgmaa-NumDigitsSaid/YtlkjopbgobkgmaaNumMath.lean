/- Plain facts on numbers as texts: what is shown is read. -/
import Derived.Test.YtlkjopbgobkgmaaNumSpec
namespace Go.Proofs.Ytlkjopbgobkgmaa
open Go.RowKit
set_option linter.unusedVariables false
set_option linter.unusedSimpArgs false

theorem w64_id {n : Int} (h0 : -9223372036854775808 ≤ n) (h1 : n ≤ 9223372036854775807) : wrap64 n = n := IntWalk.wrap64_in n ⟨h0, h1⟩
theorem w64_mod (n : Int) : wrap64 n % 18446744073709551616 = n % 18446744073709551616 := by unfold wrap64; omega
theorem w64_eq {a b : Int} (h : a % 18446744073709551616 = b % 18446744073709551616) : wrap64 a = wrap64 b := by unfold wrap64; omega
theorem w64_mul (a b : Int) : wrap64 (wrap64 a * b) = wrap64 (a * b) := by
  apply w64_eq
  rw [Int.mul_emod, w64_mod, ← Int.mul_emod]
theorem w64_step (n b d : Int) : wrap64 (wrap64 (wrap64 n * b) + d) = wrap64 (n * b + d) := by
  rw [w64_mul]
  apply w64_eq
  rw [Int.add_emod, w64_mod, ← Int.add_emod]

theorem digN_lt (n : Nat) : digN n < 256 := by unfold digN; split; omega; split <;> omega
theorem digN_u8 (n : Nat) : (UInt8.ofNat (digN n)).toNat = digN n := by
  rw [UInt8.toNat_ofNat']
  have := digN_lt n
  omega
theorem wN_dig {n : Nat} (h : n ≤ 35) : wN (digN n) = n := by
  unfold wN digN
  split
  · rw [if_pos (by omega)]; omega
  · rw [if_neg (by omega), if_pos (by omega)]; omega
/-- A digit's sign is a digit or a great letter. -/
theorem digN_is {n : Nat} (h : n ≤ 35) : (48 ≤ digN n ∧ digN n ≤ 57) ∨ (65 ≤ digN n ∧ digN n ≤ 90) := by
  unfold digN
  by_cases h9 : n ≤ 9
  · rw [if_pos h9]; omega
  · rw [if_neg h9, if_pos h]; omega

/-- What digits tell, without going round. -/
def valF (b : Int) : Int → List UInt8 → Int
  | n, [] => n
  | n, c :: l => valF b (n * b + (wN c.toNat : Int)) l
theorem readF_val {b : Int} {l : List UInt8} : ∀ {n : Int}, (∀ c ∈ l, isW c.toNat b = true) → readF b (wrap64 n) l = some (wrap64 (valF b n l)) := by
  induction l with
  | nil => intro n _; rfl
  | cons c l ih =>
    intro n h
    show (if _ then _ else _) = _
    rw [if_pos (h c (by simp)), w64_step]
    exact ih fun x hx => h x (by simp [hx])
theorem readF_no {b : Int} {l : List UInt8} : ∀ {n : Int}, (∃ c ∈ l, isW c.toNat b = false) → readF b n l = none := by
  induction l with
  | nil => intro n ⟨c, hc, _⟩; simp at hc
  | cons c l ih =>
    intro n ⟨x, hx, hw⟩
    show (if _ then _ else _) = _
    split
    · rename_i h
      rcases List.mem_cons.1 hx with rfl | hx
      · rw [hw] at h; cases h
      · exact ih ⟨x, hx, hw⟩
    · rfl
theorem valF_app (b : Int) (l r : List UInt8) : ∀ n, valF b n (l ++ r) = valF b (valF b n l) r := by
  induction l with
  | nil => intro n; rfl
  | cons c l ih => intro n; exact ih _
theorem readF_app (b : Int) (l r : List UInt8) : ∀ n, readF b n (l ++ r) = (readF b n l).bind fun k => readF b k r := by
  induction l with
  | nil => intro n; rfl
  | cons c l ih =>
    intro n
    show (if _ then _ else _) = (if _ then _ else _ : Option Int).bind _
    split
    · exact ih _
    · rfl

theorem us_ne {b u : Nat} : usF b u ≠ [] := by
  rw [usF]
  split <;> simp
theorem us_all {b : Nat} (h2 : 2 ≤ b) (h36 : b ≤ 36) : ∀ u, ∀ c ∈ usF b u, ∃ k, k < b ∧ c = UInt8.ofNat (digN k) := by
  intro u
  induction u using Nat.strongRecOn with
  | ind u ih =>
    intro c hc
    by_cases h : b ≤ u
    · rw [usF_big h2 h] at hc
      rcases List.mem_append.1 hc with hc | hc
      · exact ih (u / b) (Nat.div_lt_self (by omega) (by omega)) c hc
      · rw [List.mem_singleton] at hc
        exact ⟨u % b, Nat.mod_lt _ (by omega), hc⟩
    · rw [usF_low (by omega)] at hc
      rw [List.mem_singleton] at hc
      exact ⟨u, by omega, hc⟩
theorem us_isW {b : Nat} (h2 : 2 ≤ b) (h36 : b ≤ 36) (u : Nat) : ∀ c ∈ usF b u, isW c.toNat (b : Int) = true := by
  intro c hc
  obtain ⟨k, hk, rfl⟩ := us_all h2 h36 u c hc
  rw [digN_u8, isW_iff, wN_dig (by omega)]
  omega
theorem us_val {b : Nat} (h2 : 2 ≤ b) (h36 : b ≤ 36) : ∀ u, valF (b : Int) 0 (usF b u) = (u : Int) := by
  intro u
  induction u using Nat.strongRecOn with
  | ind u ih =>
    by_cases h : b ≤ u
    · rw [usF_big h2 h, valF_app, ih (u / b) (Nat.div_lt_self (by omega) (by omega))]
      show ((u / b : Nat) : Int) * (b : Int) + ((wN (UInt8.ofNat (digN (u % b))).toNat : Nat) : Int) = _
      have hm := Nat.mod_lt u (by omega : 0 < b)
      rw [digN_u8, wN_dig (by omega)]
      have e := Nat.div_add_mod u b
      have e2 : u / b * b + u % b = u := by rw [Nat.mul_comm]; exact e
      exact_mod_cast e2
    · rw [usF_low (by omega)]
      show (0 : Int) * (b : Int) + ((wN (UInt8.ofNat (digN u)).toNat : Nat) : Int) = _
      rw [digN_u8, wN_dig (by omega)]
      omega
/-- Its first sign is a digit's. -/
theorem us_head {b : Nat} (h2 : 2 ≤ b) (h36 : b ≤ 36) (u : Nat) : ∃ c r, usF b u = c :: r ∧ ((48 ≤ c.toNat ∧ c.toNat ≤ 57) ∨ (65 ≤ c.toNat ∧ c.toNat ≤ 90)) := by
  cases h : usF b u with
  | nil => exact absurd h us_ne
  | cons c r =>
    refine ⟨c, r, rfl, ?_⟩
    obtain ⟨k, hk, rfl⟩ := us_all h2 h36 u c (by rw [h]; simp)
    rw [digN_u8]
    exact digN_is (by omega)

theorem quote_no {l : List UInt8} (h : ∀ c r, l = c :: r → c ≠ 39) : quoteF l = none := by
  unfold quoteF
  split
  · rename_i a c d
    rw [if_neg]
    intro hh
    exact h a [c, d] rfl hh.1
  · rfl
theorem end_yes {neg : Bool} {b : Int} {l : List UInt8} (h : l ≠ []) (hw : ∀ c ∈ l, isW c.toNat b = true) : endF neg b l = some (if neg = true then wrap64 (0 - valF b 0 l) else wrap64 (valF b 0 l)) := by
  unfold endF
  rw [if_neg h]
  have := readF_val (n := 0) hw
  rw [show wrap64 0 = 0 from w64_id (by omega) (by omega)] at this
  rw [this]
  rw [Option.map_some]
  cases neg with
  | false => rw [if_neg (by simp), if_neg (by simp)]
  | true =>
    rw [if_pos rfl, if_pos rfl]
    congr 1
    apply w64_eq
    rw [Int.sub_emod, w64_mod, ← Int.sub_emod]
theorem end_no {neg : Bool} {b : Int} {l : List UInt8} (h : l = [] ∨ ∃ c ∈ l, isW c.toNat b = false) : endF neg b l = none := by
  unfold endF
  split
  · rfl
  · rcases h with h | h
    · contradiction
    · rw [readF_no h]; rfl
/-- A sign that is neither mark nor minus nor quote. -/
def plainC (c : UInt8) : Prop := c ≠ 35 ∧ c ≠ 36 ∧ c ≠ 37 ∧ c ≠ 39 ∧ c ≠ 45
theorem plainC_of {c : UInt8} (h : 48 ≤ c.toNat) : plainC c := by
  refine ⟨?_, ?_, ?_, ?_, ?_⟩ <;> intro e <;> subst e <;> simp at h
theorem isW_plain {c : UInt8} {b : Int} (h : isW c.toNat b = true) : plainC c := by
  apply plainC_of
  have := (isW_iff _ _).1 h
  have h2 : wN c.toNat < 99 := by omega
  unfold wN at h2
  split at h2
  · omega
  · split at h2
    · omega
    · split at h2 <;> omega
theorem parse_plain {c : UInt8} {r : List UInt8} {b : Int} (h : plainC c) : parseF (c :: r) b = endF false b (c :: r) := by
  obtain ⟨h1, h2, h3, h4, h5⟩ := h
  unfold parseF
  rw [quote_no (fun a t e => by injection e with e; rw [← e]; exact h4)]
  simp [markF, minF, h1, h2, h3, h5]
theorem parse_min {r : List UInt8} {b : Int} : parseF (45 :: r) b = endF true b r := by
  unfold parseF
  rw [quote_no (fun a t e => by injection e with e; rw [← e]; decide)]
  simp [markF, minF]
/-- The marks. -/
def markB (c : UInt8) : Option Int := if c = 35 then some 10 else if c = 36 then some 16 else if c = 37 then some 2 else none
theorem parse_mark {c : UInt8} {r : List UInt8} {b k : Int} (h : markB c = some k) : parseF (c :: r) b = endF (minF r).1 k (minF r).2 := by
  have hq : c ≠ 39 := by intro e; subst e; simp [markB] at h
  unfold parseF
  rw [quote_no (fun a t e => by injection e with e; rw [← e]; exact hq)]
  unfold markB at h
  split at h
  · injection h with h; subst h; rename_i e; subst e; simp [markF]
  · split at h
    · injection h with h; subst h; rename_i e; subst e; simp [markF]
    · split at h
      · injection h with h; subst h; rename_i e; subst e; simp [markF]
      · cases h

/-- What is shown without a sign is read. -/
theorem end_us {neg : Bool} {b u : Nat} (h2 : 2 ≤ b) (h36 : b ≤ 36) : endF neg (b : Int) (usF b u) = some (if neg = true then wrap64 (0 - (u : Int)) else wrap64 (u : Int)) := by
  rw [end_yes us_ne (us_isW h2 h36 u), us_val h2 h36]
theorem min_us {b u : Nat} (h2 : 2 ≤ b) (h36 : b ≤ 36) : minF (usF b u) = (false, usF b u) := by
  obtain ⟨c, r, e, h⟩ := us_head h2 h36 u
  rw [e]
  have : plainC c := plainC_of (by omega)
  simp [minF, this.2.2.2.2]
theorem parse_us {b u : Nat} (h2 : 2 ≤ b) (h36 : b ≤ 36) : parseF (usF b u) (b : Int) = some (wrap64 (u : Int)) := by
  obtain ⟨c, r, e, h⟩ := us_head h2 h36 u
  have h1 : parseF (usF b u) (b : Int) = endF false (b : Int) (usF b u) := by rw [e]; exact parse_plain (plainC_of (by omega))
  rw [h1, end_us h2 h36, if_neg (by simp)]
theorem wrap_unN {n : Int} (h0 : -9223372036854775808 ≤ n) (h1 : n ≤ 9223372036854775807) : wrap64 ((un n : Nat) : Int) = n := by
  have := un_mod n
  unfold wrap64
  omega
theorem parse_ushow {n b : Int} (h0 : -9223372036854775808 ≤ n) (h1 : n ≤ 9223372036854775807) (hb : baseB b = true) : parseF (ushowF n b) b = some n := by
  have h := (baseB_iff b).1 hb
  unfold ushowF
  rw [if_pos hb]
  obtain ⟨k, rfl⟩ := Int.eq_ofNat_of_zero_le (by omega : 0 ≤ b)
  rw [Int.toNat_natCast, parse_us (by omega) (by omega), wrap_unN h0 h1]
theorem end_show {n b : Int} (h0 : -9223372036854775808 ≤ n) (h1 : n ≤ 9223372036854775807) (hb : baseB b = true) : endF (minF (showF n b)).1 b (minF (showF n b)).2 = some n := by
  have h := (baseB_iff b).1 hb
  obtain ⟨k, rfl⟩ := Int.eq_ofNat_of_zero_le (by omega : 0 ≤ b)
  unfold showF
  rw [if_pos hb, Int.toNat_natCast]
  split
  · rw [min_us (by omega) (by omega), end_us (by omega) (by omega)]
    rw [if_neg (by simp), Int.toNat_of_nonneg (by assumption), w64_id h0 h1]
  · have e : minF (45 :: usF k (-n).toNat) = (true, usF k (-n).toNat) := by simp [minF]
    rw [e, end_us (by omega) (by omega), if_pos rfl, Int.toNat_of_nonneg (by omega)]
    congr 1
    rw [show 0 - -n = n by omega, w64_id h0 h1]
theorem show_head {n b : Int} (hb : baseB b = true) : ∃ c r, showF n b = c :: r ∧ (plainC c ∨ c = 45) := by
  have h := (baseB_iff b).1 hb
  unfold showF
  rw [if_pos hb]
  split
  · obtain ⟨c, r, e, hc⟩ := us_head (b := b.toNat) (by omega) (by omega) n.toNat
    exact ⟨c, r, e, .inl (plainC_of (by omega))⟩
  · exact ⟨45, _, rfl, .inr rfl⟩
theorem parse_show {n b : Int} (h0 : -9223372036854775808 ≤ n) (h1 : n ≤ 9223372036854775807) (hb : baseB b = true) : parseF (showF n b) b = some n := by
  have he := end_show h0 h1 hb
  obtain ⟨c, r, e, hc⟩ := show_head (n := n) hb
  rw [e] at he ⊢
  rcases hc with hc | rfl
  · rw [parse_plain hc]
    simpa [minF, hc.2.2.2.2] using he
  · rw [parse_min]
    simpa [minF] using he
theorem parse_marked {n b o : Int} {c : UInt8} (h0 : -9223372036854775808 ≤ n) (h1 : n ≤ 9223372036854775807) (hb : baseB b = true) (hm : markB c = some b) : parseF (c :: showF n b) o = some n := by
  rw [parse_mark hm]
  exact end_show h0 h1 hb
theorem show_same {n m b : Int} (h0 : -9223372036854775808 ≤ n) (h1 : n ≤ 9223372036854775807) (k0 : -9223372036854775808 ≤ m) (k1 : m ≤ 9223372036854775807) (hb : baseB b = true) : showF n b = showF m b ↔ n = m := by
  constructor
  · intro e
    have a := parse_show h0 h1 hb
    have c := parse_show k0 k1 hb
    rw [e, c] at a
    injection a with a
    exact a.symm
  · intro e; rw [e]

/-- How many digits. -/
def lenN (b u : Nat) : Nat := if h : 2 ≤ b ∧ b ≤ u then lenN b (u / b) + 1 else 1
termination_by u
decreasing_by exact Nat.div_lt_self (by omega) (by omega)
theorem us_len (b : Nat) (h2 : 2 ≤ b) : ∀ u, (usF b u).length = lenN b u := by
  intro u
  induction u using Nat.strongRecOn with
  | ind u ih =>
    rw [lenN]
    by_cases h : b ≤ u
    · rw [dif_pos ⟨h2, h⟩, usF_big h2 h, List.length_append, ih (u / b) (Nat.div_lt_self (by omega) (by omega))]
      rfl
    · rw [dif_neg (by omega), usF_low (by omega)]
      rfl
theorem us_first {b : Nat} (h2 : 2 ≤ b) (h36 : b ≤ 36) : ∀ u, 0 < u → ∃ c r, usF b u = c :: r ∧ c ≠ 48 := by
  intro u
  induction u using Nat.strongRecOn with
  | ind u ih =>
    intro hu
    by_cases h : b ≤ u
    · obtain ⟨c, r, e, hc⟩ := ih (u / b) (Nat.div_lt_self (by omega) (by omega)) (Nat.div_pos h (by omega))
      exact ⟨c, r ++ [UInt8.ofNat (digN (u % b))], by rw [usF_big h2 h, e]; rfl, hc⟩
    · refine ⟨UInt8.ofNat (digN u), [], usF_low (by omega), ?_⟩
      intro e
      have := congrArg UInt8.toNat e
      rw [digN_u8] at this
      have h3 : digN u = 48 := this
      unfold digN at h3
      split at h3
      · omega
      · split at h3 <;> omega
end Go.Proofs.Ytlkjopbgobkgmaa
