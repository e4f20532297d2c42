/- Contracts of Text of package mem, and of the document's There. -/
import Derived.Test.YtekfemkoiadipaaMemWalksA
namespace Go.Proofs.Ytekfemkoiadipaa
open Go.RowKit

theorem box_cells {w w1 : World} {x y : Value} {t : TypeId} (b : Below (w.alloc (.cells #[x, y] t)).heap.size (w.alloc (.cells #[x, y] t)) w1) : w1.cell? ⟨w.heap.size, 0, none⟩ = some x ∧ w1.cell? ⟨w.heap.size, 1, none⟩ = some y := by
  constructor
  · rw [b.cell (p := ⟨w.heap.size, 0, none⟩) (by simp), World.cell?_alloc_new]; rfl
  · rw [b.cell (p := ⟨w.heap.size, 1, none⟩) (by simp), World.cell?_alloc_new]; rfl
theorem box_below {w w1 : World} {o : Obj} (b : Below (w.alloc o).heap.size (w.alloc o) w1) : Below w.heap.size w w1 := ((Below.refl _ w).alloc (Nat.le_refl _) o).trans (b.mono (by simp))

theorem codeF_yes : codeF true = 0 := rfl
theorem codeF_no : codeF false = -9 := rfl

set_option maxRecDepth 100000 in
set_option maxHeartbeats 1000000 in
theorem text_any (v : Value) (m : PM) (p n : Int) (w : World) (h : IsMem w v m) (hL : m.1.length ≤ 65536) (hn : n ≤ 9223372036854775807) :
    Calls Try.prog 32 #[v, .int .i64 p, .int .i64 n] w fun e w' => ∃ u, e = .returned (.tuple #[u, .int .i64 (codeF (okB m.1.length p n))]) ∧ Byt w' u (textF m p n) ∧ Below w.heap.size w w' := by
  obtain ⟨A, c, P, d, rfl, hb, hp⟩ := h.parts
  obtain ⟨A', c', e', hc, hm, hA⟩ := hb
  injection e' with e1 _ e2
  subst e1 e2
  have HT := Lib.hid (textF_no (m := m) (p := p) (n := n))
  have HY := Lib.hid (textF_yes (m := m) (p := p) (n := n))
  obtain ⟨L, hLe⟩ : ∃ L, L = m.1.length := ⟨_, rfl⟩
  rw [← hLe] at hL hc ⊢
  have HE := Lib.hid hLe
  clear hLe
  cases ok : okB L p n with
  | false =>
    clear h hp
    go_enter Try.func32, Try.ntmps32
    go_wp2_with (go_at_call 38; (with_reducible refine (there_any _ _ _ _ _ _ _ _ _ (by omega) hn).mono ?_); rintro e w1 ⟨rfl, b1⟩)
    go_ret2
    exact ⟨_, rfl, by rw [HT.out (by rw [← HE.out]; exact ok)]; exact byt_nil _, box_below b1⟩
  | true =>
    have hok := (okB_iff _ _ _).1 ok
    by_cases h0 : n = 0
    · subst h0
      clear h hp
      go_enter Try.func32, Try.ntmps32
      go_wp2_with (go_at_call 38; (with_reducible refine (there_any _ _ _ _ _ _ _ _ _ (by omega) hn).mono ?_); rintro e w1 ⟨rfl, b1⟩)
      go_ret2
      exact ⟨_, rfl, by rw [HY.out (by rw [← HE.out]; exact ok)]; simpa using byt_nil _, box_below b1⟩
    · have h0' : (n == 0) = false := by simp [h0]
      obtain ⟨h1, h2, h3⟩ := hok.resolve_left h0
      obtain ⟨q, rfl⟩ := Int.eq_ofNat_of_zero_le h2
      obtain ⟨k, rfl⟩ := Int.eq_ofNat_of_zero_le (Int.le_of_lt h1)
      have h4 : q + k ≤ L := by omega
      have h5 : 0 < k := by omega
      have hne : c ≠ q := by omega
      obtain ⟨g, o, rfl, hg, hcell⟩ : ∃ g o, A = some ⟨g, o, none⟩ ∧ g < w.heap.size ∧ Lies w (some ⟨g, o, none⟩) (u8s m.1) := by
        have hA' := hA
        rcases hA with e | ⟨g, o, rfl, hg, _⟩
        · have := congrArg List.length e
          rw [u8s_len, ← HE.out] at this
          simp at this
          omega
        · exact ⟨g, o, rfl, hg, hA'⟩
      have HX : Hid (Lies w (some ⟨g, o + q, none⟩) (u8s (textF m q k))) := by
        show Lies w _ _
        rw [HY.out (by rw [← HE.out]; exact ok)]
        have := hcell.part q k
        simpa [u8s, List.map_take, List.map_drop] using this
      have HK : Hid ((textF m q k).length = k) := by rw [HY.out (by rw [← HE.out]; exact ok)]; show _ = _; have := HE.out; simp; omega
      clear h hp hcell hA hok h0 h1 h2 h3
      go_enter Try.func32, Try.ntmps32
      go_wp2_with fail
      refine (there_any _ _ _ _ _ _ _ _ _ (by omega) hn).mono ?_
      rintro e w1 ⟨rfl, b1⟩
      obtain ⟨k0, k1⟩ := box_cells b1
      have B1 := Lib.hid (box_below b1)
      clear b1
      go_wp2_with fail
      refine (own_u8 _ k _ (textF m q k) _ HK.out (by omega) (HX.out.keep B1.out)).mono ?_
      rintro e w2 ⟨g2, rfl, hg2, hh, b2⟩
      have HH := Lib.hid hh
      clear hh
      go_wp2_with fail
      go_ret2
      exact ⟨_, rfl, by have := byt_block HH.out (by rw [HK.out]; omega); rwa [HK.out] at this, below_then B1.out b2⟩

set_option maxRecDepth 100000 in
set_option maxHeartbeats 1000000 in
theorem rthere_any (A P : Option Addr) (L c k d : Nat) (p n : Int) (w : World) (hL : L ≤ 9223372036854775807) (hn : n ≤ 9223372036854775807) :
    Calls Try.prog 31 #[.agg #[.slice A L c, .slice P k d], .int .i64 p, .int .i64 n] w fun e w' => e = .returned (.bool (okB L p n)) ∧ Below w.heap.size w w' := by
  by_cases h0 : n = 0
  · have H : Hid (okB L p n = true) := (okB_iff _ _ _).2 (.inl h0)
    subst h0
    go_enter Try.func31, Try.ntmps31
    go_wp2
    go_ret
    exact ⟨ret_bool H.out.symm, (Below.refl _ _).alloc (Nat.le_refl _) _⟩
  · have h1 : (n == 0) = false := by simp [h0]
    by_cases h2 : 0 < n ∧ 0 ≤ p ∧ p ≤ (L : Int) - n
    · have H : Hid (okB L p n = true) := (okB_iff _ _ _).2 (.inr h2)
      obtain ⟨h3, h4, h5⟩ := h2
      have h6 : n ≤ (L : Int) := by omega
      clear h0
      go_enter Try.func31, Try.ntmps31
      go_wp2
      go_ret
      exact ⟨ret_bool H.out.symm, (Below.refl _ _).alloc (Nat.le_refl _) _⟩
    · have H : Hid (okB L p n = false) := (okB_no _ _ _).2 (by omega)
      by_cases h3 : 0 < n
      · by_cases h4 : 0 ≤ p
        · have h5 : decide (p ≤ (L : Int) - n) = false := by simp; omega
          by_cases h6 : n ≤ (L : Int)
          · clear h0 h2
            go_enter Try.func31, Try.ntmps31
            go_wp2
            go_ret
            exact ⟨ret_bool H.out.symm, (Below.refl _ _).alloc (Nat.le_refl _) _⟩
          · have h7 : decide (n ≤ (L : Int)) = false := by simp; omega
            clear h0 h2 h6
            go_enter Try.func31, Try.ntmps31
            go_wp2
            go_ret
            exact ⟨ret_bool H.out.symm, (Below.refl _ _).alloc (Nat.le_refl _) _⟩
        · have h4 : decide (0 ≤ p) = false := by simp; omega
          clear h0 h2
          go_enter Try.func31, Try.ntmps31
          go_wp2
          go_ret
          exact ⟨ret_bool H.out.symm, (Below.refl _ _).alloc (Nat.le_refl _) _⟩
      · have h3 : decide (0 < n) = false := by simp; omega
        clear h0 h2
        go_enter Try.func31, Try.ntmps31
        go_wp2
        go_ret
        exact ⟨ret_bool H.out.symm, (Below.refl _ _).alloc (Nat.le_refl _) _⟩
end Go.Proofs.Ytekfemkoiadipaa
