/- The contract of lex's Alike. -/
import Derived.Test.YtakeaocmiblbeaaLexCodeC
namespace Go.Proofs.Ytakeaocmiblbeaa
open Go.RowKit
set_option linter.unusedVariables false
set_option linter.unusedSimpArgs false

theorem alike_len {a b : List UInt8} (h : ¬ a.length = b.length) : alikeF a b = false := by
  unfold alikeF
  simp
  intro e
  have := congrArg List.length e
  rw [upper_len, upper_len] at this
  exact h this
theorem alike_at {a b : List UInt8} {k : Nat} {x y : UInt8} (hx : a[k]? = some x) (hy : b[k]? = some y) (h : ¬ upC x = upC y) : alikeF a b = false := by
  unfold alikeF
  simp
  intro e
  have := congrArg (fun l : List UInt8 => l[k]?) e
  simp [upperF, hx, hy] at this
  exact h this
theorem u8_eq {x y : UInt8} (h : ¬ x = y) : ((x.toNat : Int) != (y.toNat : Int)) = true ∧ ((x.toNat : Int) == (y.toNat : Int)) = false ∧ ¬ (x.toNat : Int) = (y.toNat : Int) := by
  have h1 : ¬ (x.toNat : Int) = (y.toNat : Int) := fun e => h (UInt8.toNat_inj.1 (by omega))
  exact ⟨by simp; omega, by simp; omega, h1⟩

set_option maxRecDepth 100000 in
set_option maxHeartbeats 4000000 in
theorem alike_any (a b : List UInt8) (w : World) (ha : a.length ≤ 100000) (hb : b.length ≤ 100000) : Calls Try.prog 19 #[.string (strB a), .string (strB b)] w fun e w' => e = .returned (.bool (alikeF a b)) ∧ Below w.heap.size w w' := by
  have hsa : (strB a).size = a.length := rfl
  have hsb : (strB b).size = b.length := rfl
  by_cases hl : a.length = b.length
  · have hl1 : ((a.length : Int) != (b.length : Int)) = false := by simp [hl]
    have hl2 : ((a.length : Int) == (b.length : Int)) = true := by simp [hl]
    have HL := Lib.hid hl
    clear hl
    go_enter Try.func19, Try.ntmps19
    go_wp2_with fail
    refine (turner_any w).mono ?_
    rintro e w1 ⟨p, q, r, rfl, ht, b1⟩
    have HT1 := Lib.hid ht
    have HB1 := Lib.hid b1
    clear ht b1
    go_wp2_with fail
    go_loopw [15] (fun s15 wr => ∃ k : Nat, s15 = .int .i64 (k : Int) ∧ k ≤ a.length ∧ Hid (upperF (a.take k) = upperF (b.take k)) ∧ Hid (TnB wr p q r) ∧ Hid (Below w.heap.size w wr)) (fun s15 _ => a.length - (intOf s15).toNat)
    case atStart => exact ⟨0, rfl, Nat.zero_le _, Lib.hid rfl, HT1, HB1⟩
    case round =>
      clear HT1 HB1
      obtain ⟨k, rfl, hk, HI, HT, HB⟩ := hrel
      by_cases hkl : k < a.length
      · have hkb : k < b.length := by have := HL.out; omega
        have hkl' : (k : Int) < (a.length : Int) := by omega
        have hkb' : (k : Int) < (b.length : Int) := by omega
        obtain ⟨x, hx⟩ : ∃ c, a[k]? = some c := ⟨_, List.getElem?_eq_getElem hkl⟩
        obtain ⟨y, hy⟩ : ∃ c, b[k]? = some c := ⟨_, List.getElem?_eq_getElem hkb⟩
        have ixa := ix_at a k x hx
        have ixb := ix_at b k y hy
        have HBd := Lib.hid fun n => below_then HB.out (drewN_below wr n)
        have HTd := Lib.hid fun n => HT.out.keep (drewN_below wr n)
        obtain ⟨u, eu⟩ : ∃ u : UInt8 → UInt8, upC = u := ⟨_, rfl⟩
        have HC : Hid (∀ (c : UInt8) (n : Nat), Calls Try.prog 30 #[.int .u8 (c.toNat : Int), .pointer (some ⟨p, 0, none⟩), .pointer (some ⟨q, 0, none⟩), .pointer (some ⟨r, 0, none⟩)] (wr.drewN n) fun e w' => e = .returned (.int .u8 ((u c).toNat : Int)) ∧ w' = wr.drewN n) := by
          show ∀ _, _
          intro c n
          rw [← eu]
          exact (turn_any c ⟨p, 0, none⟩ ⟨q, 0, none⟩ ⟨r, 0, none⟩ (wr.drewN n) HT.out.1).mono fun _ _ h => ⟨h.1, h.2.symm⟩
        by_cases he : upC x = upC y
        · have HN : Hid (upperF (a.take (k + 1)) = upperF (b.take (k + 1))) := by show _ = _; rw [upper_step hx, upper_step hy, HI.out, he]
          rw [eu] at he
          have n1 : (((u x).toNat : Int) != ((u y).toNat : Int)) = false := by rw [he]; simp
          have n2 : (((u x).toNat : Int) == ((u y).toNat : Int)) = true := by rw [he]; simp
          have n3 : ((u x).toNat : Int) = ((u y).toNat : Int) := by rw [he]
          clear hx hy HI HT HB he eu
          go_wp2_with fail
          go_quiet ((go_at_call 30; refine Calls.quiet_of_same (HC.out _ _)))
          go_wp2_with fail
          go_roundw
          case rel => exact ⟨k + 1, by simp, by omega, HN, Lib.hid (HTd.out _), Lib.hid (HBd.out _)⟩
          case measure => simp [intOf]; omega
        · have HN := Lib.hid (alike_at hx hy he)
          rw [eu] at he
          obtain ⟨n1, n2, n3⟩ := u8_eq he
          clear hx hy HI HT HB he eu
          go_wp2_with fail
          go_quiet ((go_at_call 30; refine Calls.quiet_of_same (HC.out _ _)))
          go_wp2_with fail
          go_ret
          exact ⟨by rw [HN.out]; rfl, HBd.out _⟩
      · obtain rfl : k = a.length := by omega
        have HN : Hid (alikeF a b = true) := by
          refine alike_yes ?_
          have h1 := HI.out
          have h2 := HL.out
          rw [List.take_length, h2, List.take_length] at h1
          exact h1
        have hkk : decide ((a.length : Int) < (a.length : Int)) = false := by simp
        clear hkl hk HI
        go_wp2_with fail
        go_ret
        exact ⟨by rw [HN.out]; rfl, HB.out⟩
  · have H := Lib.hid (alike_len hl)
    have hl1 : ((a.length : Int) != (b.length : Int)) = true := by simp; omega
    have hl2 : ((a.length : Int) == (b.length : Int)) = false := by simp; omega
    have hl3 : ¬ (a.length : Int) = (b.length : Int) := by omega
    rw [H.out]
    clear hl
    go_enter Try.func19, Try.ntmps19
    go_wp2_with fail
    go_ret
    exact ⟨rfl, Below.refl _ _⟩
end Go.Proofs.Ytakeaocmiblbeaa
