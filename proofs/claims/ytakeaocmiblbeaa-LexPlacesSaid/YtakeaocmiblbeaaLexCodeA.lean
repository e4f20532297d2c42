/- Contracts of lex's place, isBlank, behind, Word. -/
import Derived.Test.YtakeaocmiblbeaaLexRefC
namespace Go.Proofs.Ytakeaocmiblbeaa
open Go.RowKit
set_option linter.unusedVariables false
set_option linter.unusedSimpArgs false

set_option maxRecDepth 100000 in
theorem place_any (l : List UInt8) (p : Int) (w : World) : Calls Try.prog 22 #[.string (strB l), .int .i64 p] w fun e w' => e = .returned (.int .i64 (startN l p : Int)) ∧ w = w' := by
  have hsz : (strB l).size = l.length := rfl
  by_cases h0 : p < 0
  · have H : Hid (startN l p = l.length) := startN_out (by omega)
    go_enter Try.func22, Try.ntmps22
    go_wp2
    go_ret
    exact ⟨ret_int (by rw [H.out]), rfl⟩
  · have h0' : decide (p < 0) = false := by simp; omega
    by_cases h1 : (l.length : Int) < p
    · have H : Hid (startN l p = l.length) := startN_out (by omega)
      clear h0
      go_enter Try.func22, Try.ntmps22
      go_wp2
      go_ret
      exact ⟨ret_int (by rw [H.out]), rfl⟩
    · have h1' : decide ((l.length : Int) < p) = false := by simp; omega
      have H : Hid ((startN l p : Int) = p) := startN_in (by omega) (by omega)
      clear h0 h1
      go_enter Try.func22, Try.ntmps22
      go_wp2
      go_ret
      exact ⟨ret_int H.out.symm, rfl⟩

theorem blank_any (c : UInt8) (w : World) : Calls Try.prog 27 #[.int .u8 (c.toNat : Int)] w fun e w' => e = .returned (.bool (!solid c)) ∧ w = w' := by
  by_cases h : 32 < c.toNat
  · have H : Hid ((!solid c) = false) := by show _ = _; rw [solid_yes h]; rfl
    have h1 : decide ((c.toNat : Int) ≤ 32) = false := by simp; omega
    rw [H.out]
    clear h
    go_enter Try.func27, Try.ntmps27
    go_wp2
    go_ret
    exact ⟨rfl, rfl⟩
  · have H : Hid ((!solid c) = true) := by show _ = _; rw [solid_no h]; rfl
    have h1 : (c.toNat : Int) ≤ 32 := by omega
    rw [H.out]
    clear h
    go_enter Try.func27, Try.ntmps27
    go_wp2
    go_ret
    exact ⟨rfl, rfl⟩

/-- A byte that is skipped. -/
def skipB (b : Bool) (c : UInt8) : Bool := (!solid c) == b
def tw (b : Bool) (r : List UInt8) : Nat := (r.takeWhile (skipB b)).length
theorem tw_nil (b : Bool) : tw b [] = 0 := rfl
theorem tw_yes {b : Bool} {c : UInt8} (r : List UInt8) (h : skipB b c = true) : tw b (c :: r) = tw b r + 1 := by unfold tw; rw [List.takeWhile_cons, if_pos h]; rfl
theorem tw_no {b : Bool} {c : UInt8} (r : List UInt8) (h : skipB b c = false) : tw b (c :: r) = 0 := by unfold tw; rw [List.takeWhile_cons, if_neg (by simp [h])]; rfl
theorem tw_le (b : Bool) (r : List UInt8) : tw b r ≤ r.length := by
  unfold tw
  exact (List.takeWhile_sublist _).length_le

set_option maxRecDepth 100000 in
set_option maxHeartbeats 4000000 in
theorem behind_any (l : List UInt8) (k0 : Nat) (b : Bool) (w : World) (hk0 : k0 ≤ l.length) (hl : l.length ≤ 1000000) :
    Calls Try.prog 21 #[.string (strB l), .int .i64 (k0 : Int), .bool b] w fun e w' => e = .returned (.int .i64 ((k0 + tw b (l.drop k0) : Nat) : Int)) ∧ w = w' := by
  have hsz : (strB l).size = l.length := rfl
  obtain ⟨K, hK⟩ : ∃ K, k0 + tw b (l.drop k0) = K := ⟨_, rfl⟩
  rw [hK]
  have HK := Lib.hid hK
  clear hK
  go_enter Try.func21, Try.ntmps21
  go_wp2_with fail
  go_loopw [1] (fun s1 wr => ∃ k : Nat, s1 = .int .i64 (k : Int) ∧ k ≤ l.length ∧ Hid (k + tw b (l.drop k) = K) ∧ wr = w) (fun s1 _ => l.length - (intOf s1).toNat)
  case atStart => exact ⟨k0, rfl, hk0, HK, rfl⟩
  case round =>
    obtain ⟨k, rfl, hk, HI, rfl⟩ := hrel
    by_cases hkl : k < l.length
    · have hkl' : (k : Int) < (l.length : Int) := by omega
      obtain ⟨c, hc⟩ : ∃ c, l[k]? = some c := ⟨_, List.getElem?_eq_getElem hkl⟩
      have ixk := ix_at l k c hc
      have hd : l.drop k = c :: l.drop (k + 1) := by rw [List.drop_eq_getElem_cons hkl, (List.getElem?_eq_some_iff.1 hc).2]
      rw [hd] at HI
      have HC := Lib.hid (blank_any c wr)
      obtain ⟨x, ex⟩ : ∃ x, (!solid c) = x := ⟨_, rfl⟩
      rw [ex] at HC
      by_cases hx : x = b
      · subst hx
        have HN : Hid (k + 1 + tw x (l.drop (k + 1)) = K) := by
          show _ = _
          rw [← HI.out, tw_yes _ (by unfold skipB; rw [ex]; simp)]
          omega
        clear hc hd HI ex
        go_wp2_with fail
        refine (HC.out).mono ?_
        rintro e w1 ⟨rfl, rfl⟩
        go_wp2_with fail
        go_roundw
        case rel => exact ⟨k + 1, by simp, by omega, HN, by first | trivial | rfl⟩
        case measure => simp [intOf]; omega
      · have HN : Hid (k = K) := by
          show _ = _
          rw [← HI.out, tw_no _ (by unfold skipB; rw [ex]; simpa using hx)]
          rfl
        have hb : (x == b) = false := by simpa using hx
        clear hc hd HI ex hx
        go_wp2_with fail
        refine (HC.out).mono ?_
        rintro e w1 ⟨rfl, rfl⟩
        go_wp2_with fail
        go_ret
        exact ⟨ret_int (by rw [HN.out]), rfl⟩
    · obtain rfl : k = l.length := by omega
      have HN : Hid (l.length = K) := by
        show _ = _
        rw [← HI.out, List.drop_length, tw_nil]
        rfl
      have hkk : decide ((l.length : Int) < (l.length : Int)) = false := by simp
      clear HI hkl hk
      go_wp2_with fail
      go_ret
      exact ⟨ret_int (by rw [HN.out]), rfl⟩

theorem drop_tw (p : UInt8 → Bool) (r : List UInt8) : r.drop (r.takeWhile p).length = r.dropWhile p := by
  induction r with
  | nil => rfl
  | cons c r ih =>
    rw [List.takeWhile_cons, List.dropWhile_cons]
    split
    · exact ih
    · rfl
theorem word_tw (r : List UInt8) : wordW r = ((r.drop (tw true r)).take (tw false (r.drop (tw true r)))) ∧ wordT r = (r.drop (tw true r)).drop (tw false (r.drop (tw true r)) + 1) := by
  induction r with
  | nil => exact ⟨rfl, rfl⟩
  | cons c r ih =>
    by_cases h : solid c = true
    · have h0 : tw true (c :: r) = 0 := tw_no r (by unfold skipB; rw [h]; rfl)
      have hp : ∀ x, skipB false x = solid x := fun x => by unfold skipB; cases solid x <;> rfl
      have h1 : tw false (c :: r) = (r.takeWhile solid).length + 1 := by
        rw [tw_yes r (by rw [hp]; exact h)]
        unfold tw
        rw [show skipB false = solid from funext hp]
      have h2 : r.take (r.takeWhile solid).length = r.takeWhile solid := (List.prefix_iff_eq_take.1 (List.takeWhile_prefix _)).symm
      have h3 := drop_tw solid r
      unfold wordW wordT
      rw [h0, List.drop_zero, if_pos h, if_pos h, h1, List.take_succ_cons, List.drop_succ_cons, h2, ← h3, List.drop_drop]
      exact ⟨rfl, rfl⟩
    · have h0 : tw true (c :: r) = tw true r + 1 := tw_yes r (by unfold skipB; simp at h; rw [h]; rfl)
      unfold wordW wordT
      rw [h0, List.drop_succ_cons, if_neg h, if_neg h]
      exact ih

set_option maxRecDepth 100000 in
set_option maxHeartbeats 4000000 in
theorem word_same (l : List UInt8) (p : Int) (w : World) (hl : l.length ≤ 100000) : Calls Try.prog 10 #[.string (strB l), .int .i64 p] w fun e w' => e = .returned (.tuple #[.string (strB (wordAt l p)), .int .i64 (nextN l p : Int)]) ∧ w' = w := by
  have hsz : (strB l).size = l.length := rfl
  have hs := startN_le l p
  have HP := Lib.hid (place_any l p w)
  have HB1 := Lib.hid (behind_any l (startN l p) true w hs (by omega))
  have hm := word_tw (l.drop (startN l p))
  have ht1 := tw_le true (l.drop (startN l p))
  have ht2 := tw_le false ((l.drop (startN l p)).drop (tw true (l.drop (startN l p))))
  rw [List.drop_drop] at hm ht2
  rw [List.length_drop] at ht1 ht2
  have HW : Hid (wordAt l p = wordW (l.drop (startN l p))) := rfl
  have HN : Hid (nextN l p = l.length - (wordT (l.drop (startN l p))).length) := rfl
  rw [hm.1] at HW
  rw [hm.2] at HN
  clear hm
  obtain ⟨s, es⟩ : ∃ s, startN l p = s := ⟨_, rfl⟩
  rw [es] at hs HP HB1 HW HN ht1 ht2
  obtain ⟨t1, et1⟩ : ∃ t, tw true (l.drop s) = t := ⟨_, rfl⟩
  rw [et1] at HB1 HW HN ht1 ht2
  obtain ⟨f, ef⟩ : ∃ f, s + t1 = f := ⟨_, rfl⟩
  rw [ef] at HB1 HW HN ht2
  have hf : f ≤ l.length := by omega
  have HB2 := Lib.hid (behind_any l f false w hf (by omega))
  obtain ⟨t2, et2⟩ : ∃ t, tw false (l.drop f) = t := ⟨_, rfl⟩
  rw [et2] at HB2 HW HN ht2
  obtain ⟨n, en⟩ : ∃ n, f + t2 = n := ⟨_, rfl⟩
  rw [en] at HB2
  have hn : n ≤ l.length := by omega
  have hfn : f ≤ n := by omega
  have hfn' : ¬ (n : Int) < (f : Int) := by omega
  have hfn2 : (f : Int) ≤ (n : Int) := by omega
  have hcut := strB_cut l f n
  have hnf : n - f = t2 := by omega
  rw [hnf] at hcut
  have HN2 : Hid (nextN l p = if n < l.length then n + 1 else l.length) := by
    show _ = _
    rw [HN.out, List.drop_drop, List.length_drop]
    split <;> omega
  clear HN es et1 ef et2 en ht1 ht2 hnf hs
  by_cases hnl : n < l.length
  · have HN3 : Hid (nextN l p = n + 1) := by show _ = _; rw [HN2.out, if_pos hnl]
    have hn1 : (n : Int) + 1 ≤ (l.length : Int) := by omega
    have hn2 : ¬ (l.length : Int) < (n : Int) + 1 := by omega
    clear HN2
    go_enter Try.func10, Try.ntmps10
    go_wp2_with fail
    refine (HP.out).mono ?_
    rintro e w1 ⟨rfl, rfl⟩
    go_wp2_with fail
    refine (HB1.out).mono ?_
    rintro e w2 ⟨rfl, rfl⟩
    go_wp2_with fail
    refine (HB2.out).mono ?_
    rintro e w3 ⟨rfl, rfl⟩
    go_wp2_with fail
    go_ret2
    exact ⟨by rw [HW.out, HN3.out]; rfl, rfl⟩
  · obtain rfl : n = l.length := by omega
    have HN3 : Hid (nextN l p = l.length) := by show _ = _; rw [HN2.out, if_neg (by omega)]
    have hn2 : (l.length : Int) < (l.length : Int) + 1 := by omega
    have hn1 : ¬ (l.length : Int) + 1 ≤ (l.length : Int) := by omega
    clear HN2 hnl
    go_enter Try.func10, Try.ntmps10
    go_wp2_with fail
    refine (HP.out).mono ?_
    rintro e w1 ⟨rfl, rfl⟩
    go_wp2_with fail
    refine (HB1.out).mono ?_
    rintro e w2 ⟨rfl, rfl⟩
    go_wp2_with fail
    refine (HB2.out).mono ?_
    rintro e w3 ⟨rfl, rfl⟩
    go_wp2_with fail
    go_ret2
    exact ⟨by rw [HW.out, HN3.out]; rfl, rfl⟩
theorem word_any (l : List UInt8) (p : Int) (w : World) (hl : l.length ≤ 100000) : Calls Try.prog 10 #[.string (strB l), .int .i64 p] w fun e w' => e = .returned (.tuple #[.string (strB (wordAt l p)), .int .i64 (nextN l p : Int)]) ∧ Below w.heap.size w w' := by
  refine (word_same l p w hl).mono ?_
  rintro e w1 ⟨rfl, rfl⟩
  exact ⟨rfl, Below.refl _ _⟩
end Go.Proofs.Ytakeaocmiblbeaa
