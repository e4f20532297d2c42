/- Contracts of the document's start, Word, Upto. -/
import Derived.Test.YtakeaocmiblbeaaLexMath
namespace Go.Proofs.Ytakeaocmiblbeaa
open Go.RowKit
set_option linter.unusedVariables false
set_option linter.unusedSimpArgs false

set_option maxRecDepth 100000 in
theorem rstart_any (l : List UInt8) (p : Int) (w : World) : Calls Try.prog 23 #[.string (strB l), .int .i64 p] w fun e w' => e = .returned (.int .i64 (startN l p : Int)) ∧ w = w' := by
  have hsz : (strB l).size = l.length := rfl
  by_cases h0 : p < 0
  · have H : Hid (startN l p = l.length) := startN_out (by omega)
    go_enter Try.func23, Try.ntmps23
    go_wp2
    go_ret
    exact ⟨ret_int (by rw [H.out]), rfl⟩
  · have h0' : decide (p < 0) = false := by simp; omega
    by_cases h1 : (l.length : Int) < p
    · have H : Hid (startN l p = l.length) := startN_out (by omega)
      clear h0
      go_enter Try.func23, Try.ntmps23
      go_wp2
      go_ret
      exact ⟨ret_int (by rw [H.out]), rfl⟩
    · have h1' : decide ((l.length : Int) < p) = false := by simp; omega
      have H : Hid ((startN l p : Int) = p) := startN_in (by omega) (by omega)
      clear h0 h1
      go_enter Try.func23, Try.ntmps23
      go_wp2
      go_ret
      exact ⟨ret_int H.out.symm, rfl⟩

set_option maxRecDepth 100000 in
set_option maxHeartbeats 4000000 in
theorem rword_any (l : List UInt8) (p : Int) (w : World) (hl : l.length ≤ 1000000) : Calls Try.prog 11 #[.string (strB l), .int .i64 p] w fun e w' => e = .returned (.tuple #[.string (strB (wordAt l p)), .int .i64 (nextN l p : Int)]) ∧ Below w.heap.size w w' := by
  have hsz : (strB l).size = l.length := rfl
  have hs := startN_le l p
  have HS := Lib.hid (rstart_any l p w)
  obtain ⟨k0, hk0⟩ : ∃ k, startN l p = k := ⟨_, rfl⟩
  rw [hk0] at hs HS
  have HK := Lib.hid hk0
  clear hk0
  go_enter Try.func11, Try.ntmps11
  go_wp2_with fail
  refine HS.out.mono ?_
  rintro e w1 ⟨rfl, rfl⟩
  go_wp2_with fail
  go_loopw [6, 7] (fun s6 s7 wr => ∃ (u : List UInt8) (k : Nat), s6 = .string (strB u) ∧ s7 = .int .i64 (k : Int) ∧ k ≤ l.length ∧ u.length ≤ k ∧ Hid (WInv (l.drop k0) u (l.drop k)) ∧ Hid (Below w.heap.size w wr)) (fun _ s7 _ => l.length - (intOf s7).toNat)
  case atStart => exact ⟨[], k0, rfl, rfl, hs, Nat.zero_le _, Lib.hid (WInv.first _), Lib.hid (Below.refl _ _)⟩
  case round =>
    obtain ⟨u, k, rfl, rfl, hk, hu, HI, HB⟩ := hrel
    by_cases hkl : k < l.length
    · have hkl' : (k : Int) < (l.length : Int) := by omega
      obtain ⟨c, hc⟩ : ∃ c, l[k]? = some c := ⟨_, List.getElem?_eq_getElem hkl⟩
      have ixk := ix_at l k c hc
      have hcut := strB_cut_one hc
      have hd : l.drop k = c :: l.drop (k + 1) := by rw [List.drop_eq_getElem_cons hkl, (List.getElem?_eq_some_iff.1 hc).2]
      rw [hd] at HI
      by_cases h32 : 32 < c.toNat
      · have h32' : (32 : Int) < (c.toNat : Int) := by omega
        have HN := Lib.hid (HI.out.sign (solid_yes h32))
        have hap : strB u ++ strB [c] = strB (u ++ [c]) := strB_app u [c]
        have hcat := cat_ok (a := u) (b := [c]) (by simp; omega)
        have hu2 : (u ++ [c]).length ≤ k + 1 := by simp; omega
        obtain ⟨u2, eu⟩ : ∃ z, u ++ [c] = z := ⟨_, rfl⟩
        rw [eu] at HN hap hu2
        clear hc hd HI h32 eu
        go_wp2_with fail
        go_roundw
        case rel => exact ⟨u2, k + 1, rfl, by simp, by omega, hu2, HN, HB⟩
        case measure => simp [intOf]; omega
      · have h32' : decide ((32 : Int) < (c.toNat : Int)) = false := by simp; omega
        by_cases hu0 : u = []
        · subst hu0
          have HN := Lib.hid (HI.out.skip (solid_no h32))
          have he : strB [] = ⟨#[]⟩ := rfl
          rw [he]
          clear hc hd HI h32 he
          go_wp2_with fail
          go_roundw
          case rel => exact ⟨[], k + 1, rfl, by simp, by omega, Nat.zero_le _, HN, HB⟩
          case measure => simp [intOf]; omega
        · obtain ⟨q1, q2⟩ := HI.out.blank (solid_no h32) hu0
          have HQ1 : Hid (wordAt l p = u) := by show _ = _; unfold wordAt; rw [HK.out]; exact q1
          have HQ2 : Hid (nextN l p = k + 1) := by show _ = _; unfold nextN; rw [HK.out, q2]; simp; omega
          have hne : ¬ (strB u).toList = [] := str_nil hu0
          have hne2 := str_emp hu0
          clear hc hd HI h32 q1 q2 hu0
          go_wp2_with fail
          go_ret2
          exact ⟨by rw [HQ1.out, HQ2.out]; rfl, HB.out⟩
    · obtain rfl : k = l.length := by omega
      rw [List.drop_length] at HI
      obtain ⟨q1, q2⟩ := HI.out.last
      have HQ1 : Hid (wordAt l p = u) := by show _ = _; unfold wordAt; rw [HK.out]; exact q1
      have HQ2 : Hid (nextN l p = l.length) := by show _ = _; unfold nextN; rw [HK.out, q2]; simp
      clear HI q1 q2 hkl hk
      go_wp2_with fail
      go_ret2
      exact ⟨by rw [HQ1.out, HQ2.out]; rfl, HB.out⟩

set_option maxRecDepth 100000 in
set_option maxHeartbeats 4000000 in
theorem rupto_any (l : List UInt8) (p : Int) (c : UInt8) (w : World) (hl : l.length ≤ 1000000) : Calls Try.prog 13 #[.string (strB l), .int .i64 p, .int .u8 (c.toNat : Int)] w fun e w' => e = .returned (.tuple #[.string (strB (uptoAt l p c)), .int .i64 (uptoN l p c : Int), .bool (hasC l p c)]) ∧ Below w.heap.size w w' := by
  have hsz : (strB l).size = l.length := rfl
  have hs := startN_le l p
  have HS := Lib.hid (rstart_any l p w)
  obtain ⟨k0, hk0⟩ : ∃ k, startN l p = k := ⟨_, rfl⟩
  rw [hk0] at hs HS
  have HK := Lib.hid hk0
  clear hk0
  go_enter Try.func13, Try.ntmps13
  go_wp2_with fail
  refine HS.out.mono ?_
  rintro e w1 ⟨rfl, rfl⟩
  go_wp2_with fail
  go_loopw [10] (fun s10 wr => ∃ (m : Nat), s10 = .int .i64 ((k0 + m : Nat) : Int) ∧ k0 + m ≤ l.length ∧ Hid (UInv (l.drop k0) c m) ∧ Hid (Below w.heap.size w wr)) (fun s10 _ => l.length - (intOf s10).toNat)
  case atStart => exact ⟨0, rfl, hs, Lib.hid (UInv.first _ _), Lib.hid (Below.refl _ _)⟩
  case round =>
    obtain ⟨m, rfl, hk, HI, HB⟩ := hrel
    obtain ⟨k, ek⟩ : ∃ k, k0 + m = k := ⟨_, rfl⟩
    have HE := Lib.hid ek
    rw [ek] at hk ⊢
    by_cases hkl : k < l.length
    · have hkl' : (k : Int) < (l.length : Int) := by omega
      obtain ⟨x, hx⟩ : ∃ c, l[k]? = some c := ⟨_, List.getElem?_eq_getElem hkl⟩
      have ixk := ix_at l k x hx
      have hxm : (l.drop k0)[m]? = some x := by rw [List.getElem?_drop, ek]; exact hx
      by_cases hc : x = c
      · subst hc
        obtain ⟨q1, q2, q3⟩ := HI.out.found hxm
        have HQ1 : Hid (uptoAt l p x = (l.drop k0).take m) := by show _ = _; unfold uptoAt; rw [HK.out]; exact q1
        have HQ3 : Hid (hasC l p x = true) := by show _ = _; unfold hasC; rw [HK.out]; simpa using q2
        have HQ2 : Hid (uptoN l p x = k + 1) := by show _ = _; unfold uptoN; rw [if_pos HQ3.out, HQ1.out, HK.out, q3, ek]
        have hcut := strB_cut l k0 k
        have hkm : k - k0 = m := by omega
        rw [hkm] at hcut
        have hk0 : k0 ≤ k := by omega
        have hk0' : ¬ (k : Int) < (k0 : Int) := by omega
        clear hx hxm HI q1 q2 q3 ek hkm
        go_wp2_with fail
        go_ret3
        exact ⟨by rw [HQ1.out, HQ2.out, HQ3.out]; rfl, HB.out⟩
      · obtain ⟨n1, n2, n3⟩ := u8_int hc
        have HN := Lib.hid (HI.out.on hxm hc)
        clear hx hxm HI hc
        go_wp2_with fail
        go_roundw
        case rel => exact ⟨m + 1, by rw [← Nat.add_assoc, HE.out]; simp, by omega, HN, HB⟩
        case measure => simp [intOf]; omega
    · obtain ⟨q1, q2⟩ := HI.out.no (by rw [List.length_drop]; omega)
      have HQ1 : Hid (uptoAt l p c = l.drop k0) := by show _ = _; unfold uptoAt; rw [HK.out]; exact q1
      have HQ3 : Hid (hasC l p c = false) := by show _ = _; unfold hasC; rw [HK.out]; simpa using q2
      have HQ2 : Hid (uptoN l p c = l.length) := by show _ = _; unfold uptoN; rw [if_neg (by simp [HQ3.out])]
      have hcut : (strB l).extract k0 l.length = strB (l.drop k0) := strB_rest l k0
      have hkl' : decide ((k : Int) < (l.length : Int)) = false := by simp; omega
      have hkl2 : l.length ≤ k := by omega
      clear HI q1 q2 hkl ek
      go_wp2_with fail
      go_ret3
      exact ⟨by rw [HQ1.out, HQ2.out, HQ3.out]; rfl, HB.out⟩
end Go.Proofs.Ytakeaocmiblbeaa
