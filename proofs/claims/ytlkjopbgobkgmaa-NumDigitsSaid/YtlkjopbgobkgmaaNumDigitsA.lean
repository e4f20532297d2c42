/- The walk of NumDigits, way by way. -/
import Derived.Test.YtlkjopbgobkgmaaNumIn
namespace Go.Proofs.Ytlkjopbgobkgmaa
open Go.RowKit
set_option linter.unusedVariables false
set_option linter.unusedSimpArgs false

theorem w64_addw (a c : Int) : wrap64 (wrap64 a + c) = wrap64 (a + c) := by
  apply w64_eq
  rw [Int.add_emod, w64_mod, ← Int.add_emod]
theorem w64_subw (a c : Int) : wrap64 (wrap64 a - c) = wrap64 (a - c) := by
  apply w64_eq
  rw [Int.sub_emod, w64_mod, ← Int.sub_emod]
theorem w64_sub2 (a c : Int) : wrap64 (a - wrap64 c) = wrap64 (a - c) := by
  apply w64_eq
  rw [Int.sub_emod, w64_mod, ← Int.sub_emod]
/-- One digit more. -/
theorem more_plain {c : UInt8} {r : List UInt8} {b a : Int} {x : UInt8} (hc : plainC c) (h : parseF (c :: r) b = some a) : parseF ((c :: r) ++ [x]) b = if isW x.toNat b = true then some (wrap64 (wrap64 (a * b) + (wN x.toNat : Int))) else none := by
  rw [parse_plain hc] at h
  rw [List.cons_append, parse_plain hc]
  unfold endF at h ⊢
  rw [if_neg (by simp)] at h ⊢
  rw [show c :: (r ++ [x]) = (c :: r) ++ [x] from rfl, readF_app]
  cases e : readF b 0 (c :: r) with
  | none => rw [e] at h; cases h
  | some n =>
    rw [e] at h
    have h' : n = a := by simpa using h
    subst h'
    show (readF b n [x]).map _ = _
    by_cases hw : isW x.toNat b = true
    · have e2 : readF b n [x] = some (wrap64 (wrap64 (n * b) + (wN x.toNat : Int))) := by
        show (if _ then _ else _) = _
        rw [if_pos hw]
        rfl
      rw [e2, if_pos hw, Option.map_some, if_neg (by simp)]
    · have e2 : readF b n [x] = none := by
        show (if _ then _ else _) = _
        rw [if_neg hw]
      rw [e2, if_neg hw]
      rfl
theorem more_min {r : List UInt8} {b a : Int} {x : UInt8} (h : parseF (45 :: r) b = some a) : parseF ((45 :: r) ++ [x]) b = if isW x.toNat b = true then some (wrap64 (wrap64 (a * b) - (wN x.toNat : Int))) else none := by
  rw [parse_min] at h
  rw [List.cons_append, parse_min]
  unfold endF at h ⊢
  split at h
  · cases h
  · rw [if_neg (by simp), readF_app]
    cases e : readF b 0 r with
    | none => rw [e] at h; cases h
    | some n =>
      rw [e] at h
      have h' : wrap64 (0 - n) = a := by simpa using h
      subst h'
      show (readF b n [x]).map _ = _
      by_cases hw : isW x.toNat b = true
      · have e2 : readF b n [x] = some (wrap64 (wrap64 (n * b) + (wN x.toNat : Int))) := by
          show (if _ then _ else _) = _
          rw [if_pos hw]
          rfl
        rw [e2, if_pos hw, Option.map_some, if_pos rfl]
        congr 1
        show wrap64 (0 - wrap64 (wrap64 (n * b) + _)) = _
        rw [w64_sub2, w64_mul, w64_subw]
        apply w64_eq
        have e2 : (0 - n) * b = -(n * b) := by rw [Int.zero_sub, Int.neg_mul]
        rw [e2]
        have := w64_mod (n * b)
        omega
      · have e2 : readF b n [x] = none := by
          show (if _ then _ else _) = _
          rw [if_neg hw]
        rw [e2, if_neg hw]
        rfl
theorem nil_list : (⟨#[]⟩ : ByteArray).toList = [] := by first | rfl | decide +kernel | simp [ByteArray.toList, ByteArray.toList.loop] | (unfold ByteArray.toList ByteArray.toList.loop; rfl)
theorem parse_nil (b : Int) : parseF [] b = none := by
  unfold parseF
  rw [quote_no (fun a t e => by cases e)]
  exact end_no (.inl rfl)

set_option maxRecDepth 100000 in
set_option maxHeartbeats 8000000 in
theorem digits_early (dn : Nat) (b : Int) (l : List UInt8) (w : World) (hd : dn < 256) (hl : l.length ≤ 9223372036854775807) (H0 : 60 < l.length ∨ l.length ≤ 60 ∧ baseB b = false) :
    Calls Try.prog 6 #[.int .u8 (dn : Int), .int .i64 b, .string (strB l)] w fun e w' => e = .returned (.bool true) ∧ Below w.heap.size w w' := by
  have hsz : (strB l).size = l.length := rfl
  rcases H0 with h | ⟨h, hb⟩
  · skip
    have h' : (60 : Int) < (l.length : Int) := by omega
    go_enter Try.func6, Try.ntmps6
    go_wp2_with fail
    refine (shown_any6 _).mono ?_
    rintro e w1 ⟨rfl, bb⟩
    have B1 := Lib.hid bb
    clear bb
    go_wp2_with fail
    go_ret
    exact ⟨rfl, B1.out⟩
  · have hno := (baseB_no b).1 hb
    have h' : decide ((60 : Int) < (l.length : Int)) = false := by simp; omega
    by_cases c1 : b < 2
    · skip
      clear hno hb h
      go_enter Try.func6, Try.ntmps6
      go_wp2_with fail
      refine (shown_any6 _).mono ?_
      rintro e w1 ⟨rfl, bb⟩
      have B1 := Lib.hid bb
      clear bb
      go_wp2_with fail
      go_ret
      exact ⟨rfl, B1.out⟩
    · skip
      have c1' : decide (b < 2) = false := by simp; omega
      have c2 : 36 < b := by omega
      clear hno hb c1 h
      go_enter Try.func6, Try.ntmps6
      go_wp2_with fail
      refine (shown_any6 _).mono ?_
      rintro e w1 ⟨rfl, bb⟩
      have B1 := Lib.hid bb
      clear bb
      go_wp2_with fail
      go_ret
      exact ⟨rfl, B1.out⟩
set_option maxRecDepth 100000 in
set_option maxHeartbeats 8000000 in
theorem digits_none_t (dn : Nat) (b : Int) (l : List UInt8) (w : World) (hd : dn < 256) (hl : l.length ≤ 9223372036854775807) (kk : Nat) (x : UInt8) (p2 : Int) (y px : Bool) (h60 : l.length ≤ 60) (b2 : 2 ≤ b) (b36 : b ≤ 36) (hm : (dn : Int) % 36 = (kk : Int)) (hk : kk < 36) (HG : Hid (digF (kk : Int) = (x.toNat : Int))) (HW : Hid (worthF x.toNat b = (kk : Int))) (HI : Hid (isW x.toNat b = true)) (hlt : decide ((kk : Int) < b) = true) (HP2 : Hid (parN (l ++ [x]) b = p2)) (HY : Hid (parB (l ++ [x]) b = y)) (pn : Int) (HPN : Hid (parN l b = pn)) (HPB : Hid (parB l b = false)) :
    Calls Try.prog 6 #[.int .u8 (dn : Int), .int .i64 b, .string (strB l)] w fun e w' => e = .returned (.bool true) ∧ Below w.heap.size w w' := by
  have hsz : (strB l).size = l.length := rfl
  have h' : decide ((60 : Int) < (l.length : Int)) = false := by simp; omega
  have c1 : decide (b < 2) = false := by simp; omega
  have c2 : decide (36 < b) = false := by simp; omega
  have hcat := cat_ok (a := l) (b := [x]) (by simp; omega)
  have hap : strB l ++ strB [x] = strB (l ++ [x]) := strB_app l [x]
  have hx := x.toNat_lt
  have hkw : ((kk : Int) != (kk : Int)) = false := by simp
  go_enter Try.func6, Try.ntmps6
  go_wp2_with fail
  refine (shown_any6 _).mono ?_
  rintro e w1 ⟨rfl, bb⟩
  have B1 := Lib.hid bb
  clear bb
  go_wp2_with fail
  refine (digit_any (kk : Int) _).mono ?_
  rw [HG.out]
  rintro e w2 ⟨rfl, bb⟩
  have B2 := Lib.hid (below_then B1.out bb)
  clear bb B1
  go_wp2_with fail
  refine (worth_any x.toNat b _ x.toNat_lt).mono ?_
  rw [HW.out, HI.out]
  rintro e w3 ⟨rfl, bb⟩
  have B3 := Lib.hid (below_then B2.out bb)
  clear bb B2
  go_wp2_with fail
  refine (parse_any l b _ (by omega)).mono ?_
  rw [HPN.out, HPB.out]
  rintro e w4 ⟨rfl, bb⟩
  have B4 := Lib.hid (below_then B3.out bb)
  clear bb B3
  have cv := conv_one x w4
  go_wp2_with fail
  refine (parse_any (l ++ [x]) b _ (by simp; omega)).mono ?_
  rw [HP2.out, HY.out]
  rintro e w5 ⟨rfl, bb⟩
  replace bb := al_then bb
  have B5 := Lib.hid (below_then B4.out bb)
  clear bb B4
  go_wp2_with fail
  go_ret
  exact ⟨rfl, B5.out⟩
set_option maxRecDepth 100000 in
set_option maxHeartbeats 8000000 in
theorem digits_35_t (dn : Nat) (b : Int) (l : List UInt8) (w : World) (hd : dn < 256) (hl : l.length ≤ 9223372036854775807) (kk : Nat) (x : UInt8) (p2 : Int) (y px : Bool) (h60 : l.length ≤ 60) (b2 : 2 ≤ b) (b36 : b ≤ 36) (hm : (dn : Int) % 36 = (kk : Int)) (hk : kk < 36) (HG : Hid (digF (kk : Int) = (x.toNat : Int))) (HW : Hid (worthF x.toNat b = (kk : Int))) (HI : Hid (isW x.toNat b = true)) (hlt : decide ((kk : Int) < b) = true) (HP2 : Hid (parN (l ++ [x]) b = p2)) (HY : Hid (parB (l ++ [x]) b = y)) (pn : Int) (c0 : UInt8) (HPN : Hid (parN l b = pn)) (HPB : Hid (parB l b = true)) (hi : Hid (l[0]? = some c0)) (hne : ((strB l).toList == (⟨#[]⟩ : ByteArray).toList) = false) (e0 : (c0.toNat : Int) = 35) :
    Calls Try.prog 6 #[.int .u8 (dn : Int), .int .i64 b, .string (strB l)] w fun e w' => e = .returned (.bool true) ∧ Below w.heap.size w w' := by
  have hsz : (strB l).size = l.length := rfl
  have h' : decide ((60 : Int) < (l.length : Int)) = false := by simp; omega
  have c1 : decide (b < 2) = false := by simp; omega
  have c2 : decide (36 < b) = false := by simp; omega
  have hcat := cat_ok (a := l) (b := [x]) (by simp; omega)
  have hap : strB l ++ strB [x] = strB (l ++ [x]) := strB_app l [x]
  have hx := x.toNat_lt
  have hkw : ((kk : Int) != (kk : Int)) = false := by simp
  have hn0 : (strB l).toList ≠ [] := fun e => by rw [e, nil_list] at hne; exact absurd hne (by decide)
  have hn1 : ((strB l).toList == []) = false := by simpa using hn0
  have hn2 : decide ((strB l).toList = []) = false := by simpa using hn0
  have ix := ix_0 hi.out
  rw [e0] at ix
  clear e0
  go_enter Try.func6, Try.ntmps6
  go_wp2_with fail
  refine (shown_any6 _).mono ?_
  rintro e w1 ⟨rfl, bb⟩
  have B1 := Lib.hid bb
  clear bb
  go_wp2_with fail
  refine (digit_any (kk : Int) _).mono ?_
  rw [HG.out]
  rintro e w2 ⟨rfl, bb⟩
  have B2 := Lib.hid (below_then B1.out bb)
  clear bb B1
  go_wp2_with fail
  refine (worth_any x.toNat b _ x.toNat_lt).mono ?_
  rw [HW.out, HI.out]
  rintro e w3 ⟨rfl, bb⟩
  have B3 := Lib.hid (below_then B2.out bb)
  clear bb B2
  go_wp2_with fail
  refine (parse_any l b _ (by omega)).mono ?_
  rw [HPN.out, HPB.out]
  rintro e w4 ⟨rfl, bb⟩
  have B4 := Lib.hid (below_then B3.out bb)
  clear bb B3
  have cv := conv_one x w4
  go_wp2_with fail
  refine (parse_any (l ++ [x]) b _ (by simp; omega)).mono ?_
  rw [HP2.out, HY.out]
  rintro e w5 ⟨rfl, bb⟩
  replace bb := al_then bb
  have B5 := Lib.hid (below_then B4.out bb)
  clear bb B4
  go_wp2_with fail
  go_ret
  exact ⟨rfl, B5.out⟩
set_option maxRecDepth 100000 in
set_option maxHeartbeats 8000000 in
theorem digits_36_t (dn : Nat) (b : Int) (l : List UInt8) (w : World) (hd : dn < 256) (hl : l.length ≤ 9223372036854775807) (kk : Nat) (x : UInt8) (p2 : Int) (y px : Bool) (h60 : l.length ≤ 60) (b2 : 2 ≤ b) (b36 : b ≤ 36) (hm : (dn : Int) % 36 = (kk : Int)) (hk : kk < 36) (HG : Hid (digF (kk : Int) = (x.toNat : Int))) (HW : Hid (worthF x.toNat b = (kk : Int))) (HI : Hid (isW x.toNat b = true)) (hlt : decide ((kk : Int) < b) = true) (HP2 : Hid (parN (l ++ [x]) b = p2)) (HY : Hid (parB (l ++ [x]) b = y)) (pn : Int) (c0 : UInt8) (HPN : Hid (parN l b = pn)) (HPB : Hid (parB l b = true)) (hi : Hid (l[0]? = some c0)) (hne : ((strB l).toList == (⟨#[]⟩ : ByteArray).toList) = false) (e0 : (c0.toNat : Int) = 36) :
    Calls Try.prog 6 #[.int .u8 (dn : Int), .int .i64 b, .string (strB l)] w fun e w' => e = .returned (.bool true) ∧ Below w.heap.size w w' := by
  have hsz : (strB l).size = l.length := rfl
  have h' : decide ((60 : Int) < (l.length : Int)) = false := by simp; omega
  have c1 : decide (b < 2) = false := by simp; omega
  have c2 : decide (36 < b) = false := by simp; omega
  have hcat := cat_ok (a := l) (b := [x]) (by simp; omega)
  have hap : strB l ++ strB [x] = strB (l ++ [x]) := strB_app l [x]
  have hx := x.toNat_lt
  have hkw : ((kk : Int) != (kk : Int)) = false := by simp
  have hn0 : (strB l).toList ≠ [] := fun e => by rw [e, nil_list] at hne; exact absurd hne (by decide)
  have hn1 : ((strB l).toList == []) = false := by simpa using hn0
  have hn2 : decide ((strB l).toList = []) = false := by simpa using hn0
  have ix := ix_0 hi.out
  rw [e0] at ix
  clear e0
  go_enter Try.func6, Try.ntmps6
  go_wp2_with fail
  refine (shown_any6 _).mono ?_
  rintro e w1 ⟨rfl, bb⟩
  have B1 := Lib.hid bb
  clear bb
  go_wp2_with fail
  refine (digit_any (kk : Int) _).mono ?_
  rw [HG.out]
  rintro e w2 ⟨rfl, bb⟩
  have B2 := Lib.hid (below_then B1.out bb)
  clear bb B1
  go_wp2_with fail
  refine (worth_any x.toNat b _ x.toNat_lt).mono ?_
  rw [HW.out, HI.out]
  rintro e w3 ⟨rfl, bb⟩
  have B3 := Lib.hid (below_then B2.out bb)
  clear bb B2
  go_wp2_with fail
  refine (parse_any l b _ (by omega)).mono ?_
  rw [HPN.out, HPB.out]
  rintro e w4 ⟨rfl, bb⟩
  have B4 := Lib.hid (below_then B3.out bb)
  clear bb B3
  have cv := conv_one x w4
  go_wp2_with fail
  refine (parse_any (l ++ [x]) b _ (by simp; omega)).mono ?_
  rw [HP2.out, HY.out]
  rintro e w5 ⟨rfl, bb⟩
  replace bb := al_then bb
  have B5 := Lib.hid (below_then B4.out bb)
  clear bb B4
  go_wp2_with fail
  go_ret
  exact ⟨rfl, B5.out⟩
set_option maxRecDepth 100000 in
set_option maxHeartbeats 8000000 in
theorem digits_37_t (dn : Nat) (b : Int) (l : List UInt8) (w : World) (hd : dn < 256) (hl : l.length ≤ 9223372036854775807) (kk : Nat) (x : UInt8) (p2 : Int) (y px : Bool) (h60 : l.length ≤ 60) (b2 : 2 ≤ b) (b36 : b ≤ 36) (hm : (dn : Int) % 36 = (kk : Int)) (hk : kk < 36) (HG : Hid (digF (kk : Int) = (x.toNat : Int))) (HW : Hid (worthF x.toNat b = (kk : Int))) (HI : Hid (isW x.toNat b = true)) (hlt : decide ((kk : Int) < b) = true) (HP2 : Hid (parN (l ++ [x]) b = p2)) (HY : Hid (parB (l ++ [x]) b = y)) (pn : Int) (c0 : UInt8) (HPN : Hid (parN l b = pn)) (HPB : Hid (parB l b = true)) (hi : Hid (l[0]? = some c0)) (hne : ((strB l).toList == (⟨#[]⟩ : ByteArray).toList) = false) (e0 : (c0.toNat : Int) = 37) :
    Calls Try.prog 6 #[.int .u8 (dn : Int), .int .i64 b, .string (strB l)] w fun e w' => e = .returned (.bool true) ∧ Below w.heap.size w w' := by
  have hsz : (strB l).size = l.length := rfl
  have h' : decide ((60 : Int) < (l.length : Int)) = false := by simp; omega
  have c1 : decide (b < 2) = false := by simp; omega
  have c2 : decide (36 < b) = false := by simp; omega
  have hcat := cat_ok (a := l) (b := [x]) (by simp; omega)
  have hap : strB l ++ strB [x] = strB (l ++ [x]) := strB_app l [x]
  have hx := x.toNat_lt
  have hkw : ((kk : Int) != (kk : Int)) = false := by simp
  have hn0 : (strB l).toList ≠ [] := fun e => by rw [e, nil_list] at hne; exact absurd hne (by decide)
  have hn1 : ((strB l).toList == []) = false := by simpa using hn0
  have hn2 : decide ((strB l).toList = []) = false := by simpa using hn0
  have ix := ix_0 hi.out
  rw [e0] at ix
  clear e0
  go_enter Try.func6, Try.ntmps6
  go_wp2_with fail
  refine (shown_any6 _).mono ?_
  rintro e w1 ⟨rfl, bb⟩
  have B1 := Lib.hid bb
  clear bb
  go_wp2_with fail
  refine (digit_any (kk : Int) _).mono ?_
  rw [HG.out]
  rintro e w2 ⟨rfl, bb⟩
  have B2 := Lib.hid (below_then B1.out bb)
  clear bb B1
  go_wp2_with fail
  refine (worth_any x.toNat b _ x.toNat_lt).mono ?_
  rw [HW.out, HI.out]
  rintro e w3 ⟨rfl, bb⟩
  have B3 := Lib.hid (below_then B2.out bb)
  clear bb B2
  go_wp2_with fail
  refine (parse_any l b _ (by omega)).mono ?_
  rw [HPN.out, HPB.out]
  rintro e w4 ⟨rfl, bb⟩
  have B4 := Lib.hid (below_then B3.out bb)
  clear bb B3
  have cv := conv_one x w4
  go_wp2_with fail
  refine (parse_any (l ++ [x]) b _ (by simp; omega)).mono ?_
  rw [HP2.out, HY.out]
  rintro e w5 ⟨rfl, bb⟩
  replace bb := al_then bb
  have B5 := Lib.hid (below_then B4.out bb)
  clear bb B4
  go_wp2_with fail
  go_ret
  exact ⟨rfl, B5.out⟩
set_option maxRecDepth 100000 in
set_option maxHeartbeats 8000000 in
theorem digits_39_t (dn : Nat) (b : Int) (l : List UInt8) (w : World) (hd : dn < 256) (hl : l.length ≤ 9223372036854775807) (kk : Nat) (x : UInt8) (p2 : Int) (y px : Bool) (h60 : l.length ≤ 60) (b2 : 2 ≤ b) (b36 : b ≤ 36) (hm : (dn : Int) % 36 = (kk : Int)) (hk : kk < 36) (HG : Hid (digF (kk : Int) = (x.toNat : Int))) (HW : Hid (worthF x.toNat b = (kk : Int))) (HI : Hid (isW x.toNat b = true)) (hlt : decide ((kk : Int) < b) = true) (HP2 : Hid (parN (l ++ [x]) b = p2)) (HY : Hid (parB (l ++ [x]) b = y)) (pn : Int) (c0 : UInt8) (HPN : Hid (parN l b = pn)) (HPB : Hid (parB l b = true)) (hi : Hid (l[0]? = some c0)) (hne : ((strB l).toList == (⟨#[]⟩ : ByteArray).toList) = false) (e0 : (c0.toNat : Int) = 39) :
    Calls Try.prog 6 #[.int .u8 (dn : Int), .int .i64 b, .string (strB l)] w fun e w' => e = .returned (.bool true) ∧ Below w.heap.size w w' := by
  have hsz : (strB l).size = l.length := rfl
  have h' : decide ((60 : Int) < (l.length : Int)) = false := by simp; omega
  have c1 : decide (b < 2) = false := by simp; omega
  have c2 : decide (36 < b) = false := by simp; omega
  have hcat := cat_ok (a := l) (b := [x]) (by simp; omega)
  have hap : strB l ++ strB [x] = strB (l ++ [x]) := strB_app l [x]
  have hx := x.toNat_lt
  have hkw : ((kk : Int) != (kk : Int)) = false := by simp
  have hn0 : (strB l).toList ≠ [] := fun e => by rw [e, nil_list] at hne; exact absurd hne (by decide)
  have hn1 : ((strB l).toList == []) = false := by simpa using hn0
  have hn2 : decide ((strB l).toList = []) = false := by simpa using hn0
  have ix := ix_0 hi.out
  rw [e0] at ix
  clear e0
  go_enter Try.func6, Try.ntmps6
  go_wp2_with fail
  refine (shown_any6 _).mono ?_
  rintro e w1 ⟨rfl, bb⟩
  have B1 := Lib.hid bb
  clear bb
  go_wp2_with fail
  refine (digit_any (kk : Int) _).mono ?_
  rw [HG.out]
  rintro e w2 ⟨rfl, bb⟩
  have B2 := Lib.hid (below_then B1.out bb)
  clear bb B1
  go_wp2_with fail
  refine (worth_any x.toNat b _ x.toNat_lt).mono ?_
  rw [HW.out, HI.out]
  rintro e w3 ⟨rfl, bb⟩
  have B3 := Lib.hid (below_then B2.out bb)
  clear bb B2
  go_wp2_with fail
  refine (parse_any l b _ (by omega)).mono ?_
  rw [HPN.out, HPB.out]
  rintro e w4 ⟨rfl, bb⟩
  have B4 := Lib.hid (below_then B3.out bb)
  clear bb B3
  have cv := conv_one x w4
  go_wp2_with fail
  refine (parse_any (l ++ [x]) b _ (by simp; omega)).mono ?_
  rw [HP2.out, HY.out]
  rintro e w5 ⟨rfl, bb⟩
  replace bb := al_then bb
  have B5 := Lib.hid (below_then B4.out bb)
  clear bb B4
  go_wp2_with fail
  go_ret
  exact ⟨rfl, B5.out⟩
set_option maxRecDepth 100000 in
set_option maxHeartbeats 8000000 in
theorem digits_45_t (dn : Nat) (b : Int) (l : List UInt8) (w : World) (hd : dn < 256) (hl : l.length ≤ 9223372036854775807) (kk : Nat) (x : UInt8) (p2 : Int) (y px : Bool) (h60 : l.length ≤ 60) (b2 : 2 ≤ b) (b36 : b ≤ 36) (hm : (dn : Int) % 36 = (kk : Int)) (hk : kk < 36) (HG : Hid (digF (kk : Int) = (x.toNat : Int))) (HW : Hid (worthF x.toNat b = (kk : Int))) (HI : Hid (isW x.toNat b = true)) (hlt : decide ((kk : Int) < b) = true) (HP2 : Hid (parN (l ++ [x]) b = p2)) (HY : Hid (parB (l ++ [x]) b = y)) (pn : Int) (c0 : UInt8) (HPN : Hid (parN l b = pn)) (HPB : Hid (parB l b = true)) (hi : Hid (l[0]? = some c0)) (hne : ((strB l).toList == (⟨#[]⟩ : ByteArray).toList) = false) (e0 : (c0.toNat : Int) = 45) (hy : y = true) (hv : p2 = wrap64 (wrap64 (pn * b) - (kk : Int))) :
    Calls Try.prog 6 #[.int .u8 (dn : Int), .int .i64 b, .string (strB l)] w fun e w' => e = .returned (.bool true) ∧ Below w.heap.size w w' := by
  subst hy
  subst hv
  have hsz : (strB l).size = l.length := rfl
  have h' : decide ((60 : Int) < (l.length : Int)) = false := by simp; omega
  have c1 : decide (b < 2) = false := by simp; omega
  have c2 : decide (36 < b) = false := by simp; omega
  have hcat := cat_ok (a := l) (b := [x]) (by simp; omega)
  have hap : strB l ++ strB [x] = strB (l ++ [x]) := strB_app l [x]
  have hx := x.toNat_lt
  have hkw : ((kk : Int) != (kk : Int)) = false := by simp
  have hn0 : (strB l).toList ≠ [] := fun e => by rw [e, nil_list] at hne; exact absurd hne (by decide)
  have hn1 : ((strB l).toList == []) = false := by simpa using hn0
  have hn2 : decide ((strB l).toList = []) = false := by simpa using hn0
  have ix := ix_0 hi.out
  rw [e0] at ix
  clear e0
  go_enter Try.func6, Try.ntmps6
  go_wp2_with fail
  refine (shown_any6 _).mono ?_
  rintro e w1 ⟨rfl, bb⟩
  have B1 := Lib.hid bb
  clear bb
  go_wp2_with fail
  refine (digit_any (kk : Int) _).mono ?_
  rw [HG.out]
  rintro e w2 ⟨rfl, bb⟩
  have B2 := Lib.hid (below_then B1.out bb)
  clear bb B1
  go_wp2_with fail
  refine (worth_any x.toNat b _ x.toNat_lt).mono ?_
  rw [HW.out, HI.out]
  rintro e w3 ⟨rfl, bb⟩
  have B3 := Lib.hid (below_then B2.out bb)
  clear bb B2
  go_wp2_with fail
  refine (parse_any l b _ (by omega)).mono ?_
  rw [HPN.out, HPB.out]
  rintro e w4 ⟨rfl, bb⟩
  have B4 := Lib.hid (below_then B3.out bb)
  clear bb B3
  have cv := conv_one x w4
  go_wp2_with fail
  refine (parse_any (l ++ [x]) b _ (by simp; omega)).mono ?_
  rw [HP2.out, HY.out]
  rintro e w5 ⟨rfl, bb⟩
  replace bb := al_then bb
  have B5 := Lib.hid (below_then B4.out bb)
  clear bb B4
  go_wp2_with fail
  go_ret
  exact ⟨rfl, B5.out⟩
set_option maxRecDepth 100000 in
set_option maxHeartbeats 8000000 in
theorem digits_pl_t (dn : Nat) (b : Int) (l : List UInt8) (w : World) (hd : dn < 256) (hl : l.length ≤ 9223372036854775807) (kk : Nat) (x : UInt8) (p2 : Int) (y px : Bool) (h60 : l.length ≤ 60) (b2 : 2 ≤ b) (b36 : b ≤ 36) (hm : (dn : Int) % 36 = (kk : Int)) (hk : kk < 36) (HG : Hid (digF (kk : Int) = (x.toNat : Int))) (HW : Hid (worthF x.toNat b = (kk : Int))) (HI : Hid (isW x.toNat b = true)) (hlt : decide ((kk : Int) < b) = true) (HP2 : Hid (parN (l ++ [x]) b = p2)) (HY : Hid (parB (l ++ [x]) b = y)) (pn : Int) (c0 : UInt8) (HPN : Hid (parN l b = pn)) (HPB : Hid (parB l b = true)) (hi : Hid (l[0]? = some c0)) (hne : ((strB l).toList == (⟨#[]⟩ : ByteArray).toList) = false) (f35 : ((c0.toNat : Int) == 35) = false) (f36 : ((c0.toNat : Int) == 36) = false) (f37 : ((c0.toNat : Int) == 37) = false) (f39 : ((c0.toNat : Int) == 39) = false) (f45 : ((c0.toNat : Int) == 45) = false) (hy : y = true) (hv : p2 = wrap64 (wrap64 (pn * b) + (kk : Int))) :
    Calls Try.prog 6 #[.int .u8 (dn : Int), .int .i64 b, .string (strB l)] w fun e w' => e = .returned (.bool true) ∧ Below w.heap.size w w' := by
  subst hy
  subst hv
  have hsz : (strB l).size = l.length := rfl
  have h' : decide ((60 : Int) < (l.length : Int)) = false := by simp; omega
  have c1 : decide (b < 2) = false := by simp; omega
  have c2 : decide (36 < b) = false := by simp; omega
  have hcat := cat_ok (a := l) (b := [x]) (by simp; omega)
  have hap : strB l ++ strB [x] = strB (l ++ [x]) := strB_app l [x]
  have hx := x.toNat_lt
  have hkw : ((kk : Int) != (kk : Int)) = false := by simp
  have hn0 : (strB l).toList ≠ [] := fun e => by rw [e, nil_list] at hne; exact absurd hne (by decide)
  have hn1 : ((strB l).toList == []) = false := by simpa using hn0
  have hn2 : decide ((strB l).toList = []) = false := by simpa using hn0
  have ix := ix_0 hi.out
  go_enter Try.func6, Try.ntmps6
  go_wp2_with fail
  refine (shown_any6 _).mono ?_
  rintro e w1 ⟨rfl, bb⟩
  have B1 := Lib.hid bb
  clear bb
  go_wp2_with fail
  refine (digit_any (kk : Int) _).mono ?_
  rw [HG.out]
  rintro e w2 ⟨rfl, bb⟩
  have B2 := Lib.hid (below_then B1.out bb)
  clear bb B1
  go_wp2_with fail
  refine (worth_any x.toNat b _ x.toNat_lt).mono ?_
  rw [HW.out, HI.out]
  rintro e w3 ⟨rfl, bb⟩
  have B3 := Lib.hid (below_then B2.out bb)
  clear bb B2
  go_wp2_with fail
  refine (parse_any l b _ (by omega)).mono ?_
  rw [HPN.out, HPB.out]
  rintro e w4 ⟨rfl, bb⟩
  have B4 := Lib.hid (below_then B3.out bb)
  clear bb B3
  have cv := conv_one x w4
  go_wp2_with fail
  refine (parse_any (l ++ [x]) b _ (by simp; omega)).mono ?_
  rw [HP2.out, HY.out]
  rintro e w5 ⟨rfl, bb⟩
  replace bb := al_then bb
  have B5 := Lib.hid (below_then B4.out bb)
  clear bb B4
  go_wp2_with fail
  go_ret
  exact ⟨rfl, B5.out⟩
set_option maxRecDepth 100000 in
set_option maxHeartbeats 8000000 in
theorem digits_none_f (dn : Nat) (b : Int) (l : List UInt8) (w : World) (hd : dn < 256) (hl : l.length ≤ 9223372036854775807) (kk : Nat) (x : UInt8) (p2 : Int) (y px : Bool) (h60 : l.length ≤ 60) (b2 : 2 ≤ b) (b36 : b ≤ 36) (hm : (dn : Int) % 36 = (kk : Int)) (hk : kk < 36) (HG : Hid (digF (kk : Int) = (x.toNat : Int))) (HW : Hid (worthF x.toNat b = 0)) (HI : Hid (isW x.toNat b = false)) (hlt : decide ((kk : Int) < b) = false) (HP2 : Hid (parN (l ++ [x]) b = p2)) (HY : Hid (parB (l ++ [x]) b = y)) (pn : Int) (HPN : Hid (parN l b = pn)) (HPB : Hid (parB l b = false)) :
    Calls Try.prog 6 #[.int .u8 (dn : Int), .int .i64 b, .string (strB l)] w fun e w' => e = .returned (.bool true) ∧ Below w.heap.size w w' := by
  have hsz : (strB l).size = l.length := rfl
  have h' : decide ((60 : Int) < (l.length : Int)) = false := by simp; omega
  have c1 : decide (b < 2) = false := by simp; omega
  have c2 : decide (36 < b) = false := by simp; omega
  have hcat := cat_ok (a := l) (b := [x]) (by simp; omega)
  have hap : strB l ++ strB [x] = strB (l ++ [x]) := strB_app l [x]
  have hx := x.toNat_lt
  have hkw : ((kk : Int) != (kk : Int)) = false := by simp
  go_enter Try.func6, Try.ntmps6
  go_wp2_with fail
  refine (shown_any6 _).mono ?_
  rintro e w1 ⟨rfl, bb⟩
  have B1 := Lib.hid bb
  clear bb
  go_wp2_with fail
  refine (digit_any (kk : Int) _).mono ?_
  rw [HG.out]
  rintro e w2 ⟨rfl, bb⟩
  have B2 := Lib.hid (below_then B1.out bb)
  clear bb B1
  go_wp2_with fail
  refine (worth_any x.toNat b _ x.toNat_lt).mono ?_
  rw [HW.out, HI.out]
  rintro e w3 ⟨rfl, bb⟩
  have B3 := Lib.hid (below_then B2.out bb)
  clear bb B2
  go_wp2_with fail
  refine (parse_any l b _ (by omega)).mono ?_
  rw [HPN.out, HPB.out]
  rintro e w4 ⟨rfl, bb⟩
  have B4 := Lib.hid (below_then B3.out bb)
  clear bb B3
  have cv := conv_one x w4
  go_wp2_with fail
  refine (parse_any (l ++ [x]) b _ (by simp; omega)).mono ?_
  rw [HP2.out, HY.out]
  rintro e w5 ⟨rfl, bb⟩
  replace bb := al_then bb
  have B5 := Lib.hid (below_then B4.out bb)
  clear bb B4
  go_wp2_with fail
  go_ret
  exact ⟨rfl, B5.out⟩
set_option maxRecDepth 100000 in
set_option maxHeartbeats 8000000 in
theorem digits_35_f (dn : Nat) (b : Int) (l : List UInt8) (w : World) (hd : dn < 256) (hl : l.length ≤ 9223372036854775807) (kk : Nat) (x : UInt8) (p2 : Int) (y px : Bool) (h60 : l.length ≤ 60) (b2 : 2 ≤ b) (b36 : b ≤ 36) (hm : (dn : Int) % 36 = (kk : Int)) (hk : kk < 36) (HG : Hid (digF (kk : Int) = (x.toNat : Int))) (HW : Hid (worthF x.toNat b = 0)) (HI : Hid (isW x.toNat b = false)) (hlt : decide ((kk : Int) < b) = false) (HP2 : Hid (parN (l ++ [x]) b = p2)) (HY : Hid (parB (l ++ [x]) b = y)) (pn : Int) (c0 : UInt8) (HPN : Hid (parN l b = pn)) (HPB : Hid (parB l b = true)) (hi : Hid (l[0]? = some c0)) (hne : ((strB l).toList == (⟨#[]⟩ : ByteArray).toList) = false) (e0 : (c0.toNat : Int) = 35) :
    Calls Try.prog 6 #[.int .u8 (dn : Int), .int .i64 b, .string (strB l)] w fun e w' => e = .returned (.bool true) ∧ Below w.heap.size w w' := by
  have hsz : (strB l).size = l.length := rfl
  have h' : decide ((60 : Int) < (l.length : Int)) = false := by simp; omega
  have c1 : decide (b < 2) = false := by simp; omega
  have c2 : decide (36 < b) = false := by simp; omega
  have hcat := cat_ok (a := l) (b := [x]) (by simp; omega)
  have hap : strB l ++ strB [x] = strB (l ++ [x]) := strB_app l [x]
  have hx := x.toNat_lt
  have hkw : ((kk : Int) != (kk : Int)) = false := by simp
  have hn0 : (strB l).toList ≠ [] := fun e => by rw [e, nil_list] at hne; exact absurd hne (by decide)
  have hn1 : ((strB l).toList == []) = false := by simpa using hn0
  have hn2 : decide ((strB l).toList = []) = false := by simpa using hn0
  have ix := ix_0 hi.out
  rw [e0] at ix
  clear e0
  go_enter Try.func6, Try.ntmps6
  go_wp2_with fail
  refine (shown_any6 _).mono ?_
  rintro e w1 ⟨rfl, bb⟩
  have B1 := Lib.hid bb
  clear bb
  go_wp2_with fail
  refine (digit_any (kk : Int) _).mono ?_
  rw [HG.out]
  rintro e w2 ⟨rfl, bb⟩
  have B2 := Lib.hid (below_then B1.out bb)
  clear bb B1
  go_wp2_with fail
  refine (worth_any x.toNat b _ x.toNat_lt).mono ?_
  rw [HW.out, HI.out]
  rintro e w3 ⟨rfl, bb⟩
  have B3 := Lib.hid (below_then B2.out bb)
  clear bb B2
  go_wp2_with fail
  refine (parse_any l b _ (by omega)).mono ?_
  rw [HPN.out, HPB.out]
  rintro e w4 ⟨rfl, bb⟩
  have B4 := Lib.hid (below_then B3.out bb)
  clear bb B3
  have cv := conv_one x w4
  go_wp2_with fail
  refine (parse_any (l ++ [x]) b _ (by simp; omega)).mono ?_
  rw [HP2.out, HY.out]
  rintro e w5 ⟨rfl, bb⟩
  replace bb := al_then bb
  have B5 := Lib.hid (below_then B4.out bb)
  clear bb B4
  go_wp2_with fail
  go_ret
  exact ⟨rfl, B5.out⟩
set_option maxRecDepth 100000 in
set_option maxHeartbeats 8000000 in
theorem digits_36_f (dn : Nat) (b : Int) (l : List UInt8) (w : World) (hd : dn < 256) (hl : l.length ≤ 9223372036854775807) (kk : Nat) (x : UInt8) (p2 : Int) (y px : Bool) (h60 : l.length ≤ 60) (b2 : 2 ≤ b) (b36 : b ≤ 36) (hm : (dn : Int) % 36 = (kk : Int)) (hk : kk < 36) (HG : Hid (digF (kk : Int) = (x.toNat : Int))) (HW : Hid (worthF x.toNat b = 0)) (HI : Hid (isW x.toNat b = false)) (hlt : decide ((kk : Int) < b) = false) (HP2 : Hid (parN (l ++ [x]) b = p2)) (HY : Hid (parB (l ++ [x]) b = y)) (pn : Int) (c0 : UInt8) (HPN : Hid (parN l b = pn)) (HPB : Hid (parB l b = true)) (hi : Hid (l[0]? = some c0)) (hne : ((strB l).toList == (⟨#[]⟩ : ByteArray).toList) = false) (e0 : (c0.toNat : Int) = 36) :
    Calls Try.prog 6 #[.int .u8 (dn : Int), .int .i64 b, .string (strB l)] w fun e w' => e = .returned (.bool true) ∧ Below w.heap.size w w' := by
  have hsz : (strB l).size = l.length := rfl
  have h' : decide ((60 : Int) < (l.length : Int)) = false := by simp; omega
  have c1 : decide (b < 2) = false := by simp; omega
  have c2 : decide (36 < b) = false := by simp; omega
  have hcat := cat_ok (a := l) (b := [x]) (by simp; omega)
  have hap : strB l ++ strB [x] = strB (l ++ [x]) := strB_app l [x]
  have hx := x.toNat_lt
  have hkw : ((kk : Int) != (kk : Int)) = false := by simp
  have hn0 : (strB l).toList ≠ [] := fun e => by rw [e, nil_list] at hne; exact absurd hne (by decide)
  have hn1 : ((strB l).toList == []) = false := by simpa using hn0
  have hn2 : decide ((strB l).toList = []) = false := by simpa using hn0
  have ix := ix_0 hi.out
  rw [e0] at ix
  clear e0
  go_enter Try.func6, Try.ntmps6
  go_wp2_with fail
  refine (shown_any6 _).mono ?_
  rintro e w1 ⟨rfl, bb⟩
  have B1 := Lib.hid bb
  clear bb
  go_wp2_with fail
  refine (digit_any (kk : Int) _).mono ?_
  rw [HG.out]
  rintro e w2 ⟨rfl, bb⟩
  have B2 := Lib.hid (below_then B1.out bb)
  clear bb B1
  go_wp2_with fail
  refine (worth_any x.toNat b _ x.toNat_lt).mono ?_
  rw [HW.out, HI.out]
  rintro e w3 ⟨rfl, bb⟩
  have B3 := Lib.hid (below_then B2.out bb)
  clear bb B2
  go_wp2_with fail
  refine (parse_any l b _ (by omega)).mono ?_
  rw [HPN.out, HPB.out]
  rintro e w4 ⟨rfl, bb⟩
  have B4 := Lib.hid (below_then B3.out bb)
  clear bb B3
  have cv := conv_one x w4
  go_wp2_with fail
  refine (parse_any (l ++ [x]) b _ (by simp; omega)).mono ?_
  rw [HP2.out, HY.out]
  rintro e w5 ⟨rfl, bb⟩
  replace bb := al_then bb
  have B5 := Lib.hid (below_then B4.out bb)
  clear bb B4
  go_wp2_with fail
  go_ret
  exact ⟨rfl, B5.out⟩
set_option maxRecDepth 100000 in
set_option maxHeartbeats 8000000 in
theorem digits_37_f (dn : Nat) (b : Int) (l : List UInt8) (w : World) (hd : dn < 256) (hl : l.length ≤ 9223372036854775807) (kk : Nat) (x : UInt8) (p2 : Int) (y px : Bool) (h60 : l.length ≤ 60) (b2 : 2 ≤ b) (b36 : b ≤ 36) (hm : (dn : Int) % 36 = (kk : Int)) (hk : kk < 36) (HG : Hid (digF (kk : Int) = (x.toNat : Int))) (HW : Hid (worthF x.toNat b = 0)) (HI : Hid (isW x.toNat b = false)) (hlt : decide ((kk : Int) < b) = false) (HP2 : Hid (parN (l ++ [x]) b = p2)) (HY : Hid (parB (l ++ [x]) b = y)) (pn : Int) (c0 : UInt8) (HPN : Hid (parN l b = pn)) (HPB : Hid (parB l b = true)) (hi : Hid (l[0]? = some c0)) (hne : ((strB l).toList == (⟨#[]⟩ : ByteArray).toList) = false) (e0 : (c0.toNat : Int) = 37) :
    Calls Try.prog 6 #[.int .u8 (dn : Int), .int .i64 b, .string (strB l)] w fun e w' => e = .returned (.bool true) ∧ Below w.heap.size w w' := by
  have hsz : (strB l).size = l.length := rfl
  have h' : decide ((60 : Int) < (l.length : Int)) = false := by simp; omega
  have c1 : decide (b < 2) = false := by simp; omega
  have c2 : decide (36 < b) = false := by simp; omega
  have hcat := cat_ok (a := l) (b := [x]) (by simp; omega)
  have hap : strB l ++ strB [x] = strB (l ++ [x]) := strB_app l [x]
  have hx := x.toNat_lt
  have hkw : ((kk : Int) != (kk : Int)) = false := by simp
  have hn0 : (strB l).toList ≠ [] := fun e => by rw [e, nil_list] at hne; exact absurd hne (by decide)
  have hn1 : ((strB l).toList == []) = false := by simpa using hn0
  have hn2 : decide ((strB l).toList = []) = false := by simpa using hn0
  have ix := ix_0 hi.out
  rw [e0] at ix
  clear e0
  go_enter Try.func6, Try.ntmps6
  go_wp2_with fail
  refine (shown_any6 _).mono ?_
  rintro e w1 ⟨rfl, bb⟩
  have B1 := Lib.hid bb
  clear bb
  go_wp2_with fail
  refine (digit_any (kk : Int) _).mono ?_
  rw [HG.out]
  rintro e w2 ⟨rfl, bb⟩
  have B2 := Lib.hid (below_then B1.out bb)
  clear bb B1
  go_wp2_with fail
  refine (worth_any x.toNat b _ x.toNat_lt).mono ?_
  rw [HW.out, HI.out]
  rintro e w3 ⟨rfl, bb⟩
  have B3 := Lib.hid (below_then B2.out bb)
  clear bb B2
  go_wp2_with fail
  refine (parse_any l b _ (by omega)).mono ?_
  rw [HPN.out, HPB.out]
  rintro e w4 ⟨rfl, bb⟩
  have B4 := Lib.hid (below_then B3.out bb)
  clear bb B3
  have cv := conv_one x w4
  go_wp2_with fail
  refine (parse_any (l ++ [x]) b _ (by simp; omega)).mono ?_
  rw [HP2.out, HY.out]
  rintro e w5 ⟨rfl, bb⟩
  replace bb := al_then bb
  have B5 := Lib.hid (below_then B4.out bb)
  clear bb B4
  go_wp2_with fail
  go_ret
  exact ⟨rfl, B5.out⟩
set_option maxRecDepth 100000 in
set_option maxHeartbeats 8000000 in
theorem digits_39_f (dn : Nat) (b : Int) (l : List UInt8) (w : World) (hd : dn < 256) (hl : l.length ≤ 9223372036854775807) (kk : Nat) (x : UInt8) (p2 : Int) (y px : Bool) (h60 : l.length ≤ 60) (b2 : 2 ≤ b) (b36 : b ≤ 36) (hm : (dn : Int) % 36 = (kk : Int)) (hk : kk < 36) (HG : Hid (digF (kk : Int) = (x.toNat : Int))) (HW : Hid (worthF x.toNat b = 0)) (HI : Hid (isW x.toNat b = false)) (hlt : decide ((kk : Int) < b) = false) (HP2 : Hid (parN (l ++ [x]) b = p2)) (HY : Hid (parB (l ++ [x]) b = y)) (pn : Int) (c0 : UInt8) (HPN : Hid (parN l b = pn)) (HPB : Hid (parB l b = true)) (hi : Hid (l[0]? = some c0)) (hne : ((strB l).toList == (⟨#[]⟩ : ByteArray).toList) = false) (e0 : (c0.toNat : Int) = 39) :
    Calls Try.prog 6 #[.int .u8 (dn : Int), .int .i64 b, .string (strB l)] w fun e w' => e = .returned (.bool true) ∧ Below w.heap.size w w' := by
  have hsz : (strB l).size = l.length := rfl
  have h' : decide ((60 : Int) < (l.length : Int)) = false := by simp; omega
  have c1 : decide (b < 2) = false := by simp; omega
  have c2 : decide (36 < b) = false := by simp; omega
  have hcat := cat_ok (a := l) (b := [x]) (by simp; omega)
  have hap : strB l ++ strB [x] = strB (l ++ [x]) := strB_app l [x]
  have hx := x.toNat_lt
  have hkw : ((kk : Int) != (kk : Int)) = false := by simp
  have hn0 : (strB l).toList ≠ [] := fun e => by rw [e, nil_list] at hne; exact absurd hne (by decide)
  have hn1 : ((strB l).toList == []) = false := by simpa using hn0
  have hn2 : decide ((strB l).toList = []) = false := by simpa using hn0
  have ix := ix_0 hi.out
  rw [e0] at ix
  clear e0
  go_enter Try.func6, Try.ntmps6
  go_wp2_with fail
  refine (shown_any6 _).mono ?_
  rintro e w1 ⟨rfl, bb⟩
  have B1 := Lib.hid bb
  clear bb
  go_wp2_with fail
  refine (digit_any (kk : Int) _).mono ?_
  rw [HG.out]
  rintro e w2 ⟨rfl, bb⟩
  have B2 := Lib.hid (below_then B1.out bb)
  clear bb B1
  go_wp2_with fail
  refine (worth_any x.toNat b _ x.toNat_lt).mono ?_
  rw [HW.out, HI.out]
  rintro e w3 ⟨rfl, bb⟩
  have B3 := Lib.hid (below_then B2.out bb)
  clear bb B2
  go_wp2_with fail
  refine (parse_any l b _ (by omega)).mono ?_
  rw [HPN.out, HPB.out]
  rintro e w4 ⟨rfl, bb⟩
  have B4 := Lib.hid (below_then B3.out bb)
  clear bb B3
  have cv := conv_one x w4
  go_wp2_with fail
  refine (parse_any (l ++ [x]) b _ (by simp; omega)).mono ?_
  rw [HP2.out, HY.out]
  rintro e w5 ⟨rfl, bb⟩
  replace bb := al_then bb
  have B5 := Lib.hid (below_then B4.out bb)
  clear bb B4
  go_wp2_with fail
  go_ret
  exact ⟨rfl, B5.out⟩
set_option maxRecDepth 100000 in
set_option maxHeartbeats 8000000 in
theorem digits_45_f (dn : Nat) (b : Int) (l : List UInt8) (w : World) (hd : dn < 256) (hl : l.length ≤ 9223372036854775807) (kk : Nat) (x : UInt8) (p2 : Int) (y px : Bool) (h60 : l.length ≤ 60) (b2 : 2 ≤ b) (b36 : b ≤ 36) (hm : (dn : Int) % 36 = (kk : Int)) (hk : kk < 36) (HG : Hid (digF (kk : Int) = (x.toNat : Int))) (HW : Hid (worthF x.toNat b = 0)) (HI : Hid (isW x.toNat b = false)) (hlt : decide ((kk : Int) < b) = false) (HP2 : Hid (parN (l ++ [x]) b = p2)) (HY : Hid (parB (l ++ [x]) b = y)) (pn : Int) (c0 : UInt8) (HPN : Hid (parN l b = pn)) (HPB : Hid (parB l b = true)) (hi : Hid (l[0]? = some c0)) (hne : ((strB l).toList == (⟨#[]⟩ : ByteArray).toList) = false) (e0 : (c0.toNat : Int) = 45) (hy : y = false) :
    Calls Try.prog 6 #[.int .u8 (dn : Int), .int .i64 b, .string (strB l)] w fun e w' => e = .returned (.bool true) ∧ Below w.heap.size w w' := by
  subst hy
  have hsz : (strB l).size = l.length := rfl
  have h' : decide ((60 : Int) < (l.length : Int)) = false := by simp; omega
  have c1 : decide (b < 2) = false := by simp; omega
  have c2 : decide (36 < b) = false := by simp; omega
  have hcat := cat_ok (a := l) (b := [x]) (by simp; omega)
  have hap : strB l ++ strB [x] = strB (l ++ [x]) := strB_app l [x]
  have hx := x.toNat_lt
  have hkw : ((kk : Int) != (kk : Int)) = false := by simp
  have hn0 : (strB l).toList ≠ [] := fun e => by rw [e, nil_list] at hne; exact absurd hne (by decide)
  have hn1 : ((strB l).toList == []) = false := by simpa using hn0
  have hn2 : decide ((strB l).toList = []) = false := by simpa using hn0
  have ix := ix_0 hi.out
  rw [e0] at ix
  clear e0
  go_enter Try.func6, Try.ntmps6
  go_wp2_with fail
  refine (shown_any6 _).mono ?_
  rintro e w1 ⟨rfl, bb⟩
  have B1 := Lib.hid bb
  clear bb
  go_wp2_with fail
  refine (digit_any (kk : Int) _).mono ?_
  rw [HG.out]
  rintro e w2 ⟨rfl, bb⟩
  have B2 := Lib.hid (below_then B1.out bb)
  clear bb B1
  go_wp2_with fail
  refine (worth_any x.toNat b _ x.toNat_lt).mono ?_
  rw [HW.out, HI.out]
  rintro e w3 ⟨rfl, bb⟩
  have B3 := Lib.hid (below_then B2.out bb)
  clear bb B2
  go_wp2_with fail
  refine (parse_any l b _ (by omega)).mono ?_
  rw [HPN.out, HPB.out]
  rintro e w4 ⟨rfl, bb⟩
  have B4 := Lib.hid (below_then B3.out bb)
  clear bb B3
  have cv := conv_one x w4
  go_wp2_with fail
  refine (parse_any (l ++ [x]) b _ (by simp; omega)).mono ?_
  rw [HP2.out, HY.out]
  rintro e w5 ⟨rfl, bb⟩
  replace bb := al_then bb
  have B5 := Lib.hid (below_then B4.out bb)
  clear bb B4
  go_wp2_with fail
  go_ret
  exact ⟨rfl, B5.out⟩
set_option maxRecDepth 100000 in
set_option maxHeartbeats 8000000 in
theorem digits_pl_f (dn : Nat) (b : Int) (l : List UInt8) (w : World) (hd : dn < 256) (hl : l.length ≤ 9223372036854775807) (kk : Nat) (x : UInt8) (p2 : Int) (y px : Bool) (h60 : l.length ≤ 60) (b2 : 2 ≤ b) (b36 : b ≤ 36) (hm : (dn : Int) % 36 = (kk : Int)) (hk : kk < 36) (HG : Hid (digF (kk : Int) = (x.toNat : Int))) (HW : Hid (worthF x.toNat b = 0)) (HI : Hid (isW x.toNat b = false)) (hlt : decide ((kk : Int) < b) = false) (HP2 : Hid (parN (l ++ [x]) b = p2)) (HY : Hid (parB (l ++ [x]) b = y)) (pn : Int) (c0 : UInt8) (HPN : Hid (parN l b = pn)) (HPB : Hid (parB l b = true)) (hi : Hid (l[0]? = some c0)) (hne : ((strB l).toList == (⟨#[]⟩ : ByteArray).toList) = false) (f35 : ((c0.toNat : Int) == 35) = false) (f36 : ((c0.toNat : Int) == 36) = false) (f37 : ((c0.toNat : Int) == 37) = false) (f39 : ((c0.toNat : Int) == 39) = false) (f45 : ((c0.toNat : Int) == 45) = false) (hy : y = false) :
    Calls Try.prog 6 #[.int .u8 (dn : Int), .int .i64 b, .string (strB l)] w fun e w' => e = .returned (.bool true) ∧ Below w.heap.size w w' := by
  subst hy
  have hsz : (strB l).size = l.length := rfl
  have h' : decide ((60 : Int) < (l.length : Int)) = false := by simp; omega
  have c1 : decide (b < 2) = false := by simp; omega
  have c2 : decide (36 < b) = false := by simp; omega
  have hcat := cat_ok (a := l) (b := [x]) (by simp; omega)
  have hap : strB l ++ strB [x] = strB (l ++ [x]) := strB_app l [x]
  have hx := x.toNat_lt
  have hkw : ((kk : Int) != (kk : Int)) = false := by simp
  have hn0 : (strB l).toList ≠ [] := fun e => by rw [e, nil_list] at hne; exact absurd hne (by decide)
  have hn1 : ((strB l).toList == []) = false := by simpa using hn0
  have hn2 : decide ((strB l).toList = []) = false := by simpa using hn0
  have ix := ix_0 hi.out
  go_enter Try.func6, Try.ntmps6
  go_wp2_with fail
  refine (shown_any6 _).mono ?_
  rintro e w1 ⟨rfl, bb⟩
  have B1 := Lib.hid bb
  clear bb
  go_wp2_with fail
  refine (digit_any (kk : Int) _).mono ?_
  rw [HG.out]
  rintro e w2 ⟨rfl, bb⟩
  have B2 := Lib.hid (below_then B1.out bb)
  clear bb B1
  go_wp2_with fail
  refine (worth_any x.toNat b _ x.toNat_lt).mono ?_
  rw [HW.out, HI.out]
  rintro e w3 ⟨rfl, bb⟩
  have B3 := Lib.hid (below_then B2.out bb)
  clear bb B2
  go_wp2_with fail
  refine (parse_any l b _ (by omega)).mono ?_
  rw [HPN.out, HPB.out]
  rintro e w4 ⟨rfl, bb⟩
  have B4 := Lib.hid (below_then B3.out bb)
  clear bb B3
  have cv := conv_one x w4
  go_wp2_with fail
  refine (parse_any (l ++ [x]) b _ (by simp; omega)).mono ?_
  rw [HP2.out, HY.out]
  rintro e w5 ⟨rfl, bb⟩
  replace bb := al_then bb
  have B5 := Lib.hid (below_then B4.out bb)
  clear bb B4
  go_wp2_with fail
  go_ret
  exact ⟨rfl, B5.out⟩
end Go.Proofs.Ytlkjopbgobkgmaa
