/- The contracts as the statements use them: one for each way; and the statements' own example. -/
import Derived.Test.YtjeapcpicagobaaStkM
namespace Go.Proofs.Ytjeapcpicagobaa
open Go.RowKit
set_option linter.unusedVariables false
set_option linter.unusedSimpArgs false

theorem Row.len {w : World} {A : Option Addr} {n c : Nat} {l : List Int} (h : Row w A n c l) : l.length = n := h.1

theorem sh_out (A : Option Addr) (n c : Nat) (s : ByteArray) (l o : List Int) (limit : Int) (m : Nat) (w : World) (hn : n ≤ 50000) (HR : Hid (Row w A n c l)) (hr : Hid (resF (kindF s.data.toList) l = .out o)) (hm : Hid (o.length = m)) (hl : (m : Int) ≤ limit) :
    Calls Try.prog 15 #[.string s, .slice A n c, .int .i64 limit] w fun e w' => ∃ B d, e = .returned (.tuple #[.slice B m d, .bool true, .int .i64 0]) ∧ Row w' B m d o ∧ Below w.heap.size w w' := by
  refine (shuffle_at A n c s l limit w (by omega) HR).mono ?_
  have h := hm.out
  subst h
  rw [hr.out]
  simp only [knownR, codeR, listR]
  rw [if_neg (by omega), if_neg (by omega)]
  rintro e w' ⟨B, m, d, rfl, hr, hb⟩
  have := hr.len
  subst this
  exact ⟨_, _, rfl, hr, hb⟩
theorem sh_over (A : Option Addr) (n c : Nat) (s : ByteArray) (l o : List Int) (limit : Int) (m : Nat) (w : World) (hn : n ≤ 50000) (HR : Hid (Row w A n c l)) (hr : Hid (resF (kindF s.data.toList) l = .out o)) (hm : Hid (o.length = m)) (hl : limit < (m : Int)) :
    Calls Try.prog 15 #[.string s, .slice A n c, .int .i64 limit] w fun e w' => ∃ B d, e = .returned (.tuple #[.slice B n d, .bool true, .int .i64 (-3)]) ∧ Row w' B n d l ∧ Below w.heap.size w w' := by
  refine (shuffle_at A n c s l limit w (by omega) HR).mono ?_
  have h := hm.out
  subst h
  rw [hr.out]
  simp only [knownR, codeR, listR]
  rw [if_pos (by omega), if_pos (by omega)]
  rintro e w' ⟨B, m, d, rfl, hr, hb⟩
  obtain rfl : m = n := by rw [← hr.len, HR.out.len]
  exact ⟨_, _, rfl, hr, hb⟩
theorem sh_under (A : Option Addr) (n c : Nat) (s : ByteArray) (l : List Int) (limit : Int) (w : World) (hn : n ≤ 50000) (HR : Hid (Row w A n c l)) (hr : Hid (resF (kindF s.data.toList) l = .under)) :
    Calls Try.prog 15 #[.string s, .slice A n c, .int .i64 limit] w fun e w' => ∃ B d, e = .returned (.tuple #[.slice B n d, .bool true, .int .i64 (-4)]) ∧ Row w' B n d l ∧ Below w.heap.size w w' := by
  refine (shuffle_at A n c s l limit w (by omega) HR).mono ?_
  rw [hr.out]
  rintro e w' ⟨B, m, d, rfl, hr, hb⟩
  obtain rfl : m = n := hr.len.symm.trans HR.out.len
  exact ⟨_, _, rfl, hr, hb⟩
theorem sh_no (A : Option Addr) (n c : Nat) (s : ByteArray) (l : List Int) (limit : Int) (w : World) (hn : n ≤ 50000) (HR : Hid (Row w A n c l)) (hr : Hid (resF (kindF s.data.toList) l = .no)) :
    Calls Try.prog 15 #[.string s, .slice A n c, .int .i64 limit] w fun e w' => ∃ B d, e = .returned (.tuple #[.slice B n d, .bool false, .int .i64 0]) ∧ Row w' B n d l ∧ Below w.heap.size w w' := by
  refine (shuffle_at A n c s l limit w (by omega) HR).mono ?_
  rw [hr.out]
  rintro e w' ⟨B, m, d, rfl, hr, hb⟩
  obtain rfl : m = n := hr.len.symm.trans HR.out.len
  exact ⟨_, _, rfl, hr, hb⟩
theorem push_ok (A : Option Addr) (n c : Nat) (x limit : Int) (l : List Int) (w : World) (hn : n ≤ 50000) (HR : Hid (Row w A n c l)) (hl : (n : Int) < limit) :
    Calls Try.prog 9 #[.slice A n c, .int .i64 x, .int .i64 limit] w fun e w' => ∃ B d, e = .returned (.tuple #[.slice B (n + 1) d, .int .i64 0]) ∧ Row w' B (n + 1) d (l ++ [x]) ∧ Below w.heap.size w w' := by
  refine (push_at A n c x limit l w (by omega) HR).mono ?_
  have h := HR.out.len
  simp only [pushC, pushL]
  rw [if_neg (by omega), if_neg (by omega)]
  rintro e w' ⟨B, m, d, rfl, hr, hb⟩
  obtain rfl : m = n + 1 := by rw [← hr.len]; simp [h]
  exact ⟨_, _, rfl, hr, hb⟩
theorem push_over (A : Option Addr) (n c : Nat) (x limit : Int) (l : List Int) (w : World) (hn : n ≤ 50000) (HR : Hid (Row w A n c l)) (hl : limit ≤ (n : Int)) :
    Calls Try.prog 9 #[.slice A n c, .int .i64 x, .int .i64 limit] w fun e w' => ∃ B d, e = .returned (.tuple #[.slice B n d, .int .i64 (-3)]) ∧ Row w' B n d l ∧ Below w.heap.size w w' := by
  refine (push_at A n c x limit l w (by omega) HR).mono ?_
  have h := HR.out.len
  simp only [pushC, pushL]
  rw [if_pos (by omega), if_pos (by omega)]
  rintro e w' ⟨B, m, d, rfl, hr, hb⟩
  obtain rfl : m = n := by rw [← hr.len, h]
  exact ⟨_, _, rfl, hr, hb⟩
theorem same_true (A B : Option Addr) (n c m d : Nat) (l r : List Int) (w : World) (hn : n ≤ 50000) (hm : m ≤ 50000) (HL : Hid (Row w A n c l)) (HR : Hid (Row w B m d r)) (he : Hid (l = r)) :
    Calls Try.prog 13 #[.slice A n c, .slice B m d] w fun e w' => e = .returned (.bool true) ∧ Below w.heap.size w w' := by
  have h := same_at A B n c m d l r w (by omega) (by omega) HL HR
  rw [sameB_of he.out] at h
  exact h

theorem Row.cast {w : World} {A : Option Addr} {n m c : Nat} {l : List Int} (h : Row w A n c l) (e : n = m) : Row w A m c l := e ▸ h

set_option maxRecDepth 100000 in
set_option maxHeartbeats 8000000 in
theorem shown_any (w : World) :
    Calls Try.prog 8 #[] w fun e w' => e = .returned (.bool true) ∧ Below w.heap.size w w' := by
  go_enter Try.func8, Try.ntmps8
  go_wp2_with fail
  refine (sh_out _ _ _ _ [1, 2, 3] [2, 3, 1] 3 3 _ (by omega) (Lib.hid (lit_row w [1, 2, 3] 3 rfl (by omega))) (Lib.hid (by rfl)) (Lib.hid rfl) (by omega)).mono ?_
  rintro e w1 ⟨B1, d1, rfl, hr, bb⟩
  have B1' := Lib.hid (below_then (below_one _ _) bb)
  have R1 := Lib.hid hr
  clear hr bb
  go_wp2_with fail
  refine (sh_out _ _ _ _ [7, 8, 9, 2] [7, 8, 9, 7] 4 4 _ (by omega) (Lib.hid (lit_row w1 [7, 8, 9, 2] 4 rfl (by omega))) (Lib.hid (by rfl)) (Lib.hid rfl) (by omega)).mono ?_
  rintro e w2 ⟨B2, d2, rfl, hr, bb⟩
  have k2 := below_then (below_one w1 _) bb
  have B2' := Lib.hid (below_then B1'.out k2)
  have S1 := Lib.hid (R1.out.keep k2)
  have R2 := Lib.hid hr
  clear hr bb k2 R1 B1'
  go_wp2_with fail
  refine (push_ok _ _ _ _ _ [] _ (by omega) (Lib.hid (row_nil _)) (by omega)).mono ?_
  rintro e w3 ⟨B3, d3, rfl, hr, bb⟩
  have B3' := Lib.hid (below_then B2'.out bb)
  have R1 := Lib.hid (S1.out.keep bb)
  have S2 := Lib.hid (R2.out.keep bb)
  have R3 := Lib.hid hr
  clear hr bb R2 S1 B2'
  go_wp2_with fail
  refine (pop_one _ 0 _ _ 5 _ (by omega) R3 (Lib.hid rfl)).mono ?_
  rintro e w4 ⟨B4, d4, rfl, hr, bb⟩
  have B4' := Lib.hid (below_then B3'.out bb)
  have S1 := Lib.hid (R1.out.keep bb)
  have R2 := Lib.hid (S2.out.keep bb)
  clear hr bb R1 S2 B3' R3
  go_wp2_with fail
  refine (sh_over _ _ _ _ [1] [1, 1] 1 2 _ (by omega) (Lib.hid (lit_row w4 [1] 1 rfl (by omega))) (Lib.hid (by rfl)) (Lib.hid rfl) (by omega)).mono ?_
  rintro e w5 ⟨B5, d5, rfl, hr, bb⟩
  have k2 := below_then (below_one w4 _) bb
  have B5' := Lib.hid (below_then B4'.out k2)
  have R1 := Lib.hid (S1.out.keep k2)
  have S2 := Lib.hid (R2.out.keep k2)
  clear hr bb k2 S1 R2 B4'
  go_wp2_with fail
  refine (sh_no _ _ _ _ [1] 9 _ (by omega) (Lib.hid (lit_row w5 [1] 1 rfl (by omega))) (Lib.hid (by rfl))).mono ?_
  rintro e w6 ⟨B6, d6, rfl, hr, bb⟩
  have k2 := below_then (below_one w5 _) bb
  have B6' := Lib.hid (below_then B5'.out k2)
  have S1 := Lib.hid (R1.out.keep k2)
  have R2 := Lib.hid (S2.out.keep k2)
  clear hr bb k2 R1 S2 B5'
  go_wp2_with fail
  refine (same_true _ _ _ _ _ _ [2, 3, 1] [2, 3, 1] _ (by omega) (by omega) (Lib.hid (S1.out.keep (below_one _ _))) (Lib.hid (lit_row w6 [2, 3, 1] 3 rfl (by omega))) (Lib.hid rfl)).mono ?_
  rintro e w7 ⟨rfl, bb⟩
  have k2 := below_then (below_one w6 _) bb
  have B7' := Lib.hid (below_then B6'.out k2)
  have S2 := Lib.hid (R2.out.keep k2)
  clear bb k2 S1 R2 B6'
  go_wp2_with fail
  refine (same_true _ _ _ _ _ _ [7, 8, 9, 7] [7, 8, 9, 7] _ (by omega) (by omega) (Lib.hid (S2.out.keep (below_one _ _))) (Lib.hid (lit_row w7 [7, 8, 9, 7] 4 rfl (by omega))) (Lib.hid rfl)).mono ?_
  rintro e w8 ⟨rfl, bb⟩
  have B8' := Lib.hid (below_then B7'.out (below_then (below_one w7 _) bb))
  clear bb S2 B7'
  go_wp2_with fail
  go_ret
  exact ⟨rfl, B8'.out⟩

set_option maxRecDepth 100000 in
set_option maxHeartbeats 4000000 in
theorem both_any (A : Option Addr) (n c : Nat) (s t : ByteArray) (l o p : List Int) (m k : Nat) (w : World) (hn : n ≤ 900) (HR : Hid (Row w A n c l)) (h1 : Hid (resF (kindF s.data.toList) l = .out o)) (h2 : Hid (resF (kindF t.data.toList) o = .out p)) (hm : Hid (o.length = m)) (hk : Hid (p.length = k)) (hm2 : m ≤ 900) (hk2 : k ≤ 900) :
    Calls Try.prog 17 #[.string s, .string t, .slice A n c] w fun e w' => ∃ B d, e = .returned (.tuple #[.slice B k d, .bool true]) ∧ Row w' B k d p ∧ Below w.heap.size w w' := by
  go_enter Try.func17, Try.ntmps17
  go_wp2_with fail
  refine (sh_out _ _ _ _ l o 1000 m _ (by omega) HR h1 hm (by omega)).mono ?_
  rintro e w1 ⟨B1, d1, rfl, hr, bb⟩
  have R1 := Lib.hid hr
  have B1' := Lib.hid bb
  clear hr bb
  go_wp2_with fail
  refine (sh_out _ _ _ _ o p 1000 k _ (by omega) R1 h2 hk (by omega)).mono ?_
  rintro e w2 ⟨B2, d2, rfl, hr, bb⟩
  have R2 := Lib.hid hr
  have B2' := Lib.hid (below_then B1'.out bb)
  clear hr bb R1 B1'
  go_wp2_with fail
  go_ret2
  exact ⟨_, _, rfl, R2.out, B2'.out⟩
end Go.Proofs.Ytjeapcpicagobaa
