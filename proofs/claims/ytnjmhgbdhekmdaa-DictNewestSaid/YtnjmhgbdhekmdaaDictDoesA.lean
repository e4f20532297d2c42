/- The walk of DictDoes. -/
import Derived.Test.YtnjmhgbdhekmdaaSetC
namespace Go.Proofs.Ytnjmhgbdhekmdaa
open Go.RowKit
set_option linter.unusedVariables false
set_option linter.unusedSimpArgs false

theorem namedC_rng (nm : List UInt8) : -100 ≤ namedC nm ∧ namedC nm ≤ 0 := by
  unfold namedC
  split
  · omega
  · split
    · omega
    · split <;> omega
theorem addC_rng (l : List Wr) (nm : List UInt8) (fl lim : Int) : -100 ≤ addC l nm fl lim ∧ addC l nm fl lim ≤ 0 := by
  unfold addC
  have := namedC_rng nm
  split
  · omega
  · split
    · omega
    · split <;> omega
theorem flgC_rng (l : List Wr) (p fl : Int) : -100 ≤ flgC l p fl ∧ flgC l p fl ≤ 0 := by unfold flgC; split <;> omega
theorem cutC_rng (l : List Wr) (n : Int) : -100 ≤ cutC l n ∧ cutC l n ≤ 0 := by unfold cutC; split <;> omega
theorem addL_len (l : List Wr) (nm : List UInt8) (xt fl lim : Int) : (addL l nm xt fl lim).length ≤ l.length + 1 := by
  unfold addL
  split
  · simp
  · omega
theorem flgL_len (l : List Wr) (p fl : Int) : (flgL l p fl).length = l.length := by
  unfold flgL
  split
  · simp
  · rfl
theorem cutL_len (l : List Wr) (n : Int) : (cutL l n).length ≤ l.length := by
  unfold cutL
  split
  · simp; omega
  · omega
set_option maxRecDepth 100000 in
set_option maxHeartbeats 8000000 in
theorem ddoes_1 (A : Option Addr) (n c : Nat) (l : List Wr) (nm : List UInt8) (xt fl m : Int) (w : World) (h : Wds w (.slice A n c) l) (f1 : dFew l 60 = false) :
    Calls Try.prog 4 #[.agg #[.slice A n c, .string (strB nm), .int .i64 xt, .int .i64 fl, .int .i64 m]] w fun e w' => e = .returned (.bool true) ∧ Below w.heap.size w w' := by
  have L0 := Lib.hid (h.keep (al_one w (.cells #[.slice A n c, .string (strB nm), .int .i64 xt, .int .i64 fl, .int .i64 m] 36)))
  have B0 : Hid (Below w.heap.size w (w.alloc (.cells #[.slice A n c, .string (strB nm), .int .i64 xt, .int .i64 fl, .int .i64 m] 36))) := al_one _ _
  have hsz : (strB nm).size = nm.length := rfl
  clear h
  go_enter Try.func4, Try.ntmps4
  go_wp2_with fail
  refine (shown_any9 _).mono ?_
  rintro e w1 ⟨rfl, bb⟩
  have L1 := Lib.hid (L0.out.keep bb)
  have B1 := Lib.hid (below_then B0.out bb)
  clear bb L0 B0
  go_wp2_with fail
  refine (rfew_any A n c l 60 _ L1.out (by omega)).mono ?_
  rw [f1]
  rintro e w2 ⟨rfl, bb⟩
  have L2 := Lib.hid (L1.out.keep bb)
  have B2 := Lib.hid (below_then B1.out bb)
  clear bb L1 B1
  go_wp2_with fail
  go_ret
  exact ⟨rfl, B2.out⟩
set_option maxRecDepth 100000 in
set_option maxHeartbeats 8000000 in
theorem ddoes_2 (A : Option Addr) (n c : Nat) (l : List Wr) (nm : List UInt8) (xt fl m : Int) (w : World) (h : Wds w (.slice A n c) l) (f1 : dFew l 60 = true) (hr : dRight l = false) :
    Calls Try.prog 4 #[.agg #[.slice A n c, .string (strB nm), .int .i64 xt, .int .i64 fl, .int .i64 m]] w fun e w' => e = .returned (.bool true) ∧ Below w.heap.size w w' := by
  have hlen := (few_facts f1).1
  have hn : n ≤ 60 := by have := h.len; omega
  have L0 := Lib.hid (h.keep (al_one w (.cells #[.slice A n c, .string (strB nm), .int .i64 xt, .int .i64 fl, .int .i64 m] 36)))
  have B0 : Hid (Below w.heap.size w (w.alloc (.cells #[.slice A n c, .string (strB nm), .int .i64 xt, .int .i64 fl, .int .i64 m] 36))) := al_one _ _
  have hsz : (strB nm).size = nm.length := rfl
  clear h
  go_enter Try.func4, Try.ntmps4
  go_wp2_with fail
  refine (shown_any9 _).mono ?_
  rintro e w1 ⟨rfl, bb⟩
  have L1 := Lib.hid (L0.out.keep bb)
  have B1 := Lib.hid (below_then B0.out bb)
  clear bb L0 B0
  go_wp2_with fail
  refine (rfew_any A n c l 60 _ L1.out (by omega)).mono ?_
  rw [f1]
  rintro e w2 ⟨rfl, bb⟩
  have L2 := Lib.hid (L1.out.keep bb)
  have B2 := Lib.hid (below_then B1.out bb)
  clear bb L1 B1
  go_wp2_with fail
  refine (rright_any A n c l _ L2.out (by omega)).mono ?_
  rw [hr]
  rintro e w3 ⟨rfl, bb⟩
  have L3 := Lib.hid (L2.out.keep bb)
  have B3 := Lib.hid (below_then B2.out bb)
  clear bb L2 B2
  go_wp2_with fail
  go_ret
  exact ⟨rfl, B3.out⟩
set_option maxRecDepth 100000 in
set_option maxHeartbeats 8000000 in
theorem ddoes_3 (A : Option Addr) (n c : Nat) (l : List Wr) (nm : List UInt8) (xt fl m : Int) (w : World) (h : Wds w (.slice A n c) l) (f1 : dFew l 60 = true) (hr : dRight l = true) (h60 : (60 : Int) < (nm.length : Int)) :
    Calls Try.prog 4 #[.agg #[.slice A n c, .string (strB nm), .int .i64 xt, .int .i64 fl, .int .i64 m]] w fun e w' => e = .returned (.bool true) ∧ Below w.heap.size w w' := by
  have hlen := (few_facts f1).1
  have hn : n ≤ 60 := by have := h.len; omega
  have L0 := Lib.hid (h.keep (al_one w (.cells #[.slice A n c, .string (strB nm), .int .i64 xt, .int .i64 fl, .int .i64 m] 36)))
  have B0 : Hid (Below w.heap.size w (w.alloc (.cells #[.slice A n c, .string (strB nm), .int .i64 xt, .int .i64 fl, .int .i64 m] 36))) := al_one _ _
  have hsz : (strB nm).size = nm.length := rfl
  clear h
  go_enter Try.func4, Try.ntmps4
  go_wp2_with fail
  refine (shown_any9 _).mono ?_
  rintro e w1 ⟨rfl, bb⟩
  have L1 := Lib.hid (L0.out.keep bb)
  have B1 := Lib.hid (below_then B0.out bb)
  clear bb L0 B0
  go_wp2_with fail
  refine (rfew_any A n c l 60 _ L1.out (by omega)).mono ?_
  rw [f1]
  rintro e w2 ⟨rfl, bb⟩
  have L2 := Lib.hid (L1.out.keep bb)
  have B2 := Lib.hid (below_then B1.out bb)
  clear bb L1 B1
  go_wp2_with fail
  refine (rright_any A n c l _ L2.out (by omega)).mono ?_
  rw [hr]
  rintro e w3 ⟨rfl, bb⟩
  have L3 := Lib.hid (L2.out.keep bb)
  have B3 := Lib.hid (below_then B2.out bb)
  clear bb L2 B2
  go_wp2_with fail
  go_ret
  exact ⟨rfl, B3.out⟩
set_option maxRecDepth 100000 in
set_option maxHeartbeats 8000000 in
theorem ddoes_4 (A : Option Addr) (n c : Nat) (l : List Wr) (nm : List UInt8) (xt fl m : Int) (w : World) (h : Wds w (.slice A n c) l) (f1 : dFew l 60 = true) (hr : dRight l = true) (h60 : decide ((60 : Int) < (nm.length : Int)) = false) :
    Calls Try.prog 4 #[.agg #[.slice A n c, .string (strB nm), .int .i64 xt, .int .i64 fl, .int .i64 m]] w fun e w' => e = .returned (.bool true) ∧ Below w.heap.size w w' := by
  have hlen := (few_facts f1).1
  have hn : n ≤ 60 := by have := h.len; omega
  have a1 := addL_len l nm xt fl m
  have a2 := flgL_len l m fl
  have a3 := cutL_len l m
  obtain ⟨r1, s1⟩ := addC_rng l nm fl m
  obtain ⟨r2, s2⟩ := flgC_rng l m fl
  obtain ⟨r3, s3⟩ := cutC_rng l m
  obtain ⟨X1, e1⟩ : ∃ x, addL l nm xt fl m = x := ⟨_, rfl⟩
  obtain ⟨C1, g1⟩ : ∃ x, addC l nm fl m = x := ⟨_, rfl⟩
  obtain ⟨X2, e2⟩ : ∃ x, flgL l m fl = x := ⟨_, rfl⟩
  obtain ⟨C2, g2⟩ : ∃ x, flgC l m fl = x := ⟨_, rfl⟩
  obtain ⟨X3, e3⟩ : ∃ x, cutL l m = x := ⟨_, rfl⟩
  obtain ⟨C3, g3⟩ : ∃ x, cutC l m = x := ⟨_, rfl⟩
  rw [e1] at a1
  rw [e2] at a2
  rw [e3] at a3
  rw [g1] at r1 s1
  rw [g2] at r2 s2
  rw [g3] at r3 s3
  have HX1 := Lib.hid e1
  have HX2 := Lib.hid e2
  have HX3 := Lib.hid e3
  have HC1 := Lib.hid g1
  have HC2 := Lib.hid g2
  have HC3 := Lib.hid g3
  have HN1 : Hid (X1.length ≤ 1000000) := by show _ ≤ _; omega
  have HN2 : Hid (X2.length ≤ 1000000) := by show _ ≤ _; omega
  have HN3 : Hid (X3.length ≤ 1000000) := by show _ ≤ _; omega
  clear e1 e2 e3 g1 g2 g3 a1 a2 a3
  have L0 := Lib.hid (h.keep (al_one w (.cells #[.slice A n c, .string (strB nm), .int .i64 xt, .int .i64 fl, .int .i64 m] 36)))
  have B0 : Hid (Below w.heap.size w (w.alloc (.cells #[.slice A n c, .string (strB nm), .int .i64 xt, .int .i64 fl, .int .i64 m] 36))) := al_one _ _
  have hsz : (strB nm).size = nm.length := rfl
  clear h
  go_enter Try.func4, Try.ntmps4
  go_wp2_with fail
  refine (shown_any9 _).mono ?_
  rintro e w1 ⟨rfl, bb⟩
  have L1 := Lib.hid (L0.out.keep bb)
  have B1 := Lib.hid (below_then B0.out bb)
  clear bb L0 B0
  go_wp2_with fail
  refine (rfew_any A n c l 60 _ L1.out (by omega)).mono ?_
  rw [f1]
  rintro e w2 ⟨rfl, bb⟩
  have L2 := Lib.hid (L1.out.keep bb)
  have B2 := Lib.hid (below_then B1.out bb)
  clear bb L1 B1
  go_wp2_with fail
  refine (rright_any A n c l _ L2.out (by omega)).mono ?_
  rw [hr]
  rintro e w3 ⟨rfl, bb⟩
  have L3 := Lib.hid (L2.out.keep bb)
  have B3 := Lib.hid (below_then B2.out bb)
  clear bb L2 B2
  go_wp2_with fail
  refine (dadd_any A n c l nm xt fl m _ L3.out (by omega)).mono ?_
  rw [HX1.out, HC1.out]
  rintro e w4 ⟨A1, n1, c1, rfl, hy, bb⟩
  have L4 := Lib.hid (L3.out.keep bb)
  have B4 := Lib.hid (below_then B3.out bb)
  have Ra4 := Lib.hid hy
  clear bb L3 B3 hy
  go_wp2_with fail
  refine (radd_any A n c l nm xt fl m _ L4.out (by omega)).mono ?_
  rw [HX1.out, HC1.out]
  rintro e w5 ⟨A2, n2, c2, rfl, hy, bb⟩
  have L5 := Lib.hid (L4.out.keep bb)
  have Ra5 := Lib.hid (Ra4.out.keep bb)
  have B5 := Lib.hid (below_then B4.out bb)
  have Rb5 := Lib.hid hy
  clear bb L4 Ra4 B4 hy
  go_wp2_with fail
  refine (dflag_any A n c l m fl _ L5.out (by omega)).mono ?_
  rw [HX2.out, HC2.out]
  rintro e w6 ⟨A3, n3, c3, rfl, hy, bb⟩
  have L6 := Lib.hid (L5.out.keep bb)
  have Ra6 := Lib.hid (Ra5.out.keep bb)
  have Rb6 := Lib.hid (Rb5.out.keep bb)
  have B6 := Lib.hid (below_then B5.out bb)
  have Rc6 := Lib.hid hy
  clear bb L5 Ra5 Rb5 B5 hy
  go_wp2_with fail
  refine (rflag_any A n c l m fl _ L6.out (by omega)).mono ?_
  rw [HX2.out, HC2.out]
  rintro e w7 ⟨A4, n4, c4, rfl, hy, bb⟩
  have L7 := Lib.hid (L6.out.keep bb)
  have Ra7 := Lib.hid (Ra6.out.keep bb)
  have Rb7 := Lib.hid (Rb6.out.keep bb)
  have Rc7 := Lib.hid (Rc6.out.keep bb)
  have B7 := Lib.hid (below_then B6.out bb)
  have Rd7 := Lib.hid hy
  clear bb L6 Ra6 Rb6 Rc6 B6 hy
  go_wp2_with fail
  refine (dcut_any A n c l m _ L7.out (by omega)).mono ?_
  rw [HX3.out, HC3.out]
  rintro e w8 ⟨A5, n5, c5, rfl, hy, bb⟩
  have L8 := Lib.hid (L7.out.keep bb)
  have Ra8 := Lib.hid (Ra7.out.keep bb)
  have Rb8 := Lib.hid (Rb7.out.keep bb)
  have Rc8 := Lib.hid (Rc7.out.keep bb)
  have Rd8 := Lib.hid (Rd7.out.keep bb)
  have B8 := Lib.hid (below_then B7.out bb)
  have Re8 := Lib.hid hy
  clear bb L7 Ra7 Rb7 Rc7 Rd7 B7 hy
  go_wp2_with fail
  refine (rcut_any A n c l m _ L8.out (by omega)).mono ?_
  rw [HX3.out, HC3.out]
  rintro e w9 ⟨A6, n6, c6, rfl, hy, bb⟩
  have L9 := Lib.hid (L8.out.keep bb)
  have Ra9 := Lib.hid (Ra8.out.keep bb)
  have Rb9 := Lib.hid (Rb8.out.keep bb)
  have Rc9 := Lib.hid (Rc8.out.keep bb)
  have Rd9 := Lib.hid (Rd8.out.keep bb)
  have Re9 := Lib.hid (Re8.out.keep bb)
  have B9 := Lib.hid (below_then B8.out bb)
  have Rf9 := Lib.hid hy
  clear bb L8 Ra8 Rb8 Rc8 Rd8 Re8 B8 hy
  clear L9
  go_wp2_with fail
  refine (rsame9_any A1 A2 n1 c1 n2 c2 X1 X1 _ Ra9.out Rb9.out HN1.out).mono ?_
  rw [dsame_refl]
  rintro e w10 ⟨rfl, bb⟩
  have Ra10 := Lib.hid (Ra9.out.keep bb)
  have Rb10 := Lib.hid (Rb9.out.keep bb)
  have Rc10 := Lib.hid (Rc9.out.keep bb)
  have Rd10 := Lib.hid (Rd9.out.keep bb)
  have Re10 := Lib.hid (Re9.out.keep bb)
  have Rf10 := Lib.hid (Rf9.out.keep bb)
  have B10 := Lib.hid (below_then B9.out bb)
  clear bb Ra9 Rb9 Rc9 Rd9 Re9 Rf9 B9
  go_wp2_with fail
  refine (rsame9_any A3 A4 n3 c3 n4 c4 X2 X2 _ Rc10.out Rd10.out HN2.out).mono ?_
  rw [dsame_refl]
  rintro e w11 ⟨rfl, bb⟩
  have Ra11 := Lib.hid (Ra10.out.keep bb)
  have Rb11 := Lib.hid (Rb10.out.keep bb)
  have Rc11 := Lib.hid (Rc10.out.keep bb)
  have Rd11 := Lib.hid (Rd10.out.keep bb)
  have Re11 := Lib.hid (Re10.out.keep bb)
  have Rf11 := Lib.hid (Rf10.out.keep bb)
  have B11 := Lib.hid (below_then B10.out bb)
  clear bb Ra10 Rb10 Rc10 Rd10 Re10 Rf10 B10
  go_wp2_with fail
  refine (rsame9_any A5 A6 n5 c5 n6 c6 X3 X3 _ Re11.out Rf11.out HN3.out).mono ?_
  rw [dsame_refl]
  rintro e w12 ⟨rfl, bb⟩
  have Ra12 := Lib.hid (Ra11.out.keep bb)
  have Rb12 := Lib.hid (Rb11.out.keep bb)
  have Rc12 := Lib.hid (Rc11.out.keep bb)
  have Rd12 := Lib.hid (Rd11.out.keep bb)
  have Re12 := Lib.hid (Re11.out.keep bb)
  have Rf12 := Lib.hid (Rf11.out.keep bb)
  have B12 := Lib.hid (below_then B11.out bb)
  clear bb Ra11 Rb11 Rc11 Rd11 Re11 Rf11 B11
  go_wp2_with fail
  go_ret
  exact ⟨rfl, B12.out⟩
theorem ddoes_any (A : Option Addr) (n c : Nat) (l : List Wr) (nm : List UInt8) (xt fl m : Int) (w : World) (h : Wds w (.slice A n c) l) :
    Calls Try.prog 4 #[.agg #[.slice A n c, .string (strB nm), .int .i64 xt, .int .i64 fl, .int .i64 m]] w fun e w' => e = .returned (.bool true) ∧ Below w.heap.size w w' := by
  cases f1 : dFew l 60 with
  | false => exact ddoes_1 A n c l nm xt fl m w h f1
  | true =>
    cases hr : dRight l with
    | false => exact ddoes_2 A n c l nm xt fl m w h f1 hr
    | true =>
      by_cases h60 : (60 : Int) < (nm.length : Int)
      · exact ddoes_3 A n c l nm xt fl m w h f1 hr h60
      · exact ddoes_4 A n c l nm xt fl m w h f1 hr (by simpa using h60)
end Go.Proofs.Ytnjmhgbdhekmdaa
