/- The walk of DictNewest. -/
import Derived.Test.YtnjmhgbdhekmdaaDictFacts
import Derived.Test.YtnjmhgbdhekmdaaDictDoesA
namespace Go.Proofs.Ytnjmhgbdhekmdaa
open Go.RowKit
set_option linter.unusedVariables false
set_option linter.unusedSimpArgs false

theorem gotW_snoc {l : List Wr} {q : Wr} {f : Option Nat} (h : ∀ i, f = some i → i < l.length) : gotW (l ++ [q]) f = gotW l f := by
  cases f with
  | none => rfl
  | some i =>
    have hi := h i rfl
    show (l ++ [q]).getD i w0 = l.getD i w0
    rw [List.getD_eq_getElem?_getD, List.getD_eq_getElem?_getD, List.getElem?_append_left hi]
set_option maxRecDepth 100000 in
set_option maxHeartbeats 8000000 in
theorem dnew_1 (A : Option Addr) (n c : Nat) (l : List Wr) (nm : List UInt8) (xt fl : Int) (ot : List UInt8) (w : World) (h : Wds w (.slice A n c) l) (f1 : dFew l 60 = false) :
    Calls Try.prog 5 #[.agg #[.slice A n c, .string (strB nm), .int .i64 xt, .int .i64 fl, .string (strB ot)]] w fun e w' => e = .returned (.bool true) ∧ Below w.heap.size w w' := by
  have L0 := Lib.hid (h.keep (al_one w (.cells #[.slice A n c, .string (strB nm), .int .i64 xt, .int .i64 fl, .string (strB ot)] 48)))
  have B0 : Hid (Below w.heap.size w (w.alloc (.cells #[.slice A n c, .string (strB nm), .int .i64 xt, .int .i64 fl, .string (strB ot)] 48))) := al_one _ _
  have hsz : (strB nm).size = nm.length := rfl
  have hso : (strB ot).size = ot.length := rfl
  clear h
  go_enter Try.func5, Try.ntmps5
  go_wp2_with fail
  refine (shown_any9 _).mono ?_
  rintro e w1 ⟨rfl, bb⟩
  have L1 := Lib.hid (L0.out.keep bb)
  have B1 := Lib.hid (below_then B0.out bb)
  clear bb L0 B0
  go_wp2_with fail
  refine (rfew_any A n c l 60 _ L1.out (by omega)).mono ?_
  rw [f1]
  rintro e w2 ⟨rfl, bb⟩
  have L2 := Lib.hid (L1.out.keep bb)
  have B2 := Lib.hid (below_then B1.out bb)
  clear bb L1 B1
  go_wp2_with fail
  go_ret
  exact ⟨rfl, B2.out⟩
set_option maxRecDepth 100000 in
set_option maxHeartbeats 8000000 in
theorem dnew_2 (A : Option Addr) (n c : Nat) (l : List Wr) (nm : List UInt8) (xt fl : Int) (ot : List UInt8) (w : World) (h : Wds w (.slice A n c) l) (f1 : dFew l 60 = true) (hr : dRight l = false) :
    Calls Try.prog 5 #[.agg #[.slice A n c, .string (strB nm), .int .i64 xt, .int .i64 fl, .string (strB ot)]] w fun e w' => e = .returned (.bool true) ∧ Below w.heap.size w w' := by
  have hlen := (few_facts f1).1
  have hl := h.len
  have hn : n ≤ 60 := by omega
  have L0 := Lib.hid (h.keep (al_one w (.cells #[.slice A n c, .string (strB nm), .int .i64 xt, .int .i64 fl, .string (strB ot)] 48)))
  have B0 : Hid (Below w.heap.size w (w.alloc (.cells #[.slice A n c, .string (strB nm), .int .i64 xt, .int .i64 fl, .string (strB ot)] 48))) := al_one _ _
  have hsz : (strB nm).size = nm.length := rfl
  have hso : (strB ot).size = ot.length := rfl
  clear h
  go_enter Try.func5, Try.ntmps5
  go_wp2_with fail
  refine (shown_any9 _).mono ?_
  rintro e w1 ⟨rfl, bb⟩
  have L1 := Lib.hid (L0.out.keep bb)
  have B1 := Lib.hid (below_then B0.out bb)
  clear bb L0 B0
  go_wp2_with fail
  refine (rfew_any A n c l 60 _ L1.out (by omega)).mono ?_
  rw [f1]
  rintro e w2 ⟨rfl, bb⟩
  have L2 := Lib.hid (L1.out.keep bb)
  have B2 := Lib.hid (below_then B1.out bb)
  clear bb L1 B1
  go_wp2_with fail
  refine (rright_any A n c l _ L2.out (by omega)).mono ?_
  rw [hr]
  rintro e w3 ⟨rfl, bb⟩
  have L3 := Lib.hid (L2.out.keep bb)
  have B3 := Lib.hid (below_then B2.out bb)
  clear bb L2 B2
  go_wp2_with fail
  go_ret
  exact ⟨rfl, B3.out⟩
set_option maxRecDepth 100000 in
set_option maxHeartbeats 8000000 in
theorem dnew_3 (A : Option Addr) (n c : Nat) (l : List Wr) (nm : List UInt8) (xt fl : Int) (ot : List UInt8) (w : World) (h : Wds w (.slice A n c) l) (f1 : dFew l 60 = true) (hr : dRight l = true) (h60 : (60 : Int) < (nm.length : Int)) :
    Calls Try.prog 5 #[.agg #[.slice A n c, .string (strB nm), .int .i64 xt, .int .i64 fl, .string (strB ot)]] w fun e w' => e = .returned (.bool true) ∧ Below w.heap.size w w' := by
  have hlen := (few_facts f1).1
  have hl := h.len
  have hn : n ≤ 60 := by omega
  have L0 := Lib.hid (h.keep (al_one w (.cells #[.slice A n c, .string (strB nm), .int .i64 xt, .int .i64 fl, .string (strB ot)] 48)))
  have B0 : Hid (Below w.heap.size w (w.alloc (.cells #[.slice A n c, .string (strB nm), .int .i64 xt, .int .i64 fl, .string (strB ot)] 48))) := al_one _ _
  have hsz : (strB nm).size = nm.length := rfl
  have hso : (strB ot).size = ot.length := rfl
  clear h
  go_enter Try.func5, Try.ntmps5
  go_wp2_with fail
  refine (shown_any9 _).mono ?_
  rintro e w1 ⟨rfl, bb⟩
  have L1 := Lib.hid (L0.out.keep bb)
  have B1 := Lib.hid (below_then B0.out bb)
  clear bb L0 B0
  go_wp2_with fail
  refine (rfew_any A n c l 60 _ L1.out (by omega)).mono ?_
  rw [f1]
  rintro e w2 ⟨rfl, bb⟩
  have L2 := Lib.hid (L1.out.keep bb)
  have B2 := Lib.hid (below_then B1.out bb)
  clear bb L1 B1
  go_wp2_with fail
  refine (rright_any A n c l _ L2.out (by omega)).mono ?_
  rw [hr]
  rintro e w3 ⟨rfl, bb⟩
  have L3 := Lib.hid (L2.out.keep bb)
  have B3 := Lib.hid (below_then B2.out bb)
  clear bb L2 B2
  go_wp2_with fail
  go_ret
  exact ⟨rfl, B3.out⟩
set_option maxRecDepth 100000 in
set_option maxHeartbeats 8000000 in
theorem dnew_4 (A : Option Addr) (n c : Nat) (l : List Wr) (nm : List UInt8) (xt fl : Int) (ot : List UInt8) (w : World) (h : Wds w (.slice A n c) l) (f1 : dFew l 60 = true) (hr : dRight l = true) (h60 : decide ((60 : Int) < (nm.length : Int)) = false) (o60 : (60 : Int) < (ot.length : Int)) :
    Calls Try.prog 5 #[.agg #[.slice A n c, .string (strB nm), .int .i64 xt, .int .i64 fl, .string (strB ot)]] w fun e w' => e = .returned (.bool true) ∧ Below w.heap.size w w' := by
  have hlen := (few_facts f1).1
  have hl := h.len
  have hn : n ≤ 60 := by omega
  have L0 := Lib.hid (h.keep (al_one w (.cells #[.slice A n c, .string (strB nm), .int .i64 xt, .int .i64 fl, .string (strB ot)] 48)))
  have B0 : Hid (Below w.heap.size w (w.alloc (.cells #[.slice A n c, .string (strB nm), .int .i64 xt, .int .i64 fl, .string (strB ot)] 48))) := al_one _ _
  have hsz : (strB nm).size = nm.length := rfl
  have hso : (strB ot).size = ot.length := rfl
  clear h
  go_enter Try.func5, Try.ntmps5
  go_wp2_with fail
  refine (shown_any9 _).mono ?_
  rintro e w1 ⟨rfl, bb⟩
  have L1 := Lib.hid (L0.out.keep bb)
  have B1 := Lib.hid (below_then B0.out bb)
  clear bb L0 B0
  go_wp2_with fail
  refine (rfew_any A n c l 60 _ L1.out (by omega)).mono ?_
  rw [f1]
  rintro e w2 ⟨rfl, bb⟩
  have L2 := Lib.hid (L1.out.keep bb)
  have B2 := Lib.hid (below_then B1.out bb)
  clear bb L1 B1
  go_wp2_with fail
  refine (rright_any A n c l _ L2.out (by omega)).mono ?_
  rw [hr]
  rintro e w3 ⟨rfl, bb⟩
  have L3 := Lib.hid (L2.out.keep bb)
  have B3 := Lib.hid (below_then B2.out bb)
  clear bb L2 B2
  go_wp2_with fail
  go_ret
  exact ⟨rfl, B3.out⟩
set_option maxRecDepth 100000 in
set_option maxHeartbeats 8000000 in
theorem dnew_5 (A : Option Addr) (n c : Nat) (l : List Wr) (nm : List UInt8) (xt fl : Int) (ot : List UInt8) (w : World) (h : Wds w (.slice A n c) l) (f1 : dFew l 60 = true) (hr : dRight l = true) (h60 : decide ((60 : Int) < (nm.length : Int)) = false) (o60 : decide ((60 : Int) < (ot.length : Int)) = false) (C : Int) (hC : addC l nm fl 1000 = C) (hne : C ≠ 0) :
    Calls Try.prog 5 #[.agg #[.slice A n c, .string (strB nm), .int .i64 xt, .int .i64 fl, .string (strB ot)]] w fun e w' => e = .returned (.bool true) ∧ Below w.heap.size w w' := by
  have hlen := (few_facts f1).1
  have hl := h.len
  have hn : n ≤ 60 := by omega
  have hnm : nm.length ≤ 60 := by
    have : ((nm.length : Nat) : Int) ≤ 60 := by simpa using h60
    omega
  have hot : ot.length ≤ 60 := by
    have : ((ot.length : Nat) : Int) ≤ 60 := by simpa using o60
    omega
  have HX : Hid (addL l nm xt fl 1000 = l) := by show _ = _; unfold addL; rw [if_neg (by rw [hC]; exact hne)]
  have HC := Lib.hid hC
  have hne2 : ((C : Int) != 0) = true := by simpa using hne
  have hne3 : ((C : Int) == 0) = false := by simpa using hne
  clear hC
  have L0 := Lib.hid (h.keep (al_one w (.cells #[.slice A n c, .string (strB nm), .int .i64 xt, .int .i64 fl, .string (strB ot)] 48)))
  have B0 : Hid (Below w.heap.size w (w.alloc (.cells #[.slice A n c, .string (strB nm), .int .i64 xt, .int .i64 fl, .string (strB ot)] 48))) := al_one _ _
  have hsz : (strB nm).size = nm.length := rfl
  have hso : (strB ot).size = ot.length := rfl
  clear h
  go_enter Try.func5, Try.ntmps5
  go_wp2_with fail
  refine (shown_any9 _).mono ?_
  rintro e w1 ⟨rfl, bb⟩
  have L1 := Lib.hid (L0.out.keep bb)
  have B1 := Lib.hid (below_then B0.out bb)
  clear bb L0 B0
  go_wp2_with fail
  refine (rfew_any A n c l 60 _ L1.out (by omega)).mono ?_
  rw [f1]
  rintro e w2 ⟨rfl, bb⟩
  have L2 := Lib.hid (L1.out.keep bb)
  have B2 := Lib.hid (below_then B1.out bb)
  clear bb L1 B1
  go_wp2_with fail
  refine (rright_any A n c l _ L2.out (by omega)).mono ?_
  rw [hr]
  rintro e w3 ⟨rfl, bb⟩
  have L3 := Lib.hid (L2.out.keep bb)
  have B3 := Lib.hid (below_then B2.out bb)
  clear bb L2 B2
  go_wp2_with fail
  refine (dadd_any A n c l nm xt fl 1000 _ L3.out (by omega)).mono ?_
  rw [HX.out, HC.out]
  rintro e w4 ⟨A1, n1, c1, rfl, hy, bb⟩
  have L4 := Lib.hid (L3.out.keep bb)
  have B4 := Lib.hid (below_then B3.out bb)
  have X4 := Lib.hid hy
  clear bb L3 B3 hy
  go_wp2_with fail
  refine (rsame9_any A1 A n1 c1 n c l l _ X4.out L4.out (by omega)).mono ?_
  rw [dsame_refl]
  rintro e w5 ⟨rfl, bb⟩
  have L5 := Lib.hid (L4.out.keep bb)
  have X5 := Lib.hid (X4.out.keep bb)
  have B5 := Lib.hid (below_then B4.out bb)
  clear bb L4 X4 B4
  go_wp2_with fail
  go_ret
  exact ⟨rfl, B5.out⟩
end Go.Proofs.Ytnjmhgbdhekmdaa
