/- The walk of DictNames. -/
import Derived.Test.YtnjmhgbdhekmdaaDictFacts
import Derived.Test.YtnjmhgbdhekmdaaDictDoesA
namespace Go.Proofs.Ytnjmhgbdhekmdaa
open Go.RowKit
set_option linter.unusedVariables false
set_option linter.unusedSimpArgs false

theorem nm_nil {nm : List UInt8} (h : 1 ≤ nm.length) : (strB nm).toList.isEmpty = false := str_emp (by intro e; subst e; simp at h)
theorem named_c {nm : List UInt8} (h1 : 1 ≤ nm.length) (h31 : nm.length ≤ 31) : namedC nm = if nm.all solid = true then 0 else -32 := by
  unfold namedC
  rw [if_neg (by intro e; subst e; simp at h1), if_neg (by omega)]
theorem add_len {l : List Wr} {nm : List UInt8} {xt fl lim k : Int} (hk : addC l nm fl lim = k) (h : k ≠ 0) : addL l nm xt fl lim = l := by unfold addL; rw [if_neg (by rw [hk]; exact h)]
set_option maxRecDepth 100000 in
set_option maxHeartbeats 8000000 in
theorem dnames_1 (A : Option Addr) (n c : Nat) (l : List Wr) (nm : List UInt8) (fl : Int) (lim : Nat) (w : World) (h : Wds w (.slice A n c) l) (hlim : lim < 256) (f1 : dFew l 60 = false) :
    Calls Try.prog 7 #[.agg #[.slice A n c, .string (strB nm), .int .i64 fl, .int .u8 (lim : Int)]] w fun e w' => e = .returned (.bool true) ∧ Below w.heap.size w w' := by
  have L0 := Lib.hid (h.keep (al_one w (.cells #[.slice A n c, .string (strB nm), .int .i64 fl, .int .u8 (lim : Int)] 54)))
  have B0 : Hid (Below w.heap.size w (w.alloc (.cells #[.slice A n c, .string (strB nm), .int .i64 fl, .int .u8 (lim : Int)] 54))) := al_one _ _
  have hsz : (strB nm).size = nm.length := rfl
  clear h
  go_enter Try.func7, Try.ntmps7
  go_wp2_with fail
  refine (shown_any9 _).mono ?_
  rintro e w1 ⟨rfl, bb⟩
  have L1 := Lib.hid (L0.out.keep bb)
  have B1 := Lib.hid (below_then B0.out bb)
  clear bb L0 B0
  go_wp2_with fail
  refine (rfew_any A n c l 60 _ L1.out (by omega)).mono ?_
  rw [f1]
  rintro e w2 ⟨rfl, bb⟩
  have L2 := Lib.hid (L1.out.keep bb)
  have B2 := Lib.hid (below_then B1.out bb)
  clear bb L1 B1
  go_wp2_with fail
  go_ret
  exact ⟨rfl, B2.out⟩
set_option maxRecDepth 100000 in
set_option maxHeartbeats 8000000 in
theorem dnames_2 (A : Option Addr) (n c : Nat) (l : List Wr) (nm : List UInt8) (fl : Int) (lim : Nat) (w : World) (h : Wds w (.slice A n c) l) (hlim : lim < 256) (f1 : dFew l 60 = true) (hr : dRight l = false) :
    Calls Try.prog 7 #[.agg #[.slice A n c, .string (strB nm), .int .i64 fl, .int .u8 (lim : Int)]] w fun e w' => e = .returned (.bool true) ∧ Below w.heap.size w w' := by
  have hlen := (few_facts f1).1
  have hl := h.len
  have hn : n ≤ 60 := by omega
  have L0 := Lib.hid (h.keep (al_one w (.cells #[.slice A n c, .string (strB nm), .int .i64 fl, .int .u8 (lim : Int)] 54)))
  have B0 : Hid (Below w.heap.size w (w.alloc (.cells #[.slice A n c, .string (strB nm), .int .i64 fl, .int .u8 (lim : Int)] 54))) := al_one _ _
  have hsz : (strB nm).size = nm.length := rfl
  clear h
  go_enter Try.func7, Try.ntmps7
  go_wp2_with fail
  refine (shown_any9 _).mono ?_
  rintro e w1 ⟨rfl, bb⟩
  have L1 := Lib.hid (L0.out.keep bb)
  have B1 := Lib.hid (below_then B0.out bb)
  clear bb L0 B0
  go_wp2_with fail
  refine (rfew_any A n c l 60 _ L1.out (by omega)).mono ?_
  rw [f1]
  rintro e w2 ⟨rfl, bb⟩
  have L2 := Lib.hid (L1.out.keep bb)
  have B2 := Lib.hid (below_then B1.out bb)
  clear bb L1 B1
  go_wp2_with fail
  refine (rright_any A n c l _ L2.out (by omega)).mono ?_
  rw [hr]
  rintro e w3 ⟨rfl, bb⟩
  have L3 := Lib.hid (L2.out.keep bb)
  have B3 := Lib.hid (below_then B2.out bb)
  clear bb L2 B2
  go_wp2_with fail
  go_ret
  exact ⟨rfl, B3.out⟩
set_option maxRecDepth 100000 in
set_option maxHeartbeats 8000000 in
theorem dnames_3 (A : Option Addr) (n c : Nat) (l : List Wr) (nm : List UInt8) (fl : Int) (lim : Nat) (w : World) (h : Wds w (.slice A n c) l) (hlim : lim < 256) (f1 : dFew l 60 = true) (hr : dRight l = true) (h60 : (60 : Int) < (nm.length : Int)) :
    Calls Try.prog 7 #[.agg #[.slice A n c, .string (strB nm), .int .i64 fl, .int .u8 (lim : Int)]] w fun e w' => e = .returned (.bool true) ∧ Below w.heap.size w w' := by
  have hlen := (few_facts f1).1
  have hl := h.len
  have hn : n ≤ 60 := by omega
  have L0 := Lib.hid (h.keep (al_one w (.cells #[.slice A n c, .string (strB nm), .int .i64 fl, .int .u8 (lim : Int)] 54)))
  have B0 : Hid (Below w.heap.size w (w.alloc (.cells #[.slice A n c, .string (strB nm), .int .i64 fl, .int .u8 (lim : Int)] 54))) := al_one _ _
  have hsz : (strB nm).size = nm.length := rfl
  clear h
  go_enter Try.func7, Try.ntmps7
  go_wp2_with fail
  refine (shown_any9 _).mono ?_
  rintro e w1 ⟨rfl, bb⟩
  have L1 := Lib.hid (L0.out.keep bb)
  have B1 := Lib.hid (below_then B0.out bb)
  clear bb L0 B0
  go_wp2_with fail
  refine (rfew_any A n c l 60 _ L1.out (by omega)).mono ?_
  rw [f1]
  rintro e w2 ⟨rfl, bb⟩
  have L2 := Lib.hid (L1.out.keep bb)
  have B2 := Lib.hid (below_then B1.out bb)
  clear bb L1 B1
  go_wp2_with fail
  refine (rright_any A n c l _ L2.out (by omega)).mono ?_
  rw [hr]
  rintro e w3 ⟨rfl, bb⟩
  have L3 := Lib.hid (L2.out.keep bb)
  have B3 := Lib.hid (below_then B2.out bb)
  clear bb L2 B2
  go_wp2_with fail
  go_ret
  exact ⟨rfl, B3.out⟩
set_option maxRecDepth 100000 in
set_option maxHeartbeats 8000000 in
theorem dnames_a (A : Option Addr) (n c : Nat) (l : List Wr) (nm : List UInt8) (fl : Int) (lim : Nat) (w : World) (h : Wds w (.slice A n c) l) (hlim : lim < 256) (f1 : dFew l 60 = true) (hr : dRight l = true) (h60 : decide ((60 : Int) < (nm.length : Int)) = false) (h0 : nm = []) :
    Calls Try.prog 7 #[.agg #[.slice A n c, .string (strB nm), .int .i64 fl, .int .u8 (lim : Int)]] w fun e w' => e = .returned (.bool true) ∧ Below w.heap.size w w' := by
  have hlen := (few_facts f1).1
  have hl := h.len
  have hn : n ≤ 60 := by omega
  subst h0
  have knil : (strB []).toList.isEmpty = true := by rw [str_toList]; rfl
  have hC : addC l [] fl (lim : Int) = -16 := by unfold addC namedC; simp
  have HX : Hid (addL l [] 0 fl (lim : Int) = l) := add_len hC (by decide)
  have HC := Lib.hid hC
  have HXL : Hid (l.length = n) := hl
  have kw : wrap64 ((n : Int) + 1) = (n : Int) + 1 := w64_id (by omega) (by omega)
  have kne : ((n : Int) == (n : Int) + 1) = false := by simp; omega
  have L0 := Lib.hid (h.keep (al_one w (.cells #[.slice A n c, .string (strB []), .int .i64 fl, .int .u8 (lim : Int)] 54)))
  have B0 : Hid (Below w.heap.size w (w.alloc (.cells #[.slice A n c, .string (strB []), .int .i64 fl, .int .u8 (lim : Int)] 54))) := al_one _ _
  have hsz : (strB []).size = 0 := rfl
  clear h
  clear hC
  go_enter Try.func7, Try.ntmps7
  go_wp2_with fail
  refine (shown_any9 _).mono ?_
  rintro e w1 ⟨rfl, bb⟩
  have L1 := Lib.hid (L0.out.keep bb)
  have B1 := Lib.hid (below_then B0.out bb)
  clear bb L0 B0
  go_wp2_with fail
  refine (rfew_any A n c l 60 _ L1.out (by omega)).mono ?_
  rw [f1]
  rintro e w2 ⟨rfl, bb⟩
  have L2 := Lib.hid (L1.out.keep bb)
  have B2 := Lib.hid (below_then B1.out bb)
  clear bb L1 B1
  go_wp2_with fail
  refine (rright_any A n c l _ L2.out (by omega)).mono ?_
  rw [hr]
  rintro e w3 ⟨rfl, bb⟩
  have L3 := Lib.hid (L2.out.keep bb)
  have B3 := Lib.hid (below_then B2.out bb)
  clear bb L2 B2
  go_wp2_with fail
  refine (dadd_any A n c l [] 0 fl (lim : Int) _ L3.out (by omega)).mono ?_
  rw [HX.out, HC.out]
  rintro e w4 ⟨A1, n1, c1, rfl, hy, bb⟩
  have L4 := Lib.hid (L3.out.keep bb)
  have B4 := Lib.hid (below_then B3.out bb)
  have X4 := Lib.hid hy
  clear bb L3 B3 hy
  obtain rfl : n = n1 := by have := X4.out.len; have := HXL.out; omega
  clear L4
  clear X4
  go_wp2_with fail
  go_loopw [10, 11] (fun s10 s11 wr => ∃ (m : Bool) (k : Nat), s10 = .bool m ∧ s11 = .int .i64 (k : Int) ∧ k ≤ ([] : List UInt8).length ∧ Hid (m = (false && (([] : List UInt8).take k).all solid)) ∧ Hid (Below w.heap.size w wr)) (fun _ s11 _ => ([] : List UInt8).length - (intOf s11).toNat)
  case atStart => exact ⟨false, 0, rfl, rfl, Nat.zero_le _, Lib.hid rfl, B4⟩
  case round =>
    obtain ⟨m, k, rfl, rfl, hk, HT, HB⟩ := hrel
    by_cases hkl : k < ([] : List UInt8).length
    · exact absurd (show k < 0 from hkl) (by omega)
    · obtain rfl : k = ([] : List UInt8).length := by omega
      rw [List.take_length, List.all_nil] at HT
      obtain rfl : m = false := HT.out
      clear hk hkl
      go_wp2_with fail
      all_goals go_ret
      all_goals exact ⟨rfl, HB.out⟩
set_option maxRecDepth 100000 in
set_option maxHeartbeats 8000000 in
theorem dnames_b (A : Option Addr) (n c : Nat) (l : List Wr) (nm : List UInt8) (fl : Int) (lim : Nat) (w : World) (h : Wds w (.slice A n c) l) (hlim : lim < 256) (f1 : dFew l 60 = true) (hr : dRight l = true) (h60 : decide ((60 : Int) < (nm.length : Int)) = false) (h31 : 31 < nm.length) :
    Calls Try.prog 7 #[.agg #[.slice A n c, .string (strB nm), .int .i64 fl, .int .u8 (lim : Int)]] w fun e w' => e = .returned (.bool true) ∧ Below w.heap.size w w' := by
  have hlen := (few_facts f1).1
  have hl := h.len
  have hn : n ≤ 60 := by omega
  have hnm : nm.length ≤ 60 := by have : ((nm.length : Nat) : Int) ≤ 60 := by simpa using h60
                                  omega
  have k1 : (1 : Int) ≤ (nm.length : Int) := by omega
  have k31 : decide ((nm.length : Int) ≤ 31) = false := by simp; omega
  have k31b : (31 : Int) < (nm.length : Int) := by omega
  have knil := nm_nil (nm := nm) (by omega)
  have hN : namedC nm = -19 := by unfold namedC; rw [if_neg (by intro e; subst e; simp at h31), if_pos h31]
  have hC : addC l nm fl (lim : Int) = -19 := by unfold addC; rw [hN]; rfl
  have HX : Hid (addL l nm 0 fl (lim : Int) = l) := add_len hC (by decide)
  have HC := Lib.hid hC
  have HXL : Hid (l.length = n) := hl
  have kw : wrap64 ((n : Int) + 1) = (n : Int) + 1 := w64_id (by omega) (by omega)
  have kne : ((n : Int) == (n : Int) + 1) = false := by simp; omega
  have L0 := Lib.hid (h.keep (al_one w (.cells #[.slice A n c, .string (strB nm), .int .i64 fl, .int .u8 (lim : Int)] 54)))
  have B0 : Hid (Below w.heap.size w (w.alloc (.cells #[.slice A n c, .string (strB nm), .int .i64 fl, .int .u8 (lim : Int)] 54))) := al_one _ _
  have hsz : (strB nm).size = nm.length := rfl
  clear h
  clear hN h31
  clear hC
  go_enter Try.func7, Try.ntmps7
  go_wp2_with fail
  refine (shown_any9 _).mono ?_
  rintro e w1 ⟨rfl, bb⟩
  have L1 := Lib.hid (L0.out.keep bb)
  have B1 := Lib.hid (below_then B0.out bb)
  clear bb L0 B0
  go_wp2_with fail
  refine (rfew_any A n c l 60 _ L1.out (by omega)).mono ?_
  rw [f1]
  rintro e w2 ⟨rfl, bb⟩
  have L2 := Lib.hid (L1.out.keep bb)
  have B2 := Lib.hid (below_then B1.out bb)
  clear bb L1 B1
  go_wp2_with fail
  refine (rright_any A n c l _ L2.out (by omega)).mono ?_
  rw [hr]
  rintro e w3 ⟨rfl, bb⟩
  have L3 := Lib.hid (L2.out.keep bb)
  have B3 := Lib.hid (below_then B2.out bb)
  clear bb L2 B2
  go_wp2_with fail
  refine (dadd_any A n c l nm 0 fl (lim : Int) _ L3.out (by omega)).mono ?_
  rw [HX.out, HC.out]
  rintro e w4 ⟨A1, n1, c1, rfl, hy, bb⟩
  have L4 := Lib.hid (L3.out.keep bb)
  have B4 := Lib.hid (below_then B3.out bb)
  have X4 := Lib.hid hy
  clear bb L3 B3 hy
  obtain rfl : n = n1 := by have := X4.out.len; have := HXL.out; omega
  clear L4
  clear X4
  go_wp2_with fail
  go_loopw [10, 11] (fun s10 s11 wr => ∃ (m : Bool) (k : Nat), s10 = .bool m ∧ s11 = .int .i64 (k : Int) ∧ k ≤ (nm : List UInt8).length ∧ Hid (m = (false && ((nm : List UInt8).take k).all solid)) ∧ Hid (Below w.heap.size w wr)) (fun _ s11 _ => (nm : List UInt8).length - (intOf s11).toNat)
  case atStart => exact ⟨false, 0, rfl, rfl, Nat.zero_le _, Lib.hid rfl, B4⟩
  case round =>
    obtain ⟨m, k, rfl, rfl, hk, HT, HB⟩ := hrel
    by_cases hkl : k < (nm : List UInt8).length
    · have hkl2 : (k : Int) < (nm.length : Int) := by omega
      obtain ⟨ch, hc⟩ : ∃ ch, nm[k]? = some ch := ⟨_, List.getElem?_eq_getElem hkl⟩
      have ixk := ix_at nm k ch hc
      have HS := Lib.hid (solid_next hc HT.out)
      cases m with
      | false =>
        rw [Bool.false_and] at HS
        clear hc HT
        go_wp2_with fail
        go_roundw
        case rel => exact ⟨false, k + 1, rfl, by simp, by omega, HS, HB⟩
        case measure => simp [intOf]; omega
      | true =>
        rw [Bool.true_and] at HS
        by_cases h32 : 32 < ch.toNat
        · have h32i : (32 : Int) < (ch.toNat : Int) := by omega
          rw [solid_yes h32] at HS
          clear hc HT
          go_wp2_with fail
          go_roundw
          case rel => exact ⟨true, k + 1, rfl, by simp, by omega, HS, HB⟩
          case measure => simp [intOf]; omega
        · have h32i : decide ((32 : Int) < (ch.toNat : Int)) = false := by simp; omega
          rw [solid_no h32] at HS
          clear hc HT
          go_wp2_with fail
          go_roundw
          case rel => exact ⟨false, k + 1, rfl, by simp, by omega, HS, HB⟩
          case measure => simp [intOf]; omega
    · obtain rfl : k = (nm : List UInt8).length := by omega
      rw [List.take_length] at HT
      obtain rfl : m = false := HT.out
      clear hk hkl
      go_wp2_with fail
      all_goals go_ret
      all_goals exact ⟨rfl, HB.out⟩
set_option maxRecDepth 100000 in
set_option maxHeartbeats 8000000 in
theorem dnames_c (A : Option Addr) (n c : Nat) (l : List Wr) (nm : List UInt8) (fl : Int) (lim : Nat) (w : World) (h : Wds w (.slice A n c) l) (hlim : lim < 256) (f1 : dFew l 60 = true) (hr : dRight l = true) (h60 : decide ((60 : Int) < (nm.length : Int)) = false) (h1 : 1 ≤ nm.length) (h31 : nm.length ≤ 31) (hs : nm.all solid = false) :
    Calls Try.prog 7 #[.agg #[.slice A n c, .string (strB nm), .int .i64 fl, .int .u8 (lim : Int)]] w fun e w' => e = .returned (.bool true) ∧ Below w.heap.size w w' := by
  have hlen := (few_facts f1).1
  have hl := h.len
  have hn : n ≤ 60 := by omega
  have hnm : nm.length ≤ 60 := by have : ((nm.length : Nat) : Int) ≤ 60 := by simpa using h60
                                  omega
  have k1 : (1 : Int) ≤ (nm.length : Int) := by omega
  have k31 : (nm.length : Int) ≤ 31 := by omega
  have k31b : decide ((31 : Int) < (nm.length : Int)) = false := by simp; omega
  have knil := nm_nil h1
  have hN : namedC nm = -32 := by rw [named_c h1 h31, hs]; rfl
  have hC : addC l nm fl (lim : Int) = -32 := by unfold addC; rw [hN]; rfl
  have HX : Hid (addL l nm 0 fl (lim : Int) = l) := add_len hC (by decide)
  have HC := Lib.hid hC
  have HXL : Hid (l.length = n) := hl
  have kw : wrap64 ((n : Int) + 1) = (n : Int) + 1 := w64_id (by omega) (by omega)
  have kne : ((n : Int) == (n : Int) + 1) = false := by simp; omega
  have L0 := Lib.hid (h.keep (al_one w (.cells #[.slice A n c, .string (strB nm), .int .i64 fl, .int .u8 (lim : Int)] 54)))
  have B0 : Hid (Below w.heap.size w (w.alloc (.cells #[.slice A n c, .string (strB nm), .int .i64 fl, .int .u8 (lim : Int)] 54))) := al_one _ _
  have hsz : (strB nm).size = nm.length := rfl
  clear h
  clear hN h31 h1
  clear hC
  go_enter Try.func7, Try.ntmps7
  go_wp2_with fail
  refine (shown_any9 _).mono ?_
  rintro e w1 ⟨rfl, bb⟩
  have L1 := Lib.hid (L0.out.keep bb)
  have B1 := Lib.hid (below_then B0.out bb)
  clear bb L0 B0
  go_wp2_with fail
  refine (rfew_any A n c l 60 _ L1.out (by omega)).mono ?_
  rw [f1]
  rintro e w2 ⟨rfl, bb⟩
  have L2 := Lib.hid (L1.out.keep bb)
  have B2 := Lib.hid (below_then B1.out bb)
  clear bb L1 B1
  go_wp2_with fail
  refine (rright_any A n c l _ L2.out (by omega)).mono ?_
  rw [hr]
  rintro e w3 ⟨rfl, bb⟩
  have L3 := Lib.hid (L2.out.keep bb)
  have B3 := Lib.hid (below_then B2.out bb)
  clear bb L2 B2
  go_wp2_with fail
  refine (dadd_any A n c l nm 0 fl (lim : Int) _ L3.out (by omega)).mono ?_
  rw [HX.out, HC.out]
  rintro e w4 ⟨A1, n1, c1, rfl, hy, bb⟩
  have L4 := Lib.hid (L3.out.keep bb)
  have B4 := Lib.hid (below_then B3.out bb)
  have X4 := Lib.hid hy
  clear bb L3 B3 hy
  obtain rfl : n = n1 := by have := X4.out.len; have := HXL.out; omega
  clear L4
  clear X4
  go_wp2_with fail
  go_loopw [10, 11] (fun s10 s11 wr => ∃ (m : Bool) (k : Nat), s10 = .bool m ∧ s11 = .int .i64 (k : Int) ∧ k ≤ (nm : List UInt8).length ∧ Hid (m = (true && ((nm : List UInt8).take k).all solid)) ∧ Hid (Below w.heap.size w wr)) (fun _ s11 _ => (nm : List UInt8).length - (intOf s11).toNat)
  case atStart => exact ⟨true, 0, rfl, rfl, Nat.zero_le _, Lib.hid rfl, B4⟩
  case round =>
    obtain ⟨m, k, rfl, rfl, hk, HT, HB⟩ := hrel
    by_cases hkl : k < (nm : List UInt8).length
    · have hkl2 : (k : Int) < (nm.length : Int) := by omega
      obtain ⟨ch, hc⟩ : ∃ ch, nm[k]? = some ch := ⟨_, List.getElem?_eq_getElem hkl⟩
      have ixk := ix_at nm k ch hc
      have HS := Lib.hid (solid_next hc HT.out)
      cases m with
      | false =>
        rw [Bool.false_and] at HS
        clear hc HT
        go_wp2_with fail
        go_roundw
        case rel => exact ⟨false, k + 1, rfl, by simp, by omega, HS, HB⟩
        case measure => simp [intOf]; omega
      | true =>
        rw [Bool.true_and] at HS
        by_cases h32 : 32 < ch.toNat
        · have h32i : (32 : Int) < (ch.toNat : Int) := by omega
          rw [solid_yes h32] at HS
          clear hc HT
          go_wp2_with fail
          go_roundw
          case rel => exact ⟨true, k + 1, rfl, by simp, by omega, HS, HB⟩
          case measure => simp [intOf]; omega
        · have h32i : decide ((32 : Int) < (ch.toNat : Int)) = false := by simp; omega
          rw [solid_no h32] at HS
          clear hc HT
          go_wp2_with fail
          go_roundw
          case rel => exact ⟨false, k + 1, rfl, by simp, by omega, HS, HB⟩
          case measure => simp [intOf]; omega
    · obtain rfl : k = (nm : List UInt8).length := by omega
      rw [List.take_length, hs] at HT
      obtain rfl : m = false := HT.out
      clear hk hkl
      go_wp2_with fail
      all_goals go_ret
      all_goals exact ⟨rfl, HB.out⟩
set_option maxRecDepth 100000 in
set_option maxHeartbeats 8000000 in
theorem dnames_d (A : Option Addr) (n c : Nat) (l : List Wr) (nm : List UInt8) (fl : Int) (lim : Nat) (w : World) (h : Wds w (.slice A n c) l) (hlim : lim < 256) (f1 : dFew l 60 = true) (hr : dRight l = true) (h60 : decide ((60 : Int) < (nm.length : Int)) = false) (h1 : 1 ≤ nm.length) (h31 : nm.length ≤ 31) (hs : nm.all solid = true) (f0 : fl < 0) :
    Calls Try.prog 7 #[.agg #[.slice A n c, .string (strB nm), .int .i64 fl, .int .u8 (lim : Int)]] w fun e w' => e = .returned (.bool true) ∧ Below w.heap.size w w' := by
  have hlen := (few_facts f1).1
  have hl := h.len
  have hn : n ≤ 60 := by omega
  have hnm : nm.length ≤ 60 := by have : ((nm.length : Nat) : Int) ≤ 60 := by simpa using h60
                                  omega
  have k1 : (1 : Int) ≤ (nm.length : Int) := by omega
  have k31 : (nm.length : Int) ≤ 31 := by omega
  have k31b : decide ((31 : Int) < (nm.length : Int)) = false := by simp; omega
  have knil := nm_nil h1
  have hs0 : namedC nm = 0 := by rw [named_c h1 h31, hs]; rfl
  have kf0 : decide ((0 : Int) ≤ fl) = false := by simp; omega
  have hfb : flagB fl = false := (flagB_no fl).2 (by omega)
  have hC : addC l nm fl (lim : Int) = -24 := by unfold addC; rw [hs0, hfb]; rfl
  have HX : Hid (addL l nm 0 fl (lim : Int) = l) := add_len hC (by decide)
  have HC := Lib.hid hC
  have HXL : Hid (l.length = n) := hl
  have kw : wrap64 ((n : Int) + 1) = (n : Int) + 1 := w64_id (by omega) (by omega)
  have kne : ((n : Int) == (n : Int) + 1) = false := by simp; omega
  have L0 := Lib.hid (h.keep (al_one w (.cells #[.slice A n c, .string (strB nm), .int .i64 fl, .int .u8 (lim : Int)] 54)))
  have B0 : Hid (Below w.heap.size w (w.alloc (.cells #[.slice A n c, .string (strB nm), .int .i64 fl, .int .u8 (lim : Int)] 54))) := al_one _ _
  have hsz : (strB nm).size = nm.length := rfl
  clear h
  clear hs0 hfb h31 h1 f0
  clear hC
  go_enter Try.func7, Try.ntmps7
  go_wp2_with fail
  refine (shown_any9 _).mono ?_
  rintro e w1 ⟨rfl, bb⟩
  have L1 := Lib.hid (L0.out.keep bb)
  have B1 := Lib.hid (below_then B0.out bb)
  clear bb L0 B0
  go_wp2_with fail
  refine (rfew_any A n c l 60 _ L1.out (by omega)).mono ?_
  rw [f1]
  rintro e w2 ⟨rfl, bb⟩
  have L2 := Lib.hid (L1.out.keep bb)
  have B2 := Lib.hid (below_then B1.out bb)
  clear bb L1 B1
  go_wp2_with fail
  refine (rright_any A n c l _ L2.out (by omega)).mono ?_
  rw [hr]
  rintro e w3 ⟨rfl, bb⟩
  have L3 := Lib.hid (L2.out.keep bb)
  have B3 := Lib.hid (below_then B2.out bb)
  clear bb L2 B2
  go_wp2_with fail
  refine (dadd_any A n c l nm 0 fl (lim : Int) _ L3.out (by omega)).mono ?_
  rw [HX.out, HC.out]
  rintro e w4 ⟨A1, n1, c1, rfl, hy, bb⟩
  have L4 := Lib.hid (L3.out.keep bb)
  have B4 := Lib.hid (below_then B3.out bb)
  have X4 := Lib.hid hy
  clear bb L3 B3 hy
  obtain rfl : n = n1 := by have := X4.out.len; have := HXL.out; omega
  clear L4
  clear X4
  go_wp2_with fail
  go_loopw [10, 11] (fun s10 s11 wr => ∃ (m : Bool) (k : Nat), s10 = .bool m ∧ s11 = .int .i64 (k : Int) ∧ k ≤ (nm : List UInt8).length ∧ Hid (m = (true && ((nm : List UInt8).take k).all solid)) ∧ Hid (Below w.heap.size w wr)) (fun _ s11 _ => (nm : List UInt8).length - (intOf s11).toNat)
  case atStart => exact ⟨true, 0, rfl, rfl, Nat.zero_le _, Lib.hid rfl, B4⟩
  case round =>
    obtain ⟨m, k, rfl, rfl, hk, HT, HB⟩ := hrel
    by_cases hkl : k < (nm : List UInt8).length
    · have hkl2 : (k : Int) < (nm.length : Int) := by omega
      obtain ⟨ch, hc⟩ : ∃ ch, nm[k]? = some ch := ⟨_, List.getElem?_eq_getElem hkl⟩
      have ixk := ix_at nm k ch hc
      have HS := Lib.hid (solid_next hc HT.out)
      cases m with
      | false =>
        rw [Bool.false_and] at HS
        clear hc HT
        go_wp2_with fail
        go_roundw
        case rel => exact ⟨false, k + 1, rfl, by simp, by omega, HS, HB⟩
        case measure => simp [intOf]; omega
      | true =>
        rw [Bool.true_and] at HS
        by_cases h32 : 32 < ch.toNat
        · have h32i : (32 : Int) < (ch.toNat : Int) := by omega
          rw [solid_yes h32] at HS
          clear hc HT
          go_wp2_with fail
          go_roundw
          case rel => exact ⟨true, k + 1, rfl, by simp, by omega, HS, HB⟩
          case measure => simp [intOf]; omega
        · have h32i : decide ((32 : Int) < (ch.toNat : Int)) = false := by simp; omega
          rw [solid_no h32] at HS
          clear hc HT
          go_wp2_with fail
          go_roundw
          case rel => exact ⟨false, k + 1, rfl, by simp, by omega, HS, HB⟩
          case measure => simp [intOf]; omega
    · obtain rfl : k = (nm : List UInt8).length := by omega
      rw [List.take_length, hs] at HT
      obtain rfl : m = true := HT.out
      clear hk hkl
      go_wp2_with fail
      all_goals go_ret
      all_goals exact ⟨rfl, HB.out⟩
set_option maxRecDepth 100000 in
set_option maxHeartbeats 8000000 in
theorem dnames_e (A : Option Addr) (n c : Nat) (l : List Wr) (nm : List UInt8) (fl : Int) (lim : Nat) (w : World) (h : Wds w (.slice A n c) l) (hlim : lim < 256) (f1 : dFew l 60 = true) (hr : dRight l = true) (h60 : decide ((60 : Int) < (nm.length : Int)) = false) (h1 : 1 ≤ nm.length) (h31 : nm.length ≤ 31) (hs : nm.all solid = true) (f0 : 0 ≤ fl) (f7 : 7 < fl) :
    Calls Try.prog 7 #[.agg #[.slice A n c, .string (strB nm), .int .i64 fl, .int .u8 (lim : Int)]] w fun e w' => e = .returned (.bool true) ∧ Below w.heap.size w w' := by
  have hlen := (few_facts f1).1
  have hl := h.len
  have hn : n ≤ 60 := by omega
  have hnm : nm.length ≤ 60 := by have : ((nm.length : Nat) : Int) ≤ 60 := by simpa using h60
                                  omega
  have k1 : (1 : Int) ≤ (nm.length : Int) := by omega
  have k31 : (nm.length : Int) ≤ 31 := by omega
  have k31b : decide ((31 : Int) < (nm.length : Int)) = false := by simp; omega
  have knil := nm_nil h1
  have hs0 : namedC nm = 0 := by rw [named_c h1 h31, hs]; rfl
  have kf7 : decide (fl ≤ 7) = false := by simp; omega
  have hfb : flagB fl = false := (flagB_no fl).2 (by omega)
  have hC : addC l nm fl (lim : Int) = -24 := by unfold addC; rw [hs0, hfb]; rfl
  have HX : Hid (addL l nm 0 fl (lim : Int) = l) := add_len hC (by decide)
  have HC := Lib.hid hC
  have HXL : Hid (l.length = n) := hl
  have kw : wrap64 ((n : Int) + 1) = (n : Int) + 1 := w64_id (by omega) (by omega)
  have kne : ((n : Int) == (n : Int) + 1) = false := by simp; omega
  have L0 := Lib.hid (h.keep (al_one w (.cells #[.slice A n c, .string (strB nm), .int .i64 fl, .int .u8 (lim : Int)] 54)))
  have B0 : Hid (Below w.heap.size w (w.alloc (.cells #[.slice A n c, .string (strB nm), .int .i64 fl, .int .u8 (lim : Int)] 54))) := al_one _ _
  have hsz : (strB nm).size = nm.length := rfl
  clear h
  clear hs0 hfb h31 h1 f7
  clear hC
  go_enter Try.func7, Try.ntmps7
  go_wp2_with fail
  refine (shown_any9 _).mono ?_
  rintro e w1 ⟨rfl, bb⟩
  have L1 := Lib.hid (L0.out.keep bb)
  have B1 := Lib.hid (below_then B0.out bb)
  clear bb L0 B0
  go_wp2_with fail
  refine (rfew_any A n c l 60 _ L1.out (by omega)).mono ?_
  rw [f1]
  rintro e w2 ⟨rfl, bb⟩
  have L2 := Lib.hid (L1.out.keep bb)
  have B2 := Lib.hid (below_then B1.out bb)
  clear bb L1 B1
  go_wp2_with fail
  refine (rright_any A n c l _ L2.out (by omega)).mono ?_
  rw [hr]
  rintro e w3 ⟨rfl, bb⟩
  have L3 := Lib.hid (L2.out.keep bb)
  have B3 := Lib.hid (below_then B2.out bb)
  clear bb L2 B2
  go_wp2_with fail
  refine (dadd_any A n c l nm 0 fl (lim : Int) _ L3.out (by omega)).mono ?_
  rw [HX.out, HC.out]
  rintro e w4 ⟨A1, n1, c1, rfl, hy, bb⟩
  have L4 := Lib.hid (L3.out.keep bb)
  have B4 := Lib.hid (below_then B3.out bb)
  have X4 := Lib.hid hy
  clear bb L3 B3 hy
  obtain rfl : n = n1 := by have := X4.out.len; have := HXL.out; omega
  clear L4
  clear X4
  go_wp2_with fail
  go_loopw [10, 11] (fun s10 s11 wr => ∃ (m : Bool) (k : Nat), s10 = .bool m ∧ s11 = .int .i64 (k : Int) ∧ k ≤ (nm : List UInt8).length ∧ Hid (m = (true && ((nm : List UInt8).take k).all solid)) ∧ Hid (Below w.heap.size w wr)) (fun _ s11 _ => (nm : List UInt8).length - (intOf s11).toNat)
  case atStart => exact ⟨true, 0, rfl, rfl, Nat.zero_le _, Lib.hid rfl, B4⟩
  case round =>
    obtain ⟨m, k, rfl, rfl, hk, HT, HB⟩ := hrel
    by_cases hkl : k < (nm : List UInt8).length
    · have hkl2 : (k : Int) < (nm.length : Int) := by omega
      obtain ⟨ch, hc⟩ : ∃ ch, nm[k]? = some ch := ⟨_, List.getElem?_eq_getElem hkl⟩
      have ixk := ix_at nm k ch hc
      have HS := Lib.hid (solid_next hc HT.out)
      cases m with
      | false =>
        rw [Bool.false_and] at HS
        clear hc HT
        go_wp2_with fail
        go_roundw
        case rel => exact ⟨false, k + 1, rfl, by simp, by omega, HS, HB⟩
        case measure => simp [intOf]; omega
      | true =>
        rw [Bool.true_and] at HS
        by_cases h32 : 32 < ch.toNat
        · have h32i : (32 : Int) < (ch.toNat : Int) := by omega
          rw [solid_yes h32] at HS
          clear hc HT
          go_wp2_with fail
          go_roundw
          case rel => exact ⟨true, k + 1, rfl, by simp, by omega, HS, HB⟩
          case measure => simp [intOf]; omega
        · have h32i : decide ((32 : Int) < (ch.toNat : Int)) = false := by simp; omega
          rw [solid_no h32] at HS
          clear hc HT
          go_wp2_with fail
          go_roundw
          case rel => exact ⟨false, k + 1, rfl, by simp, by omega, HS, HB⟩
          case measure => simp [intOf]; omega
    · obtain rfl : k = (nm : List UInt8).length := by omega
      rw [List.take_length, hs] at HT
      obtain rfl : m = true := HT.out
      clear hk hkl
      go_wp2_with fail
      all_goals go_ret
      all_goals exact ⟨rfl, HB.out⟩
set_option maxRecDepth 100000 in
set_option maxHeartbeats 8000000 in
theorem dnames_f (A : Option Addr) (n c : Nat) (l : List Wr) (nm : List UInt8) (fl : Int) (lim : Nat) (w : World) (h : Wds w (.slice A n c) l) (hlim : lim < 256) (f1 : dFew l 60 = true) (hr : dRight l = true) (h60 : decide ((60 : Int) < (nm.length : Int)) = false) (h1 : 1 ≤ nm.length) (h31 : nm.length ≤ 31) (hs : nm.all solid = true) (f0 : 0 ≤ fl) (f7 : fl ≤ 7) (hroom : lim ≤ n) :
    Calls Try.prog 7 #[.agg #[.slice A n c, .string (strB nm), .int .i64 fl, .int .u8 (lim : Int)]] w fun e w' => e = .returned (.bool true) ∧ Below w.heap.size w w' := by
  have hlen := (few_facts f1).1
  have hl := h.len
  have hn : n ≤ 60 := by omega
  have hnm : nm.length ≤ 60 := by have : ((nm.length : Nat) : Int) ≤ 60 := by simpa using h60
                                  omega
  have k1 : (1 : Int) ≤ (nm.length : Int) := by omega
  have k31 : (nm.length : Int) ≤ 31 := by omega
  have k31b : decide ((31 : Int) < (nm.length : Int)) = false := by simp; omega
  have knil := nm_nil h1
  have hs0 : namedC nm = 0 := by rw [named_c h1 h31, hs]; rfl
  have kf0 : (0 : Int) ≤ fl := f0
  have kf7 : fl ≤ 7 := f7
  have hfb : flagB fl = true := (flagB_iff fl).2 ⟨f0, f7⟩
  have kr : decide ((n : Int) < (lim : Int)) = false := by simp; omega
  have kr2 : (lim : Int) ≤ (n : Int) := by omega
  have kr3 : decide (n < lim) = false := by simp; omega
  have kr4 : decide (lim ≤ n) = true := by simp; omega
  have hrb : roomB l (lim : Int) = false := by unfold roomB; simp; omega
  have hC : addC l nm fl (lim : Int) = -8 := by unfold addC; rw [hs0, hfb, hrb]; rfl
  have HX : Hid (addL l nm 0 fl (lim : Int) = l) := add_len hC (by decide)
  have HC := Lib.hid hC
  have HXL : Hid (l.length = n) := hl
  have kw : wrap64 ((n : Int) + 1) = (n : Int) + 1 := w64_id (by omega) (by omega)
  have kne : ((n : Int) == (n : Int) + 1) = false := by simp; omega
  have L0 := Lib.hid (h.keep (al_one w (.cells #[.slice A n c, .string (strB nm), .int .i64 fl, .int .u8 (lim : Int)] 54)))
  have B0 : Hid (Below w.heap.size w (w.alloc (.cells #[.slice A n c, .string (strB nm), .int .i64 fl, .int .u8 (lim : Int)] 54))) := al_one _ _
  have hsz : (strB nm).size = nm.length := rfl
  clear h
  clear hs0 hfb hrb h31 h1 f0 f7 hroom
  clear hC
  go_enter Try.func7, Try.ntmps7
  go_wp2_with fail
  refine (shown_any9 _).mono ?_
  rintro e w1 ⟨rfl, bb⟩
  have L1 := Lib.hid (L0.out.keep bb)
  have B1 := Lib.hid (below_then B0.out bb)
  clear bb L0 B0
  go_wp2_with fail
  refine (rfew_any A n c l 60 _ L1.out (by omega)).mono ?_
  rw [f1]
  rintro e w2 ⟨rfl, bb⟩
  have L2 := Lib.hid (L1.out.keep bb)
  have B2 := Lib.hid (below_then B1.out bb)
  clear bb L1 B1
  go_wp2_with fail
  refine (rright_any A n c l _ L2.out (by omega)).mono ?_
  rw [hr]
  rintro e w3 ⟨rfl, bb⟩
  have L3 := Lib.hid (L2.out.keep bb)
  have B3 := Lib.hid (below_then B2.out bb)
  clear bb L2 B2
  go_wp2_with fail
  refine (dadd_any A n c l nm 0 fl (lim : Int) _ L3.out (by omega)).mono ?_
  rw [HX.out, HC.out]
  rintro e w4 ⟨A1, n1, c1, rfl, hy, bb⟩
  have L4 := Lib.hid (L3.out.keep bb)
  have B4 := Lib.hid (below_then B3.out bb)
  have X4 := Lib.hid hy
  clear bb L3 B3 hy
  obtain rfl : n = n1 := by have := X4.out.len; have := HXL.out; omega
  clear L4
  clear X4
  go_wp2_with fail
  go_loopw [10, 11] (fun s10 s11 wr => ∃ (m : Bool) (k : Nat), s10 = .bool m ∧ s11 = .int .i64 (k : Int) ∧ k ≤ (nm : List UInt8).length ∧ Hid (m = (true && ((nm : List UInt8).take k).all solid)) ∧ Hid (Below w.heap.size w wr)) (fun _ s11 _ => (nm : List UInt8).length - (intOf s11).toNat)
  case atStart => exact ⟨true, 0, rfl, rfl, Nat.zero_le _, Lib.hid rfl, B4⟩
  case round =>
    obtain ⟨m, k, rfl, rfl, hk, HT, HB⟩ := hrel
    by_cases hkl : k < (nm : List UInt8).length
    · have hkl2 : (k : Int) < (nm.length : Int) := by omega
      obtain ⟨ch, hc⟩ : ∃ ch, nm[k]? = some ch := ⟨_, List.getElem?_eq_getElem hkl⟩
      have ixk := ix_at nm k ch hc
      have HS := Lib.hid (solid_next hc HT.out)
      cases m with
      | false =>
        rw [Bool.false_and] at HS
        clear hc HT
        go_wp2_with fail
        go_roundw
        case rel => exact ⟨false, k + 1, rfl, by simp, by omega, HS, HB⟩
        case measure => simp [intOf]; omega
      | true =>
        rw [Bool.true_and] at HS
        by_cases h32 : 32 < ch.toNat
        · have h32i : (32 : Int) < (ch.toNat : Int) := by omega
          rw [solid_yes h32] at HS
          clear hc HT
          go_wp2_with fail
          go_roundw
          case rel => exact ⟨true, k + 1, rfl, by simp, by omega, HS, HB⟩
          case measure => simp [intOf]; omega
        · have h32i : decide ((32 : Int) < (ch.toNat : Int)) = false := by simp; omega
          rw [solid_no h32] at HS
          clear hc HT
          go_wp2_with fail
          go_roundw
          case rel => exact ⟨false, k + 1, rfl, by simp, by omega, HS, HB⟩
          case measure => simp [intOf]; omega
    · obtain rfl : k = (nm : List UInt8).length := by omega
      rw [List.take_length, hs] at HT
      obtain rfl : m = true := HT.out
      clear hk hkl
      go_wp2_with fail
      all_goals go_ret
      all_goals exact ⟨rfl, HB.out⟩
set_option maxRecDepth 100000 in
set_option maxHeartbeats 8000000 in
theorem dnames_g (A : Option Addr) (n c : Nat) (l : List Wr) (nm : List UInt8) (fl : Int) (lim : Nat) (w : World) (h : Wds w (.slice A n c) l) (hlim : lim < 256) (f1 : dFew l 60 = true) (hr : dRight l = true) (h60 : decide ((60 : Int) < (nm.length : Int)) = false) (h1 : 1 ≤ nm.length) (h31 : nm.length ≤ 31) (hs : nm.all solid = true) (f0 : 0 ≤ fl) (f7 : fl ≤ 7) (hroom : n < lim) :
    Calls Try.prog 7 #[.agg #[.slice A n c, .string (strB nm), .int .i64 fl, .int .u8 (lim : Int)]] w fun e w' => e = .returned (.bool true) ∧ Below w.heap.size w w' := by
  have hlen := (few_facts f1).1
  have hl := h.len
  have hn : n ≤ 60 := by omega
  have hnm : nm.length ≤ 60 := by have : ((nm.length : Nat) : Int) ≤ 60 := by simpa using h60
                                  omega
  have k1 : (1 : Int) ≤ (nm.length : Int) := by omega
  have k31 : (nm.length : Int) ≤ 31 := by omega
  have k31b : decide ((31 : Int) < (nm.length : Int)) = false := by simp; omega
  have knil := nm_nil h1
  have hs0 : namedC nm = 0 := by rw [named_c h1 h31, hs]; rfl
  have kf0 : (0 : Int) ≤ fl := f0
  have kf7 : fl ≤ 7 := f7
  have hfb : flagB fl = true := (flagB_iff fl).2 ⟨f0, f7⟩
  have kr : (n : Int) < (lim : Int) := by omega
  have kr2 : decide ((lim : Int) ≤ (n : Int)) = false := by simp; omega
  have kr3 : decide (lim ≤ n) = false := by simp; omega
  have kr4 : decide (n < lim) = true := by simp; omega
  have hrb : roomB l (lim : Int) = true := by unfold roomB; simp; omega
  have hC : addC l nm fl (lim : Int) = 0 := by unfold addC; rw [hs0, hfb, hrb]; rfl
  have HX : Hid (addL l nm 0 fl (lim : Int) = l ++ [⟨nm, 0, fl⟩]) := by show _ = _; unfold addL; rw [if_pos hC]
  have HC := Lib.hid hC
  have HXL : Hid ((l ++ [(⟨nm, 0, fl⟩ : Wr)]).length = n + 1) := by show _ = _; simp; omega
  have kw : wrap64 ((n : Int) + 1) = (n : Int) + 1 := w64_id (by omega) (by omega)
  have L0 := Lib.hid (h.keep (al_one w (.cells #[.slice A n c, .string (strB nm), .int .i64 fl, .int .u8 (lim : Int)] 54)))
  have B0 : Hid (Below w.heap.size w (w.alloc (.cells #[.slice A n c, .string (strB nm), .int .i64 fl, .int .u8 (lim : Int)] 54))) := al_one _ _
  have hsz : (strB nm).size = nm.length := rfl
  clear h
  clear hs0 hfb hrb h31 h1 f0 f7 hroom
  clear hC
  go_enter Try.func7, Try.ntmps7
  go_wp2_with fail
  refine (shown_any9 _).mono ?_
  rintro e w1 ⟨rfl, bb⟩
  have L1 := Lib.hid (L0.out.keep bb)
  have B1 := Lib.hid (below_then B0.out bb)
  clear bb L0 B0
  go_wp2_with fail
  refine (rfew_any A n c l 60 _ L1.out (by omega)).mono ?_
  rw [f1]
  rintro e w2 ⟨rfl, bb⟩
  have L2 := Lib.hid (L1.out.keep bb)
  have B2 := Lib.hid (below_then B1.out bb)
  clear bb L1 B1
  go_wp2_with fail
  refine (rright_any A n c l _ L2.out (by omega)).mono ?_
  rw [hr]
  rintro e w3 ⟨rfl, bb⟩
  have L3 := Lib.hid (L2.out.keep bb)
  have B3 := Lib.hid (below_then B2.out bb)
  clear bb L2 B2
  go_wp2_with fail
  refine (dadd_any A n c l nm 0 fl (lim : Int) _ L3.out (by omega)).mono ?_
  rw [HX.out, HC.out]
  rintro e w4 ⟨A1, n1, c1, rfl, hy, bb⟩
  have L4 := Lib.hid (L3.out.keep bb)
  have B4 := Lib.hid (below_then B3.out bb)
  have X4 := Lib.hid hy
  clear bb L3 B3 hy
  obtain rfl : n + 1 = n1 := by have := X4.out.len; have := HXL.out; omega
  clear L4
  clear X4
  go_wp2_with fail
  go_loopw [10, 11] (fun s10 s11 wr => ∃ (m : Bool) (k : Nat), s10 = .bool m ∧ s11 = .int .i64 (k : Int) ∧ k ≤ (nm : List UInt8).length ∧ Hid (m = (true && ((nm : List UInt8).take k).all solid)) ∧ Hid (Below w.heap.size w wr)) (fun _ s11 _ => (nm : List UInt8).length - (intOf s11).toNat)
  case atStart => exact ⟨true, 0, rfl, rfl, Nat.zero_le _, Lib.hid rfl, B4⟩
  case round =>
    obtain ⟨m, k, rfl, rfl, hk, HT, HB⟩ := hrel
    by_cases hkl : k < (nm : List UInt8).length
    · have hkl2 : (k : Int) < (nm.length : Int) := by omega
      obtain ⟨ch, hc⟩ : ∃ ch, nm[k]? = some ch := ⟨_, List.getElem?_eq_getElem hkl⟩
      have ixk := ix_at nm k ch hc
      have HS := Lib.hid (solid_next hc HT.out)
      cases m with
      | false =>
        rw [Bool.false_and] at HS
        clear hc HT
        go_wp2_with fail
        go_roundw
        case rel => exact ⟨false, k + 1, rfl, by simp, by omega, HS, HB⟩
        case measure => simp [intOf]; omega
      | true =>
        rw [Bool.true_and] at HS
        by_cases h32 : 32 < ch.toNat
        · have h32i : (32 : Int) < (ch.toNat : Int) := by omega
          rw [solid_yes h32] at HS
          clear hc HT
          go_wp2_with fail
          go_roundw
          case rel => exact ⟨true, k + 1, rfl, by simp, by omega, HS, HB⟩
          case measure => simp [intOf]; omega
        · have h32i : decide ((32 : Int) < (ch.toNat : Int)) = false := by simp; omega
          rw [solid_no h32] at HS
          clear hc HT
          go_wp2_with fail
          go_roundw
          case rel => exact ⟨false, k + 1, rfl, by simp, by omega, HS, HB⟩
          case measure => simp [intOf]; omega
    · obtain rfl : k = (nm : List UInt8).length := by omega
      rw [List.take_length, hs] at HT
      obtain rfl : m = true := HT.out
      clear hk hkl
      go_wp2_with fail
      all_goals go_ret
      all_goals exact ⟨rfl, HB.out⟩
theorem dnames_any (A : Option Addr) (n c : Nat) (l : List Wr) (nm : List UInt8) (fl : Int) (lim : Nat) (w : World) (h : Wds w (.slice A n c) l) (hlim : lim < 256) :
    Calls Try.prog 7 #[.agg #[.slice A n c, .string (strB nm), .int .i64 fl, .int .u8 (lim : Int)]] w fun e w' => e = .returned (.bool true) ∧ Below w.heap.size w w' := by
  have hl := h.len
  cases f1 : dFew l 60 with
  | false => exact dnames_1 A n c l nm fl lim w h hlim f1
  | true =>
    cases hr : dRight l with
    | false => exact dnames_2 A n c l nm fl lim w h hlim f1 hr
    | true =>
      by_cases h60 : (60 : Int) < (nm.length : Int)
      · exact dnames_3 A n c l nm fl lim w h hlim f1 hr h60
      · have h60 : decide ((60 : Int) < (nm.length : Int)) = false := by simpa using h60
        by_cases h0 : nm = []
        · exact dnames_a A n c l nm fl lim w h hlim f1 hr h60 h0
        · have h1 : 1 ≤ nm.length := by
            cases nm with
            | nil => exact absurd rfl h0
            | cons x t => simp
          by_cases h31 : 31 < nm.length
          · exact dnames_b A n c l nm fl lim w h hlim f1 hr h60 h31
          · have h31 : nm.length ≤ 31 := by omega
            cases hs : nm.all solid with
            | false => exact dnames_c A n c l nm fl lim w h hlim f1 hr h60 h1 h31 hs
            | true =>
              by_cases f0 : fl < 0
              · exact dnames_d A n c l nm fl lim w h hlim f1 hr h60 h1 h31 hs f0
              · have f0 : 0 ≤ fl := by omega
                by_cases f7 : 7 < fl
                · exact dnames_e A n c l nm fl lim w h hlim f1 hr h60 h1 h31 hs f0 f7
                · have f7 : fl ≤ 7 := by omega
                  by_cases hroom : n < lim
                  · exact dnames_g A n c l nm fl lim w h hlim f1 hr h60 h1 h31 hs f0 f7 hroom
                  · exact dnames_f A n c l nm fl lim w h hlim f1 hr h60 h1 h31 hs f0 f7 (by omega)
theorem dnames_int (A : Option Addr) (n c : Nat) (l : List Wr) (nm : List UInt8) (fl x : Int) (w : World) (h : Wds w (.slice A n c) l) (hx : (Lit.int .u8 x).wf = true) :
    Calls Try.prog 7 #[.agg #[.slice A n c, .string (strB nm), .int .i64 fl, .int .u8 x]] w fun e w' => e = .returned (.bool true) ∧ Below w.heap.size w w' := by
  obtain ⟨h0, h1⟩ := wf_u8 hx
  obtain ⟨k, rfl⟩ := Int.eq_ofNat_of_zero_le h0
  exact dnames_any A n c l nm fl k w h (by omega)
end Go.Proofs.Ytnjmhgbdhekmdaa
