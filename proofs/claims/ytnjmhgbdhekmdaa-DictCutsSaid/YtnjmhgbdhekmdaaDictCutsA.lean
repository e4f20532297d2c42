/- The walk of DictCuts. -/
import Derived.Test.YtnjmhgbdhekmdaaDictFacts
namespace Go.Proofs.Ytnjmhgbdhekmdaa
open Go.RowKit
set_option linter.unusedVariables false
set_option linter.unusedSimpArgs false

theorem cut_nat {l : List Wr} {k : Nat} (h : k ≤ l.length) : cutL l (k : Int) = l.take k ∧ cutC l (k : Int) = 0 := by
  have hb : cutB l (k : Int) = true := by unfold cutB; simp; omega
  refine ⟨?_, ?_⟩
  · unfold cutL; rw [if_pos hb, Int.toNat_natCast]
  · unfold cutC; rw [if_pos hb]
set_option maxRecDepth 100000 in
set_option maxHeartbeats 8000000 in
theorem dcuts_1 (A : Option Addr) (n c : Nat) (l : List Wr) (a b : Nat) (nm : List UInt8) (w : World) (h : Wds w (.slice A n c) l) (f1 : dFew l 60 = false) :
    Calls Try.prog 8 #[.agg #[.slice A n c, .int .u8 (a : Int), .int .u8 (b : Int), .string (strB nm)]] w fun e w' => e = .returned (.bool true) ∧ Below w.heap.size w w' := by
  have L0 := Lib.hid (h.keep (al_one w (.cells #[.slice A n c, .int .u8 (a : Int), .int .u8 (b : Int), .string (strB nm)] 57)))
  have B0 : Hid (Below w.heap.size w (w.alloc (.cells #[.slice A n c, .int .u8 (a : Int), .int .u8 (b : Int), .string (strB nm)] 57))) := al_one _ _
  have hsz : (strB nm).size = nm.length := rfl
  clear h
  go_enter Try.func8, Try.ntmps8
  go_wp2_with fail
  refine (shown_any9 _).mono ?_
  rintro e w1 ⟨rfl, bb⟩
  have L1 := Lib.hid (L0.out.keep bb)
  have B1 := Lib.hid (below_then B0.out bb)
  clear bb L0 B0
  go_wp2_with fail
  refine (rfew_any A n c l 60 _ L1.out (by omega)).mono ?_
  rw [f1]
  rintro e w2 ⟨rfl, bb⟩
  have L2 := Lib.hid (L1.out.keep bb)
  have B2 := Lib.hid (below_then B1.out bb)
  clear bb L1 B1
  go_wp2_with fail
  go_ret
  exact ⟨rfl, B2.out⟩
set_option maxRecDepth 100000 in
set_option maxHeartbeats 8000000 in
theorem dcuts_2 (A : Option Addr) (n c : Nat) (l : List Wr) (a b : Nat) (nm : List UInt8) (w : World) (h : Wds w (.slice A n c) l) (f1 : dFew l 60 = true) (hr : dRight l = false) :
    Calls Try.prog 8 #[.agg #[.slice A n c, .int .u8 (a : Int), .int .u8 (b : Int), .string (strB nm)]] w fun e w' => e = .returned (.bool true) ∧ Below w.heap.size w w' := by
  have hlen := (few_facts f1).1
  have hn : n ≤ 60 := by have := h.len; omega
  have L0 := Lib.hid (h.keep (al_one w (.cells #[.slice A n c, .int .u8 (a : Int), .int .u8 (b : Int), .string (strB nm)] 57)))
  have B0 : Hid (Below w.heap.size w (w.alloc (.cells #[.slice A n c, .int .u8 (a : Int), .int .u8 (b : Int), .string (strB nm)] 57))) := al_one _ _
  have hsz : (strB nm).size = nm.length := rfl
  clear h
  go_enter Try.func8, Try.ntmps8
  go_wp2_with fail
  refine (shown_any9 _).mono ?_
  rintro e w1 ⟨rfl, bb⟩
  have L1 := Lib.hid (L0.out.keep bb)
  have B1 := Lib.hid (below_then B0.out bb)
  clear bb L0 B0
  go_wp2_with fail
  refine (rfew_any A n c l 60 _ L1.out (by omega)).mono ?_
  rw [f1]
  rintro e w2 ⟨rfl, bb⟩
  have L2 := Lib.hid (L1.out.keep bb)
  have B2 := Lib.hid (below_then B1.out bb)
  clear bb L1 B1
  go_wp2_with fail
  refine (rright_any A n c l _ L2.out (by omega)).mono ?_
  rw [hr]
  rintro e w3 ⟨rfl, bb⟩
  have L3 := Lib.hid (L2.out.keep bb)
  have B3 := Lib.hid (below_then B2.out bb)
  clear bb L2 B2
  go_wp2_with fail
  go_ret
  exact ⟨rfl, B3.out⟩
set_option maxRecDepth 100000 in
set_option maxHeartbeats 8000000 in
theorem dcuts_3 (A : Option Addr) (n c : Nat) (l : List Wr) (a b : Nat) (nm : List UInt8) (w : World) (h : Wds w (.slice A n c) l) (f1 : dFew l 60 = true) (hr : dRight l = true) (h60 : (60 : Int) < (nm.length : Int)) :
    Calls Try.prog 8 #[.agg #[.slice A n c, .int .u8 (a : Int), .int .u8 (b : Int), .string (strB nm)]] w fun e w' => e = .returned (.bool true) ∧ Below w.heap.size w w' := by
  have hlen := (few_facts f1).1
  have hn : n ≤ 60 := by have := h.len; omega
  have L0 := Lib.hid (h.keep (al_one w (.cells #[.slice A n c, .int .u8 (a : Int), .int .u8 (b : Int), .string (strB nm)] 57)))
  have B0 : Hid (Below w.heap.size w (w.alloc (.cells #[.slice A n c, .int .u8 (a : Int), .int .u8 (b : Int), .string (strB nm)] 57))) := al_one _ _
  have hsz : (strB nm).size = nm.length := rfl
  clear h
  go_enter Try.func8, Try.ntmps8
  go_wp2_with fail
  refine (shown_any9 _).mono ?_
  rintro e w1 ⟨rfl, bb⟩
  have L1 := Lib.hid (L0.out.keep bb)
  have B1 := Lib.hid (below_then B0.out bb)
  clear bb L0 B0
  go_wp2_with fail
  refine (rfew_any A n c l 60 _ L1.out (by omega)).mono ?_
  rw [f1]
  rintro e w2 ⟨rfl, bb⟩
  have L2 := Lib.hid (L1.out.keep bb)
  have B2 := Lib.hid (below_then B1.out bb)
  clear bb L1 B1
  go_wp2_with fail
  refine (rright_any A n c l _ L2.out (by omega)).mono ?_
  rw [hr]
  rintro e w3 ⟨rfl, bb⟩
  have L3 := Lib.hid (L2.out.keep bb)
  have B3 := Lib.hid (below_then B2.out bb)
  clear bb L2 B2
  go_wp2_with fail
  go_ret
  exact ⟨rfl, B3.out⟩
set_option maxRecDepth 100000 in
set_option maxHeartbeats 8000000 in
theorem dcuts_no (A : Option Addr) (n c : Nat) (l : List Wr) (a b : Nat) (nm : List UInt8) (w : World) (h : Wds w (.slice A n c) l) (m k : Nat) (X : List Wr) (ha : a < 256) (hb : b < 256) (f1 : dFew l 60 = true) (hr : dRight l = true) (h60 : decide ((60 : Int) < (nm.length : Int)) = false) (hm1 : (a : Int) % ((n : Int) + 1) = (m : Int)) (hm1T : (a : Int).tmod ((n : Int) + 1) = (m : Int)) (hm2 : (b : Int) % ((m : Int) + 1) = (k : Int)) (hm2T : (b : Int).tmod ((m : Int) + 1) = (k : Int)) (hmn : m ≤ n) (hkm : k ≤ m) (eX : l.take m = X) (hfi : findI X nm = none) :
    Calls Try.prog 8 #[.agg #[.slice A n c, .int .u8 (a : Int), .int .u8 (b : Int), .string (strB nm)]] w fun e w' => e = .returned (.bool true) ∧ Below w.heap.size w w' := by
  have hlen := (few_facts f1).1
  have hn : n ≤ 60 := by have := h.len; omega
  have L0 := Lib.hid (h.keep (al_one w (.cells #[.slice A n c, .int .u8 (a : Int), .int .u8 (b : Int), .string (strB nm)] 57)))
  have B0 : Hid (Below w.heap.size w (w.alloc (.cells #[.slice A n c, .int .u8 (a : Int), .int .u8 (b : Int), .string (strB nm)] 57))) := al_one _ _
  have hsz : (strB nm).size = nm.length := rfl
  have hl := h.len
  obtain ⟨c1, c2⟩ := cut_nat (l := l) (k := m) (by omega)
  obtain ⟨c3, c4⟩ := cut_nat (l := l) (k := k) (by omega)
  obtain ⟨c5, c6⟩ := cut_nat (l := l) (k := n) (by omega)
  obtain ⟨c7, c8⟩ := cut_nat (l := l.take m) (k := k) (by rw [List.length_take]; omega)
  rw [List.take_take, Nat.min_eq_left hkm] at c7
  rw [← hl, List.take_length] at c5
  have HW : Hid (cutL l (n : Int) = l) := by show _ = _; rw [← hl]; exact c5
  have HWC := Lib.hid c6
  have HFL : Hid (∀ q ∈ X, 0 ≤ q.fl ∧ q.fl ≤ 7) := fun q hq => (right_all hr q (by rw [← eX] at hq; exact List.mem_of_mem_take hq)).2
  have HNL : Hid (∀ q ∈ X, q.nm.length ≤ 100000) := fun q hq => by have := (few_facts f1).2 q (by rw [← eX] at hq; exact List.mem_of_mem_take hq); omega
  have HXL : Hid (X.length = m) := by show _ = _; rw [← eX, List.length_take]; omega
  have HX : Hid (cutL l (m : Int) = X) := by show _ = _; rw [c1, eX]
  have HXC := Lib.hid c2
  obtain ⟨T, eT⟩ : ∃ T, l.take k = T := ⟨_, rfl⟩
  have HY : Hid (cutL X (k : Int) = T) := by show _ = _; rw [← eX, c7, eT]
  have HYC : Hid (cutC X (k : Int) = 0) := by show _ = _; rw [← eX]; exact c8
  have HZ : Hid (cutL l (k : Int) = T) := by show _ = _; rw [c3, eT]
  have HZC := Lib.hid c4
  have HT : Hid (T.length ≤ 1000000) := by show _ ≤ _; rw [← eT, List.length_take]; omega
  have hnm0 : ((nm.length : Nat) : Int) ≤ 60 := by simpa using h60
  have hnm : nm.length ≤ 60 := by omega
  clear hnm0 c1 c2 c3 c4 c5 c6 c7 c8 eT
  obtain ⟨q, eq⟩ : ∃ q, gotW X (findI X nm) = q := ⟨_, rfl⟩
  have HG := Lib.hid eq
  have HGI : Hid (gotI (findI X nm) = 0) := by show _ = _; rw [hfi]; rfl
  have HGB : Hid ((findI X nm).isSome = false) := by show _ = _; rw [hfi]; rfl
  clear eq hfi eX hl h
  have hz1 : (((n : Int) + 1) == 0) = false := by simp; omega
  have hz2 : (((m : Int) + 1) == 0) = false := by simp; omega
  go_enter Try.func8, Try.ntmps8
  go_wp2_with fail
  refine (shown_any9 _).mono ?_
  rintro e w1 ⟨rfl, bb⟩
  have L1 := Lib.hid (L0.out.keep bb)
  have B1 := Lib.hid (below_then B0.out bb)
  clear bb L0 B0
  go_wp2_with fail
  refine (rfew_any A n c l 60 _ L1.out (by omega)).mono ?_
  rw [f1]
  rintro e w2 ⟨rfl, bb⟩
  have L2 := Lib.hid (L1.out.keep bb)
  have B2 := Lib.hid (below_then B1.out bb)
  clear bb L1 B1
  go_wp2_with fail
  refine (rright_any A n c l _ L2.out (by omega)).mono ?_
  rw [hr]
  rintro e w3 ⟨rfl, bb⟩
  have L3 := Lib.hid (L2.out.keep bb)
  have B3 := Lib.hid (below_then B2.out bb)
  clear bb L2 B2
  go_wp2_with fail
  try simp only [hm1]
  refine (dcut_any A n c l (m : Int) _ L3.out (by omega)).mono ?_
  rw [HX.out, HXC.out]
  rintro e w4 ⟨A1, n1, c1, rfl, hy, bb⟩
  have L4 := Lib.hid (L3.out.keep bb)
  have B4 := Lib.hid (below_then B3.out bb)
  have X4 := Lib.hid hy
  clear bb L3 B3 hy
  obtain rfl : m = n1 := by have := X4.out.len; have := HXL.out; omega
  go_wp2_with fail
  try simp only [hm2]
  refine (dcut_any A1 m c1 X (k : Int) _ X4.out (by omega)).mono ?_
  rw [HY.out, HYC.out]
  rintro e w5 ⟨A2, n2, c2, rfl, hy, bb⟩
  have L5 := Lib.hid (L4.out.keep bb)
  have X5 := Lib.hid (X4.out.keep bb)
  have B5 := Lib.hid (below_then B4.out bb)
  have Y5 := Lib.hid hy
  clear bb L4 X4 B4 hy
  go_wp2_with fail
  refine (dcut_any A n c l (k : Int) _ L5.out (by omega)).mono ?_
  rw [HZ.out, HZC.out]
  rintro e w6 ⟨A3, n3, c3, rfl, hy, bb⟩
  have L6 := Lib.hid (L5.out.keep bb)
  have X6 := Lib.hid (X5.out.keep bb)
  have Y6 := Lib.hid (Y5.out.keep bb)
  have B6 := Lib.hid (below_then B5.out bb)
  have Z6 := Lib.hid hy
  clear bb L5 X5 Y5 B5 hy
  go_wp2_with fail
  refine (dcut_any A n c l (n : Int) _ L6.out (by omega)).mono ?_
  rw [HW.out, HWC.out]
  rintro e w7 ⟨A4, n4, c4, rfl, hy, bb⟩
  have L7 := Lib.hid (L6.out.keep bb)
  have X7 := Lib.hid (X6.out.keep bb)
  have Y7 := Lib.hid (Y6.out.keep bb)
  have Z7 := Lib.hid (Z6.out.keep bb)
  have B7 := Lib.hid (below_then B6.out bb)
  have V7 := Lib.hid hy
  clear bb L6 X6 Y6 Z6 B6 hy
  go_wp2_with fail
  refine (dfind_any A1 m c1 X nm _ X7.out (by omega) HFL.out HNL.out (by omega)).mono ?_
  rw [HG.out, HGI.out, HGB.out]
  rintro e w8 ⟨rfl, bb⟩
  have Lp := Lib.hid (L7.out.keep bb)
  have L8 := Lib.hid (Lp.out.keep (al_one _ (.cells #[.string (strB q.nm), .int .i64 q.xt, .int .i64 q.fl] 30)))
  have Xp := Lib.hid (X7.out.keep bb)
  have X8 := Lib.hid (Xp.out.keep (al_one _ (.cells #[.string (strB q.nm), .int .i64 q.xt, .int .i64 q.fl] 30)))
  have Yp := Lib.hid (Y7.out.keep bb)
  have Y8 := Lib.hid (Yp.out.keep (al_one _ (.cells #[.string (strB q.nm), .int .i64 q.xt, .int .i64 q.fl] 30)))
  have Zp := Lib.hid (Z7.out.keep bb)
  have Z8 := Lib.hid (Zp.out.keep (al_one _ (.cells #[.string (strB q.nm), .int .i64 q.xt, .int .i64 q.fl] 30)))
  have Vp := Lib.hid (V7.out.keep bb)
  have V8 := Lib.hid (Vp.out.keep (al_one _ (.cells #[.string (strB q.nm), .int .i64 q.xt, .int .i64 q.fl] 30)))
  have B8 := Lib.hid (below_then (below_then B7.out bb) (al_one _ (.cells #[.string (strB q.nm), .int .i64 q.xt, .int .i64 q.fl] 30)))
  have P8 := Lib.hid (wbox_new w8 q)
  clear bb L7 X7 Y7 Z7 V7 B7
  clear X8 Xp
  obtain ⟨W, hW⟩ : ∃ W, w8.alloc (.cells #[.string (strB q.nm), .int .i64 q.xt, .int .i64 q.fl] 30) = W := ⟨_, rfl⟩
  rw [hW] at L8 Y8 Z8 V8 P8 B8
  have HWW := Lib.hid hW
  clear hW Lp Yp Zp Vp
  have SB : Hid (∀ a, Below W.heap.size W a → (Below W.heap.size W a)) := Lib.hid fun a h => h
  go_wp2_with fail
  rw [HWW.out]
  refine wp_region_noPanic ?_
  refine wp_region_held_drew (S := fun a => Below W.heap.size W a) (by kernel_rfl) ?_ (fun hHeld => ?_)
  · exact SB.out _ (since_d9 _)
  refine wpAnyH_take (i := 0) (oi := _) (v := ?v0) rfl (by kernel_rfl) (by kernel_rfl) (by kernel_rfl) (fun _ _ _ h => h) (Or.inl ⟨by kernel_rfl, ?y0⟩) (by assumption) ?r0
  case y0 => (intro w hSw; (try dsimp only at hSw); go_simp; (try with_reducible rfl))
  try simp only [List.getElem_toArray, List.getElem_cons_succ, List.getElem_cons_zero, Act.put, List.setIfInBounds_toArray, List.set_cons_zero, List.set_cons_succ]
  refine wpAnyH_take (i := 1) (oi := _) (v := ?v1) rfl (by kernel_rfl) (by kernel_rfl) (by kernel_rfl) (fun _ _ _ h => h) (Or.inl ⟨by kernel_rfl, ?y1⟩) (by assumption) ?r1
  case y1 => (intro w hSw; (try dsimp only at hSw); go_simp; (try with_reducible rfl))
  try simp only [List.getElem_toArray, List.getElem_cons_succ, List.getElem_cons_zero, Act.put, List.setIfInBounds_toArray, List.set_cons_zero, List.set_cons_succ]
  refine wpAnyH_take (i := 2) (oi := _) (v := ?v2) rfl (by kernel_rfl) (by kernel_rfl) (by kernel_rfl) (fun _ _ _ h => h) (Or.inl ⟨by kernel_rfl, ?y2⟩) (by assumption) ?r2
  case y2 => (intro w hSw; (try dsimp only at hSw); go_simp; (try with_reducible rfl))
  try simp only [List.getElem_toArray, List.getElem_cons_succ, List.getElem_cons_zero, Act.put, List.setIfInBounds_toArray, List.set_cons_zero, List.set_cons_succ]
  refine wpAnyH_take (i := 3) (oi := _) (v := ?v3) rfl (by kernel_rfl) (by kernel_rfl) (by kernel_rfl) (fun _ _ _ h => h) (Or.inl ⟨by kernel_rfl, ?y3⟩) (by assumption) ?r3
  case y3 => (intro w hSw; (try dsimp only at hSw); go_simp; (try with_reducible rfl))
  try simp only [List.getElem_toArray, List.getElem_cons_succ, List.getElem_cons_zero, Act.put, List.setIfInBounds_toArray, List.set_cons_zero, List.set_cons_succ]
  refine wpAnyH_take (i := 4) (oi := _) (v := ?v4) rfl (by kernel_rfl) (by kernel_rfl) (by kernel_rfl) (fun _ _ _ h => h) (Or.inl ⟨by kernel_rfl, ?y4⟩) (by assumption) ?r4
  case y4 => (intro w hSw; (try dsimp only at hSw); go_simp; (try with_reducible rfl))
  try simp only [List.getElem_toArray, List.getElem_cons_succ, List.getElem_cons_zero, Act.put, List.setIfInBounds_toArray, List.set_cons_zero, List.set_cons_succ]
  refine wpAnyH_take (i := 5) (oi := _) (v := ?v5) rfl (by kernel_rfl) (by kernel_rfl) (by kernel_rfl) (fun _ _ _ h => h) (Or.inl ⟨by kernel_rfl, ?y5⟩) (by assumption) ?r5
  case y5 => (intro w hSw; (try dsimp only at hSw); go_simp; (try with_reducible rfl))
  try simp only [List.getElem_toArray, List.getElem_cons_succ, List.getElem_cons_zero, Act.put, List.setIfInBounds_toArray, List.set_cons_zero, List.set_cons_succ]
  refine wpAnyH_take (i := 6) (oi := _) (v := ?v6) rfl (by kernel_rfl) (by kernel_rfl) (by kernel_rfl) (fun _ _ _ h => h) (Or.inl ⟨by kernel_rfl, ?y6⟩) (by assumption) ?r6
  case y6 => (intro w hSw; (try dsimp only at hSw); go_simp; (try with_reducible rfl))
  try simp only [List.getElem_toArray, List.getElem_cons_succ, List.getElem_cons_zero, Act.put, List.setIfInBounds_toArray, List.set_cons_zero, List.set_cons_succ]
  refine wpAnyH_take (i := 7) (oi := _) (v := ?v7) rfl (by kernel_rfl) (by kernel_rfl) (by kernel_rfl) (fun _ _ _ h => h) (Or.inl ⟨by kernel_rfl, ?y7⟩) (by assumption) ?r7
  case y7 => (intro w hSw; (try dsimp only at hSw); go_simp; (try with_reducible rfl))
  try simp only [List.getElem_toArray, List.getElem_cons_succ, List.getElem_cons_zero, Act.put, List.setIfInBounds_toArray, List.set_cons_zero, List.set_cons_succ]
  refine wpAnyH_take (i := 8) (oi := _) (v := ?v8) rfl (by kernel_rfl) (by kernel_rfl) (by kernel_rfl) (fun _ _ _ h => h) (Or.inl ⟨by kernel_rfl, ?y8⟩) (by assumption) ?r8
  case y8 => (intro w hSw; (try dsimp only at hSw); go_simp; (try with_reducible rfl))
  try simp only [List.getElem_toArray, List.getElem_cons_succ, List.getElem_cons_zero, Act.put, List.setIfInBounds_toArray, List.set_cons_zero, List.set_cons_succ]
  refine wpAnyH_take (i := 9) (oi := _) (v := ?v9) rfl (by kernel_rfl) (by kernel_rfl) (by kernel_rfl) (fun _ _ _ h => h) (Or.inl ⟨by kernel_rfl, ?y9⟩) (by assumption) ?r9
  case y9 => (intro w hSw; (try dsimp only at hSw); go_simp; (try with_reducible rfl))
  try simp only [List.getElem_toArray, List.getElem_cons_succ, List.getElem_cons_zero, Act.put, List.setIfInBounds_toArray, List.set_cons_zero, List.set_cons_succ]
  refine wpAnyH_take (i := 10) (oi := _) (v := ?v10) rfl (by kernel_rfl) (by kernel_rfl) (by kernel_rfl) (fun _ _ _ h => h) (Or.inl ⟨by kernel_rfl, ?y10⟩) (by assumption) ?r10
  case y10 => (intro w hSw; (try dsimp only at hSw); go_simp; (try with_reducible rfl))
  try simp only [List.getElem_toArray, List.getElem_cons_succ, List.getElem_cons_zero, Act.put, List.setIfInBounds_toArray, List.set_cons_zero, List.set_cons_succ]
  refine wpAnyH_take (i := 11) (oi := _) (v := ?v11) rfl (by kernel_rfl) (by kernel_rfl) (by kernel_rfl) (fun _ _ _ h => h) (Or.inl ⟨by kernel_rfl, ?y11⟩) (by assumption) ?r11
  case y11 => (intro w hSw; (try dsimp only at hSw); go_simp; (try with_reducible rfl))
  try simp only [List.getElem_toArray, List.getElem_cons_succ, List.getElem_cons_zero, Act.put, List.setIfInBounds_toArray, List.set_cons_zero, List.set_cons_succ]
  refine wpAnyH_take (i := 12) (oi := _) (v := ?v12) rfl (by kernel_rfl) (by kernel_rfl) (by kernel_rfl) (fun _ _ _ h => h) (Or.inl ⟨by kernel_rfl, ?y12⟩) (by assumption) ?r12
  case y12 => (intro w hSw; (try dsimp only at hSw); go_simp; (try with_reducible rfl))
  try simp only [List.getElem_toArray, List.getElem_cons_succ, List.getElem_cons_zero, Act.put, List.setIfInBounds_toArray, List.set_cons_zero, List.set_cons_succ]
  refine wpAnyH_take (i := 13) (oi := _) (v := ?v13) rfl (by kernel_rfl) (by kernel_rfl) (by kernel_rfl) (fun _ _ _ h => h) (Or.inl ⟨by kernel_rfl, ?y13⟩) (by assumption) ?r13
  case y13 => (intro w hSw; (try dsimp only at hSw); go_simp; (try with_reducible rfl))
  try simp only [List.getElem_toArray, List.getElem_cons_succ, List.getElem_cons_zero, Act.put, List.setIfInBounds_toArray, List.set_cons_zero, List.set_cons_succ]
  refine wpAnyH_take (i := 14) (oi := _) (v := ?v14) rfl (by kernel_rfl) (by kernel_rfl) (by kernel_rfl) (fun _ _ _ h => h) (Or.inl ⟨by kernel_rfl, ?y14⟩) (by assumption) ?r14
  case y14 => (intro w hSw; (try dsimp only at hSw); go_simp; (try with_reducible rfl))
  try simp only [List.getElem_toArray, List.getElem_cons_succ, List.getElem_cons_zero, Act.put, List.setIfInBounds_toArray, List.set_cons_zero, List.set_cons_succ]
  refine wpAnyH_take (i := 15) (oi := _) (v := ?v15) rfl (by kernel_rfl) (by kernel_rfl) (by kernel_rfl) (fun _ _ _ h => h) (Or.inl ⟨by kernel_rfl, ?y15⟩) (by assumption) ?r15
  case y15 => (intro w hSw; (try dsimp only at hSw); go_simp; (try with_reducible rfl))
  try simp only [List.getElem_toArray, List.getElem_cons_succ, List.getElem_cons_zero, Act.put, List.setIfInBounds_toArray, List.set_cons_zero, List.set_cons_succ]
  refine wpAnyH_ready (rs := [16]) (by kernel_rfl) (by simp) ?_
  refine AllReadyH.cons (o := _) rfl (fun K hK => ?_) AllReadyH.nil
  go_simp
  (go_at_call 14; ((with_reducible refine (rsame9_any A2 A3 n2 c2 n3 c3 T T _ (Y8.out.keep hHeld) (Z8.out.keep hHeld) HT.out).mono ?_); rw [dsame_refl]; rintro ey wy ⟨rfl, By⟩; have sy := SB.out _ (below_then hHeld By)))
  go_wp2_with fail
  clear hHeld
  refine hK.out _ _ sy (fun hHeld => ?_)
  clear hK K
  try simp only [List.getElem_toArray, List.getElem_cons_succ, List.getElem_cons_zero, Act.put, List.setIfInBounds_toArray, List.set_cons_zero, List.set_cons_succ]
  refine wpAnyH_take (i := 17) (oi := _) (v := ?v17) rfl (by kernel_rfl) (by kernel_rfl) (by kernel_rfl) (fun _ _ _ h => h) (Or.inl ⟨by kernel_rfl, ?y17⟩) (by assumption) ?r17
  case y17 => (intro w hSw; (try dsimp only at hSw); go_simp; (try with_reducible rfl))
  try simp only [List.getElem_toArray, List.getElem_cons_succ, List.getElem_cons_zero, Act.put, List.setIfInBounds_toArray, List.set_cons_zero, List.set_cons_succ]
  refine wpAnyH_take (i := 18) (oi := _) (v := ?v18) rfl (by kernel_rfl) (by kernel_rfl) (by kernel_rfl) (fun _ _ _ h => h) (Or.inl ⟨by kernel_rfl, ?y18⟩) (by assumption) ?r18
  case y18 => (intro w hSw; (try dsimp only at hSw); go_simp; (try with_reducible rfl))
  try simp only [List.getElem_toArray, List.getElem_cons_succ, List.getElem_cons_zero, Act.put, List.setIfInBounds_toArray, List.set_cons_zero, List.set_cons_succ]
  refine wpAnyH_take (i := 19) (oi := _) (v := ?v19) rfl (by kernel_rfl) (by kernel_rfl) (by kernel_rfl) (fun _ _ _ h => h) (Or.inl ⟨by kernel_rfl, ?y19⟩) (by assumption) ?r19
  case y19 => (intro w hSw; (try dsimp only at hSw); go_simp; (try with_reducible rfl))
  try simp only [List.getElem_toArray, List.getElem_cons_succ, List.getElem_cons_zero, Act.put, List.setIfInBounds_toArray, List.set_cons_zero, List.set_cons_succ]
  refine wpAnyH_take (i := 20) (oi := _) (v := ?v20) rfl (by kernel_rfl) (by kernel_rfl) (by kernel_rfl) (fun _ _ _ h => h) (Or.inl ⟨by kernel_rfl, ?y20⟩) (by assumption) ?r20
  case y20 => (intro w hSw; (try dsimp only at hSw); go_simp; (try with_reducible rfl))
  try simp only [List.getElem_toArray, List.getElem_cons_succ, List.getElem_cons_zero, Act.put, List.setIfInBounds_toArray, List.set_cons_zero, List.set_cons_succ]
  refine wpAnyH_ready (rs := [21]) (by kernel_rfl) (by simp) ?_
  refine AllReadyH.cons (o := _) rfl (fun K hK => ?_) AllReadyH.nil
  go_simp
  (go_at_call 14; ((with_reducible refine (rsame9_any A4 A n4 c4 n c l l _ (V8.out.keep hHeld) (L8.out.keep hHeld) (by omega)).mono ?_); rw [dsame_refl]; rintro ez wz ⟨rfl, Bz⟩; have sz := SB.out _ (below_then hHeld Bz)))
  go_wp2_with fail
  clear hHeld
  refine hK.out _ _ sz (fun hHeld => ?_)
  clear hK K
  try simp only [List.getElem_toArray, List.getElem_cons_succ, List.getElem_cons_zero, Act.put, List.setIfInBounds_toArray, List.set_cons_zero, List.set_cons_succ]
  refine wpAnyH_take (i := 22) (oi := _) (v := ?v22) rfl (by kernel_rfl) (by kernel_rfl) (by kernel_rfl) (fun _ _ _ h => h) (Or.inl ⟨by kernel_rfl, ?y22⟩) (by assumption) ?r22
  case y22 => (intro w hSw; (try dsimp only at hSw); go_simp; (try with_reducible rfl))
  try simp only [List.getElem_toArray, List.getElem_cons_succ, List.getElem_cons_zero, Act.put, List.setIfInBounds_toArray, List.set_cons_zero, List.set_cons_succ]
  refine wpAnyH_take (i := 23) (oi := _) (v := ?v23) rfl (by kernel_rfl) (by kernel_rfl) (by kernel_rfl) (fun _ _ _ h => h) (Or.inl ⟨by kernel_rfl, ?y23⟩) (by assumption) ?r23
  case y23 => (intro w hSw; (try dsimp only at hSw); go_simp; (try with_reducible rfl))
  try simp only [List.getElem_toArray, List.getElem_cons_succ, List.getElem_cons_zero, Act.put, List.setIfInBounds_toArray, List.set_cons_zero, List.set_cons_succ]
  refine wpAnyH_take (i := 24) (oi := _) (v := ?v24) rfl (by kernel_rfl) (by kernel_rfl) (by kernel_rfl) (fun _ _ _ h => h) (Or.inl ⟨by kernel_rfl, ?y24⟩) (by assumption) ?r24
  case y24 => (intro w hSw; (try dsimp only at hSw); go_simp; (try with_reducible rfl))
  try simp only [List.getElem_toArray, List.getElem_cons_succ, List.getElem_cons_zero, Act.put, List.setIfInBounds_toArray, List.set_cons_zero, List.set_cons_succ]
  refine wpAnyH_take (i := 25) (oi := _) (v := ?v25) rfl (by kernel_rfl) (by kernel_rfl) (by kernel_rfl) (fun _ _ _ h => h) (Or.inl ⟨by kernel_rfl, ?y25⟩) (by assumption) ?r25
  case y25 => (intro w hSw; (try dsimp only at hSw); go_simp; (try with_reducible rfl))
  try simp only [List.getElem_toArray, List.getElem_cons_succ, List.getElem_cons_zero, Act.put, List.setIfInBounds_toArray, List.set_cons_zero, List.set_cons_succ]
  refine wpAnyH_take (i := 26) (oi := _) (v := ?v26) rfl (by kernel_rfl) (by kernel_rfl) (by kernel_rfl) (fun _ _ _ h => h) (Or.inl ⟨by kernel_rfl, ?y26⟩) (by assumption) ?r26
  case y26 => (intro w hSw; (try dsimp only at hSw); go_simp; (try with_reducible rfl))
  try simp only [List.getElem_toArray, List.getElem_cons_succ, List.getElem_cons_zero, Act.put, List.setIfInBounds_toArray, List.set_cons_zero, List.set_cons_succ]
  refine wpAnyH_take (i := 27) (oi := _) (v := undef) rfl (by kernel_rfl) (by kernel_rfl) (by kernel_rfl) (fun _ _ _ h => h) (Or.inr ⟨by kernel_rfl, rfl⟩) (by assumption) ?_
  try simp only [List.getElem_toArray, List.getElem_cons_succ, List.getElem_cons_zero, Act.put, List.setIfInBounds_toArray, List.set_cons_zero, List.set_cons_succ]
  refine wpAnyH_take (i := 28) (oi := _) (v := undef) rfl (by kernel_rfl) (by kernel_rfl) (by kernel_rfl) (fun _ _ _ h => h) (Or.inr ⟨by kernel_rfl, rfl⟩) (by assumption) ?_
  try simp only [List.getElem_toArray, List.getElem_cons_succ, List.getElem_cons_zero, Act.put, List.setIfInBounds_toArray, List.set_cons_zero, List.set_cons_succ]
  refine wpAnyH_take (i := 29) (oi := _) (v := undef) rfl (by kernel_rfl) (by kernel_rfl) (by kernel_rfl) (fun _ _ _ h => h) (Or.inr ⟨by kernel_rfl, rfl⟩) (by assumption) ?_
  try simp only [List.getElem_toArray, List.getElem_cons_succ, List.getElem_cons_zero, Act.put, List.setIfInBounds_toArray, List.set_cons_zero, List.set_cons_succ]
  refine wpAnyH_take (i := 30) (oi := _) (v := undef) rfl (by kernel_rfl) (by kernel_rfl) (by kernel_rfl) (fun _ _ _ h => h) (Or.inr ⟨by kernel_rfl, rfl⟩) (by assumption) ?_
  try simp only [List.getElem_toArray, List.getElem_cons_succ, List.getElem_cons_zero, Act.put, List.setIfInBounds_toArray, List.set_cons_zero, List.set_cons_succ]
  refine wpAnyH_take (i := 31) (oi := _) (v := undef) rfl (by kernel_rfl) (by kernel_rfl) (by kernel_rfl) (fun _ _ _ h => h) (Or.inr ⟨by kernel_rfl, rfl⟩) (by assumption) ?_
  try simp only [List.getElem_toArray, List.getElem_cons_succ, List.getElem_cons_zero, Act.put, List.setIfInBounds_toArray, List.set_cons_zero, List.set_cons_succ]
  refine wpAnyH_take (i := 32) (oi := _) (v := undef) rfl (by kernel_rfl) (by kernel_rfl) (by kernel_rfl) (fun _ _ _ h => h) (Or.inr ⟨by kernel_rfl, rfl⟩) (by assumption) ?_
  try simp only [List.getElem_toArray, List.getElem_cons_succ, List.getElem_cons_zero, Act.put, List.setIfInBounds_toArray, List.set_cons_zero, List.set_cons_succ]
  refine wpAnyH_take (i := 33) (oi := _) (v := undef) rfl (by kernel_rfl) (by kernel_rfl) (by kernel_rfl) (fun _ _ _ h => h) (Or.inr ⟨by kernel_rfl, rfl⟩) (by assumption) ?_
  try simp only [List.getElem_toArray, List.getElem_cons_succ, List.getElem_cons_zero, Act.put, List.setIfInBounds_toArray, List.set_cons_zero, List.set_cons_succ]
  refine wpAnyH_take (i := 34) (oi := _) (v := undef) rfl (by kernel_rfl) (by kernel_rfl) (by kernel_rfl) (fun _ _ _ h => h) (Or.inr ⟨by kernel_rfl, rfl⟩) (by assumption) ?_
  try simp only [List.getElem_toArray, List.getElem_cons_succ, List.getElem_cons_zero, Act.put, List.setIfInBounds_toArray, List.set_cons_zero, List.set_cons_succ]
  refine wpAnyH_take (i := 35) (oi := _) (v := undef) rfl (by kernel_rfl) (by kernel_rfl) (by kernel_rfl) (fun _ _ _ h => h) (Or.inr ⟨by kernel_rfl, rfl⟩) (by assumption) ?_
  try simp only [List.getElem_toArray, List.getElem_cons_succ, List.getElem_cons_zero, Act.put, List.setIfInBounds_toArray, List.set_cons_zero, List.set_cons_succ]
  refine wpAnyH_take (i := 36) (oi := _) (v := undef) rfl (by kernel_rfl) (by kernel_rfl) (by kernel_rfl) (fun _ _ _ h => h) (Or.inr ⟨by kernel_rfl, rfl⟩) (by assumption) ?_
  try simp only [List.getElem_toArray, List.getElem_cons_succ, List.getElem_cons_zero, Act.put, List.setIfInBounds_toArray, List.set_cons_zero, List.set_cons_succ]
  refine wpAnyH_take (i := 37) (oi := _) (v := undef) rfl (by kernel_rfl) (by kernel_rfl) (by kernel_rfl) (fun _ _ _ h => h) (Or.inr ⟨by kernel_rfl, rfl⟩) (by assumption) ?_
  try simp only [List.getElem_toArray, List.getElem_cons_succ, List.getElem_cons_zero, Act.put, List.setIfInBounds_toArray, List.set_cons_zero, List.set_cons_succ]
  refine wpAnyH_take (i := 38) (oi := _) (v := undef) rfl (by kernel_rfl) (by kernel_rfl) (by kernel_rfl) (fun _ _ _ h => h) (Or.inr ⟨by kernel_rfl, rfl⟩) (by assumption) ?_
  try simp only [List.getElem_toArray, List.getElem_cons_succ, List.getElem_cons_zero, Act.put, List.setIfInBounds_toArray, List.set_cons_zero, List.set_cons_succ]
  refine wpAnyH_take (i := 39) (oi := _) (v := undef) rfl (by kernel_rfl) (by kernel_rfl) (by kernel_rfl) (fun _ _ _ h => h) (Or.inr ⟨by kernel_rfl, rfl⟩) (by assumption) ?_
  try simp only [List.getElem_toArray, List.getElem_cons_succ, List.getElem_cons_zero, Act.put, List.setIfInBounds_toArray, List.set_cons_zero, List.set_cons_succ]
  refine wpAnyH_take (i := 40) (oi := _) (v := undef) rfl (by kernel_rfl) (by kernel_rfl) (by kernel_rfl) (fun _ _ _ h => h) (Or.inr ⟨by kernel_rfl, rfl⟩) (by assumption) ?_
  try simp only [List.getElem_toArray, List.getElem_cons_succ, List.getElem_cons_zero, Act.put, List.setIfInBounds_toArray, List.set_cons_zero, List.set_cons_succ]
  refine wpAnyH_take (i := 41) (oi := _) (v := undef) rfl (by kernel_rfl) (by kernel_rfl) (by kernel_rfl) (fun _ _ _ h => h) (Or.inr ⟨by kernel_rfl, rfl⟩) (by assumption) ?_
  try simp only [List.getElem_toArray, List.getElem_cons_succ, List.getElem_cons_zero, Act.put, List.setIfInBounds_toArray, List.set_cons_zero, List.set_cons_succ]
  refine wpAnyH_take (i := 42) (oi := _) (v := ?v42) rfl (by kernel_rfl) (by kernel_rfl) (by kernel_rfl) (fun _ _ _ h => h) (Or.inl ⟨by kernel_rfl, ?y42⟩) (by assumption) ?r42
  case y42 => (intro w hSw; (try dsimp only at hSw); go_simp; (try with_reducible rfl))
  try simp only [List.getElem_toArray, List.getElem_cons_succ, List.getElem_cons_zero, Act.put, List.setIfInBounds_toArray, List.set_cons_zero, List.set_cons_succ]
  refine wpAnyH_take (i := 43) (oi := _) (v := ?v43) rfl (by kernel_rfl) (by kernel_rfl) (by kernel_rfl) (fun _ _ _ h => h) (Or.inl ⟨by kernel_rfl, ?y43⟩) (by assumption) ?r43
  case y43 => (intro w hSw; (try dsimp only at hSw); go_simp; (try with_reducible rfl))
  try simp only [List.getElem_toArray, List.getElem_cons_succ, List.getElem_cons_zero, Act.put, List.setIfInBounds_toArray, List.set_cons_zero, List.set_cons_succ]
  refine wpAnyH_take (i := 44) (oi := _) (v := ?v44) rfl (by kernel_rfl) (by kernel_rfl) (by kernel_rfl) (fun _ _ _ h => h) (Or.inl ⟨by kernel_rfl, ?y44⟩) (by assumption) ?r44
  case y44 => (intro w hSw; (try dsimp only at hSw); go_simp; (try with_reducible rfl))
  try simp only [List.getElem_toArray, List.getElem_cons_succ, List.getElem_cons_zero, Act.put, List.setIfInBounds_toArray, List.set_cons_zero, List.set_cons_succ]
  refine wpAnyH_done (by kernel_rfl) ?_ _
  all_goals (refine NoPanic.normal ?_)
  all_goals (have BD := Lib.hid (below_then B8.out sz))
  all_goals go_wp2_with fail
  all_goals go_ret
  all_goals exact ⟨rfl, BD.out⟩
set_option maxRecDepth 100000 in
set_option maxHeartbeats 8000000 in
theorem dcuts_yes (A : Option Addr) (n c : Nat) (l : List Wr) (a b : Nat) (nm : List UInt8) (w : World) (h : Wds w (.slice A n c) l) (m k : Nat) (X : List Wr) (ha : a < 256) (hb : b < 256) (f1 : dFew l 60 = true) (hr : dRight l = true) (h60 : decide ((60 : Int) < (nm.length : Int)) = false) (hm1 : (a : Int) % ((n : Int) + 1) = (m : Int)) (hm1T : (a : Int).tmod ((n : Int) + 1) = (m : Int)) (hm2 : (b : Int) % ((m : Int) + 1) = (k : Int)) (hm2T : (b : Int).tmod ((m : Int) + 1) = (k : Int)) (hmn : m ≤ n) (hkm : k ≤ m) (eX : l.take m = X) (i : Nat) (hfi : findI X nm = some i) :
    Calls Try.prog 8 #[.agg #[.slice A n c, .int .u8 (a : Int), .int .u8 (b : Int), .string (strB nm)]] w fun e w' => e = .returned (.bool true) ∧ Below w.heap.size w w' := by
  have hlen := (few_facts f1).1
  have hn : n ≤ 60 := by have := h.len; omega
  have L0 := Lib.hid (h.keep (al_one w (.cells #[.slice A n c, .int .u8 (a : Int), .int .u8 (b : Int), .string (strB nm)] 57)))
  have B0 : Hid (Below w.heap.size w (w.alloc (.cells #[.slice A n c, .int .u8 (a : Int), .int .u8 (b : Int), .string (strB nm)] 57))) := al_one _ _
  have hsz : (strB nm).size = nm.length := rfl
  have hl := h.len
  obtain ⟨c1, c2⟩ := cut_nat (l := l) (k := m) (by omega)
  obtain ⟨c3, c4⟩ := cut_nat (l := l) (k := k) (by omega)
  obtain ⟨c5, c6⟩ := cut_nat (l := l) (k := n) (by omega)
  obtain ⟨c7, c8⟩ := cut_nat (l := l.take m) (k := k) (by rw [List.length_take]; omega)
  rw [List.take_take, Nat.min_eq_left hkm] at c7
  rw [← hl, List.take_length] at c5
  have HW : Hid (cutL l (n : Int) = l) := by show _ = _; rw [← hl]; exact c5
  have HWC := Lib.hid c6
  have HFL : Hid (∀ q ∈ X, 0 ≤ q.fl ∧ q.fl ≤ 7) := fun q hq => (right_all hr q (by rw [← eX] at hq; exact List.mem_of_mem_take hq)).2
  have HNL : Hid (∀ q ∈ X, q.nm.length ≤ 100000) := fun q hq => by have := (few_facts f1).2 q (by rw [← eX] at hq; exact List.mem_of_mem_take hq); omega
  have HXL : Hid (X.length = m) := by show _ = _; rw [← eX, List.length_take]; omega
  have HX : Hid (cutL l (m : Int) = X) := by show _ = _; rw [c1, eX]
  have HXC := Lib.hid c2
  obtain ⟨T, eT⟩ : ∃ T, l.take k = T := ⟨_, rfl⟩
  have HY : Hid (cutL X (k : Int) = T) := by show _ = _; rw [← eX, c7, eT]
  have HYC : Hid (cutC X (k : Int) = 0) := by show _ = _; rw [← eX]; exact c8
  have HZ : Hid (cutL l (k : Int) = T) := by show _ = _; rw [c3, eT]
  have HZC := Lib.hid c4
  have HT : Hid (T.length ≤ 1000000) := by show _ ≤ _; rw [← eT, List.length_take]; omega
  have hnm0 : ((nm.length : Nat) : Int) ≤ 60 := by simpa using h60
  have hnm : nm.length ≤ 60 := by omega
  clear hnm0 c1 c2 c3 c4 c5 c6 c7 c8 eT
  have hi := lastI_lt hfi
  obtain ⟨q, eq⟩ : ∃ q, X[i] = q := ⟨_, rfl⟩
  have HG : Hid (gotW X (findI X nm) = q) := by show _ = _; rw [hfi]; exact gotW_at (by rw [List.getElem?_eq_getElem hi, eq])
  have HGI : Hid (gotI (findI X nm) = i) := by show _ = _; rw [hfi]; rfl
  have HGB : Hid ((findI X nm).isSome = true) := by show _ = _; rw [hfi]; rfl
  have him : i < m := by have := HXL.out; omega
  have hil : i < l.length := by omega
  have hlq : l[i] = q := by
    rw [← eq]
    subst eX
    exact (List.getElem_take).symm
  have hin : (i : Int) < (n : Int) := by omega
  have him' : (i : Int) < (m : Int) := by omega
  clear eq hfi eX hl h
  have hz1 : (((n : Int) + 1) == 0) = false := by simp; omega
  have hz2 : (((m : Int) + 1) == 0) = false := by simp; omega
  go_enter Try.func8, Try.ntmps8
  go_wp2_with fail
  refine (shown_any9 _).mono ?_
  rintro e w1 ⟨rfl, bb⟩
  have L1 := Lib.hid (L0.out.keep bb)
  have B1 := Lib.hid (below_then B0.out bb)
  clear bb L0 B0
  go_wp2_with fail
  refine (rfew_any A n c l 60 _ L1.out (by omega)).mono ?_
  rw [f1]
  rintro e w2 ⟨rfl, bb⟩
  have L2 := Lib.hid (L1.out.keep bb)
  have B2 := Lib.hid (below_then B1.out bb)
  clear bb L1 B1
  go_wp2_with fail
  refine (rright_any A n c l _ L2.out (by omega)).mono ?_
  rw [hr]
  rintro e w3 ⟨rfl, bb⟩
  have L3 := Lib.hid (L2.out.keep bb)
  have B3 := Lib.hid (below_then B2.out bb)
  clear bb L2 B2
  go_wp2_with fail
  try simp only [hm1]
  refine (dcut_any A n c l (m : Int) _ L3.out (by omega)).mono ?_
  rw [HX.out, HXC.out]
  rintro e w4 ⟨A1, n1, c1, rfl, hy, bb⟩
  have L4 := Lib.hid (L3.out.keep bb)
  have B4 := Lib.hid (below_then B3.out bb)
  have X4 := Lib.hid hy
  clear bb L3 B3 hy
  obtain rfl : m = n1 := by have := X4.out.len; have := HXL.out; omega
  go_wp2_with fail
  try simp only [hm2]
  refine (dcut_any A1 m c1 X (k : Int) _ X4.out (by omega)).mono ?_
  rw [HY.out, HYC.out]
  rintro e w5 ⟨A2, n2, c2, rfl, hy, bb⟩
  have L5 := Lib.hid (L4.out.keep bb)
  have X5 := Lib.hid (X4.out.keep bb)
  have B5 := Lib.hid (below_then B4.out bb)
  have Y5 := Lib.hid hy
  clear bb L4 X4 B4 hy
  go_wp2_with fail
  refine (dcut_any A n c l (k : Int) _ L5.out (by omega)).mono ?_
  rw [HZ.out, HZC.out]
  rintro e w6 ⟨A3, n3, c3, rfl, hy, bb⟩
  have L6 := Lib.hid (L5.out.keep bb)
  have X6 := Lib.hid (X5.out.keep bb)
  have Y6 := Lib.hid (Y5.out.keep bb)
  have B6 := Lib.hid (below_then B5.out bb)
  have Z6 := Lib.hid hy
  clear bb L5 X5 Y5 B5 hy
  go_wp2_with fail
  refine (dcut_any A n c l (n : Int) _ L6.out (by omega)).mono ?_
  rw [HW.out, HWC.out]
  rintro e w7 ⟨A4, n4, c4, rfl, hy, bb⟩
  have L7 := Lib.hid (L6.out.keep bb)
  have X7 := Lib.hid (X6.out.keep bb)
  have Y7 := Lib.hid (Y6.out.keep bb)
  have Z7 := Lib.hid (Z6.out.keep bb)
  have B7 := Lib.hid (below_then B6.out bb)
  have V7 := Lib.hid hy
  clear bb L6 X6 Y6 Z6 B6 hy
  go_wp2_with fail
  refine (dfind_any A1 m c1 X nm _ X7.out (by omega) HFL.out HNL.out (by omega)).mono ?_
  rw [HG.out, HGI.out, HGB.out]
  rintro e w8 ⟨rfl, bb⟩
  have Lp := Lib.hid (L7.out.keep bb)
  have L8 := Lib.hid (Lp.out.keep (al_one _ (.cells #[.string (strB q.nm), .int .i64 q.xt, .int .i64 q.fl] 30)))
  have Xp := Lib.hid (X7.out.keep bb)
  have X8 := Lib.hid (Xp.out.keep (al_one _ (.cells #[.string (strB q.nm), .int .i64 q.xt, .int .i64 q.fl] 30)))
  have Yp := Lib.hid (Y7.out.keep bb)
  have Y8 := Lib.hid (Yp.out.keep (al_one _ (.cells #[.string (strB q.nm), .int .i64 q.xt, .int .i64 q.fl] 30)))
  have Zp := Lib.hid (Z7.out.keep bb)
  have Z8 := Lib.hid (Zp.out.keep (al_one _ (.cells #[.string (strB q.nm), .int .i64 q.xt, .int .i64 q.fl] 30)))
  have Vp := Lib.hid (V7.out.keep bb)
  have V8 := Lib.hid (Vp.out.keep (al_one _ (.cells #[.string (strB q.nm), .int .i64 q.xt, .int .i64 q.fl] 30)))
  have B8 := Lib.hid (below_then (below_then B7.out bb) (al_one _ (.cells #[.string (strB q.nm), .int .i64 q.xt, .int .i64 q.fl] 30)))
  have P8 := Lib.hid (wbox_new w8 q)
  clear bb L7 X7 Y7 Z7 V7 B7
  clear X8 Xp
  obtain ⟨W, hW⟩ : ∃ W, w8.alloc (.cells #[.string (strB q.nm), .int .i64 q.xt, .int .i64 q.fl] 30) = W := ⟨_, rfl⟩
  rw [hW] at L8 Y8 Z8 V8 P8 B8
  have HWW := Lib.hid hW
  clear hW Lp Yp Zp Vp
  obtain ⟨g, o, hA, d1, d2, d3⟩ := wds_cell L8.out hil
  rw [hlq] at d1 d2 d3
  subst hA
  have hg := World.block_lt_of_cell? W ⟨g, o + i * 3, none⟩ d1
  have SB : Hid (∀ a, Below W.heap.size W a → (a.cell? ⟨w8.heap.size, 0, none⟩ = some (.string (strB q.nm)) ∧ a.cell? ⟨w8.heap.size, 1, none⟩ = some (.int .i64 q.xt) ∧ a.cell? ⟨w8.heap.size, 2, none⟩ = some (.int .i64 q.fl) ∧ a.cell? ⟨g, o + i * 3, none⟩ = some (.string (strB q.nm)) ∧ a.cell? ⟨g, o + i * 3 + 1, none⟩ = some (.int .i64 q.xt) ∧ a.cell? ⟨g, o + i * 3 + 2, none⟩ = some (.int .i64 q.fl) ∧ Below W.heap.size W a)) := Lib.hid fun a h => ⟨(P8.out.keep h).use.1, (P8.out.keep h).use.2.1, (P8.out.keep h).use.2.2.1, (h.cell (p := ⟨g, o + i * 3, none⟩) hg).trans d1, (h.cell (p := ⟨g, o + i * 3 + 1, none⟩) hg).trans d2, (h.cell (p := ⟨g, o + i * 3 + 2, none⟩) hg).trans d3, h⟩
  go_wp2_with fail
  rw [HWW.out]
  refine wp_region_noPanic ?_
  go_region_held3 (fun a => a.cell? ⟨w8.heap.size, 0, none⟩ = some (.string (strB q.nm)) ∧ a.cell? ⟨w8.heap.size, 1, none⟩ = some (.int .i64 q.xt) ∧ a.cell? ⟨w8.heap.size, 2, none⟩ = some (.int .i64 q.fl) ∧ a.cell? ⟨g, o + i * 3, none⟩ = some (.string (strB q.nm)) ∧ a.cell? ⟨g, o + i * 3 + 1, none⟩ = some (.int .i64 q.xt) ∧ a.cell? ⟨g, o + i * 3 + 2, none⟩ = some (.int .i64 q.fl) ∧ Below W.heap.size W a) (first | assumption | exact SB.out _ (since_d9 _))
    (first
      | (go_at_call 14; ((with_reducible refine (rsame9_any A2 A3 n2 c2 n3 c3 T T _ (Y8.out.keep (by assumption : _ ∧ _ ∧ _ ∧ _ ∧ _ ∧ _ ∧ Below W.heap.size W _).2.2.2.2.2.2) (Z8.out.keep (by assumption : _ ∧ _ ∧ _ ∧ _ ∧ _ ∧ _ ∧ Below W.heap.size W _).2.2.2.2.2.2) HT.out).mono ?_); rw [dsame_refl]; rintro ey wy ⟨rfl, bY⟩; have sy := SB.out _ (below_then (by assumption : _ ∧ _ ∧ _ ∧ _ ∧ _ ∧ _ ∧ Below W.heap.size W _).2.2.2.2.2.2 bY)))
      | (go_at_call 14; ((with_reducible refine (rsame9_any A4 _ n4 c4 n c l l _ (V8.out.keep (by assumption : _ ∧ _ ∧ _ ∧ _ ∧ _ ∧ _ ∧ Below W.heap.size W _).2.2.2.2.2.2) (L8.out.keep (by assumption : _ ∧ _ ∧ _ ∧ _ ∧ _ ∧ _ ∧ Below W.heap.size W _).2.2.2.2.2.2) (by omega)).mono ?_); rw [dsame_refl]; rintro ez wz ⟨rfl, bZ⟩; have sz := SB.out _ (below_then (by assumption : _ ∧ _ ∧ _ ∧ _ ∧ _ ∧ _ ∧ Below W.heap.size W _).2.2.2.2.2.2 bZ))))
  all_goals (refine NoPanic.normal ?_)
  all_goals (have BD := Lib.hid (below_then B8.out sz.2.2.2.2.2.2))
  all_goals go_wp2_with fail
  all_goals go_ret
  all_goals exact ⟨rfl, BD.out⟩
theorem mod_nat (a n : Nat) : (a : Int) % ((n : Int) + 1) = ((a % (n + 1) : Nat) : Int) := by rw [Int.natCast_emod]; rfl
theorem tmod_nat (a n : Nat) : (a : Int).tmod ((n : Int) + 1) = ((a % (n + 1) : Nat) : Int) := by rw [Int.tmod_eq_emod_of_nonneg (Int.natCast_nonneg a)]; exact mod_nat a n
theorem dcuts_any (A : Option Addr) (n c : Nat) (l : List Wr) (x y : Int) (nm : List UInt8) (w : World) (h : Wds w (.slice A n c) l) (hx : (Lit.int .u8 x).wf = true) (hy : (Lit.int .u8 y).wf = true) :
    Calls Try.prog 8 #[.agg #[.slice A n c, .int .u8 x, .int .u8 y, .string (strB nm)]] w fun e w' => e = .returned (.bool true) ∧ Below w.heap.size w w' := by
  obtain ⟨x0, x1⟩ := wf_u8 hx
  obtain ⟨y0, y1⟩ := wf_u8 hy
  obtain ⟨a, rfl⟩ := Int.eq_ofNat_of_zero_le x0
  obtain ⟨b, rfl⟩ := Int.eq_ofNat_of_zero_le y0
  cases f1 : dFew l 60 with
  | false => exact dcuts_1 A n c l a b nm w h f1
  | true =>
    cases hr : dRight l with
    | false => exact dcuts_2 A n c l a b nm w h f1 hr
    | true =>
      by_cases h60 : (60 : Int) < (nm.length : Int)
      · exact dcuts_3 A n c l a b nm w h f1 hr h60
      · have h60 : decide ((60 : Int) < (nm.length : Int)) = false := by simpa using h60
        obtain ⟨m, em⟩ : ∃ m, a % (n + 1) = m := ⟨_, rfl⟩
        obtain ⟨k, ek⟩ : ∃ k, b % (m + 1) = k := ⟨_, rfl⟩
        have hm1 := mod_nat a n
        have hm1T := tmod_nat a n
        have hm2 := mod_nat b m
        have hm2T := tmod_nat b m
        rw [em] at hm1 hm1T
        rw [ek] at hm2 hm2T
        have hmn : m ≤ n := by have := Nat.mod_lt a (show 0 < n + 1 by omega); omega
        have hkm : k ≤ m := by have := Nat.mod_lt b (show 0 < m + 1 by omega); omega
        cases hfi : findI (l.take m) nm with
        | none => exact dcuts_no A n c l a b nm w h m k _ (by omega) (by omega) f1 hr h60 hm1 hm1T hm2 hm2T hmn hkm rfl hfi
        | some i => exact dcuts_yes A n c l a b nm w h m k _ (by omega) (by omega) f1 hr h60 hm1 hm1T hm2 hm2T hmn hkm rfl i hfi
end Go.Proofs.Ytnjmhgbdhekmdaa
