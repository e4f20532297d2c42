/- The walk of DictTells. -/
import Derived.Test.YtnjmhgbdhekmdaaSetC
namespace Go.Proofs.Ytnjmhgbdhekmdaa
open Go.RowKit
set_option linter.unusedVariables false
set_option linter.unusedSimpArgs false

set_option maxRecDepth 100000 in
set_option maxHeartbeats 8000000 in
theorem dtells_1 (A A' : Option Addr) (n c n' c' : Nat) (l o : List Wr) (nm : List UInt8) (xt : Int) (w : World) (h : Wds w (.slice A n c) l) (h' : Wds w (.slice A' n' c') o) (f1 : dFew l 60 = false) :
    Calls Try.prog 3 #[.agg #[.slice A n c, .slice A' n' c', .string (strB nm), .int .i64 xt]] w fun e w' => e = .returned (.bool true) ∧ Below w.heap.size w w' := by
  have L0 := Lib.hid (h.keep (al_one w (.cells #[.slice A n c, .slice A' n' c', .string (strB nm), .int .i64 xt] 24)))
  have O0 := Lib.hid (h'.keep (al_one w (.cells #[.slice A n c, .slice A' n' c', .string (strB nm), .int .i64 xt] 24)))
  have B0 : Hid (Below w.heap.size w (w.alloc (.cells #[.slice A n c, .slice A' n' c', .string (strB nm), .int .i64 xt] 24))) := al_one _ _
  have hsz : (strB nm).size = nm.length := rfl
  clear h h'
  go_enter Try.func3, Try.ntmps3
  go_wp2_with fail
  refine (shown_any9 _).mono ?_
  rintro e w1 ⟨rfl, bb⟩
  have L1 := Lib.hid (L0.out.keep bb)
  have O1 := Lib.hid (O0.out.keep bb)
  have B1 := Lib.hid (below_then B0.out bb)
  clear bb L0 O0 B0
  go_wp2_with fail
  refine (rfew_any A n c l 60 _ L1.out (by omega)).mono ?_
  rw [f1]
  rintro e w2 ⟨rfl, bb⟩
  have L2 := Lib.hid (L1.out.keep bb)
  have O2 := Lib.hid (O1.out.keep bb)
  have B2 := Lib.hid (below_then B1.out bb)
  clear bb L1 O1 B1
  go_wp2_with fail
  go_ret
  exact ⟨rfl, B2.out⟩
set_option maxRecDepth 100000 in
set_option maxHeartbeats 8000000 in
theorem dtells_2 (A A' : Option Addr) (n c n' c' : Nat) (l o : List Wr) (nm : List UInt8) (xt : Int) (w : World) (h : Wds w (.slice A n c) l) (h' : Wds w (.slice A' n' c') o) (f1 : dFew l 60 = true) (f2 : dFew o 60 = false) :
    Calls Try.prog 3 #[.agg #[.slice A n c, .slice A' n' c', .string (strB nm), .int .i64 xt]] w fun e w' => e = .returned (.bool true) ∧ Below w.heap.size w w' := by
  have L0 := Lib.hid (h.keep (al_one w (.cells #[.slice A n c, .slice A' n' c', .string (strB nm), .int .i64 xt] 24)))
  have O0 := Lib.hid (h'.keep (al_one w (.cells #[.slice A n c, .slice A' n' c', .string (strB nm), .int .i64 xt] 24)))
  have B0 : Hid (Below w.heap.size w (w.alloc (.cells #[.slice A n c, .slice A' n' c', .string (strB nm), .int .i64 xt] 24))) := al_one _ _
  have hsz : (strB nm).size = nm.length := rfl
  clear h h'
  go_enter Try.func3, Try.ntmps3
  go_wp2_with fail
  refine (shown_any9 _).mono ?_
  rintro e w1 ⟨rfl, bb⟩
  have L1 := Lib.hid (L0.out.keep bb)
  have O1 := Lib.hid (O0.out.keep bb)
  have B1 := Lib.hid (below_then B0.out bb)
  clear bb L0 O0 B0
  go_wp2_with fail
  refine (rfew_any A n c l 60 _ L1.out (by omega)).mono ?_
  rw [f1]
  rintro e w2 ⟨rfl, bb⟩
  have L2 := Lib.hid (L1.out.keep bb)
  have O2 := Lib.hid (O1.out.keep bb)
  have B2 := Lib.hid (below_then B1.out bb)
  clear bb L1 O1 B1
  go_wp2_with fail
  refine (rfew_any A' n' c' o 60 _ O2.out (by omega)).mono ?_
  rw [f2]
  rintro e w3 ⟨rfl, bb⟩
  have L3 := Lib.hid (L2.out.keep bb)
  have O3 := Lib.hid (O2.out.keep bb)
  have B3 := Lib.hid (below_then B2.out bb)
  clear bb L2 O2 B2
  go_wp2_with fail
  go_ret
  exact ⟨rfl, B3.out⟩
set_option maxRecDepth 100000 in
set_option maxHeartbeats 8000000 in
theorem dtells_3 (A A' : Option Addr) (n c n' c' : Nat) (l o : List Wr) (nm : List UInt8) (xt : Int) (w : World) (h : Wds w (.slice A n c) l) (h' : Wds w (.slice A' n' c') o) (f1 : dFew l 60 = true) (f2 : dFew o 60 = true) (h60 : (60 : Int) < (nm.length : Int)) :
    Calls Try.prog 3 #[.agg #[.slice A n c, .slice A' n' c', .string (strB nm), .int .i64 xt]] w fun e w' => e = .returned (.bool true) ∧ Below w.heap.size w w' := by
  have L0 := Lib.hid (h.keep (al_one w (.cells #[.slice A n c, .slice A' n' c', .string (strB nm), .int .i64 xt] 24)))
  have O0 := Lib.hid (h'.keep (al_one w (.cells #[.slice A n c, .slice A' n' c', .string (strB nm), .int .i64 xt] 24)))
  have B0 : Hid (Below w.heap.size w (w.alloc (.cells #[.slice A n c, .slice A' n' c', .string (strB nm), .int .i64 xt] 24))) := al_one _ _
  have hsz : (strB nm).size = nm.length := rfl
  clear h h'
  go_enter Try.func3, Try.ntmps3
  go_wp2_with fail
  refine (shown_any9 _).mono ?_
  rintro e w1 ⟨rfl, bb⟩
  have L1 := Lib.hid (L0.out.keep bb)
  have O1 := Lib.hid (O0.out.keep bb)
  have B1 := Lib.hid (below_then B0.out bb)
  clear bb L0 O0 B0
  go_wp2_with fail
  refine (rfew_any A n c l 60 _ L1.out (by omega)).mono ?_
  rw [f1]
  rintro e w2 ⟨rfl, bb⟩
  have L2 := Lib.hid (L1.out.keep bb)
  have O2 := Lib.hid (O1.out.keep bb)
  have B2 := Lib.hid (below_then B1.out bb)
  clear bb L1 O1 B1
  go_wp2_with fail
  refine (rfew_any A' n' c' o 60 _ O2.out (by omega)).mono ?_
  rw [f2]
  rintro e w3 ⟨rfl, bb⟩
  have L3 := Lib.hid (L2.out.keep bb)
  have O3 := Lib.hid (O2.out.keep bb)
  have B3 := Lib.hid (below_then B2.out bb)
  clear bb L2 O2 B2
  go_wp2_with fail
  go_ret
  exact ⟨rfl, B3.out⟩
set_option maxRecDepth 100000 in
set_option maxHeartbeats 8000000 in
theorem dtells_false (A A' : Option Addr) (n c n' c' : Nat) (l o : List Wr) (nm : List UInt8) (xt : Int) (w : World) (h : Wds w (.slice A n c) l) (h' : Wds w (.slice A' n' c') o) (f1 : dFew l 60 = true) (f2 : dFew o 60 = true) (h60 : decide ((60 : Int) < (nm.length : Int)) = false) (hr : dRight l = false) :
    Calls Try.prog 3 #[.agg #[.slice A n c, .slice A' n' c', .string (strB nm), .int .i64 xt]] w fun e w' => e = .returned (.bool true) ∧ Below w.heap.size w w' := by
  have hlen := (few_facts f1).1
  have hn : n ≤ 60 := by have := h.len; omega
  have hnm0 : ((nm.length : Nat) : Int) ≤ 60 := by simpa using h60
  have hnm : nm.length ≤ 60 := by omega
  clear hnm0
  obtain ⟨SS, eS⟩ : ∃ b, dSame l o = b := ⟨_, rfl⟩
  have HS := Lib.hid eS
  clear eS
  have L0 := Lib.hid (h.keep (al_one w (.cells #[.slice A n c, .slice A' n' c', .string (strB nm), .int .i64 xt] 24)))
  have O0 := Lib.hid (h'.keep (al_one w (.cells #[.slice A n c, .slice A' n' c', .string (strB nm), .int .i64 xt] 24)))
  have B0 : Hid (Below w.heap.size w (w.alloc (.cells #[.slice A n c, .slice A' n' c', .string (strB nm), .int .i64 xt] 24))) := al_one _ _
  have hsz : (strB nm).size = nm.length := rfl
  clear h h'
  go_enter Try.func3, Try.ntmps3
  go_wp2_with fail
  refine (shown_any9 _).mono ?_
  rintro e w1 ⟨rfl, bb⟩
  have L1 := Lib.hid (L0.out.keep bb)
  have O1 := Lib.hid (O0.out.keep bb)
  have B1 := Lib.hid (below_then B0.out bb)
  clear bb L0 O0 B0
  go_wp2_with fail
  refine (rfew_any A n c l 60 _ L1.out (by omega)).mono ?_
  rw [f1]
  rintro e w2 ⟨rfl, bb⟩
  have L2 := Lib.hid (L1.out.keep bb)
  have O2 := Lib.hid (O1.out.keep bb)
  have B2 := Lib.hid (below_then B1.out bb)
  clear bb L1 O1 B1
  go_wp2_with fail
  refine (rfew_any A' n' c' o 60 _ O2.out (by omega)).mono ?_
  rw [f2]
  rintro e w3 ⟨rfl, bb⟩
  have L3 := Lib.hid (L2.out.keep bb)
  have O3 := Lib.hid (O2.out.keep bb)
  have B3 := Lib.hid (below_then B2.out bb)
  clear bb L2 O2 B2
  go_wp2_with fail
  refine (rright_any A n c l _ L3.out (by omega)).mono ?_
  rw [hr]
  rintro e w4 ⟨rfl, bb⟩
  have L4 := Lib.hid (L3.out.keep bb)
  have O4 := Lib.hid (O3.out.keep bb)
  have B4 := Lib.hid (below_then B3.out bb)
  clear bb L3 O3 B3
  go_wp2_with fail
  refine (dright_any A n c l _ L4.out (by omega)).mono ?_
  rw [hr]
  rintro e w5 ⟨rfl, bb⟩
  have L5 := Lib.hid (L4.out.keep bb)
  have O5 := Lib.hid (O4.out.keep bb)
  have B5 := Lib.hid (below_then B4.out bb)
  clear bb L4 O4 B4
  go_wp2_with fail
  refine (dsame_any A A' n c n' c' l o _ L5.out O5.out (by omega)).mono ?_
  rw [HS.out]
  rintro e w6 ⟨rfl, bb⟩
  have L6 := Lib.hid (L5.out.keep bb)
  have O6 := Lib.hid (O5.out.keep bb)
  have B6 := Lib.hid (below_then B5.out bb)
  clear bb L5 O5 B5
  go_wp2_with fail
  refine (rsame9_any A A' n c n' c' l o _ L6.out O6.out (by omega)).mono ?_
  rw [HS.out]
  rintro e w7 ⟨rfl, bb⟩
  have L7 := Lib.hid (L6.out.keep bb)
  have O7 := Lib.hid (O6.out.keep bb)
  have B7 := Lib.hid (below_then B6.out bb)
  clear bb L6 O6 B6
  clear O7
  go_wp2_with fail
  go_ret
  exact ⟨rfl, B7.out⟩
set_option maxRecDepth 100000 in
set_option maxHeartbeats 8000000 in
theorem dtells_true (A A' : Option Addr) (n c n' c' : Nat) (l o : List Wr) (nm : List UInt8) (xt : Int) (w : World) (h : Wds w (.slice A n c) l) (h' : Wds w (.slice A' n' c') o) (f1 : dFew l 60 = true) (f2 : dFew o 60 = true) (h60 : decide ((60 : Int) < (nm.length : Int)) = false) (hr : dRight l = true) :
    Calls Try.prog 3 #[.agg #[.slice A n c, .slice A' n' c', .string (strB nm), .int .i64 xt]] w fun e w' => e = .returned (.bool true) ∧ Below w.heap.size w w' := by
  have hlen := (few_facts f1).1
  have hn : n ≤ 60 := by have := h.len; omega
  have hnm0 : ((nm.length : Nat) : Int) ≤ 60 := by simpa using h60
  have hnm : nm.length ≤ 60 := by omega
  clear hnm0
  obtain ⟨SS, eS⟩ : ∃ b, dSame l o = b := ⟨_, rfl⟩
  have HS := Lib.hid eS
  clear eS
  obtain ⟨q1, e1⟩ : ∃ q, gotW l (findI l nm) = q := ⟨_, rfl⟩
  obtain ⟨i1, e2⟩ : ∃ q, gotI (findI l nm) = q := ⟨_, rfl⟩
  obtain ⟨b1, e3⟩ : ∃ q, (findI l nm).isSome = q := ⟨_, rfl⟩
  obtain ⟨q2, e4⟩ : ∃ q, gotW l (ofI l xt) = q := ⟨_, rfl⟩
  obtain ⟨i2, e5⟩ : ∃ q, gotI (ofI l xt) = q := ⟨_, rfl⟩
  obtain ⟨b2, e6⟩ : ∃ q, (ofI l xt).isSome = q := ⟨_, rfl⟩
  have HF := Lib.hid e1
  have HFi := Lib.hid e2
  have HFb := Lib.hid e3
  have HO := Lib.hid e4
  have HOi := Lib.hid e5
  have HOb := Lib.hid e6
  have HFL : Hid (∀ q ∈ l, 0 ≤ q.fl ∧ q.fl ≤ 7) := fun q hq => (right_all hr q hq).2
  have HNL : Hid (∀ q ∈ l, q.nm.length ≤ 100000) := fun q hq => by have := (few_facts f1).2 q hq; omega
  clear e1 e2 e3 e4 e5 e6
  have L0 := Lib.hid (h.keep (al_one w (.cells #[.slice A n c, .slice A' n' c', .string (strB nm), .int .i64 xt] 24)))
  have O0 := Lib.hid (h'.keep (al_one w (.cells #[.slice A n c, .slice A' n' c', .string (strB nm), .int .i64 xt] 24)))
  have B0 : Hid (Below w.heap.size w (w.alloc (.cells #[.slice A n c, .slice A' n' c', .string (strB nm), .int .i64 xt] 24))) := al_one _ _
  have hsz : (strB nm).size = nm.length := rfl
  clear h h'
  go_enter Try.func3, Try.ntmps3
  go_wp2_with fail
  refine (shown_any9 _).mono ?_
  rintro e w1 ⟨rfl, bb⟩
  have L1 := Lib.hid (L0.out.keep bb)
  have O1 := Lib.hid (O0.out.keep bb)
  have B1 := Lib.hid (below_then B0.out bb)
  clear bb L0 O0 B0
  go_wp2_with fail
  refine (rfew_any A n c l 60 _ L1.out (by omega)).mono ?_
  rw [f1]
  rintro e w2 ⟨rfl, bb⟩
  have L2 := Lib.hid (L1.out.keep bb)
  have O2 := Lib.hid (O1.out.keep bb)
  have B2 := Lib.hid (below_then B1.out bb)
  clear bb L1 O1 B1
  go_wp2_with fail
  refine (rfew_any A' n' c' o 60 _ O2.out (by omega)).mono ?_
  rw [f2]
  rintro e w3 ⟨rfl, bb⟩
  have L3 := Lib.hid (L2.out.keep bb)
  have O3 := Lib.hid (O2.out.keep bb)
  have B3 := Lib.hid (below_then B2.out bb)
  clear bb L2 O2 B2
  go_wp2_with fail
  refine (rright_any A n c l _ L3.out (by omega)).mono ?_
  rw [hr]
  rintro e w4 ⟨rfl, bb⟩
  have L4 := Lib.hid (L3.out.keep bb)
  have O4 := Lib.hid (O3.out.keep bb)
  have B4 := Lib.hid (below_then B3.out bb)
  clear bb L3 O3 B3
  go_wp2_with fail
  refine (dright_any A n c l _ L4.out (by omega)).mono ?_
  rw [hr]
  rintro e w5 ⟨rfl, bb⟩
  have L5 := Lib.hid (L4.out.keep bb)
  have O5 := Lib.hid (O4.out.keep bb)
  have B5 := Lib.hid (below_then B4.out bb)
  clear bb L4 O4 B4
  go_wp2_with fail
  refine (dsame_any A A' n c n' c' l o _ L5.out O5.out (by omega)).mono ?_
  rw [HS.out]
  rintro e w6 ⟨rfl, bb⟩
  have L6 := Lib.hid (L5.out.keep bb)
  have O6 := Lib.hid (O5.out.keep bb)
  have B6 := Lib.hid (below_then B5.out bb)
  clear bb L5 O5 B5
  go_wp2_with fail
  refine (rsame9_any A A' n c n' c' l o _ L6.out O6.out (by omega)).mono ?_
  rw [HS.out]
  rintro e w7 ⟨rfl, bb⟩
  have L7 := Lib.hid (L6.out.keep bb)
  have O7 := Lib.hid (O6.out.keep bb)
  have B7 := Lib.hid (below_then B6.out bb)
  clear bb L6 O6 B6
  clear O7
  go_wp2_with fail
  refine (dfind_any A n c l nm _ L7.out (by omega) HFL.out HNL.out (by omega)).mono ?_
  rw [HF.out, HFi.out, HFb.out]
  rintro e w8 ⟨rfl, bb⟩
  have Lp := Lib.hid (L7.out.keep bb)
  have L8 := Lib.hid (Lp.out.keep (al_one _ (.cells #[.string (strB q1.nm), .int .i64 q1.xt, .int .i64 q1.fl] 30)))
  have B8 := Lib.hid (below_then (below_then B7.out bb) (al_one _ (.cells #[.string (strB q1.nm), .int .i64 q1.xt, .int .i64 q1.fl] 30)))
  have Wa8 := Lib.hid (wbox_new w8 q1)
  clear bb L7 B7
  go_wp2_with fail
  refine (rfind_any A n c l nm _ L8.out (by omega) HFL.out HNL.out (by omega)).mono ?_
  rw [HF.out, HFi.out, HFb.out]
  rintro e w9 ⟨rfl, bb⟩
  clear Lp
  have Lp := Lib.hid (L8.out.keep bb)
  have L9 := Lib.hid (Lp.out.keep (al_one _ (.cells #[.string (strB q1.nm), .int .i64 q1.xt, .int .i64 q1.fl] 30)))
  have Wap := Lib.hid (Wa8.out.keep bb)
  have Wa9 := Lib.hid (Wap.out.keep (al_one _ (.cells #[.string (strB q1.nm), .int .i64 q1.xt, .int .i64 q1.fl] 30)))
  have B9 := Lib.hid (below_then (below_then B8.out bb) (al_one _ (.cells #[.string (strB q1.nm), .int .i64 q1.xt, .int .i64 q1.fl] 30)))
  have Wb9 := Lib.hid (wbox_new w9 q1)
  clear bb L8 Wa8 B8
  go_wp2_with fail
  refine (dof_any A n c l xt _ L9.out (by omega)).mono ?_
  rw [HO.out, HOi.out, HOb.out]
  rintro e w10 ⟨rfl, bb⟩
  clear Lp Wap
  have Lp := Lib.hid (L9.out.keep bb)
  have L10 := Lib.hid (Lp.out.keep (al_one _ (.cells #[.string (strB q2.nm), .int .i64 q2.xt, .int .i64 q2.fl] 30)))
  have Wap := Lib.hid (Wa9.out.keep bb)
  have Wa10 := Lib.hid (Wap.out.keep (al_one _ (.cells #[.string (strB q2.nm), .int .i64 q2.xt, .int .i64 q2.fl] 30)))
  have Wbp := Lib.hid (Wb9.out.keep bb)
  have Wb10 := Lib.hid (Wbp.out.keep (al_one _ (.cells #[.string (strB q2.nm), .int .i64 q2.xt, .int .i64 q2.fl] 30)))
  have B10 := Lib.hid (below_then (below_then B9.out bb) (al_one _ (.cells #[.string (strB q2.nm), .int .i64 q2.xt, .int .i64 q2.fl] 30)))
  have Wc10 := Lib.hid (wbox_new w10 q2)
  clear bb L9 Wa9 Wb9 B9
  go_wp2_with fail
  refine (rof_any A n c l xt _ L10.out (by omega)).mono ?_
  rw [HO.out, HOi.out, HOb.out]
  rintro e w11 ⟨rfl, bb⟩
  clear Lp Wap Wbp
  have Lp := Lib.hid (L10.out.keep bb)
  have L11 := Lib.hid (Lp.out.keep (al_one _ (.cells #[.string (strB q2.nm), .int .i64 q2.xt, .int .i64 q2.fl] 30)))
  have Wap := Lib.hid (Wa10.out.keep bb)
  have Wa11 := Lib.hid (Wap.out.keep (al_one _ (.cells #[.string (strB q2.nm), .int .i64 q2.xt, .int .i64 q2.fl] 30)))
  have Wbp := Lib.hid (Wb10.out.keep bb)
  have Wb11 := Lib.hid (Wbp.out.keep (al_one _ (.cells #[.string (strB q2.nm), .int .i64 q2.xt, .int .i64 q2.fl] 30)))
  have Wcp := Lib.hid (Wc10.out.keep bb)
  have Wc11 := Lib.hid (Wcp.out.keep (al_one _ (.cells #[.string (strB q2.nm), .int .i64 q2.xt, .int .i64 q2.fl] 30)))
  have B11 := Lib.hid (below_then (below_then B10.out bb) (al_one _ (.cells #[.string (strB q2.nm), .int .i64 q2.xt, .int .i64 q2.fl] 30)))
  have Wd11 := Lib.hid (wbox_new w11 q2)
  clear bb L10 Wa10 Wb10 Wc10 B10
  clear L11 Lp
  obtain ⟨cWa0, cWa1, cWa2, _, _, _⟩ := Wap.out.use
  have lWa := Wap.out.lt
  obtain ⟨cWb0, cWb1, cWb2, _, _, _⟩ := Wbp.out.use
  have lWb := Wbp.out.lt
  obtain ⟨cWc0, cWc1, cWc2, _, _, _⟩ := Wcp.out.use
  have lWc := Wcp.out.lt
  obtain ⟨cWd0, cWd1, cWd2, _, _, _⟩ := Wd11.out.use
  go_wp2_with fail
  go_ret
  exact ⟨rfl, B11.out⟩
theorem dtells_any (A A' : Option Addr) (n c n' c' : Nat) (l o : List Wr) (nm : List UInt8) (xt : Int) (w : World) (h : Wds w (.slice A n c) l) (h' : Wds w (.slice A' n' c') o) :
    Calls Try.prog 3 #[.agg #[.slice A n c, .slice A' n' c', .string (strB nm), .int .i64 xt]] w fun e w' => e = .returned (.bool true) ∧ Below w.heap.size w w' := by
  cases f1 : dFew l 60 with
  | false => exact dtells_1 A A' n c n' c' l o nm xt w h h' f1
  | true =>
    cases f2 : dFew o 60 with
    | false => exact dtells_2 A A' n c n' c' l o nm xt w h h' f1 f2
    | true =>
      by_cases h60 : (60 : Int) < (nm.length : Int)
      · exact dtells_3 A A' n c n' c' l o nm xt w h h' f1 f2 h60
      · cases hr : dRight l with
        | false => exact dtells_false A A' n c n' c' l o nm xt w h h' f1 f2 (by simpa using h60) hr
        | true => exact dtells_true A A' n c n' c' l o nm xt w h h' f1 f2 (by simpa using h60) hr
end Go.Proofs.Ytnjmhgbdhekmdaa
