/- The walk of PicSteps. -/
import Derived.Test.YtphbeghflbkpgaaSetD
namespace Go.Proofs.Ytphbeghflbkpgaa
open Go.RowKit
set_option linter.unusedVariables false
set_option linter.unusedSimpArgs false

theorem steps_fell {o : Bool} {l : List UInt8} {lo hi b : Int} (hb : baseB b = true) (hk : pOpen o l = false) : digL o l lo hi b = l ∧ digC o l b = -17 ∧ allL o l lo hi b = l ∧ allC o l lo hi b = -17 := by
  obtain ⟨h1, _, _, h4⟩ := dig_full (o := o) (l := l) hb hk lo hi
  have hno : allOK o l lo hi b = false := by
    have := (pOpen_no _ _).1 hk
    have h1 := us_one b.toNat (pairN lo hi)
    unfold allOK figs
    rw [hb]
    simp
    intro h
    simp [h] at this
    omega
  refine ⟨h1, h4, pall_no hno, ?_⟩
  unfold allC; rw [if_pos hb, hno]; rfl
theorem steps_last {o : Bool} {l : List UInt8} {lo hi b : Int} (hb : baseB b = true) (hk : pOpen o l = true) (h0 : pairN (digLo o l lo hi b) (digHi o l lo hi b) = 0) : allL o l lo hi b = digL o l lo hi b ∧ allC o l lo hi b = 0 := by
  have hi' := inv_start (o := o) (l := l) (lo := lo) (hi := hi) (b := b) (by have := ((pOpen_iff _ _).1 hk).2; omega)
  have hc : digC o l b = 0 := (dig_ok hb hk lo hi).2.2.2
  rw [h0, hc] at hi'
  obtain ⟨h1, h2⟩ := AllInv.done hi'
  exact ⟨h1.symm, h2⟩
theorem steps_on {o : Bool} {l : List UInt8} {lo hi b : Int} (hb : baseB b = true) (hk : pOpen o l = true) (h0 : pairN (digLo o l lo hi b) (digHi o l lo hi b) ≠ 0) :
    allC o (digL o l lo hi b) (digLo o l lo hi b) (digHi o l lo hi b) b = allC o l lo hi b ∧ (allC o l lo hi b = 0 → allL o (digL o l lo hi b) (digLo o l lo hi b) (digHi o l lo hi b) b = allL o l lo hi b) := by
  obtain ⟨h2, h36⟩ := base_nat hb
  obtain ⟨e1, e2, e3, _⟩ := dig_ok (o := o) (l := l) hb hk lo hi
  rw [e2, e3, pair_back (div_lt _ _ (pairN_lt _ _))] at h0
  have hge : b.toNat ≤ pairN lo hi := by
    rcases Nat.lt_or_ge (pairN lo hi) b.toNat with h' | h'
    · exact absurd ((Nat.div_eq_zero_iff_lt (by omega)).2 h') h0
    · exact h'
  have hf : figs lo hi b = figs (lowI (pairN lo hi / b.toNat)) (highI (pairN lo hi / b.toNat)) b ++ [digU lo hi b] := by
    unfold figs
    rw [pair_back (div_lt _ _ (pairN_lt _ _)), usF_big h2 hge]
    rfl
  rw [e1, e2, e3]
  obtain ⟨F, eF⟩ : ∃ F, figs (lowI (pairN lo hi / b.toNat)) (highI (pairN lo hi / b.toNat)) b = F := ⟨_, rfl⟩
  obtain ⟨d, ed⟩ : ∃ d, digU lo hi b = d := ⟨_, rfl⟩
  have hok : allOK o (l ++ [d]) (lowI (pairN lo hi / b.toNat)) (highI (pairN lo hi / b.toNat)) b = allOK o l lo hi b := by
    unfold allOK
    rw [hf, eF, ed, hb]
    simp
    rw [show l.length + 1 + F.length = l.length + (F.length + 1) by omega]
  rw [ed]
  constructor
  · unfold allC; rw [hok]
  · intro h
    have hy : allOK o l lo hi b = true := by
      cases hy : allOK o l lo hi b with
      | true => rfl
      | false => unfold allC at h; rw [if_pos hb, hy] at h; simp at h
    unfold allL
    rw [hok, if_pos hy, if_pos hy, hf, eF, ed]
    simp
set_option maxRecDepth 100000 in
set_option maxHeartbeats 8000000 in
theorem steps_no (A : Option Addr) (n c : Nat) (o : Bool) (l : List UInt8) (lo hi b : Int) (w : World) (h : Byt w (.slice A n c) l) (hlo : cellR lo) (hhi : cellR hi) (hb : cellR b) (hr : pRight o l = false) :
    Calls Try.prog 8 #[.agg #[.slice A n c, .bool o, .int .i64 lo, .int .i64 hi, .int .i64 b]] w fun e w' => e = .returned (.bool true) ∧ Below w.heap.size w w' := by
  have P0 : Hid (PAt (w.heap.size + 1) A n c o l ((w.alloc (.cells #[.slice A n c, .bool o, .int .i64 lo, .int .i64 hi, .int .i64 b] 57)).alloc (.cells #[.slice A n c, .bool o] 24))) := start7 h _
  have B0 : Hid (Below w.heap.size w ((w.alloc (.cells #[.slice A n c, .bool o, .int .i64 lo, .int .i64 hi, .int .i64 b] 57)).alloc (.cells #[.slice A n c, .bool o] 24))) := al_two _ _ _
  clear h hlo hhi hb
  go_enter Try.func8, Try.ntmps8
  go_wp2_with fail
  refine (shown_any7 _).mono ?_
  rintro e w1 ⟨rfl, bb⟩
  have P1 := Lib.hid (P0.out.keep bb)
  have B1 := Lib.hid (below_then B0.out bb)
  clear bb P0 B0
  obtain ⟨cP0, cP1⟩ := P1.out.use
  go_wp2_with fail
  refine (rright_any _ _ _ _ _ _ P1.out.byt).mono ?_
  rw [hr]
  rintro e w2 ⟨rfl, bb⟩
  have P2 := Lib.hid (P1.out.keep bb)
  have B2 := Lib.hid (below_then B1.out bb)
  clear bb cP0 cP1 P1 B1
  go_wp2_with fail
  go_ret
  exact ⟨rfl, B2.out⟩
set_option maxRecDepth 100000 in
set_option maxHeartbeats 8000000 in
theorem steps_lt (A : Option Addr) (n c : Nat) (o : Bool) (l : List UInt8) (lo hi b : Int) (w : World) (h : Byt w (.slice A n c) l) (hlo : cellR lo) (hhi : cellR hi) (hb : cellR b) (hr : pRight o l = true) (h1 : b < 2) :
    Calls Try.prog 8 #[.agg #[.slice A n c, .bool o, .int .i64 lo, .int .i64 hi, .int .i64 b]] w fun e w' => e = .returned (.bool true) ∧ Below w.heap.size w w' := by
  have P0 : Hid (PAt (w.heap.size + 1) A n c o l ((w.alloc (.cells #[.slice A n c, .bool o, .int .i64 lo, .int .i64 hi, .int .i64 b] 57)).alloc (.cells #[.slice A n c, .bool o] 24))) := start7 h _
  have B0 : Hid (Below w.heap.size w ((w.alloc (.cells #[.slice A n c, .bool o, .int .i64 lo, .int .i64 hi, .int .i64 b] 57)).alloc (.cells #[.slice A n c, .bool o] 24))) := al_two _ _ _
  clear h hlo hhi hb
  go_enter Try.func8, Try.ntmps8
  go_wp2_with fail
  refine (shown_any7 _).mono ?_
  rintro e w1 ⟨rfl, bb⟩
  have P1 := Lib.hid (P0.out.keep bb)
  have B1 := Lib.hid (below_then B0.out bb)
  clear bb P0 B0
  obtain ⟨cP0, cP1⟩ := P1.out.use
  go_wp2_with fail
  refine (rright_any _ _ _ _ _ _ P1.out.byt).mono ?_
  rw [hr]
  rintro e w2 ⟨rfl, bb⟩
  have P2 := Lib.hid (P1.out.keep bb)
  have B2 := Lib.hid (below_then B1.out bb)
  clear bb cP0 cP1 P1 B1
  go_wp2_with fail
  go_ret
  exact ⟨rfl, B2.out⟩
set_option maxRecDepth 100000 in
set_option maxHeartbeats 8000000 in
theorem steps_gt (A : Option Addr) (n c : Nat) (o : Bool) (l : List UInt8) (lo hi b : Int) (w : World) (h : Byt w (.slice A n c) l) (hlo : cellR lo) (hhi : cellR hi) (hb : cellR b) (hr : pRight o l = true) (h1 : decide (b < 2) = false) (h2 : 36 < b) :
    Calls Try.prog 8 #[.agg #[.slice A n c, .bool o, .int .i64 lo, .int .i64 hi, .int .i64 b]] w fun e w' => e = .returned (.bool true) ∧ Below w.heap.size w w' := by
  have P0 : Hid (PAt (w.heap.size + 1) A n c o l ((w.alloc (.cells #[.slice A n c, .bool o, .int .i64 lo, .int .i64 hi, .int .i64 b] 57)).alloc (.cells #[.slice A n c, .bool o] 24))) := start7 h _
  have B0 : Hid (Below w.heap.size w ((w.alloc (.cells #[.slice A n c, .bool o, .int .i64 lo, .int .i64 hi, .int .i64 b] 57)).alloc (.cells #[.slice A n c, .bool o] 24))) := al_two _ _ _
  clear h hlo hhi hb
  go_enter Try.func8, Try.ntmps8
  go_wp2_with fail
  refine (shown_any7 _).mono ?_
  rintro e w1 ⟨rfl, bb⟩
  have P1 := Lib.hid (P0.out.keep bb)
  have B1 := Lib.hid (below_then B0.out bb)
  clear bb P0 B0
  obtain ⟨cP0, cP1⟩ := P1.out.use
  go_wp2_with fail
  refine (rright_any _ _ _ _ _ _ P1.out.byt).mono ?_
  rw [hr]
  rintro e w2 ⟨rfl, bb⟩
  have P2 := Lib.hid (P1.out.keep bb)
  have B2 := Lib.hid (below_then B1.out bb)
  clear bb cP0 cP1 P1 B1
  go_wp2_with fail
  go_ret
  exact ⟨rfl, B2.out⟩
set_option maxRecDepth 100000 in
set_option maxHeartbeats 8000000 in
theorem steps_fell_walk (A : Option Addr) (n c : Nat) (o : Bool) (l : List UInt8) (lo hi b : Int) (w : World) (h : Byt w (.slice A n c) l) (hlo : cellR lo) (hhi : cellR hi) (hb : cellR b) (hr : pRight o l = true) (hbb : baseB b = true) (hk : pOpen o l = false) :
    Calls Try.prog 8 #[.agg #[.slice A n c, .bool o, .int .i64 lo, .int .i64 hi, .int .i64 b]] w fun e w' => e = .returned (.bool true) ∧ Below w.heap.size w w' := by
  have P0 : Hid (PAt (w.heap.size + 1) A n c o l ((w.alloc (.cells #[.slice A n c, .bool o, .int .i64 lo, .int .i64 hi, .int .i64 b] 57)).alloc (.cells #[.slice A n c, .bool o] 24))) := start7 h _
  have B0 : Hid (Below w.heap.size w ((w.alloc (.cells #[.slice A n c, .bool o, .int .i64 lo, .int .i64 hi, .int .i64 b] 57)).alloc (.cells #[.slice A n c, .bool o] 24))) := al_two _ _ _
  have hm : l.length ≤ 1000 := by have := ((pRight_iff _ _).1 hr).1; omega
  have HLO := Lib.hid hlo
  have HHI := Lib.hid hhi
  have HBB := Lib.hid hb
  have h2 : decide (b < 2) = false := by have := (baseB_iff _).1 hbb; simp; omega
  have h36 : decide (36 < b) = false := by have := (baseB_iff _).1 hbb; simp; omega
  obtain ⟨q1, q2, q3, q4⟩ := steps_fell (o := o) (l := l) (lo := lo) (hi := hi) hbb hk
  have HX2 := Lib.hid q1
  have HC2 := Lib.hid q2
  have HX3 := Lib.hid q3
  have HC3 := Lib.hid q4
  obtain ⟨L2, eL2⟩ : ∃ x, digLo o l lo hi b = x := ⟨_, rfl⟩
  have HL2 := Lib.hid eL2
  obtain ⟨H2, eH2⟩ : ∃ x, digHi o l lo hi b = x := ⟨_, rfl⟩
  have HH2 := Lib.hid eH2
  clear h hlo hhi hb q1 q2 q3 q4 hk hbb eL2 eH2
  go_enter Try.func8, Try.ntmps8
  go_wp2_with fail
  refine (shown_any7 _).mono ?_
  rintro e w1 ⟨rfl, bb⟩
  have P1 := Lib.hid (P0.out.keep bb)
  have B1 := Lib.hid (below_then B0.out bb)
  clear bb P0 B0
  obtain ⟨cP0, cP1⟩ := P1.out.use
  go_wp2_with fail
  refine (rright_any _ _ _ _ _ _ P1.out.byt).mono ?_
  rw [hr]
  rintro e w2 ⟨rfl, bb⟩
  have P2 := Lib.hid (P1.out.keep bb)
  have B2 := Lib.hid (below_then B1.out bb)
  clear bb cP0 cP1 P1 B1
  obtain ⟨cP0, cP1⟩ := P2.out.use
  go_wp2_with fail
  refine (dig_any _ _ _ _ _ lo hi b _ P2.out.byt hm HLO.out HHI.out HBB.out).mono ?_
  rw [HX2.out, HL2.out, HH2.out, HC2.out]
  rintro e w3 ⟨A1, n1, c1, rfl, hy, bb⟩
  have Pp := Lib.hid (P2.out.keep bb)
  have P3 := Lib.hid (Pp.out.keep (al_one _ (.cells #[.slice A1 n1 c1, .bool o] 24)))
  have B3 := Lib.hid (below_then (below_then B2.out bb) (al_one _ (.cells #[.slice A1 n1 c1, .bool o] 24)))
  have X3 := Lib.hid (pat_new (o := o) hy)
  clear bb cP0 cP1 P2 B2 hy
  obtain ⟨cP0, cP1⟩ := Pp.out.use
  have lP := Pp.out.lt
  go_wp2_with fail
  refine (all_any _ _ _ _ _ lo hi b _ P3.out.byt hm HLO.out HHI.out HBB.out).mono ?_
  rw [HX3.out, HC3.out]
  rintro e w4 ⟨A2, n2, c2, rfl, hy, bb⟩
  clear Pp
  have Pp := Lib.hid (P3.out.keep bb)
  have P4 := Lib.hid (Pp.out.keep (al_one _ (.cells #[.slice A2 n2 c2, .bool o] 24)))
  have Xp := Lib.hid (X3.out.keep bb)
  have X4 := Lib.hid (Xp.out.keep (al_one _ (.cells #[.slice A2 n2 c2, .bool o] 24)))
  have B4 := Lib.hid (below_then (below_then B3.out bb) (al_one _ (.cells #[.slice A2 n2 c2, .bool o] 24)))
  have Y4 := Lib.hid (pat_new (o := o) hy)
  clear bb cP0 cP1 lP P3 X3 B3 hy
  obtain ⟨cX0, cX1⟩ := Xp.out.use
  have lX := Xp.out.lt
  obtain ⟨cP0, cP1⟩ := Pp.out.use
  have lP := Pp.out.lt
  go_wp2_with fail
  refine (rsame_any _ _ _ _ _ _ o o l l _ Y4.out.byt P4.out.byt).mono ?_
  rw [psame_refl]
  rintro e w5 ⟨rfl, bb⟩
  clear Pp Xp
  have P5 := Lib.hid (P4.out.keep bb)
  have X5 := Lib.hid (X4.out.keep bb)
  have Y5 := Lib.hid (Y4.out.keep bb)
  have B5 := Lib.hid (below_then B4.out bb)
  clear bb cX0 cX1 lX cP0 cP1 lP P4 X4 Y4 B4
  obtain ⟨cX0, cX1⟩ := X5.out.use
  obtain ⟨cY0, cY1⟩ := Y5.out.use
  obtain ⟨cP0, cP1⟩ := P5.out.use
  go_wp2_with fail
  refine (rsame_any _ _ _ _ _ _ o o l l _ X5.out.byt P5.out.byt).mono ?_
  rw [psame_refl]
  rintro e w6 ⟨rfl, bb⟩
  have P6 := Lib.hid (P5.out.keep bb)
  have X6 := Lib.hid (X5.out.keep bb)
  have Y6 := Lib.hid (Y5.out.keep bb)
  have B6 := Lib.hid (below_then B5.out bb)
  clear bb cX0 cX1 cY0 cY1 cP0 cP1 P5 X5 Y5 B5
  clear P6
  clear X6
  clear Y6
  go_wp2_with fail
  go_ret
  exact ⟨rfl, B6.out⟩
set_option maxRecDepth 100000 in
set_option maxHeartbeats 8000000 in
theorem steps_last_walk (A : Option Addr) (n c : Nat) (o : Bool) (l : List UInt8) (lo hi b : Int) (w : World) (h : Byt w (.slice A n c) l) (hlo : cellR lo) (hhi : cellR hi) (hb : cellR b) (hr : pRight o l = true) (hbb : baseB b = true) (hk : pOpen o l = true) (q1 : digLo o l lo hi b = 0) (q2 : digHi o l lo hi b = 0) :
    Calls Try.prog 8 #[.agg #[.slice A n c, .bool o, .int .i64 lo, .int .i64 hi, .int .i64 b]] w fun e w' => e = .returned (.bool true) ∧ Below w.heap.size w w' := by
  have P0 : Hid (PAt (w.heap.size + 1) A n c o l ((w.alloc (.cells #[.slice A n c, .bool o, .int .i64 lo, .int .i64 hi, .int .i64 b] 57)).alloc (.cells #[.slice A n c, .bool o] 24))) := start7 h _
  have B0 : Hid (Below w.heap.size w ((w.alloc (.cells #[.slice A n c, .bool o, .int .i64 lo, .int .i64 hi, .int .i64 b] 57)).alloc (.cells #[.slice A n c, .bool o] 24))) := al_two _ _ _
  have hm : l.length ≤ 1000 := by have := ((pRight_iff _ _).1 hr).1; omega
  have HLO := Lib.hid hlo
  have HHI := Lib.hid hhi
  have HBB := Lib.hid hb
  have h2 : decide (b < 2) = false := by have := (baseB_iff _).1 hbb; simp; omega
  have h36 : decide (36 < b) = false := by have := (baseB_iff _).1 hbb; simp; omega
  obtain ⟨q3, q4⟩ := steps_last (o := o) (l := l) (lo := lo) (hi := hi) hbb hk (by rw [q1, q2]; decide +kernel)
  have HL2 := Lib.hid q1
  have HH2 := Lib.hid q2
  have HC2 := Lib.hid (dig_ok (o := o) (l := l) hbb hk lo hi).2.2.2
  have HC3 := Lib.hid q4
  obtain ⟨X3, eX3⟩ : ∃ x, allL o l lo hi b = x := ⟨_, rfl⟩
  have HX3 := Lib.hid eX3
  have HX2 : Hid (digL o l lo hi b = X3) := q3.symm.trans eX3
  clear h hlo hhi hb q1 q2 q3 q4 hk hbb eX3
  go_enter Try.func8, Try.ntmps8
  go_wp2_with fail
  refine (shown_any7 _).mono ?_
  rintro e w1 ⟨rfl, bb⟩
  have P1 := Lib.hid (P0.out.keep bb)
  have B1 := Lib.hid (below_then B0.out bb)
  clear bb P0 B0
  obtain ⟨cP0, cP1⟩ := P1.out.use
  go_wp2_with fail
  refine (rright_any _ _ _ _ _ _ P1.out.byt).mono ?_
  rw [hr]
  rintro e w2 ⟨rfl, bb⟩
  have P2 := Lib.hid (P1.out.keep bb)
  have B2 := Lib.hid (below_then B1.out bb)
  clear bb cP0 cP1 P1 B1
  obtain ⟨cP0, cP1⟩ := P2.out.use
  go_wp2_with fail
  refine (dig_any _ _ _ _ _ lo hi b _ P2.out.byt hm HLO.out HHI.out HBB.out).mono ?_
  rw [HX2.out, HL2.out, HH2.out, HC2.out]
  rintro e w3 ⟨A1, n1, c1, rfl, hy, bb⟩
  have Pp := Lib.hid (P2.out.keep bb)
  have P3 := Lib.hid (Pp.out.keep (al_one _ (.cells #[.slice A1 n1 c1, .bool o] 24)))
  have B3 := Lib.hid (below_then (below_then B2.out bb) (al_one _ (.cells #[.slice A1 n1 c1, .bool o] 24)))
  have X3 := Lib.hid (pat_new (o := o) hy)
  clear bb cP0 cP1 P2 B2 hy
  obtain ⟨cP0, cP1⟩ := Pp.out.use
  have lP := Pp.out.lt
  go_wp2_with fail
  refine (all_any _ _ _ _ _ lo hi b _ P3.out.byt hm HLO.out HHI.out HBB.out).mono ?_
  rw [HX3.out, HC3.out]
  rintro e w4 ⟨A2, n2, c2, rfl, hy, bb⟩
  clear Pp
  have Pp := Lib.hid (P3.out.keep bb)
  have P4 := Lib.hid (Pp.out.keep (al_one _ (.cells #[.slice A2 n2 c2, .bool o] 24)))
  have Xp := Lib.hid (X3.out.keep bb)
  have X4 := Lib.hid (Xp.out.keep (al_one _ (.cells #[.slice A2 n2 c2, .bool o] 24)))
  have B4 := Lib.hid (below_then (below_then B3.out bb) (al_one _ (.cells #[.slice A2 n2 c2, .bool o] 24)))
  have Y4 := Lib.hid (pat_new (o := o) hy)
  clear bb cP0 cP1 lP P3 X3 B3 hy
  clear P4 Pp
  obtain ⟨cX0, cX1⟩ := Xp.out.use
  have lX := Xp.out.lt
  go_wp2_with fail
  refine (rsame_any _ _ _ _ _ _ o o X3 X3 _ X4.out.byt Y4.out.byt).mono ?_
  rw [psame_refl]
  rintro e w5 ⟨rfl, bb⟩
  clear Xp
  have X5 := Lib.hid (X4.out.keep bb)
  have Y5 := Lib.hid (Y4.out.keep bb)
  have B5 := Lib.hid (below_then B4.out bb)
  clear bb cX0 cX1 lX X4 Y4 B4
  clear X5
  clear Y5
  go_wp2_with fail
  go_ret
  exact ⟨rfl, B5.out⟩
set_option maxRecDepth 100000 in
set_option maxHeartbeats 8000000 in
theorem steps_onl0_walk (A : Option Addr) (n c : Nat) (o : Bool) (l : List UInt8) (lo hi b : Int) (w : World) (h : Byt w (.slice A n c) l) (hlo : cellR lo) (hhi : cellR hi) (hb : cellR b) (hr : pRight o l = true) (hbb : baseB b = true) (hk : pOpen o l = true) (q1 : digLo o l lo hi b ≠ 0) (q4 : allC o l lo hi b = 0) :
    Calls Try.prog 8 #[.agg #[.slice A n c, .bool o, .int .i64 lo, .int .i64 hi, .int .i64 b]] w fun e w' => e = .returned (.bool true) ∧ Below w.heap.size w w' := by
  have P0 : Hid (PAt (w.heap.size + 1) A n c o l ((w.alloc (.cells #[.slice A n c, .bool o, .int .i64 lo, .int .i64 hi, .int .i64 b] 57)).alloc (.cells #[.slice A n c, .bool o] 24))) := start7 h _
  have B0 : Hid (Below w.heap.size w ((w.alloc (.cells #[.slice A n c, .bool o, .int .i64 lo, .int .i64 hi, .int .i64 b] 57)).alloc (.cells #[.slice A n c, .bool o] 24))) := al_two _ _ _
  have hm : l.length ≤ 1000 := by have := ((pRight_iff _ _).1 hr).1; omega
  have HLO := Lib.hid hlo
  have HHI := Lib.hid hhi
  have HBB := Lib.hid hb
  have h2 : decide (b < 2) = false := by have := (baseB_iff _).1 hbb; simp; omega
  have h36 : decide (36 < b) = false := by have := (baseB_iff _).1 hbb; simp; omega
  have q0 : pairN (digLo o l lo hi b) (digHi o l lo hi b) ≠ 0 := fun q => q1 ((pair_zero (digLo_cell hlo) (digHi_cell hhi)).1 q).1
  obtain ⟨q5, q6⟩ := steps_on (o := o) (l := l) (lo := lo) (hi := hi) hbb hk q0
  have HL2R : Hid (cellR (digLo o l lo hi b)) := digLo_cell hlo
  have HH2R : Hid (cellR (digHi o l lo hi b)) := digHi_cell hhi
  have hm2 : (digL o l lo hi b).length ≤ 1000 := by rw [(dig_ok (o := o) (l := l) hbb hk lo hi).1]; have := ((pOpen_iff _ _).1 hk).2; simp; omega
  have HC2 := Lib.hid (dig_ok (o := o) (l := l) hbb hk lo hi).2.2.2
  obtain ⟨X2, eX2⟩ : ∃ x, digL o l lo hi b = x := ⟨_, rfl⟩
  have HX2 := Lib.hid eX2
  obtain ⟨L2, eL2⟩ : ∃ x, digLo o l lo hi b = x := ⟨_, rfl⟩
  have HL2 := Lib.hid eL2
  obtain ⟨H2, eH2⟩ : ∃ x, digHi o l lo hi b = x := ⟨_, rfl⟩
  have HH2 := Lib.hid eH2
  obtain ⟨X3, eX3⟩ : ∃ x, allL o l lo hi b = x := ⟨_, rfl⟩
  have HX3 := Lib.hid eX3
  have HC3 := Lib.hid q4
  have q7 := q6 q4
  rw [q4, eX2, eL2, eH2] at q5
  rw [eX3, eX2, eL2, eH2] at q7
  have HC5 := Lib.hid q5
  have HX5 := Lib.hid q7
  rw [eL2] at HL2R q1
  rw [eH2] at HH2R
  rw [eX2] at hm2
  have hz1 : ((L2 : Int) == 0) = false := by simpa using q1
  clear h hlo hhi hb hk hbb q0 q1 q5 q6 q7 q4 eX3 eX2 eL2 eH2
  go_enter Try.func8, Try.ntmps8
  go_wp2_with fail
  refine (shown_any7 _).mono ?_
  rintro e w1 ⟨rfl, bb⟩
  have P1 := Lib.hid (P0.out.keep bb)
  have B1 := Lib.hid (below_then B0.out bb)
  clear bb P0 B0
  obtain ⟨cP0, cP1⟩ := P1.out.use
  go_wp2_with fail
  refine (rright_any _ _ _ _ _ _ P1.out.byt).mono ?_
  rw [hr]
  rintro e w2 ⟨rfl, bb⟩
  have P2 := Lib.hid (P1.out.keep bb)
  have B2 := Lib.hid (below_then B1.out bb)
  clear bb cP0 cP1 P1 B1
  obtain ⟨cP0, cP1⟩ := P2.out.use
  go_wp2_with fail
  refine (dig_any _ _ _ _ _ lo hi b _ P2.out.byt hm HLO.out HHI.out HBB.out).mono ?_
  rw [HX2.out, HL2.out, HH2.out, HC2.out]
  rintro e w3 ⟨A1, n1, c1, rfl, hy, bb⟩
  have Pp := Lib.hid (P2.out.keep bb)
  have P3 := Lib.hid (Pp.out.keep (al_one _ (.cells #[.slice A1 n1 c1, .bool o] 24)))
  have B3 := Lib.hid (below_then (below_then B2.out bb) (al_one _ (.cells #[.slice A1 n1 c1, .bool o] 24)))
  have X3 := Lib.hid (pat_new (o := o) hy)
  clear bb cP0 cP1 P2 B2 hy
  obtain ⟨cP0, cP1⟩ := Pp.out.use
  have lP := Pp.out.lt
  go_wp2_with fail
  refine (all_any _ _ _ _ _ lo hi b _ P3.out.byt hm HLO.out HHI.out HBB.out).mono ?_
  rw [HX3.out, HC3.out]
  rintro e w4 ⟨A2, n2, c2, rfl, hy, bb⟩
  clear Pp
  have Pp := Lib.hid (P3.out.keep bb)
  have P4 := Lib.hid (Pp.out.keep (al_one _ (.cells #[.slice A2 n2 c2, .bool o] 24)))
  have Xp := Lib.hid (X3.out.keep bb)
  have X4 := Lib.hid (Xp.out.keep (al_one _ (.cells #[.slice A2 n2 c2, .bool o] 24)))
  have B4 := Lib.hid (below_then (below_then B3.out bb) (al_one _ (.cells #[.slice A2 n2 c2, .bool o] 24)))
  have Y4 := Lib.hid (pat_new (o := o) hy)
  clear bb cP0 cP1 lP P3 X3 B3 hy
  clear P4 Pp
  obtain ⟨cX0, cX1⟩ := Xp.out.use
  have lX := Xp.out.lt
  go_wp2_with fail
  refine (all_any _ _ _ _ _ L2 H2 b _ X4.out.byt hm2 HL2R.out HH2R.out HBB.out).mono ?_
  rw [HX5.out, HC5.out]
  rintro e w5 ⟨A3, n3, c3, rfl, hy, bb⟩
  clear Xp
  have Xp := Lib.hid (X4.out.keep bb)
  have X5 := Lib.hid (Xp.out.keep (al_one _ (.cells #[.slice A3 n3 c3, .bool o] 24)))
  have Yp := Lib.hid (Y4.out.keep bb)
  have Y5 := Lib.hid (Yp.out.keep (al_one _ (.cells #[.slice A3 n3 c3, .bool o] 24)))
  have B5 := Lib.hid (below_then (below_then B4.out bb) (al_one _ (.cells #[.slice A3 n3 c3, .bool o] 24)))
  have Z5 := Lib.hid (pat_new (o := o) hy)
  clear bb cX0 cX1 lX X4 Y4 B4 hy
  clear X5 Xp
  obtain ⟨cY0, cY1⟩ := Yp.out.use
  have lY := Yp.out.lt
  go_wp2_with fail
  refine (rsame_any _ _ _ _ _ _ o o X3 X3 _ Y5.out.byt Z5.out.byt).mono ?_
  rw [psame_refl]
  rintro e w6 ⟨rfl, bb⟩
  clear Yp
  have Y6 := Lib.hid (Y5.out.keep bb)
  have Z6 := Lib.hid (Z5.out.keep bb)
  have B6 := Lib.hid (below_then B5.out bb)
  clear bb cY0 cY1 lY Y5 Z5 B5
  clear Y6
  clear Z6
  go_wp2_with fail
  go_ret
  exact ⟨rfl, B6.out⟩
set_option maxRecDepth 100000 in
set_option maxHeartbeats 8000000 in
theorem steps_onln_walk (A : Option Addr) (n c : Nat) (o : Bool) (l : List UInt8) (lo hi b : Int) (w : World) (h : Byt w (.slice A n c) l) (hlo : cellR lo) (hhi : cellR hi) (hb : cellR b) (hr : pRight o l = true) (hbb : baseB b = true) (hk : pOpen o l = true) (q1 : digLo o l lo hi b ≠ 0) (q4 : allC o l lo hi b ≠ 0) :
    Calls Try.prog 8 #[.agg #[.slice A n c, .bool o, .int .i64 lo, .int .i64 hi, .int .i64 b]] w fun e w' => e = .returned (.bool true) ∧ Below w.heap.size w w' := by
  have P0 : Hid (PAt (w.heap.size + 1) A n c o l ((w.alloc (.cells #[.slice A n c, .bool o, .int .i64 lo, .int .i64 hi, .int .i64 b] 57)).alloc (.cells #[.slice A n c, .bool o] 24))) := start7 h _
  have B0 : Hid (Below w.heap.size w ((w.alloc (.cells #[.slice A n c, .bool o, .int .i64 lo, .int .i64 hi, .int .i64 b] 57)).alloc (.cells #[.slice A n c, .bool o] 24))) := al_two _ _ _
  have hm : l.length ≤ 1000 := by have := ((pRight_iff _ _).1 hr).1; omega
  have HLO := Lib.hid hlo
  have HHI := Lib.hid hhi
  have HBB := Lib.hid hb
  have h2 : decide (b < 2) = false := by have := (baseB_iff _).1 hbb; simp; omega
  have h36 : decide (36 < b) = false := by have := (baseB_iff _).1 hbb; simp; omega
  have q0 : pairN (digLo o l lo hi b) (digHi o l lo hi b) ≠ 0 := fun q => q1 ((pair_zero (digLo_cell hlo) (digHi_cell hhi)).1 q).1
  obtain ⟨q5, q6⟩ := steps_on (o := o) (l := l) (lo := lo) (hi := hi) hbb hk q0
  have HL2R : Hid (cellR (digLo o l lo hi b)) := digLo_cell hlo
  have HH2R : Hid (cellR (digHi o l lo hi b)) := digHi_cell hhi
  have hm2 : (digL o l lo hi b).length ≤ 1000 := by rw [(dig_ok (o := o) (l := l) hbb hk lo hi).1]; have := ((pOpen_iff _ _).1 hk).2; simp; omega
  have HC2 := Lib.hid (dig_ok (o := o) (l := l) hbb hk lo hi).2.2.2
  obtain ⟨X2, eX2⟩ : ∃ x, digL o l lo hi b = x := ⟨_, rfl⟩
  have HX2 := Lib.hid eX2
  obtain ⟨L2, eL2⟩ : ∃ x, digLo o l lo hi b = x := ⟨_, rfl⟩
  have HL2 := Lib.hid eL2
  obtain ⟨H2, eH2⟩ : ∃ x, digHi o l lo hi b = x := ⟨_, rfl⟩
  have HH2 := Lib.hid eH2
  obtain ⟨C3, eC3⟩ : ∃ x, allC o l lo hi b = x := ⟨_, rfl⟩
  have HC3 := Lib.hid eC3
  rw [eC3] at q4 q5
  rw [eX2, eL2, eH2] at q5
  have HC5 := Lib.hid q5
  have hc0 : ((C3 : Int) == 0) = false := by simpa using q4
  have hc1 : ((C3 : Int) != 0) = true := by simpa using q4
  obtain ⟨X3, eX3⟩ : ∃ x, allL o l lo hi b = x := ⟨_, rfl⟩
  have HX3 := Lib.hid eX3
  obtain ⟨X5, eX5⟩ : ∃ x, allL o X2 L2 H2 b = x := ⟨_, rfl⟩
  have HX5 := Lib.hid eX5
  rw [eL2] at HL2R q1
  rw [eH2] at HH2R
  rw [eX2] at hm2
  have hz1 : ((L2 : Int) == 0) = false := by simpa using q1
  clear h hlo hhi hb hk hbb q0 q1 q5 q6 eX5 eC3 q4 eX3 eX2 eL2 eH2
  go_enter Try.func8, Try.ntmps8
  go_wp2_with fail
  refine (shown_any7 _).mono ?_
  rintro e w1 ⟨rfl, bb⟩
  have P1 := Lib.hid (P0.out.keep bb)
  have B1 := Lib.hid (below_then B0.out bb)
  clear bb P0 B0
  obtain ⟨cP0, cP1⟩ := P1.out.use
  go_wp2_with fail
  refine (rright_any _ _ _ _ _ _ P1.out.byt).mono ?_
  rw [hr]
  rintro e w2 ⟨rfl, bb⟩
  have P2 := Lib.hid (P1.out.keep bb)
  have B2 := Lib.hid (below_then B1.out bb)
  clear bb cP0 cP1 P1 B1
  obtain ⟨cP0, cP1⟩ := P2.out.use
  go_wp2_with fail
  refine (dig_any _ _ _ _ _ lo hi b _ P2.out.byt hm HLO.out HHI.out HBB.out).mono ?_
  rw [HX2.out, HL2.out, HH2.out, HC2.out]
  rintro e w3 ⟨A1, n1, c1, rfl, hy, bb⟩
  have Pp := Lib.hid (P2.out.keep bb)
  have P3 := Lib.hid (Pp.out.keep (al_one _ (.cells #[.slice A1 n1 c1, .bool o] 24)))
  have B3 := Lib.hid (below_then (below_then B2.out bb) (al_one _ (.cells #[.slice A1 n1 c1, .bool o] 24)))
  have X3 := Lib.hid (pat_new (o := o) hy)
  clear bb cP0 cP1 P2 B2 hy
  obtain ⟨cP0, cP1⟩ := Pp.out.use
  have lP := Pp.out.lt
  go_wp2_with fail
  refine (all_any _ _ _ _ _ lo hi b _ P3.out.byt hm HLO.out HHI.out HBB.out).mono ?_
  rw [HX3.out, HC3.out]
  rintro e w4 ⟨A2, n2, c2, rfl, hy, bb⟩
  clear Pp
  have Pp := Lib.hid (P3.out.keep bb)
  have P4 := Lib.hid (Pp.out.keep (al_one _ (.cells #[.slice A2 n2 c2, .bool o] 24)))
  have Xp := Lib.hid (X3.out.keep bb)
  have X4 := Lib.hid (Xp.out.keep (al_one _ (.cells #[.slice A2 n2 c2, .bool o] 24)))
  have B4 := Lib.hid (below_then (below_then B3.out bb) (al_one _ (.cells #[.slice A2 n2 c2, .bool o] 24)))
  have Y4 := Lib.hid (pat_new (o := o) hy)
  clear bb cP0 cP1 lP P3 X3 B3 hy
  clear P4 Pp
  obtain ⟨cX0, cX1⟩ := Xp.out.use
  have lX := Xp.out.lt
  go_wp2_with fail
  refine (all_any _ _ _ _ _ L2 H2 b _ X4.out.byt hm2 HL2R.out HH2R.out HBB.out).mono ?_
  rw [HX5.out, HC5.out]
  rintro e w5 ⟨A3, n3, c3, rfl, hy, bb⟩
  clear Xp
  have Xp := Lib.hid (X4.out.keep bb)
  have X5 := Lib.hid (Xp.out.keep (al_one _ (.cells #[.slice A3 n3 c3, .bool o] 24)))
  have Yp := Lib.hid (Y4.out.keep bb)
  have Y5 := Lib.hid (Yp.out.keep (al_one _ (.cells #[.slice A3 n3 c3, .bool o] 24)))
  have B5 := Lib.hid (below_then (below_then B4.out bb) (al_one _ (.cells #[.slice A3 n3 c3, .bool o] 24)))
  have Z5 := Lib.hid (pat_new (o := o) hy)
  clear bb cX0 cX1 lX X4 Y4 B4 hy
  clear X5 Xp
  clear Y5 Yp
  clear Z5
  go_wp2_with fail
  go_ret
  exact ⟨rfl, B5.out⟩
set_option maxRecDepth 100000 in
set_option maxHeartbeats 8000000 in
theorem steps_onh0_walk (A : Option Addr) (n c : Nat) (o : Bool) (l : List UInt8) (lo hi b : Int) (w : World) (h : Byt w (.slice A n c) l) (hlo : cellR lo) (hhi : cellR hi) (hb : cellR b) (hr : pRight o l = true) (hbb : baseB b = true) (hk : pOpen o l = true) (q1 : digLo o l lo hi b = 0) (q2 : digHi o l lo hi b ≠ 0) (q4 : allC o l lo hi b = 0) :
    Calls Try.prog 8 #[.agg #[.slice A n c, .bool o, .int .i64 lo, .int .i64 hi, .int .i64 b]] w fun e w' => e = .returned (.bool true) ∧ Below w.heap.size w w' := by
  have P0 : Hid (PAt (w.heap.size + 1) A n c o l ((w.alloc (.cells #[.slice A n c, .bool o, .int .i64 lo, .int .i64 hi, .int .i64 b] 57)).alloc (.cells #[.slice A n c, .bool o] 24))) := start7 h _
  have B0 : Hid (Below w.heap.size w ((w.alloc (.cells #[.slice A n c, .bool o, .int .i64 lo, .int .i64 hi, .int .i64 b] 57)).alloc (.cells #[.slice A n c, .bool o] 24))) := al_two _ _ _
  have hm : l.length ≤ 1000 := by have := ((pRight_iff _ _).1 hr).1; omega
  have HLO := Lib.hid hlo
  have HHI := Lib.hid hhi
  have HBB := Lib.hid hb
  have h2 : decide (b < 2) = false := by have := (baseB_iff _).1 hbb; simp; omega
  have h36 : decide (36 < b) = false := by have := (baseB_iff _).1 hbb; simp; omega
  have q0 : pairN (digLo o l lo hi b) (digHi o l lo hi b) ≠ 0 := fun q => q2 ((pair_zero (digLo_cell hlo) (digHi_cell hhi)).1 q).2
  obtain ⟨q5, q6⟩ := steps_on (o := o) (l := l) (lo := lo) (hi := hi) hbb hk q0
  have HL2R : Hid (cellR (digLo o l lo hi b)) := digLo_cell hlo
  have HH2R : Hid (cellR (digHi o l lo hi b)) := digHi_cell hhi
  have hm2 : (digL o l lo hi b).length ≤ 1000 := by rw [(dig_ok (o := o) (l := l) hbb hk lo hi).1]; have := ((pOpen_iff _ _).1 hk).2; simp; omega
  have HC2 := Lib.hid (dig_ok (o := o) (l := l) hbb hk lo hi).2.2.2
  obtain ⟨X2, eX2⟩ : ∃ x, digL o l lo hi b = x := ⟨_, rfl⟩
  have HX2 := Lib.hid eX2
  obtain ⟨L2, eL2⟩ : ∃ x, digLo o l lo hi b = x := ⟨_, rfl⟩
  have HL2 := Lib.hid eL2
  obtain ⟨H2, eH2⟩ : ∃ x, digHi o l lo hi b = x := ⟨_, rfl⟩
  have HH2 := Lib.hid eH2
  obtain ⟨X3, eX3⟩ : ∃ x, allL o l lo hi b = x := ⟨_, rfl⟩
  have HX3 := Lib.hid eX3
  have HC3 := Lib.hid q4
  have q7 := q6 q4
  rw [q4, eX2, eL2, eH2] at q5
  rw [eX3, eX2, eL2, eH2] at q7
  have HC5 := Lib.hid q5
  have HX5 := Lib.hid q7
  rw [eL2] at HL2R q1
  rw [eH2] at HH2R q2
  rw [eX2] at hm2
  have hz0 : L2 = 0 := q1
  have hz1 : ((H2 : Int) == 0) = false := by simpa using q2
  clear h hlo hhi hb hk hbb q0 q1 q5 q6 q2 q7 q4 eX3 eX2 eL2 eH2
  subst hz0
  go_enter Try.func8, Try.ntmps8
  go_wp2_with fail
  refine (shown_any7 _).mono ?_
  rintro e w1 ⟨rfl, bb⟩
  have P1 := Lib.hid (P0.out.keep bb)
  have B1 := Lib.hid (below_then B0.out bb)
  clear bb P0 B0
  obtain ⟨cP0, cP1⟩ := P1.out.use
  go_wp2_with fail
  refine (rright_any _ _ _ _ _ _ P1.out.byt).mono ?_
  rw [hr]
  rintro e w2 ⟨rfl, bb⟩
  have P2 := Lib.hid (P1.out.keep bb)
  have B2 := Lib.hid (below_then B1.out bb)
  clear bb cP0 cP1 P1 B1
  obtain ⟨cP0, cP1⟩ := P2.out.use
  go_wp2_with fail
  refine (dig_any _ _ _ _ _ lo hi b _ P2.out.byt hm HLO.out HHI.out HBB.out).mono ?_
  rw [HX2.out, HL2.out, HH2.out, HC2.out]
  rintro e w3 ⟨A1, n1, c1, rfl, hy, bb⟩
  have Pp := Lib.hid (P2.out.keep bb)
  have P3 := Lib.hid (Pp.out.keep (al_one _ (.cells #[.slice A1 n1 c1, .bool o] 24)))
  have B3 := Lib.hid (below_then (below_then B2.out bb) (al_one _ (.cells #[.slice A1 n1 c1, .bool o] 24)))
  have X3 := Lib.hid (pat_new (o := o) hy)
  clear bb cP0 cP1 P2 B2 hy
  obtain ⟨cP0, cP1⟩ := Pp.out.use
  have lP := Pp.out.lt
  go_wp2_with fail
  refine (all_any _ _ _ _ _ lo hi b _ P3.out.byt hm HLO.out HHI.out HBB.out).mono ?_
  rw [HX3.out, HC3.out]
  rintro e w4 ⟨A2, n2, c2, rfl, hy, bb⟩
  clear Pp
  have Pp := Lib.hid (P3.out.keep bb)
  have P4 := Lib.hid (Pp.out.keep (al_one _ (.cells #[.slice A2 n2 c2, .bool o] 24)))
  have Xp := Lib.hid (X3.out.keep bb)
  have X4 := Lib.hid (Xp.out.keep (al_one _ (.cells #[.slice A2 n2 c2, .bool o] 24)))
  have B4 := Lib.hid (below_then (below_then B3.out bb) (al_one _ (.cells #[.slice A2 n2 c2, .bool o] 24)))
  have Y4 := Lib.hid (pat_new (o := o) hy)
  clear bb cP0 cP1 lP P3 X3 B3 hy
  clear P4 Pp
  obtain ⟨cX0, cX1⟩ := Xp.out.use
  have lX := Xp.out.lt
  go_wp2_with fail
  refine (all_any _ _ _ _ _ 0 H2 b _ X4.out.byt hm2 HL2R.out HH2R.out HBB.out).mono ?_
  rw [HX5.out, HC5.out]
  rintro e w5 ⟨A3, n3, c3, rfl, hy, bb⟩
  clear Xp
  have Xp := Lib.hid (X4.out.keep bb)
  have X5 := Lib.hid (Xp.out.keep (al_one _ (.cells #[.slice A3 n3 c3, .bool o] 24)))
  have Yp := Lib.hid (Y4.out.keep bb)
  have Y5 := Lib.hid (Yp.out.keep (al_one _ (.cells #[.slice A3 n3 c3, .bool o] 24)))
  have B5 := Lib.hid (below_then (below_then B4.out bb) (al_one _ (.cells #[.slice A3 n3 c3, .bool o] 24)))
  have Z5 := Lib.hid (pat_new (o := o) hy)
  clear bb cX0 cX1 lX X4 Y4 B4 hy
  clear X5 Xp
  obtain ⟨cY0, cY1⟩ := Yp.out.use
  have lY := Yp.out.lt
  go_wp2_with fail
  refine (rsame_any _ _ _ _ _ _ o o X3 X3 _ Y5.out.byt Z5.out.byt).mono ?_
  rw [psame_refl]
  rintro e w6 ⟨rfl, bb⟩
  clear Yp
  have Y6 := Lib.hid (Y5.out.keep bb)
  have Z6 := Lib.hid (Z5.out.keep bb)
  have B6 := Lib.hid (below_then B5.out bb)
  clear bb cY0 cY1 lY Y5 Z5 B5
  clear Y6
  clear Z6
  go_wp2_with fail
  go_ret
  exact ⟨rfl, B6.out⟩
set_option maxRecDepth 100000 in
set_option maxHeartbeats 8000000 in
theorem steps_onhn_walk (A : Option Addr) (n c : Nat) (o : Bool) (l : List UInt8) (lo hi b : Int) (w : World) (h : Byt w (.slice A n c) l) (hlo : cellR lo) (hhi : cellR hi) (hb : cellR b) (hr : pRight o l = true) (hbb : baseB b = true) (hk : pOpen o l = true) (q1 : digLo o l lo hi b = 0) (q2 : digHi o l lo hi b ≠ 0) (q4 : allC o l lo hi b ≠ 0) :
    Calls Try.prog 8 #[.agg #[.slice A n c, .bool o, .int .i64 lo, .int .i64 hi, .int .i64 b]] w fun e w' => e = .returned (.bool true) ∧ Below w.heap.size w w' := by
  have P0 : Hid (PAt (w.heap.size + 1) A n c o l ((w.alloc (.cells #[.slice A n c, .bool o, .int .i64 lo, .int .i64 hi, .int .i64 b] 57)).alloc (.cells #[.slice A n c, .bool o] 24))) := start7 h _
  have B0 : Hid (Below w.heap.size w ((w.alloc (.cells #[.slice A n c, .bool o, .int .i64 lo, .int .i64 hi, .int .i64 b] 57)).alloc (.cells #[.slice A n c, .bool o] 24))) := al_two _ _ _
  have hm : l.length ≤ 1000 := by have := ((pRight_iff _ _).1 hr).1; omega
  have HLO := Lib.hid hlo
  have HHI := Lib.hid hhi
  have HBB := Lib.hid hb
  have h2 : decide (b < 2) = false := by have := (baseB_iff _).1 hbb; simp; omega
  have h36 : decide (36 < b) = false := by have := (baseB_iff _).1 hbb; simp; omega
  have q0 : pairN (digLo o l lo hi b) (digHi o l lo hi b) ≠ 0 := fun q => q2 ((pair_zero (digLo_cell hlo) (digHi_cell hhi)).1 q).2
  obtain ⟨q5, q6⟩ := steps_on (o := o) (l := l) (lo := lo) (hi := hi) hbb hk q0
  have HL2R : Hid (cellR (digLo o l lo hi b)) := digLo_cell hlo
  have HH2R : Hid (cellR (digHi o l lo hi b)) := digHi_cell hhi
  have hm2 : (digL o l lo hi b).length ≤ 1000 := by rw [(dig_ok (o := o) (l := l) hbb hk lo hi).1]; have := ((pOpen_iff _ _).1 hk).2; simp; omega
  have HC2 := Lib.hid (dig_ok (o := o) (l := l) hbb hk lo hi).2.2.2
  obtain ⟨X2, eX2⟩ : ∃ x, digL o l lo hi b = x := ⟨_, rfl⟩
  have HX2 := Lib.hid eX2
  obtain ⟨L2, eL2⟩ : ∃ x, digLo o l lo hi b = x := ⟨_, rfl⟩
  have HL2 := Lib.hid eL2
  obtain ⟨H2, eH2⟩ : ∃ x, digHi o l lo hi b = x := ⟨_, rfl⟩
  have HH2 := Lib.hid eH2
  obtain ⟨C3, eC3⟩ : ∃ x, allC o l lo hi b = x := ⟨_, rfl⟩
  have HC3 := Lib.hid eC3
  rw [eC3] at q4 q5
  rw [eX2, eL2, eH2] at q5
  have HC5 := Lib.hid q5
  have hc0 : ((C3 : Int) == 0) = false := by simpa using q4
  have hc1 : ((C3 : Int) != 0) = true := by simpa using q4
  obtain ⟨X3, eX3⟩ : ∃ x, allL o l lo hi b = x := ⟨_, rfl⟩
  have HX3 := Lib.hid eX3
  obtain ⟨X5, eX5⟩ : ∃ x, allL o X2 L2 H2 b = x := ⟨_, rfl⟩
  have HX5 := Lib.hid eX5
  rw [eL2] at HL2R q1
  rw [eH2] at HH2R q2
  rw [eX2] at hm2
  have hz0 : L2 = 0 := q1
  have hz1 : ((H2 : Int) == 0) = false := by simpa using q2
  clear h hlo hhi hb hk hbb q0 q1 q5 q6 q2 eX5 eC3 q4 eX3 eX2 eL2 eH2
  subst hz0
  go_enter Try.func8, Try.ntmps8
  go_wp2_with fail
  refine (shown_any7 _).mono ?_
  rintro e w1 ⟨rfl, bb⟩
  have P1 := Lib.hid (P0.out.keep bb)
  have B1 := Lib.hid (below_then B0.out bb)
  clear bb P0 B0
  obtain ⟨cP0, cP1⟩ := P1.out.use
  go_wp2_with fail
  refine (rright_any _ _ _ _ _ _ P1.out.byt).mono ?_
  rw [hr]
  rintro e w2 ⟨rfl, bb⟩
  have P2 := Lib.hid (P1.out.keep bb)
  have B2 := Lib.hid (below_then B1.out bb)
  clear bb cP0 cP1 P1 B1
  obtain ⟨cP0, cP1⟩ := P2.out.use
  go_wp2_with fail
  refine (dig_any _ _ _ _ _ lo hi b _ P2.out.byt hm HLO.out HHI.out HBB.out).mono ?_
  rw [HX2.out, HL2.out, HH2.out, HC2.out]
  rintro e w3 ⟨A1, n1, c1, rfl, hy, bb⟩
  have Pp := Lib.hid (P2.out.keep bb)
  have P3 := Lib.hid (Pp.out.keep (al_one _ (.cells #[.slice A1 n1 c1, .bool o] 24)))
  have B3 := Lib.hid (below_then (below_then B2.out bb) (al_one _ (.cells #[.slice A1 n1 c1, .bool o] 24)))
  have X3 := Lib.hid (pat_new (o := o) hy)
  clear bb cP0 cP1 P2 B2 hy
  obtain ⟨cP0, cP1⟩ := Pp.out.use
  have lP := Pp.out.lt
  go_wp2_with fail
  refine (all_any _ _ _ _ _ lo hi b _ P3.out.byt hm HLO.out HHI.out HBB.out).mono ?_
  rw [HX3.out, HC3.out]
  rintro e w4 ⟨A2, n2, c2, rfl, hy, bb⟩
  clear Pp
  have Pp := Lib.hid (P3.out.keep bb)
  have P4 := Lib.hid (Pp.out.keep (al_one _ (.cells #[.slice A2 n2 c2, .bool o] 24)))
  have Xp := Lib.hid (X3.out.keep bb)
  have X4 := Lib.hid (Xp.out.keep (al_one _ (.cells #[.slice A2 n2 c2, .bool o] 24)))
  have B4 := Lib.hid (below_then (below_then B3.out bb) (al_one _ (.cells #[.slice A2 n2 c2, .bool o] 24)))
  have Y4 := Lib.hid (pat_new (o := o) hy)
  clear bb cP0 cP1 lP P3 X3 B3 hy
  clear P4 Pp
  obtain ⟨cX0, cX1⟩ := Xp.out.use
  have lX := Xp.out.lt
  go_wp2_with fail
  refine (all_any _ _ _ _ _ 0 H2 b _ X4.out.byt hm2 HL2R.out HH2R.out HBB.out).mono ?_
  rw [HX5.out, HC5.out]
  rintro e w5 ⟨A3, n3, c3, rfl, hy, bb⟩
  clear Xp
  have Xp := Lib.hid (X4.out.keep bb)
  have X5 := Lib.hid (Xp.out.keep (al_one _ (.cells #[.slice A3 n3 c3, .bool o] 24)))
  have Yp := Lib.hid (Y4.out.keep bb)
  have Y5 := Lib.hid (Yp.out.keep (al_one _ (.cells #[.slice A3 n3 c3, .bool o] 24)))
  have B5 := Lib.hid (below_then (below_then B4.out bb) (al_one _ (.cells #[.slice A3 n3 c3, .bool o] 24)))
  have Z5 := Lib.hid (pat_new (o := o) hy)
  clear bb cX0 cX1 lX X4 Y4 B4 hy
  clear X5 Xp
  clear Y5 Yp
  clear Z5
  go_wp2_with fail
  go_ret
  exact ⟨rfl, B5.out⟩
theorem steps_any (A : Option Addr) (n c : Nat) (o : Bool) (l : List UInt8) (lo hi b : Int) (w : World) (h : Byt w (.slice A n c) l) (hlo : cellR lo) (hhi : cellR hi) (hb : cellR b) :
    Calls Try.prog 8 #[.agg #[.slice A n c, .bool o, .int .i64 lo, .int .i64 hi, .int .i64 b]] w fun e w' => e = .returned (.bool true) ∧ Below w.heap.size w w' := by
  cases hr : pRight o l with
  | false => exact steps_no A n c o l lo hi b w h hlo hhi hb hr
  | true =>
    cases hbb : baseB b with
    | false =>
      have hno := (baseB_no b).1 hbb
      by_cases h1 : b < 2
      · exact steps_lt A n c o l lo hi b w h hlo hhi hb hr h1
      · exact steps_gt A n c o l lo hi b w h hlo hhi hb hr (by simp; omega) (by omega)
    | true =>
      cases hk : pOpen o l with
      | false => exact steps_fell_walk A n c o l lo hi b w h hlo hhi hb hr hbb hk
      | true =>
        by_cases q1 : digLo o l lo hi b = 0
        · by_cases q2 : digHi o l lo hi b = 0
          · exact steps_last_walk A n c o l lo hi b w h hlo hhi hb hr hbb hk q1 q2
          · by_cases q4 : allC o l lo hi b = 0
            · exact steps_onh0_walk A n c o l lo hi b w h hlo hhi hb hr hbb hk q1 q2 q4
            · exact steps_onhn_walk A n c o l lo hi b w h hlo hhi hb hr hbb hk q1 q2 q4
        · by_cases q4 : allC o l lo hi b = 0
          · exact steps_onl0_walk A n c o l lo hi b w h hlo hhi hb hr hbb hk q1 q4
          · exact steps_onln_walk A n c o l lo hi b w h hlo hhi hb hr hbb hk q1 q4
end Go.Proofs.Ytphbeghflbkpgaa
