/- The walk of PicLays. -/
import Derived.Test.YtphbeghflbkpgaaSetD
namespace Go.Proofs.Ytphbeghflbkpgaa
open Go.RowKit
set_option linter.unusedVariables false
set_option linter.unusedSimpArgs false

set_option maxRecDepth 100000 in
set_option maxHeartbeats 8000000 in
theorem lays_no (A : Option Addr) (n c : Nat) (o : Bool) (l : List UInt8) (lo hi b : Int) (w : World) (h : Byt w (.slice A n c) l) (hlo : cellR lo) (hhi : cellR hi) (hb : cellR b) (hr : pRight o l = false) :
    Calls Try.prog 4 #[.agg #[.slice A n c, .bool o, .int .i64 lo, .int .i64 hi, .int .i64 b]] w fun e w' => e = .returned (.bool true) ∧ Below w.heap.size w w' := by
  have P0 : Hid (PAt (w.heap.size + 1) A n c o l ((w.alloc (.cells #[.slice A n c, .bool o, .int .i64 lo, .int .i64 hi, .int .i64 b] 35)).alloc (.cells #[.slice A n c, .bool o] 24))) := start7 h _
  have B0 : Hid (Below w.heap.size w ((w.alloc (.cells #[.slice A n c, .bool o, .int .i64 lo, .int .i64 hi, .int .i64 b] 35)).alloc (.cells #[.slice A n c, .bool o] 24))) := al_two _ _ _
  clear h hlo hhi hb
  go_enter Try.func4, Try.ntmps4
  go_wp2_with fail
  refine (shown_any7 _).mono ?_
  rintro e w1 ⟨rfl, bb⟩
  have P1 := Lib.hid (P0.out.keep bb)
  have B1 := Lib.hid (below_then B0.out bb)
  clear bb P0 B0
  obtain ⟨cP0, cP1⟩ := P1.out.use
  go_wp2_with fail
  refine (rright_any _ _ _ _ _ _ P1.out.byt).mono ?_
  rw [hr]
  rintro e w2 ⟨rfl, bb⟩
  have P2 := Lib.hid (P1.out.keep bb)
  have B2 := Lib.hid (below_then B1.out bb)
  clear bb cP0 cP1 P1 B1
  go_wp2_with fail
  go_ret
  exact ⟨rfl, B2.out⟩
set_option maxRecDepth 100000 in
set_option maxHeartbeats 8000000 in
theorem lays_yes (A : Option Addr) (n c : Nat) (o : Bool) (l : List UInt8) (lo hi b : Int) (w : World) (h : Byt w (.slice A n c) l) (hlo : cellR lo) (hhi : cellR hi) (hb : cellR b) (hr : pRight o l = true) :
    Calls Try.prog 4 #[.agg #[.slice A n c, .bool o, .int .i64 lo, .int .i64 hi, .int .i64 b]] w fun e w' => e = .returned (.bool true) ∧ Below w.heap.size w w' := by
  have P0 : Hid (PAt (w.heap.size + 1) A n c o l ((w.alloc (.cells #[.slice A n c, .bool o, .int .i64 lo, .int .i64 hi, .int .i64 b] 35)).alloc (.cells #[.slice A n c, .bool o] 24))) := start7 h _
  have B0 : Hid (Below w.heap.size w ((w.alloc (.cells #[.slice A n c, .bool o, .int .i64 lo, .int .i64 hi, .int .i64 b] 35)).alloc (.cells #[.slice A n c, .bool o] 24))) := al_two _ _ _
  have hm : l.length ≤ 1000 := by have := ((pRight_iff _ _).1 hr).1; omega
  have HLO := Lib.hid hlo
  have HHI := Lib.hid hhi
  have HBB := Lib.hid hb
  obtain ⟨r1, r1'⟩ := holdC_rng o l
  obtain ⟨r2, r2'⟩ := digC_rng o l b
  obtain ⟨r3, r3'⟩ := allC_rng o l lo hi b
  obtain ⟨r4, r4'⟩ := signC_rng o l lo
  obtain ⟨X1, eX1⟩ : ∃ x, holdL o l lo = x := ⟨_, rfl⟩
  have HX1 := Lib.hid eX1
  obtain ⟨C1, eC1⟩ : ∃ x, holdC o l = x := ⟨_, rfl⟩
  have HC1 := Lib.hid eC1
  obtain ⟨X2, eX2⟩ : ∃ x, digL o l lo hi b = x := ⟨_, rfl⟩
  have HX2 := Lib.hid eX2
  obtain ⟨L2, eL2⟩ : ∃ x, digLo o l lo hi b = x := ⟨_, rfl⟩
  have HL2 := Lib.hid eL2
  obtain ⟨H2, eH2⟩ : ∃ x, digHi o l lo hi b = x := ⟨_, rfl⟩
  have HH2 := Lib.hid eH2
  obtain ⟨C2, eC2⟩ : ∃ x, digC o l b = x := ⟨_, rfl⟩
  have HC2 := Lib.hid eC2
  obtain ⟨X3, eX3⟩ : ∃ x, allL o l lo hi b = x := ⟨_, rfl⟩
  have HX3 := Lib.hid eX3
  obtain ⟨C3, eC3⟩ : ∃ x, allC o l lo hi b = x := ⟨_, rfl⟩
  have HC3 := Lib.hid eC3
  obtain ⟨X4, eX4⟩ : ∃ x, signL o l lo = x := ⟨_, rfl⟩
  have HX4 := Lib.hid eX4
  obtain ⟨C4, eC4⟩ : ∃ x, signC o l lo = x := ⟨_, rfl⟩
  have HC4 := Lib.hid eC4
  rw [eC1] at r1 r1'
  rw [eC2] at r2 r2'
  rw [eC3] at r3 r3'
  rw [eC4] at r4 r4'
  clear h hlo hhi hb eX1 eC1 eX2 eL2 eH2 eC2 eX3 eC3 eX4 eC4
  go_enter Try.func4, Try.ntmps4
  go_wp2_with fail
  refine (shown_any7 _).mono ?_
  rintro e w1 ⟨rfl, bb⟩
  have P1 := Lib.hid (P0.out.keep bb)
  have B1 := Lib.hid (below_then B0.out bb)
  clear bb P0 B0
  obtain ⟨cP0, cP1⟩ := P1.out.use
  go_wp2_with fail
  refine (rright_any _ _ _ _ _ _ P1.out.byt).mono ?_
  rw [hr]
  rintro e w2 ⟨rfl, bb⟩
  have P2 := Lib.hid (P1.out.keep bb)
  have B2 := Lib.hid (below_then B1.out bb)
  clear bb cP0 cP1 P1 B1
  obtain ⟨cP0, cP1⟩ := P2.out.use
  go_wp2_with fail
  refine (hold_any _ _ _ _ _ lo _ P2.out.byt hm).mono ?_
  rw [HX1.out, HC1.out]
  rintro e w3 ⟨A1, n1, c1, rfl, hy, bb⟩
  have Pp := Lib.hid (P2.out.keep bb)
  have P3 := Lib.hid (Pp.out.keep (al_one _ (.cells #[.slice A1 n1 c1, .bool o] 24)))
  have B3 := Lib.hid (below_then (below_then B2.out bb) (al_one _ (.cells #[.slice A1 n1 c1, .bool o] 24)))
  have Aa3 := Lib.hid (pat_new (o := o) hy)
  clear bb cP0 cP1 P2 B2 hy
  obtain ⟨cP0, cP1⟩ := Pp.out.use
  have lP := Pp.out.lt
  go_wp2_with fail
  refine (rhold_any _ _ _ _ _ lo _ P3.out.byt hm).mono ?_
  rw [HX1.out, HC1.out]
  rintro e w4 ⟨A2, n2, c2, rfl, hy, bb⟩
  clear Pp
  have Pp := Lib.hid (P3.out.keep bb)
  have P4 := Lib.hid (Pp.out.keep (al_one _ (.cells #[.slice A2 n2 c2, .bool o] 24)))
  have Aap := Lib.hid (Aa3.out.keep bb)
  have Aa4 := Lib.hid (Aap.out.keep (al_one _ (.cells #[.slice A2 n2 c2, .bool o] 24)))
  have B4 := Lib.hid (below_then (below_then B3.out bb) (al_one _ (.cells #[.slice A2 n2 c2, .bool o] 24)))
  have Ab4 := Lib.hid (pat_new (o := o) hy)
  clear bb cP0 cP1 lP P3 Aa3 B3 hy
  obtain ⟨cP0, cP1⟩ := Pp.out.use
  have lP := Pp.out.lt
  go_wp2_with fail
  refine (dig_any _ _ _ _ _ lo hi b _ P4.out.byt hm HLO.out HHI.out HBB.out).mono ?_
  rw [HX2.out, HL2.out, HH2.out, HC2.out]
  rintro e w5 ⟨A3, n3, c3, rfl, hy, bb⟩
  clear Pp Aap
  have Pp := Lib.hid (P4.out.keep bb)
  have P5 := Lib.hid (Pp.out.keep (al_one _ (.cells #[.slice A3 n3 c3, .bool o] 24)))
  have Aap := Lib.hid (Aa4.out.keep bb)
  have Aa5 := Lib.hid (Aap.out.keep (al_one _ (.cells #[.slice A3 n3 c3, .bool o] 24)))
  have Abp := Lib.hid (Ab4.out.keep bb)
  have Ab5 := Lib.hid (Abp.out.keep (al_one _ (.cells #[.slice A3 n3 c3, .bool o] 24)))
  have B5 := Lib.hid (below_then (below_then B4.out bb) (al_one _ (.cells #[.slice A3 n3 c3, .bool o] 24)))
  have Ac5 := Lib.hid (pat_new (o := o) hy)
  clear bb cP0 cP1 lP P4 Aa4 Ab4 B4 hy
  obtain ⟨cP0, cP1⟩ := Pp.out.use
  have lP := Pp.out.lt
  go_wp2_with fail
  refine (rdig_any _ _ _ _ _ lo hi b _ P5.out.byt hm).mono ?_
  rw [HX2.out, HL2.out, HH2.out, HC2.out]
  rintro e w6 ⟨A4, n4, c4, rfl, hy, bb⟩
  clear Pp Aap Abp
  have Pp := Lib.hid (P5.out.keep bb)
  have P6 := Lib.hid (Pp.out.keep (al_one _ (.cells #[.slice A4 n4 c4, .bool o] 24)))
  have Aap := Lib.hid (Aa5.out.keep bb)
  have Aa6 := Lib.hid (Aap.out.keep (al_one _ (.cells #[.slice A4 n4 c4, .bool o] 24)))
  have Abp := Lib.hid (Ab5.out.keep bb)
  have Ab6 := Lib.hid (Abp.out.keep (al_one _ (.cells #[.slice A4 n4 c4, .bool o] 24)))
  have Acp := Lib.hid (Ac5.out.keep bb)
  have Ac6 := Lib.hid (Acp.out.keep (al_one _ (.cells #[.slice A4 n4 c4, .bool o] 24)))
  have B6 := Lib.hid (below_then (below_then B5.out bb) (al_one _ (.cells #[.slice A4 n4 c4, .bool o] 24)))
  have Ad6 := Lib.hid (pat_new (o := o) hy)
  clear bb cP0 cP1 lP P5 Aa5 Ab5 Ac5 B5 hy
  obtain ⟨cP0, cP1⟩ := Pp.out.use
  have lP := Pp.out.lt
  go_wp2_with fail
  refine (all_any _ _ _ _ _ lo hi b _ P6.out.byt hm HLO.out HHI.out HBB.out).mono ?_
  rw [HX3.out, HC3.out]
  rintro e w7 ⟨A5, n5, c5, rfl, hy, bb⟩
  clear Pp Aap Abp Acp
  have Pp := Lib.hid (P6.out.keep bb)
  have P7 := Lib.hid (Pp.out.keep (al_one _ (.cells #[.slice A5 n5 c5, .bool o] 24)))
  have Aap := Lib.hid (Aa6.out.keep bb)
  have Aa7 := Lib.hid (Aap.out.keep (al_one _ (.cells #[.slice A5 n5 c5, .bool o] 24)))
  have Abp := Lib.hid (Ab6.out.keep bb)
  have Ab7 := Lib.hid (Abp.out.keep (al_one _ (.cells #[.slice A5 n5 c5, .bool o] 24)))
  have Acp := Lib.hid (Ac6.out.keep bb)
  have Ac7 := Lib.hid (Acp.out.keep (al_one _ (.cells #[.slice A5 n5 c5, .bool o] 24)))
  have Adp := Lib.hid (Ad6.out.keep bb)
  have Ad7 := Lib.hid (Adp.out.keep (al_one _ (.cells #[.slice A5 n5 c5, .bool o] 24)))
  have B7 := Lib.hid (below_then (below_then B6.out bb) (al_one _ (.cells #[.slice A5 n5 c5, .bool o] 24)))
  have Ax7 := Lib.hid (pat_new (o := o) hy)
  clear bb cP0 cP1 lP P6 Aa6 Ab6 Ac6 Ad6 B6 hy
  obtain ⟨cP0, cP1⟩ := Pp.out.use
  have lP := Pp.out.lt
  go_wp2_with fail
  refine (rall_any _ _ _ _ _ lo hi b _ P7.out.byt hm HLO.out HHI.out).mono ?_
  rw [HX3.out, HC3.out]
  rintro e w8 ⟨A6, n6, c6, rfl, hy, bb⟩
  clear Pp Aap Abp Acp Adp
  have Pp := Lib.hid (P7.out.keep bb)
  have P8 := Lib.hid (Pp.out.keep (al_one _ (.cells #[.slice A6 n6 c6, .bool o] 24)))
  have Aap := Lib.hid (Aa7.out.keep bb)
  have Aa8 := Lib.hid (Aap.out.keep (al_one _ (.cells #[.slice A6 n6 c6, .bool o] 24)))
  have Abp := Lib.hid (Ab7.out.keep bb)
  have Ab8 := Lib.hid (Abp.out.keep (al_one _ (.cells #[.slice A6 n6 c6, .bool o] 24)))
  have Acp := Lib.hid (Ac7.out.keep bb)
  have Ac8 := Lib.hid (Acp.out.keep (al_one _ (.cells #[.slice A6 n6 c6, .bool o] 24)))
  have Adp := Lib.hid (Ad7.out.keep bb)
  have Ad8 := Lib.hid (Adp.out.keep (al_one _ (.cells #[.slice A6 n6 c6, .bool o] 24)))
  have Axp := Lib.hid (Ax7.out.keep bb)
  have Ax8 := Lib.hid (Axp.out.keep (al_one _ (.cells #[.slice A6 n6 c6, .bool o] 24)))
  have B8 := Lib.hid (below_then (below_then B7.out bb) (al_one _ (.cells #[.slice A6 n6 c6, .bool o] 24)))
  have Ay8 := Lib.hid (pat_new (o := o) hy)
  clear bb cP0 cP1 lP P7 Aa7 Ab7 Ac7 Ad7 Ax7 B7 hy
  obtain ⟨cP0, cP1⟩ := Pp.out.use
  have lP := Pp.out.lt
  go_wp2_with fail
  refine (sign_any _ _ _ _ _ lo _ P8.out.byt hm).mono ?_
  rw [HX4.out, HC4.out]
  rintro e w9 ⟨A7, n7, c7, rfl, hy, bb⟩
  clear Pp Aap Abp Acp Adp Axp
  have Pp := Lib.hid (P8.out.keep bb)
  have P9 := Lib.hid (Pp.out.keep (al_one _ (.cells #[.slice A7 n7 c7, .bool o] 24)))
  have Aap := Lib.hid (Aa8.out.keep bb)
  have Aa9 := Lib.hid (Aap.out.keep (al_one _ (.cells #[.slice A7 n7 c7, .bool o] 24)))
  have Abp := Lib.hid (Ab8.out.keep bb)
  have Ab9 := Lib.hid (Abp.out.keep (al_one _ (.cells #[.slice A7 n7 c7, .bool o] 24)))
  have Acp := Lib.hid (Ac8.out.keep bb)
  have Ac9 := Lib.hid (Acp.out.keep (al_one _ (.cells #[.slice A7 n7 c7, .bool o] 24)))
  have Adp := Lib.hid (Ad8.out.keep bb)
  have Ad9 := Lib.hid (Adp.out.keep (al_one _ (.cells #[.slice A7 n7 c7, .bool o] 24)))
  have Axp := Lib.hid (Ax8.out.keep bb)
  have Ax9 := Lib.hid (Axp.out.keep (al_one _ (.cells #[.slice A7 n7 c7, .bool o] 24)))
  have Ayp := Lib.hid (Ay8.out.keep bb)
  have Ay9 := Lib.hid (Ayp.out.keep (al_one _ (.cells #[.slice A7 n7 c7, .bool o] 24)))
  have B9 := Lib.hid (below_then (below_then B8.out bb) (al_one _ (.cells #[.slice A7 n7 c7, .bool o] 24)))
  have Au9 := Lib.hid (pat_new (o := o) hy)
  clear bb cP0 cP1 lP P8 Aa8 Ab8 Ac8 Ad8 Ax8 Ay8 B8 hy
  obtain ⟨cP0, cP1⟩ := Pp.out.use
  have lP := Pp.out.lt
  go_wp2_with fail
  refine (rsign_any _ _ _ _ _ lo _ P9.out.byt hm).mono ?_
  rw [HX4.out, HC4.out]
  rintro e w10 ⟨A8, n8, c8, rfl, hy, bb⟩
  clear Pp Aap Abp Acp Adp Axp Ayp
  have Pp := Lib.hid (P9.out.keep bb)
  have P10 := Lib.hid (Pp.out.keep (al_one _ (.cells #[.slice A8 n8 c8, .bool o] 24)))
  have Aap := Lib.hid (Aa9.out.keep bb)
  have Aa10 := Lib.hid (Aap.out.keep (al_one _ (.cells #[.slice A8 n8 c8, .bool o] 24)))
  have Abp := Lib.hid (Ab9.out.keep bb)
  have Ab10 := Lib.hid (Abp.out.keep (al_one _ (.cells #[.slice A8 n8 c8, .bool o] 24)))
  have Acp := Lib.hid (Ac9.out.keep bb)
  have Ac10 := Lib.hid (Acp.out.keep (al_one _ (.cells #[.slice A8 n8 c8, .bool o] 24)))
  have Adp := Lib.hid (Ad9.out.keep bb)
  have Ad10 := Lib.hid (Adp.out.keep (al_one _ (.cells #[.slice A8 n8 c8, .bool o] 24)))
  have Axp := Lib.hid (Ax9.out.keep bb)
  have Ax10 := Lib.hid (Axp.out.keep (al_one _ (.cells #[.slice A8 n8 c8, .bool o] 24)))
  have Ayp := Lib.hid (Ay9.out.keep bb)
  have Ay10 := Lib.hid (Ayp.out.keep (al_one _ (.cells #[.slice A8 n8 c8, .bool o] 24)))
  have Aup := Lib.hid (Au9.out.keep bb)
  have Au10 := Lib.hid (Aup.out.keep (al_one _ (.cells #[.slice A8 n8 c8, .bool o] 24)))
  have B10 := Lib.hid (below_then (below_then B9.out bb) (al_one _ (.cells #[.slice A8 n8 c8, .bool o] 24)))
  have Av10 := Lib.hid (pat_new (o := o) hy)
  clear bb cP0 cP1 lP P9 Aa9 Ab9 Ac9 Ad9 Ax9 Ay9 Au9 B9 hy
  clear P10 Pp
  obtain ⟨cAa0, cAa1⟩ := Aap.out.use
  have lAa := Aap.out.lt
  obtain ⟨cAb0, cAb1⟩ := Abp.out.use
  have lAb := Abp.out.lt
  go_wp2_with fail
  refine (rsame_any _ _ _ _ _ _ o o X1 X1 _ Aa10.out.byt Ab10.out.byt).mono ?_
  rw [psame_refl]
  rintro e w11 ⟨rfl, bb⟩
  clear Aap Abp Acp Adp Axp Ayp Aup
  have Aa11 := Lib.hid (Aa10.out.keep bb)
  have Ab11 := Lib.hid (Ab10.out.keep bb)
  have Ac11 := Lib.hid (Ac10.out.keep bb)
  have Ad11 := Lib.hid (Ad10.out.keep bb)
  have Ax11 := Lib.hid (Ax10.out.keep bb)
  have Ay11 := Lib.hid (Ay10.out.keep bb)
  have Au11 := Lib.hid (Au10.out.keep bb)
  have Av11 := Lib.hid (Av10.out.keep bb)
  have B11 := Lib.hid (below_then B10.out bb)
  clear bb cAa0 cAa1 lAa cAb0 cAb1 lAb Aa10 Ab10 Ac10 Ad10 Ax10 Ay10 Au10 Av10 B10
  clear Aa11
  clear Ab11
  obtain ⟨cAc0, cAc1⟩ := Ac11.out.use
  obtain ⟨cAd0, cAd1⟩ := Ad11.out.use
  go_wp2_with fail
  refine (rsame_any _ _ _ _ _ _ o o X2 X2 _ Ac11.out.byt Ad11.out.byt).mono ?_
  rw [psame_refl]
  rintro e w12 ⟨rfl, bb⟩
  have Ac12 := Lib.hid (Ac11.out.keep bb)
  have Ad12 := Lib.hid (Ad11.out.keep bb)
  have Ax12 := Lib.hid (Ax11.out.keep bb)
  have Ay12 := Lib.hid (Ay11.out.keep bb)
  have Au12 := Lib.hid (Au11.out.keep bb)
  have Av12 := Lib.hid (Av11.out.keep bb)
  have B12 := Lib.hid (below_then B11.out bb)
  clear bb cAc0 cAc1 cAd0 cAd1 Ac11 Ad11 Ax11 Ay11 Au11 Av11 B11
  clear Ac12
  clear Ad12
  obtain ⟨cAx0, cAx1⟩ := Ax12.out.use
  obtain ⟨cAy0, cAy1⟩ := Ay12.out.use
  go_wp2_with fail
  refine (rsame_any _ _ _ _ _ _ o o X3 X3 _ Ax12.out.byt Ay12.out.byt).mono ?_
  rw [psame_refl]
  rintro e w13 ⟨rfl, bb⟩
  have Ax13 := Lib.hid (Ax12.out.keep bb)
  have Ay13 := Lib.hid (Ay12.out.keep bb)
  have Au13 := Lib.hid (Au12.out.keep bb)
  have Av13 := Lib.hid (Av12.out.keep bb)
  have B13 := Lib.hid (below_then B12.out bb)
  clear bb cAx0 cAx1 cAy0 cAy1 Ax12 Ay12 Au12 Av12 B12
  clear Ax13
  clear Ay13
  obtain ⟨cAu0, cAu1⟩ := Au13.out.use
  obtain ⟨cAv0, cAv1⟩ := Av13.out.use
  go_wp2_with fail
  refine (rsame_any _ _ _ _ _ _ o o X4 X4 _ Au13.out.byt Av13.out.byt).mono ?_
  rw [psame_refl]
  rintro e w14 ⟨rfl, bb⟩
  have Au14 := Lib.hid (Au13.out.keep bb)
  have Av14 := Lib.hid (Av13.out.keep bb)
  have B14 := Lib.hid (below_then B13.out bb)
  clear bb cAu0 cAu1 cAv0 cAv1 Au13 Av13 B13
  clear Au14
  clear Av14
  go_wp2_with fail
  go_ret
  exact ⟨rfl, B14.out⟩
theorem lays_any (A : Option Addr) (n c : Nat) (o : Bool) (l : List UInt8) (lo hi b : Int) (w : World) (h : Byt w (.slice A n c) l) (hlo : cellR lo) (hhi : cellR hi) (hb : cellR b) :
    Calls Try.prog 4 #[.agg #[.slice A n c, .bool o, .int .i64 lo, .int .i64 hi, .int .i64 b]] w fun e w' => e = .returned (.bool true) ∧ Below w.heap.size w w' := by
  cases hr : pRight o l with
  | false => exact lays_no A n c o l lo hi b w h hlo hhi hb hr
  | true => exact lays_yes A n c o l lo hi b w h hlo hhi hb hr
end Go.Proofs.Ytphbeghflbkpgaa
