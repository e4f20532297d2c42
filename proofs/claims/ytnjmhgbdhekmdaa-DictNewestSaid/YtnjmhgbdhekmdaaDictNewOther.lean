/- A walk of DictNewest. -/
import Derived.Test.YtnjmhgbdhekmdaaDictNewestA
namespace Go.Proofs.Ytnjmhgbdhekmdaa
open Go.RowKit
set_option linter.unusedVariables false
set_option linter.unusedSimpArgs false

set_option maxRecDepth 100000 in
set_option maxHeartbeats 8000000 in
theorem dnew_Other (A : Option Addr) (n c : Nat) (l : List Wr) (nm : List UInt8) (xt fl : Int) (ot : List UInt8) (w : World) (h : Wds w (.slice A n c) l) (f1 : dFew l 60 = true) (hr : dRight l = true) (h60 : decide ((60 : Int) < (nm.length : Int)) = false) (o60 : decide ((60 : Int) < (ot.length : Int)) = false) (hC : addC l nm fl 1000 = 0) (hd : hidB fl = false) (hal : alikeF nm ot = false) :
    Calls Try.prog 5 #[.agg #[.slice A n c, .string (strB nm), .int .i64 xt, .int .i64 fl, .string (strB ot)]] w fun e w' => e = .returned (.bool true) ∧ Below w.heap.size w w' := by
  have hlen := (few_facts f1).1
  have hl := h.len
  have hn : n ≤ 60 := by omega
  have hnm : nm.length ≤ 60 := by
    have : ((nm.length : Nat) : Int) ≤ 60 := by simpa using h60
    omega
  have hot : ot.length ≤ 60 := by
    have : ((ot.length : Nat) : Int) ≤ 60 := by simpa using o60
    omega
  obtain ⟨a1, a2, a3⟩ := add_ok hC
  obtain ⟨b0, b7⟩ := (flagB_iff fl).1 a2
  have hXe : addL l nm xt fl 1000 = l ++ [⟨nm, xt, fl⟩] := by unfold addL; rw [if_pos hC]
  have hRX := right_snoc (xt := xt) hr hC
  obtain ⟨k1, k2⟩ := cut_snoc l ⟨nm, xt, fl⟩
  rw [hl] at k1 k2
  have s1 := find_snoc l ⟨nm, xt, fl⟩ (upperF nm)
  have s2 := find_snoc l ⟨nm, xt, fl⟩ ot
  have s3 : seenP (upperF nm) ⟨nm, xt, fl⟩ = !hidB fl := by unfold seenP; rw [alike_upper, alike_refl]; rfl
  have hg0 : gotW (l ++ [(⟨nm, xt, fl⟩ : Wr)]) (some l.length) = ⟨nm, xt, fl⟩ := gotW_at (by simp)
  have HUL : Hid ((upperF nm).length ≤ 100000) := by show _ ≤ _; unfold upperF; simp; omega
  have HLF : Hid (∀ x ∈ l, 0 ≤ x.fl ∧ x.fl ≤ 7) := fun x hx => (right_all hr x hx).2
  have HLN : Hid (∀ x ∈ l, x.nm.length ≤ 100000) := fun x hx => by have := (few_facts f1).2 x hx; omega
  have HXF : Hid (∀ x ∈ l ++ [(⟨nm, xt, fl⟩ : Wr)], 0 ≤ x.fl ∧ x.fl ≤ 7) := fun x hx => (right_all hRX x hx).2
  have HXN : Hid (∀ x ∈ l ++ [(⟨nm, xt, fl⟩ : Wr)], x.nm.length ≤ 100000) := by
    intro x hx
    rcases List.mem_append.1 hx with h | h
    · exact HLN.out x h
    · rw [List.mem_singleton.1 h]; show nm.length ≤ 100000; omega
  rw [hd] at s3
  rw [s3, if_pos (by simp)] at s1
  have eu : gotW (l ++ [(⟨nm, xt, fl⟩ : Wr)]) (findI (l ++ [⟨nm, xt, fl⟩]) (upperF nm)) = ⟨nm, xt, fl⟩ := by rw [s1]; exact hg0
  have eui : gotI (findI (l ++ [⟨nm, xt, fl⟩]) (upperF nm)) = n := by rw [s1]; exact hl
  have eub : (findI (l ++ [⟨nm, xt, fl⟩]) (upperF nm)).isSome = true := by rw [s1]; rfl
  obtain ⟨p, ep⟩ : ∃ p, gotW l (findI l ot) = p := ⟨_, rfl⟩
  obtain ⟨pi, epi⟩ : ∃ p, gotI (findI l ot) = p := ⟨_, rfl⟩
  obtain ⟨pb, epb⟩ : ∃ p, (findI l ot).isSome = p := ⟨_, rfl⟩
  have HP := Lib.hid ep
  have HPI := Lib.hid epi
  have HPB := Lib.hid epb
  have s4 : seenP ot ⟨nm, xt, fl⟩ = false := by unfold seenP; rw [hal]; rfl
  rw [s4, if_neg (by simp)] at s2
  have hG2 : gotW (l ++ [(⟨nm, xt, fl⟩ : Wr)]) (findI l ot) = gotW l (findI l ot) := gotW_snoc (fun i hi => lastI_lt hi)
  rw [← s2] at epi epb
  rw [← hG2, ← s2] at ep
  clear s4 hG2
  obtain ⟨X, eX⟩ : ∃ X, l ++ [(⟨nm, xt, fl⟩ : Wr)] = X := ⟨_, rfl⟩
  have HXL : Hid (X.length = n + 1) := by show _ = _; rw [← eX]; simp; omega
  rw [eX] at hXe hRX k1 k2 HXF HXN eu eui eub ep epi epb
  have HX := Lib.hid hXe
  have HC := Lib.hid hC
  have HRX := Lib.hid hRX
  have HK := Lib.hid k1
  have HKC := Lib.hid k2
  have HG := Lib.hid eu
  have HGI := Lib.hid eui
  have HGB := Lib.hid eub
  have HQ := Lib.hid ep
  have HQI := Lib.hid epi
  have HQB := Lib.hid epb
  have HLL : Hid (l.length = n) := hl
  have hh : (fl / 2 % 2 == 1) = false := hd
  clear a1 a2 a3 hXe hRX k1 k2 s1 s2 s3 hg0 eu eui eub ep epi epb eX hC hd hl
  have L0 := Lib.hid (h.keep (al_one w (.cells #[.slice A n c, .string (strB nm), .int .i64 xt, .int .i64 fl, .string (strB ot)] 48)))
  have B0 : Hid (Below w.heap.size w (w.alloc (.cells #[.slice A n c, .string (strB nm), .int .i64 xt, .int .i64 fl, .string (strB ot)] 48))) := al_one _ _
  have hsz : (strB nm).size = nm.length := rfl
  have hso : (strB ot).size = ot.length := rfl
  clear h
  go_enter Try.func5, Try.ntmps5
  go_wp2_with fail
  refine (shown_any9 _).mono ?_
  rintro e w1 ⟨rfl, bb⟩
  have L1 := Lib.hid (L0.out.keep bb)
  have B1 := Lib.hid (below_then B0.out bb)
  clear bb L0 B0
  go_wp2_with fail
  refine (rfew_any A n c l 60 _ L1.out (by omega)).mono ?_
  rw [f1]
  rintro e w2 ⟨rfl, bb⟩
  have L2 := Lib.hid (L1.out.keep bb)
  have B2 := Lib.hid (below_then B1.out bb)
  clear bb L1 B1
  go_wp2_with fail
  refine (rright_any A n c l _ L2.out (by omega)).mono ?_
  rw [hr]
  rintro e w3 ⟨rfl, bb⟩
  have L3 := Lib.hid (L2.out.keep bb)
  have B3 := Lib.hid (below_then B2.out bb)
  clear bb L2 B2
  go_wp2_with fail
  refine (dadd_any A n c l nm xt fl 1000 _ L3.out (by omega)).mono ?_
  rw [HX.out, HC.out]
  rintro e w4 ⟨A1, n1, c1, rfl, hy, bb⟩
  have L4 := Lib.hid (L3.out.keep bb)
  have B4 := Lib.hid (below_then B3.out bb)
  have X4 := Lib.hid hy
  clear bb L3 B3 hy
  obtain rfl : n + 1 = n1 := by have := X4.out.len; have := HXL.out; omega
  go_wp2_with fail
  refine (rupper_any nm _ (by omega)).mono ?_
  rintro e w5 ⟨rfl, bb⟩
  have L5 := Lib.hid (L4.out.keep bb)
  have X5 := Lib.hid (X4.out.keep bb)
  have B5 := Lib.hid (below_then B4.out bb)
  clear bb L4 X4 B4
  go_wp2_with fail
  refine (dfind_any A1 (n + 1) c1 X (upperF nm) _ X5.out (by omega) HXF.out HXN.out HUL.out).mono ?_
  rw [HG.out, HGI.out, HGB.out]
  rintro e w6 ⟨rfl, bb⟩
  have Lp := Lib.hid (L5.out.keep bb)
  have L6 := Lib.hid (Lp.out.keep (al_one _ (.cells #[.string (strB nm), .int .i64 xt, .int .i64 fl] 30)))
  have Xp := Lib.hid (X5.out.keep bb)
  have X6 := Lib.hid (Xp.out.keep (al_one _ (.cells #[.string (strB nm), .int .i64 xt, .int .i64 fl] 30)))
  have B6 := Lib.hid (below_then (below_then B5.out bb) (al_one _ (.cells #[.string (strB nm), .int .i64 xt, .int .i64 fl] 30)))
  have W6 := Lib.hid (wbox_new w6 ⟨nm, xt, fl⟩)
  clear bb L5 X5 B5
  go_wp2_with fail
  refine (dfind_any A n c l ot _ L6.out (by omega) HLF.out HLN.out (by omega)).mono ?_
  rw [HP.out, HPI.out, HPB.out]
  rintro e w7 ⟨rfl, bb⟩
  clear Lp Xp
  have Lp := Lib.hid (L6.out.keep bb)
  have L7 := Lib.hid (Lp.out.keep (al_one _ (.cells #[.string (strB p.nm), .int .i64 p.xt, .int .i64 p.fl] 30)))
  have Xp := Lib.hid (X6.out.keep bb)
  have X7 := Lib.hid (Xp.out.keep (al_one _ (.cells #[.string (strB p.nm), .int .i64 p.xt, .int .i64 p.fl] 30)))
  have Wp := Lib.hid (W6.out.keep bb)
  have W7 := Lib.hid (Wp.out.keep (al_one _ (.cells #[.string (strB p.nm), .int .i64 p.xt, .int .i64 p.fl] 30)))
  have B7 := Lib.hid (below_then (below_then B6.out bb) (al_one _ (.cells #[.string (strB p.nm), .int .i64 p.xt, .int .i64 p.fl] 30)))
  have P7 := Lib.hid (wbox_new w7 p)
  clear bb L6 X6 W6 B6
  go_wp2_with fail
  refine (dfind_any A1 (n + 1) c1 X ot _ X7.out (by omega) HXF.out HXN.out (by omega)).mono ?_
  rw [HQ.out, HQI.out, HQB.out]
  rintro e w8 ⟨rfl, bb⟩
  clear Lp Xp Wp
  have Lp := Lib.hid (L7.out.keep bb)
  have L8 := Lib.hid (Lp.out.keep (al_one _ (.cells #[.string (strB p.nm), .int .i64 p.xt, .int .i64 p.fl] 30)))
  have Xp := Lib.hid (X7.out.keep bb)
  have X8 := Lib.hid (Xp.out.keep (al_one _ (.cells #[.string (strB p.nm), .int .i64 p.xt, .int .i64 p.fl] 30)))
  have Wp := Lib.hid (W7.out.keep bb)
  have W8 := Lib.hid (Wp.out.keep (al_one _ (.cells #[.string (strB p.nm), .int .i64 p.xt, .int .i64 p.fl] 30)))
  have Pp := Lib.hid (P7.out.keep bb)
  have P8 := Lib.hid (Pp.out.keep (al_one _ (.cells #[.string (strB p.nm), .int .i64 p.xt, .int .i64 p.fl] 30)))
  have B8 := Lib.hid (below_then (below_then B7.out bb) (al_one _ (.cells #[.string (strB p.nm), .int .i64 p.xt, .int .i64 p.fl] 30)))
  have Q8 := Lib.hid (wbox_new w8 p)
  clear bb L7 X7 W7 P7 B7
  go_wp2_with fail
  refine (dcut_any A1 (n + 1) c1 X (n : Int) _ X8.out (by omega)).mono ?_
  rw [HK.out, HKC.out]
  rintro e w9 ⟨A2, n2, c2, rfl, hy, bb⟩
  clear Lp Xp Wp Pp
  have L9 := Lib.hid (L8.out.keep bb)
  have X9 := Lib.hid (X8.out.keep bb)
  have W9 := Lib.hid (W8.out.keep bb)
  have P9 := Lib.hid (P8.out.keep bb)
  have Q9 := Lib.hid (Q8.out.keep bb)
  have B9 := Lib.hid (below_then B8.out bb)
  have K9 := Lib.hid hy
  clear bb L8 X8 W8 P8 Q8 B8 hy
  go_wp2_with fail
  refine (rright_any A1 (n + 1) c1 X _ X9.out (by omega)).mono ?_
  rw [HRX.out]
  rintro e w10 ⟨rfl, bb⟩
  have L10 := Lib.hid (L9.out.keep bb)
  have X10 := Lib.hid (X9.out.keep bb)
  have W10 := Lib.hid (W9.out.keep bb)
  have P10 := Lib.hid (P9.out.keep bb)
  have Q10 := Lib.hid (Q9.out.keep bb)
  have K10 := Lib.hid (K9.out.keep bb)
  have B10 := Lib.hid (below_then B9.out bb)
  clear bb L9 X9 W9 P9 Q9 K9 B9
  clear X10
  go_wp2_with fail
  refine (rsame9_any A2 A n2 c2 n c l l _ K10.out L10.out (by omega)).mono ?_
  rw [dsame_refl]
  rintro e w11 ⟨rfl, bb⟩
  have L11 := Lib.hid (L10.out.keep bb)
  have W11 := Lib.hid (W10.out.keep bb)
  have P11 := Lib.hid (P10.out.keep bb)
  have Q11 := Lib.hid (Q10.out.keep bb)
  have K11 := Lib.hid (K10.out.keep bb)
  have B11 := Lib.hid (below_then B10.out bb)
  clear bb L10 W10 P10 Q10 K10 B10
  clear K11
  clear L11
  obtain ⟨cW0, cW1, cW2, _, _, _⟩ := W11.out.use
  go_wp2_with fail
  refine (ralike_any nm ot _ (by omega) (by omega)).mono ?_
  rw [hal]
  rintro e w12 ⟨rfl, bb⟩
  have W12 := Lib.hid (W11.out.keep bb)
  have P12 := Lib.hid (P11.out.keep bb)
  have Q12 := Lib.hid (Q11.out.keep bb)
  have B12 := Lib.hid (below_then B11.out bb)
  clear bb cW0 cW1 cW2 W11 P11 Q11 B11
  obtain ⟨cP0, cP1, cP2, _, _, _⟩ := P12.out.use
  obtain ⟨cQ0, cQ1, cQ2, _, _, _⟩ := Q12.out.use
  go_wp2_with fail
  go_ret
  exact ⟨rfl, B12.out⟩
end Go.Proofs.Ytnjmhgbdhekmdaa
