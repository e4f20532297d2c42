/- The walk of MemTexts. -/
import Derived.Test.YtngmkbbeafefaaaMemUndoesA
namespace Go.Proofs.Ytngmkbbeafefaaa
open Go.RowKit
set_option linter.unusedVariables false
set_option linter.unusedSimpArgs false

theorem start6 {w : World} {A P : Option Addr} {L c K d : Nat} {m : PM} (h : IsMem w (.agg #[.slice A L c, .slice P K d]) m) (o : Obj) : At (w.heap.size + 1) A P L c K d m ((w.alloc o).alloc (.cells #[.slice A L c, .slice P K d] 25)) := by
  have h1 : IsMem (w.alloc o) (.agg #[.slice A L c, .slice P K d]) m := h.keep (al_one _ _)
  have h2 := at_new h1
  rw [World.size_alloc] at h2
  exact h2

set_option maxRecDepth 100000 in
set_option maxHeartbeats 16000000 in
theorem texts_walk (A P Ab : Option Addr) (L c K d nb cb : Nat) (m : PM) (bs : List UInt8) (p t n : Int) (w : World) (HM : Hid (IsMem w (.agg #[.slice A L c, .slice P K d]) m)) (HU : Hid (Byt w (.slice Ab nb cb) bs)) (hn1 : n ≤ 9223372036854775807) (hnb : nb ≤ 9223372036854775807) :
    Calls Try.prog 4 #[.agg #[.slice A L c, .slice P K d, .int .i64 p, .int .i64 t, .int .i64 n, .slice Ab nb cb]] w fun e w' => e = .returned (.bool true) ∧ Below w.heap.size w w' := by
  cases hmay : (fewB m 600 && rightB m) with
  | false =>
    go_enter Try.func4, Try.ntmps4
    go_wp2_with fail
    refine (shown_any _).mono ?_
    rintro e w1 ⟨rfl, bb⟩
    have M1 := Lib.hid ((start6 HM.out _).keep bb)
    have U1 := Lib.hid ((HU.out.keep (((Below.refl _ w).alloc (Nat.le_refl _) _).alloc (by simp) _)).keep bb)
    have B1 := Lib.hid (below_two bb)
    clear bb
    obtain ⟨cM0, cM1⟩ := M1.out.use
    go_wp2_with fail
    refine (may_at _ _ _ _ _ _ m _ M1.out.mem).mono ?_
    rw [hmay]
    rintro e w2 ⟨rfl, bb⟩
    have M2 := Lib.hid (M1.out.keep bb)
    have U2 := Lib.hid (U1.out.keep bb)
    have B2 := Lib.hid (below_then B1.out bb)
    clear bb cM0 cM1 M1 U1 B1
    go_wp2_with fail
    go_ret
    exact ⟨rfl, B2.out⟩
  | true =>
    obtain ⟨hL, hK, HRi⟩ := may_parts hmay
    rw [HM.out.len1] at hL
    rw [HM.out.len2] at hK
    clear HRi
    by_cases h200 : 200 < nb
    · have h200' : (200 : Int) < (nb : Int) := by omega
      go_enter Try.func4, Try.ntmps4
      go_wp2_with fail
      refine (shown_any _).mono ?_
      rintro e w1 ⟨rfl, bb⟩
      have M1 := Lib.hid ((start6 HM.out _).keep bb)
      have U1 := Lib.hid ((HU.out.keep (((Below.refl _ w).alloc (Nat.le_refl _) _).alloc (by simp) _)).keep bb)
      have B1 := Lib.hid (below_two bb)
      clear bb
      obtain ⟨cM0, cM1⟩ := M1.out.use
      go_wp2_with fail
      refine (may_at _ _ _ _ _ _ m _ M1.out.mem).mono ?_
      rw [hmay]
      rintro e w2 ⟨rfl, bb⟩
      have M2 := Lib.hid (M1.out.keep bb)
      have U2 := Lib.hid (U1.out.keep bb)
      have B2 := Lib.hid (below_then B1.out bb)
      clear bb cM0 cM1 M1 U1 B1
      go_wp2_with fail
      go_ret
      exact ⟨rfl, B2.out⟩
    · have h200' : decide ((200 : Int) < (nb : Int)) = false := by simp; omega
      have HBL : Hid (bs.length ≤ 200) := by rw [HU.out.len]; show _ ≤ _; omega
      have HL1 : Hid (m.1.length ≤ 65536) := by rw [HM.out.len1]; show _ ≤ _; omega
      have HK1 : Hid (m.2.length < 1000) := by rw [HM.out.len2]; show _ < _; omega
      obtain ⟨E1, hE1⟩ : ∃ x, codeF (okB L p n) = x := ⟨_, rfl⟩
      have HE1 := Lib.hid hE1
      clear hE1
      obtain ⟨X1, hX1⟩ : ∃ x, textF m p n = x := ⟨_, rfl⟩
      have HX1 := Lib.hid hX1
      clear hX1
      obtain ⟨E2, hE2⟩ : ∃ x, codeF (okB m.1.length p bs.length) = x := ⟨_, rfl⟩
      have HE2 := Lib.hid hE2
      clear hE2
      obtain ⟨X2, hX2⟩ : ∃ x, writeF m p bs = x := ⟨_, rfl⟩
      have HX2 := Lib.hid hX2
      clear hX2
      obtain ⟨X3, hX3⟩ : ∃ x, fillF m p n t = x := ⟨_, rfl⟩
      have HX3 := Lib.hid hX3
      clear hX3
      obtain ⟨E4, hE4⟩ : ∃ x, moveC m p t n = x := ⟨_, rfl⟩
      have HE4 := Lib.hid hE4
      clear hE4
      obtain ⟨X4, hX4⟩ : ∃ x, moveF m p t n = x := ⟨_, rfl⟩
      have HX4 := Lib.hid hX4
      clear hX4
      go_enter Try.func4, Try.ntmps4
      go_wp2_with fail
      refine (shown_any _).mono ?_
      rintro e w1 ⟨rfl, bb⟩
      have M1 := Lib.hid ((start6 HM.out _).keep bb)
      have U1 := Lib.hid ((HU.out.keep (((Below.refl _ w).alloc (Nat.le_refl _) _).alloc (by simp) _)).keep bb)
      have B1 := Lib.hid (below_two bb)
      clear bb
      obtain ⟨cM0, cM1⟩ := M1.out.use
      go_wp2_with fail
      refine (may_at _ _ _ _ _ _ m _ M1.out.mem).mono ?_
      rw [hmay]
      rintro e w2 ⟨rfl, bb⟩
      have M2 := Lib.hid (M1.out.keep bb)
      have U2 := Lib.hid (U1.out.keep bb)
      have B2 := Lib.hid (below_then B1.out bb)
      clear bb cM0 cM1 M1 U1 B1
      obtain ⟨cM0, cM1⟩ := M2.out.use
      go_wp2_with fail
      refine (text_at _ _ _ _ _ _ m _ _ _ M2.out.mem (by omega) hn1).mono ?_
      rw [HE1.out, HX1.out]
      rintro e w3 ⟨Ba, ka, ea, rfl, hta, bb⟩
      have M3 := Lib.hid (M2.out.keep bb)
      have U3 := Lib.hid (U2.out.keep bb)
      have B3 := Lib.hid (below_then B2.out bb)
      have S3 := Lib.hid hta
      clear bb cM0 cM1 M2 U2 B2 hta
      obtain ⟨cM0, cM1⟩ := M3.out.use
      go_wp2_with fail
      refine (rtext_at _ _ _ _ _ _ m _ _ _ M3.out.mem (by omega) hn1).mono ?_
      rw [HE1.out, HX1.out]
      rintro e w4 ⟨Bb, kb, eb, rfl, htb, bb⟩
      have M4 := Lib.hid (M3.out.keep bb)
      have U4 := Lib.hid (U3.out.keep bb)
      have S4 := Lib.hid (S3.out.keep bb)
      have B4 := Lib.hid (below_then B3.out bb)
      have R4 := Lib.hid htb
      clear bb cM0 cM1 M3 U3 S3 B3 htb
      obtain ⟨cM0, cM1⟩ := M4.out.use
      go_wp2_with fail
      refine (write_sl _ _ m bs _ _ M4.out.mem U4.out HL1.out HK1.out (by have := HBL.out; omega)).mono ?_
      rw [HE2.out, HX2.out]
      rintro e w5 ⟨A1, L1, c1, P1, K1, d1, rfl, hx1, bb⟩
      have Mp := Lib.hid (M4.out.keep bb)
      have M5 := Lib.hid (Mp.out.keep (al_one _ (.cells #[.slice A1 L1 c1, .slice P1 K1 d1] 25)))
      have Up := Lib.hid (U4.out.keep bb)
      have U5 := Lib.hid (Up.out.keep (al_one _ (.cells #[.slice A1 L1 c1, .slice P1 K1 d1] 25)))
      have Sp := Lib.hid (S4.out.keep bb)
      have S5 := Lib.hid (Sp.out.keep (al_one _ (.cells #[.slice A1 L1 c1, .slice P1 K1 d1] 25)))
      have Rp := Lib.hid (R4.out.keep bb)
      have R5 := Lib.hid (Rp.out.keep (al_one _ (.cells #[.slice A1 L1 c1, .slice P1 K1 d1] 25)))
      have B5 := Lib.hid (below_then (below_then B4.out bb) (al_one _ (.cells #[.slice A1 L1 c1, .slice P1 K1 d1] 25)))
      have Xa5 := Lib.hid (at_new hx1)
      clear bb cM0 cM1 M4 U4 S4 R4 B4 hx1
      obtain ⟨cM0, cM1⟩ := Mp.out.use
      have lM := Mp.out.lt
      go_wp2_with fail
      refine (rwrite_sl _ _ m bs _ _ M5.out.mem U5.out HL1.out HK1.out (by have := HBL.out; omega)).mono ?_
      rw [HE2.out, HX2.out]
      rintro e w6 ⟨A2, L2, c2, P2, K2, d2, rfl, hx2, bb⟩
      clear Mp Up Sp Rp
      have Mp := Lib.hid (M5.out.keep bb)
      have M6 := Lib.hid (Mp.out.keep (al_one _ (.cells #[.slice A2 L2 c2, .slice P2 K2 d2] 25)))
      have Up := Lib.hid (U5.out.keep bb)
      have U6 := Lib.hid (Up.out.keep (al_one _ (.cells #[.slice A2 L2 c2, .slice P2 K2 d2] 25)))
      have Sp := Lib.hid (S5.out.keep bb)
      have S6 := Lib.hid (Sp.out.keep (al_one _ (.cells #[.slice A2 L2 c2, .slice P2 K2 d2] 25)))
      have Rp := Lib.hid (R5.out.keep bb)
      have R6 := Lib.hid (Rp.out.keep (al_one _ (.cells #[.slice A2 L2 c2, .slice P2 K2 d2] 25)))
      have Xap := Lib.hid (Xa5.out.keep bb)
      have Xa6 := Lib.hid (Xap.out.keep (al_one _ (.cells #[.slice A2 L2 c2, .slice P2 K2 d2] 25)))
      have B6 := Lib.hid (below_then (below_then B5.out bb) (al_one _ (.cells #[.slice A2 L2 c2, .slice P2 K2 d2] 25)))
      have Xb6 := Lib.hid (at_new hx2)
      clear bb cM0 cM1 lM M5 U5 S5 R5 Xa5 B5 hx2
      obtain ⟨cM0, cM1⟩ := Mp.out.use
      have lM := Mp.out.lt
      go_wp2_with fail
      refine (fill_at _ _ _ _ _ _ m _ _ _ _ M6.out.mem (by omega) (by omega) hn1).mono ?_
      rw [HE1.out, HX3.out]
      rintro e w7 ⟨A3, L3, c3, P3, K3, d3, rfl, hx3, bb⟩
      clear Mp Up Sp Rp Xap
      have Mp := Lib.hid (M6.out.keep bb)
      have M7 := Lib.hid (Mp.out.keep (al_one _ (.cells #[.slice A3 L3 c3, .slice P3 K3 d3] 25)))
      have Up := Lib.hid (U6.out.keep bb)
      have U7 := Lib.hid (Up.out.keep (al_one _ (.cells #[.slice A3 L3 c3, .slice P3 K3 d3] 25)))
      have Sp := Lib.hid (S6.out.keep bb)
      have S7 := Lib.hid (Sp.out.keep (al_one _ (.cells #[.slice A3 L3 c3, .slice P3 K3 d3] 25)))
      have Rp := Lib.hid (R6.out.keep bb)
      have R7 := Lib.hid (Rp.out.keep (al_one _ (.cells #[.slice A3 L3 c3, .slice P3 K3 d3] 25)))
      have Xap := Lib.hid (Xa6.out.keep bb)
      have Xa7 := Lib.hid (Xap.out.keep (al_one _ (.cells #[.slice A3 L3 c3, .slice P3 K3 d3] 25)))
      have Xbp := Lib.hid (Xb6.out.keep bb)
      have Xb7 := Lib.hid (Xbp.out.keep (al_one _ (.cells #[.slice A3 L3 c3, .slice P3 K3 d3] 25)))
      have B7 := Lib.hid (below_then (below_then B6.out bb) (al_one _ (.cells #[.slice A3 L3 c3, .slice P3 K3 d3] 25)))
      have Ya7 := Lib.hid (at_new hx3)
      clear bb cM0 cM1 lM M6 U6 S6 R6 Xa6 Xb6 B6 hx3
      obtain ⟨cM0, cM1⟩ := Mp.out.use
      have lM := Mp.out.lt
      go_wp2_with fail
      refine (rfill_at _ _ _ _ _ _ m _ _ _ _ M7.out.mem (by omega) (by omega) hn1).mono ?_
      rw [HE1.out, HX3.out]
      rintro e w8 ⟨A4, L4, c4, P4, K4, d4, rfl, hx4, bb⟩
      clear Mp Up Sp Rp Xap Xbp
      have Mp := Lib.hid (M7.out.keep bb)
      have M8 := Lib.hid (Mp.out.keep (al_one _ (.cells #[.slice A4 L4 c4, .slice P4 K4 d4] 25)))
      have Up := Lib.hid (U7.out.keep bb)
      have U8 := Lib.hid (Up.out.keep (al_one _ (.cells #[.slice A4 L4 c4, .slice P4 K4 d4] 25)))
      have Sp := Lib.hid (S7.out.keep bb)
      have S8 := Lib.hid (Sp.out.keep (al_one _ (.cells #[.slice A4 L4 c4, .slice P4 K4 d4] 25)))
      have Rp := Lib.hid (R7.out.keep bb)
      have R8 := Lib.hid (Rp.out.keep (al_one _ (.cells #[.slice A4 L4 c4, .slice P4 K4 d4] 25)))
      have Xap := Lib.hid (Xa7.out.keep bb)
      have Xa8 := Lib.hid (Xap.out.keep (al_one _ (.cells #[.slice A4 L4 c4, .slice P4 K4 d4] 25)))
      have Xbp := Lib.hid (Xb7.out.keep bb)
      have Xb8 := Lib.hid (Xbp.out.keep (al_one _ (.cells #[.slice A4 L4 c4, .slice P4 K4 d4] 25)))
      have Yap := Lib.hid (Ya7.out.keep bb)
      have Ya8 := Lib.hid (Yap.out.keep (al_one _ (.cells #[.slice A4 L4 c4, .slice P4 K4 d4] 25)))
      have B8 := Lib.hid (below_then (below_then B7.out bb) (al_one _ (.cells #[.slice A4 L4 c4, .slice P4 K4 d4] 25)))
      have Yb8 := Lib.hid (at_new hx4)
      clear bb cM0 cM1 lM M7 U7 S7 R7 Xa7 Xb7 Ya7 B7 hx4
      obtain ⟨cM0, cM1⟩ := Mp.out.use
      have lM := Mp.out.lt
      go_wp2_with fail
      refine (move_at _ _ _ _ _ _ m _ _ _ _ M8.out.mem (by omega) (by omega) hn1).mono ?_
      rw [HE4.out, HX4.out]
      rintro e w9 ⟨A5, L5, c5, P5, K5, d5, rfl, hx5, bb⟩
      clear Mp Up Sp Rp Xap Xbp Yap
      have Mp := Lib.hid (M8.out.keep bb)
      have M9 := Lib.hid (Mp.out.keep (al_one _ (.cells #[.slice A5 L5 c5, .slice P5 K5 d5] 25)))
      have Up := Lib.hid (U8.out.keep bb)
      have U9 := Lib.hid (Up.out.keep (al_one _ (.cells #[.slice A5 L5 c5, .slice P5 K5 d5] 25)))
      have Sp := Lib.hid (S8.out.keep bb)
      have S9 := Lib.hid (Sp.out.keep (al_one _ (.cells #[.slice A5 L5 c5, .slice P5 K5 d5] 25)))
      have Rp := Lib.hid (R8.out.keep bb)
      have R9 := Lib.hid (Rp.out.keep (al_one _ (.cells #[.slice A5 L5 c5, .slice P5 K5 d5] 25)))
      have Xap := Lib.hid (Xa8.out.keep bb)
      have Xa9 := Lib.hid (Xap.out.keep (al_one _ (.cells #[.slice A5 L5 c5, .slice P5 K5 d5] 25)))
      have Xbp := Lib.hid (Xb8.out.keep bb)
      have Xb9 := Lib.hid (Xbp.out.keep (al_one _ (.cells #[.slice A5 L5 c5, .slice P5 K5 d5] 25)))
      have Yap := Lib.hid (Ya8.out.keep bb)
      have Ya9 := Lib.hid (Yap.out.keep (al_one _ (.cells #[.slice A5 L5 c5, .slice P5 K5 d5] 25)))
      have Ybp := Lib.hid (Yb8.out.keep bb)
      have Yb9 := Lib.hid (Ybp.out.keep (al_one _ (.cells #[.slice A5 L5 c5, .slice P5 K5 d5] 25)))
      have B9 := Lib.hid (below_then (below_then B8.out bb) (al_one _ (.cells #[.slice A5 L5 c5, .slice P5 K5 d5] 25)))
      have Za9 := Lib.hid (at_new hx5)
      clear bb cM0 cM1 lM M8 U8 S8 R8 Xa8 Xb8 Ya8 Yb8 B8 hx5
      obtain ⟨cM0, cM1⟩ := Mp.out.use
      have lM := Mp.out.lt
      go_wp2_with fail
      refine (rmove_at _ _ _ _ _ _ m _ _ _ _ M9.out.mem (by omega) (by omega) hn1).mono ?_
      rw [HE4.out, HX4.out]
      rintro e w10 ⟨A6, L6, c6, P6, K6, d6, rfl, hx6, bb⟩
      clear Mp Up Sp Rp Xap Xbp Yap Ybp
      have Mp := Lib.hid (M9.out.keep bb)
      have M10 := Lib.hid (Mp.out.keep (al_one _ (.cells #[.slice A6 L6 c6, .slice P6 K6 d6] 25)))
      have Up := Lib.hid (U9.out.keep bb)
      have U10 := Lib.hid (Up.out.keep (al_one _ (.cells #[.slice A6 L6 c6, .slice P6 K6 d6] 25)))
      have Sp := Lib.hid (S9.out.keep bb)
      have S10 := Lib.hid (Sp.out.keep (al_one _ (.cells #[.slice A6 L6 c6, .slice P6 K6 d6] 25)))
      have Rp := Lib.hid (R9.out.keep bb)
      have R10 := Lib.hid (Rp.out.keep (al_one _ (.cells #[.slice A6 L6 c6, .slice P6 K6 d6] 25)))
      have Xap := Lib.hid (Xa9.out.keep bb)
      have Xa10 := Lib.hid (Xap.out.keep (al_one _ (.cells #[.slice A6 L6 c6, .slice P6 K6 d6] 25)))
      have Xbp := Lib.hid (Xb9.out.keep bb)
      have Xb10 := Lib.hid (Xbp.out.keep (al_one _ (.cells #[.slice A6 L6 c6, .slice P6 K6 d6] 25)))
      have Yap := Lib.hid (Ya9.out.keep bb)
      have Ya10 := Lib.hid (Yap.out.keep (al_one _ (.cells #[.slice A6 L6 c6, .slice P6 K6 d6] 25)))
      have Ybp := Lib.hid (Yb9.out.keep bb)
      have Yb10 := Lib.hid (Ybp.out.keep (al_one _ (.cells #[.slice A6 L6 c6, .slice P6 K6 d6] 25)))
      have Zap := Lib.hid (Za9.out.keep bb)
      have Za10 := Lib.hid (Zap.out.keep (al_one _ (.cells #[.slice A6 L6 c6, .slice P6 K6 d6] 25)))
      have B10 := Lib.hid (below_then (below_then B9.out bb) (al_one _ (.cells #[.slice A6 L6 c6, .slice P6 K6 d6] 25)))
      have Zb10 := Lib.hid (at_new hx6)
      clear bb cM0 cM1 lM M9 U9 S9 R9 Xa9 Xb9 Ya9 Yb9 Za9 B9 hx6
      have cv1 := S10.out.conv
      have cv2 := R10.out.conv
      generalize strB X1 = st at cv1 cv2
      obtain ⟨cXa0, cXa1⟩ := Xap.out.use
      have lXa := Xap.out.lt
      obtain ⟨cXb0, cXb1⟩ := Xbp.out.use
      have lXb := Xbp.out.lt
      go_wp2_with fail
      refine (rsame_eq _ _ _ _ _ _ _ _ _ _ _ _ X2 _ Xa10.out.mem Xb10.out.mem).mono ?_
      rintro e w11 ⟨rfl, bb⟩
      clear Mp Up Sp Rp Xap Xbp Yap Ybp Zap
      have M11 := Lib.hid (M10.out.keep bb)
      have U11 := Lib.hid (U10.out.keep bb)
      have S11 := Lib.hid (S10.out.keep bb)
      have R11 := Lib.hid (R10.out.keep bb)
      have Xa11 := Lib.hid (Xa10.out.keep bb)
      have Xb11 := Lib.hid (Xb10.out.keep bb)
      have Ya11 := Lib.hid (Ya10.out.keep bb)
      have Yb11 := Lib.hid (Yb10.out.keep bb)
      have Za11 := Lib.hid (Za10.out.keep bb)
      have Zb11 := Lib.hid (Zb10.out.keep bb)
      have B11 := Lib.hid (below_then B10.out bb)
      clear bb cXa0 cXa1 lXa cXb0 cXb1 lXb cv1 cv2 M10 U10 S10 R10 Xa10 Xb10 Ya10 Yb10 Za10 Zb10 B10
      obtain ⟨cYa0, cYa1⟩ := Ya11.out.use
      obtain ⟨cYb0, cYb1⟩ := Yb11.out.use
      go_wp2_with fail
      refine (rsame_eq _ _ _ _ _ _ _ _ _ _ _ _ X3 _ Ya11.out.mem Yb11.out.mem).mono ?_
      rintro e w12 ⟨rfl, bb⟩
      have M12 := Lib.hid (M11.out.keep bb)
      have U12 := Lib.hid (U11.out.keep bb)
      have S12 := Lib.hid (S11.out.keep bb)
      have R12 := Lib.hid (R11.out.keep bb)
      have Xa12 := Lib.hid (Xa11.out.keep bb)
      have Xb12 := Lib.hid (Xb11.out.keep bb)
      have Ya12 := Lib.hid (Ya11.out.keep bb)
      have Yb12 := Lib.hid (Yb11.out.keep bb)
      have Za12 := Lib.hid (Za11.out.keep bb)
      have Zb12 := Lib.hid (Zb11.out.keep bb)
      have B12 := Lib.hid (below_then B11.out bb)
      clear bb cYa0 cYa1 cYb0 cYb1 M11 U11 S11 R11 Xa11 Xb11 Ya11 Yb11 Za11 Zb11 B11
      obtain ⟨cZa0, cZa1⟩ := Za12.out.use
      obtain ⟨cZb0, cZb1⟩ := Zb12.out.use
      go_wp2_with fail
      refine (rsame_eq _ _ _ _ _ _ _ _ _ _ _ _ X4 _ Za12.out.mem Zb12.out.mem).mono ?_
      rintro e w13 ⟨rfl, bb⟩
      have M13 := Lib.hid (M12.out.keep bb)
      have U13 := Lib.hid (U12.out.keep bb)
      have S13 := Lib.hid (S12.out.keep bb)
      have R13 := Lib.hid (R12.out.keep bb)
      have Xa13 := Lib.hid (Xa12.out.keep bb)
      have Xb13 := Lib.hid (Xb12.out.keep bb)
      have Ya13 := Lib.hid (Ya12.out.keep bb)
      have Yb13 := Lib.hid (Yb12.out.keep bb)
      have Za13 := Lib.hid (Za12.out.keep bb)
      have Zb13 := Lib.hid (Zb12.out.keep bb)
      have B13 := Lib.hid (below_then B12.out bb)
      clear bb cZa0 cZa1 cZb0 cZb1 M12 U12 S12 R12 Xa12 Xb12 Ya12 Yb12 Za12 Zb12 B12
      go_wp2_with fail
      go_ret
      exact ⟨rfl, B13.out⟩
end Go.Proofs.Ytngmkbbeafefaaa
