/- The walk of MemTwo where both are there. -/
import Derived.Test.YtngmkbbeafefaaaMemTextsA
import Derived.Test.YtngmkbbeafefaaaMemMath
import Derived.Deep.RegionHeld3
namespace Go.Proofs.Ytngmkbbeafefaaa
open Go.RowKit
set_option linter.unusedVariables false
set_option linter.unusedSimpArgs false

set_option maxRecDepth 100000 in
set_option maxHeartbeats 16000000 in
theorem two_yy_nb0 (A P Ab Ac : Option Addr) (L c K d nb cb nc cc : Nat) (m : PM) (bs cs : List UInt8) (p t : Int) (w : World) (HM : Hid (IsMem w (.agg #[.slice A L c, .slice P K d]) m)) (HU : Hid (Byt w (.slice Ab nb cb) bs)) (HV : Hid (Byt w (.slice Ac nc cc) cs)) (hnb : nb ≤ 9223372036854775807) (hnc : nc ≤ 9223372036854775807) (X1 Y1 G1 Q1 : PM) (hmay : (fewB m 600 && rightB m) = true) (h1 : decide ((100 : Int) < (nb : Int)) = false) (h2 : decide ((100 : Int) < (nc : Int)) = false) (HX1 : Hid (writeF m p bs = X1)) (HY1 : Hid (writeF X1 t cs = Y1)) (HP1 : Hid (writeF m t cs = G1)) (HQ1 : Hid (writeF G1 p bs = Q1)) (HF1 : Hid (codeF (okB m.1.length p bs.length) = 0)) (HF2 : Hid (codeF (okB m.1.length t cs.length) = 0)) (HF3 : Hid (codeF (okB X1.1.length t cs.length) = 0)) (HF4 : Hid (codeF (okB G1.1.length p bs.length) = 0)) (HBL : Hid (bs.length ≤ 65536)) (HCL : Hid (cs.length ≤ 65536)) (HML : Hid (m.1.length ≤ 65536 ∧ m.2.length < 1000)) (HML1 : Hid (X1.1.length ≤ 65536 ∧ X1.2.length < 1000)) (HML2 : Hid (G1.1.length ≤ 65536 ∧ G1.2.length < 1000)) (Z1 : PM) (hp0 : -9223372036854775808 ≤ p) (hp1 : p ≤ 9223372036854775807) (ht0 : -9223372036854775808 ≤ t) (ht1 : t ≤ 9223372036854775807) (HZ1 : Hid (writeF Y1 t cs = Z1)) (HF5 : Hid (codeF (okB Y1.1.length t cs.length) = 0)) (HML3 : Hid (Y1.1.length ≤ 65536 ∧ Y1.2.length < 1000)) (HZ : Hid (Z1.1 = Y1.1)) (HE : Hid (Y1.1 = Q1.1)) (q1 : ((nb : Int) == 0) = true) :
    Calls Try.prog 10 #[.agg #[.slice A L c, .slice P K d, .int .i64 p, .int .i64 t, .slice Ab nb cb, .slice Ac nc cc]] w fun e w' => e = .returned (.bool true) ∧ Below w.heap.size w w' := by
  go_enter Try.func10, Try.ntmps10
  go_wp2_with fail
  refine (shown_any _).mono ?_
  rintro e w1 ⟨rfl, bb⟩
  have M1 := Lib.hid ((start6 HM.out _).keep bb)
  have U1 := Lib.hid ((HU.out.keep (((Below.refl _ w).alloc (Nat.le_refl _) _).alloc (by simp) _)).keep bb)
  have V1 := Lib.hid ((HV.out.keep (((Below.refl _ w).alloc (Nat.le_refl _) _).alloc (by simp) _)).keep bb)
  have B1 := Lib.hid (below_two bb)
  clear bb
  obtain ⟨cM0, cM1⟩ := M1.out.use
  go_wp2_with fail
  refine (may_at _ _ _ _ _ _ m _ M1.out.mem).mono ?_
  rw [hmay]
  rintro e w2 ⟨rfl, bb⟩
  have M2 := Lib.hid (M1.out.keep bb)
  have U2 := Lib.hid (U1.out.keep bb)
  have V2 := Lib.hid (V1.out.keep bb)
  have B2 := Lib.hid (below_then B1.out bb)
  clear bb cM0 cM1 M1 U1 V1 B1
  obtain ⟨cM0, cM1⟩ := M2.out.use
  go_wp2_with fail
  refine (write_sl _ _ m bs _ _ M2.out.mem U2.out HML.out.1 HML.out.2 HBL.out).mono ?_
  rw [HF1.out, HX1.out]
  rintro e w3 ⟨A1, L1, c1, P1, K1, d1, rfl, hx1, bb⟩
  have Mp := Lib.hid (M2.out.keep bb)
  have M3 := Lib.hid (Mp.out.keep (al_one _ (.cells #[.slice A1 L1 c1, .slice P1 K1 d1] 25)))
  have Up := Lib.hid (U2.out.keep bb)
  have U3 := Lib.hid (Up.out.keep (al_one _ (.cells #[.slice A1 L1 c1, .slice P1 K1 d1] 25)))
  have Vp := Lib.hid (V2.out.keep bb)
  have V3 := Lib.hid (Vp.out.keep (al_one _ (.cells #[.slice A1 L1 c1, .slice P1 K1 d1] 25)))
  have B3 := Lib.hid (below_then (below_then B2.out bb) (al_one _ (.cells #[.slice A1 L1 c1, .slice P1 K1 d1] 25)))
  have X3 := Lib.hid (at_new hx1)
  clear bb cM0 cM1 M2 U2 V2 B2 hx1
  go_wp2_with fail
  refine (write_sl _ _ X1 cs _ _ X3.out.mem V3.out HML1.out.1 HML1.out.2 HCL.out).mono ?_
  rw [HF3.out, HY1.out]
  rintro e w4 ⟨A2, L2, c2, P2, K2, d2, rfl, hx2, bb⟩
  clear Mp Up Vp
  have Mp := Lib.hid (M3.out.keep bb)
  have M4 := Lib.hid (Mp.out.keep (al_one _ (.cells #[.slice A2 L2 c2, .slice P2 K2 d2] 25)))
  have Up := Lib.hid (U3.out.keep bb)
  have U4 := Lib.hid (Up.out.keep (al_one _ (.cells #[.slice A2 L2 c2, .slice P2 K2 d2] 25)))
  have Vp := Lib.hid (V3.out.keep bb)
  have V4 := Lib.hid (Vp.out.keep (al_one _ (.cells #[.slice A2 L2 c2, .slice P2 K2 d2] 25)))
  have Xp := Lib.hid (X3.out.keep bb)
  have X4 := Lib.hid (Xp.out.keep (al_one _ (.cells #[.slice A2 L2 c2, .slice P2 K2 d2] 25)))
  have B4 := Lib.hid (below_then (below_then B3.out bb) (al_one _ (.cells #[.slice A2 L2 c2, .slice P2 K2 d2] 25)))
  have Y4 := Lib.hid (at_new hx2)
  clear bb M3 U3 V3 X3 B3 hx2
  obtain ⟨cM0, cM1⟩ := Mp.out.use
  have lM := Mp.out.lt
  go_wp2_with fail
  refine (write_sl _ _ m cs _ _ M4.out.mem V4.out HML.out.1 HML.out.2 HCL.out).mono ?_
  rw [HF2.out, HP1.out]
  rintro e w5 ⟨A3, L3, c3, P3, K3, d3, rfl, hx3, bb⟩
  clear Mp Up Vp Xp
  have Mp := Lib.hid (M4.out.keep bb)
  have M5 := Lib.hid (Mp.out.keep (al_one _ (.cells #[.slice A3 L3 c3, .slice P3 K3 d3] 25)))
  have Up := Lib.hid (U4.out.keep bb)
  have U5 := Lib.hid (Up.out.keep (al_one _ (.cells #[.slice A3 L3 c3, .slice P3 K3 d3] 25)))
  have Vp := Lib.hid (V4.out.keep bb)
  have V5 := Lib.hid (Vp.out.keep (al_one _ (.cells #[.slice A3 L3 c3, .slice P3 K3 d3] 25)))
  have Xp := Lib.hid (X4.out.keep bb)
  have X5 := Lib.hid (Xp.out.keep (al_one _ (.cells #[.slice A3 L3 c3, .slice P3 K3 d3] 25)))
  have Yp := Lib.hid (Y4.out.keep bb)
  have Y5 := Lib.hid (Yp.out.keep (al_one _ (.cells #[.slice A3 L3 c3, .slice P3 K3 d3] 25)))
  have B5 := Lib.hid (below_then (below_then B4.out bb) (al_one _ (.cells #[.slice A3 L3 c3, .slice P3 K3 d3] 25)))
  have Pm5 := Lib.hid (at_new hx3)
  clear bb cM0 cM1 lM M4 U4 V4 X4 Y4 B4 hx3
  go_wp2_with fail
  refine (write_sl _ _ G1 bs _ _ Pm5.out.mem U5.out HML2.out.1 HML2.out.2 HBL.out).mono ?_
  rw [HF4.out, HQ1.out]
  rintro e w6 ⟨A4, L4, c4, P4, K4, d4, rfl, hx4, bb⟩
  clear Mp Up Vp Xp Yp
  have Mp := Lib.hid (M5.out.keep bb)
  have M6 := Lib.hid (Mp.out.keep (al_one _ (.cells #[.slice A4 L4 c4, .slice P4 K4 d4] 25)))
  have Up := Lib.hid (U5.out.keep bb)
  have U6 := Lib.hid (Up.out.keep (al_one _ (.cells #[.slice A4 L4 c4, .slice P4 K4 d4] 25)))
  have Vp := Lib.hid (V5.out.keep bb)
  have V6 := Lib.hid (Vp.out.keep (al_one _ (.cells #[.slice A4 L4 c4, .slice P4 K4 d4] 25)))
  have Xp := Lib.hid (X5.out.keep bb)
  have X6 := Lib.hid (Xp.out.keep (al_one _ (.cells #[.slice A4 L4 c4, .slice P4 K4 d4] 25)))
  have Yp := Lib.hid (Y5.out.keep bb)
  have Y6 := Lib.hid (Yp.out.keep (al_one _ (.cells #[.slice A4 L4 c4, .slice P4 K4 d4] 25)))
  have Pmp := Lib.hid (Pm5.out.keep bb)
  have Pm6 := Lib.hid (Pmp.out.keep (al_one _ (.cells #[.slice A4 L4 c4, .slice P4 K4 d4] 25)))
  have B6 := Lib.hid (below_then (below_then B5.out bb) (al_one _ (.cells #[.slice A4 L4 c4, .slice P4 K4 d4] 25)))
  have Q6 := Lib.hid (at_new hx4)
  clear bb M5 U5 V5 X5 Y5 Pm5 B5 hx4
  obtain ⟨cY0, cY1⟩ := Yp.out.use
  have lY := Yp.out.lt
  go_wp2_with fail
  refine (write_sl _ _ Y1 cs _ _ Y6.out.mem V6.out HML3.out.1 HML3.out.2 HCL.out).mono ?_
  rw [HF5.out, HZ1.out]
  rintro e w7 ⟨A5, L5, c5, P5, K5, d5, rfl, hx5, bb⟩
  clear Mp Up Vp Xp Yp Pmp
  have Mp := Lib.hid (M6.out.keep bb)
  have M7 := Lib.hid (Mp.out.keep (al_one _ (.cells #[.slice A5 L5 c5, .slice P5 K5 d5] 25)))
  have Up := Lib.hid (U6.out.keep bb)
  have U7 := Lib.hid (Up.out.keep (al_one _ (.cells #[.slice A5 L5 c5, .slice P5 K5 d5] 25)))
  have Vp := Lib.hid (V6.out.keep bb)
  have V7 := Lib.hid (Vp.out.keep (al_one _ (.cells #[.slice A5 L5 c5, .slice P5 K5 d5] 25)))
  have Xp := Lib.hid (X6.out.keep bb)
  have X7 := Lib.hid (Xp.out.keep (al_one _ (.cells #[.slice A5 L5 c5, .slice P5 K5 d5] 25)))
  have Yp := Lib.hid (Y6.out.keep bb)
  have Y7 := Lib.hid (Yp.out.keep (al_one _ (.cells #[.slice A5 L5 c5, .slice P5 K5 d5] 25)))
  have Pmp := Lib.hid (Pm6.out.keep bb)
  have Pm7 := Lib.hid (Pmp.out.keep (al_one _ (.cells #[.slice A5 L5 c5, .slice P5 K5 d5] 25)))
  have Qp := Lib.hid (Q6.out.keep bb)
  have Q7 := Lib.hid (Qp.out.keep (al_one _ (.cells #[.slice A5 L5 c5, .slice P5 K5 d5] 25)))
  have B7 := Lib.hid (below_then (below_then B6.out bb) (al_one _ (.cells #[.slice A5 L5 c5, .slice P5 K5 d5] 25)))
  have Z7 := Lib.hid (at_new hx5)
  clear bb cY0 cY1 lY M6 U6 V6 X6 Y6 Pm6 Q6 B6 hx5
  obtain ⟨st, cvE_Y⟩ : ∃ st, strB Y1.1 = st := ⟨_, rfl⟩
  have cvE_Z : strB Z1.1 = st := by rw [HZ.out]; exact cvE_Y
  have cvE_Q : strB Q1.1 = st := by rw [← HE.out]; exact cvE_Y
  have hfield : ∀ a : World, (Instr.field 25 (.agg #[.slice A2 L2 c2, .slice none 0 0]) 0).run Try.prog a = .ok (.slice A2 L2 c2) a := fun _ => by kernel_rfl
  clear M7 Mp
  clear U7 Up
  clear V7 Vp
  clear X7 Xp
  clear Pm7 Pmp
  obtain ⟨W, hW⟩ : ∃ W, w7.alloc (.cells #[.slice A5 L5 c5, .slice P5 K5 d5] 25) = W := ⟨_, rfl⟩
  rw [hW] at B7 Y7 Z7 Q7
  have HW := Lib.hid hW
  clear hW
  obtain ⟨Z, zs, zk, zd, zz⟩ : ∃ Z : World → Prop, (∀ a, Z a → a.cell? ⟨w4.heap.size, 0, none⟩ = some (.slice A2 L2 c2) ∧ a.cell? ⟨w4.heap.size, 1, none⟩ = some (.slice P2 K2 d2) ∧ a.cell? ⟨w7.heap.size, 0, none⟩ = some (.slice A5 L5 c5) ∧ a.cell? ⟨w7.heap.size, 1, none⟩ = some (.slice P5 K5 d5) ∧ a.cell? ⟨w6.heap.size, 0, none⟩ = some (.slice A4 L4 c4) ∧ a.cell? ⟨w6.heap.size, 1, none⟩ = some (.slice P4 K4 d4) ∧ (convert 22 9 (.slice A2 L2 c2)).run Try.prog a = .ok (.string st) a ∧ (convert 22 9 (.slice A5 L5 c5)).run Try.prog a = .ok (.string st) a ∧ (convert 22 9 (.slice A4 L4 c4)).run Try.prog a = .ok (.string st) a ∧ Z a) ∧ (∀ a b, Z a → Below a.heap.size a b → Z b) ∧ (∀ a, Z a → Z a.drew) ∧ (Z W ∧ ∀ a, Z a → Below w.heap.size w a ∧ At w4.heap.size A2 P2 L2 c2 K2 d2 Y1 a ∧ At w7.heap.size A5 P5 L5 c5 K5 d5 Z1 a ∧ At w6.heap.size A4 P4 L4 c4 K4 d4 Q1 a) :=
    ⟨fun a => Below w.heap.size w a ∧ At w4.heap.size A2 P2 L2 c2 K2 d2 Y1 a ∧ At w7.heap.size A5 P5 L5 c5 K5 d5 Z1 a ∧ At w6.heap.size A4 P4 L4 c4 K4 d4 Q1 a, fun a h => ⟨h.2.1.use.1, h.2.1.use.2, h.2.2.1.use.1, h.2.2.1.use.2, h.2.2.2.use.1, h.2.2.2.use.2, ((cvE_Y ▸ (h.2.1).mem.byt.conv)), ((cvE_Z ▸ (h.2.2.1).mem.byt.conv)), ((cvE_Q ▸ (h.2.2.2).mem.byt.conv)), h⟩, fun a b h k => ⟨below_then h.1 k, h.2.1.keep k, h.2.2.1.keep k, h.2.2.2.keep k⟩, fun a h => ⟨h.1.drew, h.2.1, h.2.2.1, h.2.2.2⟩, ⟨B7.out, Y7.out, Z7.out, Q7.out⟩, fun a h => h⟩
  have ZS : Hid (∀ a, (a.cell? ⟨w4.heap.size, 0, none⟩ = some (.slice A2 L2 c2) ∧ a.cell? ⟨w4.heap.size, 1, none⟩ = some (.slice P2 K2 d2) ∧ a.cell? ⟨w7.heap.size, 0, none⟩ = some (.slice A5 L5 c5) ∧ a.cell? ⟨w7.heap.size, 1, none⟩ = some (.slice P5 K5 d5) ∧ a.cell? ⟨w6.heap.size, 0, none⟩ = some (.slice A4 L4 c4) ∧ a.cell? ⟨w6.heap.size, 1, none⟩ = some (.slice P4 K4 d4) ∧ (convert 22 9 (.slice A2 L2 c2)).run Try.prog a = .ok (.string st) a ∧ (convert 22 9 (.slice A5 L5 c5)).run Try.prog a = .ok (.string st) a ∧ (convert 22 9 (.slice A4 L4 c4)).run Try.prog a = .ok (.string st) a ∧ Z a) → (a.drew.cell? ⟨w4.heap.size, 0, none⟩ = some (.slice A2 L2 c2) ∧ a.drew.cell? ⟨w4.heap.size, 1, none⟩ = some (.slice P2 K2 d2) ∧ a.drew.cell? ⟨w7.heap.size, 0, none⟩ = some (.slice A5 L5 c5) ∧ a.drew.cell? ⟨w7.heap.size, 1, none⟩ = some (.slice P5 K5 d5) ∧ a.drew.cell? ⟨w6.heap.size, 0, none⟩ = some (.slice A4 L4 c4) ∧ a.drew.cell? ⟨w6.heap.size, 1, none⟩ = some (.slice P4 K4 d4) ∧ (convert 22 9 (.slice A2 L2 c2)).run Try.prog a.drew = .ok (.string st) a.drew ∧ (convert 22 9 (.slice A5 L5 c5)).run Try.prog a.drew = .ok (.string st) a.drew ∧ (convert 22 9 (.slice A4 L4 c4)).run Try.prog a.drew = .ok (.string st) a.drew ∧ Z a.drew)) := Lib.hid fun a h => zs _ (zd _ h.2.2.2.2.2.2.2.2.2)
  have ZK : Hid (∀ a b, (a.cell? ⟨w4.heap.size, 0, none⟩ = some (.slice A2 L2 c2) ∧ a.cell? ⟨w4.heap.size, 1, none⟩ = some (.slice P2 K2 d2) ∧ a.cell? ⟨w7.heap.size, 0, none⟩ = some (.slice A5 L5 c5) ∧ a.cell? ⟨w7.heap.size, 1, none⟩ = some (.slice P5 K5 d5) ∧ a.cell? ⟨w6.heap.size, 0, none⟩ = some (.slice A4 L4 c4) ∧ a.cell? ⟨w6.heap.size, 1, none⟩ = some (.slice P4 K4 d4) ∧ (convert 22 9 (.slice A2 L2 c2)).run Try.prog a = .ok (.string st) a ∧ (convert 22 9 (.slice A5 L5 c5)).run Try.prog a = .ok (.string st) a ∧ (convert 22 9 (.slice A4 L4 c4)).run Try.prog a = .ok (.string st) a ∧ Z a) → Below a.heap.size a b → (b.cell? ⟨w4.heap.size, 0, none⟩ = some (.slice A2 L2 c2) ∧ b.cell? ⟨w4.heap.size, 1, none⟩ = some (.slice P2 K2 d2) ∧ b.cell? ⟨w7.heap.size, 0, none⟩ = some (.slice A5 L5 c5) ∧ b.cell? ⟨w7.heap.size, 1, none⟩ = some (.slice P5 K5 d5) ∧ b.cell? ⟨w6.heap.size, 0, none⟩ = some (.slice A4 L4 c4) ∧ b.cell? ⟨w6.heap.size, 1, none⟩ = some (.slice P4 K4 d4) ∧ (convert 22 9 (.slice A2 L2 c2)).run Try.prog b = .ok (.string st) b ∧ (convert 22 9 (.slice A5 L5 c5)).run Try.prog b = .ok (.string st) b ∧ (convert 22 9 (.slice A4 L4 c4)).run Try.prog b = .ok (.string st) b ∧ Z b)) := Lib.hid fun a b h k => zs _ (zk _ _ h.2.2.2.2.2.2.2.2.2 k)
  have Z0 : Hid (W.cell? ⟨w4.heap.size, 0, none⟩ = some (.slice A2 L2 c2) ∧ W.cell? ⟨w4.heap.size, 1, none⟩ = some (.slice P2 K2 d2) ∧ W.cell? ⟨w7.heap.size, 0, none⟩ = some (.slice A5 L5 c5) ∧ W.cell? ⟨w7.heap.size, 1, none⟩ = some (.slice P5 K5 d5) ∧ W.cell? ⟨w6.heap.size, 0, none⟩ = some (.slice A4 L4 c4) ∧ W.cell? ⟨w6.heap.size, 1, none⟩ = some (.slice P4 K4 d4) ∧ (convert 22 9 (.slice A2 L2 c2)).run Try.prog W = .ok (.string st) W ∧ (convert 22 9 (.slice A5 L5 c5)).run Try.prog W = .ok (.string st) W ∧ (convert 22 9 (.slice A4 L4 c4)).run Try.prog W = .ok (.string st) W ∧ Z W) := Lib.hid (zs _ zz.1)
  have ZB : Hid (∀ a, (a.cell? ⟨w4.heap.size, 0, none⟩ = some (.slice A2 L2 c2) ∧ a.cell? ⟨w4.heap.size, 1, none⟩ = some (.slice P2 K2 d2) ∧ a.cell? ⟨w7.heap.size, 0, none⟩ = some (.slice A5 L5 c5) ∧ a.cell? ⟨w7.heap.size, 1, none⟩ = some (.slice P5 K5 d5) ∧ a.cell? ⟨w6.heap.size, 0, none⟩ = some (.slice A4 L4 c4) ∧ a.cell? ⟨w6.heap.size, 1, none⟩ = some (.slice P4 K4 d4) ∧ (convert 22 9 (.slice A2 L2 c2)).run Try.prog a = .ok (.string st) a ∧ (convert 22 9 (.slice A5 L5 c5)).run Try.prog a = .ok (.string st) a ∧ (convert 22 9 (.slice A4 L4 c4)).run Try.prog a = .ok (.string st) a ∧ Z a) → Below w.heap.size w a) := Lib.hid fun a h => (zz.2 a h.2.2.2.2.2.2.2.2.2).1
  have ZMY : Hid (∀ a, (a.cell? ⟨w4.heap.size, 0, none⟩ = some (.slice A2 L2 c2) ∧ a.cell? ⟨w4.heap.size, 1, none⟩ = some (.slice P2 K2 d2) ∧ a.cell? ⟨w7.heap.size, 0, none⟩ = some (.slice A5 L5 c5) ∧ a.cell? ⟨w7.heap.size, 1, none⟩ = some (.slice P5 K5 d5) ∧ a.cell? ⟨w6.heap.size, 0, none⟩ = some (.slice A4 L4 c4) ∧ a.cell? ⟨w6.heap.size, 1, none⟩ = some (.slice P4 K4 d4) ∧ (convert 22 9 (.slice A2 L2 c2)).run Try.prog a = .ok (.string st) a ∧ (convert 22 9 (.slice A5 L5 c5)).run Try.prog a = .ok (.string st) a ∧ (convert 22 9 (.slice A4 L4 c4)).run Try.prog a = .ok (.string st) a ∧ Z a) → IsMem a (.agg #[.slice A2 L2 c2, .slice P2 K2 d2]) Y1) := Lib.hid fun a h => ((zz.2 a h.2.2.2.2.2.2.2.2.2).2.1).mem
  have ZAY : Hid (∀ a, (a.cell? ⟨w4.heap.size, 0, none⟩ = some (.slice A2 L2 c2) ∧ a.cell? ⟨w4.heap.size, 1, none⟩ = some (.slice P2 K2 d2) ∧ a.cell? ⟨w7.heap.size, 0, none⟩ = some (.slice A5 L5 c5) ∧ a.cell? ⟨w7.heap.size, 1, none⟩ = some (.slice P5 K5 d5) ∧ a.cell? ⟨w6.heap.size, 0, none⟩ = some (.slice A4 L4 c4) ∧ a.cell? ⟨w6.heap.size, 1, none⟩ = some (.slice P4 K4 d4) ∧ (convert 22 9 (.slice A2 L2 c2)).run Try.prog a = .ok (.string st) a ∧ (convert 22 9 (.slice A5 L5 c5)).run Try.prog a = .ok (.string st) a ∧ (convert 22 9 (.slice A4 L4 c4)).run Try.prog a = .ok (.string st) a ∧ Z a) → At w4.heap.size A2 P2 L2 c2 K2 d2 Y1 a) := Lib.hid fun a h => ((zz.2 a h.2.2.2.2.2.2.2.2.2).2.1)
  have ZMZ : Hid (∀ a, (a.cell? ⟨w4.heap.size, 0, none⟩ = some (.slice A2 L2 c2) ∧ a.cell? ⟨w4.heap.size, 1, none⟩ = some (.slice P2 K2 d2) ∧ a.cell? ⟨w7.heap.size, 0, none⟩ = some (.slice A5 L5 c5) ∧ a.cell? ⟨w7.heap.size, 1, none⟩ = some (.slice P5 K5 d5) ∧ a.cell? ⟨w6.heap.size, 0, none⟩ = some (.slice A4 L4 c4) ∧ a.cell? ⟨w6.heap.size, 1, none⟩ = some (.slice P4 K4 d4) ∧ (convert 22 9 (.slice A2 L2 c2)).run Try.prog a = .ok (.string st) a ∧ (convert 22 9 (.slice A5 L5 c5)).run Try.prog a = .ok (.string st) a ∧ (convert 22 9 (.slice A4 L4 c4)).run Try.prog a = .ok (.string st) a ∧ Z a) → IsMem a (.agg #[.slice A5 L5 c5, .slice P5 K5 d5]) Z1) := Lib.hid fun a h => ((zz.2 a h.2.2.2.2.2.2.2.2.2).2.2.1).mem
  have ZAZ : Hid (∀ a, (a.cell? ⟨w4.heap.size, 0, none⟩ = some (.slice A2 L2 c2) ∧ a.cell? ⟨w4.heap.size, 1, none⟩ = some (.slice P2 K2 d2) ∧ a.cell? ⟨w7.heap.size, 0, none⟩ = some (.slice A5 L5 c5) ∧ a.cell? ⟨w7.heap.size, 1, none⟩ = some (.slice P5 K5 d5) ∧ a.cell? ⟨w6.heap.size, 0, none⟩ = some (.slice A4 L4 c4) ∧ a.cell? ⟨w6.heap.size, 1, none⟩ = some (.slice P4 K4 d4) ∧ (convert 22 9 (.slice A2 L2 c2)).run Try.prog a = .ok (.string st) a ∧ (convert 22 9 (.slice A5 L5 c5)).run Try.prog a = .ok (.string st) a ∧ (convert 22 9 (.slice A4 L4 c4)).run Try.prog a = .ok (.string st) a ∧ Z a) → At w7.heap.size A5 P5 L5 c5 K5 d5 Z1 a) := Lib.hid fun a h => ((zz.2 a h.2.2.2.2.2.2.2.2.2).2.2.1)
  have ZMQ : Hid (∀ a, (a.cell? ⟨w4.heap.size, 0, none⟩ = some (.slice A2 L2 c2) ∧ a.cell? ⟨w4.heap.size, 1, none⟩ = some (.slice P2 K2 d2) ∧ a.cell? ⟨w7.heap.size, 0, none⟩ = some (.slice A5 L5 c5) ∧ a.cell? ⟨w7.heap.size, 1, none⟩ = some (.slice P5 K5 d5) ∧ a.cell? ⟨w6.heap.size, 0, none⟩ = some (.slice A4 L4 c4) ∧ a.cell? ⟨w6.heap.size, 1, none⟩ = some (.slice P4 K4 d4) ∧ (convert 22 9 (.slice A2 L2 c2)).run Try.prog a = .ok (.string st) a ∧ (convert 22 9 (.slice A5 L5 c5)).run Try.prog a = .ok (.string st) a ∧ (convert 22 9 (.slice A4 L4 c4)).run Try.prog a = .ok (.string st) a ∧ Z a) → IsMem a (.agg #[.slice A4 L4 c4, .slice P4 K4 d4]) Q1) := Lib.hid fun a h => ((zz.2 a h.2.2.2.2.2.2.2.2.2).2.2.2).mem
  have ZAQ : Hid (∀ a, (a.cell? ⟨w4.heap.size, 0, none⟩ = some (.slice A2 L2 c2) ∧ a.cell? ⟨w4.heap.size, 1, none⟩ = some (.slice P2 K2 d2) ∧ a.cell? ⟨w7.heap.size, 0, none⟩ = some (.slice A5 L5 c5) ∧ a.cell? ⟨w7.heap.size, 1, none⟩ = some (.slice P5 K5 d5) ∧ a.cell? ⟨w6.heap.size, 0, none⟩ = some (.slice A4 L4 c4) ∧ a.cell? ⟨w6.heap.size, 1, none⟩ = some (.slice P4 K4 d4) ∧ (convert 22 9 (.slice A2 L2 c2)).run Try.prog a = .ok (.string st) a ∧ (convert 22 9 (.slice A5 L5 c5)).run Try.prog a = .ok (.string st) a ∧ (convert 22 9 (.slice A4 L4 c4)).run Try.prog a = .ok (.string st) a ∧ Z a) → At w6.heap.size A4 P4 L4 c4 K4 d4 Q1 a) := Lib.hid fun a h => ((zz.2 a h.2.2.2.2.2.2.2.2.2).2.2.2)
  clear zs zk zd zz Y7 Z7 Q7 B7
  go_wp2_with fail
  rw [HW.out]
  refine wp_region_noPanic ?_
  go_region_held3 (fun a => a.cell? ⟨w4.heap.size, 0, none⟩ = some (.slice A2 L2 c2) ∧ a.cell? ⟨w4.heap.size, 1, none⟩ = some (.slice P2 K2 d2) ∧ a.cell? ⟨w7.heap.size, 0, none⟩ = some (.slice A5 L5 c5) ∧ a.cell? ⟨w7.heap.size, 1, none⟩ = some (.slice P5 K5 d5) ∧ a.cell? ⟨w6.heap.size, 0, none⟩ = some (.slice A4 L4 c4) ∧ a.cell? ⟨w6.heap.size, 1, none⟩ = some (.slice P4 K4 d4) ∧ (convert 22 9 (.slice A2 L2 c2)).run Try.prog a = .ok (.string st) a ∧ (convert 22 9 (.slice A5 L5 c5)).run Try.prog a = .ok (.string st) a ∧ (convert 22 9 (.slice A4 L4 c4)).run Try.prog a = .ok (.string st) a ∧ Z a) (first | assumption | exact ZS.out _ Z0.out)
    (first | (go_at_call 40; ((with_reducible refine (free_at _ _ _ _ _ _ _).mono ?_); rintro e wf ⟨rfl, bf⟩; have sf := ZK.out _ _ (by assumption) bf)))
  all_goals (refine NoPanic.normal ?_)
  all_goals go_wp2
  all_goals go_ret
  all_goals exact ⟨rfl, ZB.out _ sf⟩
end Go.Proofs.Ytngmkbbeafefaaa
