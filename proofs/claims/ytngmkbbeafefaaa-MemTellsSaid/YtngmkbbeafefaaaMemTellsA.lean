/- The walk of MemTells. -/
import Derived.Test.YtngmkbbeafefaaaMemTextsA
import Derived.Deep.RegionHeld3
namespace Go.Proofs.Ytngmkbbeafefaaa
open Go.RowKit
set_option linter.unusedVariables false
set_option linter.unusedSimpArgs false

theorem start8 {w : World} {A P A' P' : Option Addr} {L c K d L' c' K' d' : Nat} {m o : PM} (h : IsMem w (.agg #[.slice A L c, .slice P K d]) m) (k : IsMem w (.agg #[.slice A' L' c', .slice P' K' d']) o) (ob : Obj) : At (w.heap.size + 1) A P L c K d m (((w.alloc ob).alloc (.cells #[.slice A L c, .slice P K d] 25)).alloc (.cells #[.slice A' L' c', .slice P' K' d'] 25)) ∧ At (w.heap.size + 1 + 1) A' P' L' c' K' d' o (((w.alloc ob).alloc (.cells #[.slice A L c, .slice P K d] 25)).alloc (.cells #[.slice A' L' c', .slice P' K' d'] 25)) := by
  refine ⟨(start6 h ob).keep (al_one _ _), ?_⟩
  have h1 : IsMem ((w.alloc ob).alloc (.cells #[.slice A L c, .slice P K d] 25)) (.agg #[.slice A' L' c', .slice P' K' d']) o := (k.keep (al_one _ _)).keep (al_one _ _)
  have h2 := at_new h1
  rw [World.size_alloc, World.size_alloc] at h2
  exact h2
theorem below_three {w w1 : World} {o o' o'' : Obj} (b : Below (((w.alloc o).alloc o').alloc o'').heap.size (((w.alloc o).alloc o').alloc o'') w1) : Below w.heap.size w w1 :=
  below_then (al_one w o) (below_then (al_one _ o') (al_then b))

set_option maxRecDepth 100000 in
set_option maxHeartbeats 16000000 in
theorem tells_few1 (A P Ao Po : Option Addr) (L c K d Lo co Ko do_ : Nat) (m om : PM) (p n : Int) (w : World) (HM : Hid (IsMem w (.agg #[.slice A L c, .slice P K d]) m)) (HO : Hid (IsMem w (.agg #[.slice Ao Lo co, .slice Po Ko do_]) om)) (F1 : fewB m 600 = false) :
    Calls Try.prog 3 #[.agg #[.slice A L c, .slice P K d, .slice Ao Lo co, .slice Po Ko do_, .int .i64 p, .int .i64 n]] w fun e w' => e = .returned (.bool true) ∧ Below w.heap.size w w' := by
  go_enter Try.func3, Try.ntmps3
  go_wp2_with fail
  refine (shown_any _).mono ?_
  rintro e w1 ⟨rfl, bb⟩
  have M1 := Lib.hid ((start8 HM.out HO.out _).1.keep bb)
  have O1 := Lib.hid ((start8 HM.out HO.out _).2.keep bb)
  have B1 := Lib.hid (below_three bb)
  clear bb
  obtain ⟨cM0, cM1⟩ := M1.out.use
  go_wp2_with fail
  refine (few_at _ _ _ _ _ _ m _ M1.out.mem).mono ?_
  rw [F1]
  rintro e w2 ⟨rfl, bb⟩
  have M2 := Lib.hid (M1.out.keep bb)
  have O2 := Lib.hid (O1.out.keep bb)
  have B2 := Lib.hid (below_then B1.out bb)
  clear bb cM0 cM1 M1 O1 B1
  go_wp2_with fail
  go_ret
  exact ⟨rfl, B2.out⟩
set_option maxRecDepth 100000 in
set_option maxHeartbeats 16000000 in
theorem tells_few2 (A P Ao Po : Option Addr) (L c K d Lo co Ko do_ : Nat) (m om : PM) (p n : Int) (w : World) (HM : Hid (IsMem w (.agg #[.slice A L c, .slice P K d]) m)) (HO : Hid (IsMem w (.agg #[.slice Ao Lo co, .slice Po Ko do_]) om)) (F1 : fewB m 600 = true) (F2 : fewB om 600 = false) :
    Calls Try.prog 3 #[.agg #[.slice A L c, .slice P K d, .slice Ao Lo co, .slice Po Ko do_, .int .i64 p, .int .i64 n]] w fun e w' => e = .returned (.bool true) ∧ Below w.heap.size w w' := by
  go_enter Try.func3, Try.ntmps3
  go_wp2_with fail
  refine (shown_any _).mono ?_
  rintro e w1 ⟨rfl, bb⟩
  have M1 := Lib.hid ((start8 HM.out HO.out _).1.keep bb)
  have O1 := Lib.hid ((start8 HM.out HO.out _).2.keep bb)
  have B1 := Lib.hid (below_three bb)
  clear bb
  obtain ⟨cM0, cM1⟩ := M1.out.use
  go_wp2_with fail
  refine (few_at _ _ _ _ _ _ m _ M1.out.mem).mono ?_
  rw [F1]
  rintro e w2 ⟨rfl, bb⟩
  have M2 := Lib.hid (M1.out.keep bb)
  have O2 := Lib.hid (O1.out.keep bb)
  have B2 := Lib.hid (below_then B1.out bb)
  clear bb cM0 cM1 M1 O1 B1
  obtain ⟨cO0, cO1⟩ := O2.out.use
  go_wp2_with fail
  refine (few_at _ _ _ _ _ _ om _ O2.out.mem).mono ?_
  rw [F2]
  rintro e w3 ⟨rfl, bb⟩
  have M3 := Lib.hid (M2.out.keep bb)
  have O3 := Lib.hid (O2.out.keep bb)
  have B3 := Lib.hid (below_then B2.out bb)
  clear bb cO0 cO1 M2 O2 B2
  go_wp2_with fail
  go_ret
  exact ⟨rfl, B3.out⟩
set_option maxRecDepth 100000 in
set_option maxHeartbeats 16000000 in
theorem tells_false (A P Ao Po : Option Addr) (L c K d Lo co Ko do_ : Nat) (m om : PM) (p n : Int) (w : World) (HM : Hid (IsMem w (.agg #[.slice A L c, .slice P K d]) m)) (HO : Hid (IsMem w (.agg #[.slice Ao Lo co, .slice Po Ko do_]) om)) (N1 S1 T1 : PM) (NC SC TC FE BY : Int) (sm : Bool) (F1 : fewB m 600 = true) (F2 : fewB om 600 = true) (hL : L ≤ 600) (hK : K ≤ 60) (HN : Hid (newF n = N1)) (HNC : Hid (newC n = NC)) (HR : Hid (rightB m = false)) (HSM : Hid (decide (m = om) = sm)) (HS1 : Hid (storeF m p n = S1)) (HSC : Hid (cellC L p = SC)) (HT1 : Hid (writeF m p [lowB n] = T1)) (HTC : Hid (codeF (okB L p 1) = TC)) (HFE : Hid (fetchF m p = FE)) (HBY : Hid (byteF m p = BY)) :
    Calls Try.prog 3 #[.agg #[.slice A L c, .slice P K d, .slice Ao Lo co, .slice Po Ko do_, .int .i64 p, .int .i64 n]] w fun e w' => e = .returned (.bool true) ∧ Below w.heap.size w w' := by
  go_enter Try.func3, Try.ntmps3
  go_wp2_with fail
  refine (shown_any _).mono ?_
  rintro e w1 ⟨rfl, bb⟩
  have M1 := Lib.hid ((start8 HM.out HO.out _).1.keep bb)
  have O1 := Lib.hid ((start8 HM.out HO.out _).2.keep bb)
  have B1 := Lib.hid (below_three bb)
  clear bb
  obtain ⟨cM0, cM1⟩ := M1.out.use
  go_wp2_with fail
  refine (few_at _ _ _ _ _ _ m _ M1.out.mem).mono ?_
  rw [F1]
  rintro e w2 ⟨rfl, bb⟩
  have M2 := Lib.hid (M1.out.keep bb)
  have O2 := Lib.hid (O1.out.keep bb)
  have B2 := Lib.hid (below_then B1.out bb)
  clear bb cM0 cM1 M1 O1 B1
  obtain ⟨cO0, cO1⟩ := O2.out.use
  go_wp2_with fail
  refine (few_at _ _ _ _ _ _ om _ O2.out.mem).mono ?_
  rw [F2]
  rintro e w3 ⟨rfl, bb⟩
  have M3 := Lib.hid (M2.out.keep bb)
  have O3 := Lib.hid (O2.out.keep bb)
  have B3 := Lib.hid (below_then B2.out bb)
  clear bb cO0 cO1 M2 O2 B2
  go_wp2_with fail
  refine (new_any _ _).mono ?_
  rw [HNC.out, HN.out]
  rintro e w4 ⟨A1, L1, c1, P1, K1, d1, rfl, hx1, bb⟩
  have Mp := Lib.hid (M3.out.keep bb)
  have M4 := Lib.hid (Mp.out.keep (al_one _ (.cells #[.slice A1 L1 c1, .slice P1 K1 d1] 25)))
  have Op := Lib.hid (O3.out.keep bb)
  have O4 := Lib.hid (Op.out.keep (al_one _ (.cells #[.slice A1 L1 c1, .slice P1 K1 d1] 25)))
  have B4 := Lib.hid (below_then (below_then B3.out bb) (al_one _ (.cells #[.slice A1 L1 c1, .slice P1 K1 d1] 25)))
  have Na4 := Lib.hid (at_new hx1)
  clear bb M3 O3 B3 hx1
  go_wp2_with fail
  refine (rnew_any _ _).mono ?_
  rw [HNC.out, HN.out]
  rintro e w5 ⟨A2, L2, c2, P2, K2, d2, rfl, hx2, bb⟩
  clear Mp Op
  have Mp := Lib.hid (M4.out.keep bb)
  have M5 := Lib.hid (Mp.out.keep (al_one _ (.cells #[.slice A2 L2 c2, .slice P2 K2 d2] 25)))
  have Op := Lib.hid (O4.out.keep bb)
  have O5 := Lib.hid (Op.out.keep (al_one _ (.cells #[.slice A2 L2 c2, .slice P2 K2 d2] 25)))
  have Nap := Lib.hid (Na4.out.keep bb)
  have Na5 := Lib.hid (Nap.out.keep (al_one _ (.cells #[.slice A2 L2 c2, .slice P2 K2 d2] 25)))
  have B5 := Lib.hid (below_then (below_then B4.out bb) (al_one _ (.cells #[.slice A2 L2 c2, .slice P2 K2 d2] 25)))
  have Nb5 := Lib.hid (at_new hx2)
  clear bb M4 O4 Na4 B4 hx2
  obtain ⟨cM0, cM1⟩ := Mp.out.use
  have lM := Mp.out.lt
  go_wp2_with fail
  refine (rright_at _ _ _ _ _ _ m _ M5.out.mem).mono ?_
  rw [HR.out]
  rintro e w6 ⟨rfl, bb⟩
  clear Mp Op Nap
  have M6 := Lib.hid (M5.out.keep bb)
  have O6 := Lib.hid (O5.out.keep bb)
  have Na6 := Lib.hid (Na5.out.keep bb)
  have Nb6 := Lib.hid (Nb5.out.keep bb)
  have B6 := Lib.hid (below_then B5.out bb)
  clear bb cM0 cM1 lM M5 O5 Na5 Nb5 B5
  obtain ⟨Z, zs, zk, zd, zz⟩ : ∃ Z : World → Prop, (∀ a, Z a → a.cell? ⟨(w.heap.size + 1), 0, none⟩ = some (.slice A L c) ∧ a.cell? ⟨(w.heap.size + 1), 1, none⟩ = some (.slice P K d) ∧ a.cell? ⟨(w.heap.size + 1 + 1), 0, none⟩ = some (.slice Ao Lo co) ∧ a.cell? ⟨(w.heap.size + 1 + 1), 1, none⟩ = some (.slice Po Ko do_) ∧ a.cell? ⟨w4.heap.size, 0, none⟩ = some (.slice A1 L1 c1) ∧ a.cell? ⟨w4.heap.size, 1, none⟩ = some (.slice P1 K1 d1) ∧ a.cell? ⟨w5.heap.size, 0, none⟩ = some (.slice A2 L2 c2) ∧ a.cell? ⟨w5.heap.size, 1, none⟩ = some (.slice P2 K2 d2) ∧ Z a) ∧ (∀ a b, Z a → Below a.heap.size a b → Z b) ∧ (∀ a, Z a → Z a.drew) ∧ (Z w6 ∧ ∀ a, Z a → Below w.heap.size w a ∧ At (w.heap.size + 1) A P L c K d m a ∧ At (w.heap.size + 1 + 1) Ao Po Lo co Ko do_ om a ∧ At w4.heap.size A1 P1 L1 c1 K1 d1 N1 a ∧ At w5.heap.size A2 P2 L2 c2 K2 d2 N1 a) :=
    ⟨fun a => Below w.heap.size w a ∧ At (w.heap.size + 1) A P L c K d m a ∧ At (w.heap.size + 1 + 1) Ao Po Lo co Ko do_ om a ∧ At w4.heap.size A1 P1 L1 c1 K1 d1 N1 a ∧ At w5.heap.size A2 P2 L2 c2 K2 d2 N1 a, fun a h => ⟨h.2.1.use.1, h.2.1.use.2, h.2.2.1.use.1, h.2.2.1.use.2, h.2.2.2.1.use.1, h.2.2.2.1.use.2, h.2.2.2.2.use.1, h.2.2.2.2.use.2, h⟩, fun a b h k => ⟨below_then h.1 k, h.2.1.keep k, h.2.2.1.keep k, h.2.2.2.1.keep k, h.2.2.2.2.keep k⟩, fun a h => ⟨h.1.drew, h.2.1, h.2.2.1, h.2.2.2.1, h.2.2.2.2⟩, ⟨B6.out, M6.out, O6.out, Na6.out, Nb6.out⟩, fun a h => h⟩
  have ZS : Hid (∀ a, (a.cell? ⟨(w.heap.size + 1), 0, none⟩ = some (.slice A L c) ∧ a.cell? ⟨(w.heap.size + 1), 1, none⟩ = some (.slice P K d) ∧ a.cell? ⟨(w.heap.size + 1 + 1), 0, none⟩ = some (.slice Ao Lo co) ∧ a.cell? ⟨(w.heap.size + 1 + 1), 1, none⟩ = some (.slice Po Ko do_) ∧ a.cell? ⟨w4.heap.size, 0, none⟩ = some (.slice A1 L1 c1) ∧ a.cell? ⟨w4.heap.size, 1, none⟩ = some (.slice P1 K1 d1) ∧ a.cell? ⟨w5.heap.size, 0, none⟩ = some (.slice A2 L2 c2) ∧ a.cell? ⟨w5.heap.size, 1, none⟩ = some (.slice P2 K2 d2) ∧ Z a) → (a.drew.cell? ⟨(w.heap.size + 1), 0, none⟩ = some (.slice A L c) ∧ a.drew.cell? ⟨(w.heap.size + 1), 1, none⟩ = some (.slice P K d) ∧ a.drew.cell? ⟨(w.heap.size + 1 + 1), 0, none⟩ = some (.slice Ao Lo co) ∧ a.drew.cell? ⟨(w.heap.size + 1 + 1), 1, none⟩ = some (.slice Po Ko do_) ∧ a.drew.cell? ⟨w4.heap.size, 0, none⟩ = some (.slice A1 L1 c1) ∧ a.drew.cell? ⟨w4.heap.size, 1, none⟩ = some (.slice P1 K1 d1) ∧ a.drew.cell? ⟨w5.heap.size, 0, none⟩ = some (.slice A2 L2 c2) ∧ a.drew.cell? ⟨w5.heap.size, 1, none⟩ = some (.slice P2 K2 d2) ∧ Z a.drew)) := Lib.hid fun a h => zs _ (zd _ h.2.2.2.2.2.2.2.2)
  have ZK : Hid (∀ a b, (a.cell? ⟨(w.heap.size + 1), 0, none⟩ = some (.slice A L c) ∧ a.cell? ⟨(w.heap.size + 1), 1, none⟩ = some (.slice P K d) ∧ a.cell? ⟨(w.heap.size + 1 + 1), 0, none⟩ = some (.slice Ao Lo co) ∧ a.cell? ⟨(w.heap.size + 1 + 1), 1, none⟩ = some (.slice Po Ko do_) ∧ a.cell? ⟨w4.heap.size, 0, none⟩ = some (.slice A1 L1 c1) ∧ a.cell? ⟨w4.heap.size, 1, none⟩ = some (.slice P1 K1 d1) ∧ a.cell? ⟨w5.heap.size, 0, none⟩ = some (.slice A2 L2 c2) ∧ a.cell? ⟨w5.heap.size, 1, none⟩ = some (.slice P2 K2 d2) ∧ Z a) → Below a.heap.size a b → (b.cell? ⟨(w.heap.size + 1), 0, none⟩ = some (.slice A L c) ∧ b.cell? ⟨(w.heap.size + 1), 1, none⟩ = some (.slice P K d) ∧ b.cell? ⟨(w.heap.size + 1 + 1), 0, none⟩ = some (.slice Ao Lo co) ∧ b.cell? ⟨(w.heap.size + 1 + 1), 1, none⟩ = some (.slice Po Ko do_) ∧ b.cell? ⟨w4.heap.size, 0, none⟩ = some (.slice A1 L1 c1) ∧ b.cell? ⟨w4.heap.size, 1, none⟩ = some (.slice P1 K1 d1) ∧ b.cell? ⟨w5.heap.size, 0, none⟩ = some (.slice A2 L2 c2) ∧ b.cell? ⟨w5.heap.size, 1, none⟩ = some (.slice P2 K2 d2) ∧ Z b)) := Lib.hid fun a b h k => zs _ (zk _ _ h.2.2.2.2.2.2.2.2 k)
  have Z0 : Hid (w6.cell? ⟨(w.heap.size + 1), 0, none⟩ = some (.slice A L c) ∧ w6.cell? ⟨(w.heap.size + 1), 1, none⟩ = some (.slice P K d) ∧ w6.cell? ⟨(w.heap.size + 1 + 1), 0, none⟩ = some (.slice Ao Lo co) ∧ w6.cell? ⟨(w.heap.size + 1 + 1), 1, none⟩ = some (.slice Po Ko do_) ∧ w6.cell? ⟨w4.heap.size, 0, none⟩ = some (.slice A1 L1 c1) ∧ w6.cell? ⟨w4.heap.size, 1, none⟩ = some (.slice P1 K1 d1) ∧ w6.cell? ⟨w5.heap.size, 0, none⟩ = some (.slice A2 L2 c2) ∧ w6.cell? ⟨w5.heap.size, 1, none⟩ = some (.slice P2 K2 d2) ∧ Z w6) := Lib.hid (zs _ zz.1)
  have ZB : Hid (∀ a, (a.cell? ⟨(w.heap.size + 1), 0, none⟩ = some (.slice A L c) ∧ a.cell? ⟨(w.heap.size + 1), 1, none⟩ = some (.slice P K d) ∧ a.cell? ⟨(w.heap.size + 1 + 1), 0, none⟩ = some (.slice Ao Lo co) ∧ a.cell? ⟨(w.heap.size + 1 + 1), 1, none⟩ = some (.slice Po Ko do_) ∧ a.cell? ⟨w4.heap.size, 0, none⟩ = some (.slice A1 L1 c1) ∧ a.cell? ⟨w4.heap.size, 1, none⟩ = some (.slice P1 K1 d1) ∧ a.cell? ⟨w5.heap.size, 0, none⟩ = some (.slice A2 L2 c2) ∧ a.cell? ⟨w5.heap.size, 1, none⟩ = some (.slice P2 K2 d2) ∧ Z a) → Below w.heap.size w a) := Lib.hid fun a h => (zz.2 a h.2.2.2.2.2.2.2.2).1
  have ZMM : Hid (∀ a, (a.cell? ⟨(w.heap.size + 1), 0, none⟩ = some (.slice A L c) ∧ a.cell? ⟨(w.heap.size + 1), 1, none⟩ = some (.slice P K d) ∧ a.cell? ⟨(w.heap.size + 1 + 1), 0, none⟩ = some (.slice Ao Lo co) ∧ a.cell? ⟨(w.heap.size + 1 + 1), 1, none⟩ = some (.slice Po Ko do_) ∧ a.cell? ⟨w4.heap.size, 0, none⟩ = some (.slice A1 L1 c1) ∧ a.cell? ⟨w4.heap.size, 1, none⟩ = some (.slice P1 K1 d1) ∧ a.cell? ⟨w5.heap.size, 0, none⟩ = some (.slice A2 L2 c2) ∧ a.cell? ⟨w5.heap.size, 1, none⟩ = some (.slice P2 K2 d2) ∧ Z a) → IsMem a (.agg #[.slice A L c, .slice P K d]) m) := Lib.hid fun a h => ((zz.2 a h.2.2.2.2.2.2.2.2).2.1).mem
  have ZAM : Hid (∀ a, (a.cell? ⟨(w.heap.size + 1), 0, none⟩ = some (.slice A L c) ∧ a.cell? ⟨(w.heap.size + 1), 1, none⟩ = some (.slice P K d) ∧ a.cell? ⟨(w.heap.size + 1 + 1), 0, none⟩ = some (.slice Ao Lo co) ∧ a.cell? ⟨(w.heap.size + 1 + 1), 1, none⟩ = some (.slice Po Ko do_) ∧ a.cell? ⟨w4.heap.size, 0, none⟩ = some (.slice A1 L1 c1) ∧ a.cell? ⟨w4.heap.size, 1, none⟩ = some (.slice P1 K1 d1) ∧ a.cell? ⟨w5.heap.size, 0, none⟩ = some (.slice A2 L2 c2) ∧ a.cell? ⟨w5.heap.size, 1, none⟩ = some (.slice P2 K2 d2) ∧ Z a) → At (w.heap.size + 1) A P L c K d m a) := Lib.hid fun a h => ((zz.2 a h.2.2.2.2.2.2.2.2).2.1)
  have ZMO : Hid (∀ a, (a.cell? ⟨(w.heap.size + 1), 0, none⟩ = some (.slice A L c) ∧ a.cell? ⟨(w.heap.size + 1), 1, none⟩ = some (.slice P K d) ∧ a.cell? ⟨(w.heap.size + 1 + 1), 0, none⟩ = some (.slice Ao Lo co) ∧ a.cell? ⟨(w.heap.size + 1 + 1), 1, none⟩ = some (.slice Po Ko do_) ∧ a.cell? ⟨w4.heap.size, 0, none⟩ = some (.slice A1 L1 c1) ∧ a.cell? ⟨w4.heap.size, 1, none⟩ = some (.slice P1 K1 d1) ∧ a.cell? ⟨w5.heap.size, 0, none⟩ = some (.slice A2 L2 c2) ∧ a.cell? ⟨w5.heap.size, 1, none⟩ = some (.slice P2 K2 d2) ∧ Z a) → IsMem a (.agg #[.slice Ao Lo co, .slice Po Ko do_]) om) := Lib.hid fun a h => ((zz.2 a h.2.2.2.2.2.2.2.2).2.2.1).mem
  have ZAO : Hid (∀ a, (a.cell? ⟨(w.heap.size + 1), 0, none⟩ = some (.slice A L c) ∧ a.cell? ⟨(w.heap.size + 1), 1, none⟩ = some (.slice P K d) ∧ a.cell? ⟨(w.heap.size + 1 + 1), 0, none⟩ = some (.slice Ao Lo co) ∧ a.cell? ⟨(w.heap.size + 1 + 1), 1, none⟩ = some (.slice Po Ko do_) ∧ a.cell? ⟨w4.heap.size, 0, none⟩ = some (.slice A1 L1 c1) ∧ a.cell? ⟨w4.heap.size, 1, none⟩ = some (.slice P1 K1 d1) ∧ a.cell? ⟨w5.heap.size, 0, none⟩ = some (.slice A2 L2 c2) ∧ a.cell? ⟨w5.heap.size, 1, none⟩ = some (.slice P2 K2 d2) ∧ Z a) → At (w.heap.size + 1 + 1) Ao Po Lo co Ko do_ om a) := Lib.hid fun a h => ((zz.2 a h.2.2.2.2.2.2.2.2).2.2.1)
  have ZMNa : Hid (∀ a, (a.cell? ⟨(w.heap.size + 1), 0, none⟩ = some (.slice A L c) ∧ a.cell? ⟨(w.heap.size + 1), 1, none⟩ = some (.slice P K d) ∧ a.cell? ⟨(w.heap.size + 1 + 1), 0, none⟩ = some (.slice Ao Lo co) ∧ a.cell? ⟨(w.heap.size + 1 + 1), 1, none⟩ = some (.slice Po Ko do_) ∧ a.cell? ⟨w4.heap.size, 0, none⟩ = some (.slice A1 L1 c1) ∧ a.cell? ⟨w4.heap.size, 1, none⟩ = some (.slice P1 K1 d1) ∧ a.cell? ⟨w5.heap.size, 0, none⟩ = some (.slice A2 L2 c2) ∧ a.cell? ⟨w5.heap.size, 1, none⟩ = some (.slice P2 K2 d2) ∧ Z a) → IsMem a (.agg #[.slice A1 L1 c1, .slice P1 K1 d1]) N1) := Lib.hid fun a h => ((zz.2 a h.2.2.2.2.2.2.2.2).2.2.2.1).mem
  have ZANa : Hid (∀ a, (a.cell? ⟨(w.heap.size + 1), 0, none⟩ = some (.slice A L c) ∧ a.cell? ⟨(w.heap.size + 1), 1, none⟩ = some (.slice P K d) ∧ a.cell? ⟨(w.heap.size + 1 + 1), 0, none⟩ = some (.slice Ao Lo co) ∧ a.cell? ⟨(w.heap.size + 1 + 1), 1, none⟩ = some (.slice Po Ko do_) ∧ a.cell? ⟨w4.heap.size, 0, none⟩ = some (.slice A1 L1 c1) ∧ a.cell? ⟨w4.heap.size, 1, none⟩ = some (.slice P1 K1 d1) ∧ a.cell? ⟨w5.heap.size, 0, none⟩ = some (.slice A2 L2 c2) ∧ a.cell? ⟨w5.heap.size, 1, none⟩ = some (.slice P2 K2 d2) ∧ Z a) → At w4.heap.size A1 P1 L1 c1 K1 d1 N1 a) := Lib.hid fun a h => ((zz.2 a h.2.2.2.2.2.2.2.2).2.2.2.1)
  have ZMNb : Hid (∀ a, (a.cell? ⟨(w.heap.size + 1), 0, none⟩ = some (.slice A L c) ∧ a.cell? ⟨(w.heap.size + 1), 1, none⟩ = some (.slice P K d) ∧ a.cell? ⟨(w.heap.size + 1 + 1), 0, none⟩ = some (.slice Ao Lo co) ∧ a.cell? ⟨(w.heap.size + 1 + 1), 1, none⟩ = some (.slice Po Ko do_) ∧ a.cell? ⟨w4.heap.size, 0, none⟩ = some (.slice A1 L1 c1) ∧ a.cell? ⟨w4.heap.size, 1, none⟩ = some (.slice P1 K1 d1) ∧ a.cell? ⟨w5.heap.size, 0, none⟩ = some (.slice A2 L2 c2) ∧ a.cell? ⟨w5.heap.size, 1, none⟩ = some (.slice P2 K2 d2) ∧ Z a) → IsMem a (.agg #[.slice A2 L2 c2, .slice P2 K2 d2]) N1) := Lib.hid fun a h => ((zz.2 a h.2.2.2.2.2.2.2.2).2.2.2.2).mem
  have ZANb : Hid (∀ a, (a.cell? ⟨(w.heap.size + 1), 0, none⟩ = some (.slice A L c) ∧ a.cell? ⟨(w.heap.size + 1), 1, none⟩ = some (.slice P K d) ∧ a.cell? ⟨(w.heap.size + 1 + 1), 0, none⟩ = some (.slice Ao Lo co) ∧ a.cell? ⟨(w.heap.size + 1 + 1), 1, none⟩ = some (.slice Po Ko do_) ∧ a.cell? ⟨w4.heap.size, 0, none⟩ = some (.slice A1 L1 c1) ∧ a.cell? ⟨w4.heap.size, 1, none⟩ = some (.slice P1 K1 d1) ∧ a.cell? ⟨w5.heap.size, 0, none⟩ = some (.slice A2 L2 c2) ∧ a.cell? ⟨w5.heap.size, 1, none⟩ = some (.slice P2 K2 d2) ∧ Z a) → At w5.heap.size A2 P2 L2 c2 K2 d2 N1 a) := Lib.hid fun a h => ((zz.2 a h.2.2.2.2.2.2.2.2).2.2.2.2)
  clear zs zk zd zz M6 O6 Na6 Nb6 B6
  go_wp2_with fail
  refine wp_region_noPanic ?_
  go_region_held3 (fun a => a.cell? ⟨(w.heap.size + 1), 0, none⟩ = some (.slice A L c) ∧ a.cell? ⟨(w.heap.size + 1), 1, none⟩ = some (.slice P K d) ∧ a.cell? ⟨(w.heap.size + 1 + 1), 0, none⟩ = some (.slice Ao Lo co) ∧ a.cell? ⟨(w.heap.size + 1 + 1), 1, none⟩ = some (.slice Po Ko do_) ∧ a.cell? ⟨w4.heap.size, 0, none⟩ = some (.slice A1 L1 c1) ∧ a.cell? ⟨w4.heap.size, 1, none⟩ = some (.slice P1 K1 d1) ∧ a.cell? ⟨w5.heap.size, 0, none⟩ = some (.slice A2 L2 c2) ∧ a.cell? ⟨w5.heap.size, 1, none⟩ = some (.slice P2 K2 d2) ∧ Z a) (first | assumption | exact ZS.out _ Z0.out)
    (first | (go_at_call 17; ((with_reducible refine (right_at _ _ _ _ _ _ m _ (Lib.hid (ZMM.out _ (by assumption)))).mono ?_); rw [HR.out]; rintro e wg ⟨rfl, bg⟩; have sg := ZK.out _ _ (by assumption) bg)) | (go_at_call 18; ((with_reducible refine (same_at _ _ _ _ _ _ _ _ _ _ _ _ m om _ (Lib.hid (ZMM.out _ (by assumption))) (Lib.hid (ZMO.out _ (by assumption)))).mono ?_); rw [HSM.out]; rintro e wh ⟨rfl, bh⟩; have sh := ZK.out _ _ (by assumption) bh)) | (go_at_call 16; ((with_reducible first | (refine (rsame_eq _ _ _ _ _ _ _ _ _ _ _ _ N1 _ (ZMNa.out _ (by assumption)) (ZMNb.out _ (by assumption))).mono ?_) | (refine (rsame_at _ _ _ _ _ _ _ _ _ _ _ _ m om _ (Lib.hid (ZMM.out _ (by assumption))) (Lib.hid (ZMO.out _ (by assumption)))).mono ?_; rw [HSM.out])); rintro e wr ⟨rfl, br⟩; have sr := ZK.out _ _ (by assumption) br)))
  all_goals (refine NoPanic.normal ?_)
  all_goals go_wp2
  all_goals go_ret
  all_goals exact ⟨rfl, ZB.out _ sr⟩
set_option maxRecDepth 100000 in
set_option maxHeartbeats 16000000 in
theorem tells_true (A P Ao Po : Option Addr) (L c K d Lo co Ko do_ : Nat) (m om : PM) (p n : Int) (w : World) (HM : Hid (IsMem w (.agg #[.slice A L c, .slice P K d]) m)) (HO : Hid (IsMem w (.agg #[.slice Ao Lo co, .slice Po Ko do_]) om)) (N1 S1 T1 : PM) (NC SC TC FE BY : Int) (sm : Bool) (F1 : fewB m 600 = true) (F2 : fewB om 600 = true) (hL : L ≤ 600) (hK : K ≤ 60) (HN : Hid (newF n = N1)) (HNC : Hid (newC n = NC)) (HR : Hid (rightB m = true)) (HSM : Hid (decide (m = om) = sm)) (HS1 : Hid (storeF m p n = S1)) (HSC : Hid (cellC L p = SC)) (HT1 : Hid (writeF m p [lowB n] = T1)) (HTC : Hid (codeF (okB L p 1) = TC)) (HFE : Hid (fetchF m p = FE)) (HBY : Hid (byteF m p = BY)) :
    Calls Try.prog 3 #[.agg #[.slice A L c, .slice P K d, .slice Ao Lo co, .slice Po Ko do_, .int .i64 p, .int .i64 n]] w fun e w' => e = .returned (.bool true) ∧ Below w.heap.size w w' := by
  go_enter Try.func3, Try.ntmps3
  go_wp2_with fail
  refine (shown_any _).mono ?_
  rintro e w1 ⟨rfl, bb⟩
  have M1 := Lib.hid ((start8 HM.out HO.out _).1.keep bb)
  have O1 := Lib.hid ((start8 HM.out HO.out _).2.keep bb)
  have B1 := Lib.hid (below_three bb)
  clear bb
  obtain ⟨cM0, cM1⟩ := M1.out.use
  go_wp2_with fail
  refine (few_at _ _ _ _ _ _ m _ M1.out.mem).mono ?_
  rw [F1]
  rintro e w2 ⟨rfl, bb⟩
  have M2 := Lib.hid (M1.out.keep bb)
  have O2 := Lib.hid (O1.out.keep bb)
  have B2 := Lib.hid (below_then B1.out bb)
  clear bb cM0 cM1 M1 O1 B1
  obtain ⟨cO0, cO1⟩ := O2.out.use
  go_wp2_with fail
  refine (few_at _ _ _ _ _ _ om _ O2.out.mem).mono ?_
  rw [F2]
  rintro e w3 ⟨rfl, bb⟩
  have M3 := Lib.hid (M2.out.keep bb)
  have O3 := Lib.hid (O2.out.keep bb)
  have B3 := Lib.hid (below_then B2.out bb)
  clear bb cO0 cO1 M2 O2 B2
  go_wp2_with fail
  refine (new_any _ _).mono ?_
  rw [HNC.out, HN.out]
  rintro e w4 ⟨A1, L1, c1, P1, K1, d1, rfl, hx1, bb⟩
  have Mp := Lib.hid (M3.out.keep bb)
  have M4 := Lib.hid (Mp.out.keep (al_one _ (.cells #[.slice A1 L1 c1, .slice P1 K1 d1] 25)))
  have Op := Lib.hid (O3.out.keep bb)
  have O4 := Lib.hid (Op.out.keep (al_one _ (.cells #[.slice A1 L1 c1, .slice P1 K1 d1] 25)))
  have B4 := Lib.hid (below_then (below_then B3.out bb) (al_one _ (.cells #[.slice A1 L1 c1, .slice P1 K1 d1] 25)))
  have Na4 := Lib.hid (at_new hx1)
  clear bb M3 O3 B3 hx1
  go_wp2_with fail
  refine (rnew_any _ _).mono ?_
  rw [HNC.out, HN.out]
  rintro e w5 ⟨A2, L2, c2, P2, K2, d2, rfl, hx2, bb⟩
  clear Mp Op
  have Mp := Lib.hid (M4.out.keep bb)
  have M5 := Lib.hid (Mp.out.keep (al_one _ (.cells #[.slice A2 L2 c2, .slice P2 K2 d2] 25)))
  have Op := Lib.hid (O4.out.keep bb)
  have O5 := Lib.hid (Op.out.keep (al_one _ (.cells #[.slice A2 L2 c2, .slice P2 K2 d2] 25)))
  have Nap := Lib.hid (Na4.out.keep bb)
  have Na5 := Lib.hid (Nap.out.keep (al_one _ (.cells #[.slice A2 L2 c2, .slice P2 K2 d2] 25)))
  have B5 := Lib.hid (below_then (below_then B4.out bb) (al_one _ (.cells #[.slice A2 L2 c2, .slice P2 K2 d2] 25)))
  have Nb5 := Lib.hid (at_new hx2)
  clear bb M4 O4 Na4 B4 hx2
  obtain ⟨cM0, cM1⟩ := Mp.out.use
  have lM := Mp.out.lt
  go_wp2_with fail
  refine (rright_at _ _ _ _ _ _ m _ M5.out.mem).mono ?_
  rw [HR.out]
  rintro e w6 ⟨rfl, bb⟩
  clear Mp Op Nap
  have M6 := Lib.hid (M5.out.keep bb)
  have O6 := Lib.hid (O5.out.keep bb)
  have Na6 := Lib.hid (Na5.out.keep bb)
  have Nb6 := Lib.hid (Nb5.out.keep bb)
  have B6 := Lib.hid (below_then B5.out bb)
  clear bb cM0 cM1 lM M5 O5 Na5 Nb5 B5
  obtain ⟨Z, zs, zk, zd, zz⟩ : ∃ Z : World → Prop, (∀ a, Z a → a.cell? ⟨(w.heap.size + 1), 0, none⟩ = some (.slice A L c) ∧ a.cell? ⟨(w.heap.size + 1), 1, none⟩ = some (.slice P K d) ∧ a.cell? ⟨(w.heap.size + 1 + 1), 0, none⟩ = some (.slice Ao Lo co) ∧ a.cell? ⟨(w.heap.size + 1 + 1), 1, none⟩ = some (.slice Po Ko do_) ∧ a.cell? ⟨w4.heap.size, 0, none⟩ = some (.slice A1 L1 c1) ∧ a.cell? ⟨w4.heap.size, 1, none⟩ = some (.slice P1 K1 d1) ∧ a.cell? ⟨w5.heap.size, 0, none⟩ = some (.slice A2 L2 c2) ∧ a.cell? ⟨w5.heap.size, 1, none⟩ = some (.slice P2 K2 d2) ∧ Z a) ∧ (∀ a b, Z a → Below a.heap.size a b → Z b) ∧ (∀ a, Z a → Z a.drew) ∧ (Z w6 ∧ ∀ a, Z a → Below w.heap.size w a ∧ At (w.heap.size + 1) A P L c K d m a ∧ At (w.heap.size + 1 + 1) Ao Po Lo co Ko do_ om a ∧ At w4.heap.size A1 P1 L1 c1 K1 d1 N1 a ∧ At w5.heap.size A2 P2 L2 c2 K2 d2 N1 a) :=
    ⟨fun a => Below w.heap.size w a ∧ At (w.heap.size + 1) A P L c K d m a ∧ At (w.heap.size + 1 + 1) Ao Po Lo co Ko do_ om a ∧ At w4.heap.size A1 P1 L1 c1 K1 d1 N1 a ∧ At w5.heap.size A2 P2 L2 c2 K2 d2 N1 a, fun a h => ⟨h.2.1.use.1, h.2.1.use.2, h.2.2.1.use.1, h.2.2.1.use.2, h.2.2.2.1.use.1, h.2.2.2.1.use.2, h.2.2.2.2.use.1, h.2.2.2.2.use.2, h⟩, fun a b h k => ⟨below_then h.1 k, h.2.1.keep k, h.2.2.1.keep k, h.2.2.2.1.keep k, h.2.2.2.2.keep k⟩, fun a h => ⟨h.1.drew, h.2.1, h.2.2.1, h.2.2.2.1, h.2.2.2.2⟩, ⟨B6.out, M6.out, O6.out, Na6.out, Nb6.out⟩, fun a h => h⟩
  have ZS : Hid (∀ a, (a.cell? ⟨(w.heap.size + 1), 0, none⟩ = some (.slice A L c) ∧ a.cell? ⟨(w.heap.size + 1), 1, none⟩ = some (.slice P K d) ∧ a.cell? ⟨(w.heap.size + 1 + 1), 0, none⟩ = some (.slice Ao Lo co) ∧ a.cell? ⟨(w.heap.size + 1 + 1), 1, none⟩ = some (.slice Po Ko do_) ∧ a.cell? ⟨w4.heap.size, 0, none⟩ = some (.slice A1 L1 c1) ∧ a.cell? ⟨w4.heap.size, 1, none⟩ = some (.slice P1 K1 d1) ∧ a.cell? ⟨w5.heap.size, 0, none⟩ = some (.slice A2 L2 c2) ∧ a.cell? ⟨w5.heap.size, 1, none⟩ = some (.slice P2 K2 d2) ∧ Z a) → (a.drew.cell? ⟨(w.heap.size + 1), 0, none⟩ = some (.slice A L c) ∧ a.drew.cell? ⟨(w.heap.size + 1), 1, none⟩ = some (.slice P K d) ∧ a.drew.cell? ⟨(w.heap.size + 1 + 1), 0, none⟩ = some (.slice Ao Lo co) ∧ a.drew.cell? ⟨(w.heap.size + 1 + 1), 1, none⟩ = some (.slice Po Ko do_) ∧ a.drew.cell? ⟨w4.heap.size, 0, none⟩ = some (.slice A1 L1 c1) ∧ a.drew.cell? ⟨w4.heap.size, 1, none⟩ = some (.slice P1 K1 d1) ∧ a.drew.cell? ⟨w5.heap.size, 0, none⟩ = some (.slice A2 L2 c2) ∧ a.drew.cell? ⟨w5.heap.size, 1, none⟩ = some (.slice P2 K2 d2) ∧ Z a.drew)) := Lib.hid fun a h => zs _ (zd _ h.2.2.2.2.2.2.2.2)
  have ZK : Hid (∀ a b, (a.cell? ⟨(w.heap.size + 1), 0, none⟩ = some (.slice A L c) ∧ a.cell? ⟨(w.heap.size + 1), 1, none⟩ = some (.slice P K d) ∧ a.cell? ⟨(w.heap.size + 1 + 1), 0, none⟩ = some (.slice Ao Lo co) ∧ a.cell? ⟨(w.heap.size + 1 + 1), 1, none⟩ = some (.slice Po Ko do_) ∧ a.cell? ⟨w4.heap.size, 0, none⟩ = some (.slice A1 L1 c1) ∧ a.cell? ⟨w4.heap.size, 1, none⟩ = some (.slice P1 K1 d1) ∧ a.cell? ⟨w5.heap.size, 0, none⟩ = some (.slice A2 L2 c2) ∧ a.cell? ⟨w5.heap.size, 1, none⟩ = some (.slice P2 K2 d2) ∧ Z a) → Below a.heap.size a b → (b.cell? ⟨(w.heap.size + 1), 0, none⟩ = some (.slice A L c) ∧ b.cell? ⟨(w.heap.size + 1), 1, none⟩ = some (.slice P K d) ∧ b.cell? ⟨(w.heap.size + 1 + 1), 0, none⟩ = some (.slice Ao Lo co) ∧ b.cell? ⟨(w.heap.size + 1 + 1), 1, none⟩ = some (.slice Po Ko do_) ∧ b.cell? ⟨w4.heap.size, 0, none⟩ = some (.slice A1 L1 c1) ∧ b.cell? ⟨w4.heap.size, 1, none⟩ = some (.slice P1 K1 d1) ∧ b.cell? ⟨w5.heap.size, 0, none⟩ = some (.slice A2 L2 c2) ∧ b.cell? ⟨w5.heap.size, 1, none⟩ = some (.slice P2 K2 d2) ∧ Z b)) := Lib.hid fun a b h k => zs _ (zk _ _ h.2.2.2.2.2.2.2.2 k)
  have Z0 : Hid (w6.cell? ⟨(w.heap.size + 1), 0, none⟩ = some (.slice A L c) ∧ w6.cell? ⟨(w.heap.size + 1), 1, none⟩ = some (.slice P K d) ∧ w6.cell? ⟨(w.heap.size + 1 + 1), 0, none⟩ = some (.slice Ao Lo co) ∧ w6.cell? ⟨(w.heap.size + 1 + 1), 1, none⟩ = some (.slice Po Ko do_) ∧ w6.cell? ⟨w4.heap.size, 0, none⟩ = some (.slice A1 L1 c1) ∧ w6.cell? ⟨w4.heap.size, 1, none⟩ = some (.slice P1 K1 d1) ∧ w6.cell? ⟨w5.heap.size, 0, none⟩ = some (.slice A2 L2 c2) ∧ w6.cell? ⟨w5.heap.size, 1, none⟩ = some (.slice P2 K2 d2) ∧ Z w6) := Lib.hid (zs _ zz.1)
  have ZB : Hid (∀ a, (a.cell? ⟨(w.heap.size + 1), 0, none⟩ = some (.slice A L c) ∧ a.cell? ⟨(w.heap.size + 1), 1, none⟩ = some (.slice P K d) ∧ a.cell? ⟨(w.heap.size + 1 + 1), 0, none⟩ = some (.slice Ao Lo co) ∧ a.cell? ⟨(w.heap.size + 1 + 1), 1, none⟩ = some (.slice Po Ko do_) ∧ a.cell? ⟨w4.heap.size, 0, none⟩ = some (.slice A1 L1 c1) ∧ a.cell? ⟨w4.heap.size, 1, none⟩ = some (.slice P1 K1 d1) ∧ a.cell? ⟨w5.heap.size, 0, none⟩ = some (.slice A2 L2 c2) ∧ a.cell? ⟨w5.heap.size, 1, none⟩ = some (.slice P2 K2 d2) ∧ Z a) → Below w.heap.size w a) := Lib.hid fun a h => (zz.2 a h.2.2.2.2.2.2.2.2).1
  have ZMM : Hid (∀ a, (a.cell? ⟨(w.heap.size + 1), 0, none⟩ = some (.slice A L c) ∧ a.cell? ⟨(w.heap.size + 1), 1, none⟩ = some (.slice P K d) ∧ a.cell? ⟨(w.heap.size + 1 + 1), 0, none⟩ = some (.slice Ao Lo co) ∧ a.cell? ⟨(w.heap.size + 1 + 1), 1, none⟩ = some (.slice Po Ko do_) ∧ a.cell? ⟨w4.heap.size, 0, none⟩ = some (.slice A1 L1 c1) ∧ a.cell? ⟨w4.heap.size, 1, none⟩ = some (.slice P1 K1 d1) ∧ a.cell? ⟨w5.heap.size, 0, none⟩ = some (.slice A2 L2 c2) ∧ a.cell? ⟨w5.heap.size, 1, none⟩ = some (.slice P2 K2 d2) ∧ Z a) → IsMem a (.agg #[.slice A L c, .slice P K d]) m) := Lib.hid fun a h => ((zz.2 a h.2.2.2.2.2.2.2.2).2.1).mem
  have ZAM : Hid (∀ a, (a.cell? ⟨(w.heap.size + 1), 0, none⟩ = some (.slice A L c) ∧ a.cell? ⟨(w.heap.size + 1), 1, none⟩ = some (.slice P K d) ∧ a.cell? ⟨(w.heap.size + 1 + 1), 0, none⟩ = some (.slice Ao Lo co) ∧ a.cell? ⟨(w.heap.size + 1 + 1), 1, none⟩ = some (.slice Po Ko do_) ∧ a.cell? ⟨w4.heap.size, 0, none⟩ = some (.slice A1 L1 c1) ∧ a.cell? ⟨w4.heap.size, 1, none⟩ = some (.slice P1 K1 d1) ∧ a.cell? ⟨w5.heap.size, 0, none⟩ = some (.slice A2 L2 c2) ∧ a.cell? ⟨w5.heap.size, 1, none⟩ = some (.slice P2 K2 d2) ∧ Z a) → At (w.heap.size + 1) A P L c K d m a) := Lib.hid fun a h => ((zz.2 a h.2.2.2.2.2.2.2.2).2.1)
  have ZMO : Hid (∀ a, (a.cell? ⟨(w.heap.size + 1), 0, none⟩ = some (.slice A L c) ∧ a.cell? ⟨(w.heap.size + 1), 1, none⟩ = some (.slice P K d) ∧ a.cell? ⟨(w.heap.size + 1 + 1), 0, none⟩ = some (.slice Ao Lo co) ∧ a.cell? ⟨(w.heap.size + 1 + 1), 1, none⟩ = some (.slice Po Ko do_) ∧ a.cell? ⟨w4.heap.size, 0, none⟩ = some (.slice A1 L1 c1) ∧ a.cell? ⟨w4.heap.size, 1, none⟩ = some (.slice P1 K1 d1) ∧ a.cell? ⟨w5.heap.size, 0, none⟩ = some (.slice A2 L2 c2) ∧ a.cell? ⟨w5.heap.size, 1, none⟩ = some (.slice P2 K2 d2) ∧ Z a) → IsMem a (.agg #[.slice Ao Lo co, .slice Po Ko do_]) om) := Lib.hid fun a h => ((zz.2 a h.2.2.2.2.2.2.2.2).2.2.1).mem
  have ZAO : Hid (∀ a, (a.cell? ⟨(w.heap.size + 1), 0, none⟩ = some (.slice A L c) ∧ a.cell? ⟨(w.heap.size + 1), 1, none⟩ = some (.slice P K d) ∧ a.cell? ⟨(w.heap.size + 1 + 1), 0, none⟩ = some (.slice Ao Lo co) ∧ a.cell? ⟨(w.heap.size + 1 + 1), 1, none⟩ = some (.slice Po Ko do_) ∧ a.cell? ⟨w4.heap.size, 0, none⟩ = some (.slice A1 L1 c1) ∧ a.cell? ⟨w4.heap.size, 1, none⟩ = some (.slice P1 K1 d1) ∧ a.cell? ⟨w5.heap.size, 0, none⟩ = some (.slice A2 L2 c2) ∧ a.cell? ⟨w5.heap.size, 1, none⟩ = some (.slice P2 K2 d2) ∧ Z a) → At (w.heap.size + 1 + 1) Ao Po Lo co Ko do_ om a) := Lib.hid fun a h => ((zz.2 a h.2.2.2.2.2.2.2.2).2.2.1)
  have ZMNa : Hid (∀ a, (a.cell? ⟨(w.heap.size + 1), 0, none⟩ = some (.slice A L c) ∧ a.cell? ⟨(w.heap.size + 1), 1, none⟩ = some (.slice P K d) ∧ a.cell? ⟨(w.heap.size + 1 + 1), 0, none⟩ = some (.slice Ao Lo co) ∧ a.cell? ⟨(w.heap.size + 1 + 1), 1, none⟩ = some (.slice Po Ko do_) ∧ a.cell? ⟨w4.heap.size, 0, none⟩ = some (.slice A1 L1 c1) ∧ a.cell? ⟨w4.heap.size, 1, none⟩ = some (.slice P1 K1 d1) ∧ a.cell? ⟨w5.heap.size, 0, none⟩ = some (.slice A2 L2 c2) ∧ a.cell? ⟨w5.heap.size, 1, none⟩ = some (.slice P2 K2 d2) ∧ Z a) → IsMem a (.agg #[.slice A1 L1 c1, .slice P1 K1 d1]) N1) := Lib.hid fun a h => ((zz.2 a h.2.2.2.2.2.2.2.2).2.2.2.1).mem
  have ZANa : Hid (∀ a, (a.cell? ⟨(w.heap.size + 1), 0, none⟩ = some (.slice A L c) ∧ a.cell? ⟨(w.heap.size + 1), 1, none⟩ = some (.slice P K d) ∧ a.cell? ⟨(w.heap.size + 1 + 1), 0, none⟩ = some (.slice Ao Lo co) ∧ a.cell? ⟨(w.heap.size + 1 + 1), 1, none⟩ = some (.slice Po Ko do_) ∧ a.cell? ⟨w4.heap.size, 0, none⟩ = some (.slice A1 L1 c1) ∧ a.cell? ⟨w4.heap.size, 1, none⟩ = some (.slice P1 K1 d1) ∧ a.cell? ⟨w5.heap.size, 0, none⟩ = some (.slice A2 L2 c2) ∧ a.cell? ⟨w5.heap.size, 1, none⟩ = some (.slice P2 K2 d2) ∧ Z a) → At w4.heap.size A1 P1 L1 c1 K1 d1 N1 a) := Lib.hid fun a h => ((zz.2 a h.2.2.2.2.2.2.2.2).2.2.2.1)
  have ZMNb : Hid (∀ a, (a.cell? ⟨(w.heap.size + 1), 0, none⟩ = some (.slice A L c) ∧ a.cell? ⟨(w.heap.size + 1), 1, none⟩ = some (.slice P K d) ∧ a.cell? ⟨(w.heap.size + 1 + 1), 0, none⟩ = some (.slice Ao Lo co) ∧ a.cell? ⟨(w.heap.size + 1 + 1), 1, none⟩ = some (.slice Po Ko do_) ∧ a.cell? ⟨w4.heap.size, 0, none⟩ = some (.slice A1 L1 c1) ∧ a.cell? ⟨w4.heap.size, 1, none⟩ = some (.slice P1 K1 d1) ∧ a.cell? ⟨w5.heap.size, 0, none⟩ = some (.slice A2 L2 c2) ∧ a.cell? ⟨w5.heap.size, 1, none⟩ = some (.slice P2 K2 d2) ∧ Z a) → IsMem a (.agg #[.slice A2 L2 c2, .slice P2 K2 d2]) N1) := Lib.hid fun a h => ((zz.2 a h.2.2.2.2.2.2.2.2).2.2.2.2).mem
  have ZANb : Hid (∀ a, (a.cell? ⟨(w.heap.size + 1), 0, none⟩ = some (.slice A L c) ∧ a.cell? ⟨(w.heap.size + 1), 1, none⟩ = some (.slice P K d) ∧ a.cell? ⟨(w.heap.size + 1 + 1), 0, none⟩ = some (.slice Ao Lo co) ∧ a.cell? ⟨(w.heap.size + 1 + 1), 1, none⟩ = some (.slice Po Ko do_) ∧ a.cell? ⟨w4.heap.size, 0, none⟩ = some (.slice A1 L1 c1) ∧ a.cell? ⟨w4.heap.size, 1, none⟩ = some (.slice P1 K1 d1) ∧ a.cell? ⟨w5.heap.size, 0, none⟩ = some (.slice A2 L2 c2) ∧ a.cell? ⟨w5.heap.size, 1, none⟩ = some (.slice P2 K2 d2) ∧ Z a) → At w5.heap.size A2 P2 L2 c2 K2 d2 N1 a) := Lib.hid fun a h => ((zz.2 a h.2.2.2.2.2.2.2.2).2.2.2.2)
  clear zs zk zd zz M6 O6 Na6 Nb6 B6
  go_wp2_with fail
  refine wp_region_noPanic ?_
  go_region_held3 (fun a => a.cell? ⟨(w.heap.size + 1), 0, none⟩ = some (.slice A L c) ∧ a.cell? ⟨(w.heap.size + 1), 1, none⟩ = some (.slice P K d) ∧ a.cell? ⟨(w.heap.size + 1 + 1), 0, none⟩ = some (.slice Ao Lo co) ∧ a.cell? ⟨(w.heap.size + 1 + 1), 1, none⟩ = some (.slice Po Ko do_) ∧ a.cell? ⟨w4.heap.size, 0, none⟩ = some (.slice A1 L1 c1) ∧ a.cell? ⟨w4.heap.size, 1, none⟩ = some (.slice P1 K1 d1) ∧ a.cell? ⟨w5.heap.size, 0, none⟩ = some (.slice A2 L2 c2) ∧ a.cell? ⟨w5.heap.size, 1, none⟩ = some (.slice P2 K2 d2) ∧ Z a) (first | assumption | exact ZS.out _ Z0.out)
    (first | (go_at_call 17; ((with_reducible refine (right_at _ _ _ _ _ _ m _ (Lib.hid (ZMM.out _ (by assumption)))).mono ?_); rw [HR.out]; rintro e wg ⟨rfl, bg⟩; have sg := ZK.out _ _ (by assumption) bg)) | (go_at_call 18; ((with_reducible refine (same_at _ _ _ _ _ _ _ _ _ _ _ _ m om _ (Lib.hid (ZMM.out _ (by assumption))) (Lib.hid (ZMO.out _ (by assumption)))).mono ?_); rw [HSM.out]; rintro e wh ⟨rfl, bh⟩; have sh := ZK.out _ _ (by assumption) bh)) | (go_at_call 16; ((with_reducible first | (refine (rsame_eq _ _ _ _ _ _ _ _ _ _ _ _ N1 _ (ZMNa.out _ (by assumption)) (ZMNb.out _ (by assumption))).mono ?_) | (refine (rsame_at _ _ _ _ _ _ _ _ _ _ _ _ m om _ (Lib.hid (ZMM.out _ (by assumption))) (Lib.hid (ZMO.out _ (by assumption)))).mono ?_; rw [HSM.out])); rintro e wr ⟨rfl, br⟩; have sr := ZK.out _ _ (by assumption) br)))
  all_goals (refine NoPanic.normal ?_)
  have M20 := Lib.hid (ZAM.out _ sr)
  have B20 := Lib.hid (ZB.out _ sr)
  obtain ⟨cM0, cM1⟩ := M20.out.use
  go_wp2_with fail
  refine (fetch_at _ _ _ _ _ _ m _ _ M20.out.mem (by omega)).mono ?_
  rw [HFE.out, HSC.out]
  rintro e w21 ⟨rfl, bb⟩
  have M21 := Lib.hid (M20.out.keep bb)
  have B21 := Lib.hid (below_then B20.out bb)
  clear bb cM0 cM1 M20 B20
  obtain ⟨cM0, cM1⟩ := M21.out.use
  go_wp2_with fail
  refine (rfetch_at _ _ _ _ _ _ m _ _ M21.out.mem (by omega)).mono ?_
  rw [HFE.out, HSC.out]
  rintro e w22 ⟨rfl, bb⟩
  have M22 := Lib.hid (M21.out.keep bb)
  have B22 := Lib.hid (below_then B21.out bb)
  clear bb cM0 cM1 M21 B21
  obtain ⟨cM0, cM1⟩ := M22.out.use
  go_wp2_with fail
  refine (store_at _ _ _ _ _ _ m _ _ _ M22.out.mem (by omega) (by omega)).mono ?_
  rw [HSC.out, HS1.out]
  rintro e w23 ⟨A3, L3, c3, P3, K3, d3, rfl, hx3, bb⟩
  have Mp := Lib.hid (M22.out.keep bb)
  have M23 := Lib.hid (Mp.out.keep (al_one _ (.cells #[.slice A3 L3 c3, .slice P3 K3 d3] 25)))
  have B23 := Lib.hid (below_then (below_then B22.out bb) (al_one _ (.cells #[.slice A3 L3 c3, .slice P3 K3 d3] 25)))
  have Sa23 := Lib.hid (at_new hx3)
  clear bb cM0 cM1 M22 B22 hx3
  obtain ⟨cM0, cM1⟩ := Mp.out.use
  have lM := Mp.out.lt
  go_wp2_with fail
  refine (rstore_at _ _ _ _ _ _ m _ _ _ M23.out.mem (by omega) (by omega)).mono ?_
  rw [HSC.out, HS1.out]
  rintro e w24 ⟨A4, L4, c4, P4, K4, d4, rfl, hx4, bb⟩
  clear Mp
  have Mp := Lib.hid (M23.out.keep bb)
  have M24 := Lib.hid (Mp.out.keep (al_one _ (.cells #[.slice A4 L4 c4, .slice P4 K4 d4] 25)))
  have Sap := Lib.hid (Sa23.out.keep bb)
  have Sa24 := Lib.hid (Sap.out.keep (al_one _ (.cells #[.slice A4 L4 c4, .slice P4 K4 d4] 25)))
  have B24 := Lib.hid (below_then (below_then B23.out bb) (al_one _ (.cells #[.slice A4 L4 c4, .slice P4 K4 d4] 25)))
  have Sb24 := Lib.hid (at_new hx4)
  clear bb cM0 cM1 lM M23 Sa23 B23 hx4
  obtain ⟨cM0, cM1⟩ := Mp.out.use
  have lM := Mp.out.lt
  go_wp2_with fail
  refine (fetchByte_at _ _ _ _ _ _ m _ _ M24.out.mem (by omega)).mono ?_
  rw [HBY.out, HTC.out]
  rintro e w25 ⟨rfl, bb⟩
  clear Mp Sap
  have M25 := Lib.hid (M24.out.keep bb)
  have Sa25 := Lib.hid (Sa24.out.keep bb)
  have Sb25 := Lib.hid (Sb24.out.keep bb)
  have B25 := Lib.hid (below_then B24.out bb)
  clear bb cM0 cM1 lM M24 Sa24 Sb24 B24
  obtain ⟨cM0, cM1⟩ := M25.out.use
  go_wp2_with fail
  refine (rfetchByte_at _ _ _ _ _ _ m _ _ M25.out.mem (by omega)).mono ?_
  rw [HBY.out, HTC.out]
  rintro e w26 ⟨rfl, bb⟩
  have M26 := Lib.hid (M25.out.keep bb)
  have Sa26 := Lib.hid (Sa25.out.keep bb)
  have Sb26 := Lib.hid (Sb25.out.keep bb)
  have B26 := Lib.hid (below_then B25.out bb)
  clear bb cM0 cM1 M25 Sa25 Sb25 B25
  obtain ⟨cM0, cM1⟩ := M26.out.use
  go_wp2_with fail
  refine (storeByte_at _ _ _ _ _ _ m _ _ _ M26.out.mem (by omega) (by omega)).mono ?_
  rw [HTC.out, HT1.out]
  rintro e w27 ⟨A5, L5, c5, P5, K5, d5, rfl, hx5, bb⟩
  have Mp := Lib.hid (M26.out.keep bb)
  have M27 := Lib.hid (Mp.out.keep (al_one _ (.cells #[.slice A5 L5 c5, .slice P5 K5 d5] 25)))
  have Sap := Lib.hid (Sa26.out.keep bb)
  have Sa27 := Lib.hid (Sap.out.keep (al_one _ (.cells #[.slice A5 L5 c5, .slice P5 K5 d5] 25)))
  have Sbp := Lib.hid (Sb26.out.keep bb)
  have Sb27 := Lib.hid (Sbp.out.keep (al_one _ (.cells #[.slice A5 L5 c5, .slice P5 K5 d5] 25)))
  have B27 := Lib.hid (below_then (below_then B26.out bb) (al_one _ (.cells #[.slice A5 L5 c5, .slice P5 K5 d5] 25)))
  have Ta27 := Lib.hid (at_new hx5)
  clear bb cM0 cM1 M26 Sa26 Sb26 B26 hx5
  obtain ⟨cM0, cM1⟩ := Mp.out.use
  have lM := Mp.out.lt
  go_wp2_with fail
  refine (rstoreByte_at _ _ _ _ _ _ m _ _ _ M27.out.mem (by omega) (by omega)).mono ?_
  rw [HTC.out, HT1.out]
  rintro e w28 ⟨A6, L6, c6, P6, K6, d6, rfl, hx6, bb⟩
  clear Mp Sap Sbp
  have Mp := Lib.hid (M27.out.keep bb)
  have M28 := Lib.hid (Mp.out.keep (al_one _ (.cells #[.slice A6 L6 c6, .slice P6 K6 d6] 25)))
  have Sap := Lib.hid (Sa27.out.keep bb)
  have Sa28 := Lib.hid (Sap.out.keep (al_one _ (.cells #[.slice A6 L6 c6, .slice P6 K6 d6] 25)))
  have Sbp := Lib.hid (Sb27.out.keep bb)
  have Sb28 := Lib.hid (Sbp.out.keep (al_one _ (.cells #[.slice A6 L6 c6, .slice P6 K6 d6] 25)))
  have Tap := Lib.hid (Ta27.out.keep bb)
  have Ta28 := Lib.hid (Tap.out.keep (al_one _ (.cells #[.slice A6 L6 c6, .slice P6 K6 d6] 25)))
  have B28 := Lib.hid (below_then (below_then B27.out bb) (al_one _ (.cells #[.slice A6 L6 c6, .slice P6 K6 d6] 25)))
  have Tb28 := Lib.hid (at_new hx6)
  clear bb cM0 cM1 lM M27 Sa27 Sb27 Ta27 B27 hx6
  obtain ⟨cSa0, cSa1⟩ := Sap.out.use
  have lSa := Sap.out.lt
  obtain ⟨cSb0, cSb1⟩ := Sbp.out.use
  have lSb := Sbp.out.lt
  go_wp2_with fail
  refine (rsame_eq _ _ _ _ _ _ _ _ _ _ _ _ S1 _ Sa28.out.mem Sb28.out.mem).mono ?_
  rintro e w29 ⟨rfl, bb⟩
  clear Mp Sap Sbp Tap
  have M29 := Lib.hid (M28.out.keep bb)
  have Sa29 := Lib.hid (Sa28.out.keep bb)
  have Sb29 := Lib.hid (Sb28.out.keep bb)
  have Ta29 := Lib.hid (Ta28.out.keep bb)
  have Tb29 := Lib.hid (Tb28.out.keep bb)
  have B29 := Lib.hid (below_then B28.out bb)
  clear bb cSa0 cSa1 lSa cSb0 cSb1 lSb M28 Sa28 Sb28 Ta28 Tb28 B28
  obtain ⟨cTa0, cTa1⟩ := Ta29.out.use
  obtain ⟨cTb0, cTb1⟩ := Tb29.out.use
  go_wp2_with fail
  refine (rsame_eq _ _ _ _ _ _ _ _ _ _ _ _ T1 _ Ta29.out.mem Tb29.out.mem).mono ?_
  rintro e w30 ⟨rfl, bb⟩
  have M30 := Lib.hid (M29.out.keep bb)
  have Sa30 := Lib.hid (Sa29.out.keep bb)
  have Sb30 := Lib.hid (Sb29.out.keep bb)
  have Ta30 := Lib.hid (Ta29.out.keep bb)
  have Tb30 := Lib.hid (Tb29.out.keep bb)
  have B30 := Lib.hid (below_then B29.out bb)
  clear bb cTa0 cTa1 cTb0 cTb1 M29 Sa29 Sb29 Ta29 Tb29 B29
  go_wp2_with fail
  go_ret
  exact ⟨rfl, B30.out⟩
theorem tells_walk (A P Ao Po : Option Addr) (L c K d Lo co Ko do_ : Nat) (m om : PM) (p n : Int) (w : World) (HM : Hid (IsMem w (.agg #[.slice A L c, .slice P K d]) m)) (HO : Hid (IsMem w (.agg #[.slice Ao Lo co, .slice Po Ko do_]) om)) :
    Calls Try.prog 3 #[.agg #[.slice A L c, .slice P K d, .slice Ao Lo co, .slice Po Ko do_, .int .i64 p, .int .i64 n]] w fun e w' => e = .returned (.bool true) ∧ Below w.heap.size w w' := by
  cases F1 : fewB m 600 with
  | false => exact tells_few1 A P Ao Po L c K d Lo co Ko do_ m om p n w HM HO F1
  | true =>
    cases F2 : fewB om 600 with
    | false => exact tells_few2 A P Ao Po L c K d Lo co Ko do_ m om p n w HM HO F1 F2
    | true =>
      have hF := F1
      rw [fewB_eq] at hF
      simp only [Bool.and_eq_true, decide_eq_true_eq] at hF
      have hL : L ≤ 600 := by have := HM.out.len1; omega
      have hK : K ≤ 60 := by have := HM.out.len2; omega
      cases HR : rightB m with
      | false => exact tells_false A P Ao Po L c K d Lo co Ko do_ m om p n w HM HO _ _ _ _ _ _ _ _ _ F1 F2 hL hK (Lib.hid rfl) (Lib.hid rfl) (Lib.hid HR) (Lib.hid rfl) (Lib.hid rfl) (Lib.hid rfl) (Lib.hid rfl) (Lib.hid rfl) (Lib.hid rfl) (Lib.hid rfl)
      | true => exact tells_true A P Ao Po L c K d Lo co Ko do_ m om p n w HM HO _ _ _ _ _ _ _ _ _ F1 F2 hL hK (Lib.hid rfl) (Lib.hid rfl) (Lib.hid HR) (Lib.hid rfl) (Lib.hid rfl) (Lib.hid rfl) (Lib.hid rfl) (Lib.hid rfl) (Lib.hid rfl) (Lib.hid rfl)
end Go.Proofs.Ytngmkbbeafefaaa
