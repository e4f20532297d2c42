/- The walk of MemBack. -/
import Derived.Test.YtngmkbbeafefaaaMemBackD
import Derived.Test.YtngmkbbeafefaaaMemActs
import Derived.Deep.RegionHeld3
import Derived.StillTailTactics
namespace Go.Proofs.Ytngmkbbeafefaaa
open Go.ChangeShapes Go.WideShapes Go.ChangeAt Go.RowKit Go.Joins Go.Deep
set_option linter.unusedVariables false
set_option linter.unusedSimpArgs false

set_option maxRecDepth 100000 in
set_option maxHeartbeats 16000000 in
theorem back_walk (A P Al : Option Addr) (L c K d nl cl : Nat) (m : PM) (l : List Do) (w : World) (HM : Hid (IsMem w (.agg #[.slice A L c, .slice P K d]) m)) (HA : Hid (Acts w Al nl cl l)) :
    Calls Try.prog 6 #[.agg #[.slice A L c, .slice P K d], .slice Al nl cl] w fun e w' => e = .returned (.bool true) ∧ Below w.heap.size w w' := by
  cases hmay : (fewB m 600 && rightB m) with
  | false =>
    go_enter Try.func6, Try.ntmps6
    go_wp2_with fail
    refine (shown_any _).mono ?_
    rintro e w1 ⟨rfl, bb⟩
    have M1 := Lib.hid ((at_new HM.out).keep bb)
    have B1 := Lib.hid (al_then bb)
    clear bb
    obtain ⟨cM0, cM1⟩ := M1.out.use
    go_wp2_with fail
    refine (may_at _ _ _ _ _ _ m _ M1.out.mem).mono ?_
    rw [hmay]
    rintro e w2 ⟨rfl, bb⟩
    have M2 := Lib.hid (M1.out.keep bb)
    have B2 := Lib.hid (below_then B1.out bb)
    clear bb cM0 cM1 M1 B1
    go_wp2_with fail
    go_ret
    exact ⟨rfl, B2.out⟩
  | true =>
    obtain ⟨hL, hK, HRi⟩ := may_parts hmay
    rw [HM.out.len1] at hL
    rw [HM.out.len2] at hK
    have HR := Lib.hid HRi
    clear HRi
    obtain ⟨hAl, hAc, hAm, hAx⟩ := HA.out
    have HAL := Lib.hid hAl
    have HAX := Lib.hid hAx
    have hcl : (cl : Int) ≤ 9223372036854775807 := by omega
    have hlc : (nl : Int) ≤ (cl : Int) := by omega
    clear hAl hAc hAx hAm HA
    by_cases h20 : 20 < nl
    · have h20' : (20 : Int) < (nl : Int) := by omega
      go_enter Try.func6, Try.ntmps6
      go_wp2_with fail
      refine (shown_any _).mono ?_
      rintro e w1 ⟨rfl, bb⟩
      have M1 := Lib.hid ((at_new HM.out).keep bb)
      have B1 := Lib.hid (al_then bb)
      clear bb
      obtain ⟨cM0, cM1⟩ := M1.out.use
      go_wp2_with fail
      refine (may_at _ _ _ _ _ _ m _ M1.out.mem).mono ?_
      rw [hmay]
      rintro e w2 ⟨rfl, bb⟩
      have M2 := Lib.hid (M1.out.keep bb)
      have B2 := Lib.hid (below_then B1.out bb)
      clear bb cM0 cM1 M1 B1
      go_wp2_with fail
      go_ret
      exact ⟨rfl, B2.out⟩
    have h20' : decide ((20 : Int) < (nl : Int)) = false := by simp; omega
    have hnl : nl ≤ 20 := by omega
    clear h20
    go_enter Try.func6, Try.ntmps6
    go_wp2_with fail
    refine (shown_any _).mono ?_
    rintro e w1 ⟨rfl, bb⟩
    have M1 := Lib.hid ((at_new HM.out).keep bb)
    have B1 := Lib.hid (al_then bb)
    clear bb
    obtain ⟨cM0, cM1⟩ := M1.out.use
    go_wp2_with fail
    refine (may_at _ _ _ _ _ _ m _ M1.out.mem).mono ?_
    rw [hmay]
    rintro e w2 ⟨rfl, bb⟩
    have M2 := Lib.hid (M1.out.keep bb)
    have B2 := Lib.hid (below_then B1.out bb)
    clear bb cM0 cM1 M1 B1
    obtain ⟨cM0, cM1⟩ := M2.out.use
    go_wp2_with fail
    refine (mark_at _ _ _ _ _ _ _).mono ?_
    rintro e w3 ⟨rfl, bb⟩
    have M3 := Lib.hid (M2.out.keep bb)
    have B3 := Lib.hid (below_then B2.out bb)
    clear bb cM0 cM1 M2 B2
    obtain ⟨cM0, cM1⟩ := M3.out.use
    have lM := M3.out.lt
    go_wp2_with fail
    clear cM0 cM1
    go_loopw [8] (fun i wr => ∃ (j : Nat) (A1 P1 : Option Addr) (L1 c1 K1 d1 : Nat) (x : PM), j ≤ nl ∧ i = .int .i64 (j : Int) ∧ Hid (At w3.heap.size A1 P1 L1 c1 K1 d1 x wr) ∧ Hid (At w.heap.size A P L c K d m wr) ∧ Hid (Below w.heap.size w wr) ∧ Hid (Ext j m x)) (fun i _ => nl - (intOf i).toNat)
    case atStart => exact ⟨0, A, P, L, c, K, d, m, Nat.zero_le _, rfl, at_new M3.out.mem, M3.out.keep (al_one _ _), below_then B3.out (al_one _ _), ext_refl HR.out⟩
    case round =>
      obtain ⟨j, A1, P1, L1, c1, K1, d1, x, hj, rfl, X, M, B, E⟩ := hrel
      have hl : L = L1 := HM.out.len1.symm.trans (E.out.1.symm.trans X.out.mem.len1)
      subst hl
      have hK1 : K1 ≤ 80 := by
        have h1 := E.out.2.2.2.1
        have h2 := X.out.mem.len2
        have h3 := HM.out.len2
        omega
      clear M3 B3
      by_cases hjl : j < nl
      · obtain ⟨g, q, rfl, hg, hall⟩ : ∃ g o, Al = some ⟨g, o, none⟩ ∧ g < w.heap.size ∧ ∀ (j : Nat) (a : Do), l[j]? = some a → ActIs w g o j a := by
          rcases HAX.out with h | h
          · omega
          · exact h
        obtain ⟨a, ha⟩ : ∃ a, l[j]? = some a := ⟨_, List.getElem?_eq_getElem (by rw [HAL.out]; exact hjl)⟩
        obtain ⟨ak, ap, at_, an, ab⟩ := a
        obtain ⟨Bb, nb, cb, d0, d1', d2, d3, d4, hby, hk5, han⟩ := hall _ _ ha
        obtain ⟨kk, rfl⟩ := Int.eq_ofNat_of_zero_le hk5.1
        have e0 : wr.cell? ⟨g, q + j * 5, none⟩ = some (.int .u8 (kk : Int)) := (B.out.cell (p := ⟨g, q + j * 5, none⟩) hg).trans d0
        have e1 : wr.cell? ⟨g, q + j * 5 + 1, none⟩ = some (.int .i64 ap) := (B.out.cell (p := ⟨g, q + j * 5 + 1, none⟩) hg).trans d1'
        have e2 : wr.cell? ⟨g, q + j * 5 + 2, none⟩ = some (.int .i64 at_) := (B.out.cell (p := ⟨g, q + j * 5 + 2, none⟩) hg).trans d2
        have e3 : wr.cell? ⟨g, q + j * 5 + 3, none⟩ = some (.int .i64 an) := (B.out.cell (p := ⟨g, q + j * 5 + 3, none⟩) hg).trans d3
        have e4 : wr.cell? ⟨g, q + j * 5 + 4, none⟩ = some (.slice Bb nb cb) := (B.out.cell (p := ⟨g, q + j * 5 + 4, none⟩) hg).trans d4
        have U := Lib.hid (hby.keep B.out)
        have hnb : ab.length = nb := hby.len
        have hjl' : (j : Int) < (nl : Int) := by omega
        have han' : an ≤ 9223372036854775807 := han
        have hk255 : kk ≤ 255 := by have := hk5.2; show _ ≤ _; omega
        clear d0 d1' d2 d3 d4 hby hall ha hk5 han
        by_cases hb : 200 < nb
        · have hb' : (200 : Int) < (nb : Int) := by omega
          go_wp2
          go_ret
          exact ⟨rfl, B.out⟩
        · have hb' : decide ((200 : Int) < (nb : Int)) = false := by simp; omega
          have hab : ab.length ≤ 65536 := by omega
          obtain ⟨y, hy⟩ : ∃ y, doneF x ((kk : Int), ap, at_, an, ab) = y := ⟨_, rfl⟩
          have E2 : Hid (Ext (j + 1) m y) := Lib.hid (by rw [← hy]; exact E.out.done _)
          have HY := Lib.hid hy
          clear hb hy hnb
          obtain ⟨q0, q1, _, _⟩ := X.out.all
          go_wp2_with fail
          go_still_tail 5, (by kernel_rfl)
          have Xd : At w3.heap.size A1 P1 L c1 K1 d1 x wr.drew := X.out
          have Md : At w.heap.size A P L c K d m wr.drew := M.out
          have Bd : Below w.heap.size w wr.drew := B.out.drew
          have Ud : Byt wr.drew (.slice Bb nb cb) ab := U.out
          clear e0 e1 e2 e3 e4 q0 q1 X M B U
          change wpList _ _ _ _ _ wr.drew
          generalize wr.drew = wd at *
          have XD := Lib.hid Xd
          have MD := Lib.hid Md
          have BD := Lib.hid Bd
          have UD := Lib.hid Ud
          clear Xd Md Bd Ud
          go_wp2_with fail
          refine (done_at A1 P1 Bb L c1 K1 d1 nb cb x ab kk ap at_ an _ (Lib.hid XD.out.mem) UD (by omega) (by omega) han' hab).mono ?_
          rw [HY.out]
          rintro e w5 ⟨A2, L2, c2, P2, K2, d2, rfl, hm2, bb⟩
          have X5 := XD.out.keep bb
          have M5 := MD.out.keep bb
          have B5 := below_then BD.out bb
          have X6 := Lib.hid (X5.put hm2)
          have M6 := Lib.hid (M5.far X5.1 (by omega) (.slice A2 L2 c2) (.slice P2 K2 d2))
          have B6 := Lib.hid ((B5.setCell (p := ⟨w3.heap.size, 0, none⟩) (by simp; omega) (.slice A2 L2 c2)).setCell (p := ⟨w3.heap.size, 1, none⟩) (by simp; omega) (.slice P2 K2 d2))
          have hl : L = L2 := HM.out.len1.symm.trans (E2.out.1.symm.trans hm2.len1)
          subst hl
          have hK2 : K ≤ K2 := by
            have h1 := E2.out.2.2.1
            have h2 := hm2.len2
            have h3 := HM.out.len2
            omega
          have hK2' : decide ((K2 : Int) < (K : Int)) = false := by simp; omega
          obtain ⟨q0, q1, q2, q3⟩ := X5.all
          clear X5 M5 B5 bb hm2 XD MD BD UD
          go_wp2_with fail
          refine (rright_at _ _ _ _ _ _ y _ (Lib.hid X6.out.mem)).mono ?_
          rw [E2.out.2.1]
          rintro e w7 ⟨rfl, bb⟩
          have X7 := Lib.hid (X6.out.keep bb)
          have M7 := Lib.hid (M6.out.keep bb)
          have B7 := Lib.hid (below_then B6.out bb)
          obtain ⟨x0, x1, _, _⟩ := X7.out.all
          obtain ⟨m0, m1, _, _⟩ := M7.out.all
          clear bb X6 M6 B6 q0 q1 q2 q3
          go_wp2_with fail
          refine (mark_at _ _ _ _ _ _ _).mono ?_
          rintro e w8 ⟨rfl, bb⟩
          have X8 := Lib.hid (X7.out.keep bb)
          have M8 := Lib.hid (M7.out.keep bb)
          have B8 := Lib.hid (below_then B7.out bb)
          clear bb X7 M7 B7 x0 x1 m0 m1
          go_wp2_with fail
          go_roundw
          case rel => exact ⟨j + 1, A2, P2, L, c2, K2, d2, y, by omega, by go_num, X8.out, M8.out, B8.out, E2.out⟩
          case measure => simp [intOf]; omega
      · have hjl' : j = nl := by omega
        subst hjl'
        have hb1 := E.out.back
        have hb2 := back_none x
        rw [HM.out.len2] at hb1
        rw [X.out.mem.len2] at hb2
        have HB1 := Lib.hid hb1.1
        have HB2 := Lib.hid hb1.2
        have HXR := Lib.hid E.out.2.1
        have hK1' : K1 ≤ 1000 := by omega
        have hL' : L ≤ 65536 := by omega
        have CB : Hid (∀ w1, IsMem w1 (.agg #[.slice A1 L c1, .slice P1 K1 d1]) x → Calls Try.prog 36 #[.agg #[.slice A1 L c1, .slice P1 K1 d1], .int .i64 (K1 : Int)] w1 fun e w' => ∃ A' L' c' P' K' d', e = .returned (.tuple #[.agg #[.slice A' L' c', .slice P' K' d'], .int .i64 0]) ∧ IsMem w' (.agg #[.slice A' L' c', .slice P' K' d']) x ∧ Below w1.heap.size w1 w') := by
          intro w1 hm
          have := back_at A1 P1 L c1 K1 d1 x (K1 : Int) w1 (Lib.hid hm) HXR hL' hK1'
          rw [hb2.1, hb2.2] at this
          exact this
        have X4 := X
        have M4 := M
        have B4 := B
        clear X M B hb1 hb2 E hjl
        obtain ⟨cX0, cX1⟩ := X4.out.use
        go_wp2_with fail
        refine (back_at _ _ _ _ _ _ x _ _ (Lib.hid X4.out.mem) HXR hL' hK1').mono ?_
        rw [HB1.out, HB2.out]
        rintro e w5 ⟨A2, L2, c2, P2, K2, d2, rfl, hx2, bb⟩
        have Xp := Lib.hid (X4.out.keep bb)
        have X5 := Lib.hid (Xp.out.keep (al_one _ (.cells #[.slice A2 L2 c2, .slice P2 K2 d2] 25)))
        have Mp := Lib.hid (M4.out.keep bb)
        have M5 := Lib.hid (Mp.out.keep (al_one _ (.cells #[.slice A2 L2 c2, .slice P2 K2 d2] 25)))
        have B5 := Lib.hid (below_then (below_then B4.out bb) (al_one _ (.cells #[.slice A2 L2 c2, .slice P2 K2 d2] 25)))
        have Y5 := Lib.hid (at_new hx2)
        clear bb cX0 cX1 X4 M4 B4 hx2
        obtain ⟨W, hW⟩ : ∃ W, w5.alloc (.cells #[.slice A2 L2 c2, .slice P2 K2 d2] 25) = W := ⟨_, rfl⟩
        rw [hW] at B5 X5 M5 Y5
        have HW := Lib.hid hW
        clear hW
        obtain ⟨Z, zs, zk, zd, zz⟩ : ∃ Z : World → Prop, (∀ a, Z a → a.cell? ⟨w3.heap.size, 0, none⟩ = some (.slice A1 L c1) ∧ a.cell? ⟨w3.heap.size, 1, none⟩ = some (.slice P1 K1 d1) ∧ a.cell? ⟨w.heap.size, 0, none⟩ = some (.slice A L c) ∧ a.cell? ⟨w.heap.size, 1, none⟩ = some (.slice P K d) ∧ a.cell? ⟨w5.heap.size, 0, none⟩ = some (.slice A2 L2 c2) ∧ a.cell? ⟨w5.heap.size, 1, none⟩ = some (.slice P2 K2 d2) ∧ Z a) ∧ (∀ a b, Z a → Below a.heap.size a b → Z b) ∧ (∀ a, Z a → Z a.drew) ∧ (Z W ∧ ∀ a, Z a → Below w.heap.size w a ∧ At w3.heap.size A1 P1 L c1 K1 d1 x a ∧ At w.heap.size A P L c K d m a ∧ At w5.heap.size A2 P2 L2 c2 K2 d2 m a) :=
          ⟨fun a => Below w.heap.size w a ∧ At w3.heap.size A1 P1 L c1 K1 d1 x a ∧ At w.heap.size A P L c K d m a ∧ At w5.heap.size A2 P2 L2 c2 K2 d2 m a, fun a h => ⟨h.2.1.use.1, h.2.1.use.2, h.2.2.1.use.1, h.2.2.1.use.2, h.2.2.2.use.1, h.2.2.2.use.2, h⟩, fun a b h k => ⟨below_then h.1 k, h.2.1.keep k, h.2.2.1.keep k, h.2.2.2.keep k⟩, fun a h => ⟨h.1.drew, h.2.1, h.2.2.1, h.2.2.2⟩, ⟨B5.out, X5.out, M5.out, Y5.out⟩, fun a h => h⟩
        have ZS : Hid (∀ a, (a.cell? ⟨w3.heap.size, 0, none⟩ = some (.slice A1 L c1) ∧ a.cell? ⟨w3.heap.size, 1, none⟩ = some (.slice P1 K1 d1) ∧ a.cell? ⟨w.heap.size, 0, none⟩ = some (.slice A L c) ∧ a.cell? ⟨w.heap.size, 1, none⟩ = some (.slice P K d) ∧ a.cell? ⟨w5.heap.size, 0, none⟩ = some (.slice A2 L2 c2) ∧ a.cell? ⟨w5.heap.size, 1, none⟩ = some (.slice P2 K2 d2) ∧ Z a) → (a.drew.cell? ⟨w3.heap.size, 0, none⟩ = some (.slice A1 L c1) ∧ a.drew.cell? ⟨w3.heap.size, 1, none⟩ = some (.slice P1 K1 d1) ∧ a.drew.cell? ⟨w.heap.size, 0, none⟩ = some (.slice A L c) ∧ a.drew.cell? ⟨w.heap.size, 1, none⟩ = some (.slice P K d) ∧ a.drew.cell? ⟨w5.heap.size, 0, none⟩ = some (.slice A2 L2 c2) ∧ a.drew.cell? ⟨w5.heap.size, 1, none⟩ = some (.slice P2 K2 d2) ∧ Z a.drew)) := Lib.hid fun a h => zs _ (zd _ h.2.2.2.2.2.2)
        have ZK : Hid (∀ a b, (a.cell? ⟨w3.heap.size, 0, none⟩ = some (.slice A1 L c1) ∧ a.cell? ⟨w3.heap.size, 1, none⟩ = some (.slice P1 K1 d1) ∧ a.cell? ⟨w.heap.size, 0, none⟩ = some (.slice A L c) ∧ a.cell? ⟨w.heap.size, 1, none⟩ = some (.slice P K d) ∧ a.cell? ⟨w5.heap.size, 0, none⟩ = some (.slice A2 L2 c2) ∧ a.cell? ⟨w5.heap.size, 1, none⟩ = some (.slice P2 K2 d2) ∧ Z a) → Below a.heap.size a b → (b.cell? ⟨w3.heap.size, 0, none⟩ = some (.slice A1 L c1) ∧ b.cell? ⟨w3.heap.size, 1, none⟩ = some (.slice P1 K1 d1) ∧ b.cell? ⟨w.heap.size, 0, none⟩ = some (.slice A L c) ∧ b.cell? ⟨w.heap.size, 1, none⟩ = some (.slice P K d) ∧ b.cell? ⟨w5.heap.size, 0, none⟩ = some (.slice A2 L2 c2) ∧ b.cell? ⟨w5.heap.size, 1, none⟩ = some (.slice P2 K2 d2) ∧ Z b)) := Lib.hid fun a b h k => zs _ (zk _ _ h.2.2.2.2.2.2 k)
        have Z0 : Hid (W.cell? ⟨w3.heap.size, 0, none⟩ = some (.slice A1 L c1) ∧ W.cell? ⟨w3.heap.size, 1, none⟩ = some (.slice P1 K1 d1) ∧ W.cell? ⟨w.heap.size, 0, none⟩ = some (.slice A L c) ∧ W.cell? ⟨w.heap.size, 1, none⟩ = some (.slice P K d) ∧ W.cell? ⟨w5.heap.size, 0, none⟩ = some (.slice A2 L2 c2) ∧ W.cell? ⟨w5.heap.size, 1, none⟩ = some (.slice P2 K2 d2) ∧ Z W) := Lib.hid (zs _ zz.1)
        have ZB : Hid (∀ a, (a.cell? ⟨w3.heap.size, 0, none⟩ = some (.slice A1 L c1) ∧ a.cell? ⟨w3.heap.size, 1, none⟩ = some (.slice P1 K1 d1) ∧ a.cell? ⟨w.heap.size, 0, none⟩ = some (.slice A L c) ∧ a.cell? ⟨w.heap.size, 1, none⟩ = some (.slice P K d) ∧ a.cell? ⟨w5.heap.size, 0, none⟩ = some (.slice A2 L2 c2) ∧ a.cell? ⟨w5.heap.size, 1, none⟩ = some (.slice P2 K2 d2) ∧ Z a) → Below w.heap.size w a) := Lib.hid fun a h => (zz.2 a h.2.2.2.2.2.2).1
        have ZMX : Hid (∀ a, (a.cell? ⟨w3.heap.size, 0, none⟩ = some (.slice A1 L c1) ∧ a.cell? ⟨w3.heap.size, 1, none⟩ = some (.slice P1 K1 d1) ∧ a.cell? ⟨w.heap.size, 0, none⟩ = some (.slice A L c) ∧ a.cell? ⟨w.heap.size, 1, none⟩ = some (.slice P K d) ∧ a.cell? ⟨w5.heap.size, 0, none⟩ = some (.slice A2 L2 c2) ∧ a.cell? ⟨w5.heap.size, 1, none⟩ = some (.slice P2 K2 d2) ∧ Z a) → IsMem a (.agg #[.slice A1 L c1, .slice P1 K1 d1]) x) := Lib.hid fun a h => ((zz.2 a h.2.2.2.2.2.2).2.1).mem
        have ZAX : Hid (∀ a, (a.cell? ⟨w3.heap.size, 0, none⟩ = some (.slice A1 L c1) ∧ a.cell? ⟨w3.heap.size, 1, none⟩ = some (.slice P1 K1 d1) ∧ a.cell? ⟨w.heap.size, 0, none⟩ = some (.slice A L c) ∧ a.cell? ⟨w.heap.size, 1, none⟩ = some (.slice P K d) ∧ a.cell? ⟨w5.heap.size, 0, none⟩ = some (.slice A2 L2 c2) ∧ a.cell? ⟨w5.heap.size, 1, none⟩ = some (.slice P2 K2 d2) ∧ Z a) → At w3.heap.size A1 P1 L c1 K1 d1 x a) := Lib.hid fun a h => ((zz.2 a h.2.2.2.2.2.2).2.1)
        have ZMM : Hid (∀ a, (a.cell? ⟨w3.heap.size, 0, none⟩ = some (.slice A1 L c1) ∧ a.cell? ⟨w3.heap.size, 1, none⟩ = some (.slice P1 K1 d1) ∧ a.cell? ⟨w.heap.size, 0, none⟩ = some (.slice A L c) ∧ a.cell? ⟨w.heap.size, 1, none⟩ = some (.slice P K d) ∧ a.cell? ⟨w5.heap.size, 0, none⟩ = some (.slice A2 L2 c2) ∧ a.cell? ⟨w5.heap.size, 1, none⟩ = some (.slice P2 K2 d2) ∧ Z a) → IsMem a (.agg #[.slice A L c, .slice P K d]) m) := Lib.hid fun a h => ((zz.2 a h.2.2.2.2.2.2).2.2.1).mem
        have ZAM : Hid (∀ a, (a.cell? ⟨w3.heap.size, 0, none⟩ = some (.slice A1 L c1) ∧ a.cell? ⟨w3.heap.size, 1, none⟩ = some (.slice P1 K1 d1) ∧ a.cell? ⟨w.heap.size, 0, none⟩ = some (.slice A L c) ∧ a.cell? ⟨w.heap.size, 1, none⟩ = some (.slice P K d) ∧ a.cell? ⟨w5.heap.size, 0, none⟩ = some (.slice A2 L2 c2) ∧ a.cell? ⟨w5.heap.size, 1, none⟩ = some (.slice P2 K2 d2) ∧ Z a) → At w.heap.size A P L c K d m a) := Lib.hid fun a h => ((zz.2 a h.2.2.2.2.2.2).2.2.1)
        have ZMY : Hid (∀ a, (a.cell? ⟨w3.heap.size, 0, none⟩ = some (.slice A1 L c1) ∧ a.cell? ⟨w3.heap.size, 1, none⟩ = some (.slice P1 K1 d1) ∧ a.cell? ⟨w.heap.size, 0, none⟩ = some (.slice A L c) ∧ a.cell? ⟨w.heap.size, 1, none⟩ = some (.slice P K d) ∧ a.cell? ⟨w5.heap.size, 0, none⟩ = some (.slice A2 L2 c2) ∧ a.cell? ⟨w5.heap.size, 1, none⟩ = some (.slice P2 K2 d2) ∧ Z a) → IsMem a (.agg #[.slice A2 L2 c2, .slice P2 K2 d2]) m) := Lib.hid fun a h => ((zz.2 a h.2.2.2.2.2.2).2.2.2).mem
        have ZAY : Hid (∀ a, (a.cell? ⟨w3.heap.size, 0, none⟩ = some (.slice A1 L c1) ∧ a.cell? ⟨w3.heap.size, 1, none⟩ = some (.slice P1 K1 d1) ∧ a.cell? ⟨w.heap.size, 0, none⟩ = some (.slice A L c) ∧ a.cell? ⟨w.heap.size, 1, none⟩ = some (.slice P K d) ∧ a.cell? ⟨w5.heap.size, 0, none⟩ = some (.slice A2 L2 c2) ∧ a.cell? ⟨w5.heap.size, 1, none⟩ = some (.slice P2 K2 d2) ∧ Z a) → At w5.heap.size A2 P2 L2 c2 K2 d2 m a) := Lib.hid fun a h => ((zz.2 a h.2.2.2.2.2.2).2.2.2)
        clear zs zk zd zz X5 M5 Y5 B5
        go_wp2_with fail
        rw [HW.out]
        refine wp_region_noPanic ?_
        go_region_held3 (fun a => a.cell? ⟨w3.heap.size, 0, none⟩ = some (.slice A1 L c1) ∧ a.cell? ⟨w3.heap.size, 1, none⟩ = some (.slice P1 K1 d1) ∧ a.cell? ⟨w.heap.size, 0, none⟩ = some (.slice A L c) ∧ a.cell? ⟨w.heap.size, 1, none⟩ = some (.slice P K d) ∧ a.cell? ⟨w5.heap.size, 0, none⟩ = some (.slice A2 L2 c2) ∧ a.cell? ⟨w5.heap.size, 1, none⟩ = some (.slice P2 K2 d2) ∧ Z a) (first | assumption | exact ZS.out _ Z0.out | exact ZK.out _ _ (by assumption) (al_one _ _) | exact ZK.out _ _ sb (((al_one _ _).setCell (by simp) _).setCell (by simp) _) | exact ZK.out _ _ sm (((below_then (al_one _ _) bb).setCell (by simp) _).setCell (by simp) _) | exact ZK.out _ _ Z0.out (((below_then ((al_one _ _).drew) (below_then bm bb)).setCell (by simp) _).setCell (by simp) _))
          (first | (go_at_call 38; ((with_reducible refine (mark_at _ _ _ _ _ _ _).mono ?_); rintro e wm ⟨rfl, bm⟩; have sm := ZK.out _ _ (by assumption) bm; (try (have hby := (box_drew _ _ _ _).keep bm)))) | (go_at_call 36; ((with_reducible refine (CB.out _ (ZMX.out _ (by assumption))).mono ?_); rintro e w20 ⟨A3, L3, c3, P3, K3, d3, rfl, hz, bb⟩; have sb := ZK.out _ _ (by assumption) bb; (first | (have hbx := (box_new _ _ _ _).keep bb; obtain ⟨y0, y1, y2, y3⟩ := hbx.use) | (have hbx := hby.keep bb; obtain ⟨y0, y1, y2, y3⟩ := hbx.use) | skip))))
        all_goals (refine NoPanic.normal ?_)
        · have Xp := Lib.hid (ZAX.out _ sb)
          have X20 := Lib.hid (Xp.out.keep (al_one _ (.cells #[.slice A3 L3 c3, .slice P3 K3 d3] 25)))
          have Mp := Lib.hid (ZAM.out _ sb)
          have M20 := Lib.hid (Mp.out.keep (al_one _ (.cells #[.slice A3 L3 c3, .slice P3 K3 d3] 25)))
          have Yp := Lib.hid (ZAY.out _ sb)
          have Y20 := Lib.hid (Yp.out.keep (al_one _ (.cells #[.slice A3 L3 c3, .slice P3 K3 d3] 25)))
          have B20 := Lib.hid (below_then (ZB.out _ sb) (al_one _ (.cells #[.slice A3 L3 c3, .slice P3 K3 d3] 25)))
          have Q20 := Lib.hid (at_new hz)
          obtain ⟨cY0, cY1⟩ := Yp.out.use
          have lY := Yp.out.lt
          obtain ⟨cM0, cM1⟩ := Mp.out.use
          have lM := Mp.out.lt
          go_wp2_with fail
          refine (rsame_eq _ _ _ _ _ _ _ _ _ _ _ _ m _ Y20.out.mem M20.out.mem).mono ?_
          rintro e w21 ⟨rfl, bb⟩
          clear Xp Mp Yp
          have X21 := Lib.hid (X20.out.keep bb)
          have M21 := Lib.hid (M20.out.keep bb)
          have Y21 := Lib.hid (Y20.out.keep bb)
          have Q21 := Lib.hid (Q20.out.keep bb)
          have B21 := Lib.hid (below_then B20.out bb)
          clear bb cY0 cY1 lY cM0 cM1 lM X20 M20 Y20 Q20 B20
          obtain ⟨cQ0, cQ1⟩ := Q21.out.use
          obtain ⟨cX0, cX1⟩ := X21.out.use
          go_wp2_with fail
          refine (rsame_eq _ _ _ _ _ _ _ _ _ _ _ _ x _ Q21.out.mem X21.out.mem).mono ?_
          rintro e w22 ⟨rfl, bb⟩
          have X22 := Lib.hid (X21.out.keep bb)
          have M22 := Lib.hid (M21.out.keep bb)
          have Y22 := Lib.hid (Y21.out.keep bb)
          have Q22 := Lib.hid (Q21.out.keep bb)
          have B22 := Lib.hid (below_then B21.out bb)
          clear bb cQ0 cQ1 cX0 cX1 X21 M21 Y21 Q21 B21
          go_wp2_with fail
          go_ret
          exact ⟨rfl, B22.out⟩
        · have SF := ZK.out _ _ sm (((below_then (al_one _ (.cells #[.slice none 0 0, .slice none 0 0] 25)) bb).setCell (p := ⟨wm.heap.size, 0, none⟩) (by simp) (.slice A3 L3 c3)).setCell (p := ⟨wm.heap.size, 1, none⟩) (by simp) (.slice P3 K3 d3))
          have X20 := Lib.hid (ZAX.out _ SF)
          have M20 := Lib.hid (ZAM.out _ SF)
          have Y20 := Lib.hid (ZAY.out _ SF)
          have B20 := Lib.hid (ZB.out _ SF)
          have Q20 : Hid (At wm.heap.size A3 P3 L3 c3 K3 d3 x _) := Lib.hid ⟨hbx.put (.slice A3 L3 c3) (.slice P3 K3 d3), hz.row hbx (row_put _ _ _ _)⟩
          clear SF y0 y1 y2 y3
          obtain ⟨cY0, cY1⟩ := Y20.out.use
          obtain ⟨cM0, cM1⟩ := M20.out.use
          go_wp2_with fail
          refine (rsame_eq _ _ _ _ _ _ _ _ _ _ _ _ m _ Y20.out.mem M20.out.mem).mono ?_
          rintro e w21 ⟨rfl, bb⟩
          have X21 := Lib.hid (X20.out.keep bb)
          have M21 := Lib.hid (M20.out.keep bb)
          have Y21 := Lib.hid (Y20.out.keep bb)
          have Q21 := Lib.hid (Q20.out.keep bb)
          have B21 := Lib.hid (below_then B20.out bb)
          clear bb cY0 cY1 cM0 cM1 X20 M20 Y20 Q20 B20
          obtain ⟨cQ0, cQ1⟩ := Q21.out.use
          obtain ⟨cX0, cX1⟩ := X21.out.use
          go_wp2_with fail
          refine (rsame_eq _ _ _ _ _ _ _ _ _ _ _ _ x _ Q21.out.mem X21.out.mem).mono ?_
          rintro e w22 ⟨rfl, bb⟩
          have X22 := Lib.hid (X21.out.keep bb)
          have M22 := Lib.hid (M21.out.keep bb)
          have Y22 := Lib.hid (Y21.out.keep bb)
          have Q22 := Lib.hid (Q21.out.keep bb)
          have B22 := Lib.hid (below_then B21.out bb)
          clear bb cQ0 cQ1 cX0 cX1 X21 M21 Y21 Q21 B21
          go_wp2_with fail
          go_ret
          exact ⟨rfl, B22.out⟩
        · have SF := ZK.out _ _ Z0.out (((below_then ((al_one W (.cells #[.slice none 0 0, .slice none 0 0] 25)).drew) (below_then bm bb)).setCell (p := ⟨W.heap.size, 0, none⟩) (by simp) (.slice A3 L3 c3)).setCell (p := ⟨W.heap.size, 1, none⟩) (by simp) (.slice P3 K3 d3))
          have X20 := Lib.hid (ZAX.out _ SF)
          have M20 := Lib.hid (ZAM.out _ SF)
          have Y20 := Lib.hid (ZAY.out _ SF)
          have B20 := Lib.hid (ZB.out _ SF)
          have Q20 : Hid (At W.heap.size A3 P3 L3 c3 K3 d3 x _) := Lib.hid ⟨hbx.put (.slice A3 L3 c3) (.slice P3 K3 d3), hz.row hbx (row_put _ _ _ _)⟩
          clear SF y0 y1 y2 y3
          obtain ⟨cY0, cY1⟩ := Y20.out.use
          obtain ⟨cM0, cM1⟩ := M20.out.use
          go_wp2_with fail
          refine (rsame_eq _ _ _ _ _ _ _ _ _ _ _ _ m _ Y20.out.mem M20.out.mem).mono ?_
          rintro e w21 ⟨rfl, bb⟩
          have X21 := Lib.hid (X20.out.keep bb)
          have M21 := Lib.hid (M20.out.keep bb)
          have Y21 := Lib.hid (Y20.out.keep bb)
          have Q21 := Lib.hid (Q20.out.keep bb)
          have B21 := Lib.hid (below_then B20.out bb)
          clear bb cY0 cY1 cM0 cM1 X20 M20 Y20 Q20 B20
          obtain ⟨cQ0, cQ1⟩ := Q21.out.use
          obtain ⟨cX0, cX1⟩ := X21.out.use
          go_wp2_with fail
          refine (rsame_eq _ _ _ _ _ _ _ _ _ _ _ _ x _ Q21.out.mem X21.out.mem).mono ?_
          rintro e w22 ⟨rfl, bb⟩
          have X22 := Lib.hid (X21.out.keep bb)
          have M22 := Lib.hid (M21.out.keep bb)
          have Y22 := Lib.hid (Y21.out.keep bb)
          have Q22 := Lib.hid (Q21.out.keep bb)
          have B22 := Lib.hid (below_then B21.out bb)
          clear bb cQ0 cQ1 cX0 cX1 X21 M21 Y21 Q21 B21
          go_wp2_with fail
          go_ret
          exact ⟨rfl, B22.out⟩
end Go.Proofs.Ytngmkbbeafefaaa
