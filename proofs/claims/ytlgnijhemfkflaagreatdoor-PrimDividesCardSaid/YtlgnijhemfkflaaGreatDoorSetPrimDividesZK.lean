/- Part 37. -/
import Derived.Test.YtlgnijhemfkflaaGreatDoorSetPrimDividesZero
import Derived.Test.YtlgnijhemfkflaaGreatDoorSetPrimDividesZD
set_option linter.unusedVariables false
set_option linter.unusedSimpArgs false

namespace Go.Proofs.YtlgnijhemfkflaaGreatDoor
open Go.RowKit
set_option linter.unusedVariables false
set_option linter.unusedSimpArgs false
abbrev qC (q : Rq) : Array Value := #[.int .i64 q.kind, .int .i64 q.arg, .int .i64 q.hand, .int .i64 q.rank, .int .i64 q.delay, .int .i64 q.id]
abbrev qV (q : Rq) : Value := .agg #[.int .i64 q.kind, .int .i64 q.arg, .int .i64 q.hand, .int .i64 q.rank, .int .i64 q.delay, .int .i64 q.id]
abbrev rq0 : Rq := ⟨0, 0, 0, 0, 0, 0⟩
def QBox (w : World) (b : Nat) (q : Rq) : Prop := w.heap[b]? = some (.cells (qC q) 61 (0, 0))
theorem QBox.lt {w : World} {b : Nat} {q : Rq} (h : QBox w b q) : b < w.heap.size := (Array.getElem?_eq_some_iff.1 h).1
theorem QBox.keep {w w' : World} {b : Nat} {q : Rq} (h : QBox w b q) (k : Below w.heap.size w w') : QBox w' b q := (k.block b h.lt).trans h
theorem QBox.use {w : World} {b : Nat} {q : Rq} (h : QBox w b q) : w.cell? ⟨b, 0, none⟩ = some (.int .i64 q.kind) ∧ w.cell? ⟨b, 1, none⟩ = some (.int .i64 q.arg) ∧ w.cell? ⟨b, 2, none⟩ = some (.int .i64 q.hand) ∧ w.cell? ⟨b, 3, none⟩ = some (.int .i64 q.rank) ∧ w.cell? ⟨b, 4, none⟩ = some (.int .i64 q.delay) ∧ w.cell? ⟨b, 5, none⟩ = some (.int .i64 q.id) := by
  unfold QBox at h;refine ⟨?_, ?_, ?_, ?_, ?_, ?_⟩ <;> simp [World.cell?, h]
theorem qbox_new (w : World) (q : Rq) : QBox (w.alloc (.cells (qC q) 61)) w.heap.size q := one_newN w _ _
theorem qbox_row {w : World} {b b' : Nat} {q : Rq} (h : QBox w b q) (hne : b ≠ b') (cs : Array Value) : QBox (w.setRow b' cs) b q := by
  unfold QBox at h ⊢;rw [setRow_other w b' b cs (by omega)];exact h
theorem QOwns.sl {w : World} {base n : Nat} {v : Value} {l : List Rq} (h : QOwns w base v n l) : ∃ B c, v = .slice B n c ∧ ∀ p, B = some p → base ≤ p.block := by
  rcases h.2 with ⟨rfl, h0⟩ | ⟨g, cap, cur, rfl, hg, _⟩
  · exact ⟨none, 0, by rw [h0], fun p e => by cases e⟩
  · exact ⟨_, _, rfl, fun p e => by cases e; exact hg⟩
set_option maxRecDepth 100000 in
set_option maxHeartbeats 4000000 in
theorem hasHandler_any (k : VmK) (L : VmL) (q : Rq) (w : World) (h : IsVm w k L) (hn : L.h.length ≤ 1000) : Calls Tryz.prog 248 #[vmV k, qV q] w fun e w' => e = .returned (.bool (hasB L q.hand q.rank)) ∧ Below w.heap.size w w' := by
  have e1 : L.h.length = k.hn := h.h.len;obtain ⟨D, hD⟩ : ∃ D, hasB L q.hand q.rank = D := ⟨_, rfl⟩;rw [hD];unfold hasB at hD;rw [e1] at hD;clear h
  by_cases h1 : 0 ≤ q.hand
  · have g1 : decide (0 ≤ q.hand) = true := by simpa using h1
    by_cases h2 : q.hand < (k.hn : Int)
    · have g2 : decide (q.hand < (k.hn : Int)) = true := by simpa using h2
      by_cases h3 : 0 ≤ q.rank
      · have g3 : decide (0 ≤ q.rank) = true := by simpa using h3
        by_cases h4 : q.rank < 4
        · have g4 : decide (q.rank < 4) = true := by simpa using h4
          obtain rfl : D = true := by rw [← hD]; simp; omega
          clear hD e1;go_enter Tryz.func248, Tryz.ntmps248;go_upto_region 1 with fail
          generalize hw1 : World.alloc (World.alloc _ _) _ = w1;have kb : Below w.heap.size w w1 := by rw [← hw1]; exact al_two _ _ _
          have kx : VBox w1 w.heap.size k := by rw [← hw1]; exact (in_two w k _).2
          have kz : QBox w1 (w.heap.size + 1) q := by rw [← hw1]; have := qbox_new (w.alloc (.cells (vmC k) 36)) q; rwa [World.size_alloc] at this
          obtain ⟨p0, p1, p2, p3, p4, p5, p6, p7, p8, p9, p10, p11, p12, p13, p14, p15, p16, p17, p18, p19, p20, p21, p22⟩ := kx.use;clear p0 p1 p2 p3 p4 p5 p6 p7 p8 p9 p10 p11 p12 p13 p14 p15 p16 p17 p18 p19 p20 p21;obtain ⟨r0, r1, r2, r3, r4, r5⟩ := kz.use;clear hw1 kx kz r0 r1 r4 r5;have B1 := Lib.hid kb;clear kb;(go_wp2_with fail);go_ret;exact ⟨rfl, B1.out⟩
        · have g4 : decide (q.rank < 4) = false := by simpa using h4
          obtain rfl : D = false := by rw [← hD]; simp; omega
          clear hD e1;go_enter Tryz.func248, Tryz.ntmps248;go_upto_region 1 with fail
          generalize hw1 : World.alloc (World.alloc _ _) _ = w1;have kb : Below w.heap.size w w1 := by rw [← hw1]; exact al_two _ _ _
          have kx : VBox w1 w.heap.size k := by rw [← hw1]; exact (in_two w k _).2
          have kz : QBox w1 (w.heap.size + 1) q := by rw [← hw1]; have := qbox_new (w.alloc (.cells (vmC k) 36)) q; rwa [World.size_alloc] at this
          obtain ⟨p0, p1, p2, p3, p4, p5, p6, p7, p8, p9, p10, p11, p12, p13, p14, p15, p16, p17, p18, p19, p20, p21, p22⟩ := kx.use;clear p0 p1 p2 p3 p4 p5 p6 p7 p8 p9 p10 p11 p12 p13 p14 p15 p16 p17 p18 p19 p20 p21;obtain ⟨r0, r1, r2, r3, r4, r5⟩ := kz.use;clear hw1 kx kz r0 r1 r4 r5;have B1 := Lib.hid kb;clear kb;(go_wp2_with fail);go_ret;exact ⟨rfl, B1.out⟩
      · have g3 : decide (0 ≤ q.rank) = false := by simpa using h3
        obtain rfl : D = false := by rw [← hD]; simp; omega
        clear hD e1;go_enter Tryz.func248, Tryz.ntmps248;go_upto_region 1 with fail
        generalize hw1 : World.alloc (World.alloc _ _) _ = w1;have kb : Below w.heap.size w w1 := by rw [← hw1]; exact al_two _ _ _
        have kx : VBox w1 w.heap.size k := by rw [← hw1]; exact (in_two w k _).2
        have kz : QBox w1 (w.heap.size + 1) q := by rw [← hw1]; have := qbox_new (w.alloc (.cells (vmC k) 36)) q; rwa [World.size_alloc] at this
        obtain ⟨p0, p1, p2, p3, p4, p5, p6, p7, p8, p9, p10, p11, p12, p13, p14, p15, p16, p17, p18, p19, p20, p21, p22⟩ := kx.use;clear p0 p1 p2 p3 p4 p5 p6 p7 p8 p9 p10 p11 p12 p13 p14 p15 p16 p17 p18 p19 p20 p21;obtain ⟨r0, r1, r2, r3, r4, r5⟩ := kz.use;clear hw1 kx kz r0 r1 r4 r5;have B1 := Lib.hid kb;clear kb;(go_wp2_with fail);go_ret;exact ⟨rfl, B1.out⟩
    · have g2 : decide (q.hand < (k.hn : Int)) = false := by simpa using h2
      obtain rfl : D = false := by rw [← hD]; simp; omega
      clear hD e1;go_enter Tryz.func248, Tryz.ntmps248;go_upto_region 1 with fail
      generalize hw1 : World.alloc (World.alloc _ _) _ = w1;have kb : Below w.heap.size w w1 := by rw [← hw1]; exact al_two _ _ _
      have kx : VBox w1 w.heap.size k := by rw [← hw1]; exact (in_two w k _).2
      have kz : QBox w1 (w.heap.size + 1) q := by rw [← hw1]; have := qbox_new (w.alloc (.cells (vmC k) 36)) q; rwa [World.size_alloc] at this
      obtain ⟨p0, p1, p2, p3, p4, p5, p6, p7, p8, p9, p10, p11, p12, p13, p14, p15, p16, p17, p18, p19, p20, p21, p22⟩ := kx.use;clear p0 p1 p2 p3 p4 p5 p6 p7 p8 p9 p10 p11 p12 p13 p14 p15 p16 p17 p18 p19 p20 p21;obtain ⟨r0, r1, r2, r3, r4, r5⟩ := kz.use;clear hw1 kx kz r0 r1 r4 r5;have B1 := Lib.hid kb;clear kb;(go_wp2_with fail);go_ret;exact ⟨rfl, B1.out⟩
  · have g1 : decide (0 ≤ q.hand) = false := by simpa using h1
    obtain rfl : D = false := by rw [← hD]; simp; omega
    clear hD e1;go_enter Tryz.func248, Tryz.ntmps248;go_upto_region 1 with fail
    generalize hw1 : World.alloc (World.alloc _ _) _ = w1;have kb : Below w.heap.size w w1 := by rw [← hw1]; exact al_two _ _ _
    have kx : VBox w1 w.heap.size k := by rw [← hw1]; exact (in_two w k _).2
    have kz : QBox w1 (w.heap.size + 1) q := by rw [← hw1]; have := qbox_new (w.alloc (.cells (vmC k) 36)) q; rwa [World.size_alloc] at this
    obtain ⟨p0, p1, p2, p3, p4, p5, p6, p7, p8, p9, p10, p11, p12, p13, p14, p15, p16, p17, p18, p19, p20, p21, p22⟩ := kx.use;clear p0 p1 p2 p3 p4 p5 p6 p7 p8 p9 p10 p11 p12 p13 p14 p15 p16 p17 p18 p19 p20 p21;obtain ⟨r0, r1, r2, r3, r4, r5⟩ := kz.use;clear hw1 kx kz r0 r1 r4 r5;have B1 := Lib.hid kb;clear kb;(go_wp2_with fail);go_ret;exact ⟨rfl, B1.out⟩
end Go.Proofs.YtlgnijhemfkflaaGreatDoor

namespace Go.Proofs.YtlgnijhemfkflaaGreatDoor
open Go.RowKit
set_option linter.unusedVariables false
set_option linter.unusedSimpArgs false
set_option maxRecDepth 100000 in
set_option maxHeartbeats 4000000 in
theorem asked_any (k : VmK) (L : VmL) (q : Rq) (w : World) (ok : Ok k L) (h : IsVm w k L) : Calls Tryz.prog 249 #[vmV k, qV q] w (TurnOut ⟨postC L, [], k, { L with e := L.e ++ [q] }⟩ k w) := by
  have e1 : L.e.length = k.en := h.e.len;have e2 := ok.e1;have V0 := Lib.hid h;obtain ⟨D, hD⟩ : ∃ D, postC L = D := ⟨_, rfl⟩;rw [hD];unfold postC at hD;rw [e1] at hD;have E1 := Lib.hid e1;have hen : k.en ≤ 100 := by omega
  clear h ok e1 e2
  by_cases h1 : k.en < 16
  · have g1 : decide ((16 : Int) ≤ (k.en : Int)) = false := by simp; omega
    obtain rfl : D = 0 := by rw [← hD]; rw [if_pos h1]
    clear hD;go_enter Tryz.func249, Tryz.ntmps249;go_upto_region 1 with fail
    generalize hw1 : World.alloc (World.alloc (World.alloc _ _) _) _ = w1;have kb : Below w.heap.size w w1 := by rw [← hw1]; exact below_then (al_two _ _ _) (al_one _ _)
    have kx : VBox w1 w.heap.size k := by rw [← hw1]; exact (in_two w k _).2.keep (al_one _ _)
    have ky : QBox w1 (w.heap.size + 1) q := by rw [← hw1]; have := (qbox_new (w.alloc (.cells (vmC k) 36)) q).keep (al_one _ (.cells (vmC vm0) 36)); rwa [World.size_alloc] at this
    have kz : VBox w1 (w.heap.size + 1 + 1) vm0 := by rw [← hw1]; have := vbox_zero ((w.alloc (.cells (vmC k) 36)).alloc (.cells (qC q) 61)); rwa [World.size_alloc, World.size_alloc] at this
    have KS : Hid (w1.heap.size = w.heap.size + 3) := by show _ = _; rw [← hw1]; simp
    clear hw1;have X1 := Lib.hid kx;have Y1 := Lib.hid ky;have Z1 := Lib.hid kz;have B1 := Lib.hid kb;obtain ⟨p0, p1, p2, p3, p4, p5, p6, p7, p8, p9, p10, p11, p12, p13, p14, p15, p16, p17, p18, p19, p20, p21, p22⟩ := kx.use;clear p0 p1 p2 p3 p4 p5 p6 p7 p8 p9 p10 p11 p12 p13 p14 p15 p17 p18 p19 p20 p21 p22;obtain ⟨r0, r1, r2, r3, r4, r5⟩ := ky.use;clear kx ky kz kb;go_upto_region 3 with fail
    (go_wp2_with fail);generalize hu : World.alloc w1 _ = u;have bu : Below w1.heap.size w1 u := by rw [← hu]; exact al_one _ _
    have hq := rqs_newone w1 q;rw [hu] at hq;have su : u.heap.size = w1.heap.size + 1 := by rw [← hu]; simp
    rw [← su];refine (qcat_any k.eA (some ⟨w1.heap.size, 0, none⟩) k.en k.ec 1 1 L.e [q] _ _ (pair_new u _ _ _).1 (pair_new u _ _ _).2 (((V0.out.e.keep B1.out).keep bu).keep (al_one _ _)) (hq.keep (al_one _ _)) (by rw [E1.out]; omega) (by simp)).mono ?_;rintro e u5 ⟨v5, rfl, ho, b5⟩;have b6 := below_then (below_then bu (al_one u _)) b5;obtain ⟨n5, h55⟩ : ∃ n5, (L.e ++ [q]).length = n5 := ⟨_, rfl⟩;rw [h55] at ho;obtain ⟨B5, c5, rfl, hn5⟩ := ho.sl;have HQ := Lib.hid ho.rqs;have N5 : Hid (∀ p, B5 = some p → w1.heap.size ≤ p.block) := Lib.hid fun p hp => Nat.le_trans (by simp; omega) (hn5 p hp)
    have X5 := Lib.hid (X1.out.keep b6);have Z5 := Lib.hid (Z1.out.keep b6);have B5w := Lib.hid (below_then B1.out b6);have S5 := Lib.hid b6.size;have F16 := X5.out.free.2.2.2.2.2.2.2.2.2.2.2.2.2.2.2.2.1;obtain ⟨p0, p1, p2, p3, p4, p5, p6, p7, p8, p9, p10, p11, p12, p13, p14, p15, P16, p17, p18, p19, p20, p21, p22⟩ := X5.out.use;clear p0 p1 p2 p3 p4 p5 p6 p7 p8 p9 p10 p11 p12 p13 p14 p15 p17 p18 p19 p20 p21 p22;clear p16 r0 r1 r2 r3 r4 r5 ho b5 b6 hn5 hq bu su hu h55;go_upto_region 4 with fail
    generalize hV : World.setCell _ _ _ = V;have XW : Hid (VBox V w.heap.size { k with eA := B5, en := n5, ec := c5 }) := by show VBox _ _ _; rw [← hV]; exact X5.out.put_e _ _ _
    have ZW : Hid (VBox V (w.heap.size + 1 + 1) vm0) := by show VBox _ _ _; rw [← hV]; exact vset_far Z5.out (by omega)
    have BW : Hid (Below w.heap.size w V) := by show Below _ _ _; rw [← hV]; exact B5w.out.setCell (Nat.le_refl _) _
    have EW : Hid (Ex (fun g => g = w.heap.size ∨ g = w.heap.size + 1 + 1) u5 V) := by show Ex _ _ _; rw [← hV]; exact (Ex.refl _ _).cell (.inl rfl) _
    clear hV F16 P16;(go_wp2_with (first | (refine wpList_vload (by rfl) _ rfl _ _ rfl XW.out ?_) | (refine wpList_vstore (by rfl) _ _ rfl _ vm0 _ rfl rfl ZW.out ?_)));have kb2 := below_setRow BW.out (show w.heap.size ≤ w.heap.size + 1 + 1 by omega) (vmC { k with eA := B5, en := n5, ec := c5 });refine bodyPost_ret (res_ct rfl _ _ _ _ rfl (vrow ZW.out _)) rfl ⟨{ k with eA := B5, en := n5, ec := c5 }, rfl, fun hz => ?_, kb2⟩;have v2 := V0.out.keep B5w.out;have hl : MLoc w1.heap.size { k with eA := B5, en := n5, ec := c5 } k := ⟨.refl _ _ _, .refl _ _ _, .inr N5.out, ⟨rfl, rfl⟩, ⟨rfl, rfl⟩, ⟨rfl, rfl⟩, ⟨rfl, rfl⟩⟩;have hj : IsVm u5 { k with eA := B5, en := n5, ec := c5 } { L with e := L.e ++ [q] } := ⟨v2.m, v2.d, v2.r, v2.f, v2.dict, v2.o, v2.q, HQ.out, v2.h⟩;refine ⟨V0.out.ex hj hl (EW.out.row (.inr rfl) _) ?_, ⟨rfl, rfl, rfl, rfl, rfl, rfl, rfl, rfl, rfl, rfl, rfl, rfl, rfl⟩, hl.le (by have := KS.out; omega)⟩;intro g hg h;have := KS.out
    rcases h with rfl | rfl
    · exact ⟨by omega, by omega, vbox_nou8 X5.out⟩
    · exact ⟨by omega, by omega, vbox_nou8 Z5.out⟩
  · have g1 : decide ((16 : Int) ≤ (k.en : Int)) = true := by simp; omega
    obtain rfl : D = -257 := by rw [← hD]; rw [if_neg h1]
    clear hD;go_enter Tryz.func249, Tryz.ntmps249;go_upto_region 1 with fail
    generalize hw1 : World.alloc (World.alloc (World.alloc _ _) _) _ = w1;have kb : Below w.heap.size w w1 := by rw [← hw1]; exact below_then (al_two _ _ _) (al_one _ _)
    have kx : VBox w1 w.heap.size k := by rw [← hw1]; exact (in_two w k _).2.keep (al_one _ _)
    have ky : QBox w1 (w.heap.size + 1) q := by rw [← hw1]; have := (qbox_new (w.alloc (.cells (vmC k) 36)) q).keep (al_one _ (.cells (vmC vm0) 36)); rwa [World.size_alloc] at this
    have kz : VBox w1 (w.heap.size + 1 + 1) vm0 := by rw [← hw1]; have := vbox_zero ((w.alloc (.cells (vmC k) 36)).alloc (.cells (qC q) 61)); rwa [World.size_alloc, World.size_alloc] at this
    have KS : Hid (w1.heap.size = w.heap.size + 3) := by show _ = _; rw [← hw1]; simp
    clear hw1;have X1 := Lib.hid kx;have Y1 := Lib.hid ky;have Z1 := Lib.hid kz;have B1 := Lib.hid kb;obtain ⟨p0, p1, p2, p3, p4, p5, p6, p7, p8, p9, p10, p11, p12, p13, p14, p15, p16, p17, p18, p19, p20, p21, p22⟩ := kx.use;clear p0 p1 p2 p3 p4 p5 p6 p7 p8 p9 p10 p11 p12 p13 p14 p15 p17 p18 p19 p20 p21 p22;obtain ⟨r0, r1, r2, r3, r4, r5⟩ := ky.use;clear kx ky kz kb;clear r0 r1 r2 r3 r4 r5;(go_wp2_with (first | (refine wpList_vload (by rfl) _ rfl w.heap.size k rfl X1.out ?_) | (refine wpList_vstore (by rfl) _ _ rfl _ vm0 k rfl rfl Z1.out ?_)));have kb2 := below_setRow B1.out (show w.heap.size ≤ w.heap.size + 1 + 1 by omega) (vmC k);exact bodyPost_ret (res_ct rfl _ _ _ _ rfl (vrow Z1.out _)) rfl ⟨k, rfl, fun hz => absurd (show (-257 : Int) = 0 from hz) (by decide), kb2⟩
end Go.Proofs.YtlgnijhemfkflaaGreatDoor
