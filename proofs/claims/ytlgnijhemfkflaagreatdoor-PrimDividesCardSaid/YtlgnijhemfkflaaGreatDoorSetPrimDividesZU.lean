/- Part 47. -/
import Derived.Test.YtlgnijhemfkflaaGreatDoorSetPrimDividesZero
import Derived.Test.YtlgnijhemfkflaaGreatDoorSetPrimDividesZT
set_option linter.unusedVariables false
set_option linter.unusedSimpArgs false

namespace Go.Proofs.YtlgnijhemfkflaaGreatDoor
open Go.RowKit
set_option linter.unusedVariables false
set_option linter.unusedSimpArgs false
set_option maxRecDepth 100000 in
set_option maxHeartbeats 4000000 in
theorem does_any (n : Int) (w : World) : Calls Tryz.prog 16 #[.int .i64 n] w fun e w' => e = .returned (.bool (decide (23 ≤ n ∧ n ≤ 129))) ∧ w = w' := by
  by_cases h1 : 23 ≤ n
  · by_cases h2 : n < 130
    · have H := Lib.hid (decide_eq_true (show 23 ≤ n ∧ n ≤ 129 from ⟨h1, by omega⟩))
      rw [H.out];go_enter Tryz.func16, Tryz.ntmps16;go_wp2;go_ret;exact ⟨rfl, rfl⟩
    · have H := Lib.hid (decide_eq_false (show ¬ (23 ≤ n ∧ n ≤ 129) from fun h => by omega))
      have g2 : decide (n < 130) = false := by simp; omega
      rw [H.out];clear h2;go_enter Tryz.func16, Tryz.ntmps16;go_wp2;go_ret;exact ⟨rfl, rfl⟩
  · have H := Lib.hid (decide_eq_false (show ¬ (23 ≤ n ∧ n ≤ 129) from fun h => by omega))
    have g1 : decide (23 ≤ n) = false := by simp; omega
    rw [H.out];clear h1;go_enter Tryz.func16, Tryz.ntmps16;go_wp2;go_ret;exact ⟨rfl, rfl⟩
theorem nodup_first {l : DRow} (h : (l.map (·.1)).Nodup) {j : Nat} {k : ByteArray} {F : VmK → VmL → Eff} (hj : l[j]? = some (k, F)) : ∀ (a : Nat), a < j → ∀ x, l[a]? = some x → x.1 ≠ k := by
  intro a ha x hx e;obtain ⟨h1, e1⟩ := List.getElem?_eq_some_iff.1 hj;obtain ⟨h2, e2⟩ := List.getElem?_eq_some_iff.1 hx;rw [List.Nodup, List.pairwise_iff_getElem] at h;have := h a j (by simpa using h2) (by simpa using h1) ha;simp [e1, e2] at this;exact this e
theorem nmP_at (m : Nat) (h : m < 130) : primL[m]? = some (nmP m) := by
  have hl : primL.length = 130 := by decide +kernel
  unfold nmP;rw [List.getD_eq_getElem?_getD, List.getElem?_eq_getElem (by omega)];rfl
theorem doE_no {n : Int} (h : ¬ (23 ≤ n ∧ n ≤ 129)) (k : VmK) (L : VmL) : doE n k L = ⟨-24, [], k, L⟩ := by unfold doE; rw [if_neg h]
theorem sts_row {w : World} {g b n c : Nat} {l : List (List UInt8)} (h : Sts w (.slice (some ⟨g, 0, none⟩) n c) l) (hne : g ≠ b) (cs : Array Value) : Sts (w.setRow b cs) (.slice (some ⟨g, 0, none⟩) n c) l := by
  obtain ⟨A', c', e, h1, h2, h4⟩ := h;refine ⟨A', c', e, h1, h2, ?_⟩;injection e with e1 e2 e3
  subst e1
  rcases h4 with h4 | ⟨g', o, e, hg, hc⟩
  · exact .inl h4
  · injection e with e
    injection e with ea eo _
    subst ea eo;refine .inr ⟨g, 0, rfl, by rw [size_setRow]; exact hg, fun j v hv => ?_⟩;have := hc j v hv;unfold World.cell? at this ⊢;rw [show (w.setRow b cs).heap[(⟨g, 0 + j, none⟩ : Addr).block]? = w.heap[(⟨g, 0 + j, none⟩ : Addr).block]? from setRow_other w b g cs (by omega)];exact this
theorem sts_is {w : World} {b n c : Nat} {l : List (List UInt8)} (h : Sts w (.slice (some ⟨b, 0, none⟩) n c) l) {i : Nat} {s : List UInt8} (hs : l[i]? = some s) : w.cell? ⟨b, i, none⟩ = some (.string (strB s)) := by
  obtain ⟨hi, hv⟩ := List.getElem?_eq_some_iff.1 hs;obtain ⟨g, o, e, hc⟩ := sts_cell h hi;injection e with e
  injection e with e1 e2 _
  subst e1 e2;rw [hv, Nat.zero_add] at hc;exact hc
set_option maxRecDepth 100000 in
set_option maxHeartbeats 4000000 in
theorem do_any (k : VmK) (L : VmL) (n : Int) (w : World) (HT : Tab w) (ok : Ok k L) (h : IsVm w k L) : Calls Tryz.prog 14 #[vmV k, .int .i64 n] w (DeedOut (doE n k L) k w) := by
  have V0 := Lib.hid h;have T0 := Lib.hid HT;have ok9 := Lib.hid ok
  by_cases hn : 23 ≤ n ∧ n ≤ 129
  · obtain ⟨m, rfl⟩ : ∃ m : Nat, n = (m : Int) := ⟨n.toNat, by omega⟩
    have HQ := Lib.hid fun w => does_any (m : Int) w
    rw [decide_eq_true hn] at HQ;have hm0 : 23 ≤ m := by omega
    have hm2 : m < 130 := by omega
    have HM := Lib.hid (And.intro hm0 hm2);have HN : Hid (primL[m]? = some (nmP m)) := Lib.hid (nmP_at m (by omega));have hm1 : (m : Int) < 130 := by omega
    clear h HT ok hn hm0 hm2;go_enter Tryz.func14, Tryz.ntmps14;go_upto_region 1 with fail
    generalize hw1 : World.alloc (World.alloc _ _) _ = w1;have kb : Below w.heap.size w w1 := by rw [← hw1]; exact al_two _ _ _
    have kx : VBox w1 w.heap.size k := by rw [← hw1]; exact (in_two w k _).2
    have kz : VBox w1 (w.heap.size + 1) vm0 := by rw [← hw1]; exact in_two0 w _
    have KS : Hid (w1.heap.size = w.heap.size + 1 + 1) := by show _ = _; rw [← hw1]; exact in_twos w _ _
    clear hw1;have X1 := Lib.hid kx;have Z1 := Lib.hid kz;have B1 := Lib.hid kb;clear kx kz kb;(go_wp2_with fail);refine (HQ.out _).mono ?_;rintro e w9 ⟨rfl, rfl⟩;clear HQ;(go_wp2_with fail);refine (names_any _ (T0.out.keep B1.out)).mono ?_;rintro e w2 ⟨rfl, hs, bb⟩;have X2 := Lib.hid (X1.out.keep bb);have Z2 := Lib.hid (Z1.out.keep bb);have B2 := Lib.hid (below_then B1.out bb);have S2 := Lib.hid hs;have HC := Lib.hid fun w hs => deeds_any m HM.out.1 HM.out.2 w1.heap.size w hs
    clear X1 Z1 B1 bb hs T0;go_upto_region 4 with fail
    refine wp_region_noPanic ?_;refine wp_region_held_drew (S := fun a9 => Below w.heap.size w a9 ∧ VBox a9 w.heap.size k ∧ (∃ j0, VBox a9 (w.heap.size + 1) j0) ∧ Sts a9 (.slice (some ⟨w1.heap.size, 0, none⟩) 130 130) primL) (by kernel_rfl) ?_ (fun hHeld => ?_)
    · exact ⟨B2.out.drew, X2.out, ⟨_, Z2.out⟩, S2.out⟩
    refine zqt (i := 0) (v := ?v0a1) ?y0a1 ?r0a1
    case y0a1 =>
      intro u hSu;(try dsimp only at hSu);go_simp;(try with_reducible rfl)
    (try simp only [zq0, zq1, zq2, Act.put, zq3, zq4, zq5]);refine zqt (i := 1) (v := ?v1a1) ?y1a1 ?r1a1
    case y1a1 =>
      intro u hSu;(try dsimp only at hSu);go_simp;(try with_reducible rfl)
    (try simp only [zq0, zq1, zq2, Act.put, zq3, zq4, zq5]);refine zqt (i := 3) (v := ?v3a1) ?y3a1 ?r3a1
    case y3a1 =>
      intro u hSu;(try dsimp only at hSu);go_simp;(try with_reducible rfl)
    (try simp only [zq0, zq1, zq2, Act.put, zq3, zq4, zq5]);refine zqt (i := 4) (v := ?v4a1) ?y4a1 ?r4a1
    case y4a1 =>
      intro u hSu;(try dsimp only at hSu);go_simp;(try with_reducible rfl)
    (try simp only [zq0, zq1, zq2, Act.put, zq3, zq4, zq5]);refine zqt (i := 5) (v := ?v5a1) ?y5a1 ?r5a1
    case y5a1 =>
      intro u hSu;(try dsimp only at hSu);go_simp;(try with_reducible rfl)
    (try simp only [zq0, zq1, zq2, Act.put, zq3, zq4, zq5]);refine zqt (i := 6) (v := ?v6a1) ?y6a1 ?r6a1
    case y6a1 =>
      intro u hSu;(try dsimp only at hSu);have qs := sts_is hSu.2.2.2 HN.out;go_simp;(try with_reducible rfl)
    (try simp only [zq0, zq1, zq2, Act.put, zq3, zq4, zq5]);refine zqt (i := 8) (v := vmV k) (fun u hSu => exec_vl _ rfl w.heap.size k rfl hSu.2.1) ?_;(try simp only [zq0, zq1, zq2, Act.put, zq3, zq4, zq5]);refine wpAnyH_ready (rs := [2]) (by kernel_rfl) (by simp) ?_;refine AllReadyH.cons (o := _) rfl (fun K hK => ?_) AllReadyH.nil;go_simp;refine (HC.out _ hHeld.2.2.2).mono ?_;rintro e u1 ⟨b, l, j9, rfl, hm, hj, hd, bb⟩;obtain ⟨j0, hz⟩ := hHeld.2.2.1;have hN : Below w.heap.size w u1 ∧ VBox u1 w.heap.size k ∧ (∃ j0, VBox u1 (w.heap.size + 1) j0) ∧ Sts u1 (.slice (some ⟨w1.heap.size, 0, none⟩) 130 130) primL := ⟨below_then hHeld.1 bb, hHeld.2.1.keep bb, ⟨j0, hz.keep bb⟩, hHeld.2.2.2.keep bb⟩;obtain ⟨v9, hv9, hi9⟩ := run_lookD hm (strB (nmP m)) (doF m) j9 hj (nodup_first hd hj);(go_wp2_with fail);clear bb hz hm hj hd;clear hHeld;refine hK.out _ _ hN (fun hHeld => ?_);clear hK K hN;(try simp only [zq0, zq1, zq2, Act.put, zq3, zq4, zq5]);refine wpAnyH_ready (rs := [7]) (by kernel_rfl) (by simp) ?_;refine AllReadyH.cons (o := _) rfl (fun K hK => ?_) AllReadyH.nil;go_simp;have hN := hHeld;clear hv9;clear hHeld;refine hK.out _ _ hN (fun hHeld => ?_);clear hK K hN;(try simp only [zq0, zq1, zq2, Act.put, zq3, zq4, zq5]);refine wpAnyH_ready (rs := [9]) (by kernel_rfl) (by simp) ?_;refine AllReadyH.cons (o := _) rfl (fun K hK => ?_) AllReadyH.nil;obtain ⟨g9, cs9, rfl, eg9, hc9⟩ := hi9;have HD := Lib.hid (hc9 u1 k L (kp_of (Below.refl _ _)) ok9.out (V0.out.keep hHeld.1));have HB9 := Lib.hid hHeld.1.size
    clear hc9;go_simp;refine HD.out.mono ?_;rintro e u2 ⟨j, rfl, hv, hs, hl, bb⟩;obtain ⟨j0, hz⟩ := hHeld.2.2.1;have hN : Below w.heap.size w u2 ∧ VBox u2 w.heap.size k ∧ (∃ j0, VBox u2 (w.heap.size + 1) j0) ∧ Sts u2 (.slice (some ⟨w1.heap.size, 0, none⟩) 130 130) primL := ⟨below_then hHeld.1 bb, hHeld.2.1.keep bb, ⟨j0, hz.keep bb⟩, hHeld.2.2.2.keep bb⟩;have HZ := Lib.hid hz.lt;have HV := Lib.hid hv;have HS := Lib.hid hs;have HL := Lib.hid hl;have HZ0 := Lib.hid (hz.keep bb);(go_wp2_with fail);clear bb hz hv hs hl;clear hHeld;refine hK.out _ _ hN (fun hHeld => ?_);clear hK K hN;(try simp only [zq0, zq1, zq2, Act.put, zq3, zq4, zq5]);refine zqt (i := 10) (v := ?v10a1) ?y10a1 ?r10a1
    case y10a1 =>
      intro u hSu;(try dsimp only at hSu);go_simp;(try with_reducible rfl)
    (try simp only [zq0, zq1, zq2, Act.put, zq3, zq4, zq5]);refine zqt (i := 11) (v := ?v11a1) ?y11a1 ?r11a1
    case y11a1 =>
      intro u hSu;(try dsimp only at hSu);go_simp;(try with_reducible rfl)
    (try simp only [zq0, zq1, zq2, Act.put, zq3, zq4, zq5]);refine wpAnyH_ready (rs := [12]) (by kernel_rfl) (by simp) ?_;refine AllReadyH.cons (o := _) rfl (fun K hK => ?_) AllReadyH.nil;obtain ⟨j7, hz⟩ := hHeld.2.2.1;refine step_vst rfl _ _ rfl (w.heap.size + 1) j7 j rfl rfl hz ?_;have kb2 := below_setRow hHeld.1 (show w.heap.size ≤ w.heap.size + 1 by omega) (vmC j);have hr2 := vrow hz j;refine hK.out _ _ ⟨kb2, vrow_fr hHeld.2.1 (by omega) _, ⟨j, hr2⟩, sts_row hHeld.2.2.2 (by have := KS.out; omega) _⟩ (fun hHeld2 => ?_);clear hK K;(try simp only [zq0, zq1, zq2, Act.put, zq3, zq4, zq5]);refine zqt (i := 13) (v := ?v13a1) ?y13a1 ?r13a1
    case y13a1 =>
      intro u hSu;(try dsimp only at hSu);go_simp;(try with_reducible rfl)
    (try simp only [zq0, zq1, zq2, Act.put, zq3, zq4, zq5]);refine wpAnyH_done (by kernel_rfl) ?_ _;refine NoPanic.normal ?_;(go_wp2_with fail);refine bodyPost_ret (res_ct rfl _ _ _ _ rfl hr2) rfl ⟨j, rfl, ?_, HS.out, HL.out.le HB9.out, kb2⟩;refine V0.out.ex (X := fun g => g = w.heap.size + 1) HV.out HL.out (Ex.row (X := fun g => g = w.heap.size + 1) (b := w.heap.size + 1) (Ex.refl _ _) rfl _) fun g hg e => ?_
    subst e;exact ⟨by omega, HZ.out, vbox_nou8 HZ0.out⟩
  · have HQ := Lib.hid fun w => does_any n w
    rw [decide_eq_false hn] at HQ;rw [doE_no hn];clear h HT ok hn;go_enter Tryz.func14, Tryz.ntmps14;go_upto_region 1 with fail
    generalize hw1 : World.alloc (World.alloc _ _) _ = w1;have kb : Below w.heap.size w w1 := by rw [← hw1]; exact al_two _ _ _
    have kx : VBox w1 w.heap.size k := by rw [← hw1]; exact (in_two w k _).2
    have kz : VBox w1 (w.heap.size + 1) vm0 := by rw [← hw1]; exact in_two0 w _
    have KS : Hid (w1.heap.size = w.heap.size + 1 + 1) := by show _ = _; rw [← hw1]; exact in_twos w _ _
    clear hw1;have X1 := Lib.hid kx;have Z1 := Lib.hid kz;have B1 := Lib.hid kb;clear kx kz kb;(go_wp2_with fail);refine (HQ.out _).mono ?_;rintro e w9 ⟨rfl, rfl⟩;clear HQ;(go_wp2_with (first | (refine wpList_vload (by rfl) _ rfl w.heap.size k rfl X1.out ?_) | (refine wpList_vstore (by rfl) _ _ rfl _ vm0 k rfl rfl Z1.out ?_)));have kb2 := below_setRow B1.out (show w.heap.size ≤ w.heap.size + 1 by omega) (vmC k);have hv2 := vrow Z1.out k;refine bodyPost_ret (res_ct rfl _ _ _ _ rfl hv2) rfl ⟨k, rfl, V0.out.keep kb2, Sc.refl _, MLoc.refl _ _, kb2⟩
end Go.Proofs.YtlgnijhemfkflaaGreatDoor
