/- Part 49. -/
import Derived.Test.YtlgnijhemfkflaaGreatDoorSetPrimDividesZero
import Derived.Test.YtlgnijhemfkflaaGreatDoorSetPrimDividesZV
import Derived.Test.YtlgnijhemfkflaaGreatDoorSetPrimDividesA
set_option linter.unusedVariables false
set_option linter.unusedSimpArgs false

namespace Go.Proofs.YtlgnijhemfkflaaGreatDoor
open Go.RowKit
set_option linter.unusedVariables false
set_option linter.unusedSimpArgs false
set_option maxRecDepth 100000 in
theorem shown_73 : (doE 73 stS (stL [7, -2])).c = 0 ∧ (doE 73 stS (stL [7, -2])).L = stL [-1, -4] := ⟨by decide +kernel, by kernel_rfl⟩
set_option maxRecDepth 100000 in
theorem shown_39 : (doE 39 stS (stL [7, -2])).c = 0 ∧ (doE 39 stS (stL [7, -2])).L = stL [5] := ⟨by decide +kernel, by kernel_rfl⟩
set_option maxRecDepth 100000 in
theorem shown_83 : (doE 83 stS (stL [7, -2])).c = -9 ∧ (doE 83 stS (stL [7, -2])).L = stL [7, -2] := ⟨by decide +kernel, by kernel_rfl⟩
set_option maxRecDepth 100000 in
theorem shown_110 : (doE 110 stS (stL [7, -2])).c = 0 ∧ (doE 110 stS (stL [7, -2])).L = { stL [7] with o := [45, 50, 32] } := ⟨by decide +kernel, by kernel_rfl⟩
set_option maxRecDepth 100000 in
set_option maxHeartbeats 4000000 in
theorem shown_any (w : World) (HT : Tab w) : Calls Tryz.prog 12 #[] w fun e w' => e = .returned (.bool true) ∧ Below w.heap.size w w' := by
  have T0 := Lib.hid HT;have B0 := Lib.hid (Below.refl w.heap.size w);clear HT;go_enter Tryz.func12, Tryz.ntmps12;(go_wp2_with fail);generalize hwa : World.alloc _ _ = w1;have bb : Below w.heap.size w w1 := by rw [← hwa]; exact al_one _ _
  have hx : Row w1 (some ⟨w.heap.size, 0, none⟩) 2 2 [7, -2] := by rw [← hwa]; exact row_lit _ [7, -2] (by decide)
  clear hwa;have T1 := Lib.hid (T0.out.keep bb);have B1 := Lib.hid (below_then B0.out bb);clear bb T0 B0;refine (stocked_any _ _ _ _ _ hx).mono ?_;rintro e w2 ⟨k, rfl, hv, hs, bb⟩;have HS := Lib.hid hs;clear hx hs;have T2 := Lib.hid (T1.out.keep bb);have B2 := Lib.hid (below_then B1.out bb);have M2 := Lib.hid hv;clear bb T1 B1;clear hv;have HOK := Lib.hid (ok_st HS.out (l := [7, -2]) (by decide) (by intro x hx; simp at hx; unfold cellR; omega));go_upto_region 2 with (refine wpList_vstore (by rfl) _ _ rfl _ vm0 k rfl rfl (vbox_zero _) ?_)
  generalize hw3 : World.setRow _ _ _ = w3;have kb : Below w2.heap.size w2 w3 := by rw [← hw3]; exact below_setRow (al_one _ _) (Nat.le_refl _) _
  have hx : VBox w3 w2.heap.size k := by rw [← hw3]; exact vrow (vbox_zero w2) k
  clear hw3;have T3 := Lib.hid (T2.out.keep kb);have M3 := Lib.hid (M2.out.keep kb);have B3 := Lib.hid (below_then B2.out kb);have V3 := Lib.hid hx;clear kb T2 M2 B2;clear hx;(go_wp2_with (first | (refine wpList_vload (by rfl) _ rfl w2.heap.size k rfl V3.out ?_)));refine (do_at w3 T3.out HOK.out M3.out HS.out shown_73.1 shown_73.2).mono ?_;rintro e w4 ⟨kX, rfl, hv, hs, hl, bb⟩;have HSX := Lib.hid hs;clear hs hl;have T4 := Lib.hid (T3.out.keep bb);have M4 := Lib.hid (M3.out.keep bb);have V4 := Lib.hid (V3.out.keep bb);have B4 := Lib.hid (below_then B3.out bb);have MX4 := Lib.hid hv;clear bb T3 M3 V3 B3;clear hv;go_upto_region 3 with (refine wpList_vstore (by rfl) _ _ rfl _ vm0 kX rfl rfl (vbox_zero _) ?_)
  generalize hw5 : World.setRow _ _ _ = w5;have kb : Below w4.heap.size w4 w5 := by rw [← hw5]; exact below_setRow (al_one _ _) (Nat.le_refl _) _
  have hx : VBox w5 w4.heap.size kX := by rw [← hw5]; exact vrow (vbox_zero w4) kX
  clear hw5;have T5 := Lib.hid (T4.out.keep kb);have M5 := Lib.hid (M4.out.keep kb);have V5 := Lib.hid (V4.out.keep kb);have MX5 := Lib.hid (MX4.out.keep kb);have B5 := Lib.hid (below_then B4.out kb);have X5 := Lib.hid hx;clear kb T4 M4 V4 MX4 B4;clear hx;(go_wp2_with (first | (refine wpList_vload (by rfl) _ rfl w2.heap.size k rfl V5.out ?_)));refine (do_at w5 T5.out HOK.out M5.out HS.out shown_39.1 shown_39.2).mono ?_;rintro e w6 ⟨kY, rfl, hv, hs, hl, bb⟩;have HSY := Lib.hid hs;clear hs hl;have T6 := Lib.hid (T5.out.keep bb);have M6 := Lib.hid (M5.out.keep bb);have V6 := Lib.hid (V5.out.keep bb);have MX6 := Lib.hid (MX5.out.keep bb);have X6 := Lib.hid (X5.out.keep bb);have B6 := Lib.hid (below_then B5.out bb);have MY6 := Lib.hid hv;clear bb T5 M5 V5 MX5 X5 B5;clear hv;go_upto_region 4 with (refine wpList_vstore (by rfl) _ _ rfl _ vm0 kY rfl rfl (vbox_zero _) ?_)
  generalize hw7 : World.setRow _ _ _ = w7;have kb : Below w6.heap.size w6 w7 := by rw [← hw7]; exact below_setRow (al_one _ _) (Nat.le_refl _) _
  have hx : VBox w7 w6.heap.size kY := by rw [← hw7]; exact vrow (vbox_zero w6) kY
  clear hw7;have T7 := Lib.hid (T6.out.keep kb);have M7 := Lib.hid (M6.out.keep kb);have V7 := Lib.hid (V6.out.keep kb);have MX7 := Lib.hid (MX6.out.keep kb);have X7 := Lib.hid (X6.out.keep kb);have MY7 := Lib.hid (MY6.out.keep kb);have B7 := Lib.hid (below_then B6.out kb);have Y7 := Lib.hid hx;clear kb T6 M6 V6 MX6 X6 MY6 B6;clear hx;(go_wp2_with (first | (refine wpList_vload (by rfl) _ rfl w2.heap.size k rfl V7.out ?_)));refine (do_at w7 T7.out HOK.out M7.out HS.out shown_83.1 shown_83.2).mono ?_;rintro e w8 ⟨kZ, rfl, hv, hs, hl, bb⟩;have HSZ := Lib.hid hs;clear hs hl;have T8 := Lib.hid (T7.out.keep bb);have M8 := Lib.hid (M7.out.keep bb);have V8 := Lib.hid (V7.out.keep bb);have MX8 := Lib.hid (MX7.out.keep bb);have X8 := Lib.hid (X7.out.keep bb);have MY8 := Lib.hid (MY7.out.keep bb);have Y8 := Lib.hid (Y7.out.keep bb);have B8 := Lib.hid (below_then B7.out bb);have MZ8 := Lib.hid hv;clear bb T7 M7 V7 MX7 X7 MY7 Y7 B7;clear hv;go_upto_region 5 with (refine wpList_vstore (by rfl) _ _ rfl _ vm0 kZ rfl rfl (vbox_zero _) ?_)
  generalize hw9 : World.setRow _ _ _ = w9;have kb : Below w8.heap.size w8 w9 := by rw [← hw9]; exact below_setRow (al_one _ _) (Nat.le_refl _) _
  have hx : VBox w9 w8.heap.size kZ := by rw [← hw9]; exact vrow (vbox_zero w8) kZ
  clear hw9;have T9 := Lib.hid (T8.out.keep kb);have M9 := Lib.hid (M8.out.keep kb);have V9 := Lib.hid (V8.out.keep kb);have MX9 := Lib.hid (MX8.out.keep kb);have X9 := Lib.hid (X8.out.keep kb);have MY9 := Lib.hid (MY8.out.keep kb);have Y9 := Lib.hid (Y8.out.keep kb);have MZ9 := Lib.hid (MZ8.out.keep kb);have B9 := Lib.hid (below_then B8.out kb);have Z9 := Lib.hid hx;clear kb T8 M8 V8 MX8 X8 MY8 Y8 MZ8 B8;clear hx;have NC := Lib.hid fun w => number_any 110 (by decide) w
  rw [show strB (nmP 110) = ⟨#[46]⟩ from by kernel_rfl] at NC;have DC := Lib.hid fun u ht hv => do_at u ht HOK.out hv HS.out shown_110.1 shown_110.2
  go_cut [8, 9] (fun s8 s9 wx => ∃ b j2, s8 = .pointer (some ⟨b, 0, none⟩) ∧ s9 = .int .i64 0 ∧ Hid (DoneAt w9 wx b j2 k (⟨0, [], (doE 110 stS (stL [7, -2])).K, { stL [7] with o := [45, 50, 32] }⟩ : Eff)))
  case first =>
    refine wp_region_noPanic ?_;refine wp_region_held_drew (S := fun a9 => Below w9.heap.size w9 a9) (by kernel_rfl) (drew_bel0 _) (fun hHeld => ?_);refine zqt (i := 0) (v := vmV k) (fun u hSu => exec_vl _ rfl w2.heap.size k rfl (V9.out.keep hSu)) ?_;(try simp only [zq0, zq1, zq2, Act.put, zq3, zq4, zq5]);have W9 := Lib.hid (Below.refl w9.heap.size w9);refine wpAnyH_ready (rs := [1, 6]) (by kernel_rfl) (by simp) ?_;refine AllReadyH.cons (o := _) rfl (fun K hK => ?_) (AllReadyH.cons (o := _) rfl (fun K hK => ?_) AllReadyH.nil)
    · skip
      go_simp;refine (NC.out _).mono ?_;rintro e uzn12 ⟨rfl, b9⟩;have hN : Below w9.heap.size w9 uzn12 := by first | exact below_then hHeld b9 | exact below_then (below_then hHeld (drew_bel0 _)) b9
      (go_wp2_with fail);clear hHeld b9;refine hK.out _ _ hN (fun hHeld => ?_);clear hK K hN;(try simp only [zq0, zq1, zq2, Act.put, zq3, zq4, zq5]);refine wpAnyH_ready (rs := [2, 6]) (by kernel_rfl) (by simp) ?_;refine AllReadyH.cons (o := _) rfl (fun K hK => ?_) (AllReadyH.cons (o := _) rfl (fun K hK => ?_) AllReadyH.nil)
      · skip
        go_simp;have hltuzn13 := hHeld.size;refine (DC.out _ (T9.out.keep hHeld) (M9.out.keep hHeld)).mono ?_;rintro e uzn13 ⟨j2, rfl, hv, hs, hl, b9⟩;have HV := Lib.hid hv;have HS := Lib.hid hs;have HL := Lib.hid hl;have HU := Lib.hid (show w9.heap.size ≤ (uzn12).heap.size from hltuzn13);clear hv hs hl hltuzn13;have hN : Below w9.heap.size w9 uzn13 := by first | exact below_then hHeld b9 | exact below_then (below_then hHeld (drew_bel0 _)) b9
        (go_wp2_with fail);clear hHeld b9;refine hK.out _ _ hN (fun hHeld => ?_);clear hK K hN;(try simp only [zq0, zq1, zq2, Act.put, zq3, zq4, zq5]);refine zqt (i := 3) (v := ?v3n14) ?y3n14 ?r3n14
        case y3n14 =>
          intro u hSu;(try dsimp only at hSu);go_simp;(try with_reducible rfl)
        (try simp only [zq0, zq1, zq2, Act.put, zq3, zq4, zq5]);refine zqt (i := 4) (v := ?v4n15) ?y4n15 ?r4n15
        case y4n15 =>
          intro u hSu;(try dsimp only at hSu);go_simp;(try with_reducible rfl)
        (try simp only [zq0, zq1, zq2, Act.put, zq3, zq4, zq5]);refine zqt (i := 5) (v := ?v5n16) ?y5n16 ?r5n16
        case y5n16 =>
          intro u hSu;(try dsimp only at hSu);go_simp;(try with_reducible rfl)
        (try simp only [zq0, zq1, zq2, Act.put, zq3, zq4, zq5]);refine wpAnyH_ready (rs := [6]) (by kernel_rfl) (by simp) ?_;refine AllReadyH.cons (o := _) rfl (fun K hK => ?_) AllReadyH.nil;go_simp;refine hK.out _ _ (al_th0 hHeld) (fun hHeld2 => ?_);clear hK K;(try simp only [zq0, zq1, zq2, Act.put, zq3, zq4, zq5]);generalize hwa : World.alloc _ _ = uzn17 at hHeld2 ⊢;have hz : VBox uzn17 uzn13.heap.size vm0 := by rw [← hwa]; exact vbox_zero _
        have kz : Below (uzn13).heap.size (uzn13) uzn17 := by rw [← hwa]; exact al_one _ _
        have hge : w9.heap.size ≤ uzn13.heap.size := hHeld.size;have HZ := Lib.hid kz;clear hwa hHeld kz;have hHeld := hHeld2;clear hHeld2;refine wpAnyH_ready (rs := [7]) (by kernel_rfl) (by simp) ?_;refine AllReadyH.cons (o := _) rfl (fun K hK => ?_) AllReadyH.nil;refine step_vst rfl _ _ rfl (uzn13.heap.size) vm0 j2 rfl rfl hz ?_;have kb2 := below_setRow hHeld hge (vmC j2);have hr2 := vrow hz j2;refine hK.out _ _ kb2 (fun hHeld2 => ?_);clear hK K;(try simp only [zq0, zq1, zq2, Act.put, zq3, zq4, zq5]);refine zqt (i := 8) (v := ?v8n19) ?y8n19 ?r8n19
        case y8n19 =>
          intro u hSu;(try dsimp only at hSu);go_simp;(try with_reducible rfl)
        (try simp only [zq0, zq1, zq2, Act.put, zq3, zq4, zq5]);refine wpAnyH_done (by kernel_rfl) ?_ _;refine NoPanic.normal ?_;(go_wp2_with fail);go_meet;refine ⟨uzn13.heap.size, j2, rfl, rfl, Lib.hid ⟨hge, hr2, ?_, HS.out, HL.out.le HU.out, kb2⟩⟩;exact IsVm.ex (X := fun g => g = uzn13.heap.size) M9.out HV.out HL.out (Ex.row (X := fun g => g = uzn13.heap.size) (b := uzn13.heap.size) ((Ex.refl _ _).below HZ.out) rfl _) fun g hg e => by subst e; exact absurd hg (Nat.lt_irrefl _)
      · skip
        go_simp;refine hK.out _ _ (al_th0 hHeld) (fun hHeld2 => ?_);clear hK K;(try simp only [zq0, zq1, zq2, Act.put, zq3, zq4, zq5]);generalize hwa : World.alloc _ _ = uzn110 at hHeld2 ⊢;have hz : VBox uzn110 uzn12.heap.size vm0 := by rw [← hwa]; exact vbox_zero _
        have kz : Below (uzn12).heap.size (uzn12) uzn110 := by rw [← hwa]; exact al_one _ _
        have hge : w9.heap.size ≤ uzn12.heap.size := hHeld.size;clear hwa hHeld kz;have hHeld := hHeld2;clear hHeld2;refine wpAnyH_ready (rs := [2]) (by kernel_rfl) (by simp) ?_;refine AllReadyH.cons (o := _) rfl (fun K hK => ?_) AllReadyH.nil;go_simp;have hltuzn111 := hHeld.size;refine (DC.out _ (T9.out.keep hHeld) (M9.out.keep hHeld)).mono ?_;rintro e uzn111 ⟨j2, rfl, hv, hs, hl, b9⟩;have HV := Lib.hid hv;have HS := Lib.hid hs;have HL := Lib.hid hl;have HU := Lib.hid (show w9.heap.size ≤ (uzn110).heap.size from hltuzn111);clear hv hs hl hltuzn111;have hz1 : VBox uzn111 (uzn12.heap.size) vm0 := by first | exact hz.keep b9 | exact VBox.keep (w := World.drew uzn110) hz b9
        have HZ1 := Lib.hid hz.lt;have HZ2 := Lib.hid hz1;clear hz;have hz := hz1;clear hz1;have hN : Below w9.heap.size w9 uzn111 := by first | exact below_then hHeld b9 | exact below_then (below_then hHeld (drew_bel0 _)) b9
        (go_wp2_with fail);clear hHeld b9;refine hK.out _ _ hN (fun hHeld => ?_);clear hK K hN;(try simp only [zq0, zq1, zq2, Act.put, zq3, zq4, zq5]);refine zqt (i := 3) (v := ?v3n112) ?y3n112 ?r3n112
        case y3n112 =>
          intro u hSu;(try dsimp only at hSu);go_simp;(try with_reducible rfl)
        (try simp only [zq0, zq1, zq2, Act.put, zq3, zq4, zq5]);refine zqt (i := 4) (v := ?v4n113) ?y4n113 ?r4n113
        case y4n113 =>
          intro u hSu;(try dsimp only at hSu);go_simp;(try with_reducible rfl)
        (try simp only [zq0, zq1, zq2, Act.put, zq3, zq4, zq5]);refine zqt (i := 5) (v := ?v5n114) ?y5n114 ?r5n114
        case y5n114 =>
          intro u hSu;(try dsimp only at hSu);go_simp;(try with_reducible rfl)
        (try simp only [zq0, zq1, zq2, Act.put, zq3, zq4, zq5]);refine wpAnyH_ready (rs := [7]) (by kernel_rfl) (by simp) ?_;refine AllReadyH.cons (o := _) rfl (fun K hK => ?_) AllReadyH.nil;refine step_vst rfl _ _ rfl (uzn12.heap.size) vm0 j2 rfl rfl hz ?_;have kb2 := below_setRow hHeld hge (vmC j2);have hr2 := vrow hz j2;refine hK.out _ _ kb2 (fun hHeld2 => ?_);clear hK K;(try simp only [zq0, zq1, zq2, Act.put, zq3, zq4, zq5]);refine zqt (i := 8) (v := ?v8n116) ?y8n116 ?r8n116
        case y8n116 =>
          intro u hSu;(try dsimp only at hSu);go_simp;(try with_reducible rfl)
        (try simp only [zq0, zq1, zq2, Act.put, zq3, zq4, zq5]);refine wpAnyH_done (by kernel_rfl) ?_ _;refine NoPanic.normal ?_;(go_wp2_with fail);go_meet;refine ⟨uzn12.heap.size, j2, rfl, rfl, Lib.hid ⟨hge, hr2, ?_, HS.out, HL.out.le HU.out, kb2⟩⟩;exact IsVm.ex (X := fun g => g = uzn12.heap.size) M9.out HV.out HL.out (Ex.row (X := fun g => g = uzn12.heap.size) (b := uzn12.heap.size) (Ex.refl _ _) rfl _) fun g hg e => by subst e; exact ⟨hge, HZ1.out, vbox_nou8 HZ2.out⟩
    · skip
      go_simp;refine hK.out _ _ (al_th0 hHeld) (fun hHeld2 => ?_);clear hK K;(try simp only [zq0, zq1, zq2, Act.put, zq3, zq4, zq5]);generalize hwa : World.alloc _ _ = uzn117 at hHeld2 ⊢;have hz : VBox uzn117 w9.drew.heap.size vm0 := by rw [← hwa]; exact vbox_zero _
      have kz : Below (w9).heap.size (w9) uzn117 := by rw [← hwa]; exact al_one _ _
      have hge : w9.heap.size ≤ w9.drew.heap.size := hHeld.size;clear hwa hHeld kz;have hHeld := hHeld2;clear hHeld2;refine wpAnyH_ready (rs := [1]) (by kernel_rfl) (by simp) ?_;refine AllReadyH.cons (o := _) rfl (fun K hK => ?_) AllReadyH.nil;go_simp;refine (NC.out _).mono ?_;rintro e uzn118 ⟨rfl, b9⟩;have hz1 : VBox uzn118 (w9.drew.heap.size) vm0 := by first | exact hz.keep b9 | exact VBox.keep (w := World.drew uzn117) hz b9
      clear hz;have hz := hz1;clear hz1;have hN : Below w9.heap.size w9 uzn118 := by first | exact below_then hHeld b9 | exact below_then (below_then hHeld (drew_bel0 _)) b9
      (go_wp2_with fail);clear hHeld b9;refine hK.out _ _ hN (fun hHeld => ?_);clear hK K hN;(try simp only [zq0, zq1, zq2, Act.put, zq3, zq4, zq5]);refine wpAnyH_ready (rs := [2]) (by kernel_rfl) (by simp) ?_;refine AllReadyH.cons (o := _) rfl (fun K hK => ?_) AllReadyH.nil;go_simp;have hltuzn119 := hHeld.size;refine (DC.out _ (T9.out.keep hHeld) (M9.out.keep hHeld)).mono ?_;rintro e uzn119 ⟨j2, rfl, hv, hs, hl, b9⟩;have HV := Lib.hid hv;have HS := Lib.hid hs;have HL := Lib.hid hl;have HU := Lib.hid (show w9.heap.size ≤ (uzn118).heap.size from hltuzn119);clear hv hs hl hltuzn119;have hz1 : VBox uzn119 (w9.drew.heap.size) vm0 := by first | exact hz.keep b9 | exact VBox.keep (w := World.drew uzn118) hz b9
      have HZ1 := Lib.hid hz.lt;have HZ2 := Lib.hid hz1;clear hz;have hz := hz1;clear hz1;have hN : Below w9.heap.size w9 uzn119 := by first | exact below_then hHeld b9 | exact below_then (below_then hHeld (drew_bel0 _)) b9
      (go_wp2_with fail);clear hHeld b9;refine hK.out _ _ hN (fun hHeld => ?_);clear hK K hN;(try simp only [zq0, zq1, zq2, Act.put, zq3, zq4, zq5]);refine zqt (i := 3) (v := ?v3n120) ?y3n120 ?r3n120
      case y3n120 =>
        intro u hSu;(try dsimp only at hSu);go_simp;(try with_reducible rfl)
      (try simp only [zq0, zq1, zq2, Act.put, zq3, zq4, zq5]);refine zqt (i := 4) (v := ?v4n121) ?y4n121 ?r4n121
      case y4n121 =>
        intro u hSu;(try dsimp only at hSu);go_simp;(try with_reducible rfl)
      (try simp only [zq0, zq1, zq2, Act.put, zq3, zq4, zq5]);refine zqt (i := 5) (v := ?v5n122) ?y5n122 ?r5n122
      case y5n122 =>
        intro u hSu;(try dsimp only at hSu);go_simp;(try with_reducible rfl)
      (try simp only [zq0, zq1, zq2, Act.put, zq3, zq4, zq5]);refine wpAnyH_ready (rs := [7]) (by kernel_rfl) (by simp) ?_;refine AllReadyH.cons (o := _) rfl (fun K hK => ?_) AllReadyH.nil;refine step_vst rfl _ _ rfl (w9.drew.heap.size) vm0 j2 rfl rfl hz ?_;have kb2 := below_setRow hHeld hge (vmC j2);have hr2 := vrow hz j2;refine hK.out _ _ kb2 (fun hHeld2 => ?_);clear hK K;(try simp only [zq0, zq1, zq2, Act.put, zq3, zq4, zq5]);refine zqt (i := 8) (v := ?v8n124) ?y8n124 ?r8n124
      case y8n124 =>
        intro u hSu;(try dsimp only at hSu);go_simp;(try with_reducible rfl)
      (try simp only [zq0, zq1, zq2, Act.put, zq3, zq4, zq5]);refine wpAnyH_done (by kernel_rfl) ?_ _;refine NoPanic.normal ?_;(go_wp2_with fail);go_meet;refine ⟨w9.drew.heap.size, j2, rfl, rfl, Lib.hid ⟨hge, hr2, ?_, HS.out, HL.out.le HU.out, kb2⟩⟩;exact IsVm.ex (X := fun g => g = w9.drew.heap.size) M9.out HV.out HL.out (Ex.row (X := fun g => g = w9.drew.heap.size) (b := w9.drew.heap.size) (Ex.refl _ _) rfl _) fun g hg e => by subst e; exact ⟨hge, HZ1.out, vbox_nou8 HZ2.out⟩
  case rest =>
    obtain ⟨b, kP, rfl, rfl, HD⟩ := hcut;obtain ⟨w10, rfl⟩ : ∃ x, x = wc := ⟨_, rfl⟩;have bb := HD.out.bel;have hp := HD.out.box;have hv := HD.out.vm;clear NC DC;have T10 := Lib.hid (T9.out.keep bb);have M10 := Lib.hid (M9.out.keep bb);have V10 := Lib.hid (V9.out.keep bb);have MX10 := Lib.hid (MX9.out.keep bb);have X10 := Lib.hid (X9.out.keep bb);have MY10 := Lib.hid (MY9.out.keep bb);have Y10 := Lib.hid (Y9.out.keep bb);have MZ10 := Lib.hid (MZ9.out.keep bb);have Z10 := Lib.hid (Z9.out.keep bb);have B10 := Lib.hid (below_then B9.out bb);have P10 := Lib.hid hp;have MP10 := Lib.hid hv;clear bb T9 M9 V9 MX9 X9 MY9 Y9 MZ9 Z9 B9;clear hp hv HD;obtain ⟨pX0, pX1, pX2, pX3, pX4, pX5, pX6, pX7, pX8, pX9, pX10, pX11, pX12, pX13, pX14, pX15, pX16, pX17, pX18, pX19, pX20, pX21, pX22⟩ := X10.out.use;clear pX0 pX1 pX2 pX3 pX4 pX5 pX6 pX7 pX9 pX10 pX11 pX12 pX13 pX14 pX15 pX16 pX17 pX18 pX19 pX20 pX21 pX22;(go_wp2_with fail);generalize hwa : World.alloc _ _ = w11;have kb : Below w10.heap.size w10 w11 := by rw [← hwa]; exact al_one _ _
    have hx : Row w11 (some ⟨w10.heap.size, 0, none⟩) 2 2 [-1, -4] := by rw [← hwa]; exact row_lit _ [-1, -4] (by decide)
    clear hwa;have T11 := Lib.hid (T10.out.keep kb);have M11 := Lib.hid (M10.out.keep kb);have V11 := Lib.hid (V10.out.keep kb);have MX11 := Lib.hid (MX10.out.keep kb);have X11 := Lib.hid (X10.out.keep kb);have MY11 := Lib.hid (MY10.out.keep kb);have Y11 := Lib.hid (Y10.out.keep kb);have MZ11 := Lib.hid (MZ10.out.keep kb);have Z11 := Lib.hid (Z10.out.keep kb);have P11 := Lib.hid (P10.out.keep kb);have MP11 := Lib.hid (MP10.out.keep kb);have B11 := Lib.hid (below_then B10.out kb);have R11 := Lib.hid hx;clear kb T10 M10 V10 MX10 X10 MY10 Y10 MZ10 Z10 P10 MP10 B10;clear hx;refine (same_true _ _ _ _ _ _ [-1, -4] [-1, -4] _ (by have := MX11.out.d.1; rw [← this]; decide) (by decide) (Lib.hid MX11.out.d) (Lib.hid R11.out) (Lib.hid rfl)).mono ?_;rintro e w12 ⟨rfl, bb⟩;clear pX8;have T12 := Lib.hid (T11.out.keep bb);have M12 := Lib.hid (M11.out.keep bb);have V12 := Lib.hid (V11.out.keep bb);have MX12 := Lib.hid (MX11.out.keep bb);have X12 := Lib.hid (X11.out.keep bb);have MY12 := Lib.hid (MY11.out.keep bb);have Y12 := Lib.hid (Y11.out.keep bb);have MZ12 := Lib.hid (MZ11.out.keep bb);have Z12 := Lib.hid (Z11.out.keep bb);have P12 := Lib.hid (P11.out.keep bb);have MP12 := Lib.hid (MP11.out.keep bb);have R12 := Lib.hid (R11.out.keep bb);have B12 := Lib.hid (below_then B11.out bb);clear bb T11 M11 V11 MX11 X11 MY11 Y11 MZ11 Z11 P11 MP11 R11 B11;obtain ⟨pY0, pY1, pY2, pY3, pY4, pY5, pY6, pY7, pY8, pY9, pY10, pY11, pY12, pY13, pY14, pY15, pY16, pY17, pY18, pY19, pY20, pY21, pY22⟩ := Y12.out.use
    clear pY0 pY1 pY2 pY3 pY4 pY5 pY6 pY7 pY9 pY10 pY11 pY12 pY13 pY14 pY15 pY16 pY17 pY18 pY19 pY20 pY21 pY22;(go_wp2_with fail);generalize hwa : World.alloc _ _ = w13;have kb : Below w12.heap.size w12 w13 := by rw [← hwa]; exact al_one _ _
    have hx : Row w13 (some ⟨w12.heap.size, 0, none⟩) 1 1 [5] := by rw [← hwa]; exact row_lit _ [5] (by decide)
    clear hwa;have T13 := Lib.hid (T12.out.keep kb);have M13 := Lib.hid (M12.out.keep kb);have V13 := Lib.hid (V12.out.keep kb);have MX13 := Lib.hid (MX12.out.keep kb);have X13 := Lib.hid (X12.out.keep kb);have MY13 := Lib.hid (MY12.out.keep kb);have Y13 := Lib.hid (Y12.out.keep kb);have MZ13 := Lib.hid (MZ12.out.keep kb);have Z13 := Lib.hid (Z12.out.keep kb);have P13 := Lib.hid (P12.out.keep kb);have MP13 := Lib.hid (MP12.out.keep kb);have R13 := Lib.hid (R12.out.keep kb);have B13 := Lib.hid (below_then B12.out kb);have S13 := Lib.hid hx;clear kb T12 M12 V12 MX12 X12 MY12 Y12 MZ12 Z12 P12 MP12 R12 B12;clear hx;refine (same_true _ _ _ _ _ _ [5] [5] _ (by have := MY13.out.d.1; rw [← this]; decide) (by decide) (Lib.hid MY13.out.d) (Lib.hid S13.out) (Lib.hid rfl)).mono ?_;rintro e w14 ⟨rfl, bb⟩;clear pY8;have T14 := Lib.hid (T13.out.keep bb);have M14 := Lib.hid (M13.out.keep bb);have V14 := Lib.hid (V13.out.keep bb);have MX14 := Lib.hid (MX13.out.keep bb);have X14 := Lib.hid (X13.out.keep bb);have MY14 := Lib.hid (MY13.out.keep bb);have Y14 := Lib.hid (Y13.out.keep bb);have MZ14 := Lib.hid (MZ13.out.keep bb);have Z14 := Lib.hid (Z13.out.keep bb);have P14 := Lib.hid (P13.out.keep bb);have MP14 := Lib.hid (MP13.out.keep bb);have R14 := Lib.hid (R13.out.keep bb);have S14 := Lib.hid (S13.out.keep bb);have B14 := Lib.hid (below_then B13.out bb);clear bb T13 M13 V13 MX13 X13 MY13 Y13 MZ13 Z13 P13 MP13 R13 S13 B13;have hkz : Sc kZ k := HSZ.out.trans HS.out.symm;have HC := Lib.hid (rsame_two MZ14.out M14.out hkz (fit_st (l := [7, -2]) (by decide)))
    clear hkz;(go_wp2_with (first | (refine wpList_vload (by rfl) _ rfl w8.heap.size kZ rfl Z14.out ?_) | (refine wpList_vload (by rfl) _ rfl w2.heap.size k rfl V14.out ?_)));refine (HC.out).mono ?_;rintro e w15 ⟨rfl, bb⟩;clear HC;have T15 := Lib.hid (T14.out.keep bb);have M15 := Lib.hid (M14.out.keep bb);have V15 := Lib.hid (V14.out.keep bb);have MX15 := Lib.hid (MX14.out.keep bb);have X15 := Lib.hid (X14.out.keep bb);have MY15 := Lib.hid (MY14.out.keep bb);have Y15 := Lib.hid (Y14.out.keep bb);have MZ15 := Lib.hid (MZ14.out.keep bb);have Z15 := Lib.hid (Z14.out.keep bb);have P15 := Lib.hid (P14.out.keep bb);have MP15 := Lib.hid (MP14.out.keep bb);have R15 := Lib.hid (R14.out.keep bb);have S15 := Lib.hid (S14.out.keep bb);have B15 := Lib.hid (below_then B14.out bb);clear bb T14 M14 V14 MX14 X14 MY14 Y14 MZ14 Z14 P14 MP14 R14 S14 B14;obtain ⟨pP0, pP1, pP2, pP3, pP4, pP5, pP6, pP7, pP8, pP9, pP10, pP11, pP12, pP13, pP14, pP15, pP16, pP17, pP18, pP19, pP20, pP21, pP22⟩ := P15.out.use;clear pP0 pP1 pP2 pP3 pP4 pP5 pP6 pP7 pP8 pP9 pP10 pP11 pP12 pP14 pP15 pP16 pP17 pP18 pP19 pP20 pP21 pP22;have cv := MP15.out.o.conv;rw [show ({ stL [7] with o := [45, 50, 32] } : VmL).o = [45, 50, 32] from rfl, show strB [45, 50, 32] = { data := #[45, 50, 32] } from rfl] at cv;have HC := Lib.hid fun w => does_any 23 w
    rw [show decide ((23 : Int) ≤ 23 ∧ (23 : Int) ≤ 129) = true from by decide] at HC;(go_wp2_with fail);refine (HC.out _).mono ?_;rintro e x23 ⟨rfl, rfl⟩;clear HC;clear pP13 cv;have HC := Lib.hid fun w => does_any 129 w
    rw [show decide ((23 : Int) ≤ 129 ∧ (129 : Int) ≤ 129) = true from by decide] at HC;(go_wp2_with fail);refine (HC.out _).mono ?_;rintro e x129 ⟨rfl, rfl⟩;clear HC;have HC := Lib.hid fun w => does_any 22 w
    rw [show decide ((23 : Int) ≤ 22 ∧ (22 : Int) ≤ 129) = false from by decide] at HC;(go_wp2_with fail);refine (HC.out _).mono ?_;rintro e x22 ⟨rfl, rfl⟩;clear HC;have HC := Lib.hid fun w => does_any 130 w
    rw [show decide ((23 : Int) ≤ 130 ∧ (130 : Int) ≤ 129) = false from by decide] at HC;(go_wp2_with fail);refine (HC.out _).mono ?_;rintro e x130 ⟨rfl, rfl⟩;clear HC;(go_wp2_with fail);go_ret;exact ⟨rfl, B15.out⟩
end Go.Proofs.YtlgnijhemfkflaaGreatDoor

namespace Go.Proofs.YtlgnijhemfkflaaGreatDoor
open Go.RowKit
set_option linter.unusedVariables false
set_option linter.unusedSimpArgs false
theorem smHi_cell9 (a b : Int) (ha : cellR a) (hb : cellR b) : cellR (smHi a b) := by
  have := prod_bd a b ha hb;unfold cellR smHi; omega
theorem pair_prod9 (a b : Int) (ha : cellR a) (hb : cellR b) : pr (umLo a b) (smHi a b) = a * b := by
  unfold pr;rw [un_mod, umLo_eq a b ha hb];unfold smHi wrap64;omega
theorem lo_cell (a b : Int) : cellR (umLo a b) := by unfold umLo cellR wrap64; omega
theorem fc_parts {lo hi c : Int} (h : fc lo hi c = 0) : c ≠ 0 ∧ fok lo hi c = true := by
  unfold fc at h
  split at h
  · cases h
  · split at h
    · exact ⟨by assumption, by assumption⟩
    · cases h
theorem fc_codes (lo hi c : Int) (h : fc lo hi c ≠ 0) : fc lo hi c = -10 ∧ c = 0 ∨ fc lo hi c = -11 ∧ c ≠ 0 := by
  unfold fc at h ⊢
  by_cases e : c = 0
  · rw [if_pos e]; exact .inl ⟨rfl, e⟩
  · rw [if_neg e] at h ⊢
    cases hf : fok lo hi c with
    | true => rw [hf] at h; exact absurd rfl h
    | false => exact .inr ⟨rfl, e⟩
theorem fdiv_facts {lo hi c : Int} (hc : cellR c) (h : fc lo hi c = 0) : cellR (fq lo hi c) ∧ cellR (fr lo hi c) ∧ fq lo hi c * c + fr lo hi c = pr lo hi := by
  obtain ⟨h0, hf⟩ := fc_parts h;have hf2 := hf;unfold fok at hf2;rw [Bool.and_eq_true] at hf2;obtain ⟨hs, hl⟩ := hf2;have hs2 := hs;unfold sok at hs2;simp only [Bool.and_eq_true, decide_eq_true_eq] at hs2;obtain ⟨t1, t2, t3, t4⟩ := tfacts (pr lo hi) c h0;have es : sq lo hi c = (pr lo hi).tdiv c := by unfold sq; rw [if_pos hs]
  have er : sr lo hi c = (pr lo hi).tmod c := by unfold sr; rw [if_pos hs]
  have tc := tmod_cell (pr lo hi) c h0 hc;have e9 : (pr lo hi).tdiv c * c = c * (pr lo hi).tdiv c := Int.mul_comm _ _;unfold fq fr;rw [if_pos hf, if_pos hf];cases hb : leans (sr lo hi c) c with
  | true =>
    rw [hb] at hl;simp only [Bool.true_and, Bool.not_eq_true', beq_eq_false_iff_ne] at hl;rw [if_pos rfl, if_pos rfl];have ts := leans_sum (pr lo hi) c h0 hc (by rw [← er]; exact hb);rw [es] at hl ⊢;rw [er];refine ⟨by unfold cellR; omega, ts, ?_⟩;rw [Int.sub_mul];omega
  | false =>
    rw [if_neg (by decide), if_neg (by decide)];rw [es, er];exact ⟨by unfold cellR; omega, tc, by omega⟩
theorem div_math {a b c : Int} (ha : cellR a) (hb : cellR b) (hc : cellR c) (h : fc (umLo a b) (smHi a b) c = 0) :
    cellR (fq (umLo a b) (smHi a b) c) ∧ cellR (fr (umLo a b) (smHi a b) c) ∧ fq (umLo a b) (smHi a b) c * c + fr (umLo a b) (smHi a b) c = a * b := by
  have := fdiv_facts hc h;rw [pair_prod9 a b ha hb] at this;exact this
theorem pair_add {y0 y1 z0 z1 r : Int} (c0 : cellR y0) (c1 : cellR y1) (d0 : cellR z0) (d1 : cellR z1) (cr : cellR r) (h : pr y0 y1 + r = pr z0 z1) :
    wrap64 (IntKind.u64.wrap (IntKind.u64.wrap y0 + IntKind.u64.wrap r)) = z0 ∧
    (r < 0 → IntKind.u64.wrap (IntKind.u64.wrap y0 + IntKind.u64.wrap r) < IntKind.u64.wrap y0 → wrap64 (wrap64 (y1 - 1) + 1) = z1) ∧
    (r < 0 → ¬ IntKind.u64.wrap (IntKind.u64.wrap y0 + IntKind.u64.wrap r) < IntKind.u64.wrap y0 → wrap64 (y1 - 1) = z1) ∧
    (¬ r < 0 → IntKind.u64.wrap (IntKind.u64.wrap y0 + IntKind.u64.wrap r) < IntKind.u64.wrap y0 → wrap64 (y1 + 1) = z1) ∧
    (¬ r < 0 → ¬ IntKind.u64.wrap (IntKind.u64.wrap y0 + IntKind.u64.wrap r) < IntKind.u64.wrap y0 → y1 = z1) := by
  unfold pr at h;rw [un_mod, un_mod] at h;simp only [IntKind.wrap_u64];unfold cellR at *;unfold wrap64;refine ⟨by omega, ?_, ?_, ?_, ?_⟩ <;> intro h1 h2 <;> omega
end Go.Proofs.YtlgnijhemfkflaaGreatDoor
