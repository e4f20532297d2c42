/- Contracts of the program's flags and firstWords. -/
import Derived.Test.YtbighilgkmfemaaDoorVmFlagM
import Derived.Test.YtbighilgkmfemaaDoorVmHead
import Derived.Test.YtbighilgkmfemaaDoorVmCat
import Derived.Test.YtbighilgkmfemaaDoorSetF
namespace Go.Proofs.YtbighilgkmfemaaDoor
open Go.RowKit Go.Maps Go.WideMaps
set_option linter.unusedVariables false
set_option linter.unusedSimpArgs false

set_option maxRecDepth 100000 in
set_option maxHeartbeats 4000000 in
theorem flags_any (w : World) (HT : Tab w) : Calls Tryd.prog 57 #[] w fun e w' => ∃ b n D, e = .returned (.map (some b)) ∧ MapF w' b n D mapFlag ∧ Below w.heap.size w w' := by
  have hmm := @run_makeMap Tryd.prog
  have M1 := Lib.hid (mapf_made w)
  have k1 := al_one w (.map #[] 0)
  have T1 := Lib.hid (HT.keep k1)
  have B1 := Lib.hid k1
  clear k1 HT
  go_enter Tryd.func57, Tryd.ntmps57
  go_wp2_with fail
  refine (names_any _ T1.out).mono ?_
  rintro e w2 ⟨rfl, hs, bb⟩
  rw [World.size_alloc] at hs
  obtain ⟨b, hb⟩ : ∃ b, w.heap.size = b := ⟨_, rfl⟩
  have hB := Nat.le_of_eq hb
  have HBB := Lib.hid hB
  have M2 := Lib.hid (M1.out.kept bb)
  have T2 := Lib.hid (T1.out.keep bb)
  have B2 := Lib.hid (below_then B1.out bb)
  have HS := Lib.hid (sts_take hs (k := 12) (by decide))
  rw [hb] at M2
  rw [hb]
  clear bb hs M1 T1 B1 hb hB
  go_wp2_with fail
  refine (give_any b 0 (.map []) _ 6 _ 12 130 (primL.take 12) w2 M2 HS (by decide) (by decide) small_prim (by decide)).mono ?_
  rintro e w3 ⟨rfl, D3, m3, g3⟩
  have M3 := Lib.hid m3
  have T3 := Lib.hid (T2.out.grown M2.out g3)
  have B3 := Lib.hid (B2.out.grown g3 B2.out.size (fun j hj => by injection hj with hj; rw [← hj]; exact HBB.out))
  clear m3 g3 HS M2 T2 B2
  go_wp2_with fail
  refine (fields_any onlyT w3 (by decide) (by decide) T3.out onlyL only_fields).mono ?_
  rintro e w4 ⟨rfl, rfl⟩
  have k4 := al_one w3 (.cells (sts onlyL).toArray 9)
  have HS := Lib.hid (sts_block (l := onlyL) (one_newN w3 (sts onlyL).toArray 9) (by decide))
  have M4 := Lib.hid (M3.out.kept k4)
  have T4 := Lib.hid (T3.out.keep k4)
  have B4 := Lib.hid (below_then B3.out k4)
  generalize hW4 : w3.alloc (.cells (sts onlyL).toArray 9) = w4 at *
  clear k4 M3 T3 B3
  go_wp2_with fail
  refine (give_any b (0 + 12) D3 _ 4 _ 8 8 onlyL w4 M4 HS (by decide) (by decide) small_only (by decide)).mono ?_
  rintro e w5 ⟨rfl, D5, m5, g5⟩
  have M5 := Lib.hid m5
  have T5 := Lib.hid (T4.out.grown M4.out g5)
  have B5 := Lib.hid (B4.out.grown g5 B4.out.size (fun j hj => by injection hj with hj; rw [← hj]; exact HBB.out))
  clear m5 g5 HS M4 T4 B4
  go_wp2_with fail
  refine (fields_any bothT w5 (by decide) (by decide) T5.out bothL both_fields).mono ?_
  rintro e w6 ⟨rfl, rfl⟩
  have k6 := al_one w5 (.cells (sts bothL).toArray 9)
  have HS := Lib.hid (sts_block (l := bothL) (one_newN w5 (sts bothL).toArray 9) (by decide))
  have M6 := Lib.hid (M5.out.kept k6)
  have T6 := Lib.hid (T5.out.keep k6)
  have B6 := Lib.hid (below_then B5.out k6)
  generalize hW6 : w5.alloc (.cells (sts bothL).toArray 9) = w6 at *
  clear k6 M5 T5 B5
  go_wp2_with fail
  refine (give_any b ((0 + 12) + 8) D5 _ 5 _ 22 22 bothL w6 M6 HS (by decide) (by decide) small_both (by decide)).mono ?_
  rintro e w7 ⟨rfl, D7, m7, g7⟩
  have M7 := Lib.hid m7
  have T7 := Lib.hid (T6.out.grown M6.out g7)
  have B7 := Lib.hid (B6.out.grown g7 B6.out.size (fun j hj => by injection hj with hj; rw [← hj]; exact HBB.out))
  clear m7 g7 HS M6 T6 B6
  go_wp2_with fail
  refine (fields_any nowT w7 (by decide) (by decide) T7.out nowL now_fields).mono ?_
  rintro e w8 ⟨rfl, rfl⟩
  have k8 := al_one w7 (.cells (sts nowL).toArray 9)
  have HS := Lib.hid (sts_block (l := nowL) (one_newN w7 (sts nowL).toArray 9) (by decide))
  have M8 := Lib.hid (M7.out.kept k8)
  have T8 := Lib.hid (T7.out.keep k8)
  have B8 := Lib.hid (below_then B7.out k8)
  generalize hW8 : w7.alloc (.cells (sts nowL).toArray 9) = w8 at *
  clear k8 M7 T7 B7
  go_wp2_with fail
  refine (give_any b (((0 + 12) + 8) + 22) D7 _ 1 _ 4 4 nowL w8 M8 HS (by decide) (by decide) small_now (by decide)).mono ?_
  rintro e w9 ⟨rfl, D9, m9, g9⟩
  have M9 := Lib.hid m9
  have T9 := Lib.hid (T8.out.grown M8.out g9)
  have B9 := Lib.hid (B8.out.grown g9 B8.out.size (fun j hj => by injection hj with hj; rw [← hj]; exact HBB.out))
  clear m9 g9 HS M8 T8 B8
  go_wp2_with fail
  go_ret
  exact ⟨b, _, D9, rfl, M9.out, B9.out⟩
theorem named_all : ∀ i, i < 167 → namedC (nmN i) = 0 := by decide +kernel
theorem flag_all : ∀ i, i < 167 → flagB (flagF (nmN i) i) = true := by decide +kernel
theorem nm_small : ∀ i, i < 167 → (nmN i).length ≤ 65536 := by decide +kernel
theorem add_step {i : Nat} (hi : i < 167) {room : Int} (hr : 200 ≤ room) : addL (newW i) (nmN i) ((32 + 8 * i : Nat) : Int) (flagF (nmN i) i) room = newW (i + 1) := by
  have h1 := named_all i hi
  have h2 := flag_all i hi
  have h3 : roomB (newW i) room = true := by unfold roomB; rw [newW_len, decide_eq_true_eq]; omega
  have h0 : addC (newW i) (nmN i) (flagF (nmN i) i) room = 0 := by
    unfold addC
    rw [if_neg (by rw [h1]; simp), if_neg (by rw [h2]; simp), if_neg (by rw [h3]; simp)]
  unfold addL
  rw [if_pos h0, newW_succ]
  rfl
set_option maxRecDepth 100000 in
set_option maxHeartbeats 4000000 in
theorem firstwords_any (room : Int) (w : World) (HT : Tab w) (hr : 200 ≤ room) : Calls Tryd.prog 22 #[.int .i64 room] w fun e w' => ∃ A c, e = .returned (.slice A 167 c) ∧ Wds w' (.slice A 167 c) (newW 167) ∧ Below w.heap.size w w' := by
  have HR := Lib.hid hr
  clear hr
  go_enter Tryd.func22, Tryd.ntmps22
  go_wp2_with fail
  refine (flags_any w HT).mono ?_
  rintro e w1 ⟨b, n, D, rfl, hm, bb⟩
  have M1 := Lib.hid hm
  have T1 := Lib.hid (HT.keep bb)
  have B1 := Lib.hid bb
  clear hm bb HT
  go_wp2_with fail
  refine (names_any _ T1.out).mono ?_
  rintro e w2 ⟨rfl, hs, bb⟩
  have M2 := Lib.hid (M1.out.kept bb)
  have T2 := Lib.hid (T1.out.keep bb)
  have B2 := Lib.hid (below_then B1.out bb)
  obtain ⟨g1, hg1⟩ : ∃ g, w1.heap.size = g := ⟨_, rfl⟩
  rw [hg1] at hs
  rw [hg1]
  have S1 := Lib.hid hs
  clear bb hs hg1 M1 T1 B1
  go_wp2_with fail
  refine (specials_any _ T2.out).mono ?_
  rintro e w3 ⟨rfl, hs, bb⟩
  obtain ⟨g2, hg2⟩ : ∃ g, w2.heap.size = g := ⟨_, rfl⟩
  rw [hg2] at hs
  rw [hg2]
  have hp := pair_new w3 (.slice (some ⟨g1, 0, none⟩) 130 130) (.slice (some ⟨g2, 0, none⟩) 37 37) 42
  have k3 := al_one w3 (.cells #[.slice (some ⟨g1, 0, none⟩) 130 130, .slice (some ⟨g2, 0, none⟩) 37 37] 42)
  have HC := Lib.hid (scat_any _ _ _ _ _ _ primL specL w3.heap.size _ hp.1 hp.2 ((S1.out.keep bb).keep k3) (hs.keep k3) (by decide) (by decide))
  have M3 := Lib.hid ((M2.out.kept bb).kept k3)
  have B3 := Lib.hid (below_then (below_then B2.out bb) k3)
  clear bb hs hp k3 hg2 M2 T2 B2 S1
  go_wp2_with fail
  refine HC.out.mono ?_
  rintro e w4 ⟨v, rfl, ho, bb⟩
  have hs := ho.sts
  obtain ⟨A, c, rfl⟩ : ∃ A c, v = .slice A 167 c := by
    obtain ⟨A, c, e, _⟩ := hs
    exact ⟨A, c, e⟩
  have S4 : Hid (Sts w4 (.slice A 167 c) nmsL) := hs
  have M4 := Lib.hid (M3.out.kept bb)
  have B4 := Lib.hid (below_then B3.out bb)
  clear hs ho bb M3 B3 HC
  go_wp2_with fail
  go_loopw [3, 13] (fun s3 s13 wr => ∃ (i : Nat) (A1 : Option Addr) (c1 : Nat), s3 = .slice A1 i c1 ∧ s13 = .int .i64 (i : Int) ∧ i ≤ 167 ∧ Hid (Wds wr (.slice A1 i c1) (newW i)) ∧ Hid (Below w4.heap.size w4 wr)) (fun _ s13 _ => 167 - (intOf s13).toNat)
  case atStart => exact ⟨0, none, 0, rfl, rfl, Nat.zero_le _, Lib.hid ⟨none, 0, rfl, Nat.le_refl _, Nat.zero_le _, .inl rfl⟩, Lib.hid (Below.refl _ _)⟩
  case round =>
  obtain ⟨i, A1, c1, rfl, rfl, hi, HL, HW⟩ := hrel
  by_cases hi7 : i < 167
  · have hi7' : (i : Int) < 167 := by omega
    obtain ⟨g, o, hA, hc⟩ := sts_cell (S4.out.keep HW.out) (k := i) (by rw [all_len]; exact hi7)
    have hx := nm_at hi7
    rw [List.getElem?_eq_getElem (by rw [all_len]; exact hi7)] at hx
    injection hx with hx
    rw [hx] at hc
    subst hA
    have hp : Hid (∀ w, Calls Tryd.prog 60 #[.int .i64 (i : Int)] w fun e w' => e = .returned (.int .i64 ((32 + 8 * i : Nat) : Int)) ∧ w = w') := fun w => place_any i (by omega) w
    obtain ⟨QP, hQP⟩ : ∃ q, ((32 + 8 * i : Nat) : Int) = q := ⟨_, rfl⟩
    obtain ⟨FL, hFL⟩ : ∃ q, flagF (nmN i) i = q := ⟨_, rfl⟩
    obtain ⟨nm, hnm⟩ : ∃ q, nmN i = q := ⟨_, rfl⟩
    have HN : Hid (nm.length ≤ 65536) := by show _ ≤ _; rw [← hnm]; exact nm_small i hi7
    have HLK : Hid (∀ u, Below wr.heap.size wr u → (Instr.lookup 103 (.map (some b)) (.string (strB nm)) false).run Tryd.prog u = .ok (.int .i64 FL) u) := fun u hu => by
      have := ((M4.out.kept HW.out).kept hu).look HN.out
      rw [← hnm, flag_same i hi7, hFL] at this
      rw [← hnm]
      exact this
    have HADD : Hid (∀ u, Below wr.heap.size wr u → Calls Tryd.prog 59 #[.slice A1 i c1, .string (strB nm), .int .i64 QP, .int .i64 FL, .int .i64 room] u fun e w' => ∃ A c C, e = .returned (.tuple #[.slice A (i + 1) c, .int .i64 C]) ∧ Wds w' (.slice A (i + 1) c) (newW (i + 1)) ∧ Below u.heap.size u w') := fun u hu => by
      refine (dadd_any A1 i c1 (newW i) nm QP FL room u (HL.out.keep hu) (by omega)).mono ?_
      rintro e w' ⟨A, n, c, rfl, hw, bb⟩
      rw [← hnm, ← hQP, ← hFL, add_step hi7 HR.out] at hw
      have hl := hw.len
      rw [newW_len] at hl
      subst hl
      exact ⟨A, c, _, rfl, hw, bb⟩
    rw [hQP] at hp
    rw [hnm] at hc
    clear hx hQP hFL hnm
    go_upto_region 6 with fail
    refine wp_region_noPanic ?_
    refine wp_region_held_drew (S := fun a => Below wr.heap.size wr a) (by kernel_rfl) (drew_belw _) (fun hHeld => ?_)
    (refine wpAnyH_take (i := 0) (oi := _) (v := ?v0) rfl (by kernel_rfl) (by kernel_rfl) (by kernel_rfl) (fun _ _ _ h => h) (Or.inl ⟨by kernel_rfl, ?y0⟩) (by assumption) ?r0; case y0 => (intro w hSw; (try dsimp only at hSw); go_simp; (try with_reducible rfl))); (try simp only [List.getElem_toArray, List.getElem_cons_succ, List.getElem_cons_zero, Act.put, List.setIfInBounds_toArray, List.set_cons_zero, List.set_cons_succ])
    (refine wpAnyH_take (i := 1) (oi := _) (v := ?v1) rfl (by kernel_rfl) (by kernel_rfl) (by kernel_rfl) (fun _ _ _ h => h) (Or.inl ⟨by kernel_rfl, ?y1⟩) (by assumption) ?r1; case y1 => (intro w hSw; (try dsimp only at hSw); go_simp; (try with_reducible rfl))); (try simp only [List.getElem_toArray, List.getElem_cons_succ, List.getElem_cons_zero, Act.put, List.setIfInBounds_toArray, List.set_cons_zero, List.set_cons_succ])
    (refine wpAnyH_take (i := 2) (oi := _) (v := ?v2) rfl (by kernel_rfl) (by kernel_rfl) (by kernel_rfl) (fun _ _ _ h => h) (Or.inl ⟨by kernel_rfl, ?y2⟩) (by assumption) ?r2; case y2 => (intro w hSw; (try dsimp only at hSw); go_simp; (try with_reducible rfl))); (try simp only [List.getElem_toArray, List.getElem_cons_succ, List.getElem_cons_zero, Act.put, List.setIfInBounds_toArray, List.set_cons_zero, List.set_cons_succ])
    (refine wpAnyH_take (i := 4) (oi := _) (v := ?v4) rfl (by kernel_rfl) (by kernel_rfl) (by kernel_rfl) (fun _ _ _ h => h) (Or.inl ⟨by kernel_rfl, ?y4⟩) (by assumption) ?r4; case y4 => (intro w hSw; (try dsimp only at hSw); go_simp; (try with_reducible rfl))); (try simp only [List.getElem_toArray, List.getElem_cons_succ, List.getElem_cons_zero, Act.put, List.setIfInBounds_toArray, List.set_cons_zero, List.set_cons_succ])
    (refine wpAnyH_take (i := 5) (oi := _) (v := ?v5) rfl (by kernel_rfl) (by kernel_rfl) (by kernel_rfl) (fun _ _ _ h => h) (Or.inl ⟨by kernel_rfl, ?y5⟩) (by assumption) ?r5; case y5 => (intro w hSw; (try dsimp only at hSw); go_simp; (try with_reducible rfl))); (try simp only [List.getElem_toArray, List.getElem_cons_succ, List.getElem_cons_zero, Act.put, List.setIfInBounds_toArray, List.set_cons_zero, List.set_cons_succ])
    (refine wpAnyH_take (i := 7) (oi := _) (v := ?v7) rfl (by kernel_rfl) (by kernel_rfl) (by kernel_rfl) (fun _ _ _ h => h) (Or.inl ⟨by kernel_rfl, ?y7⟩) (by assumption) ?r7; case y7 => (intro w hSw; (try dsimp only at hSw); go_simp; (try with_reducible rfl))); (try simp only [List.getElem_toArray, List.getElem_cons_succ, List.getElem_cons_zero, Act.put, List.setIfInBounds_toArray, List.set_cons_zero, List.set_cons_succ])
    (refine wpAnyH_take (i := 6) (oi := _) (v := ?v6) rfl (by kernel_rfl) (by kernel_rfl) (by kernel_rfl) (fun _ _ _ h => h) (Or.inl ⟨by kernel_rfl, ?y6⟩) (by assumption) ?r6; case y6 => (intro u hSu; have hl := HLK.out u hSu; go_simp; (try with_reducible rfl))); (try simp only [List.getElem_toArray, List.getElem_cons_succ, List.getElem_cons_zero, Act.put, List.setIfInBounds_toArray, List.set_cons_zero, List.set_cons_succ])
    refine wpAnyH_ready (rs := [3]) (by kernel_rfl) (by simp) ?_
    refine AllReadyH.cons (o := _) rfl (fun K hK => ?_) AllReadyH.nil
    go_simp
    refine (hp.out _).mono ?_
    rintro e w9 ⟨rfl, rfl⟩
    go_wp2_with fail
    refine hK.out _ _ hHeld (fun hHeld => ?_)
    clear hK K
    try try simp only [List.getElem_toArray, List.getElem_cons_succ, List.getElem_cons_zero, Act.put, List.setIfInBounds_toArray, List.set_cons_zero, List.set_cons_succ]
    refine wpAnyH_ready (rs := [8]) (by kernel_rfl) (by simp) ?_
    refine AllReadyH.cons (o := _) rfl (fun K hK => ?_) AllReadyH.nil
    go_simp
    refine (HADD.out _ hHeld).mono ?_
    rintro e w9 ⟨A2, c2, C, rfl, hw, b9⟩
    have b8 := below_then hHeld b9
    have HW9 := Lib.hid hw
    have HB9 := Lib.hid b8
    clear hw b9
    go_wp2_with fail
    refine hK.out _ _ b8 (fun hHeld => ?_)
    clear hK K
    try try simp only [List.getElem_toArray, List.getElem_cons_succ, List.getElem_cons_zero, Act.put, List.setIfInBounds_toArray, List.set_cons_zero, List.set_cons_succ]
    (refine wpAnyH_take (i := 9) (oi := _) (v := ?v9) rfl (by kernel_rfl) (by kernel_rfl) (by kernel_rfl) (fun _ _ _ h => h) (Or.inl ⟨by kernel_rfl, ?y9⟩) (by assumption) ?r9; case y9 => (intro w hSw; (try dsimp only at hSw); go_simp; (try with_reducible rfl))); (try simp only [List.getElem_toArray, List.getElem_cons_succ, List.getElem_cons_zero, Act.put, List.setIfInBounds_toArray, List.set_cons_zero, List.set_cons_succ])
    (refine wpAnyH_take (i := 10) (oi := _) (v := ?v10) rfl (by kernel_rfl) (by kernel_rfl) (by kernel_rfl) (fun _ _ _ h => h) (Or.inl ⟨by kernel_rfl, ?y10⟩) (by assumption) ?r10; case y10 => (intro w hSw; (try dsimp only at hSw); go_simp; (try with_reducible rfl))); (try simp only [List.getElem_toArray, List.getElem_cons_succ, List.getElem_cons_zero, Act.put, List.setIfInBounds_toArray, List.set_cons_zero, List.set_cons_succ])
    (refine wpAnyH_take (i := 11) (oi := _) (v := ?v11) rfl (by kernel_rfl) (by kernel_rfl) (by kernel_rfl) (fun _ _ _ h => h) (Or.inl ⟨by kernel_rfl, ?y11⟩) (by assumption) ?r11; case y11 => (intro w hSw; (try dsimp only at hSw); go_simp; (try with_reducible rfl))); (try simp only [List.getElem_toArray, List.getElem_cons_succ, List.getElem_cons_zero, Act.put, List.setIfInBounds_toArray, List.set_cons_zero, List.set_cons_succ])
    (refine wpAnyH_take (i := 12) (oi := _) (v := ?v12) rfl (by kernel_rfl) (by kernel_rfl) (by kernel_rfl) (fun _ _ _ h => h) (Or.inl ⟨by kernel_rfl, ?y12⟩) (by assumption) ?r12; case y12 => (intro w hSw; (try dsimp only at hSw); go_simp; (try with_reducible rfl))); (try simp only [List.getElem_toArray, List.getElem_cons_succ, List.getElem_cons_zero, Act.put, List.setIfInBounds_toArray, List.set_cons_zero, List.set_cons_succ])
    refine wpAnyH_done (by kernel_rfl) ?_ _
    refine NoPanic.normal ?_
    go_wp2_with fail
    go_roundw
    case rel => exact ⟨i + 1, A2, c2, rfl, by simp, by omega, HW9, Lib.hid (below_then HW.out HB9.out)⟩
    case measure => simp [intOf]; omega
  · obtain rfl : i = 167 := by omega
    clear hi7 hi
    go_wp2_with fail
    go_ret
    exact ⟨A1, c1, rfl, HL.out, below_then B4.out HW.out⟩
end Go.Proofs.YtbighilgkmfemaaDoor
