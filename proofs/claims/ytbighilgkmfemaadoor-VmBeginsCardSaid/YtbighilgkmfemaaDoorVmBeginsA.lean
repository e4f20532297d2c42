/- The walk of VmBegins. -/
import Derived.Test.YtbighilgkmfemaaDoorVmShown
import Derived.Test.YtbighilgkmfemaaDoorSetD
import Derived.Lib.QuietBelow
import Derived.BigQuiet
import Derived.Deep.Cut
import Derived.Deep.DeepCutAuto
namespace Go.Proofs.YtbighilgkmfemaaDoor
open Go.RowKit Go.Sort
set_option linter.unusedVariables false
set_option linter.unusedSimpArgs false

/-- A configuration in a block of its own. -/
def CfBox (w : World) (b : Nat) (m d r v o : Int) : Prop := w.heap[b]? = some (.cells #[.int .i64 m, .int .i64 d, .int .i64 r, .int .i64 v, .int .i64 o] 23 (0, 0))
theorem CfBox.lt {w : World} {b : Nat} {m d r v o : Int} (h : CfBox w b m d r v o) : b < w.heap.size := (Array.getElem?_eq_some_iff.1 h).1
theorem CfBox.keep {w w' : World} {b : Nat} {m d r v o : Int} (h : CfBox w b m d r v o) (x : Below w.heap.size w w') : CfBox w' b m d r v o := (x.block b h.lt).trans h
theorem CfBox.use {w : World} {b : Nat} {m d r v o : Int} (h : CfBox w b m d r v o) : w.cell? ⟨b, 0, none⟩ = some (.int .i64 m) ∧ w.cell? ⟨b, 1, none⟩ = some (.int .i64 d) ∧ w.cell? ⟨b, 2, none⟩ = some (.int .i64 r) ∧ w.cell? ⟨b, 3, none⟩ = some (.int .i64 v) ∧ w.cell? ⟨b, 4, none⟩ = some (.int .i64 o) := by
  unfold CfBox at h
  refine ⟨?_, ?_, ?_, ?_, ?_⟩ <;> simp [World.cell?, h]
theorem cfbox_new (w : World) (m d r v o : Int) : CfBox (w.alloc (.cells #[.int .i64 m, .int .i64 d, .int .i64 r, .int .i64 v, .int .i64 o] 23)) w.heap.size m d r v o := one_newN w _ _
theorem drew_bel (w : World) : Below w.heap.size w w.drew := ⟨rfl, rfl, rfl, Nat.le_refl _, fun _ _ => rfl⟩
theorem al_thn {w0 w : World} {o : Obj} (h : Below w0.heap.size w0 w) : Below w0.heap.size w0 (w.alloc o) := h.alloc h.size o
theorem prim_at : ∀ i, i < 130 → primL[i]? = some (nmN i) := by decide +kernel
theorem spec_at : ∀ j, j < 37 → specL[j]? = some (nmN (130 + j)) := by decide +kernel
theorem sts_is {w : World} {b n c : Nat} {l : List (List UInt8)} (h : Sts w (.slice (some ⟨b, 0, none⟩) n c) l) {i : Nat} {s : List UInt8} (hs : l[i]? = some s) : w.cell? ⟨b, i, none⟩ = some (.string (strB s)) := by
  obtain ⟨hi, hv⟩ := List.getElem?_eq_some_iff.1 hs
  obtain ⟨g, o, e, hc⟩ := sts_cell h hi
  injection e with e
  injection e with e1 e2 e3
  subst e1 e2
  rw [hv] at hc
  simpa using hc
theorem WBox.put3 {w : World} {b : Nat} {q : Wr} (h : WBox w b q) (q' : Wr) : WBox (((w.setCell ⟨b, 0, none⟩ (.string (strB q'.nm))).setCell ⟨b, 1, none⟩ (.int .i64 q'.xt)).setCell ⟨b, 2, none⟩ (.int .i64 q'.fl)) b q' := by
  have h0 := Go.Joins.block_setCell (i := 0) h (.string (strB q'.nm))
  have h1 := Go.Joins.block_setCell (i := 1) h0 (.int .i64 q'.xt)
  have h2 := Go.Joins.block_setCell (i := 2) h1 (.int .i64 q'.fl)
  simpa [WBox] using h2
theorem nm_few : ∀ i, i < 167 → (nmN i).length ≤ 60 := by decide +kernel
theorem exec_vload {o : Oper} {a : Act} (x : Operand) (ho : o.op = .load 37 x) (b : Nat) (k : VmK) (hx : a.eval x = .pointer (some ⟨b, 0, none⟩)) {u : World} (hb : VBox u b k) : (execOp a.eval o).run Tryd.prog u = .ok (.value (vmV k)) u := by
  have hl := vm_load hb
  unfold execOp
  simp only [ho, hx, Instr.loadAt, Instr.sureAddr, Sem.run_bind, Sem.run_pure, Result.andThen_ok, hl]
theorem wrap_small {n : Int} (h0 : 0 ≤ n) (h1 : n ≤ 100000) : IntKind.i64.wrap n = n := IntWalk.i64_in _ ⟨by omega, by omega⟩
theorem start_bel (w : World) : Calls Tryd.prog 12 #[] w fun e w' => e = .returned (.int .i64 1368) ∧ Below w.heap.size w w' := (start_any w).mono fun _ _ ⟨he, hw⟩ => ⟨he, by rw [← hw]; exact Below.refl _ _⟩
/-- Find of a name among a new machine's words. -/
theorem find_new {w : World} {k : VmK} {L : Nat} (h : IsVm w k (newL L)) (i : Nat) (hi : i < 167) : Calls Tryd.prog 9 #[.slice k.wA k.wn k.wc, .string (strB (nmN i))] w (GotOut (gotW (newW 167) (findI (newW 167) (nmN i))) (gotI (findI (newW 167) (nmN i))) (findI (newW 167) (nmN i)).isSome w) :=
  rfind_any k.wA k.wn k.wc (newW 167) (nmN i) w h.dict (by have := h.dict.len; rw [← this]; show (newW 167).length ≤ _; rw [newW_len]; decide) (fun q hq => ⟨(words_few q hq).1, (words_few q hq).2.1⟩) (fun q hq => Nat.le_trans (words_few q hq).2.2 (by decide)) (Nat.le_trans (nm_few i hi) (by decide))
theorem got_prim {i : Nat} (hi : i < 130) : (findI (newW 167) (nmN i)).isSome = decide (12 ≤ i) ∧ (12 ≤ i → (gotW (newW 167) (findI (newW 167) (nmN i))).xt = ((32 + 8 * i : Nat) : Int)) := by
  rw [find_prim i hi]
  by_cases h : i < 12
  · rw [if_pos h]
    exact ⟨by simp; omega, fun h' => by omega⟩
  · rw [if_neg h]
    refine ⟨by simp; omega, fun _ => ?_⟩
    show ((newW 167).getD i w0).xt = _
    rw [nword_at (by omega)]
    rfl
theorem got_spec {j : Nat} (hj : j < 37) : (findI (newW 167) (nmN (130 + j))).isSome = true ∧ (gotW (newW 167) (findI (newW 167) (nmN (130 + j)))).xt = ((32 + 8 * (130 + j) : Nat) : Int) := by
  rw [find_spec j hj]
  refine ⟨rfl, ?_⟩
  show ((newW 167).getD (130 + j) w0).xt = _
  rw [nword_at (by omega)]
  rfl
theorem rright_new {w : World} {k : VmK} {L : Nat} (h : IsVm w k (newL L)) (hr : vRight k (newL L) = true) : Calls Tryd.prog 11 #[vmV k] w fun e w' => e = .returned (.bool true) ∧ Below w.heap.size w w' := by
  have := rvright_any k (newL L) w (Lib.hid (by have := h.dict.len; rw [← this]; show (newW 167).length ≤ _; rw [newW_len]; decide)) h
  rw [hr] at this
  exact this
set_option maxRecDepth 100000 in
set_option maxHeartbeats 4000000 in
theorem begins_any (m d r v o : Int) (a : Nat) (ha : a < 256) (w : World) (HT : Tab w) : Calls Tryd.prog 3 #[.agg #[.int .i64 m, .int .i64 d, .int .i64 r, .int .i64 v, .int .i64 o], .int .u8 (a : Int)] w fun e w' => e = .returned (.bool true) ∧ Below w.heap.size w w' := by
  have T0 := Lib.hid HT
  have B0 := Lib.hid (Below.refl w.heap.size w)
  clear HT
  go_enter Tryd.func3, Tryd.ntmps3
  go_upto_region 1 with fail
  generalize hw : World.alloc _ _ = w1
  have kb : Below w.heap.size w w1 := by rw [← hw]; exact al_one _ _
  have hx : CfBox w1 w.heap.size m d r v o := by rw [← hw]; exact cfbox_new _ _ _ _ _ _
  clear hw
  have T1 := Lib.hid (T0.out.keep kb)
  have B1 := Lib.hid (below_then B0.out kb)
  have C1 := Lib.hid hx
  clear kb T0 B0
  clear hx
  go_wp2_with fail
  refine (shown_any _ T1.out).mono ?_
  rintro e w2 ⟨rfl, bb⟩
  have T2 := Lib.hid (T1.out.keep bb)
  have C2 := Lib.hid (C1.out.keep bb)
  have B2 := Lib.hid (below_then B1.out bb)
  clear bb T1 C1 B1
  obtain ⟨pc0, pc1, pc2, pc3, pc4⟩ := C2.out.use
  go_wp2_with fail
  refine (vnew_use m d r v o _ T2.out).mono ?_
  rintro e w3 ⟨k, C, rfl, h1, h2, bb⟩
  clear pc0 pc1 pc2 pc3 pc4
  have T3 := Lib.hid (T2.out.keep bb)
  have C3 := Lib.hid (C2.out.keep bb)
  have B3 := Lib.hid (below_then B2.out bb)
  clear bb T2 C2 B2
  cases hf : fitsB m d r v o with
  | false =>
    obtain ⟨rfl, rfl⟩ := h2 hf
    clear h1 h2
    go_upto_region 3 with (refine wpList_vstore (by rfl) _ _ rfl _ vm0 vm0 rfl rfl (vbox_zero _) ?_)
    generalize hw4 : World.setRow _ _ _ = w4
    have kb : Below w3.heap.size w3 w4 := by rw [← hw4]; exact below_setRow (al_one _ _) (Nat.le_refl _) _
    have hx : VBox w4 w3.heap.size vm0 := by rw [← hw4]; exact vrow (vbox_zero w3) vm0
    clear hw4
    have T4 := Lib.hid (T3.out.keep kb)
    have C4 := Lib.hid (C3.out.keep kb)
    have B4 := Lib.hid (below_then B3.out kb)
    have V4 := Lib.hid hx
    clear kb T3 C3 B3
    clear hx
    obtain ⟨pc0, pc1, pc2, pc3, pc4⟩ := C4.out.use
    go_wp2_with fail
    have HC := Lib.hid (fits_any m d r v o w4)
    rw [hf] at HC
    refine (HC.out).mono ?_
    rintro e w5 ⟨rfl, bb⟩
    clear HC
    clear pc0 pc1 pc2 pc3 pc4
    have T5 := Lib.hid (T4.out.keep bb)
    have C5 := Lib.hid (C4.out.keep bb)
    have V5 := Lib.hid (V4.out.keep bb)
    have B5 := Lib.hid (below_then B4.out bb)
    clear bb T4 C4 V4 B4
    obtain ⟨pV0, pV1, pV2, pV3, pV4, pV5, pV6, pV7, pV8, pV9, pV10, pV11, pV12, pV13, pV14, pV15, pV16, pV17, pV18, pV19, pV20, pV21, pV22⟩ := V5.out.use
    clear pV0 pV1 pV2 pV3 pV4 pV7 pV8 pV9 pV10 pV11 pV12 pV13 pV14 pV15 pV16 pV17 pV18 pV19 pV20 pV21 pV22
    go_wp2_with fail
    go_ret
    exact ⟨rfl, B5.out⟩
  | true =>
    obtain ⟨rfl, N, rfl, hv, hs⟩ := h1 hf
    have hfb := (fits_iff _ _ _ _ _).1 hf
    have HFB := Lib.hid hfb
    have HS := Lib.hid hs
    have HRN := Lib.hid (right_new hv hs hf)
    have M3 := Lib.hid hv
    clear h1 h2 hf hs hfb hv
    go_upto_region 3 with (refine wpList_vstore (by rfl) _ _ rfl _ vm0 k rfl rfl (vbox_zero _) ?_)
    generalize hw4 : World.setRow _ _ _ = w4
    have kb : Below w3.heap.size w3 w4 := by rw [← hw4]; exact below_setRow (al_one _ _) (Nat.le_refl _) _
    have hx : VBox w4 w3.heap.size k := by rw [← hw4]; exact vrow (vbox_zero w3) k
    clear hw4
    have T4 := Lib.hid (T3.out.keep kb)
    have C4 := Lib.hid (C3.out.keep kb)
    have M4 := Lib.hid (M3.out.keep kb)
    have B4 := Lib.hid (below_then B3.out kb)
    have V4 := Lib.hid hx
    clear kb T3 C3 M3 B3
    clear hx
    go_wp2_with fail
    obtain ⟨WN, hWN⟩ : ∃ q, q = w4.heap.size := ⟨_, rfl⟩
    refine (names_any _ T4.out).mono ?_
    rintro e w5 ⟨rfl, hst, bb⟩
    rw [← hWN] at hst ⊢
    clear hWN
    have T5 := Lib.hid (T4.out.keep bb)
    have C5 := Lib.hid (C4.out.keep bb)
    have M5 := Lib.hid (M4.out.keep bb)
    have V5 := Lib.hid (V4.out.keep bb)
    have B5 := Lib.hid (below_then B4.out bb)
    have S5 := Lib.hid hst
    clear bb T4 C4 M4 V4 B4
    clear hst
    go_wp2_with fail
    obtain ⟨WS, hWS⟩ : ∃ q, q = w5.heap.size := ⟨_, rfl⟩
    refine (specials_any _ T5.out).mono ?_
    rintro e w6 ⟨rfl, hst, bb⟩
    rw [← hWS] at hst ⊢
    clear hWS
    have T6 := Lib.hid (T5.out.keep bb)
    have C6 := Lib.hid (C5.out.keep bb)
    have M6 := Lib.hid (M5.out.keep bb)
    have V6 := Lib.hid (V5.out.keep bb)
    have S6 := Lib.hid (S5.out.keep bb)
    have B6 := Lib.hid (below_then B5.out bb)
    have R6 := Lib.hid hst
    clear bb T5 C5 M5 V5 S5 B5
    clear hst
    go_upto_region 11 with fail
    obtain ⟨i, hi, hi1⟩ : ∃ i : Nat, (a : Int) % 130 = (i : Int) ∧ i < 130 := ⟨a % 130, by omega, by omega⟩
    obtain ⟨j, hj, hj1⟩ : ∃ j : Nat, (a : Int) % 37 = (j : Int) ∧ j < 37 := ⟨a % 37, by omega, by omega⟩
    have hi2 : (i : Int) < 130 := by omega
    have hi3 : (0 : Int) ≤ (i : Int) := by omega
    have hj2 : (j : Int) < 37 := by omega
    have hj3 : (0 : Int) ≤ (j : Int) := by omega
    rw [hi, hj]
    clear hi hj
    obtain ⟨qa, hqa⟩ : ∃ q, gotW (newW 167) (findI (newW 167) (nmN i)) = q := ⟨_, rfl⟩
    obtain ⟨ia, hia⟩ : ∃ q, gotI (findI (newW 167) (nmN i)) = q := ⟨_, rfl⟩
    obtain ⟨ba, hba⟩ : ∃ q, (findI (newW 167) (nmN i)).isSome = q := ⟨_, rfl⟩
    obtain ⟨qb, hqb⟩ : ∃ q, gotW (newW 167) (findI (newW 167) (nmN (130 + j))) = q := ⟨_, rfl⟩
    obtain ⟨ib, hib⟩ : ∃ q, gotI (findI (newW 167) (nmN (130 + j))) = q := ⟨_, rfl⟩
    have HGA := Lib.hid (got_prim hi1)
    have HGB := Lib.hid (got_spec hj1)
    rw [hqa, hba] at HGA
    rw [hqb] at HGB
    have FA := Lib.hid (fun (u : World) (h : IsVm u k (newL N)) => find_new h i (by omega))
    have FB := Lib.hid (fun (u : World) (h : IsVm u k (newL N)) => find_new h (130 + j) (by omega))
    rw [hqa, hia, hba] at FA
    rw [hqb, hib, HGB.out.1] at FB
    clear hqa hia hba hqb hib
    try simp only [List.append_eq, List.cons_append, List.nil_append]
    go_cut [12, 13, 14] (fun s12 s13 s14 wx => ∃ b, s12 = .pointer (some ⟨b, 0, none⟩) ∧ s14 = .bool ba ∧ Hid (WBox wx b qa) ∧ Hid (Below w6.heap.size w6 wx))
    case first =>
      refine wp_region_noPanic ?_
      refine wp_region_held_drew (S := fun a => Below w6.heap.size w6 a) (by kernel_rfl) (drew_bel _) (fun hHeld => ?_)
      refine wpAnyH_take (i := 0) (oi := _) (v := ?v0z1) rfl (by kernel_rfl) (by kernel_rfl) (by kernel_rfl) (fun _ _ _ h => h) (Or.inl ⟨by kernel_rfl, ?y0z1⟩) (by assumption) ?r0z1
      case y0z1 => (intro u hSu; (try dsimp only at hSu); go_simp; (try with_reducible rfl))
      try simp only [List.getElem_toArray, List.getElem_cons_succ, List.getElem_cons_zero, Act.put, List.setIfInBounds_toArray, List.set_cons_zero, List.set_cons_succ]
      refine wpAnyH_take (i := 1) (oi := _) (v := ?v1z1) rfl (by kernel_rfl) (by kernel_rfl) (by kernel_rfl) (fun _ _ _ h => h) (Or.inl ⟨by kernel_rfl, ?y1z1⟩) (by assumption) ?r1z1
      case y1z1 => (intro u hSu; obtain ⟨_, _, _, _, _, _, _, _, _, _, _, q11, _⟩ := (V6.out.keep hSu).use; go_simp; (try with_reducible rfl))
      try simp only [List.getElem_toArray, List.getElem_cons_succ, List.getElem_cons_zero, Act.put, List.setIfInBounds_toArray, List.set_cons_zero, List.set_cons_succ]
      refine wpAnyH_take (i := 2) (oi := _) (v := ?v2z1) rfl (by kernel_rfl) (by kernel_rfl) (by kernel_rfl) (fun _ _ _ h => h) (Or.inl ⟨by kernel_rfl, ?y2z1⟩) (by assumption) ?r2z1
      case y2z1 => (intro u hSu; (try dsimp only at hSu); go_simp; (try with_reducible rfl))
      try simp only [List.getElem_toArray, List.getElem_cons_succ, List.getElem_cons_zero, Act.put, List.setIfInBounds_toArray, List.set_cons_zero, List.set_cons_succ]
      refine wpAnyH_take (i := 3) (oi := _) (v := ?v3z1) rfl (by kernel_rfl) (by kernel_rfl) (by kernel_rfl) (fun _ _ _ h => h) (Or.inl ⟨by kernel_rfl, ?y3z1⟩) (by assumption) ?r3z1
      case y3z1 => (intro u hSu; (try dsimp only at hSu); go_simp; (try with_reducible rfl))
      try simp only [List.getElem_toArray, List.getElem_cons_succ, List.getElem_cons_zero, Act.put, List.setIfInBounds_toArray, List.set_cons_zero, List.set_cons_succ]
      refine wpAnyH_take (i := 4) (oi := _) (v := ?v4z1) rfl (by kernel_rfl) (by kernel_rfl) (by kernel_rfl) (fun _ _ _ h => h) (Or.inl ⟨by kernel_rfl, ?y4z1⟩) (by assumption) ?r4z1
      case y4z1 => (intro u hSu; (try dsimp only at hSu); go_simp; (try with_reducible rfl))
      try simp only [List.getElem_toArray, List.getElem_cons_succ, List.getElem_cons_zero, Act.put, List.setIfInBounds_toArray, List.set_cons_zero, List.set_cons_succ]
      refine wpAnyH_take (i := 5) (oi := _) (v := ?v5z1) rfl (by kernel_rfl) (by kernel_rfl) (by kernel_rfl) (fun _ _ _ h => h) (Or.inl ⟨by kernel_rfl, ?y5z1⟩) (by assumption) ?r5z1
      case y5z1 => (intro u hSu; have q0 := sts_is (S6.out.keep hSu) (prim_at i hi1); go_simp; (try with_reducible rfl))
      try simp only [List.getElem_toArray, List.getElem_cons_succ, List.getElem_cons_zero, Act.put, List.setIfInBounds_toArray, List.set_cons_zero, List.set_cons_succ]
      refine wpAnyH_ready (rs := [6, 11]) (by kernel_rfl) (by simp) ?_
      refine AllReadyH.cons (o := _) rfl (fun K hK => ?_) (AllReadyH.cons (o := _) rfl (fun K hK => ?_) AllReadyH.nil)
      · go_simp
        refine (FA.out _ (M6.out.keep hHeld)).mono ?_
        rintro e uz10 ⟨rfl, b9⟩
        have hN := below_then hHeld b9
        go_wp2_with fail
        clear hHeld b9
        refine hK.out _ _ hN (fun hHeld => ?_)
        clear hK K hN
        try simp only [List.getElem_toArray, List.getElem_cons_succ, List.getElem_cons_zero, Act.put, List.setIfInBounds_toArray, List.set_cons_zero, List.set_cons_succ]
        refine wpAnyH_take (i := 7) (oi := _) (v := ?v7z10) rfl (by kernel_rfl) (by kernel_rfl) (by kernel_rfl) (fun _ _ _ h => h) (Or.inl ⟨by kernel_rfl, ?y7z10⟩) (by assumption) ?r7z10
        case y7z10 => (intro u hSu; (try dsimp only at hSu); go_simp; (try with_reducible rfl))
        try simp only [List.getElem_toArray, List.getElem_cons_succ, List.getElem_cons_zero, Act.put, List.setIfInBounds_toArray, List.set_cons_zero, List.set_cons_succ]
        refine wpAnyH_take (i := 8) (oi := _) (v := ?v8z10) rfl (by kernel_rfl) (by kernel_rfl) (by kernel_rfl) (fun _ _ _ h => h) (Or.inl ⟨by kernel_rfl, ?y8z10⟩) (by assumption) ?r8z10
        case y8z10 => (intro u hSu; (try dsimp only at hSu); go_simp; (try with_reducible rfl))
        try simp only [List.getElem_toArray, List.getElem_cons_succ, List.getElem_cons_zero, Act.put, List.setIfInBounds_toArray, List.set_cons_zero, List.set_cons_succ]
        refine wpAnyH_take (i := 9) (oi := _) (v := ?v9z10) rfl (by kernel_rfl) (by kernel_rfl) (by kernel_rfl) (fun _ _ _ h => h) (Or.inl ⟨by kernel_rfl, ?y9z10⟩) (by assumption) ?r9z10
        case y9z10 => (intro u hSu; (try dsimp only at hSu); go_simp; (try with_reducible rfl))
        try simp only [List.getElem_toArray, List.getElem_cons_succ, List.getElem_cons_zero, Act.put, List.setIfInBounds_toArray, List.set_cons_zero, List.set_cons_succ]
        refine wpAnyH_take (i := 10) (oi := _) (v := ?v10z10) rfl (by kernel_rfl) (by kernel_rfl) (by kernel_rfl) (fun _ _ _ h => h) (Or.inl ⟨by kernel_rfl, ?y10z10⟩) (by assumption) ?r10z10
        case y10z10 => (intro u hSu; (try dsimp only at hSu); go_simp; (try with_reducible rfl))
        try simp only [List.getElem_toArray, List.getElem_cons_succ, List.getElem_cons_zero, Act.put, List.setIfInBounds_toArray, List.set_cons_zero, List.set_cons_succ]
        refine wpAnyH_ready (rs := [11]) (by kernel_rfl) (by simp) ?_
        refine AllReadyH.cons (o := _) rfl (fun K hK => ?_) AllReadyH.nil
        go_simp
        refine hK.out _ _ (al_thn hHeld) (fun hHeld2 => ?_)
        clear hK K
        try simp only [List.getElem_toArray, List.getElem_cons_succ, List.getElem_cons_zero, Act.put, List.setIfInBounds_toArray, List.set_cons_zero, List.set_cons_succ]
        generalize hwa : World.alloc _ _ = wa at hHeld2 ⊢
        have hz : WBox wa uz10.heap.size ⟨[], 0, 0⟩ := by rw [← hwa]; exact wbox_new _ ⟨[], 0, 0⟩
        have hge : w6.heap.size ≤ uz10.heap.size := hHeld.size
        clear hwa hHeld
        refine wpAnyH_ready (rs := [12]) (by kernel_rfl) (by simp) ?_
        refine AllReadyH.cons (o := _) rfl (fun K hK => ?_) AllReadyH.nil
        obtain ⟨z0, z1, z2, y0, y1, y2⟩ := hz.use
        go_simp
        refine hK.out _ _ (((hHeld2.setCell (p := ⟨uz10.heap.size, 0, none⟩) hge _).setCell (p := ⟨uz10.heap.size, 1, none⟩) hge _).setCell (p := ⟨uz10.heap.size, 2, none⟩) hge _) (fun hHeld => ?_)
        clear hK K z0 z1 z2 y0 y1 y2
        try simp only [List.getElem_toArray, List.getElem_cons_succ, List.getElem_cons_zero, Act.put, List.setIfInBounds_toArray, List.set_cons_zero, List.set_cons_succ]
        generalize hwb : World.setCell _ _ _ = w7 at hHeld ⊢
        have hx : WBox w7 uz10.heap.size qa := by rw [← hwb]; exact hz.put3 qa
        clear hwb hz hHeld2 hge
        refine wpAnyH_take (i := 13) (oi := _) (v := ?v13z10) rfl (by kernel_rfl) (by kernel_rfl) (by kernel_rfl) (fun _ _ _ h => h) (Or.inl ⟨by kernel_rfl, ?y13z10⟩) (by assumption) ?r13z10
        case y13z10 => (intro u hSu; (try dsimp only at hSu); go_simp; (try with_reducible rfl))
        try simp only [List.getElem_toArray, List.getElem_cons_succ, List.getElem_cons_zero, Act.put, List.setIfInBounds_toArray, List.set_cons_zero, List.set_cons_succ]
        refine wpAnyH_take (i := 14) (oi := _) (v := ?v14z10) rfl (by kernel_rfl) (by kernel_rfl) (by kernel_rfl) (fun _ _ _ h => h) (Or.inl ⟨by kernel_rfl, ?y14z10⟩) (by assumption) ?r14z10
        case y14z10 => (intro u hSu; (try dsimp only at hSu); go_simp; (try with_reducible rfl))
        try simp only [List.getElem_toArray, List.getElem_cons_succ, List.getElem_cons_zero, Act.put, List.setIfInBounds_toArray, List.set_cons_zero, List.set_cons_succ]
        refine wpAnyH_done (by kernel_rfl) ?_ _
        refine NoPanic.normal ?_
        go_wp2_with fail
        go_meet
        exact ⟨uz10.heap.size, rfl, rfl, Lib.hid hx, Lib.hid hHeld⟩
      · go_simp
        refine hK.out _ _ (al_thn hHeld) (fun hHeld2 => ?_)
        clear hK K
        try simp only [List.getElem_toArray, List.getElem_cons_succ, List.getElem_cons_zero, Act.put, List.setIfInBounds_toArray, List.set_cons_zero, List.set_cons_succ]
        generalize hwa : World.alloc _ _ = wa at hHeld2 ⊢
        have hz0 : WBox wa w6.heap.size ⟨[], 0, 0⟩ := by rw [← hwa]; exact wbox_new _ ⟨[], 0, 0⟩
        have hge : w6.heap.size ≤ w6.heap.size := Nat.le_refl _
        clear hwa hHeld
        have hHeld := hHeld2
        clear hHeld2
        refine wpAnyH_ready (rs := [6]) (by kernel_rfl) (by simp) ?_
        refine AllReadyH.cons (o := _) rfl (fun K hK => ?_) AllReadyH.nil
        go_simp
        refine (FA.out _ (M6.out.keep hHeld)).mono ?_
        rintro e uz11 ⟨rfl, b9⟩
        have hN := below_then hHeld b9
        have hz := (hz0.keep (drew_bel wa)).keep b9
        go_wp2_with fail
        clear hHeld b9 hz0
        refine hK.out _ _ hN (fun hHeld2 => ?_)
        clear hK K hN
        try simp only [List.getElem_toArray, List.getElem_cons_succ, List.getElem_cons_zero, Act.put, List.setIfInBounds_toArray, List.set_cons_zero, List.set_cons_succ]
        refine wpAnyH_take (i := 7) (oi := _) (v := ?v7z11) rfl (by kernel_rfl) (by kernel_rfl) (by kernel_rfl) (fun _ _ _ h => h) (Or.inl ⟨by kernel_rfl, ?y7z11⟩) (by assumption) ?r7z11
        case y7z11 => (intro u hSu; (try dsimp only at hSu); go_simp; (try with_reducible rfl))
        try simp only [List.getElem_toArray, List.getElem_cons_succ, List.getElem_cons_zero, Act.put, List.setIfInBounds_toArray, List.set_cons_zero, List.set_cons_succ]
        refine wpAnyH_take (i := 8) (oi := _) (v := ?v8z11) rfl (by kernel_rfl) (by kernel_rfl) (by kernel_rfl) (fun _ _ _ h => h) (Or.inl ⟨by kernel_rfl, ?y8z11⟩) (by assumption) ?r8z11
        case y8z11 => (intro u hSu; (try dsimp only at hSu); go_simp; (try with_reducible rfl))
        try simp only [List.getElem_toArray, List.getElem_cons_succ, List.getElem_cons_zero, Act.put, List.setIfInBounds_toArray, List.set_cons_zero, List.set_cons_succ]
        refine wpAnyH_take (i := 9) (oi := _) (v := ?v9z11) rfl (by kernel_rfl) (by kernel_rfl) (by kernel_rfl) (fun _ _ _ h => h) (Or.inl ⟨by kernel_rfl, ?y9z11⟩) (by assumption) ?r9z11
        case y9z11 => (intro u hSu; (try dsimp only at hSu); go_simp; (try with_reducible rfl))
        try simp only [List.getElem_toArray, List.getElem_cons_succ, List.getElem_cons_zero, Act.put, List.setIfInBounds_toArray, List.set_cons_zero, List.set_cons_succ]
        refine wpAnyH_take (i := 10) (oi := _) (v := ?v10z11) rfl (by kernel_rfl) (by kernel_rfl) (by kernel_rfl) (fun _ _ _ h => h) (Or.inl ⟨by kernel_rfl, ?y10z11⟩) (by assumption) ?r10z11
        case y10z11 => (intro u hSu; (try dsimp only at hSu); go_simp; (try with_reducible rfl))
        try simp only [List.getElem_toArray, List.getElem_cons_succ, List.getElem_cons_zero, Act.put, List.setIfInBounds_toArray, List.set_cons_zero, List.set_cons_succ]
        refine wpAnyH_ready (rs := [12]) (by kernel_rfl) (by simp) ?_
        refine AllReadyH.cons (o := _) rfl (fun K hK => ?_) AllReadyH.nil
        obtain ⟨z0, z1, z2, y0, y1, y2⟩ := hz.use
        go_simp
        refine hK.out _ _ (((hHeld2.setCell (p := ⟨w6.heap.size, 0, none⟩) hge _).setCell (p := ⟨w6.heap.size, 1, none⟩) hge _).setCell (p := ⟨w6.heap.size, 2, none⟩) hge _) (fun hHeld => ?_)
        clear hK K z0 z1 z2 y0 y1 y2
        try simp only [List.getElem_toArray, List.getElem_cons_succ, List.getElem_cons_zero, Act.put, List.setIfInBounds_toArray, List.set_cons_zero, List.set_cons_succ]
        generalize hwb : World.setCell _ _ _ = w7 at hHeld ⊢
        have hx : WBox w7 w6.heap.size qa := by rw [← hwb]; exact hz.put3 qa
        clear hwb hz hHeld2 hge
        refine wpAnyH_take (i := 13) (oi := _) (v := ?v13z11) rfl (by kernel_rfl) (by kernel_rfl) (by kernel_rfl) (fun _ _ _ h => h) (Or.inl ⟨by kernel_rfl, ?y13z11⟩) (by assumption) ?r13z11
        case y13z11 => (intro u hSu; (try dsimp only at hSu); go_simp; (try with_reducible rfl))
        try simp only [List.getElem_toArray, List.getElem_cons_succ, List.getElem_cons_zero, Act.put, List.setIfInBounds_toArray, List.set_cons_zero, List.set_cons_succ]
        refine wpAnyH_take (i := 14) (oi := _) (v := ?v14z11) rfl (by kernel_rfl) (by kernel_rfl) (by kernel_rfl) (fun _ _ _ h => h) (Or.inl ⟨by kernel_rfl, ?y14z11⟩) (by assumption) ?r14z11
        case y14z11 => (intro u hSu; (try dsimp only at hSu); go_simp; (try with_reducible rfl))
        try simp only [List.getElem_toArray, List.getElem_cons_succ, List.getElem_cons_zero, Act.put, List.setIfInBounds_toArray, List.set_cons_zero, List.set_cons_succ]
        refine wpAnyH_done (by kernel_rfl) ?_ _
        refine NoPanic.normal ?_
        go_wp2_with fail
        go_meet
        exact ⟨w6.heap.size, rfl, rfl, Lib.hid hx, Lib.hid hHeld⟩
    case rest =>
    obtain ⟨b1, rfl, rfl, hx, hb⟩ := hcut
    have bb := hb.out
    rename World => w7
    have T7 := Lib.hid (T6.out.keep bb)
    have C7 := Lib.hid (C6.out.keep bb)
    have M7 := Lib.hid (M6.out.keep bb)
    have V7 := Lib.hid (V6.out.keep bb)
    have S7 := Lib.hid (S6.out.keep bb)
    have R7 := Lib.hid (R6.out.keep bb)
    have B7 := Lib.hid (below_then B6.out bb)
    have WA7 := Lib.hid hx.out
    clear bb T6 C6 M6 V6 S6 R6 B6
    clear hx hb
    go_upto_region 12 with fail
    try simp only [List.append_eq, List.cons_append, List.nil_append]
    go_cut [15, 16, 17] (fun s15 s16 s17 wx => ∃ b, s15 = .pointer (some ⟨b, 0, none⟩) ∧ s17 = .bool true ∧ Hid (WBox wx b qb) ∧ Hid (Below w7.heap.size w7 wx))
    case first =>
      refine wp_region_noPanic ?_
      refine wp_region_held_drew (S := fun a => Below w7.heap.size w7 a) (by kernel_rfl) (drew_bel _) (fun hHeld => ?_)
      refine wpAnyH_take (i := 0) (oi := _) (v := ?v0z2) rfl (by kernel_rfl) (by kernel_rfl) (by kernel_rfl) (fun _ _ _ h => h) (Or.inl ⟨by kernel_rfl, ?y0z2⟩) (by assumption) ?r0z2
      case y0z2 => (intro u hSu; (try dsimp only at hSu); go_simp; (try with_reducible rfl))
      try simp only [List.getElem_toArray, List.getElem_cons_succ, List.getElem_cons_zero, Act.put, List.setIfInBounds_toArray, List.set_cons_zero, List.set_cons_succ]
      refine wpAnyH_take (i := 1) (oi := _) (v := ?v1z2) rfl (by kernel_rfl) (by kernel_rfl) (by kernel_rfl) (fun _ _ _ h => h) (Or.inl ⟨by kernel_rfl, ?y1z2⟩) (by assumption) ?r1z2
      case y1z2 => (intro u hSu; obtain ⟨_, _, _, _, _, _, _, _, _, _, _, q11, _⟩ := (V7.out.keep hSu).use; go_simp; (try with_reducible rfl))
      try simp only [List.getElem_toArray, List.getElem_cons_succ, List.getElem_cons_zero, Act.put, List.setIfInBounds_toArray, List.set_cons_zero, List.set_cons_succ]
      refine wpAnyH_take (i := 2) (oi := _) (v := ?v2z2) rfl (by kernel_rfl) (by kernel_rfl) (by kernel_rfl) (fun _ _ _ h => h) (Or.inl ⟨by kernel_rfl, ?y2z2⟩) (by assumption) ?r2z2
      case y2z2 => (intro u hSu; (try dsimp only at hSu); go_simp; (try with_reducible rfl))
      try simp only [List.getElem_toArray, List.getElem_cons_succ, List.getElem_cons_zero, Act.put, List.setIfInBounds_toArray, List.set_cons_zero, List.set_cons_succ]
      refine wpAnyH_take (i := 3) (oi := _) (v := ?v3z2) rfl (by kernel_rfl) (by kernel_rfl) (by kernel_rfl) (fun _ _ _ h => h) (Or.inl ⟨by kernel_rfl, ?y3z2⟩) (by assumption) ?r3z2
      case y3z2 => (intro u hSu; (try dsimp only at hSu); go_simp; (try with_reducible rfl))
      try simp only [List.getElem_toArray, List.getElem_cons_succ, List.getElem_cons_zero, Act.put, List.setIfInBounds_toArray, List.set_cons_zero, List.set_cons_succ]
      refine wpAnyH_take (i := 4) (oi := _) (v := ?v4z2) rfl (by kernel_rfl) (by kernel_rfl) (by kernel_rfl) (fun _ _ _ h => h) (Or.inl ⟨by kernel_rfl, ?y4z2⟩) (by assumption) ?r4z2
      case y4z2 => (intro u hSu; (try dsimp only at hSu); go_simp; (try with_reducible rfl))
      try simp only [List.getElem_toArray, List.getElem_cons_succ, List.getElem_cons_zero, Act.put, List.setIfInBounds_toArray, List.set_cons_zero, List.set_cons_succ]
      refine wpAnyH_take (i := 5) (oi := _) (v := ?v5z2) rfl (by kernel_rfl) (by kernel_rfl) (by kernel_rfl) (fun _ _ _ h => h) (Or.inl ⟨by kernel_rfl, ?y5z2⟩) (by assumption) ?r5z2
      case y5z2 => (intro u hSu; have q0 := sts_is (R7.out.keep hSu) (spec_at j hj1); go_simp; (try with_reducible rfl))
      try simp only [List.getElem_toArray, List.getElem_cons_succ, List.getElem_cons_zero, Act.put, List.setIfInBounds_toArray, List.set_cons_zero, List.set_cons_succ]
      refine wpAnyH_ready (rs := [6, 11]) (by kernel_rfl) (by simp) ?_
      refine AllReadyH.cons (o := _) rfl (fun K hK => ?_) (AllReadyH.cons (o := _) rfl (fun K hK => ?_) AllReadyH.nil)
      · go_simp
        refine (FB.out _ (M7.out.keep hHeld)).mono ?_
        rintro e uz20 ⟨rfl, b9⟩
        have hN := below_then hHeld b9
        go_wp2_with fail
        clear hHeld b9
        refine hK.out _ _ hN (fun hHeld => ?_)
        clear hK K hN
        try simp only [List.getElem_toArray, List.getElem_cons_succ, List.getElem_cons_zero, Act.put, List.setIfInBounds_toArray, List.set_cons_zero, List.set_cons_succ]
        refine wpAnyH_take (i := 7) (oi := _) (v := ?v7z20) rfl (by kernel_rfl) (by kernel_rfl) (by kernel_rfl) (fun _ _ _ h => h) (Or.inl ⟨by kernel_rfl, ?y7z20⟩) (by assumption) ?r7z20
        case y7z20 => (intro u hSu; (try dsimp only at hSu); go_simp; (try with_reducible rfl))
        try simp only [List.getElem_toArray, List.getElem_cons_succ, List.getElem_cons_zero, Act.put, List.setIfInBounds_toArray, List.set_cons_zero, List.set_cons_succ]
        refine wpAnyH_take (i := 8) (oi := _) (v := ?v8z20) rfl (by kernel_rfl) (by kernel_rfl) (by kernel_rfl) (fun _ _ _ h => h) (Or.inl ⟨by kernel_rfl, ?y8z20⟩) (by assumption) ?r8z20
        case y8z20 => (intro u hSu; (try dsimp only at hSu); go_simp; (try with_reducible rfl))
        try simp only [List.getElem_toArray, List.getElem_cons_succ, List.getElem_cons_zero, Act.put, List.setIfInBounds_toArray, List.set_cons_zero, List.set_cons_succ]
        refine wpAnyH_take (i := 9) (oi := _) (v := ?v9z20) rfl (by kernel_rfl) (by kernel_rfl) (by kernel_rfl) (fun _ _ _ h => h) (Or.inl ⟨by kernel_rfl, ?y9z20⟩) (by assumption) ?r9z20
        case y9z20 => (intro u hSu; (try dsimp only at hSu); go_simp; (try with_reducible rfl))
        try simp only [List.getElem_toArray, List.getElem_cons_succ, List.getElem_cons_zero, Act.put, List.setIfInBounds_toArray, List.set_cons_zero, List.set_cons_succ]
        refine wpAnyH_take (i := 10) (oi := _) (v := ?v10z20) rfl (by kernel_rfl) (by kernel_rfl) (by kernel_rfl) (fun _ _ _ h => h) (Or.inl ⟨by kernel_rfl, ?y10z20⟩) (by assumption) ?r10z20
        case y10z20 => (intro u hSu; (try dsimp only at hSu); go_simp; (try with_reducible rfl))
        try simp only [List.getElem_toArray, List.getElem_cons_succ, List.getElem_cons_zero, Act.put, List.setIfInBounds_toArray, List.set_cons_zero, List.set_cons_succ]
        refine wpAnyH_ready (rs := [11]) (by kernel_rfl) (by simp) ?_
        refine AllReadyH.cons (o := _) rfl (fun K hK => ?_) AllReadyH.nil
        go_simp
        refine hK.out _ _ (al_thn hHeld) (fun hHeld2 => ?_)
        clear hK K
        try simp only [List.getElem_toArray, List.getElem_cons_succ, List.getElem_cons_zero, Act.put, List.setIfInBounds_toArray, List.set_cons_zero, List.set_cons_succ]
        generalize hwa : World.alloc _ _ = wa at hHeld2 ⊢
        have hz : WBox wa uz20.heap.size ⟨[], 0, 0⟩ := by rw [← hwa]; exact wbox_new _ ⟨[], 0, 0⟩
        have hge : w7.heap.size ≤ uz20.heap.size := hHeld.size
        clear hwa hHeld
        refine wpAnyH_ready (rs := [12]) (by kernel_rfl) (by simp) ?_
        refine AllReadyH.cons (o := _) rfl (fun K hK => ?_) AllReadyH.nil
        obtain ⟨z0, z1, z2, y0, y1, y2⟩ := hz.use
        go_simp
        refine hK.out _ _ (((hHeld2.setCell (p := ⟨uz20.heap.size, 0, none⟩) hge _).setCell (p := ⟨uz20.heap.size, 1, none⟩) hge _).setCell (p := ⟨uz20.heap.size, 2, none⟩) hge _) (fun hHeld => ?_)
        clear hK K z0 z1 z2 y0 y1 y2
        try simp only [List.getElem_toArray, List.getElem_cons_succ, List.getElem_cons_zero, Act.put, List.setIfInBounds_toArray, List.set_cons_zero, List.set_cons_succ]
        generalize hwb : World.setCell _ _ _ = w8 at hHeld ⊢
        have hx : WBox w8 uz20.heap.size qb := by rw [← hwb]; exact hz.put3 qb
        clear hwb hz hHeld2 hge
        refine wpAnyH_take (i := 13) (oi := _) (v := ?v13z20) rfl (by kernel_rfl) (by kernel_rfl) (by kernel_rfl) (fun _ _ _ h => h) (Or.inl ⟨by kernel_rfl, ?y13z20⟩) (by assumption) ?r13z20
        case y13z20 => (intro u hSu; (try dsimp only at hSu); go_simp; (try with_reducible rfl))
        try simp only [List.getElem_toArray, List.getElem_cons_succ, List.getElem_cons_zero, Act.put, List.setIfInBounds_toArray, List.set_cons_zero, List.set_cons_succ]
        refine wpAnyH_take (i := 14) (oi := _) (v := ?v14z20) rfl (by kernel_rfl) (by kernel_rfl) (by kernel_rfl) (fun _ _ _ h => h) (Or.inl ⟨by kernel_rfl, ?y14z20⟩) (by assumption) ?r14z20
        case y14z20 => (intro u hSu; (try dsimp only at hSu); go_simp; (try with_reducible rfl))
        try simp only [List.getElem_toArray, List.getElem_cons_succ, List.getElem_cons_zero, Act.put, List.setIfInBounds_toArray, List.set_cons_zero, List.set_cons_succ]
        refine wpAnyH_done (by kernel_rfl) ?_ _
        refine NoPanic.normal ?_
        go_wp2_with fail
        go_meet
        exact ⟨uz20.heap.size, rfl, rfl, Lib.hid hx, Lib.hid hHeld⟩
      · go_simp
        refine hK.out _ _ (al_thn hHeld) (fun hHeld2 => ?_)
        clear hK K
        try simp only [List.getElem_toArray, List.getElem_cons_succ, List.getElem_cons_zero, Act.put, List.setIfInBounds_toArray, List.set_cons_zero, List.set_cons_succ]
        generalize hwa : World.alloc _ _ = wa at hHeld2 ⊢
        have hz0 : WBox wa w7.heap.size ⟨[], 0, 0⟩ := by rw [← hwa]; exact wbox_new _ ⟨[], 0, 0⟩
        have hge : w7.heap.size ≤ w7.heap.size := Nat.le_refl _
        clear hwa hHeld
        have hHeld := hHeld2
        clear hHeld2
        refine wpAnyH_ready (rs := [6]) (by kernel_rfl) (by simp) ?_
        refine AllReadyH.cons (o := _) rfl (fun K hK => ?_) AllReadyH.nil
        go_simp
        refine (FB.out _ (M7.out.keep hHeld)).mono ?_
        rintro e uz21 ⟨rfl, b9⟩
        have hN := below_then hHeld b9
        have hz := (hz0.keep (drew_bel wa)).keep b9
        go_wp2_with fail
        clear hHeld b9 hz0
        refine hK.out _ _ hN (fun hHeld2 => ?_)
        clear hK K hN
        try simp only [List.getElem_toArray, List.getElem_cons_succ, List.getElem_cons_zero, Act.put, List.setIfInBounds_toArray, List.set_cons_zero, List.set_cons_succ]
        refine wpAnyH_take (i := 7) (oi := _) (v := ?v7z21) rfl (by kernel_rfl) (by kernel_rfl) (by kernel_rfl) (fun _ _ _ h => h) (Or.inl ⟨by kernel_rfl, ?y7z21⟩) (by assumption) ?r7z21
        case y7z21 => (intro u hSu; (try dsimp only at hSu); go_simp; (try with_reducible rfl))
        try simp only [List.getElem_toArray, List.getElem_cons_succ, List.getElem_cons_zero, Act.put, List.setIfInBounds_toArray, List.set_cons_zero, List.set_cons_succ]
        refine wpAnyH_take (i := 8) (oi := _) (v := ?v8z21) rfl (by kernel_rfl) (by kernel_rfl) (by kernel_rfl) (fun _ _ _ h => h) (Or.inl ⟨by kernel_rfl, ?y8z21⟩) (by assumption) ?r8z21
        case y8z21 => (intro u hSu; (try dsimp only at hSu); go_simp; (try with_reducible rfl))
        try simp only [List.getElem_toArray, List.getElem_cons_succ, List.getElem_cons_zero, Act.put, List.setIfInBounds_toArray, List.set_cons_zero, List.set_cons_succ]
        refine wpAnyH_take (i := 9) (oi := _) (v := ?v9z21) rfl (by kernel_rfl) (by kernel_rfl) (by kernel_rfl) (fun _ _ _ h => h) (Or.inl ⟨by kernel_rfl, ?y9z21⟩) (by assumption) ?r9z21
        case y9z21 => (intro u hSu; (try dsimp only at hSu); go_simp; (try with_reducible rfl))
        try simp only [List.getElem_toArray, List.getElem_cons_succ, List.getElem_cons_zero, Act.put, List.setIfInBounds_toArray, List.set_cons_zero, List.set_cons_succ]
        refine wpAnyH_take (i := 10) (oi := _) (v := ?v10z21) rfl (by kernel_rfl) (by kernel_rfl) (by kernel_rfl) (fun _ _ _ h => h) (Or.inl ⟨by kernel_rfl, ?y10z21⟩) (by assumption) ?r10z21
        case y10z21 => (intro u hSu; (try dsimp only at hSu); go_simp; (try with_reducible rfl))
        try simp only [List.getElem_toArray, List.getElem_cons_succ, List.getElem_cons_zero, Act.put, List.setIfInBounds_toArray, List.set_cons_zero, List.set_cons_succ]
        refine wpAnyH_ready (rs := [12]) (by kernel_rfl) (by simp) ?_
        refine AllReadyH.cons (o := _) rfl (fun K hK => ?_) AllReadyH.nil
        obtain ⟨z0, z1, z2, y0, y1, y2⟩ := hz.use
        go_simp
        refine hK.out _ _ (((hHeld2.setCell (p := ⟨w7.heap.size, 0, none⟩) hge _).setCell (p := ⟨w7.heap.size, 1, none⟩) hge _).setCell (p := ⟨w7.heap.size, 2, none⟩) hge _) (fun hHeld => ?_)
        clear hK K z0 z1 z2 y0 y1 y2
        try simp only [List.getElem_toArray, List.getElem_cons_succ, List.getElem_cons_zero, Act.put, List.setIfInBounds_toArray, List.set_cons_zero, List.set_cons_succ]
        generalize hwb : World.setCell _ _ _ = w8 at hHeld ⊢
        have hx : WBox w8 w7.heap.size qb := by rw [← hwb]; exact hz.put3 qb
        clear hwb hz hHeld2 hge
        refine wpAnyH_take (i := 13) (oi := _) (v := ?v13z21) rfl (by kernel_rfl) (by kernel_rfl) (by kernel_rfl) (fun _ _ _ h => h) (Or.inl ⟨by kernel_rfl, ?y13z21⟩) (by assumption) ?r13z21
        case y13z21 => (intro u hSu; (try dsimp only at hSu); go_simp; (try with_reducible rfl))
        try simp only [List.getElem_toArray, List.getElem_cons_succ, List.getElem_cons_zero, Act.put, List.setIfInBounds_toArray, List.set_cons_zero, List.set_cons_succ]
        refine wpAnyH_take (i := 14) (oi := _) (v := ?v14z21) rfl (by kernel_rfl) (by kernel_rfl) (by kernel_rfl) (fun _ _ _ h => h) (Or.inl ⟨by kernel_rfl, ?y14z21⟩) (by assumption) ?r14z21
        case y14z21 => (intro u hSu; (try dsimp only at hSu); go_simp; (try with_reducible rfl))
        try simp only [List.getElem_toArray, List.getElem_cons_succ, List.getElem_cons_zero, Act.put, List.setIfInBounds_toArray, List.set_cons_zero, List.set_cons_succ]
        refine wpAnyH_done (by kernel_rfl) ?_ _
        refine NoPanic.normal ?_
        go_wp2_with fail
        go_meet
        exact ⟨w7.heap.size, rfl, rfl, Lib.hid hx, Lib.hid hHeld⟩
    case rest =>
    obtain ⟨b2, rfl, rfl, hx, hb⟩ := hcut
    have bb := hb.out
    rename World => w8
    have T8 := Lib.hid (T7.out.keep bb)
    have C8 := Lib.hid (C7.out.keep bb)
    have M8 := Lib.hid (M7.out.keep bb)
    have V8 := Lib.hid (V7.out.keep bb)
    have S8 := Lib.hid (S7.out.keep bb)
    have R8 := Lib.hid (R7.out.keep bb)
    have WA8 := Lib.hid (WA7.out.keep bb)
    have B8 := Lib.hid (below_then B7.out bb)
    have WB8 := Lib.hid hx.out
    clear bb T7 C7 M7 V7 S7 R7 WA7 B7
    clear hx hb
    try simp only [List.append_eq, List.cons_append, List.nil_append]
    have hL1 : 2048 ≤ N := by have := HFB.out; omega
    have hL2 : N ≤ 65536 := by have := HFB.out; omega
    have HC := Lib.hid (kind_new (i := i) (p := 32 + 8 * (i : Int)) M8.out (by omega) hL2 (by omega) (by omega))
    rw [num_lo hi1] at HC
    go_wp2_with (first | (refine wpList_vload (by rfl) _ rfl w3.heap.size k rfl V8.out ?_))
    refine (HC.out).mono ?_
    rintro e w9 ⟨rfl, bb⟩
    clear HC
    have T9 := Lib.hid (T8.out.keep bb)
    have C9 := Lib.hid (C8.out.keep bb)
    have M9 := Lib.hid (M8.out.keep bb)
    have V9 := Lib.hid (V8.out.keep bb)
    have S9 := Lib.hid (S8.out.keep bb)
    have R9 := Lib.hid (R8.out.keep bb)
    have WA9 := Lib.hid (WA8.out.keep bb)
    have WB9 := Lib.hid (WB8.out.keep bb)
    have B9 := Lib.hid (below_then B8.out bb)
    clear bb T8 C8 M8 V8 S8 R8 WA8 WB8 B8
    obtain ⟨cq0, cq1, cq2, cf0, cf1, cf2⟩ := WB9.out.use
    rw [HGB.out.2] at cq1
    clear cq0 cq2 cf0 cf1 cf2
    have HC := Lib.hid (kind_new (i := 130 + j) (p := ((32 + 8 * (130 + j) : Nat) : Int)) M9.out (by omega) hL2 (by omega) rfl)
    rw [num_hi (by omega), show ((170 + (130 + j) : Nat) : Int) = 300 + (j : Int) by omega] at HC
    go_wp2_with (first | (refine wpList_vload (by rfl) _ rfl w3.heap.size k rfl V9.out ?_))
    refine (HC.out).mono ?_
    rintro e w10 ⟨rfl, bb⟩
    clear HC
    clear cq1
    have T10 := Lib.hid (T9.out.keep bb)
    have C10 := Lib.hid (C9.out.keep bb)
    have M10 := Lib.hid (M9.out.keep bb)
    have V10 := Lib.hid (V9.out.keep bb)
    have S10 := Lib.hid (S9.out.keep bb)
    have R10 := Lib.hid (R9.out.keep bb)
    have WA10 := Lib.hid (WA9.out.keep bb)
    have WB10 := Lib.hid (WB9.out.keep bb)
    have B10 := Lib.hid (below_then B9.out bb)
    clear bb T9 C9 M9 V9 S9 R9 WA9 WB9 B9
    go_upto_region 15 with fail
    try simp only [List.append_eq, List.cons_append, List.nil_append]
    have hw0 : IntKind.i64.wrap 0 = 0 := by decide
    have hw1 : IntKind.i64.wrap (8 * (i : Int)) = 8 * (i : Int) := wrap_small (by omega) (by omega)
    have hw2 : IntKind.i64.wrap (32 + 8 * (i : Int)) = 32 + 8 * (i : Int) := wrap_small (by omega) (by omega)
    have hw3 : IntKind.i64.wrap (300 + (j : Int)) = 300 + (j : Int) := wrap_small (by omega) (by omega)
    by_cases h12 : 12 ≤ i
    · as_aux_lemma =>
        have hba : ba = true := by rw [HGA.out.1]; simp; omega
        have h13 : (12 : Int) ≤ (i : Int) := by omega
        subst hba
        have hl := M10.out.lens
        have edn : k.dn = 0 := hl.d.symm
        have ern : k.rn = 0 := hl.r.symm
        have efn : k.fn = 0 := hl.f.symm
        have eon : k.on = 0 := hl.o.symm
        have een : k.en = 0 := hl.e.symm
        have ehn : k.hn = 0 := hl.h.symm
        have ewn : k.wn = 167 := by have := hl.dict; rw [← this]; exact newW_len 167
        have ehe : k.here = 1368 := HS.out.here
        obtain ⟨_, cw1, _, _, _, _⟩ := WA10.out.use
        rw [HGA.out.2 h12] at cw1
        obtain ⟨pV0, pV1, pV2, pV3, pV4, pV5, pV6, pV7, pV8, pV9, pV10, pV11, pV12, pV13, pV14, pV15, pV16, pV17, pV18, pV19, pV20, pV21, pV22⟩ := V10.out.use
        rw [ehe] at pV7
        rw [edn] at pV8
        rw [ern] at pV9
        rw [efn] at pV10
        rw [ewn] at pV11
        rw [eon] at pV13
        rw [een] at pV16
        rw [ehn] at pV22
        have P7 := fun d os => cell_regrown pV7 d os
        have P8 := fun d os => cell_regrown pV8 d os
        have P9 := fun d os => cell_regrown pV9 d os
        have P10 := fun d os => cell_regrown pV10 d os
        have P11 := fun d os => cell_regrown pV11 d os
        have P13 := fun d os => cell_regrown pV13 d os
        have P16 := fun d os => cell_regrown pV16 d os
        have P22 := fun d os => cell_regrown pV22 d os
        have PA := fun d os => cell_regrown cw1 d os
        clear hl edn ern efn eon een ehn ewn ehe cw1 pV0 pV1 pV2 pV3 pV4 pV5 pV6 pV7 pV8 pV9 pV10 pV11 pV12 pV13 pV14 pV15 pV16 pV17 pV18 pV19 pV20 pV21 pV22
        have CR := Lib.hid (fun (u : World) (h : Below w10.heap.size w10 u) => rright_new (M10.out.keep h) HRN.out)
        refine wp_region_quiet_below (by kernel_rfl) (by kernel_rfl) ?_
        iterate 84 (first | go_big_quiet_skip | (go_big_quiet_want; first | (refine quiet_vload _ rfl w3.heap.size k rfl V10.out ?_; go_big_quiet_on; (try simp only [List.getElem_toArray, List.getElem_cons_succ, List.getElem_cons_zero, Act.put, List.setIfInBounds_toArray, List.set_cons_zero, List.set_cons_succ])) | (go_big_quiet_op; first | go_big_quiet_on | go_big_quiet_call (first | exact Calls.regrown_of (CR.out _ (below_regrown _ _ _)) | exact Calls.regrown_of (start_bel _)))))
        refine wpQuiet_nil ?_
        intro _ hw'
        obtain ⟨⟨dq, osq⟩, hw''⟩ := hw'
        subst hw''
        go_wp2_with fail
        go_ret
        exact ⟨by first | rfl | simp | (simp; omega), below_then B10.out (below_regrown w10 dq osq)⟩
    · as_aux_lemma =>
        have hba : ba = false := by rw [HGA.out.1]; simp; omega
        have h13 : decide ((12 : Int) ≤ (i : Int)) = false := decide_eq_false (by omega)
        subst hba
        have hl := M10.out.lens
        have edn : k.dn = 0 := hl.d.symm
        have ern : k.rn = 0 := hl.r.symm
        have efn : k.fn = 0 := hl.f.symm
        have eon : k.on = 0 := hl.o.symm
        have een : k.en = 0 := hl.e.symm
        have ehn : k.hn = 0 := hl.h.symm
        have ewn : k.wn = 167 := by have := hl.dict; rw [← this]; exact newW_len 167
        have ehe : k.here = 1368 := HS.out.here
        obtain ⟨_, cw1, _, _, _, _⟩ := WA10.out.use
        obtain ⟨pV0, pV1, pV2, pV3, pV4, pV5, pV6, pV7, pV8, pV9, pV10, pV11, pV12, pV13, pV14, pV15, pV16, pV17, pV18, pV19, pV20, pV21, pV22⟩ := V10.out.use
        rw [ehe] at pV7
        rw [edn] at pV8
        rw [ern] at pV9
        rw [efn] at pV10
        rw [ewn] at pV11
        rw [eon] at pV13
        rw [een] at pV16
        rw [ehn] at pV22
        have P7 := fun d os => cell_regrown pV7 d os
        have P8 := fun d os => cell_regrown pV8 d os
        have P9 := fun d os => cell_regrown pV9 d os
        have P10 := fun d os => cell_regrown pV10 d os
        have P11 := fun d os => cell_regrown pV11 d os
        have P13 := fun d os => cell_regrown pV13 d os
        have P16 := fun d os => cell_regrown pV16 d os
        have P22 := fun d os => cell_regrown pV22 d os
        have PA := fun d os => cell_regrown cw1 d os
        clear hl edn ern efn eon een ehn ewn ehe cw1 pV0 pV1 pV2 pV3 pV4 pV5 pV6 pV7 pV8 pV9 pV10 pV11 pV12 pV13 pV14 pV15 pV16 pV17 pV18 pV19 pV20 pV21 pV22
        have CR := Lib.hid (fun (u : World) (h : Below w10.heap.size w10 u) => rright_new (M10.out.keep h) HRN.out)
        refine wp_region_quiet_below (by kernel_rfl) (by kernel_rfl) ?_
        iterate 84 (first | go_big_quiet_skip | (go_big_quiet_want; first | (refine quiet_vload _ rfl w3.heap.size k rfl V10.out ?_; go_big_quiet_on; (try simp only [List.getElem_toArray, List.getElem_cons_succ, List.getElem_cons_zero, Act.put, List.setIfInBounds_toArray, List.set_cons_zero, List.set_cons_succ])) | (go_big_quiet_op; first | go_big_quiet_on | go_big_quiet_call (first | exact Calls.regrown_of (CR.out _ (below_regrown _ _ _)) | exact Calls.regrown_of (start_bel _)))))
        refine wpQuiet_nil ?_
        intro _ hw'
        obtain ⟨⟨dq, osq⟩, hw''⟩ := hw'
        subst hw''
        go_wp2_with fail
        go_ret
        exact ⟨by first | rfl | simp | (simp; omega), below_then B10.out (below_regrown w10 dq osq)⟩

theorem begins_u8 (m d r v o : Int) (a : Int) (w : World) (HT : Tab w) (ha : (Lit.int .u8 a).wf = true) : Calls Tryd.prog 3 #[.agg #[.int .i64 m, .int .i64 d, .int .i64 r, .int .i64 v, .int .i64 o], .int .u8 a] w fun e w' => e = .returned (.bool true) ∧ Below w.heap.size w w' := by
  have h : 0 ≤ a ∧ a ≤ 255 := by
    simp only [Lit.wf, IntKind.min, IntKind.max, IntKind.signed, IntKind.bits, Bool.and_eq_true, decide_eq_true_eq] at ha
    simpa using ha
  obtain ⟨b, rfl⟩ : ∃ b : Nat, a = (b : Int) := ⟨a.toNat, by omega⟩
  exact begins_any m d r v o b (by omega) w HT
end Go.Proofs.YtbighilgkmfemaaDoor
