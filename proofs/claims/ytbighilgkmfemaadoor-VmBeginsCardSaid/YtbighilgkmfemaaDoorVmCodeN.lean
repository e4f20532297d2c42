/- The contract of the program's New. -/
import Derived.Test.YtbighilgkmfemaaDoorVmWords
import Derived.Test.YtbighilgkmfemaaDoorVmFirstM
import Derived.Test.YtbighilgkmfemaaDoorVmUse
import Derived.Test.YtbighilgkmfemaaDoorVmCodeB
namespace Go.Proofs.YtbighilgkmfemaaDoor
open Go.RowKit
set_option linter.unusedVariables false
set_option linter.unusedSimpArgs false

theorem VBox.cell_is {w : World} {b : Nat} {k : VmK} (h : VBox w b k) {i : Nat} {v : Value} (hc : w.cell? ⟨b, i, none⟩ = some v) : v ∈ vmC k := by
  unfold VBox at h
  unfold World.cell? at hc
  rw [h] at hc
  exact Array.mem_of_getElem? hc
set_option maxRecDepth 100000 in
theorem VBox.no_u8 {w : World} {b : Nat} {k : VmK} (h : VBox w b k) {i : Nat} {x : Int} : w.cell? ⟨b, i, none⟩ ≠ some (.int .u8 x) := by
  intro hc
  have := h.cell_is hc
  simp at this
set_option maxRecDepth 100000 in
theorem VBox.no_str {w : World} {b : Nat} {k : VmK} (h : VBox w b k) {i : Nat} {x : ByteArray} : w.cell? ⟨b, i, none⟩ ≠ some (.string x) := by
  intro hc
  have := h.cell_is hc
  simp at this
theorem lies_row {w : World} {b : Nat} {A : Option Addr} {xs : List Value} (h : Lies w A xs) (cs : Array Value) (hb : ∀ i v, xs[0]? = some v → w.cell? ⟨b, i, none⟩ ≠ some v) : Lies (w.setRow b cs) A xs := by
  rcases h with h | ⟨g, o, e, hg, hc⟩
  · exact .inl h
  · cases hx : xs with
    | nil => exact .inl rfl
    | cons y ys =>
      right
      have h0 : xs[0]? = some y := by rw [hx]; rfl
      have hne : g ≠ b := by
        rintro rfl
        exact hb _ _ h0 (hc 0 y h0)
      refine ⟨g, o, e, by rw [size_setRow]; exact hg, fun j v hv => ?_⟩
      have := hc j v (by rw [hx]; exact hv)
      unfold World.cell? at this ⊢
      rw [setRow_other _ _ _ _ hne]
      exact this
theorem Byt.vrow {w : World} {b : Nat} {k : VmK} {v : Value} {l : List UInt8} (h : Byt w v l) (hb : VBox w b k) (cs : Array Value) : Byt (w.setRow b cs) v l := by
  obtain ⟨A, c, e, h1, h2, h3⟩ := h
  refine ⟨A, c, e, h1, h2, lies_row h3 cs fun i v hv => ?_⟩
  cases l with
  | nil => simp [u8s] at hv
  | cons x xs =>
    simp [u8s] at hv
    rw [← hv]
    exact hb.no_u8
theorem Wds.vrow {w : World} {b : Nat} {k : VmK} {v : Value} {l : List Wr} (h : Wds w v l) (hb : VBox w b k) (cs : Array Value) : Wds (w.setRow b cs) v l := by
  obtain ⟨A, c, e, h1, h2, h3⟩ := h
  refine ⟨A, c, e, h1, h2, lies_row h3 cs fun i v hv => ?_⟩
  cases l with
  | nil => simp [wds] at hv
  | cons x xs =>
    simp [wds, wcell] at hv
    rw [← hv]
    exact hb.no_str
/-- A new machine's letters. -/
def newJ (L : Nat) (d r v o : Int) (A1 : Option Addr) (c1 : Nat) (A2 : Option Addr) (c2 : Nat) : VmK := { vm0 with cm := (L : Int), cd := d, cr := r, cw := v, co := o, mA := A1, mn := L, mc := c1, here := 1368, wA := A2, wn := 167, wc := c2 }
/-- What New answers. -/
def NewOutJ (m d r v o : Int) (w : World) (e : Ending) (w' : World) : Prop :=
  (fitsB m d r v o = true → ∃ (L : Nat) (A1 : Option Addr) (c1 : Nat) (A2 : Option Addr) (c2 : Nat), m = (L : Int) ∧ e = .returned (.tuple #[vmV (newJ L d r v o A1 c1 A2 c2), .int .i64 0]) ∧ IsVm w' (newJ L d r v o A1 c1 A2 c2) (newL L)) ∧
  (fitsB m d r v o = false → e = .returned (.tuple #[vmV vm0, .int .i64 (-24)])) ∧ Below w.heap.size w w'
set_option maxRecDepth 100000 in
set_option maxHeartbeats 4000000 in
theorem new_no (m d r v o : Int) (w : World) (hfit : fitsB m d r v o = false) :
    Calls Tryd.prog 5 #[.agg #[.int .i64 m, .int .i64 d, .int .i64 r, .int .i64 v, .int .i64 o]] w fun e w' => e = .returned (.tuple #[vmV vm0, .int .i64 (-24)]) ∧ Below w.heap.size w w' := by
  have HF := Lib.hid (fits_any m d r v o)
  rw [hfit] at HF
  obtain ⟨k0, k1, k2⟩ := cv_new w m d r v o vm0 _ rfl
  have B0 := Lib.hid k0
  have X0 := Lib.hid k2
  clear k0 k1 k2 hfit
  go_enter Tryd.func5, Tryd.ntmps5
  go_wp2_with fail
  refine (HF.out _).mono ?_
  rintro e w1 ⟨rfl, bb⟩
  have B1 := Lib.hid (below_then B0.out bb)
  have X1 := Lib.hid (X0.out.keep bb)
  clear bb B0 X0 HF
  go_wp2_with (refine wpList_store_row rfl 37 _ _ rfl (w.heap.size + 1) (vmC vm0) rfl rfl _ _ X1.out (by kernel_rfl) rfl (vm_one _) ?_)
  refine bodyPost_ret (res_ct rfl _ _ _ _ rfl (vrow X1.out vm0)) rfl ?_
  exact ⟨rfl, below_setRow B1.out (by omega) _⟩
set_option maxRecDepth 100000 in
set_option maxHeartbeats 4000000 in
theorem new_yes2 (L : Nat) (d r v o : Int) (w : World) (HT : Tab w) (hfit : fitsB (L : Int) d r v o = true) :
    Calls Tryd.prog 5 #[.agg #[.int .i64 (L : Int), .int .i64 d, .int .i64 r, .int .i64 v, .int .i64 o]] w fun e w' => ∃ A1 c1 A2 c2, e = .returned (.tuple #[vmV (newJ L d r v o A1 c1 A2 c2), .int .i64 0]) ∧ IsVm w' (newJ L d r v o A1 c1 A2 c2) (newL L) ∧ Below w.heap.size w w' := by
  have hf := (fits_iff (L : Int) d r v o).1 hfit
  have HF := Lib.hid (fits_any (L : Int) d r v o)
  rw [hfit] at HF
  have HC1 : Hid (∀ u, Calls Tryd.prog 21 #[.int .i64 (L : Int)] u fun e w' => ∃ A c, e = .returned (.agg #[.slice A L c, .slice none 0 0]) ∧ IsMem w' (.agg #[.slice A L c, .slice none 0 0]) (rowN L 167, []) ∧ Below u.heap.size u w') := fun u => firstmem_any L u (by omega) (by omega) (by omega)
  have HC2 : Hid (∀ u, Tab u → Calls Tryd.prog 22 #[.int .i64 v] u fun e w' => ∃ A c, e = .returned (.slice A 167 c) ∧ Wds w' (.slice A 167 c) (newW 167) ∧ Below u.heap.size u w') := fun u hu => firstwords_any v u hu (by omega)
  obtain ⟨k0, k1, k2⟩ := cv_new w (L : Int) d r v o vm0 _ rfl
  have T0 := Lib.hid (HT.keep k0)
  have B0 := Lib.hid k0
  have C0 := Lib.hid k1
  have X0 := Lib.hid k2
  clear k0 k1 k2 hfit hf HT
  go_enter Tryd.func5, Tryd.ntmps5
  go_wp2_with fail
  refine (HF.out _).mono ?_
  rintro e w1 ⟨rfl, bb⟩
  have B1 := Lib.hid (below_then B0.out bb)
  have X1 := Lib.hid (X0.out.keep bb)
  have C1 := Lib.hid (C0.out.keep bb)
  have T1 := Lib.hid (T0.out.keep bb)
  clear bb B0 X0 C0 T0 HF
  go_upto_region 3 with fail
  have B2 : Hid (Below w.heap.size w w1.drew) := B1.out.drew
  have X2 : Hid (VBox w1.drew (w.heap.size + 1) vm0) := X1.out
  have C2 : Hid (CBox w1.drew w.heap.size (L : Int) d r v o) := C1.out
  have T2 : Hid (Tab w1.drew) := T1.out.keep (drew_belw _)
  refine wp_region_noPanic ?_
  refine wp_region_held_drew (S := fun a => CBox a w.heap.size (L : Int) d r v o) (by kernel_rfl) ?_ (fun hHeld => ?_)
  · exact C2.out
  generalize World.drew _ = U at hHeld B2 X2 C2 T2 ⊢
  clear B1 X1 C1 T1 C2
  (refine wpAnyH_take (i := 1) (oi := _) (v := ?v1) rfl (by kernel_rfl) (by kernel_rfl) (by kernel_rfl) (fun _ _ _ h => h) (Or.inl ⟨by kernel_rfl, ?y1⟩) (by assumption) ?r1; case y1 => (intro u hSu; (obtain ⟨q0, q1, q2, q3, q4⟩ := hSu.use); go_simp; (try with_reducible rfl))); (try simp only [List.getElem_toArray, List.getElem_cons_succ, List.getElem_cons_zero, Act.put, List.setIfInBounds_toArray, List.set_cons_zero, List.set_cons_succ])
  (refine wpAnyH_take (i := 4) (oi := _) (v := ?v4) rfl (by kernel_rfl) (by kernel_rfl) (by kernel_rfl) (fun _ _ _ h => h) (Or.inl ⟨by kernel_rfl, ?y4⟩) (by assumption) ?r4; case y4 => (intro u hSu; (obtain ⟨q0, q1, q2, q3, q4⟩ := hSu.use); go_simp; (try with_reducible rfl))); (try simp only [List.getElem_toArray, List.getElem_cons_succ, List.getElem_cons_zero, Act.put, List.setIfInBounds_toArray, List.set_cons_zero, List.set_cons_succ])
  (refine wpAnyH_take (i := 0) (oi := _) (v := ?v0) rfl (by kernel_rfl) (by kernel_rfl) (by kernel_rfl) (fun _ _ _ h => h) (Or.inl ⟨by kernel_rfl, ?y0⟩) (by assumption) ?r0; case y0 => (intro u hSu; (obtain ⟨q0, q1, q2, q3, q4⟩ := hSu.use); go_simp; (try with_reducible rfl))); (try simp only [List.getElem_toArray, List.getElem_cons_succ, List.getElem_cons_zero, Act.put, List.setIfInBounds_toArray, List.set_cons_zero, List.set_cons_succ])
  (refine wpAnyH_take (i := 2) (oi := _) (v := ?v2) rfl (by kernel_rfl) (by kernel_rfl) (by kernel_rfl) (fun _ _ _ h => h) (Or.inl ⟨by kernel_rfl, ?y2⟩) (by assumption) ?r2; case y2 => (intro u hSu; (obtain ⟨q0, q1, q2, q3, q4⟩ := hSu.use); go_simp; (try with_reducible rfl))); (try simp only [List.getElem_toArray, List.getElem_cons_succ, List.getElem_cons_zero, Act.put, List.setIfInBounds_toArray, List.set_cons_zero, List.set_cons_succ])
  (refine wpAnyH_take (i := 5) (oi := _) (v := ?v5) rfl (by kernel_rfl) (by kernel_rfl) (by kernel_rfl) (fun _ _ _ h => h) (Or.inl ⟨by kernel_rfl, ?y5⟩) (by assumption) ?r5; case y5 => (intro u hSu; (obtain ⟨q0, q1, q2, q3, q4⟩ := hSu.use); go_simp; (try with_reducible rfl))); (try simp only [List.getElem_toArray, List.getElem_cons_succ, List.getElem_cons_zero, Act.put, List.setIfInBounds_toArray, List.set_cons_zero, List.set_cons_succ])
  refine wpAnyH_ready (rs := [3]) (by kernel_rfl) (by simp) ?_
  refine AllReadyH.cons (o := _) rfl (fun K hK => ?_) AllReadyH.nil
  go_simp
  refine (HC1.out _).mono ?_
  rintro e w3 ⟨A1, c1, rfl, hm, bb⟩
  have hc3 := hHeld.keep bb
  have M3 := Lib.hid hm
  have B3 := Lib.hid (below_then B2.out bb)
  have X3 := Lib.hid (X2.out.keep bb)
  have T3 := Lib.hid (T2.out.keep bb)
  clear hm bb B2 X2 T2 hHeld
  go_wp2_with fail
  refine hK.out _ _ hc3 (fun hHeld => ?_)
  clear hK K hc3
  try try simp only [List.getElem_toArray, List.getElem_cons_succ, List.getElem_cons_zero, Act.put, List.setIfInBounds_toArray, List.set_cons_zero, List.set_cons_succ]
  refine wpAnyH_ready (rs := [6]) (by kernel_rfl) (by simp) ?_
  refine AllReadyH.cons (o := _) rfl (fun K hK => ?_) AllReadyH.nil
  go_simp
  refine (HC2.out _ T3.out).mono ?_
  rintro e w4 ⟨A2, c2, rfl, hw, bb⟩
  have hc4 := hHeld.keep bb
  have M4 := Lib.hid (M3.out.keep bb)
  have W4 := Lib.hid hw
  have B4 := Lib.hid (below_then B3.out bb)
  have X4 := Lib.hid (X3.out.keep bb)
  clear hw bb B3 X3 T3 M3 hHeld
  go_wp2_with fail
  refine hK.out _ _ hc4 (fun hHeld => ?_)
  clear hK K hc4
  try try simp only [List.getElem_toArray, List.getElem_cons_succ, List.getElem_cons_zero, Act.put, List.setIfInBounds_toArray, List.set_cons_zero, List.set_cons_succ]
  (refine wpAnyH_take (i := 7) (oi := _) (v := ?v7) rfl (by kernel_rfl) (by kernel_rfl) (by kernel_rfl) (fun _ _ _ h => h) (Or.inl ⟨by kernel_rfl, ?y7⟩) (by assumption) ?r7; case y7 => (intro u hSu; (obtain ⟨q0, q1, q2, q3, q4⟩ := hSu.use); go_simp; (try with_reducible rfl))); (try simp only [List.getElem_toArray, List.getElem_cons_succ, List.getElem_cons_zero, Act.put, List.setIfInBounds_toArray, List.set_cons_zero, List.set_cons_succ])
  refine wpAnyH_ready (rs := [8]) (by kernel_rfl) (by simp) ?_
  refine AllReadyH.cons (o := _) rfl (fun K hK => ?_) AllReadyH.nil
  refine step_vstore rfl _ _ rfl (w.heap.size + 1) vm0 (newJ L d r v o A1 c1 A2 c2) rfl rfl X4.out ?_
  have hb3 := vrow X4.out (newJ L d r v o A1 c1 A2 c2)
  have hc5 : CBox (w4.setRow (w.heap.size + 1) (vmC (newJ L d r v o A1 c1 A2 c2))) w.heap.size (L : Int) d r v o := by
    unfold CBox at hHeld ⊢
    rw [setRow_other _ _ _ _ (by omega)]
    exact hHeld
  refine hK.out _ _ hc5 (fun hHeld => ?_)
  clear hK K hc5
  try try simp only [List.getElem_toArray, List.getElem_cons_succ, List.getElem_cons_zero, Act.put, List.setIfInBounds_toArray, List.set_cons_zero, List.set_cons_succ]
  (refine wpAnyH_take (i := 9) (oi := _) (v := ?v9) rfl (by kernel_rfl) (by kernel_rfl) (by kernel_rfl) (fun _ _ _ h => h) (Or.inl ⟨by kernel_rfl, ?y9⟩) (by assumption) ?r9; case y9 => (intro u hSu; (obtain ⟨q0, q1, q2, q3, q4⟩ := hSu.use); go_simp; (try with_reducible rfl))); (try simp only [List.getElem_toArray, List.getElem_cons_succ, List.getElem_cons_zero, Act.put, List.setIfInBounds_toArray, List.set_cons_zero, List.set_cons_succ])
  refine wpAnyH_done (by kernel_rfl) ?_ _
  refine NoPanic.normal ?_
  go_wp2_with fail
  refine bodyPost_ret (res_ct rfl _ _ _ _ rfl hb3) rfl ⟨A1, c1, A2, c2, rfl, ?_, below_setRow B4.out (by omega) _⟩
  obtain ⟨x, y, e, h1, h2⟩ := M4.out
  injection e with e
  injection e with e
  injection e with e1 e2
  subst e1
  exact ⟨mem_mk (h1.vrow X4.out _) (pats_nil _), row_nil _, row_nil _, rws_nil _ _, W4.out.vrow X4.out _, byt_nil _, byt_nil _, rws_nil _ _, rws_nil _ _⟩
theorem new_any2 (m d r v o : Int) (w : World) (HT : Tab w) : Calls Tryd.prog 5 #[.agg #[.int .i64 m, .int .i64 d, .int .i64 r, .int .i64 v, .int .i64 o]] w (NewOutJ m d r v o w) := by
  cases h : fitsB m d r v o with
  | false =>
    refine (new_no m d r v o w h).mono ?_
    rintro e w1 ⟨rfl, b⟩
    exact ⟨fun e => absurd (h.symm.trans e) (by decide), fun _ => rfl, b⟩
  | true =>
    have hf := (fits_iff m d r v o).1 h
    obtain ⟨L, rfl⟩ : ∃ L : Nat, m = (L : Int) := ⟨m.toNat, by omega⟩
    refine (new_yes2 L d r v o w HT h).mono ?_
    rintro e w1 ⟨A1, c1, A2, c2, rfl, hv, b⟩
    exact ⟨fun _ => ⟨L, A1, c1, A2, c2, rfl, rfl, hv⟩, fun e => absurd (h.symm.trans e) (by decide), b⟩
end Go.Proofs.YtbighilgkmfemaaDoor
