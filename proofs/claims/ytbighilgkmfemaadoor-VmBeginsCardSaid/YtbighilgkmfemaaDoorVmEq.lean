/- slices.Equal at numbers, frames, what is asked for, and handlers. -/
import Derived.Test.YtbighilgkmfemaaDoorVmRows
import Derived.Test.YtbighilgkmfemaaDoorSetE
import Derived.Shelf.SlicesQ.Equal
import Derived.Shelf.SlicesE.Equal
import Derived.WalkSpells
import Derived.Laws.StructEq
namespace Go.Proofs
open Go.Shelf Go.Lib
def Tryd.ieq_ren : Go.Shelf.Ren := ⟨fun | 33 => 42 | n => n, fun | 0 => 0 | 3 => 3 | 4 => 4 | 22 => 29 | 23 => 3 | n => n, fun n => n⟩
theorem Tryd.ieq_lays : Go.Proofs.SlLaysE.n33 Tryd.prog Tryd.ieq_ren := {
  mixed := by kernel_rfl
  f33 := ⟨"slices.Equal[[]int,int]", by decide, Tryd.func42.trans (congrArg some (by kernel_rfl))⟩
  t0 := Tryd.underlying0
  a0 := Tryd.isAgg0
  z0 := Tryd.sizeOf0
  v0 := Tryd.zeroValue0
  t3 := Tryd.underlying3
  a3 := Tryd.isAgg3
  z3 := Tryd.sizeOf3
  v3 := Tryd.zeroValue3
  t4 := Tryd.underlying4
  a4 := Tryd.isAgg4
  z4 := Tryd.sizeOf4
  v4 := Tryd.zeroValue4
  t22 := Tryd.underlying29
  a22 := Tryd.isAgg29
  z22 := Tryd.sizeOf29
  v22 := Tryd.zeroValue29
  a23 := Tryd.isAgg3
  z23 := Tryd.sizeOf3 }
end Go.Proofs
namespace Go.Proofs
open Go.Shelf Go.Lib
def Tryd.fmeq_ren : Go.Shelf.Ren := ⟨fun | 8 => 43 | n => n, fun | 0 => 0 | 3 => 3 | 4 => 4 | 22 => 30 | 24 => 73 | n => n, fun n => n⟩
theorem Tryd.fmeq_lays : Go.Proofs.SlLaysQ.n8 Tryd.prog Tryd.fmeq_ren := {
  mixed := by kernel_rfl
  f8 := ⟨"slices.Equal[[]detent/api.Frame,detent/api.Frame]", by decide, Tryd.func43.trans (congrArg some (by kernel_rfl))⟩
  t0 := Tryd.underlying0
  a0 := Tryd.isAgg0
  z0 := Tryd.sizeOf0
  v0 := Tryd.zeroValue0
  t3 := Tryd.underlying3
  a3 := Tryd.isAgg3
  z3 := Tryd.sizeOf3
  v3 := Tryd.zeroValue3
  t4 := Tryd.underlying4
  a4 := Tryd.isAgg4
  z4 := Tryd.sizeOf4
  v4 := Tryd.zeroValue4
  t22 := Tryd.underlying30
  a22 := Tryd.isAgg30
  z22 := Tryd.sizeOf30
  v22 := Tryd.zeroValue30 }
end Go.Proofs
namespace Go.Proofs
open Go.Shelf Go.Lib
def Tryd.rqeq_ren : Go.Shelf.Ren := ⟨fun | 8 => 45 | n => n, fun | 0 => 0 | 3 => 3 | 4 => 4 | 22 => 34 | 24 => 93 | n => n, fun n => n⟩
theorem Tryd.rqeq_lays : Go.Proofs.SlLaysQ.n8 Tryd.prog Tryd.rqeq_ren := {
  mixed := by kernel_rfl
  f8 := ⟨"slices.Equal[[]detent/api.Req,detent/api.Req]", by decide, Tryd.func45.trans (congrArg some (by kernel_rfl))⟩
  t0 := Tryd.underlying0
  a0 := Tryd.isAgg0
  z0 := Tryd.sizeOf0
  v0 := Tryd.zeroValue0
  t3 := Tryd.underlying3
  a3 := Tryd.isAgg3
  z3 := Tryd.sizeOf3
  v3 := Tryd.zeroValue3
  t4 := Tryd.underlying4
  a4 := Tryd.isAgg4
  z4 := Tryd.sizeOf4
  v4 := Tryd.zeroValue4
  t22 := Tryd.underlying34
  a22 := Tryd.isAgg34
  z22 := Tryd.sizeOf34
  v22 := Tryd.zeroValue34 }
end Go.Proofs
namespace Go.Proofs
open Go.Shelf Go.Lib
def Tryd.hneq_ren : Go.Shelf.Ren := ⟨fun | 8 => 46 | n => n, fun | 0 => 0 | 3 => 3 | 4 => 4 | 22 => 35 | 24 => 75 | n => n, fun n => n⟩
theorem Tryd.hneq_lays : Go.Proofs.SlLaysQ.n8 Tryd.prog Tryd.hneq_ren := {
  mixed := by kernel_rfl
  f8 := ⟨"slices.Equal[[]detent/api.Hand,detent/api.Hand]", by decide, Tryd.func46.trans (congrArg some (by kernel_rfl))⟩
  t0 := Tryd.underlying0
  a0 := Tryd.isAgg0
  z0 := Tryd.sizeOf0
  v0 := Tryd.zeroValue0
  t3 := Tryd.underlying3
  a3 := Tryd.isAgg3
  z3 := Tryd.sizeOf3
  v3 := Tryd.zeroValue3
  t4 := Tryd.underlying4
  a4 := Tryd.isAgg4
  z4 := Tryd.sizeOf4
  v4 := Tryd.zeroValue4
  t22 := Tryd.underlying35
  a22 := Tryd.isAgg35
  z22 := Tryd.sizeOf35
  v22 := Tryd.zeroValue35 }
end Go.Proofs
namespace Go.Proofs.YtbighilgkmfemaaDoor
open Go.RowKit Go.Lib Go.Shelf
set_option linter.unusedVariables false
set_option linter.unusedSimpArgs false
theorem allEq_dec {α : Type} [DecidableEq α] (a b : List α) : Lib.allEq (fun x y : α => decide (x = y)) a b = decide (a = b) := by
  induction a generalizing b with
  | nil => cases b <;> simp [Lib.allEq]
  | cons x a ih =>
    cases b with
    | nil => simp [Lib.allEq]
    | cons y b => simp [Lib.allEq, ih]
theorem neq_intD (T : TypeId) : NeqAt Tryd.prog T (Value.int .i64) (fun x y => decide (x = y)) := ⟨fun x y w => by rw [(NeqAt.int Tryd.prog T .i64).1 x y w]; by_cases h : x = y <;> simp [h], .int Tryd.prog T .i64⟩
theorem drewN_below3 (w : World) (n : Nat) : Below w.heap.size w (w.drewN n) := ⟨rfl, rfl, rfl, Nat.le_refl _, fun _ _ => rfl⟩
set_option maxRecDepth 100000 in
set_option maxHeartbeats 4000000 in
theorem iequal_any (A A' : Option Addr) (n c n' c' : Nat) (a b : List Int) (w : World) (h : Row w A n c a) (h' : Row w A' n' c' b) (ha : n ≤ 1000000) :
    Calls Tryd.prog 42 #[.slice A n c, .slice A' n' c'] w fun e w' => e = .returned (.bool (sameB a b)) ∧ Below w.heap.size w w' := by
  have ea : a.length = n := h.1
  have eb : b.length = n' := h'.1
  subst ea eb
  by_cases hl : a.length = b.length
  · by_cases h0 : a.length = 0
    · have e1 : a = [] := List.eq_nil_of_length_eq_zero h0
      have e2 : b = [] := List.eq_nil_of_length_eq_zero (by omega)
      subst e1 e2
      have H : Hid (sameB ([] : List Int) [] = true) := by show _ = _; unfold sameB; simp
      rw [H.out]
      clear h h' hl h0 ha
      go_enter Tryd.func42, Tryd.ntmps42
      go_wp2_with fail
      refine wp_loop_rounds 1 ?_
      iterate 1 (rw [rounds_succ]; go_wp2_with fail)
      go_ret
      exact ⟨rfl, Below.refl _ _⟩
    · obtain ⟨g, o, hA, _, hc⟩ := h.cells (by omega)
      obtain ⟨g', o', hA', _, hc'⟩ := h'.cells (by omega)
      subst hA hA'
      have hz := AnyE.slices_Equal Tryd.ieq_lays (Value.int .i64) (fun x y => decide (x = y)) (neq_intD 3) g o a.length c g' o' b.length c' a b w (Nat.le_refl _) (Nat.le_refl _) (by omega) (by omega) (fun j hj => by rw [hc j hj, List.getD_eq_getElem?_getD, List.getElem?_eq_getElem hj, getElem!_pos a j hj]; rfl) (fun j hj => by rw [hc' j hj, List.getD_eq_getElem?_getD, List.getElem?_eq_getElem hj, getElem!_pos b j hj]; rfl)
      refine Calls.mono hz ?_
      rintro e w1 ⟨he, q, hw⟩
      rw [List.take_length, List.take_length, allEq_dec] at he
      exact ⟨he, by rw [hw]; exact drewN_below3 w q⟩
  · have H : Hid (sameB a b = false) := by show _ = _; unfold sameB; simp; intro e; rw [e] at hl; exact hl rfl
    rw [H.out]
    have hl' : ((a.length : Int) != (b.length : Int)) = true := by simp; omega
    have hl2 : ((a.length : Int) == (b.length : Int)) = false := by simp; omega
    have hl3 : ¬ (a.length : Int) = (b.length : Int) := by omega
    clear h h' hl ha
    go_enter Tryd.func42, Tryd.ntmps42
    go_wp2_with fail
    go_ret
    exact ⟨rfl, Below.refl _ _⟩
instance : Inhabited Fm := ⟨⟨0, 0, 0⟩⟩
theorem fmneq : NeqAt Tryd.prog 73 (fun q : Fm => .agg (fmE q).toArray) (fun x y => decide (x = y)) := by
  refine ⟨fun x y w => ?_, GuardAt.agg _ (by kernel_rfl)⟩
  have u3 := Tryd.underlying3
  have a3 := Tryd.isAgg3
  have z3 := Tryd.sizeOf3
  have u4 := Tryd.underlying4
  have a4 := Tryd.isAgg4
  have z4 := Tryd.sizeOf4
  have hS : Tryd.prog.underlying 73 = some (.struct (Tryd.prog.fieldsOf 73)) := by kernel_rfl
  have hp : Tryd.prog.stoodInHeld 73 = false := by kernel_rfl
  simp only [fmE]
  rw [run_neq_struct, show (10000 : Nat) = 9999 + 1 from rfl, run_equalIn_agg w 9999 73 _ _ hS hp]
  simp only [Program.fieldsOf, Tryd.underlying73]
  by_cases h0 : x.d = y.d
  · skip
    by_cases h1 : x.r = y.r
    · skip
      by_cases h2 : x.ip = y.ip
      · skip
        have e : x = y := by cases x; cases y; simp_all
        subst e
        go_simp
      · have e : ¬ x = y := fun e => h2 (by rw [e])
        go_simp
    · have e : ¬ x = y := fun e => h1 (by rw [e])
      go_simp
  · have e : ¬ x = y := fun e => h0 (by rw [e])
    go_simp
theorem fmE_len (q : Fm) : (fmE q).length = 3 := rfl
set_option maxRecDepth 100000 in
set_option maxHeartbeats 4000000 in
theorem fmequal_any (A A' : Option Addr) (n c n' c' : Nat) (a b : List Fm) (w : World) (h : Fms w (.slice A n c) a) (h' : Fms w (.slice A' n' c') b) (ha : n ≤ 1000000) :
    Calls Tryd.prog 43 #[.slice A n c, .slice A' n' c'] w fun e w' => e = .returned (.bool (fmSame a b)) ∧ Below w.heap.size w w' := by
  have ea : a.length = n := h.len
  have eb : b.length = n' := h'.len
  subst ea eb
  by_cases hl : a.length = b.length
  · by_cases h0 : a.length = 0
    · have e1 : a = [] := List.eq_nil_of_length_eq_zero h0
      have e2 : b = [] := List.eq_nil_of_length_eq_zero (by omega)
      subst e1 e2
      have H : Hid (fmSame ([] : List Fm) [] = true) := by show _ = _; unfold fmSame; simp
      rw [H.out]
      clear h h' hl h0 ha
      go_enter Tryd.func43, Tryd.ntmps43
      go_wp2_with fail
      refine wp_loop_rounds 1 ?_
      iterate 1 (rw [rounds_succ]; go_wp2_with fail)
      go_ret
      exact ⟨rfl, Below.refl _ _⟩
    · obtain ⟨g, o, hA, _, hc⟩ := Rws.cell (s := 3) (fun _ => rfl) (by decide) h (k := 0) (by omega)
      obtain ⟨g', o', hA', _, hc'⟩ := Rws.cell (s := 3) (fun _ => rfl) (by decide) h' (k := 0) (by omega)
      subst hA hA'
      have hcell : ∀ {g o : Nat} {l : List Fm} {c : Nat}, Fms w (.slice (some ⟨g, o, none⟩) l.length c) l → ∀ j, j < l.length → ∀ i v, (fmE l[j]!)[i]? = some v → w.cell? ⟨g, o + j * 3 + i, none⟩ = some v := by
        intro g o l c h j hj i v hv
        obtain ⟨g2, o2, e, _, hc⟩ := Rws.cell (s := 3) (fun _ => rfl) (by decide) h hj
        injection e with e
        injection e with e1 e2
        subst e1 e2
        rw [getElem!_pos l j hj] at hv
        have hi : i < 3 := by have := (List.getElem?_eq_some_iff.1 hv).1; simpa [fmE] using this
        rw [Nat.add_assoc]
        exact hc i v hi hv
      have hz := AnyQ.slices_Equal Tryd.fmeq_lays 3 Tryd.isAgg73 Tryd.sizeOf73 fmE fmE_len _ fmneq g o a.length c g' o' b.length c' a b w (Nat.le_refl _) (Nat.le_refl _) (by omega) (by omega) (hcell h) (hcell h')
      refine Calls.mono hz ?_
      rintro e w1 ⟨he, q, hw⟩
      rw [List.take_length, List.take_length, allEq_dec] at he
      exact ⟨he, by rw [hw]; exact drewN_below3 w q⟩
  · have H : Hid (fmSame a b = false) := by show _ = _; unfold fmSame; simp; intro e; rw [e] at hl; exact hl rfl
    rw [H.out]
    have hl' : ((a.length : Int) != (b.length : Int)) = true := by simp; omega
    have hl2 : ((a.length : Int) == (b.length : Int)) = false := by simp; omega
    have hl3 : ¬ (a.length : Int) = (b.length : Int) := by omega
    clear h h' hl ha
    go_enter Tryd.func43, Tryd.ntmps43
    go_wp2_with fail
    go_ret
    exact ⟨rfl, Below.refl _ _⟩
instance : Inhabited Rq := ⟨⟨0, 0, 0, 0, 0, 0⟩⟩
theorem rqneq : NeqAt Tryd.prog 93 (fun q : Rq => .agg (rqE q).toArray) (fun x y => decide (x = y)) := by
  refine ⟨fun x y w => ?_, GuardAt.agg _ (by kernel_rfl)⟩
  have u3 := Tryd.underlying3
  have a3 := Tryd.isAgg3
  have z3 := Tryd.sizeOf3
  have u4 := Tryd.underlying4
  have a4 := Tryd.isAgg4
  have z4 := Tryd.sizeOf4
  have hS : Tryd.prog.underlying 93 = some (.struct (Tryd.prog.fieldsOf 93)) := by kernel_rfl
  have hp : Tryd.prog.stoodInHeld 93 = false := by kernel_rfl
  simp only [rqE]
  rw [run_neq_struct, show (10000 : Nat) = 9999 + 1 from rfl, run_equalIn_agg w 9999 93 _ _ hS hp]
  simp only [Program.fieldsOf, Tryd.underlying93]
  by_cases h0 : x.kind = y.kind
  · skip
    by_cases h1 : x.arg = y.arg
    · skip
      by_cases h2 : x.hand = y.hand
      · skip
        by_cases h3 : x.rank = y.rank
        · skip
          by_cases h4 : x.delay = y.delay
          · skip
            by_cases h5 : x.id = y.id
            · skip
              have e : x = y := by cases x; cases y; simp_all
              subst e
              go_simp
            · have e : ¬ x = y := fun e => h5 (by rw [e])
              go_simp
          · have e : ¬ x = y := fun e => h4 (by rw [e])
            go_simp
        · have e : ¬ x = y := fun e => h3 (by rw [e])
          go_simp
      · have e : ¬ x = y := fun e => h2 (by rw [e])
        go_simp
    · have e : ¬ x = y := fun e => h1 (by rw [e])
      go_simp
  · have e : ¬ x = y := fun e => h0 (by rw [e])
    go_simp
theorem rqE_len (q : Rq) : (rqE q).length = 6 := rfl
set_option maxRecDepth 100000 in
set_option maxHeartbeats 4000000 in
theorem rqequal_any (A A' : Option Addr) (n c n' c' : Nat) (a b : List Rq) (w : World) (h : Rqs w (.slice A n c) a) (h' : Rqs w (.slice A' n' c') b) (ha : n ≤ 1000000) :
    Calls Tryd.prog 45 #[.slice A n c, .slice A' n' c'] w fun e w' => e = .returned (.bool (rqSame a b)) ∧ Below w.heap.size w w' := by
  have ea : a.length = n := h.len
  have eb : b.length = n' := h'.len
  subst ea eb
  by_cases hl : a.length = b.length
  · by_cases h0 : a.length = 0
    · have e1 : a = [] := List.eq_nil_of_length_eq_zero h0
      have e2 : b = [] := List.eq_nil_of_length_eq_zero (by omega)
      subst e1 e2
      have H : Hid (rqSame ([] : List Rq) [] = true) := by show _ = _; unfold rqSame; simp
      rw [H.out]
      clear h h' hl h0 ha
      go_enter Tryd.func45, Tryd.ntmps45
      go_wp2_with fail
      refine wp_loop_rounds 1 ?_
      iterate 1 (rw [rounds_succ]; go_wp2_with fail)
      go_ret
      exact ⟨rfl, Below.refl _ _⟩
    · obtain ⟨g, o, hA, _, hc⟩ := Rws.cell (s := 6) (fun _ => rfl) (by decide) h (k := 0) (by omega)
      obtain ⟨g', o', hA', _, hc'⟩ := Rws.cell (s := 6) (fun _ => rfl) (by decide) h' (k := 0) (by omega)
      subst hA hA'
      have hcell : ∀ {g o : Nat} {l : List Rq} {c : Nat}, Rqs w (.slice (some ⟨g, o, none⟩) l.length c) l → ∀ j, j < l.length → ∀ i v, (rqE l[j]!)[i]? = some v → w.cell? ⟨g, o + j * 6 + i, none⟩ = some v := by
        intro g o l c h j hj i v hv
        obtain ⟨g2, o2, e, _, hc⟩ := Rws.cell (s := 6) (fun _ => rfl) (by decide) h hj
        injection e with e
        injection e with e1 e2
        subst e1 e2
        rw [getElem!_pos l j hj] at hv
        have hi : i < 6 := by have := (List.getElem?_eq_some_iff.1 hv).1; simpa [rqE] using this
        rw [Nat.add_assoc]
        exact hc i v hi hv
      have hz := AnyQ.slices_Equal Tryd.rqeq_lays 6 Tryd.isAgg93 Tryd.sizeOf93 rqE rqE_len _ rqneq g o a.length c g' o' b.length c' a b w (Nat.le_refl _) (Nat.le_refl _) (by omega) (by omega) (hcell h) (hcell h')
      refine Calls.mono hz ?_
      rintro e w1 ⟨he, q, hw⟩
      rw [List.take_length, List.take_length, allEq_dec] at he
      exact ⟨he, by rw [hw]; exact drewN_below3 w q⟩
  · have H : Hid (rqSame a b = false) := by show _ = _; unfold rqSame; simp; intro e; rw [e] at hl; exact hl rfl
    rw [H.out]
    have hl' : ((a.length : Int) != (b.length : Int)) = true := by simp; omega
    have hl2 : ((a.length : Int) == (b.length : Int)) = false := by simp; omega
    have hl3 : ¬ (a.length : Int) = (b.length : Int) := by omega
    clear h h' hl ha
    go_enter Tryd.func45, Tryd.ntmps45
    go_wp2_with fail
    go_ret
    exact ⟨rfl, Below.refl _ _⟩
instance : Inhabited Hn := ⟨⟨0, 0, 0, false⟩⟩
theorem hnneq : NeqAt Tryd.prog 75 (fun q : Hn => .agg (hnE q).toArray) (fun x y => decide (x = y)) := by
  refine ⟨fun x y w => ?_, GuardAt.agg _ (by kernel_rfl)⟩
  have u3 := Tryd.underlying3
  have a3 := Tryd.isAgg3
  have z3 := Tryd.sizeOf3
  have u4 := Tryd.underlying4
  have a4 := Tryd.isAgg4
  have z4 := Tryd.sizeOf4
  have hS : Tryd.prog.underlying 75 = some (.struct (Tryd.prog.fieldsOf 75)) := by kernel_rfl
  have hp : Tryd.prog.stoodInHeld 75 = false := by kernel_rfl
  simp only [hnE]
  rw [run_neq_struct, show (10000 : Nat) = 9999 + 1 from rfl, run_equalIn_agg w 9999 75 _ _ hS hp]
  simp only [Program.fieldsOf, Tryd.underlying75]
  by_cases h0 : x.xt = y.xt
  · skip
    by_cases h1 : x.fuel = y.fuel
    · skip
      by_cases h2 : x.strikes = y.strikes
      · skip
        by_cases h3 : x.out = y.out
        · skip
          have e : x = y := by cases x; cases y; simp_all
          subst e
          go_simp
        · have e : ¬ x = y := fun e => h3 (by rw [e])
          go_simp
      · have e : ¬ x = y := fun e => h2 (by rw [e])
        go_simp
    · have e : ¬ x = y := fun e => h1 (by rw [e])
      go_simp
  · have e : ¬ x = y := fun e => h0 (by rw [e])
    go_simp
theorem hnE_len (q : Hn) : (hnE q).length = 4 := rfl
set_option maxRecDepth 100000 in
set_option maxHeartbeats 4000000 in
theorem hnequal_any (A A' : Option Addr) (n c n' c' : Nat) (a b : List Hn) (w : World) (h : Hns w (.slice A n c) a) (h' : Hns w (.slice A' n' c') b) (ha : n ≤ 1000000) :
    Calls Tryd.prog 46 #[.slice A n c, .slice A' n' c'] w fun e w' => e = .returned (.bool (hnSame a b)) ∧ Below w.heap.size w w' := by
  have ea : a.length = n := h.len
  have eb : b.length = n' := h'.len
  subst ea eb
  by_cases hl : a.length = b.length
  · by_cases h0 : a.length = 0
    · have e1 : a = [] := List.eq_nil_of_length_eq_zero h0
      have e2 : b = [] := List.eq_nil_of_length_eq_zero (by omega)
      subst e1 e2
      have H : Hid (hnSame ([] : List Hn) [] = true) := by show _ = _; unfold hnSame; simp
      rw [H.out]
      clear h h' hl h0 ha
      go_enter Tryd.func46, Tryd.ntmps46
      go_wp2_with fail
      refine wp_loop_rounds 1 ?_
      iterate 1 (rw [rounds_succ]; go_wp2_with fail)
      go_ret
      exact ⟨rfl, Below.refl _ _⟩
    · obtain ⟨g, o, hA, _, hc⟩ := Rws.cell (s := 4) (fun _ => rfl) (by decide) h (k := 0) (by omega)
      obtain ⟨g', o', hA', _, hc'⟩ := Rws.cell (s := 4) (fun _ => rfl) (by decide) h' (k := 0) (by omega)
      subst hA hA'
      have hcell : ∀ {g o : Nat} {l : List Hn} {c : Nat}, Hns w (.slice (some ⟨g, o, none⟩) l.length c) l → ∀ j, j < l.length → ∀ i v, (hnE l[j]!)[i]? = some v → w.cell? ⟨g, o + j * 4 + i, none⟩ = some v := by
        intro g o l c h j hj i v hv
        obtain ⟨g2, o2, e, _, hc⟩ := Rws.cell (s := 4) (fun _ => rfl) (by decide) h hj
        injection e with e
        injection e with e1 e2
        subst e1 e2
        rw [getElem!_pos l j hj] at hv
        have hi : i < 4 := by have := (List.getElem?_eq_some_iff.1 hv).1; simpa [hnE] using this
        rw [Nat.add_assoc]
        exact hc i v hi hv
      have hz := AnyQ.slices_Equal Tryd.hneq_lays 4 Tryd.isAgg75 Tryd.sizeOf75 hnE hnE_len _ hnneq g o a.length c g' o' b.length c' a b w (Nat.le_refl _) (Nat.le_refl _) (by omega) (by omega) (hcell h) (hcell h')
      refine Calls.mono hz ?_
      rintro e w1 ⟨he, q, hw⟩
      rw [List.take_length, List.take_length, allEq_dec] at he
      exact ⟨he, by rw [hw]; exact drewN_below3 w q⟩
  · have H : Hid (hnSame a b = false) := by show _ = _; unfold hnSame; simp; intro e; rw [e] at hl; exact hl rfl
    rw [H.out]
    have hl' : ((a.length : Int) != (b.length : Int)) = true := by simp; omega
    have hl2 : ((a.length : Int) == (b.length : Int)) = false := by simp; omega
    have hl3 : ¬ (a.length : Int) = (b.length : Int) := by omega
    clear h h' hl ha
    go_enter Tryd.func46, Tryd.ntmps46
    go_wp2_with fail
    go_ret
    exact ⟨rfl, Below.refl _ _⟩
end Go.Proofs.YtbighilgkmfemaaDoor
