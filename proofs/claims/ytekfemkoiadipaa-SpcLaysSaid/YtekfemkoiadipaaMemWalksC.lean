/- Contracts of with and own (of patches) of package mem: copies of elements of two cells. -/
import Derived.Test.YtekfemkoiadipaaMemWalksB
import Derived.Lib.SmallJoins
namespace Go.Proofs.Ytekfemkoiadipaa
open Go.RowKit

/-- copy of elements of two cells each into a block that is known whole. -/
theorem run_copy_two {P : Program} (w : World) (dT sT ty elem : TypeId) (g dLen dCap : Nat) (A : Option Addr) (sLen sCap : Nat) (cur : Array Value) (t : TypeId) (cs : List Value)
    (hu : P.underlying dT = some (.slice elem)) (hs : (P.info? elem).map (·.size) = some 2)
    (hg : w.heap[g]? = some (.cells cur t (0, 0))) (hn : cs.length = Nat.min sLen dLen * 2)
    (hsrc : Lies w A cs) (hfit : cs.length ≤ cur.size) (h1 : ∀ v ∈ cs, v.oneCell' = true) :
    (Builtin.copy_ #[dT, sT] ty #[.slice (some ⟨g, 0, none⟩) dLen dCap, .slice A sLen sCap]).run P w =
      .ok (goInt (Nat.min sLen dLen)) (w.setRow g (cs ++ cur.toList.drop cs.length).toArray) := by
  have hst := run_storeCells_at P g 0 t cs 0 cur w hg (by simpa using hfit) h1
  cases hq : P.info? elem with
  | none => simp [hq] at hs
  | some i =>
    have hi : i.size = 2 := by simpa [hq] using hs
    rcases hsrc with rfl | ⟨g2, o2, rfl, _, hc⟩
    · have h0 : Nat.min sLen dLen = 0 := by simp at hn; omega
      have hl : ∀ (x : Addr), (loadCells x 0).run P w = .ok #[] w := fun x => by simpa using run_loadCells_list (P := P) w x [] (by simp)
      have e : w.setRow g ([] ++ cur.toList.drop ([] : List Value).length).toArray = w := by simpa using setRow_self w g cur t (0, 0) hg
      rw [e]
      cases A <;> simp [Builtin.copy_, run_underlying hu, Builtin.lenOf, Builtin.firstCells, sizeOf, typeInfo, hq, h0, storeCells, hl]
    · have hl := run_loadCells_list (P := P) w ⟨g2, o2, none⟩ cs (fun j v hv => by rw [add_at]; exact hc j v hv)
      rw [hn] at hl
      simp at hst
      simp [Builtin.copy_, run_underlying hu, Builtin.lenOf, Builtin.firstCells, sizeOf, typeInfo, hq, hi, hl, hst]

theorem wpList_copy_two {P : Program} {w : World} {ops : Array Oper} {rest : List Oper} {o : Oper} {a : Act} {Q : Exit → Act → World → Prop} (hgd : o.guard = none) (d s : Operand) (dT sT : TypeId)
    (ho : o.op = .call { callee := .builtin .copy, args := #[d, s], argTypes := #[dT, sT] }) (elem : TypeId) (hu : P.underlying dT = some (.slice elem)) (hsz : (P.info? elem).map (·.size) = some 2)
    (g dLen dCap : Nat) (A : Option Addr) (sLen sCap : Nat) (hd : a.eval d = .slice (some ⟨g, 0, none⟩) dLen dCap) (hs : a.eval s = .slice A sLen sCap)
    (cur : Array Value) (t : TypeId) (hg : w.heap[g]? = some (.cells cur t (0, 0))) (cs : List Value) (hn : cs.length = Nat.min sLen dLen * 2)
    (hsrc : Lies w A cs) (hfit : cs.length ≤ cur.size) (h1 : ∀ v ∈ cs, v.oneCell' = true)
    (h : wpList P ops Q rest (a.put o.dst (goInt (Nat.min sLen dLen))) (w.setRow g (cs ++ cur.toList.drop cs.length).toArray)) : wpList P ops Q (o :: rest) a w := by
  refine wpList_plain hgd fun K hK => ?_
  have hrun := run_copy_two (P := P) w dT sT o.type elem g dLen dCap A sLen sCap cur t cs hu hsz hg hn hsrc hfit h1
  unfold Oper.wp
  simp [execOp, ho, resolve, invoke, builtin, hd, hs, hrun, Result.andThen]
  exact hK _ _ h

theorem wpList_copy_two' {P : Program} {w : World} {ops : Array Oper} {rest : List Oper} {o : Oper} {a : Act} {Q : Exit → Act → World → Prop} (hgd : o.guard = none) (d s : Operand) (dT sT : TypeId)
    (ho : o.op = .call { callee := .builtin .copy, args := #[d, s], argTypes := #[dT, sT] }) (elem : TypeId) (hu : P.underlying dT = some (.slice elem)) (hsz : (P.info? elem).map (·.size) = some 2)
    (g dLen dCap : Nat) (A : Option Addr) (sLen sCap : Nat) (hd : a.eval d = .slice (some ⟨g, 0, none⟩) dLen dCap) (hs : a.eval s = .slice A sLen sCap)
    (cur : Array Value) (t : TypeId) (hg : w.heap[g]? = some (.cells cur t (0, 0))) (cs : List Value) (hn : cs.length = Nat.min sLen dLen * 2)
    (hsrc : Lies w A cs) (hfit : cs.length ≤ cur.size) (h1 : ∀ v ∈ cs, v.oneCell' = true)
    (h : ∀ w', Hid (w'.heap[g]? = some (.cells (cs ++ cur.toList.drop cs.length).toArray t (0, 0))) → RowSet g w w' → wpList P ops Q rest (a.put o.dst (goInt (Nat.min sLen dLen))) w') : wpList P ops Q (o :: rest) a w :=
  wpList_copy_two hgd d s dT sT ho elem hu hsz g dLen dCap A sLen sCap hd hs cur t hg cs hn hsrc hfit h1 (h _ (setRow_heap w g _ _ t _ hg) (rowSet_setRow _ _ _))

theorem set_two (X D : List Value) (n : Nat) (p : Int) (v : Value) (hx : X.length = 2 * n) (hd : D.length = 2) : (((X ++ D).toArray.setIfInBounds (n * 2) (.int .i64 p)).setIfInBounds (n * 2 + 1) v) = (X ++ pc [(p, v)]).toArray := by
  match D, hd with
  | [a, b], _ =>
    have e1 : n * 2 = X.length := by omega
    rw [e1]
    simp [pc]

theorem info_patch : (Try.prog.info? 68).map (fun i => (i.zero, i.size, i.bytes)) = some (some (.agg #[.int .i64 0, .slice none 0 0]), 2, 32) := by kernel_rfl

theorem pc_one {w : World} {qs : List Qt} {ps : List Pt} (h : Tells w qs ps) : ∀ v ∈ pc qs, v.oneCell' = true := by
  intro v hv
  unfold pc at hv
  rw [List.mem_flatMap] at hv
  obtain ⟨q, hq, hv⟩ := hv
  obtain ⟨i, hi, rfl⟩ := List.mem_iff_getElem.1 hq
  have hp : i < ps.length := by rw [← h.1]; exact hi
  obtain ⟨_, A, c, e, _⟩ := h.2 i _ _ (List.getElem?_eq_getElem hi) (List.getElem?_eq_getElem hp)
  simp at hv
  rcases hv with rfl | rfl
  · rfl
  · rw [e]; rfl

set_option maxRecDepth 100000 in
set_option maxHeartbeats 1000000 in
theorem with_any (A : Option Addr) (n c : Nat) (qs : List Qt) (p : Int) (B : Option Addr) (k e : Nat) (w : World) (hl : qs.length = n) (hn : n ≤ 1000) (h : Lies w A (pc qs)) (h1 : ∀ v ∈ pc qs, v.oneCell' = true) :
    Calls Try.prog 35 #[.slice A n c, .agg #[.int .i64 p, .slice B k e]] w fun e' w' => ∃ g, e' = .returned (.slice (some ⟨g, 0, none⟩) (n + 1) (n + 1)) ∧ w.heap.size ≤ g ∧ w'.heap[g]? = some (.cells (pc (qs ++ [(p, .slice B k e)])).toArray 68 (0, 0)) ∧ Below w.heap.size w w' := by
  obtain ⟨i0, hi, hz0, hz1, hz2⟩ := info_parts info_patch
  obtain ⟨Z, hZ⟩ : ∃ Z, Z = madeCells (Value.agg #[.int .i64 0, .slice none 0 0]).cells ((n + 1) * 2) := ⟨_, rfl⟩
  obtain ⟨X, hX⟩ : ∃ X, X = pc qs := ⟨_, rfl⟩
  have hmk : ∀ w : World, (Instr.makeSlice 23 (.int .i64 ((n : Int) + 1)) (.int .i64 ((n : Int) + 1))).run Try.prog w = .ok (.slice (some ⟨w.heap.size, 0, none⟩) (n + 1) (n + 1)) (w.alloc (.cells Z 68)) := by
    intro w
    have := run_make (P := Try.prog) w 23 68 i0 (.agg #[.int .i64 0, .slice none 0 0]) Try.underlying23 hi hz0 .i64 .i64 ((n : Int) + 1) ((n : Int) + 1) (by omega) (Int.le_refl _) (by rw [hz2]; omega) (by omega)
    rw [hz1] at this
    rw [hZ]
    simpa using this
  have HZ : Hid (Z.size = 2 * n + 2) := by rw [hZ, size_madeCells]; show _ = _; omega
  have HX : Hid (X.length = 2 * n) := by rw [hX, pc_len, hl]; rfl
  have HL : Hid (Lies w A X) := by rw [hX]; exact h
  have H1 : Hid (∀ v ∈ X, v.oneCell' = true) := by rw [hX]; exact h1
  have HE := Lib.hid hX
  clear h h1 hX hZ hl hi hz0 hz1 hz2
  go_enter Try.func35, Try.ntmps35
  go_wp2_with (with_reducible refine wpList_copy_two' rfl (.tmp 10) (.tmp 11) 23 23 rfl 68 Try.underlying23 ?c0 (w.heap.size + 1) (n + 1) (n + 1) A n c rfl rfl Z 68 ?c1 X ?c2 ?c3 ?c4 ?c5 ?_)
  case c0 => kernel_rfl
  case c1 => exact (two_new _ _ _ _ _).1
  case c2 => rw [HX.out]; show _ = min n (n + 1) * 2; omega
  case c3 => exact HL.out.keep (((Below.refl _ _).alloc (Nat.le_refl _) _).alloc (by simp) _)
  case c4 => rw [HX.out, HZ.out]; omega
  case c5 => exact H1.out
  intro w2 hg2 rs
  obtain ⟨Y, hY⟩ : ∃ Y, Y = X ++ Z.toList.drop X.length := ⟨_, rfl⟩
  have HY : Hid (Y = X ++ Z.toList.drop X.length) := hY
  have HYL : Hid (Y.length = 2 * n + 2) := by rw [hY]; have x := HX.out; have z := HZ.out; show _ = _; simp [x, z]
  rw [← hY] at hg2
  clear hY
  have k0 : w2.cell? ⟨w.heap.size, 0, none⟩ = some (.int .i64 p) := by
    rw [rs.cell (by simp)]
    exact cells_at (cs := [.int .i64 p, .slice B k e]) (two_new _ _ _ _ _).2 0 _ rfl
  have k1 : w2.cell? ⟨w.heap.size, 1, none⟩ = some (.slice B k e) := by
    rw [rs.cell (by simp)]
    exact cells_at (cs := [.int .i64 p, .slice B k e]) (two_new _ _ _ _ _).2 1 _ rfl
  have k2 : w2.cell? ⟨w.heap.size + 1, n * 2, none⟩ = some (Y[n * 2]'(by rw [HYL.out]; omega)) := by
    simp [World.cell?, hg2.out]
  have k3 : w2.cell? ⟨w.heap.size + 1, n * 2 + 1, none⟩ = some (Y[n * 2 + 1]'(by rw [HYL.out]; omega)) := by
    simp [World.cell?, hg2.out]
  have f2 : ∀ i, w2.frozen? ⟨w.heap.size + 1, i, none⟩ = false := fun i => by simp [World.frozen?, hg2.out]
  have RS := Lib.hid rs
  clear rs
  go_wp2
  go_ret
  refine ⟨w.heap.size + 1, rfl, by omega, ?_, ((RS.out.below (Nat.le_refl _)).mono (by simp : w.heap.size ≤ w.heap.size + 1) |> fun b => ((((Below.refl w.heap.size w).alloc (Nat.le_refl _) _).alloc (by simp) _).trans b)).setCell (by simp) _ |>.setCell (by simp) _⟩
  rw [Go.Joins.block_setCell (Go.Joins.block_setCell hg2.out _), pc_app]
  have x := HX.out
  have z := HZ.out
  rw [HY.out, ← HE.out]
  congr 2
  exact set_two X _ n p _ x (by simp [x, z])
end Go.Proofs.Ytekfemkoiadipaa
