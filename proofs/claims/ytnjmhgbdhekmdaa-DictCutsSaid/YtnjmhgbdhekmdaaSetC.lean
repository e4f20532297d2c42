/- What the laws of this stage lean on, part 3: DictCodeD, WordLay, DictCodeE, DictCode, DictShown, MemIn, DictIn. -/
import Derived.Test.YtnjmhgbdhekmdaaSetB
import Derived.Test.YtnjmhgbdhekmdaaSetA
import Derived.Shelf.SlicesQ.Equal
import Derived.WalkSpells
import Derived.Laws.StructEq
import Derived.ArgAppend
import Derived.ChangeMaps5

/- Contracts of dict's Right, Find, Of. -/
namespace Go.Proofs.Ytnjmhgbdhekmdaa
open Go.RowKit
set_option linter.unusedVariables false
set_option linter.unusedSimpArgs false

theorem lastI_none {p : Wr → Bool} {l : List Wr} : lastI p l = none ↔ ∀ q ∈ l, p q = false := by
  induction l with
  | nil => simp [lastI]
  | cons q r ih =>
    unfold lastI
    cases h : lastI p r with
    | some i =>
      simp
      intro _
      have hn : ¬ ∀ q ∈ r, p q = false := fun e => by rw [ih.2 e] at h; cases h
      apply Classical.byContradiction
      intro hc
      exact hn fun a ha => by
        cases hp : p a with
        | false => rfl
        | true => exact absurd ⟨a, ha, hp⟩ hc
    | none =>
      have hr := ih.1 h
      cases hq : p q with
      | true => simp [hq]
      | false =>
        simp [hq]
        exact hr
theorem lastI_right (l : List Wr) : (lastI (fun q => !wordB q) l).isSome = !l.all wordB := by
  cases h : l.all wordB with
  | true =>
    rw [List.all_eq_true] at h
    rw [lastI_none.2 fun q hq => by rw [h q hq]; rfl]
    rfl
  | false =>
    cases hl : lastI (fun q => !wordB q) l with
    | some i => rfl
    | none =>
      have := lastI_none.1 hl
      rw [List.all_eq_false] at h
      obtain ⟨q, hq, hw⟩ := h
      have h1 := this q hq
      simp at h1
      exact absurd h1 hw

set_option maxRecDepth 100000 in
set_option maxHeartbeats 4000000 in
theorem dright_any (A : Option Addr) (n c : Nat) (l : List Wr) (w : World) (h : Wds w (.slice A n c) l) (hn : n ≤ 100000) : Calls Try.prog 12 #[.slice A n c] w fun e w' => e = .returned (.bool (dRight l)) ∧ Below w.heap.size w w' := by
  have hl := h.len
  subst hl
  by_cases hm : 1024 < l.length
  · have H : Hid (dRight l = false) := by show _ = _; unfold dRight; rw [show decide (l.length ≤ 1024) = false by simp; omega, Bool.and_false]
    have hm' : (1024 : Int) < (l.length : Int) := by omega
    rw [H.out]
    clear h hn hm
    go_enter Try.func12, Try.ntmps12
    go_wp2_with fail
    go_ret
    exact ⟨rfl, Below.refl _ _⟩
  · have H : Hid (dRight l = !(lastI (fun q => !wordB q) l).isSome) := by show _ = _; unfold dRight; rw [show decide (l.length ≤ 1024) = true by simp; omega, Bool.and_true, lastI_right, Bool.not_not]
    have hm' : decide ((1024 : Int) < (l.length : Int)) = false := by simp; omega
    have HC := Lib.hid (last_wrong A l.length c l (fun q => !wordB q) w h hn fun q _ w1 _ => wrong_any q w1)
    obtain ⟨r, er⟩ : ∃ r, lastI (fun q => !wordB q) l = r := ⟨_, rfl⟩
    rw [er] at HC H
    rw [H.out]
    obtain ⟨q, eq⟩ : ∃ q, gotW l r = q := ⟨_, rfl⟩
    obtain ⟨i, ei⟩ : ∃ i, gotI r = i := ⟨_, rfl⟩
    obtain ⟨b, eb⟩ : ∃ b, r.isSome = b := ⟨_, rfl⟩
    rw [eq, ei, eb] at HC
    rw [eb]
    clear h hn hm er eq ei eb H
    go_enter Try.func12, Try.ntmps12
    go_wp2_with fail
    refine HC.out.mono ?_
    rintro e1 w5 ⟨rfl, b5⟩
    have HB := Lib.hid (alloc_then (o := .cells #[.string (strB q.nm), .int .i64 q.xt, .int .i64 q.fl] 30) b5)
    clear b5
    go_wp2_with fail
    go_ret
    exact ⟨rfl, HB.out⟩

set_option maxRecDepth 100000 in
set_option maxHeartbeats 4000000 in
theorem dfind_any (A : Option Addr) (n c : Nat) (l : List Wr) (nm : List UInt8) (w : World) (h : Wds w (.slice A n c) l) (hn : n ≤ 100000) (hfl : ∀ q ∈ l, 0 ≤ q.fl ∧ q.fl ≤ 7) (hnl : ∀ q ∈ l, q.nm.length ≤ 100000) (hm : nm.length ≤ 100000) : Calls Try.prog 15 #[.slice A n c, .string (strB nm)] w (GotOut (gotW l (findI l nm)) (gotI (findI l nm)) (findI l nm).isSome w) := by
  have hmf : ∀ (fn : Fn) (first cap : Array Value) (w : World), (Instr.makeFunc fn first cap).run Try.prog w = .ok (.func fn first cap) w := fun _ _ _ _ => rfl
  unfold GotOut
  obtain ⟨o1, ho1⟩ : ∃ o1 : Obj, .cells #[.string (strB nm)] 9 = o1 := ⟨_, rfl⟩
  obtain ⟨o2, ho2⟩ : ∃ o2 : Obj, .cells #[.string ⟨#[]⟩, .int .i64 0, .int .i64 0] 30 = o2 := ⟨_, rfl⟩
  obtain ⟨W, hW⟩ : ∃ W, (w.alloc o1).alloc o2 = W := ⟨_, rfl⟩
  have k2 : Below w.heap.size w ((w.alloc o1).alloc o2) := alloc_then (al_one w o1)
  have hs : W.heap.size = w.heap.size + 1 + 1 := by rw [← hW]; simp
  have hc : ((w.alloc o1).alloc o2).cell? ⟨w.heap.size, 0, none⟩ = some (.string (strB nm)) := by
    have h0 : (w.alloc (.cells #[.string (strB nm)] 9)).heap[w.heap.size]? = some (.cells #[.string (strB nm)] 9) := one_newN w _ _
    have h1 : (w.alloc o1).cell? ⟨w.heap.size, 0, none⟩ = some (.string (strB nm)) := by rw [← ho1]; unfold World.cell?; rw [h0]; rfl
    exact ((al_one (w.alloc o1) o2).cell (p := ⟨w.heap.size, 0, none⟩) (by simp)).trans h1
  have hX : WBox ((w.alloc o1).alloc o2) (w.heap.size + 1) w0 := by rw [← ho2]; have := wbox_zero (w.alloc o1); simpa using this
  rw [hW] at k2 hc hX
  have HX := Lib.hid hX
  have HB := Lib.hid k2
  have HW := Lib.hid hW
  have HO1 := Lib.hid ho1
  have HO2 := Lib.hid ho2
  have HC := Lib.hid (last_find A n c l (seenP nm) ⟨w.heap.size, 0, none⟩ W (h.keep k2) hn fun q hq w1 hb => isfind_any q nm ⟨w.heap.size, 0, none⟩ w1 ((hb.cell (p := ⟨w.heap.size, 0, none⟩) (by show w.heap.size < W.heap.size; omega)).trans hc) (Nat.lt_of_lt_of_le (by show w.heap.size < W.heap.size; omega) hb.size) (hfl q hq).1 (hfl q hq).2 (hnl q hq) hm)
  obtain ⟨r, er⟩ : ∃ r, findI l nm = r := ⟨_, rfl⟩
  rw [show lastI (seenP nm) l = r from er] at HC
  rw [er]
  obtain ⟨q, eq⟩ : ∃ q, gotW l r = q := ⟨_, rfl⟩
  obtain ⟨i, ei⟩ : ∃ i, gotI r = i := ⟨_, rfl⟩
  obtain ⟨b, eb⟩ : ∃ b, r.isSome = b := ⟨_, rfl⟩
  rw [eq, ei, eb] at HC ⊢
  have HS := Lib.hid hs
  clear h hn hfl hnl hm er eq ei eb k2 hX hW hc ho1 ho2 hs
  go_enter Try.func15, Try.ntmps15
  go_upto_region 1 with fail
  rw [HO1.out, HO2.out, HW.out]
  go_wp2_with fail
  refine HC.out.mono ?_
  rintro e1 w5 ⟨rfl, b5⟩
  have XZ5 := Lib.hid (HX.out.keep b5)
  have HB5 := Lib.hid (below_then HB.out b5)
  clear b5
  obtain ⟨z0, z1, z2, z3, z4, z5⟩ := XZ5.out.use
  have lz := XZ5.out.lt
  go_wp2_with fail
  obtain ⟨r0, r1, r2, _, _, _⟩ := (XZ5.out.put q).use
  refine bodyPost_ret (v := .tuple #[.agg #[.string (strB q.nm), .int .i64 q.xt, .int .i64 q.fl], .int .i64 (i : Int), .bool b]) ?_ rfl ?_
  · simp [results, Try.results15, go_sem, r0, r1, r2]
  · exact ⟨rfl, below_wset HB5.out (Nat.le_succ _) _ _ _⟩

set_option maxRecDepth 100000 in
set_option maxHeartbeats 4000000 in
theorem dof_any (A : Option Addr) (n c : Nat) (l : List Wr) (xt : Int) (w : World) (h : Wds w (.slice A n c) l) (hn : n ≤ 100000) : Calls Try.prog 17 #[.slice A n c, .int .i64 xt] w (GotOut (gotW l (ofI l xt)) (gotI (ofI l xt)) (ofI l xt).isSome w) := by
  have hmf : ∀ (fn : Fn) (first cap : Array Value) (w : World), (Instr.makeFunc fn first cap).run Try.prog w = .ok (.func fn first cap) w := fun _ _ _ _ => rfl
  unfold GotOut
  obtain ⟨o1, ho1⟩ : ∃ o1 : Obj, .cells #[.int .i64 xt] 3 = o1 := ⟨_, rfl⟩
  obtain ⟨o2, ho2⟩ : ∃ o2 : Obj, .cells #[.string ⟨#[]⟩, .int .i64 0, .int .i64 0] 30 = o2 := ⟨_, rfl⟩
  obtain ⟨W, hW⟩ : ∃ W, (w.alloc o1).alloc o2 = W := ⟨_, rfl⟩
  have k2 : Below w.heap.size w ((w.alloc o1).alloc o2) := alloc_then (al_one w o1)
  have hs : W.heap.size = w.heap.size + 1 + 1 := by rw [← hW]; simp
  have hc : ((w.alloc o1).alloc o2).cell? ⟨w.heap.size, 0, none⟩ = some (.int .i64 xt) := by
    have h0 : (w.alloc (.cells #[.int .i64 xt] 3)).heap[w.heap.size]? = some (.cells #[.int .i64 xt] 3) := one_newN w _ _
    have h1 : (w.alloc o1).cell? ⟨w.heap.size, 0, none⟩ = some (.int .i64 xt) := by rw [← ho1]; unfold World.cell?; rw [h0]; rfl
    exact ((al_one (w.alloc o1) o2).cell (p := ⟨w.heap.size, 0, none⟩) (by simp)).trans h1
  have hX : WBox ((w.alloc o1).alloc o2) (w.heap.size + 1) w0 := by rw [← ho2]; have := wbox_zero (w.alloc o1); simpa using this
  rw [hW] at k2 hc hX
  have HX := Lib.hid hX
  have HB := Lib.hid k2
  have HW := Lib.hid hW
  have HO1 := Lib.hid ho1
  have HO2 := Lib.hid ho2
  have HC := Lib.hid (last_of A n c l (fun q => decide (q.xt = xt)) ⟨w.heap.size, 0, none⟩ W (h.keep k2) hn fun q hq w1 hb => isof_any q xt ⟨w.heap.size, 0, none⟩ w1 ((hb.cell (p := ⟨w.heap.size, 0, none⟩) (by show w.heap.size < W.heap.size; omega)).trans hc) (Nat.lt_of_lt_of_le (by show w.heap.size < W.heap.size; omega) hb.size))
  obtain ⟨r, er⟩ : ∃ r, ofI l xt = r := ⟨_, rfl⟩
  rw [show lastI (fun q => decide (q.xt = xt)) l = r from er] at HC
  rw [er]
  obtain ⟨q, eq⟩ : ∃ q, gotW l r = q := ⟨_, rfl⟩
  obtain ⟨i, ei⟩ : ∃ i, gotI r = i := ⟨_, rfl⟩
  obtain ⟨b, eb⟩ : ∃ b, r.isSome = b := ⟨_, rfl⟩
  rw [eq, ei, eb] at HC ⊢
  have HS := Lib.hid hs
  clear h hn er eq ei eb k2 hX hW hc ho1 ho2 hs
  go_enter Try.func17, Try.ntmps17
  go_upto_region 1 with fail
  rw [HO1.out, HO2.out, HW.out]
  go_wp2_with fail
  refine HC.out.mono ?_
  rintro e1 w5 ⟨rfl, b5⟩
  have XZ5 := Lib.hid (HX.out.keep b5)
  have HB5 := Lib.hid (below_then HB.out b5)
  clear b5
  obtain ⟨z0, z1, z2, z3, z4, z5⟩ := XZ5.out.use
  have lz := XZ5.out.lt
  go_wp2_with fail
  obtain ⟨r0, r1, r2, _, _, _⟩ := (XZ5.out.put q).use
  refine bodyPost_ret (v := .tuple #[.agg #[.string (strB q.nm), .int .i64 q.xt, .int .i64 q.fl], .int .i64 (i : Int), .bool b]) ?_ rfl ?_
  · simp [results, Try.results17, go_sem, r0, r1, r2]
  · exact ⟨rfl, below_wset HB5.out (Nat.le_succ _) _ _ _⟩
end Go.Proofs.Ytnjmhgbdhekmdaa

/- The library's contracts of slices.Equal and slices.Clone, laid at this program's own numbers, at words. -/
namespace Go.Proofs
open Go.Shelf Go.Lib
def Try.weq_ren : Go.Shelf.Ren := ⟨fun | 8 => 32 | n => n, fun | 0 => 0 | 3 => 3 | 4 => 4 | 22 => 22 | 24 => 30 | n => n, fun | n => n⟩
theorem Try.weq_lays : Go.Proofs.SlLaysQ.n8 Try.prog Try.weq_ren := {
  mixed := by kernel_rfl
  f8 := ⟨"slices.Equal[[]detent/api.Word,detent/api.Word]", by decide, Try.func32.trans (congrArg some (by kernel_rfl))⟩
  t0 := Try.underlying0
  a0 := Try.isAgg0
  z0 := Try.sizeOf0
  v0 := Try.zeroValue0
  t3 := Try.underlying3
  a3 := Try.isAgg3
  z3 := Try.sizeOf3
  v3 := Try.zeroValue3
  t4 := Try.underlying4
  a4 := Try.isAgg4
  z4 := Try.sizeOf4
  v4 := Try.zeroValue4
  t22 := Try.underlying22
  a22 := Try.isAgg22
  z22 := Try.sizeOf22
  v22 := Try.zeroValue22 }
end Go.Proofs
namespace Go.Proofs.Ytnjmhgbdhekmdaa
open Go.RowKit Go.Lib Go.Shelf
set_option linter.unusedVariables false
set_option linter.unusedSimpArgs false
instance : Inhabited Wr := ⟨⟨[], 0, 0⟩⟩

theorem wneq : NeqAt Try.prog 30 (fun q : Wr => .agg (wcell q).toArray) (fun x y => decide (x = y)) := by
  refine ⟨fun x y w => ?_, GuardAt.agg _ (by kernel_rfl)⟩
  have u3 := Try.underlying3
  have a3 := Try.isAgg3
  have z3 := Try.sizeOf3
  have u9 := Try.underlying9
  have a9 := Try.isAgg9
  have z9 := Try.sizeOf9
  have hS : Try.prog.underlying 30 = some (.struct (Try.prog.fieldsOf 30)) := by kernel_rfl
  have hp : Try.prog.stoodInHeld 30 = false := by kernel_rfl
  simp only [wcell]
  rw [run_neq_struct, show (10000 : Nat) = 9999 + 1 from rfl, run_equalIn_agg w 9999 30 _ _ hS hp]
  simp only [Program.fieldsOf, Try.underlying30]
  by_cases h1 : x.nm = y.nm
  · rw [h1]
    by_cases h2 : x.xt = y.xt <;> by_cases h3 : x.fl = y.fl
    · have e : x = y := by cases x; cases y; simp_all
      subst e
      go_simp
    · have e : ¬ x = y := fun e => h3 (by rw [e])
      go_simp
    · have e : ¬ x = y := fun e => h2 (by rw [e])
      go_simp
    · have e : ¬ x = y := fun e => h2 (by rw [e])
      go_simp
  · have e : ¬ x = y := fun e => h1 (by rw [e])
    have hne := str_ne (a := strB x.nm) (b := strB y.nm) (fun e => h1 (strB_inj e))
    go_simp

theorem wcell_len (q : Wr) : (wcell q).length = 3 := rfl
theorem wds_elem (l : List Wr) (j : Nat) (hj : j < l.length) (i : Nat) (v : Value) (h : (wcell l[j]!)[i]? = some v) : (wds l)[j * 3 + i]? = some v := by
  rw [getElem!_pos l j hj] at h
  obtain ⟨h1, h2, h3⟩ := wds_at hj
  have e : j * 3 = 3 * j := by omega
  rw [e]
  match i, h with
  | 0, h => rw [Nat.add_zero, h1]; exact h
  | 1, h => rw [h2]; exact h
  | 2, h => rw [h3]; exact h
  | i + 3, h => simp [wcell] at h

theorem allEq_words (a b : List Wr) : Lib.allEq (fun x y : Wr => decide (x = y)) a b = decide (a = b) := by
  induction a generalizing b with
  | nil => cases b <;> simp [Lib.allEq]
  | cons x a ih =>
    cases b with
    | nil => simp [Lib.allEq]
    | cons y b => simp [Lib.allEq, ih]

theorem wequal_some (g o n c g' o' n' c' : Nat) (a b : List Wr) (w : World) (h : Wds w (.slice (some ⟨g, o, none⟩) n c) a) (h' : Wds w (.slice (some ⟨g', o', none⟩) n' c') b) (ha : n ≤ 1000000) (hb : n' ≤ 1000000) :
    Calls Try.prog 32 #[.slice (some ⟨g, o, none⟩) n c, .slice (some ⟨g', o', none⟩) n' c'] w fun e w' => e = .returned (.bool (decide (a = b))) ∧ Below w.heap.size w w' := by
  have ea := h.len
  have eb := h'.len
  subst ea eb
  have hcell : ∀ {g o : Nat} {l : List Wr} {c : Nat}, Wds w (.slice (some ⟨g, o, none⟩) l.length c) l → ∀ j, j < l.length → ∀ i v, (wcell l[j]!)[i]? = some v → w.cell? ⟨g, o + j * 3 + i, none⟩ = some v := by
    intro g o l c h j hj i v hv
    have hx := wds_elem l j hj i v hv
    rcases h.lies with hl | ⟨g2, o2, e, _, hc⟩
    · rw [hl] at hx; simp at hx
    · injection e with e
      injection e with e1 e2
      subst e1 e2
      have := hc _ _ hx
      rwa [← Nat.add_assoc] at this
  have hz := AnyQ.slices_Equal Try.weq_lays 3 Try.isAgg30 Try.sizeOf30 wcell wcell_len _ wneq g o a.length c g' o' b.length c' a b w (Nat.le_refl _) (Nat.le_refl _) (by omega) (by omega) (hcell h) (hcell h')
  refine Calls.mono hz ?_
  rintro e w1 ⟨he, q, hw⟩
  rw [List.take_length, List.take_length, allEq_words] at he
  exact ⟨he, by rw [hw]; exact drewN_belowW w q⟩

/-- A copy of a row: a row of its own. -/
theorem words_none {n c : Nat} {l : List Wr} {w : World} (h : Wds w (.slice none n c) l) : l = [] ∧ n = 0 := by
  have hl := h.len
  have h0 : l = [] := by
    rcases h.lies with h | ⟨_, _, h, _⟩
    · have := congrArg List.length h
      rw [wds_len] at this
      have h0 : l.length * 3 = 0 := this
      exact List.eq_nil_of_length_eq_zero (by omega)
    · cases h
  exact ⟨h0, by rw [← hl, h0]; rfl⟩
set_option maxRecDepth 100000 in
set_option maxHeartbeats 4000000 in
theorem wclone_any (A : Option Addr) (n c : Nat) (l : List Wr) (w : World) (h : Wds w (.slice A n c) l) (hn : n ≤ 100000) :
    Calls Try.prog 38 #[.slice A n c] w fun e w' => ∃ v, e = .returned v ∧ WOwns w' w.heap.size v n l ∧ Below w.heap.size w w' := by
  have q : ∀ w : World, _ := fun w => Lib.run_eql_slice_nil (P := Try.prog) w 22 30 A n c 0 0 Try.underlying22
  cases A with
  | none =>
    obtain ⟨rfl, rfl⟩ := words_none h
    clear h
    go_enter Try.func38, Try.ntmps38
    go_wp2_with fail
    go_ret
    exact ⟨_, rfl, wowns_none _ _, Below.refl _ _⟩
  | some p =>
    have HA := Lib.hid h
    clear h
    go_enter Try.func38, Try.ntmps38
    go_wp2_with (at_builtin; refine wpList_wapp rfl _ _ rfl w.heap.size (.slice (some ⟨w.heap.size, 0, none⟩) 0 0) 0 [] rfl (none_wowns w) (some p) n c l rfl (HA.out.keep (al_one _ _)) (by omega) (by simp) w (al_one _ _) (Nat.le_refl _) ?_; intro v2 w4 ho hb2 hgr; have O4 := Lib.hid ho; have B4 := Lib.hid hb2; clear ho hb2 hgr)
    go_ret
    exact ⟨v2, rfl, by simpa using O4.out, B4.out⟩
end Go.Proofs.Ytnjmhgbdhekmdaa

/- Contracts of dict's Same, Add, Flag, Cut. -/
namespace Go.Proofs.Ytnjmhgbdhekmdaa
open Go.RowKit
set_option linter.unusedVariables false
set_option linter.unusedSimpArgs false

set_option maxRecDepth 100000 in
set_option maxHeartbeats 4000000 in
theorem wequal_any (A A' : Option Addr) (n c n' c' : Nat) (a b : List Wr) (w : World) (h : Wds w (.slice A n c) a) (h' : Wds w (.slice A' n' c') b) (ha : a.length ≤ 100000) :
    Calls Try.prog 32 #[.slice A n c, .slice A' n' c'] w fun e w' => e = .returned (.bool (dSame a b)) ∧ Below w.heap.size w w' := by
  have ea := h.len
  have eb := h'.len
  subst ea eb
  by_cases hl : a.length = b.length
  · by_cases h0 : a.length = 0
    · have e1 : a = [] := List.eq_nil_of_length_eq_zero h0
      have e2 : b = [] := List.eq_nil_of_length_eq_zero (by omega)
      subst e1 e2
      have H : Hid (dSame [] [] = true) := by show _ = _; rfl
      rw [H.out]
      clear h h' hl h0 ha
      go_enter Try.func32, Try.ntmps32
      go_wp2_with fail
      refine wp_loop_rounds 1 ?_
      iterate 1 (rw [rounds_succ]; go_wp2_with fail)
      go_ret
      exact ⟨rfl, Below.refl _ _⟩
    · obtain ⟨g, o, hA, _⟩ := wds_cell h (k := 0) (by omega)
      obtain ⟨g', o', hA', _⟩ := wds_cell h' (k := 0) (by omega)
      subst hA hA'
      exact wequal_some g o _ c g' o' _ c' a b w h h' (by omega) (by omega)
  · have H : Hid (dSame a b = false) := by show _ = _; unfold dSame; simp; intro e; rw [e] at hl; exact hl rfl
    rw [H.out]
    have hl' : ((a.length : Int) != (b.length : Int)) = true := by simp; omega
    have hl2 : ((a.length : Int) == (b.length : Int)) = false := by simp; omega
    have hl3 : ¬ (a.length : Int) = (b.length : Int) := by omega
    clear h h' hl ha
    go_enter Try.func32, Try.ntmps32
    go_wp2_with fail
    go_ret
    exact ⟨rfl, Below.refl _ _⟩
set_option maxRecDepth 100000 in
set_option maxHeartbeats 4000000 in
theorem dsame_any (A A' : Option Addr) (n c n' c' : Nat) (a b : List Wr) (w : World) (h : Wds w (.slice A n c) a) (h' : Wds w (.slice A' n' c') b) (ha : a.length ≤ 100000) :
    Calls Try.prog 13 #[.slice A n c, .slice A' n' c'] w fun e w' => e = .returned (.bool (dSame a b)) ∧ Below w.heap.size w w' := by
  have HC := Lib.hid (wequal_any A A' n c n' c' a b w h h' ha)
  clear h h' ha
  go_enter Try.func13, Try.ntmps13
  go_wp2_with fail
  refine HC.out.mono ?_
  rintro e1 w5 ⟨rfl, b5⟩
  have HB := Lib.hid b5
  clear b5
  go_wp2_with fail
  go_ret
  exact ⟨rfl, HB.out⟩

/-- append of a word to a row that came in and has no room: it always makes a row of its own. -/
theorem wpList_wgrow {ops : Array Oper} {rest : List Oper} {o : Oper} {a : Act} {Q : Exit → Act → World → Prop} {w : World} (hgd : o.guard = none) (s x : Operand)
    (ho : o.op = .call { callee := .builtin .append, args := #[s, x], argTypes := #[22, 22] })
    (A : Option Addr) (n c : Nat) (l : List Wr) (hs : a.eval s = .slice A n n) (hy : Wds w (.slice A n c) l)
    (g : Nat) (z : List Wr) (hx : a.eval x = .slice (some ⟨g, 0, none⟩) 1 1) (hz : Wds w (.slice (some ⟨g, 0, none⟩) 1 1) z) (hn : n ≤ 100000)
    (h : ∀ v' w', WOwns w' w.heap.size v' (n + 1) (l ++ z) → Below w.heap.size w w' → wpList Try.prog ops Q rest (a.put o.dst v') w') : wpList Try.prog ops Q (o :: rest) a w := by
  obtain ⟨i0, hi, hz0, hz1, hz2⟩ := info_parts info_word
  have hl := hy.len
  have hzl := hz.len
  have hli := hy.lies
  have hlz := hz.lies
  refine wpList_append_grows w hgd s x _ ho 30 i0 (.agg #[.string ⟨#[]⟩, .int .i64 0, .int .i64 0]) 3 32 Try.underlying22 hi hz0 hz1 hz2 rfl (by decide) A n n (wds l) hs ?_ (by rw [wds_len, hl]) ?_ ⟨g, 0, none⟩ 1 1 (wds z) hx (by rw [wds_len, hzl]) ?_ (wds_one z) (by omega) (by unfold maxLen; omega) (by omega) fun v' w' h1 h2 => h v' w' ?_ ?_
  · intro e
    subst e
    rcases hli with hli | ⟨_, _, e, _⟩
    · have := congrArg List.length hli
      rw [wds_len] at this
      have h0 : l.length * 3 = 0 := this
      omega
    · cases e
  · intro b hb j u hu
    rcases hli with hli | ⟨g2, o2, e, _, hc⟩
    · rw [hli] at hu; simp at hu
    · rw [hb] at e
      injection e with e
      rw [e, add_at]
      exact hc j u hu
  · intro j u hu
    rcases hlz with hli | ⟨g2, o2, e, _, hc⟩
    · rw [hli] at hu; simp at hu
    · injection e with e
      rw [e, add_at]
      exact hc j u hu
  · have e := wds_app l z
    unfold WOwns
    rw [e]
    exact h1
  · exact (Below.refl _ w).grown h2 (Nat.le_refl _) (fun k hk => by cases hk)

/-- 's[:n:n]' of a row of n words. -/
def wfullAt (A : Option Addr) (n : Nat) : Option Addr := if n = 0 then A else A.map (·.add (0 * 3))
theorem Wds.full {w : World} {A : Option Addr} {n c : Nat} {l : List Wr} (h : Wds w (.slice A n c) l) : Wds w (.slice (wfullAt A n) n n) l := by
  have hl := h.len
  subst hl
  obtain ⟨A', c', e, h1, h2, h4⟩ := h
  injection e with e1 e2 e3
  subst e1 e3
  refine ⟨_, _, rfl, Nat.le_refl _, by omega, ?_⟩
  rcases h4 with h4 | ⟨g, o, rfl, hg, hc⟩
  · exact .inl h4
  · unfold wfullAt
    split
    · exact .inr ⟨g, o, rfl, hg, hc⟩
    · exact .inr ⟨g, o, by simp [add_at], hg, hc⟩
theorem Wds.room {w : World} {A : Option Addr} {n c : Nat} {l : List Wr} (h : Wds w (.slice A n c) l) : n ≤ c := by
  have hl := h.len
  obtain ⟨A', c', e, h1, _⟩ := h
  injection e with e1 e2 e3
  omega
theorem run_wfull {A : Option Addr} {n c : Nat} (w : World) (hc : n ≤ c) :
    (Instr.slice 22 (.slice A n c) none (some (.int .i64 (n : Int))) (some (.int .i64 (n : Int)))).run Try.prog w = .ok (.slice (wfullAt A n) n n) w := by
  have hz : (sizeOf 30).run Try.prog w = .ok 3 w := by kernel_rfl
  simp [Instr.slice, run_underlying Try.underlying22, Instr.sliceBounds, run_sliceBound, hc, hz, wfullAt]
set_option maxHeartbeats 1000000 in
theorem clip_any (A : Option Addr) (n c : Nat) (w : World) (hc : n ≤ c) : Calls Try.prog 39 #[.slice A n c] w fun e w' => e = .returned (.slice (wfullAt A n) n n) ∧ w = w' := by
  have q : ∀ w : World, _ := fun w => run_wfull (A := A) w hc
  go_enter Try.func39, Try.ntmps39
  go_wp2_with fail
  go_ret
  exact ⟨rfl, rfl⟩

set_option maxRecDepth 100000 in
set_option maxHeartbeats 4000000 in
theorem addcode_any (l : List Wr) (nm : List UInt8) (fl lim : Int) (w : World) (hn : l.length ≤ 100000) : Calls Try.prog 37 #[.string (strB nm), .int .i64 fl, .int .i64 (l.length : Int), .int .i64 lim] w fun e w' => e = .returned (.int .i64 (addC l nm fl lim)) ∧ Below w.heap.size w w' := by
  have HN := Lib.hid (fun w => namecode_any nm w)
  have HF := Lib.hid (fun w => areflags_any fl w)
  obtain ⟨z, ez⟩ : ∃ z, namedC nm = z := ⟨_, rfl⟩
  rw [ez] at HN
  by_cases hz : z = 0
  · subst hz
    cases hf : flagB fl with
    | true =>
      rw [hf] at HF
      by_cases hr : (l.length : Int) < lim ∧ l.length < 1024
      · have H2 : Hid (addC l nm fl lim = 0) := by show _ = _; unfold addC roomB; rw [ez, hf]; simp [hr]
        have r1 : decide (lim ≤ (l.length : Int)) = false := by simp; omega
        have r2 : decide ((1024 : Int) ≤ (l.length : Int)) = false := by simp; omega
        rw [H2.out]
        clear ez hf hr
        go_enter Try.func37, Try.ntmps37
        go_wp2_with fail
        refine (HN.out _).mono ?_
        rintro e1 w1 ⟨rfl, b1⟩
        have HB := Lib.hid b1
        clear b1
        go_wp2_with fail
        refine (HF.out _).mono ?_
        rintro e1 w6 ⟨rfl, rfl⟩
        go_wp2_with fail
        go_ret
        exact ⟨rfl, HB.out⟩
      · have H2 : Hid (addC l nm fl lim = -8) := by show _ = _; unfold addC roomB; rw [ez, hf, show decide ((l.length : Int) < lim ∧ l.length < 1024) = false by simpa using hr]; simp
        rw [H2.out]
        by_cases r1 : lim ≤ (l.length : Int)
        · clear ez hf hr
          go_enter Try.func37, Try.ntmps37
          go_wp2_with fail
          refine (HN.out _).mono ?_
          rintro e1 w1 ⟨rfl, b1⟩
          have HB := Lib.hid b1
          clear b1
          go_wp2_with fail
          refine (HF.out _).mono ?_
          rintro e1 w6 ⟨rfl, rfl⟩
          go_wp2_with fail
          go_ret
          exact ⟨rfl, HB.out⟩
        · have r1' : decide (lim ≤ (l.length : Int)) = false := by simp; omega
          have r2 : (1024 : Int) ≤ (l.length : Int) := by omega
          clear ez hf hr r1
          go_enter Try.func37, Try.ntmps37
          go_wp2_with fail
          refine (HN.out _).mono ?_
          rintro e1 w1 ⟨rfl, b1⟩
          have HB := Lib.hid b1
          clear b1
          go_wp2_with fail
          refine (HF.out _).mono ?_
          rintro e1 w6 ⟨rfl, rfl⟩
          go_wp2_with fail
          go_ret
          exact ⟨rfl, HB.out⟩
    | false =>
      rw [hf] at HF
      have H2 : Hid (addC l nm fl lim = -24) := by show _ = _; unfold addC; rw [ez, hf]; simp
      rw [H2.out]
      clear ez hf
      go_enter Try.func37, Try.ntmps37
      go_wp2_with fail
      refine (HN.out _).mono ?_
      rintro e1 w1 ⟨rfl, b1⟩
      have HB := Lib.hid b1
      clear b1
      go_wp2_with fail
      refine (HF.out _).mono ?_
      rintro e1 w6 ⟨rfl, rfl⟩
      go_wp2_with fail
      go_ret
      exact ⟨rfl, HB.out⟩
  · have H2 : Hid (addC l nm fl lim = z) := by show _ = _; unfold addC; rw [ez, if_pos hz]
    have hz1 : ((z : Int) != 0) = true := by simpa using hz
    have hz2 : ((z : Int) == 0) = false := by simpa using hz
    rw [H2.out]
    clear ez hz
    go_enter Try.func37, Try.ntmps37
    go_wp2_with fail
    refine (HN.out _).mono ?_
    rintro e1 w1 ⟨rfl, b1⟩
    have HB := Lib.hid b1
    clear b1
    go_wp2_with fail
    go_ret
    exact ⟨rfl, HB.out⟩

set_option maxRecDepth 100000 in
set_option maxHeartbeats 4000000 in
theorem dadd_any (A : Option Addr) (n c : Nat) (l : List Wr) (nm : List UInt8) (xt fl lim : Int) (w : World) (h : Wds w (.slice A n c) l) (hn : n ≤ 100000) : Calls Try.prog 19 #[.slice A n c, .string (strB nm), .int .i64 xt, .int .i64 fl, .int .i64 lim] w (DictOut (addL l nm xt fl lim) (addC l nm fl lim) w) := by
  have hl := h.len
  subst hl
  have HA := Lib.hid h
  have HC := Lib.hid (addcode_any l nm fl lim w hn)
  have HR := Lib.hid (fun w => clip_any A l.length c w h.room)
  have hadd : addL l nm xt fl lim = if addC l nm fl lim = 0 then l ++ [⟨nm, xt, fl⟩] else l := rfl
  obtain ⟨z, ez⟩ : ∃ z, addC l nm fl lim = z := ⟨_, rfl⟩
  rw [ez] at HC hadd ⊢
  rw [hadd]
  clear hadd ez
  unfold DictOut
  by_cases hz : z = 0
  · subst hz
    rw [if_pos rfl]
    clear h
    go_enter Try.func19, Try.ntmps19
    go_wp2_with fail
    refine HC.out.mono ?_
    rintro e1 w1 ⟨rfl, b1⟩
    have HB := Lib.hid b1
    have HA1 := Lib.hid (HA.out.keep b1)
    clear b1
    go_wp2_with fail
    refine (HR.out _).mono ?_
    rintro e1 w6 ⟨rfl, rfl⟩
    go_wp2_with (at_builtin; refine wpList_wgrow rfl _ _ rfl (wfullAt A l.length) l.length l.length l rfl (HA1.out.full.keep (al_one _ _)) w1.heap.size [⟨nm, xt, fl⟩] rfl (wds_newone w1 ⟨nm, xt, fl⟩) hn ?_; intro v2 w4 ho hb2; obtain ⟨A9, n9, c9, rfl⟩ := wds_slice ho.wds; have O4 := Lib.hid ho.wds; have B4 := Lib.hid (below_then (alloc_then HB.out) hb2); clear ho hb2)
    go_ret2
    exact ⟨A9, n9, c9, rfl, O4.out, B4.out⟩
  · have hz1 : ((z : Int) != 0) = true := by simpa using hz
    have hz2 : ((z : Int) == 0) = false := by simpa using hz
    rw [if_neg hz]
    clear h hz
    go_enter Try.func19, Try.ntmps19
    go_wp2_with fail
    refine HC.out.mono ?_
    rintro e1 w1 ⟨rfl, b1⟩
    have HB := Lib.hid b1
    have HA1 := Lib.hid (HA.out.keep b1)
    clear b1
    go_wp2_with fail
    refine (wclone_any A l.length c l w1 HA1.out hn).mono ?_
    rintro e1 w6 ⟨v, rfl, ho, b6⟩
    obtain ⟨A9, n9, c9, rfl⟩ := wds_slice ho.wds
    have O4 := Lib.hid ho.wds
    have B4 := Lib.hid (below_then HB.out b6)
    clear ho b6
    go_wp2_with fail
    go_ret2
    exact ⟨A9, n9, c9, rfl, O4.out, B4.out⟩

set_option maxRecDepth 100000 in
set_option maxHeartbeats 4000000 in
theorem dcut_any (A : Option Addr) (n c : Nat) (l : List Wr) (m : Int) (w : World) (h : Wds w (.slice A n c) l) (hn : n ≤ 100000) : Calls Try.prog 23 #[.slice A n c, .int .i64 m] w (DictOut (cutL l m) (cutC l m) w) := by
  have hl := h.len
  subst hl
  cases hk : cutB l m with
  | false =>
    have H1 : Hid (cutL l m = l) := by show _ = _; unfold cutL; rw [if_neg (by simp [hk])]
    have H2 : Hid (cutC l m = -24) := by show _ = _; unfold cutC; rw [if_neg (by simp [hk])]
    have HC := Lib.hid (wclone_any A l.length c l w h hn)
    have hno : ¬ (0 ≤ m ∧ m ≤ (l.length : Int)) := by unfold cutB at hk; simpa using hk
    rw [H1.out, H2.out]
    unfold DictOut
    by_cases h0 : m < 0
    · clear hno hk h
      go_enter Try.func23, Try.ntmps23
      go_wp2_with fail
      refine HC.out.mono ?_
      rintro e1 w6 ⟨v, rfl, ho, b6⟩
      obtain ⟨A9, n9, c9, rfl⟩ := wds_slice ho.wds
      have O4 := Lib.hid ho.wds
      have B4 := Lib.hid b6
      clear ho b6
      go_wp2_with fail
      go_ret2
      exact ⟨A9, n9, c9, rfl, O4.out, B4.out⟩
    · have h0' : decide (m < 0) = false := by simp; omega
      have h1 : (l.length : Int) < m := by omega
      clear hno hk h h0
      go_enter Try.func23, Try.ntmps23
      go_wp2_with fail
      refine HC.out.mono ?_
      rintro e1 w6 ⟨v, rfl, ho, b6⟩
      obtain ⟨A9, n9, c9, rfl⟩ := wds_slice ho.wds
      have O4 := Lib.hid ho.wds
      have B4 := Lib.hid b6
      clear ho b6
      go_wp2_with fail
      go_ret2
      exact ⟨A9, n9, c9, rfl, O4.out, B4.out⟩
  | true =>
    have hyes : 0 ≤ m ∧ m ≤ (l.length : Int) := by unfold cutB at hk; simpa using hk
    obtain ⟨k, rfl⟩ := Int.eq_ofNat_of_zero_le hyes.1
    have H1 : Hid (cutL l (k : Int) = l.take k) := by show _ = _; unfold cutL; rw [if_pos hk, Int.toNat_natCast]
    have H2 : Hid (cutC l (k : Int) = 0) := by show _ = _; unfold cutC; rw [if_pos hk]
    have hkl : k ≤ l.length := by omega
    have hcap : l.length ≤ c := h.room
    have HT := Lib.hid (wds_high h hkl)
    have h1 : decide ((l.length : Int) < (k : Int)) = false := by simp; omega
    have h2 : k ≤ c := by omega
    have HC := Lib.hid (wclone_any A k c (l.take k) w HT.out (by omega))
    rw [H1.out, H2.out]
    unfold DictOut
    clear hk hyes h
    go_enter Try.func23, Try.ntmps23
    go_wp2_with fail
    refine HC.out.mono ?_
    rintro e1 w6 ⟨v, rfl, ho, b6⟩
    obtain ⟨A9, n9, c9, rfl⟩ := wds_slice ho.wds
    have O4 := Lib.hid ho.wds
    have B4 := Lib.hid b6
    clear ho b6
    go_wp2_with fail
    go_ret2
    exact ⟨A9, n9, c9, rfl, O4.out, B4.out⟩

set_option maxRecDepth 100000 in
set_option maxHeartbeats 4000000 in
theorem dflag_any (A : Option Addr) (n c : Nat) (l : List Wr) (p fl : Int) (w : World) (h : Wds w (.slice A n c) l) (hn : n ≤ 100000) : Calls Try.prog 21 #[.slice A n c, .int .i64 p, .int .i64 fl] w (DictOut (flgL l p fl) (flgC l p fl) w) := by
  have hl := h.len
  subst hl
  have HC := Lib.hid (wclone_any A l.length c l w h hn)
  have HF := Lib.hid (fun w => areflags_any fl w)
  unfold DictOut
  cases hk : flgB l p fl with
  | false =>
    have H1 : Hid (flgL l p fl = l) := by show _ = _; unfold flgL; rw [if_neg (by simp [hk])]
    have H2 : Hid (flgC l p fl = -24) := by show _ = _; unfold flgC; rw [if_neg (by simp [hk])]
    rw [H1.out, H2.out]
    by_cases h0 : p < 0
    · clear hk h
      go_enter Try.func21, Try.ntmps21
      go_wp2_with fail
      refine HC.out.mono ?_
      rintro e1 w6 ⟨v, rfl, ho, b6⟩
      obtain ⟨A9, n9, c9, rfl⟩ := wds_slice ho.wds
      have O4 := Lib.hid ho.wds
      have B4 := Lib.hid b6
      clear ho b6
      go_wp2_with fail
      go_ret2
      exact ⟨A9, n9, c9, rfl, O4.out, B4.out⟩
    · have h0' : decide (p < 0) = false := by simp; omega
      by_cases h1 : (l.length : Int) ≤ p
      · clear hk h h0
        go_enter Try.func21, Try.ntmps21
        go_wp2_with fail
        refine HC.out.mono ?_
        rintro e1 w6 ⟨v, rfl, ho, b6⟩
        obtain ⟨A9, n9, c9, rfl⟩ := wds_slice ho.wds
        have O4 := Lib.hid ho.wds
        have B4 := Lib.hid b6
        clear ho b6
        go_wp2_with fail
        go_ret2
        exact ⟨A9, n9, c9, rfl, O4.out, B4.out⟩
      · have h1' : decide ((l.length : Int) ≤ p) = false := by simp; omega
        have hf : flagB fl = false := by
          unfold flgB at hk
          rw [show decide (0 ≤ p ∧ p < (l.length : Int)) = true by simp; omega, Bool.true_and] at hk
          exact hk
        rw [hf] at HF
        clear hk h h0 h1 hf
        go_enter Try.func21, Try.ntmps21
        go_wp2_with fail
        refine HC.out.mono ?_
        rintro e1 w6 ⟨v, rfl, ho, b6⟩
        obtain ⟨A9, n9, c9, rfl⟩ := wds_slice ho.wds
        have O4 := Lib.hid ho.wds
        have B4 := Lib.hid b6
        clear ho b6
        go_wp2_with fail
        refine (HF.out _).mono ?_
        rintro e1 w7 ⟨rfl, rfl⟩
        go_wp2_with fail
        go_ret2
        exact ⟨A9, n9, c9, rfl, O4.out, B4.out⟩
  | true =>
    have hy : (0 ≤ p ∧ p < (l.length : Int)) ∧ flagB fl = true := by
      unfold flgB at hk
      rw [Bool.and_eq_true, decide_eq_true_eq] at hk
      exact hk
    obtain ⟨k, rfl⟩ := Int.eq_ofNat_of_zero_le hy.1.1
    have H1 : Hid (flgL l (k : Int) fl = l.set k { l.getD k w0 with fl := fl }) := by show _ = _; unfold flgL; rw [if_pos hk, Int.toNat_natCast]
    have H2 : Hid (flgC l (k : Int) fl = 0) := by show _ = _; unfold flgC; rw [if_pos hk]
    have hkl : k < l.length := by omega
    have hkl' : (k : Int) < (l.length : Int) := by omega
    have h1 : decide ((l.length : Int) ≤ (k : Int)) = false := by simp; omega
    rw [hy.2] at HF
    rw [H1.out, H2.out]
    clear h hk hy
    go_enter Try.func21, Try.ntmps21
    go_wp2_with fail
    refine HC.out.mono ?_
    rintro e1 w6 ⟨v, rfl, ho, b6⟩
    obtain ⟨g, cap, rfl, hbg, hgw, hcs⟩ := WOwns.block ho (by omega)
    obtain ⟨⟨x, hx⟩, hfz⟩ := hcs k (by omega)
    have O4 := Lib.hid ho
    have B4 := Lib.hid b6
    have HG := Lib.hid hbg
    clear ho b6 hcs hbg
    go_wp2_with fail
    refine (HF.out _).mono ?_
    rintro e1 w7 ⟨rfl, rfl⟩
    go_wp2_with fail
    go_ret2
    refine ⟨some ⟨g, 0, none⟩, l.length, cap, rfl, ?_, B4.out.setCell (p := ⟨g, k * 3 + 2, none⟩) HG.out _⟩
    have hw := (O4.out.setFl hkl fl).wds
    simpa [hkl] using hw
end Go.Proofs.Ytnjmhgbdhekmdaa

/- All contracts of the landed dict. -/

/- The head of all statements of layer 9: the document's example comes out. -/
namespace Go.Proofs.Ytnjmhgbdhekmdaa
open Go.RowKit
set_option linter.unusedVariables false
set_option linter.unusedSimpArgs false

def d1 : List Wr := [⟨[68, 85, 80], 8, 0⟩]
def d2 : List Wr := [⟨[68, 85, 80], 8, 0⟩, ⟨[100, 117, 112], 16, 1⟩]
def d3 : List Wr := [⟨[68, 85, 80], 8, 0⟩, ⟨[100, 117, 112], 16, 2⟩]
theorem n9a : addL [] [68, 85, 80] 8 0 9 = d1 ∧ addC [] [68, 85, 80] 0 9 = 0 := by decide +kernel
theorem n9b : addL d1 [100, 117, 112] 16 1 9 = d2 ∧ addC d1 [100, 117, 112] 1 9 = 0 := by decide +kernel
theorem n9c : findI d2 [68, 117, 112] = some 1 := by decide +kernel
theorem n9d : flgL d2 1 2 = d3 ∧ flgC d2 1 2 = 0 := by decide +kernel
theorem n9e : findI d3 [100, 117, 112] = some 0 := by decide +kernel
theorem n9f : cutL d2 1 = d1 ∧ cutC d2 1 = 0 := by decide +kernel
theorem n9g : ofI d2 8 = some 0 := by decide +kernel
theorem n9h : addC d2 [] 0 9 = -16 := by decide +kernel
theorem n9i : dRight d2 = true ∧ dRight [w0] = false := by decide +kernel
theorem n9j : dSame d2 d2 = true ∧ dSame d2 d1 = false := by decide +kernel
theorem d2fl : ∀ q ∈ d2, 0 ≤ q.fl ∧ q.fl ≤ 7 := by decide +kernel
theorem d3fl : ∀ q ∈ d3, 0 ≤ q.fl ∧ q.fl ≤ 7 := by decide +kernel
theorem d2nl : ∀ q ∈ d2, q.nm.length ≤ 100000 := by decide +kernel
theorem d3nl : ∀ q ∈ d3, q.nm.length ≤ 100000 := by decide +kernel
theorem g9a (A : Option Addr) (c : Nat) (w : World) (h : Wds w (.slice A 2 c) d2) : Calls Try.prog 15 #[.slice A 2 c, .string (strB [68, 117, 112])] w fun e w' => e = .returned (.tuple #[.agg #[.string ⟨#[100, 117, 112]⟩, .int .i64 16, .int .i64 1], .int .i64 1, .bool true]) ∧ Below w.heap.size w w' := by
  have := dfind_any A 2 c d2 [68, 117, 112] w h (by omega) d2fl d2nl (by simp)
  rw [n9c] at this
  exact this
theorem g9b (A : Option Addr) (c : Nat) (w : World) (h : Wds w (.slice A 2 c) d3) : Calls Try.prog 15 #[.slice A 2 c, .string (strB [100, 117, 112])] w fun e w' => e = .returned (.tuple #[.agg #[.string ⟨#[68, 85, 80]⟩, .int .i64 8, .int .i64 0], .int .i64 0, .bool true]) ∧ Below w.heap.size w w' := by
  have := dfind_any A 2 c d3 [100, 117, 112] w h (by omega) d3fl d3nl (by simp)
  rw [n9e] at this
  exact this
theorem g9c (A : Option Addr) (c : Nat) (w : World) (h : Wds w (.slice A 2 c) d2) : Calls Try.prog 17 #[.slice A 2 c, .int .i64 8] w fun e w' => e = .returned (.tuple #[.agg #[.string ⟨#[68, 85, 80]⟩, .int .i64 8, .int .i64 0], .int .i64 0, .bool true]) ∧ Below w.heap.size w w' := by
  have := dof_any A 2 c d2 8 w h (by omega)
  rw [n9g] at this
  exact this
set_option maxRecDepth 100000 in
set_option maxHeartbeats 8000000 in
theorem shown_any9 (w : World) : Calls Try.prog 9 #[] w fun e w' => e = .returned (.bool true) ∧ Below w.heap.size w w' := by
  go_enter Try.func9, Try.ntmps9
  have B0 : Hid (Below w.heap.size w w) := Below.refl _ _
  go_wp2_with fail
  refine (dadd_any none 0 0 [] [68, 85, 80] 8 0 9 _ (wds_nil _) (by omega)).mono ?_
  rw [n9a.1, n9a.2]
  rintro e w1 ⟨A1, n1, c1, rfl, hy, bb⟩
  have B1 := Lib.hid (below_then B0.out bb)
  have L1 := Lib.hid hy
  clear bb B0 hy
  obtain rfl : 1 = n1 := L1.out.len
  go_wp2_with fail
  refine (dadd_any A1 1 c1 d1 [100, 117, 112] 16 1 9 _ L1.out (by omega)).mono ?_
  rw [n9b.1, n9b.2]
  rintro e w2 ⟨A2, n2, c2, rfl, hy, bb⟩
  have L2 := Lib.hid (L1.out.keep bb)
  have B2 := Lib.hid (below_then B1.out bb)
  have M2 := Lib.hid hy
  clear bb L1 B1 hy
  clear L2
  obtain rfl : 2 = n2 := M2.out.len
  go_wp2_with fail
  refine (g9a A2 c2 _ M2.out).mono ?_
  rintro e w3 ⟨rfl, bb⟩
  have Mp := Lib.hid (M2.out.keep bb)
  have M3 := Lib.hid (Mp.out.keep (al_one _ (.cells #[.string ⟨#[100, 117, 112]⟩, .int .i64 16, .int .i64 1] 30)))
  have B3 := Lib.hid (below_then (below_then B2.out bb) (al_one _ (.cells #[.string ⟨#[100, 117, 112]⟩, .int .i64 16, .int .i64 1] 30)))
  have W3 := Lib.hid (wbox_new w3 ⟨[100, 117, 112], 16, 1⟩)
  clear bb M2 B2
  go_wp2_with fail
  refine (dflag_any A2 2 c2 d2 1 2 _ M3.out (by omega)).mono ?_
  rw [n9d.1, n9d.2]
  rintro e w4 ⟨A4, n4, c4, rfl, hy, bb⟩
  clear Mp
  have M4 := Lib.hid (M3.out.keep bb)
  have W4 := Lib.hid (W3.out.keep bb)
  have B4 := Lib.hid (below_then B3.out bb)
  have H4 := Lib.hid hy
  clear bb M3 W3 B3 hy
  obtain rfl : 2 = n4 := H4.out.len
  go_wp2_with fail
  refine (g9b A4 c4 _ H4.out).mono ?_
  rintro e w5 ⟨rfl, bb⟩
  have Mp := Lib.hid (M4.out.keep bb)
  have M5 := Lib.hid (Mp.out.keep (al_one _ (.cells #[.string ⟨#[68, 85, 80]⟩, .int .i64 8, .int .i64 0] 30)))
  have Wp := Lib.hid (W4.out.keep bb)
  have W5 := Lib.hid (Wp.out.keep (al_one _ (.cells #[.string ⟨#[68, 85, 80]⟩, .int .i64 8, .int .i64 0] 30)))
  have Hp := Lib.hid (H4.out.keep bb)
  have H5 := Lib.hid (Hp.out.keep (al_one _ (.cells #[.string ⟨#[68, 85, 80]⟩, .int .i64 8, .int .i64 0] 30)))
  have B5 := Lib.hid (below_then (below_then B4.out bb) (al_one _ (.cells #[.string ⟨#[68, 85, 80]⟩, .int .i64 8, .int .i64 0] 30)))
  have X5 := Lib.hid (wbox_new w5 ⟨[68, 85, 80], 8, 0⟩)
  clear bb M4 W4 H4 B4
  clear H5 Hp
  go_wp2_with fail
  refine (dcut_any A2 2 c2 d2 1 _ M5.out (by omega)).mono ?_
  rw [n9f.1, n9f.2]
  rintro e w6 ⟨A6, n6, c6, rfl, hy, bb⟩
  clear Mp Wp
  have M6 := Lib.hid (M5.out.keep bb)
  have W6 := Lib.hid (W5.out.keep bb)
  have X6 := Lib.hid (X5.out.keep bb)
  have B6 := Lib.hid (below_then B5.out bb)
  have C6 := Lib.hid hy
  clear bb M5 W5 X5 B5 hy
  obtain rfl : 1 = n6 := C6.out.len
  go_wp2_with fail
  refine (g9c A2 c2 _ M6.out).mono ?_
  rintro e w7 ⟨rfl, bb⟩
  have Mp := Lib.hid (M6.out.keep bb)
  have M7 := Lib.hid (Mp.out.keep (al_one _ (.cells #[.string ⟨#[68, 85, 80]⟩, .int .i64 8, .int .i64 0] 30)))
  have Wp := Lib.hid (W6.out.keep bb)
  have W7 := Lib.hid (Wp.out.keep (al_one _ (.cells #[.string ⟨#[68, 85, 80]⟩, .int .i64 8, .int .i64 0] 30)))
  have Xp := Lib.hid (X6.out.keep bb)
  have X7 := Lib.hid (Xp.out.keep (al_one _ (.cells #[.string ⟨#[68, 85, 80]⟩, .int .i64 8, .int .i64 0] 30)))
  have Cp := Lib.hid (C6.out.keep bb)
  have C7 := Lib.hid (Cp.out.keep (al_one _ (.cells #[.string ⟨#[68, 85, 80]⟩, .int .i64 8, .int .i64 0] 30)))
  have B7 := Lib.hid (below_then (below_then B6.out bb) (al_one _ (.cells #[.string ⟨#[68, 85, 80]⟩, .int .i64 8, .int .i64 0] 30)))
  have Y7 := Lib.hid (wbox_new w7 ⟨[68, 85, 80], 8, 0⟩)
  clear bb M6 W6 X6 C6 B6
  go_wp2_with fail
  refine (dadd_any A2 2 c2 d2 [] 0 0 9 _ M7.out (by omega)).mono ?_
  rw [n9h]
  rintro e w8 ⟨A8, n8, c8, rfl, hy, bb⟩
  clear Mp Wp Xp Cp
  have M8 := Lib.hid (M7.out.keep bb)
  have W8 := Lib.hid (W7.out.keep bb)
  have X8 := Lib.hid (X7.out.keep bb)
  have C8 := Lib.hid (C7.out.keep bb)
  have Y8 := Lib.hid (Y7.out.keep bb)
  have B8 := Lib.hid (below_then B7.out bb)
  have Z8 := Lib.hid hy
  clear bb M7 W7 X7 C7 Y7 B7 hy
  clear Z8
  obtain ⟨cW0, cW1, cW2, _, _, _⟩ := W8.out.use
  obtain ⟨cX0, cX1, cX2, _, _, _⟩ := X8.out.use
  obtain ⟨cY0, cY1, cY2, _, _, _⟩ := Y8.out.use
  replace cY0 : w8.cell? ⟨w7.heap.size, 0, none⟩ = some (.string ⟨#[68, 85, 80]⟩) := cY0
  replace cW1 : w8.cell? ⟨w3.heap.size, 1, none⟩ = some (.int .i64 16) := cW1
  replace cX1 : w8.cell? ⟨w5.heap.size, 1, none⟩ = some (.int .i64 8) := cX1
  go_wp2_with fail
  refine (dright_any A2 2 c2 d2 _ M8.out (by omega)).mono ?_
  rw [n9i.1]
  rintro e w9 ⟨rfl, bb⟩
  have M9 := Lib.hid (M8.out.keep bb)
  have W9 := Lib.hid (W8.out.keep bb)
  have X9 := Lib.hid (X8.out.keep bb)
  have C9 := Lib.hid (C8.out.keep bb)
  have Y9 := Lib.hid (Y8.out.keep bb)
  have B9 := Lib.hid (below_then B8.out bb)
  clear bb cW0 cW1 cW2 cX0 cX1 cX2 cY0 cY1 cY2 M8 W8 X8 C8 Y8 B8
  clear W9
  clear X9
  clear Y9
  have HZ9 := Lib.hid (wds_newone w9 w0)
  go_wp2_with fail
  refine (dright_any (some ⟨w9.heap.size, 0, none⟩) 1 1 [w0] _ HZ9.out (by omega)).mono ?_
  rw [n9i.2]
  rintro e w10 ⟨rfl, bb⟩
  replace bb := al_then bb
  have M10 := Lib.hid (M9.out.keep bb)
  have C10 := Lib.hid (C9.out.keep bb)
  have B10 := Lib.hid (below_then B9.out bb)
  clear bb M9 C9 B9
  go_wp2_with fail
  refine (dsame_any A2 A2 2 c2 2 c2 d2 d2 _ M10.out M10.out (by decide)).mono ?_
  rw [n9j.1]
  rintro e w11 ⟨rfl, bb⟩
  have M11 := Lib.hid (M10.out.keep bb)
  have C11 := Lib.hid (C10.out.keep bb)
  have B11 := Lib.hid (below_then B10.out bb)
  clear bb M10 C10 B10
  go_wp2_with fail
  refine (dsame_any A2 A6 2 c2 1 c6 d2 d1 _ M11.out C11.out (by decide)).mono ?_
  rw [n9j.2]
  rintro e w12 ⟨rfl, bb⟩
  have M12 := Lib.hid (M11.out.keep bb)
  have C12 := Lib.hid (C11.out.keep bb)
  have B12 := Lib.hid (below_then B11.out bb)
  clear bb M11 C11 B11
  clear M12
  clear C12
  go_wp2_with fail
  go_ret
  exact ⟨rfl, B12.out⟩
end Go.Proofs.Ytnjmhgbdhekmdaa

/- What the struct arguments of layer 3's statements hold. -/
namespace Go.Proofs.Ytnjmhgbdhekmdaa
open Go.ChangeShapes Go.WideShapes Go.ChangeAt Go.RowKit Go.Joins Go.Deep
set_option linter.unusedVariables false
set_option linter.unusedSimpArgs false

theorem Byt.slice {w : World} {v : Value} {l : List UInt8} (h : Byt w v l) : ∃ A n c, v = .slice A n c := by
  obtain ⟨A, c, e, _⟩ := h
  exact ⟨A, _, c, e⟩
theorem wf_i64 {n : Int} (h : (Lit.int .i64 n).wf = true) : -9223372036854775808 ≤ n ∧ n ≤ 9223372036854775807 := by
  simp only [Lit.wf, IntKind.min, IntKind.max, IntKind.signed, IntKind.bits, Bool.and_eq_true, decide_eq_true_eq] at h
  simpa using h
theorem wf_u8 {n : Int} (h : (Lit.int .u8 n).wf = true) : 0 ≤ n ∧ n ≤ 255 := by
  simp only [Lit.wf, IntKind.min, IntKind.max, IntKind.signed, IntKind.bits, Bool.and_eq_true, decide_eq_true_eq] at h
  simpa using h
theorem Byt.cap {w : World} {A : Option Addr} {n c : Nat} {l : List UInt8} (h : Byt w (.slice A n c) l) : n ≤ 9223372036854775807 := by
  obtain ⟨A', c', e, h1, h2, _⟩ := h
  injection e with _ e _
  have h3 : maxLen ≤ 9223372036854775807 := by decide
  omega
section
variable {H : Type} {enc : TypeId × Value → H} {w : World}
end
end Go.Proofs.Ytnjmhgbdhekmdaa

/- What the arguments of layer 9's statements hold. -/
namespace Go.Proofs.Ytnjmhgbdhekmdaa
open Go.ChangeShapes Go.WideShapes Go.ChangeAt Go.RowKit Go.Joins Go.Deep
set_option linter.unusedVariables false
set_option linter.unusedSimpArgs false

section
variable {H : Type} {enc : TypeId × Value → H} {w : World}
set_option maxRecDepth 100000 in
theorem open_word {fuel : Nat} {cs : List Value} {x : DataW H × List MemPlace} (h : DataW.trod enc Try.prog w 0 (fun _ => true) true fuel 30 cs = some x) : ∃ s_nm j_xt j_fl, cs = [.string (strB s_nm), .int .i64 j_xt, .int .i64 j_fl] ∧ s_nm.length ≤ 9223372036854775807 ∧ (Lit.int .i64 j_xt).wf = true ∧ (Lit.int .i64 j_fl).wf = true := by
  obtain ⟨ys, n, _, _, hlen, hyl, hf⟩ := DataW.trod_struct Try.underlying30 h
  have h2 : cs.length = 3 := hlen.trans (by kernel_rfl)
  have hy2 : ys.length = 3 := hyl
  match cs, h2 with
  | [c0, c1, c2], _ =>
    have f0 : DataW.trod enc Try.prog w 0 (fun _ => true) true n 9 (([c0, c1, c2].drop 0).take (Try.prog.cellsOf 9)) = ys[0]? := hf 0 _ rfl
    rw [show Try.prog.cellsOf 9 = 1 by kernel_rfl] at f0
    rw [show ys[0]? = some (ys[0]'(by omega)) from List.getElem?_eq_getElem _] at f0
    have f1 : DataW.trod enc Try.prog w 0 (fun _ => true) true n 3 (([c0, c1, c2].drop 1).take (Try.prog.cellsOf 3)) = ys[1]? := hf 1 _ rfl
    rw [show Try.prog.cellsOf 3 = 1 by kernel_rfl] at f1
    rw [show ys[1]? = some (ys[1]'(by omega)) from List.getElem?_eq_getElem _] at f1
    have f2 : DataW.trod enc Try.prog w 0 (fun _ => true) true n 3 (([c0, c1, c2].drop 2).take (Try.prog.cellsOf 3)) = ys[2]? := hf 2 _ rfl
    rw [show Try.prog.cellsOf 3 = 1 by kernel_rfl] at f2
    rw [show ys[2]? = some (ys[2]'(by omega)) from List.getElem?_eq_getElem _] at f2
    obtain ⟨p0, e0, _, w0⟩ := DataW.trod_string Try.underlying9 f0
    have e0' : c0 = .string p0 := by simpa using e0
    subst e0'
    obtain ⟨q0, rfl⟩ : ∃ l, p0 = strB l := ⟨_, (strB_of p0).symm⟩
    have hw0 : q0.length ≤ 9223372036854775807 := Nat.le_trans w0 (by decide)
    obtain ⟨p1, e1, _, w1⟩ := DataW.trod_int Try.underlying3 f1
    have e1' : c1 = .int .i64 p1 := by simpa using e1
    subst e1'
    obtain ⟨p2, e2, _, w2⟩ := DataW.trod_int Try.underlying3 f2
    have e2' : c2 = .int .i64 p2 := by simpa using e2
    subst e2'
    exact ⟨q0, p1, p2, rfl, hw0, w1, w2⟩
theorem open_wds {fuel : Nat} {v : Value} {x : DataW H × List MemPlace} (h : DataW.trod enc Try.prog w 0 (fun _ => true) true fuel 22 [v] = some x) : ∃ l, Wds w v l := by
  have hC : Try.prog.cellsOf 30 = 3 := by kernel_rfl
  rcases open_slice Try.underlying22 h with ⟨hcs, _⟩ | ⟨a, len, cap, mm, n, D, Pl, hcs, _, hl, hm, hmm, _, hi⟩
  · simp at hcs
    subst hcs
    exact ⟨[], wds_nil w⟩
  · simp at hcs hmm
    subst hcs
    rw [hC] at hi
    obtain ⟨L, hL, hR⟩ := list_of len (fun i (q : Wr) => w.cell? (a.add (i * 3)) = some (.string (strB q.nm)) ∧ w.cell? (a.add (i * 3 + 1)) = some (.int .i64 q.xt) ∧ w.cell? (a.add (i * 3 + 2)) = some (.int .i64 q.fl)) (fun i hilt => by
      obtain ⟨cs', hc, ht⟩ := hi i (by omega)
      obtain ⟨nm, xt, fl, rfl, _, _, _⟩ := open_word ht
      obtain ⟨_, _, hat⟩ := World.cells?_some hc
      refine ⟨⟨nm, xt, fl⟩, ?_, ?_, ?_⟩
      · have := hat 0 (by omega)
        rw [Go.Deep.add_add] at this
        simpa using this
      · have := hat 1 (by omega)
        rw [Go.Deep.add_add] at this
        simpa using this
      · have := hat 2 (by omega)
        rw [Go.Deep.add_add] at this
        simpa using this)
    refine ⟨L, some a, cap, by rw [hL], by rw [hL]; exact hl, hm, ?_⟩
    by_cases h0 : len = 0
    · subst h0
      have : L = [] := List.eq_nil_of_length_eq_zero hL
      subst this
      exact .inl rfl
    · have hL0 : L[0]? = some (L[0]'(by omega)) := List.getElem?_eq_getElem _
      obtain ⟨b, off, rfl, hb⟩ := plain_of (hR 0 _ hL0).1
      refine .inr ⟨b, off, rfl, hb, fun j v hv => ?_⟩
      have hj : j < len * 3 := by have := (List.getElem?_eq_some_iff.1 hv).1; rw [wds_len, hL] at this; exact this
      have hk : j / 3 < L.length := by omega
      have hLk : L[j / 3]? = some L[j / 3] := List.getElem?_eq_getElem hk
      obtain ⟨r1, r2, r3⟩ := hR (j / 3) _ hLk
      rw [add_at] at r1 r2 r3
      obtain ⟨t1, t2, t3⟩ := wds_at hk
      rcases (by omega : j % 3 = 0 ∨ j % 3 = 1 ∨ j % 3 = 2) with he | he | he
      · rw [show 3 * (j / 3) = j by omega, hv] at t1
        injection t1 with t1
        rw [t1, show off + j = off + j / 3 * 3 by omega]
        exact r1
      · rw [show 3 * (j / 3) + 1 = j by omega, hv] at t2
        injection t2 with t2
        rw [t2, show off + j = off + (j / 3 * 3 + 1) by omega]
        exact r2
      · rw [show 3 * (j / 3) + 2 = j by omega, hv] at t3
        injection t3 with t3
        rw [t3, show off + j = off + (j / 3 * 3 + 2) by omega]
        exact r3
theorem open_dwds {fuel : Nat} {v : Value} {x : DataW H × List MemPlace} (h : DataW.trod enc Try.prog w 0 (fun _ => true) true fuel 22 [v] = some x) : ∃ A n c l, v = .slice A n c ∧ Wds w (.slice A n c) l := by
  obtain ⟨l, h⟩ := open_wds h
  obtain ⟨A, n, c, rfl⟩ := wds_slice h
  exact ⟨A, n, c, l, rfl, h⟩
set_option maxRecDepth 100000 in
theorem open_dictTellsIn {fuel : Nat} {cs : List Value} {x : DataW H × List MemPlace} (h : DataW.trod enc Try.prog w 0 (fun _ => true) true fuel 24 cs = some x) : ∃ A_l L_l c_l l_l A_o L_o c_o l_o s_name j_xt, cs = [.slice A_l L_l c_l, .slice A_o L_o c_o, .string (strB s_name), .int .i64 j_xt] ∧ Wds w (.slice A_l L_l c_l) l_l ∧ Wds w (.slice A_o L_o c_o) l_o ∧ s_name.length ≤ 9223372036854775807 ∧ (Lit.int .i64 j_xt).wf = true := by
  obtain ⟨ys, n, _, _, hlen, hyl, hf⟩ := DataW.trod_struct Try.underlying24 h
  have h2 : cs.length = 4 := hlen.trans (by kernel_rfl)
  have hy2 : ys.length = 4 := hyl
  match cs, h2 with
  | [c0, c1, c2, c3], _ =>
    have f0 : DataW.trod enc Try.prog w 0 (fun _ => true) true n 22 (([c0, c1, c2, c3].drop 0).take (Try.prog.cellsOf 22)) = ys[0]? := hf 0 _ rfl
    rw [show Try.prog.cellsOf 22 = 1 by kernel_rfl] at f0
    rw [show ys[0]? = some (ys[0]'(by omega)) from List.getElem?_eq_getElem _] at f0
    have f1 : DataW.trod enc Try.prog w 0 (fun _ => true) true n 22 (([c0, c1, c2, c3].drop 1).take (Try.prog.cellsOf 22)) = ys[1]? := hf 1 _ rfl
    rw [show Try.prog.cellsOf 22 = 1 by kernel_rfl] at f1
    rw [show ys[1]? = some (ys[1]'(by omega)) from List.getElem?_eq_getElem _] at f1
    have f2 : DataW.trod enc Try.prog w 0 (fun _ => true) true n 9 (([c0, c1, c2, c3].drop 2).take (Try.prog.cellsOf 9)) = ys[2]? := hf 2 _ rfl
    rw [show Try.prog.cellsOf 9 = 1 by kernel_rfl] at f2
    rw [show ys[2]? = some (ys[2]'(by omega)) from List.getElem?_eq_getElem _] at f2
    have f3 : DataW.trod enc Try.prog w 0 (fun _ => true) true n 3 (([c0, c1, c2, c3].drop 3).take (Try.prog.cellsOf 3)) = ys[3]? := hf 3 _ rfl
    rw [show Try.prog.cellsOf 3 = 1 by kernel_rfl] at f3
    rw [show ys[3]? = some (ys[3]'(by omega)) from List.getElem?_eq_getElem _] at f3
    obtain ⟨b0, hb0⟩ := open_wds f0
    obtain ⟨B0, l0, z0, e0⟩ := wds_slice hb0
    have e0' : c0 = .slice B0 l0 z0 := e0
    subst e0'
    obtain ⟨b1, hb1⟩ := open_wds f1
    obtain ⟨B1, l1, z1, e1⟩ := wds_slice hb1
    have e1' : c1 = .slice B1 l1 z1 := e1
    subst e1'
    obtain ⟨p2, e2, _, w2⟩ := DataW.trod_string Try.underlying9 f2
    have e2' : c2 = .string p2 := by simpa using e2
    subst e2'
    obtain ⟨q2, rfl⟩ : ∃ l, p2 = strB l := ⟨_, (strB_of p2).symm⟩
    have hw2 : q2.length ≤ 9223372036854775807 := Nat.le_trans w2 (by decide)
    obtain ⟨p3, e3, _, w3⟩ := DataW.trod_int Try.underlying3 f3
    have e3' : c3 = .int .i64 p3 := by simpa using e3
    subst e3'
    exact ⟨B0, l0, z0, b0, B1, l1, z1, b1, q2, p3, rfl, hb0, hb1, hw2, w3⟩
set_option maxRecDepth 100000 in
theorem open_dictDoesIn {fuel : Nat} {cs : List Value} {x : DataW H × List MemPlace} (h : DataW.trod enc Try.prog w 0 (fun _ => true) true fuel 36 cs = some x) : ∃ A_l L_l c_l l_l s_name j_xt j_flags j_n, cs = [.slice A_l L_l c_l, .string (strB s_name), .int .i64 j_xt, .int .i64 j_flags, .int .i64 j_n] ∧ Wds w (.slice A_l L_l c_l) l_l ∧ s_name.length ≤ 9223372036854775807 ∧ (Lit.int .i64 j_xt).wf = true ∧ (Lit.int .i64 j_flags).wf = true ∧ (Lit.int .i64 j_n).wf = true := by
  obtain ⟨ys, n, _, _, hlen, hyl, hf⟩ := DataW.trod_struct Try.underlying36 h
  have h2 : cs.length = 5 := hlen.trans (by kernel_rfl)
  have hy2 : ys.length = 5 := hyl
  match cs, h2 with
  | [c0, c1, c2, c3, c4], _ =>
    have f0 : DataW.trod enc Try.prog w 0 (fun _ => true) true n 22 (([c0, c1, c2, c3, c4].drop 0).take (Try.prog.cellsOf 22)) = ys[0]? := hf 0 _ rfl
    rw [show Try.prog.cellsOf 22 = 1 by kernel_rfl] at f0
    rw [show ys[0]? = some (ys[0]'(by omega)) from List.getElem?_eq_getElem _] at f0
    have f1 : DataW.trod enc Try.prog w 0 (fun _ => true) true n 9 (([c0, c1, c2, c3, c4].drop 1).take (Try.prog.cellsOf 9)) = ys[1]? := hf 1 _ rfl
    rw [show Try.prog.cellsOf 9 = 1 by kernel_rfl] at f1
    rw [show ys[1]? = some (ys[1]'(by omega)) from List.getElem?_eq_getElem _] at f1
    have f2 : DataW.trod enc Try.prog w 0 (fun _ => true) true n 3 (([c0, c1, c2, c3, c4].drop 2).take (Try.prog.cellsOf 3)) = ys[2]? := hf 2 _ rfl
    rw [show Try.prog.cellsOf 3 = 1 by kernel_rfl] at f2
    rw [show ys[2]? = some (ys[2]'(by omega)) from List.getElem?_eq_getElem _] at f2
    have f3 : DataW.trod enc Try.prog w 0 (fun _ => true) true n 3 (([c0, c1, c2, c3, c4].drop 3).take (Try.prog.cellsOf 3)) = ys[3]? := hf 3 _ rfl
    rw [show Try.prog.cellsOf 3 = 1 by kernel_rfl] at f3
    rw [show ys[3]? = some (ys[3]'(by omega)) from List.getElem?_eq_getElem _] at f3
    have f4 : DataW.trod enc Try.prog w 0 (fun _ => true) true n 3 (([c0, c1, c2, c3, c4].drop 4).take (Try.prog.cellsOf 3)) = ys[4]? := hf 4 _ rfl
    rw [show Try.prog.cellsOf 3 = 1 by kernel_rfl] at f4
    rw [show ys[4]? = some (ys[4]'(by omega)) from List.getElem?_eq_getElem _] at f4
    obtain ⟨b0, hb0⟩ := open_wds f0
    obtain ⟨B0, l0, z0, e0⟩ := wds_slice hb0
    have e0' : c0 = .slice B0 l0 z0 := e0
    subst e0'
    obtain ⟨p1, e1, _, w1⟩ := DataW.trod_string Try.underlying9 f1
    have e1' : c1 = .string p1 := by simpa using e1
    subst e1'
    obtain ⟨q1, rfl⟩ : ∃ l, p1 = strB l := ⟨_, (strB_of p1).symm⟩
    have hw1 : q1.length ≤ 9223372036854775807 := Nat.le_trans w1 (by decide)
    obtain ⟨p2, e2, _, w2⟩ := DataW.trod_int Try.underlying3 f2
    have e2' : c2 = .int .i64 p2 := by simpa using e2
    subst e2'
    obtain ⟨p3, e3, _, w3⟩ := DataW.trod_int Try.underlying3 f3
    have e3' : c3 = .int .i64 p3 := by simpa using e3
    subst e3'
    obtain ⟨p4, e4, _, w4⟩ := DataW.trod_int Try.underlying3 f4
    have e4' : c4 = .int .i64 p4 := by simpa using e4
    subst e4'
    exact ⟨B0, l0, z0, b0, q1, p2, p3, p4, rfl, hb0, hw1, w2, w3, w4⟩
set_option maxRecDepth 100000 in
theorem open_dictNewestIn {fuel : Nat} {cs : List Value} {x : DataW H × List MemPlace} (h : DataW.trod enc Try.prog w 0 (fun _ => true) true fuel 48 cs = some x) : ∃ A_l L_l c_l l_l s_name j_xt j_flags s_other, cs = [.slice A_l L_l c_l, .string (strB s_name), .int .i64 j_xt, .int .i64 j_flags, .string (strB s_other)] ∧ Wds w (.slice A_l L_l c_l) l_l ∧ s_name.length ≤ 9223372036854775807 ∧ (Lit.int .i64 j_xt).wf = true ∧ (Lit.int .i64 j_flags).wf = true ∧ s_other.length ≤ 9223372036854775807 := by
  obtain ⟨ys, n, _, _, hlen, hyl, hf⟩ := DataW.trod_struct Try.underlying48 h
  have h2 : cs.length = 5 := hlen.trans (by kernel_rfl)
  have hy2 : ys.length = 5 := hyl
  match cs, h2 with
  | [c0, c1, c2, c3, c4], _ =>
    have f0 : DataW.trod enc Try.prog w 0 (fun _ => true) true n 22 (([c0, c1, c2, c3, c4].drop 0).take (Try.prog.cellsOf 22)) = ys[0]? := hf 0 _ rfl
    rw [show Try.prog.cellsOf 22 = 1 by kernel_rfl] at f0
    rw [show ys[0]? = some (ys[0]'(by omega)) from List.getElem?_eq_getElem _] at f0
    have f1 : DataW.trod enc Try.prog w 0 (fun _ => true) true n 9 (([c0, c1, c2, c3, c4].drop 1).take (Try.prog.cellsOf 9)) = ys[1]? := hf 1 _ rfl
    rw [show Try.prog.cellsOf 9 = 1 by kernel_rfl] at f1
    rw [show ys[1]? = some (ys[1]'(by omega)) from List.getElem?_eq_getElem _] at f1
    have f2 : DataW.trod enc Try.prog w 0 (fun _ => true) true n 3 (([c0, c1, c2, c3, c4].drop 2).take (Try.prog.cellsOf 3)) = ys[2]? := hf 2 _ rfl
    rw [show Try.prog.cellsOf 3 = 1 by kernel_rfl] at f2
    rw [show ys[2]? = some (ys[2]'(by omega)) from List.getElem?_eq_getElem _] at f2
    have f3 : DataW.trod enc Try.prog w 0 (fun _ => true) true n 3 (([c0, c1, c2, c3, c4].drop 3).take (Try.prog.cellsOf 3)) = ys[3]? := hf 3 _ rfl
    rw [show Try.prog.cellsOf 3 = 1 by kernel_rfl] at f3
    rw [show ys[3]? = some (ys[3]'(by omega)) from List.getElem?_eq_getElem _] at f3
    have f4 : DataW.trod enc Try.prog w 0 (fun _ => true) true n 9 (([c0, c1, c2, c3, c4].drop 4).take (Try.prog.cellsOf 9)) = ys[4]? := hf 4 _ rfl
    rw [show Try.prog.cellsOf 9 = 1 by kernel_rfl] at f4
    rw [show ys[4]? = some (ys[4]'(by omega)) from List.getElem?_eq_getElem _] at f4
    obtain ⟨b0, hb0⟩ := open_wds f0
    obtain ⟨B0, l0, z0, e0⟩ := wds_slice hb0
    have e0' : c0 = .slice B0 l0 z0 := e0
    subst e0'
    obtain ⟨p1, e1, _, w1⟩ := DataW.trod_string Try.underlying9 f1
    have e1' : c1 = .string p1 := by simpa using e1
    subst e1'
    obtain ⟨q1, rfl⟩ : ∃ l, p1 = strB l := ⟨_, (strB_of p1).symm⟩
    have hw1 : q1.length ≤ 9223372036854775807 := Nat.le_trans w1 (by decide)
    obtain ⟨p2, e2, _, w2⟩ := DataW.trod_int Try.underlying3 f2
    have e2' : c2 = .int .i64 p2 := by simpa using e2
    subst e2'
    obtain ⟨p3, e3, _, w3⟩ := DataW.trod_int Try.underlying3 f3
    have e3' : c3 = .int .i64 p3 := by simpa using e3
    subst e3'
    obtain ⟨p4, e4, _, w4⟩ := DataW.trod_string Try.underlying9 f4
    have e4' : c4 = .string p4 := by simpa using e4
    subst e4'
    obtain ⟨q4, rfl⟩ : ∃ l, p4 = strB l := ⟨_, (strB_of p4).symm⟩
    have hw4 : q4.length ≤ 9223372036854775807 := Nat.le_trans w4 (by decide)
    exact ⟨B0, l0, z0, b0, q1, p2, p3, q4, rfl, hb0, hw1, w2, w3, hw4⟩
set_option maxRecDepth 100000 in
theorem open_dictNamesIn {fuel : Nat} {cs : List Value} {x : DataW H × List MemPlace} (h : DataW.trod enc Try.prog w 0 (fun _ => true) true fuel 54 cs = some x) : ∃ A_l L_l c_l l_l s_name j_flags j_lim, cs = [.slice A_l L_l c_l, .string (strB s_name), .int .i64 j_flags, .int .u8 j_lim] ∧ Wds w (.slice A_l L_l c_l) l_l ∧ s_name.length ≤ 9223372036854775807 ∧ (Lit.int .i64 j_flags).wf = true ∧ (Lit.int .u8 j_lim).wf = true := by
  obtain ⟨ys, n, _, _, hlen, hyl, hf⟩ := DataW.trod_struct Try.underlying54 h
  have h2 : cs.length = 4 := hlen.trans (by kernel_rfl)
  have hy2 : ys.length = 4 := hyl
  match cs, h2 with
  | [c0, c1, c2, c3], _ =>
    have f0 : DataW.trod enc Try.prog w 0 (fun _ => true) true n 22 (([c0, c1, c2, c3].drop 0).take (Try.prog.cellsOf 22)) = ys[0]? := hf 0 _ rfl
    rw [show Try.prog.cellsOf 22 = 1 by kernel_rfl] at f0
    rw [show ys[0]? = some (ys[0]'(by omega)) from List.getElem?_eq_getElem _] at f0
    have f1 : DataW.trod enc Try.prog w 0 (fun _ => true) true n 9 (([c0, c1, c2, c3].drop 1).take (Try.prog.cellsOf 9)) = ys[1]? := hf 1 _ rfl
    rw [show Try.prog.cellsOf 9 = 1 by kernel_rfl] at f1
    rw [show ys[1]? = some (ys[1]'(by omega)) from List.getElem?_eq_getElem _] at f1
    have f2 : DataW.trod enc Try.prog w 0 (fun _ => true) true n 3 (([c0, c1, c2, c3].drop 2).take (Try.prog.cellsOf 3)) = ys[2]? := hf 2 _ rfl
    rw [show Try.prog.cellsOf 3 = 1 by kernel_rfl] at f2
    rw [show ys[2]? = some (ys[2]'(by omega)) from List.getElem?_eq_getElem _] at f2
    have f3 : DataW.trod enc Try.prog w 0 (fun _ => true) true n 5 (([c0, c1, c2, c3].drop 3).take (Try.prog.cellsOf 5)) = ys[3]? := hf 3 _ rfl
    rw [show Try.prog.cellsOf 5 = 1 by kernel_rfl] at f3
    rw [show ys[3]? = some (ys[3]'(by omega)) from List.getElem?_eq_getElem _] at f3
    obtain ⟨b0, hb0⟩ := open_wds f0
    obtain ⟨B0, l0, z0, e0⟩ := wds_slice hb0
    have e0' : c0 = .slice B0 l0 z0 := e0
    subst e0'
    obtain ⟨p1, e1, _, w1⟩ := DataW.trod_string Try.underlying9 f1
    have e1' : c1 = .string p1 := by simpa using e1
    subst e1'
    obtain ⟨q1, rfl⟩ : ∃ l, p1 = strB l := ⟨_, (strB_of p1).symm⟩
    have hw1 : q1.length ≤ 9223372036854775807 := Nat.le_trans w1 (by decide)
    obtain ⟨p2, e2, _, w2⟩ := DataW.trod_int Try.underlying3 f2
    have e2' : c2 = .int .i64 p2 := by simpa using e2
    subst e2'
    obtain ⟨p3, e3, _, w3⟩ := DataW.trod_int Try.underlying5 f3
    have e3' : c3 = .int .u8 p3 := by simpa using e3
    subst e3'
    exact ⟨B0, l0, z0, b0, q1, p2, p3, rfl, hb0, hw1, w2, w3⟩
set_option maxRecDepth 100000 in
theorem open_dictCutsIn {fuel : Nat} {cs : List Value} {x : DataW H × List MemPlace} (h : DataW.trod enc Try.prog w 0 (fun _ => true) true fuel 57 cs = some x) : ∃ A_l L_l c_l l_l j_a j_b s_name, cs = [.slice A_l L_l c_l, .int .u8 j_a, .int .u8 j_b, .string (strB s_name)] ∧ Wds w (.slice A_l L_l c_l) l_l ∧ (Lit.int .u8 j_a).wf = true ∧ (Lit.int .u8 j_b).wf = true ∧ s_name.length ≤ 9223372036854775807 := by
  obtain ⟨ys, n, _, _, hlen, hyl, hf⟩ := DataW.trod_struct Try.underlying57 h
  have h2 : cs.length = 4 := hlen.trans (by kernel_rfl)
  have hy2 : ys.length = 4 := hyl
  match cs, h2 with
  | [c0, c1, c2, c3], _ =>
    have f0 : DataW.trod enc Try.prog w 0 (fun _ => true) true n 22 (([c0, c1, c2, c3].drop 0).take (Try.prog.cellsOf 22)) = ys[0]? := hf 0 _ rfl
    rw [show Try.prog.cellsOf 22 = 1 by kernel_rfl] at f0
    rw [show ys[0]? = some (ys[0]'(by omega)) from List.getElem?_eq_getElem _] at f0
    have f1 : DataW.trod enc Try.prog w 0 (fun _ => true) true n 5 (([c0, c1, c2, c3].drop 1).take (Try.prog.cellsOf 5)) = ys[1]? := hf 1 _ rfl
    rw [show Try.prog.cellsOf 5 = 1 by kernel_rfl] at f1
    rw [show ys[1]? = some (ys[1]'(by omega)) from List.getElem?_eq_getElem _] at f1
    have f2 : DataW.trod enc Try.prog w 0 (fun _ => true) true n 5 (([c0, c1, c2, c3].drop 2).take (Try.prog.cellsOf 5)) = ys[2]? := hf 2 _ rfl
    rw [show Try.prog.cellsOf 5 = 1 by kernel_rfl] at f2
    rw [show ys[2]? = some (ys[2]'(by omega)) from List.getElem?_eq_getElem _] at f2
    have f3 : DataW.trod enc Try.prog w 0 (fun _ => true) true n 9 (([c0, c1, c2, c3].drop 3).take (Try.prog.cellsOf 9)) = ys[3]? := hf 3 _ rfl
    rw [show Try.prog.cellsOf 9 = 1 by kernel_rfl] at f3
    rw [show ys[3]? = some (ys[3]'(by omega)) from List.getElem?_eq_getElem _] at f3
    obtain ⟨b0, hb0⟩ := open_wds f0
    obtain ⟨B0, l0, z0, e0⟩ := wds_slice hb0
    have e0' : c0 = .slice B0 l0 z0 := e0
    subst e0'
    obtain ⟨p1, e1, _, w1⟩ := DataW.trod_int Try.underlying5 f1
    have e1' : c1 = .int .u8 p1 := by simpa using e1
    subst e1'
    obtain ⟨p2, e2, _, w2⟩ := DataW.trod_int Try.underlying5 f2
    have e2' : c2 = .int .u8 p2 := by simpa using e2
    subst e2'
    obtain ⟨p3, e3, _, w3⟩ := DataW.trod_string Try.underlying9 f3
    have e3' : c3 = .string p3 := by simpa using e3
    subst e3'
    obtain ⟨q3, rfl⟩ : ∃ l, p3 = strB l := ⟨_, (strB_of p3).symm⟩
    have hw3 : q3.length ≤ 9223372036854775807 := Nat.le_trans w3 (by decide)
    exact ⟨B0, l0, z0, b0, p1, p2, q3, rfl, hb0, w1, w2, hw3⟩
end
end Go.Proofs.Ytnjmhgbdhekmdaa
