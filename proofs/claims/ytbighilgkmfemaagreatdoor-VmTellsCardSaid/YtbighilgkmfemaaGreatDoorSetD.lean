/- What the laws of this stage lean on, part 4: PicRefA, StkBase, StkA, StkB, StkV, VmAll, VmBase, VmNames, VmFlag, VmFits, VmRows, VmFew. -/
import Derived.Test.YtbighilgkmfemaaGreatDoorSetC
import Derived.Test.YtbighilgkmfemaaGreatDoorRows
import Derived.WalkKit
import Derived.WalkSpells
import Derived.WalkLawsBesides
import Derived.Deep.QuietTactic
import Derived.BigQuiet
import Derived.Lib.Hide
import Derived.Laws.OwnMore
import Derived.OwnWalk
import Derived.Maps.AppendAt
import Derived.Deep.AppendLies
import Derived.Laws.CopyOwn
import Derived.Lib.SmallJoins
import Derived.Deep.RegionHeld3
import Derived.IntWalk
import Derived.Test.YtbighilgkmfemaaGreatDoorSetB
import Derived.Test.YtbighilgkmfemaaGreatDoorSetA
import Derived.Laws.Tables
import Derived.Great.BuildSlice

/- Contracts of the document's Begin, Right, Same, Hold, Sign. -/
namespace Go.Proofs.YtbighilgkmfemaaGreatDoor
open Go.RowKit
set_option linter.unusedVariables false
set_option linter.unusedSimpArgs false

set_option maxRecDepth 100000 in
theorem rright_any (A : Option Addr) (n c : Nat) (o : Bool) (l : List UInt8) (w : World) (h : Byt w (.slice A n c) l) :
    Calls Tryz.prog 60 #[.agg #[.slice A n c, .bool o]] w fun e w' => e = .returned (.bool (pRight o l)) ∧ Below w.heap.size w w' := by
  have hl := h.len
  by_cases h1 : n ≤ 130
  · have h1' : (n : Int) ≤ 130 := by omega
    cases o with
    | true =>
      have H : Hid (pRight true l = true) := (pRight_iff _ _).2 ⟨by omega, .inl rfl⟩
      rw [H.out]
      clear h hl
      go_enter Tryz.func60, Tryz.ntmps60
      go_wp2
      go_ret
      exact ⟨rfl, al_one _ _⟩
    | false =>
      by_cases h0 : n = 0
      · have H : Hid (pRight false l = true) := (pRight_iff _ _).2 ⟨by omega, .inr (len_zero (by omega))⟩
        rw [H.out]
        clear h hl
        subst h0
        go_enter Tryz.func60, Tryz.ntmps60
        go_wp2
        go_ret
        exact ⟨rfl, al_one _ _⟩
      · have H : Hid (pRight false l = false) := (pRight_no _ _).2 (by rintro ⟨_, h | h⟩; cases h; rw [h] at hl; exact h0 hl.symm)
        rw [H.out]
        have h0' : ((n : Int) == 0) = false := by simp; omega
        clear h hl
        go_enter Tryz.func60, Tryz.ntmps60
        go_wp2
        go_ret
        exact ⟨rfl, al_one _ _⟩
  · have H : Hid (pRight o l = false) := (pRight_no _ _).2 (by omega)
    have h1' : decide ((n : Int) ≤ 130) = false := by simp; omega
    rw [H.out]
    clear h hl h1
    go_enter Tryz.func60, Tryz.ntmps60
    go_wp2
    go_ret
    exact ⟨rfl, al_one _ _⟩

set_option maxRecDepth 100000 in
theorem rsame_any (A A' : Option Addr) (n c n' c' : Nat) (o o' : Bool) (l l' : List UInt8) (w : World) (h : Byt w (.slice A n c) l) (h' : Byt w (.slice A' n' c') l') :
    Calls Tryz.prog 50 #[.agg #[.slice A n c, .bool o], .agg #[.slice A' n' c', .bool o']] w fun e w' => e = .returned (.bool (pSame o l o' l')) ∧ Below w.heap.size w w' := by
  by_cases ho : o = o'
  · subst ho
    have k1 := (al_one w (.cells #[.slice A n c, .bool o] 32)).trans ((al_one _ (.cells #[.slice A' n' c', .bool o] 32)).mono (by simp))
    have c1 := (h.keep k1).conv
    have c2 := (h'.keep k1).conv
    have K := Lib.hid k1
    have hb : PBox _ _ _ _ _ _ ∧ PBox _ _ _ _ _ _ := box_two w (.slice A n c) (.bool o) (.slice A' n' c') (.bool o) 32 32
    obtain ⟨b1, b2, _, _⟩ := hb.1.use
    obtain ⟨b3, b4, _, _⟩ := hb.2.use
    by_cases hs : l = l'
    · have H : Hid (pSame o l o l' = true) := by show _ = _; unfold pSame; simp [hs]
      rw [H.out]
      subst hs
      clear h h' k1 hb
      go_enter Tryz.func50, Tryz.ntmps50
      go_wp2
      go_ret
      exact ⟨rfl, K.out⟩
    · have H : Hid (pSame o l o l' = false) := by show _ = _; unfold pSame; simp [hs]
      rw [H.out]
      have hs' := str_ne (a := strB l) (b := strB l') (fun e => hs (strB_inj e))
      clear h h' k1 hb hs
      go_enter Tryz.func50, Tryz.ntmps50
      go_wp2
      go_ret
      exact ⟨rfl, K.out⟩
  · have H : Hid (pSame o l o' l' = false) := by show _ = _; unfold pSame; simp [ho]
    rw [H.out]
    have ho' : (o == o') = false := by simpa using ho
    clear h h' ho
    go_enter Tryz.func50, Tryz.ntmps50
    go_wp2
    go_ret
    exact ⟨rfl, (al_one w (.cells #[.slice A n c, .bool o] 32)).trans ((al_one _ (.cells #[.slice A' n' c', .bool o'] 32)).mono (by simp))⟩
end Go.Proofs.YtbighilgkmfemaaGreatDoor

/- The head of the texts on layer 4: how a row of cells lies in a world, and what an append leaves. -/
namespace Go.Proofs.YtbighilgkmfemaaGreatDoor
open Go.RowKit
set_option linter.unusedVariables false
set_option linter.unusedSimpArgs false

theorem below_thenS {w w1 w2 : World} (h : Below w.heap.size w w1) (k : Below w1.heap.size w1 w2) : Below w.heap.size w w2 := h.trans (k.mono h.size)
theorem below_one (w : World) (o : Obj) : Below w.heap.size w (w.alloc o) := (Below.refl _ w).alloc (Nat.le_refl _) o
theorem below_ad (w : World) (o : Obj) : Below w.heap.size w (w.alloc o).drew := (below_one w o).trans ⟨rfl, rfl, rfl, Nat.le_refl _, fun _ _ => rfl⟩
theorem ret_boolS {a b : Bool} (h : a = b) : Ending.returned (.bool a) = .returned (.bool b) := by rw [h]

abbrev ints (l : List Int) : List Value := l.map (Value.int .i64)
theorem ints_len (l : List Int) : (ints l).length = l.length := by simp [ints]
theorem ints_app (a b : List Int) : ints (a ++ b) = ints a ++ ints b := by simp [ints]
theorem ints_one (l : List Int) : ∀ v ∈ ints l, v.oneCell' = true := by
  intro v hv
  rw [List.mem_map] at hv
  obtain ⟨b, _, rfl⟩ := hv
  rfl
theorem ints_at {l : List Int} {j : Nat} (h : j < l.length) : (ints l)[j]? = some (.int .i64 (l.getD j 0)) := by simp [ints, h]

/-- A row of cells lies at an address. -/
def LiesS (w : World) (A : Option Addr) (xs : List Value) : Prop :=
  xs = [] ∨ ∃ g o, A = some ⟨g, o, none⟩ ∧ g < w.heap.size ∧ ∀ j v, xs[j]? = some v → w.cell? ⟨g, o + j, none⟩ = some v
theorem add_atS (g o j : Nat) : (⟨g, o, none⟩ : Addr).add j = ⟨g, o + j, none⟩ := by unfold Addr.add; split <;> simp_all
theorem LiesS.keep {w w' : World} {A : Option Addr} {xs : List Value} (h : LiesS w A xs) (b : Below w.heap.size w w') : LiesS w' A xs := by
  rcases h with h | ⟨g, o, hA, hg, hc⟩
  · exact .inl h
  · exact .inr ⟨g, o, hA, Nat.lt_of_lt_of_le hg b.size, fun j v hv => (b.cell (p := ⟨g, o + j, none⟩) hg).trans (hc j v hv)⟩
theorem hpos_ofS {w : World} {A : Option Addr} {xs : List Value} (h : LiesS w A xs) {w' : World} (b : Below w.heap.size w w') (hx : 0 < xs.length) : ∃ ad, A = some ad ∧ ∀ j v, xs[j]? = some v → w'.cell? (ad.add j) = some v := by
  rcases h.keep b with rfl | ⟨g, o, rfl, _, hc⟩
  · simp at hx
  · exact ⟨_, rfl, fun j v hv => by rw [add_atS]; exact hc j v hv⟩

/-- A slice of cells. -/
def Row (w : World) (A : Option Addr) (n c : Nat) (l : List Int) : Prop := l.length = n ∧ n ≤ c ∧ c ≤ maxLen ∧ LiesS w A (ints l)
theorem Row.keep {w w' : World} {A : Option Addr} {n c : Nat} {l : List Int} (h : Row w A n c l) (b : Below w.heap.size w w') : Row w' A n c l := ⟨h.1, h.2.1, h.2.2.1, h.2.2.2.keep b⟩
theorem row_nil (w : World) : Row w none 0 0 [] := ⟨rfl, Nat.le_refl _, Nat.zero_le _, .inl rfl⟩
theorem Row.cells {w : World} {A : Option Addr} {n c : Nat} {l : List Int} (h : Row w A n c l) (hn : 0 < n) : ∃ g o, A = some ⟨g, o, none⟩ ∧ g < w.heap.size ∧ ∀ j, j < n → w.cell? ⟨g, o + j, none⟩ = some (.int .i64 (l.getD j 0)) := by
  obtain ⟨h1, _, _, h4⟩ := h
  rcases h4 with h4 | ⟨g, o, hA, hg, hc⟩
  · have : l = [] := by simpa [ints] using h4
    subst this
    simp at h1
    omega
  · exact ⟨g, o, hA, hg, fun j hj => hc j _ (ints_at (by omega))⟩
theorem Row.high {w : World} {A : Option Addr} {n c : Nat} {l : List Int} (h : Row w A n c l) {k : Nat} (hk : k ≤ n) : Row w A k c (l.take k) := by
  obtain ⟨h1, h2, h3, h4⟩ := h
  refine ⟨by simp; omega, by omega, h3, ?_⟩
  rcases h4 with h4 | ⟨g, o, hA, hg, hc⟩
  · left
    have := congrArg List.length h4
    rw [ints_len] at this
    simp at this
    subst this
    simp
  · refine .inr ⟨g, o, hA, hg, fun j v hv => hc j v ?_⟩
    unfold ints at hv
    rw [List.map_take, List.getElem?_take] at hv
    split at hv
    · exact hv
    · cases hv
/-- Where a slice's rest lies. -/
def restAt (A : Option Addr) (k c : Nat) : Option Addr := if c = k then A else A.map (·.add (k * 1))
theorem Row.rest {w : World} {A : Option Addr} {n c : Nat} {l : List Int} (h : Row w A n c l) {k : Nat} (hk : k ≤ n) : Row w (restAt A k c) (n - k) (c - k) (l.drop k) := by
  obtain ⟨h1, h2, h3, h4⟩ := h
  refine ⟨by simp; omega, by omega, by omega, ?_⟩
  by_cases hc : c = k
  · left
    have : l.drop k = [] := List.drop_eq_nil_of_le (by omega)
    rw [this]
    rfl
  · rcases h4 with h4 | ⟨g, o, rfl, hg, hcc⟩
    · left
      have := congrArg List.length h4
      rw [ints_len] at this
      simp at this
      subst this
      simp
    · refine .inr ⟨g, o + k, by unfold restAt; rw [if_neg hc]; simp [add_atS], hg, fun j v hv => ?_⟩
      unfold ints at hv
      rw [List.map_drop, List.getElem?_drop] at hv
      rw [Nat.add_assoc]
      exact hcc _ v hv
theorem info_int : (Tryz.prog.info? 3).map (fun i => (i.zero, i.size, i.bytes)) = some (some (.int .i64 0), 1, 8) := by kernel_rfl
/-- A value that owns a row of cells. -/
abbrev Owns (w : World) (base : Nat) (v : Value) (n : Nat) (l : List Int) : Prop := w.ownsRow base 3 1 v n (ints l)
theorem Owns.row {w : World} {base n : Nat} {v : Value} {l : List Int} (h : Owns w base v n l) : ∃ A c, v = .slice A n c ∧ Row w A n c l := by
  have hl := h.1
  rw [ints_len, Nat.mul_one] at hl
  rcases h.2 with ⟨rfl, h0⟩ | ⟨g, cap, cur, rfl, _, hg, hnc, hcm, _, ht⟩
  · have : l = [] := List.eq_nil_of_length_eq_zero (by omega)
    subst this
    subst h0
    exact ⟨_, _, rfl, row_nil w⟩
  · refine ⟨_, _, rfl, hl, hnc, hcm, .inr ⟨g, 0, rfl, (Array.getElem?_eq_some_iff.1 hg).1, fun j x hx => ?_⟩⟩
    rw [← ht, List.getElem?_take] at hx
    split at hx
    · rw [Nat.zero_add]
      simp [World.cell?, hg]
      simpa using hx
    · cases hx
theorem Owns.alloc {w : World} {base n : Nat} {v : Value} {l : List Int} (h : Owns w base v n l) (o : Obj) : Owns (w.alloc o) base v n l := World.ownsRow.alloc h o
theorem own_fromS {w : World} {base e size n : Nat} {v : Value} {xs : List Value} (h : w.ownsRow base e size v n xs) : ∀ k, v.ownBlock = some k → base ≤ k := fun k hk => (h.lt k hk).1
theorem owns_block {w : World} {base g n : Nat} {l : List Int} (h : w.heap[g]? = some (.cells (ints l).toArray 3 (0, 0))) (hl : l.length = n) (hb : base ≤ g) (hm : n ≤ maxLen) : Owns w base (.slice (some ⟨g, 0, none⟩) n n) n l :=
  ⟨by rw [ints_len, hl, Nat.mul_one], .inr ⟨g, n, _, rfl, hb, h, Nat.le_refl _, hm, by simp [ints, hl], by rw [← hl, Nat.mul_one]; exact List.take_of_length_le (by simp [ints])⟩⟩

set_option maxRecDepth 100000 in
/-- append of a row to one that the call owns. -/
theorem run_app {w : World} (ty : TypeId) {base n : Nat} {v : Value} {xs : List Int} (hown : Owns w base v n xs) {A : Option Addr} {m c : Nat} {ys : List Int} (hr : Row w A m c ys) (h63 : n + m ≤ 1000000) (hbase : base ≤ w.heap.size) :
    ∃ v' w', (Builtin.append_ #[28, 28] ty #[v, .slice A m c]).run Tryz.prog w = .ok v' w' ∧ Owns w' base v' (n + m) (xs ++ ys) ∧ w.grownBy w' v.ownBlock := by
  obtain ⟨i0, hi, hz0, hz1, hz2⟩ := info_parts info_int
  obtain ⟨h1, h2, h3, h4⟩ := hr
  cases A with
  | some ad =>
    have hsrc : ∀ j u, (ints ys)[j]? = some u → w.cell? (ad.add j) = some u := by
      intro j u hu
      rcases h4 with h4 | ⟨g, o, e, _, hc⟩
      · rw [h4] at hu; simp at hu
      · injection e with e
        rw [e, add_atS]
        exact hc j u hu
    obtain ⟨v', w', ha, hb, hc, _⟩ := run_append_own (P := Tryz.prog) w base 28 ty 3 i0 (.int .i64 0) 1 8 Tryz.underlying28 hi hz0 hz1 hz2 rfl (by decide) v n (ints xs) hown ad m c (ints ys) (by rw [ints_len, h1, Nat.mul_one]) hsrc (ints_one ys) (by unfold maxLen; omega) (by omega) hbase
    exact ⟨v', w', ha, by have e := ints_app xs ys; unfold Owns; rw [e]; exact hb, hc⟩
  | none =>
    have hnil : ys = [] := by
      rcases h4 with h | ⟨_, _, h, _⟩
      · simpa [ints] using h
      · cases h
    subst hnil
    have hm : m = 0 := by rw [← h1]; rfl
    subst hm
    refine ⟨v, w, ?_, by simpa using hown, World.grownBy.refl w _⟩
    rcases hown.2 with ⟨rfl, rfl⟩ | ⟨g, cap, cur, rfl, _, _, hnc, _⟩
    · simp [Builtin.append_, run_underlying Tryz.underlying28, sizeOf, typeInfo, hi, Builtin.lenOf, Builtin.firstCells]
    · simp [Builtin.append_, run_underlying Tryz.underlying28, sizeOf, typeInfo, hi, Builtin.lenOf, Builtin.firstCells, hnc, storeCells]
theorem app_below {w0 w w' : World} {base n : Nat} {v : Value} {xs : List Int} (hown : Owns w base v n xs) (hb : Below w0.heap.size w0 w) (hg : w.grownBy w' v.ownBlock) (hB : w0.heap.size ≤ base) : Below w0.heap.size w0 w' :=
  hb.grown hg hb.size (fun k hk => Nat.le_trans hB (own_fromS hown k hk))

theorem wp_app {o : Oper} {a : Act} {K : Act → World → Prop} {Q : Exit → Act → World → Prop} {w : World} (s x : Operand)
    (ho : o.op = .call { callee := .builtin .append, args := #[s, x], argTypes := #[28, 28] })
    (base : Nat) (v : Value) (n : Nat) (xs : List Int) (hs : a.eval s = v) (hown : Owns w base v n xs)
    (A : Option Addr) (m c : Nat) (ys : List Int) (hx : a.eval x = .slice A m c) (hr : Row w A m c ys) (h63 : n + m ≤ 1000000) (hbase : base ≤ w.heap.size)
    (w0 : World) (hb : Below w0.heap.size w0 w) (hB : w0.heap.size ≤ base)
    (h : ∀ v' w', Owns w' base v' (n + m) (xs ++ ys) → Below w0.heap.size w0 w' → K (a.put o.dst v') w') : o.wp Tryz.prog a w K Q := by
  obtain ⟨v', w', hr, h2, h3⟩ := run_app o.type hown hr h63 hbase
  unfold Oper.wp execOp
  simp only [ho, resolve, invoke, builtin, Sem.run_bind, Sem.run_pure, Result.andThen_ok, List.map_toArray, List.map_cons, List.map_nil, hs, hx, hr]
  exact h v' w' h2 (app_below hown hb h3 hB)
theorem wpList_app {ops : Array Oper} {rest : List Oper} {o : Oper} {a : Act} {Q : Exit → Act → World → Prop} {w : World} (hgd : o.guard = none) (s x : Operand)
    (ho : o.op = .call { callee := .builtin .append, args := #[s, x], argTypes := #[28, 28] })
    (base : Nat) (v : Value) (n : Nat) (xs : List Int) (hs : a.eval s = v) (hown : Owns w base v n xs)
    (A : Option Addr) (m c : Nat) (ys : List Int) (hx : a.eval x = .slice A m c) (hr : Row w A m c ys) (h63 : n + m ≤ 1000000) (hbase : base ≤ w.heap.size)
    (w0 : World) (hb : Below w0.heap.size w0 w) (hB : w0.heap.size ≤ base)
    (h : ∀ v' w', Owns w' base v' (n + m) (xs ++ ys) → Below w0.heap.size w0 w' → wpList Tryz.prog ops Q rest (a.put o.dst v') w') : wpList Tryz.prog ops Q (o :: rest) a w :=
  wpList_plain hgd fun _ hK => wp_app s x ho base v n xs hs hown A m c ys hx hr h63 hbase w0 hb hB fun v' w' h2 h3 => hK _ _ (h v' w' h2 h3)
theorem step_app {ops : Array Oper} {o : Oper} {a : Act} {K : Act → World → Prop} {Q : Exit → Act → World → Prop} {E : Prop} {w : World} (hgd : o.guard = none) (s x : Operand)
    (ho : o.op = .call { callee := .builtin .append, args := #[s, x], argTypes := #[28, 28] })
    (base : Nat) (v : Value) (n : Nat) (xs : List Int) (hs : a.eval s = v) (hown : Owns w base v n xs)
    (A : Option Addr) (m c : Nat) (ys : List Int) (hx : a.eval x = .slice A m c) (hr : Row w A m c ys) (h63 : n + m ≤ 1000000) (hbase : base ≤ w.heap.size)
    (w0 : World) (hb : Below w0.heap.size w0 w) (hB : w0.heap.size ≤ base)
    (h : ∀ v' w', Owns w' base v' (n + m) (xs ++ ys) → Below w0.heap.size w0 w' → K (a.put o.dst v') w') :
    if Region.wanted o (yielded ops a.tmps) = true then Oper.wp Tryz.prog o a w K Q else E := by
  have hw : Region.wanted o (yielded ops a.tmps) = true := by simp [Region.wanted, hgd]
  rw [if_pos hw]
  exact wp_app s x ho base v n xs hs hown A m c ys hx hr h63 hbase w0 hb hB h

/-- What has become of a world since; behind a name. -/
def Since (w a : World) : Prop := Below w.heap.size w a
theorem Since.drew {w a : World} (h : Since w a) : Since w a.drew := Below.trans h ⟨rfl, rfl, rfl, Nat.le_refl _, fun _ _ => rfl⟩
theorem Since.bel {w a : World} (h : Since w a) : Below w.heap.size w a := h
theorem Since.then {w a b : World} (h : Since w a) (k : Below a.heap.size a b) : Since w b := below_thenS h k
theorem Since.cell {w a : World} {g o : Nat} {v : Value} (h : Since w a) (hg : g < w.heap.size) (hc : w.cell? ⟨g, o, none⟩ = some v) : a.cell? ⟨g, o, none⟩ = some v := (Below.cell h (p := ⟨g, o, none⟩) hg).trans hc
theorem one_row (w : World) (x : Int) : Row (w.alloc (.cells #[.int .i64 x] 3)) (some ⟨w.heap.size, 0, none⟩) 1 1 [x] := by
  obtain ⟨_, _, e, h⟩ := Owns.row (l := [x]) (World.ownsRow_lit (base := 0) (e := 3) (size := 1) w #[.int .i64 x] 1 (Nat.zero_le _) (by unfold maxLen; omega) rfl)
  injection e with e1 e2 e3
  subst e1 e3
  exact h
theorem none_owns (w : World) : Owns (w.alloc (.cells #[] 3)) w.heap.size (.slice (some ⟨w.heap.size, 0, none⟩) 0 0) 0 [] := World.ownsRow_lit w #[] 0 (Nat.le_refl _) (by unfold maxLen; omega) rfl

theorem Row.grown {w w' : World} {g n c : Nat} {l : List Int} {row : Option Nat} (h : Row w (some ⟨g, 0, none⟩) n c l) (hg : w.grownBy w' row) (hne : some g ≠ row) : Row w' (some ⟨g, 0, none⟩) n c l := by
  refine ⟨h.1, h.2.1, h.2.2.1, ?_⟩
  rcases h.2.2.2 with h | ⟨b, o, e, hb, hc⟩
  · exact .inl h
  · injection e with e
    injection e with e1 e2
    subst e1 e2
    exact .inr ⟨g, 0, rfl, Nat.lt_of_lt_of_le hb hg.size, fun j v hv => (hg.cell_far ⟨g, 0 + j, none⟩ hb hne).trans (hc j v hv)⟩
end Go.Proofs.YtbighilgkmfemaaGreatDoor

/- Contracts of own, with, Push and Pop of package stk. -/
namespace Go.Proofs.YtbighilgkmfemaaGreatDoor
open Go.RowKit
set_option linter.unusedVariables false
set_option linter.unusedSimpArgs false

set_option maxRecDepth 100000 in
set_option maxHeartbeats 1000000 in
theorem own_any (A : Option Addr) (n c : Nat) (l : List Int) (w : World) (hn : n ≤ 65536) (HR : Hid (Row w A n c l)) :
    Calls Tryz.prog 105 #[.slice A n c] w fun e w' => ∃ g, e = .returned (.slice (some ⟨g, 0, none⟩) n n) ∧ Owns w' w.heap.size (.slice (some ⟨g, 0, none⟩) n n) n l ∧ Below w.heap.size w w' := by
  obtain ⟨i0, hi, hz0, hz1, hz2⟩ := info_parts info_int
  obtain ⟨Z, hZ⟩ : ∃ Z, Z = (madeCells (Value.int .i64 0).cells n).toList := ⟨_, rfl⟩
  obtain ⟨X, hX⟩ : ∃ X, X = ints l := ⟨_, rfl⟩
  have hmk : (Instr.makeSlice 28 (.int .i64 (n : Int)) (.int .i64 (n : Int))).run Tryz.prog w = .ok (.slice (some ⟨w.heap.size, 0, none⟩) n n) (w.alloc (.cells Z.toArray 3)) := by
    have := run_make (P := Tryz.prog) w 28 3 i0 (.int .i64 0) Tryz.underlying28 hi hz0 .i64 .i64 n n (by omega) (Int.le_refl _) (by rw [hz2]; omega) (by omega)
    rw [hz1] at this
    simpa [hZ] using this
  have HZ : Hid (Z.length = n) := by rw [hZ]; show _ = n; simp [size_madeCells]
  have HX : Hid (X.length = n) := by rw [hX]; have := HR.out.1; show _ = n; rw [ints_len]; exact this
  have HE := Lib.hid hX
  have HL0 := Lib.hid HR.out.2.2.2
  clear hX hZ hi hz0 hz1 hz2
  go_enter Tryz.func105, Tryz.ntmps105
  go_wp2_with (with_reducible refine wpList_copy_splice rfl (.tmp 7) (.tmp 8) 28 28 rfl 3 Tryz.underlying28 ?c0 (some ⟨w.heap.size, 0, none⟩) A n n n c rfl rfl w.heap.size 0 Z 3 ?c1 X ?c2 (fun hx => ⟨rfl, hpos_ofS (HE.out ▸ HL0.out) ((Below.refl _ _).alloc (Nat.le_refl _) _) hx⟩) ?c3 ?c4 w.heap.size w ?c5 ?c6 ?_)
  case c0 => kernel_rfl
  case c1 => exact heap_alloc_new _ _
  case c2 => rw [HX.out]; simp
  case c3 => rw [HX.out, HZ.out]; omega
  case c4 => rw [HE.out]; exact ints_one l
  case c5 => exact (Below.refl _ _).alloc (Nat.le_refl _) _
  case c6 => omega
  intro w2 hg hb2
  go_wp2
  go_ret
  refine ⟨w.heap.size, rfl, owns_block ?_ HR.out.1 (Nat.le_refl _) (by unfold maxLen; omega), hb2⟩
  have h2 := hg.out
  have e : splice Z 0 X = X := by
    have z := HZ.out
    have x := HX.out
    simp [splice, z, x]
  rw [e, HE.out] at h2
  exact h2

set_option maxRecDepth 100000 in
set_option maxHeartbeats 1000000 in
theorem with_anyS (A : Option Addr) (n c : Nat) (x : Int) (l : List Int) (w : World) (hn : n ≤ 65536) (HR : Hid (Row w A n c l)) :
    Calls Tryz.prog 106 #[.slice A n c, .int .i64 x] w fun e w' => ∃ g, e = .returned (.slice (some ⟨g, 0, none⟩) (n + 1) (n + 1)) ∧ Owns w' w.heap.size (.slice (some ⟨g, 0, none⟩) (n + 1) (n + 1)) (n + 1) (l ++ [x]) ∧ Below w.heap.size w w' := by
  obtain ⟨i0, hi, hz0, hz1, hz2⟩ := info_parts info_int
  obtain ⟨Z, hZ⟩ : ∃ Z, Z = (madeCells (Value.int .i64 0).cells (n + 1)).toList := ⟨_, rfl⟩
  obtain ⟨X, hX⟩ : ∃ X, X = ints l := ⟨_, rfl⟩
  have hmk : (Instr.makeSlice 28 (.int .i64 ((n : Int) + 1)) (.int .i64 ((n : Int) + 1))).run Tryz.prog w = .ok (.slice (some ⟨w.heap.size, 0, none⟩) (n + 1) (n + 1)) (w.alloc (.cells Z.toArray 3)) := by
    have := run_make (P := Tryz.prog) w 28 3 i0 (.int .i64 0) Tryz.underlying28 hi hz0 .i64 .i64 ((n : Int) + 1) ((n : Int) + 1) (by omega) (Int.le_refl _) (by rw [hz2]; omega) (by omega)
    rw [hz1] at this
    simpa [hZ] using this
  have HZ : Hid (Z.length = n + 1) := by rw [hZ]; show _ = n + 1; simp [size_madeCells]
  have HX : Hid (X.length = n) := by rw [hX]; have := HR.out.1; show _ = n; rw [ints_len]; exact this
  have HE := Lib.hid hX
  have HL0 := Lib.hid HR.out.2.2.2
  clear hX hZ hi hz0 hz1 hz2
  go_enter Tryz.func106, Tryz.ntmps106
  go_wp2_with (with_reducible refine wpList_copy_splice rfl (.tmp 10) (.tmp 11) 28 28 rfl 3 Tryz.underlying28 ?c0 (some ⟨w.heap.size, 0, none⟩) A (n + 1) (n + 1) n c rfl rfl w.heap.size 0 Z 3 ?c1 X ?c2 (fun hx => ⟨rfl, hpos_ofS (HE.out ▸ HL0.out) ((Below.refl _ _).alloc (Nat.le_refl _) _) hx⟩) ?c3 ?c4 w.heap.size w ?c5 ?c6 ?_)
  case c0 => kernel_rfl
  case c1 => exact heap_alloc_new _ _
  case c2 => rw [HX.out]; simp
  case c3 => rw [HX.out, HZ.out]; omega
  case c4 => rw [HE.out]; exact ints_one l
  case c5 => exact (Below.refl _ _).alloc (Nat.le_refl _) _
  case c6 => omega
  intro w2 hg hb2
  have e : splice Z 0 X = X ++ Z.drop n := by
    have z := HZ.out
    have x := HX.out
    simp [splice, z, x]
  rw [e] at hg
  have hl : (X ++ Z.drop n).length = n + 1 := by have z := HZ.out; have x := HX.out; simp [z, x]
  obtain ⟨y, hy⟩ : ∃ y, (X ++ Z.drop n)[n]? = some y := ⟨_, List.getElem?_eq_getElem (by omega)⟩
  have k2 : w2.cell? ⟨w.heap.size, n, none⟩ = some y := by
    simp only [World.cell?, hg.out]
    simpa using hy
  have f2 : w2.frozen? ⟨w.heap.size, n, none⟩ = false := by simp [World.frozen?, hg.out]
  have HB2 := Lib.hid hb2
  have HL := Lib.hid hl
  clear e hl hb2 hy
  go_wp2
  go_ret
  refine ⟨w.heap.size, rfl, owns_block ?_ (by have := HR.out.1; simp [this]) (Nat.le_refl _) (by unfold maxLen; omega), HB2.out.setCell (Nat.le_refl _) _⟩
  rw [Go.Joins.block_setCell hg.out]
  congr 2
  have z := HZ.out
  have x' := HX.out
  have hx : (X ++ Z.drop n).set n (.int .i64 x) = X ++ [.int .i64 x] := by
    rw [List.set_append_right _ _ (by omega), x', Nat.sub_self]
    congr 1
    have : Z.drop n = [Z[n]] := by
      rw [List.drop_eq_getElem_cons (by omega), List.drop_eq_nil_of_le (by omega)]
    rw [this]
    rfl
  rw [show ints (l ++ [x]) = X ++ [.int .i64 x] by rw [HE.out, ints_app]; rfl]
  simp [hx]
end Go.Proofs.YtbighilgkmfemaaGreatDoor

/- Contracts of Push and Pop of package stk, and of the document's own. -/
namespace Go.Proofs.YtbighilgkmfemaaGreatDoor
open Go.RowKit
set_option linter.unusedVariables false
set_option linter.unusedSimpArgs false

/-- What Push answers. -/
def pushL (l : List Int) (x limit : Int) : List Int := if limit ≤ (l.length : Int) then l else l ++ [x]
def pushC (l : List Int) (limit : Int) : Int := if limit ≤ (l.length : Int) then -3 else 0
/-- What Pop answers. -/
def popX (l : List Int) : Int := l.getD (l.length - 1) 0
def popL (l : List Int) : List Int := l.take (l.length - 1)
def popC (l : List Int) : Int := if l.length = 0 then -4 else 0

theorem pop_some {l : List Int} {k : Nat} (h : l.length = k + 1) : popX l = l.getD k 0 ∧ popL l = l.take k ∧ popC l = 0 := by
  unfold popX popL popC
  rw [h]
  exact ⟨rfl, rfl, rfl⟩

/-- Are two rows the same? -/
def sameB (a b : List Int) : Bool := decide (a = b)
theorem sameB_of {a b : List Int} (h : a = b) : sameB a b = true := by simp [sameB, h]
theorem sameB_len {a b : List Int} (h : a.length ≠ b.length) : sameB a b = false := by
  simp only [sameB, decide_eq_false_iff_not]
  intro e
  exact h (by rw [e])
theorem take_ne {a b : List Int} {k : Nat} (h : a.getD k 0 ≠ b.getD k 0) : sameB a b = false := by
  simp only [sameB, decide_eq_false_iff_not]
  intro e
  exact h (by rw [e])
theorem take_all {a b : List Int} {n : Nat} (ha : a.length = n) (hb : b.length = n) (h : ∀ j, j < n → a.getD j 0 = b.getD j 0) : sameB a b = true := by
  refine sameB_of (List.ext_getElem (by omega) fun j h1 h2 => ?_)
  have := h j (by omega)
  simpa [List.getD, h1, h2] using this

set_option maxRecDepth 100000 in
set_option maxHeartbeats 4000000 in
theorem same_eq (A B : Option Addr) (n c d : Nat) (l r : List Int) (w : World) (hn : n ≤ 65536) (HL : Hid (Row w A n c l)) (HR : Hid (Row w B n d r)) :
    Calls Tryz.prog 47 #[.slice A n c, .slice B n d] w fun e w' => e = .returned (.bool (sameB l r)) ∧ Below w.heap.size w w' := by
  have HA : Hid (l.length = n) := HL.out.1
  have HB : Hid (r.length = n) := HR.out.1
  go_enter Tryz.func47, Tryz.ntmps47
  go_wp2
  go_loopw [5] (fun i wr => ∃ k : Nat, k ≤ n ∧ i = .int .i64 (k : Int) ∧ Hid (∀ j, j < k → l.getD j 0 = r.getD j 0) ∧ Below w.heap.size w wr) (fun i _ => n - (intOf i).toNat)
  case atStart => exact ⟨0, by omega, rfl, Lib.hid (fun j hj => by omega), Below.refl _ _⟩
  case round =>
    obtain ⟨k, hk, rfl, HJ, hb⟩ := hrel
    by_cases hlt : k < n
    · obtain ⟨g, o, rfl, hg, hc1⟩ := HL.out.cells (by omega)
      obtain ⟨g2, o2, rfl, hg2, hc2⟩ := HR.out.cells (by omega)
      obtain ⟨x, hx⟩ : ∃ x, l.getD k 0 = x := ⟨_, rfl⟩
      obtain ⟨y, hy⟩ : ∃ y, r.getD k 0 = y := ⟨_, rfl⟩
      have k1 := (hb.cell (p := ⟨g, o + k, none⟩) hg).trans (hc1 k hlt)
      have k2 := (hb.cell (p := ⟨g2, o2 + k, none⟩) hg2).trans (hc2 k hlt)
      rw [hx] at k1
      rw [hy] at k2
      have hlt' : (k : Int) < (n : Int) := by omega
      have H1 := Lib.hid hx
      have H2 := Lib.hid hy
      have H3 := Lib.hid hb
      clear hx hy hc1 hc2 hb
      by_cases he : x = y
      · have hne : (x != y) = false := by simp [he]
        have HE := Lib.hid he
        clear he
        go_wp2_with fail
        go_quiet (fail)
        go_wp2
        go_roundw
        case rel => exact ⟨k + 1, by omega, by go_num, Lib.hid (fun j hj => by
          by_cases hjk : j = k
          · subst hjk; rw [H1.out, H2.out, HE.out]
          · exact HJ.out j (by omega)), H3.out.trans (Go.Joins.below_draws _ _ _)⟩
        case measure => simp [intOf]; omega
      · have hne : (x != y) = true := by simp [he]
        have HE : Hid (sameB l r = false) := take_ne (k := k) (by rw [H1.out, H2.out]; exact he)
        clear he
        go_wp2_with fail
        go_quiet (fail)
        go_wp2
        go_ret
        exact ⟨ret_boolS HE.out.symm, H3.out.trans (Go.Joins.below_draws _ _ _)⟩
    · have hkn : decide (k < n) = false := by simp; omega
      have HE : Hid (sameB l r = true) := take_all HA.out HB.out (fun j hj => HJ.out j (by omega))
      go_wp2
      go_ret
      exact ⟨ret_boolS HE.out.symm, hb⟩

set_option maxRecDepth 100000 in
theorem same_atS (A B : Option Addr) (n c m d : Nat) (l r : List Int) (w : World) (hn : n ≤ 65536) (hm : m ≤ 65536) (HL : Hid (Row w A n c l)) (HR : Hid (Row w B m d r)) :
    Calls Tryz.prog 47 #[.slice A n c, .slice B m d] w fun e w' => e = .returned (.bool (sameB l r)) ∧ Below w.heap.size w w' := by
  by_cases h : n = m
  · subst h
    exact same_eq A B n c d l r w hn HL HR
  · have HE : Hid (sameB l r = false) := sameB_len (by rw [HL.out.1, HR.out.1]; exact h)
    have h' : ((n : Int) != (m : Int)) = true := by simp; omega
    clear h
    go_enter Tryz.func47, Tryz.ntmps47
    go_wp2
    go_ret
    exact ⟨ret_boolS HE.out.symm, Below.refl _ _⟩
end Go.Proofs.YtbighilgkmfemaaGreatDoor

/- Push and Pop, the program's and the document's: where the rows lie that they answer: in blocks of their own, or where the row lay. -/
namespace Go.Proofs.YtbighilgkmfemaaGreatDoor
open Go.RowKit
set_option linter.unusedVariables false
set_option linter.unusedSimpArgs false

/-- The row that is answered is the one that was handed in, or it lies in a block that w did not have. -/
def From (w : World) (A : Option Addr) (n c : Nat) (B : Option Addr) (m d : Nat) : Prop := (B = A ∧ m = n ∧ d = c) ∨ ∀ b, B = some b → w.heap.size ≤ b.block
theorem from_refl (w : World) (A : Option Addr) (n c : Nat) : From w A n c A n c := .inl ⟨rfl, rfl, rfl⟩
theorem from_none (w : World) (A : Option Addr) (n c m d : Nat) : From w A n c none m d := .inr fun b e => by cases e
theorem from_own {w w' : World} {A B : Option Addr} {n' c base n m d : Nat} {v : Value} {l : List Int} (h : Owns w' base v n l) (hb : w.heap.size ≤ base) (e : v = .slice B m d) : From w A n' c B m d := by
  refine .inr fun b eb => ?_
  subst eb
  subst e
  exact Nat.le_trans hb (own_fromS h b.block rfl)
/-- Such a row stays where blocks are written that lie between: w had none of them, and what was answered does not lie there. -/
theorem Row.from {w w1 w2 : World} {A B : Option Addr} {n c m d : Nat} {l l' : List Int} (h : Row w A n c l) (h1 : Row w1 B m d l') {W : World} (hf : From W A n c B m d) (hw : w.heap.size ≤ W.heap.size) (hz : w1.heap.size ≤ w2.heap.size)
    (hs : ∀ g, g < w.heap.size ∨ W.heap.size ≤ g → g < w1.heap.size → w2.heap[g]? = w1.heap[g]?) : Row w2 B m d l' := by
  obtain ⟨q1, q2, q3, q4⟩ := h1
  refine ⟨q1, q2, q3, ?_⟩
  rcases q4 with q4 | ⟨g, o, e, hg, hc⟩
  · exact .inl q4
  · by_cases h0 : ints l' = []
    · exact .inl h0
    · have hgg : g < w.heap.size ∨ W.heap.size ≤ g := by
        rcases hf with ⟨f1, f2, f3⟩ | hf
        · subst f1 f2
          have hl : l.length = l'.length := by rw [h.1, q1]
          rcases h.2.2.2 with h4 | ⟨g', o', e', hg', _⟩
          · have := congrArg List.length h4
            rw [ints_len] at this
            have hz : l.length = 0 := this
            exact absurd (by rw [List.eq_nil_of_length_eq_zero (by omega : l'.length = 0)]; rfl) h0
          · rw [e] at e'
            injection e' with e'
            injection e' with e1
            subst e1
            exact .inl hg'
        · exact .inr (hf _ e)
      refine .inr ⟨g, o, e, by omega, fun j v hv => ?_⟩
      have := hc j v hv
      unfold World.cell? at this ⊢
      rw [hs g hgg hg]
      exact this

set_option maxRecDepth 100000 in
set_option maxHeartbeats 1000000 in
theorem pushF_at (A : Option Addr) (n c : Nat) (x limit : Int) (l : List Int) (w : World) (hn : n ≤ 65536) (HR : Hid (Row w A n c l)) :
    Calls Tryz.prog 72 #[.slice A n c, .int .i64 x, .int .i64 limit] w fun e w' => ∃ B m d, e = .returned (.tuple #[.slice B m d, .int .i64 (pushC l limit)]) ∧ Row w' B m d (pushL l x limit) ∧ From w A n c B m d ∧ Below w.heap.size w w' := by
  have hl := HR.out.1
  by_cases h : limit ≤ (n : Int)
  · have H1 : Hid (pushC l limit = -3) := if_pos (by rw [hl]; exact h)
    have H2 : Hid (pushL l x limit = l) := if_pos (by rw [hl]; exact h)
    rw [H1.out]
    clear hl
    go_enter Tryz.func72, Tryz.ntmps72
    go_wp2_with fail
    refine (own_any _ _ _ l _ hn HR).mono ?_
    rintro e w1 ⟨g, rfl, ho, b1⟩
    have HO := Lib.hid ho
    clear ho
    go_wp2_with fail
    go_ret2
    obtain ⟨B, d, e, hr⟩ := HO.out.row
    injection e with e1 e2 e3
    subst e1 e3
    exact ⟨_, _, _, rfl, by rw [H2.out]; exact hr, from_own HO.out (Nat.le_refl _) rfl, b1⟩
  · have H1 : Hid (pushC l limit = 0) := if_neg (by rw [hl]; exact h)
    have H2 : Hid (pushL l x limit = l ++ [x]) := if_neg (by rw [hl]; exact h)
    rw [H1.out]
    have h' : decide (limit ≤ (n : Int)) = false := by simp; omega
    clear hl h
    go_enter Tryz.func72, Tryz.ntmps72
    go_wp2_with fail
    refine (with_anyS _ _ _ x l _ hn HR).mono ?_
    rintro e w1 ⟨g, rfl, ho, b1⟩
    have HO := Lib.hid ho
    clear ho
    go_wp2_with fail
    go_ret2
    obtain ⟨B, d, e, hr⟩ := HO.out.row
    injection e with e1 e2 e3
    subst e1 e3
    exact ⟨_, _, _, rfl, by rw [H2.out]; exact hr, from_own HO.out (Nat.le_refl _) rfl, b1⟩

set_option maxRecDepth 100000 in
set_option maxHeartbeats 1000000 in
theorem rpushF_at (A : Option Addr) (n c : Nat) (x limit : Int) (l : List Int) (w : World) (hn : n ≤ 65536) (HR : Hid (Row w A n c l)) :
    Calls Tryz.prog 73 #[.slice A n c, .int .i64 x, .int .i64 limit] w fun e w' => ∃ B m d, e = .returned (.tuple #[.slice B m d, .int .i64 (pushC l limit)]) ∧ Row w' B m d (pushL l x limit) ∧ From w A n c B m d ∧ Below w.heap.size w w' := by
  have hl := HR.out.1
  by_cases h : limit ≤ (n : Int)
  · have H1 : Hid (pushC l limit = -3) := if_pos (by rw [hl]; exact h)
    have H2 : Hid (pushL l x limit = l) := if_pos (by rw [hl]; exact h)
    rw [H1.out]
    clear hl
    go_enter Tryz.func73, Tryz.ntmps73
    go_wp2
    go_ret2
    exact ⟨_, _, _, rfl, by rw [H2.out]; exact HR.out, from_refl _ _ _ _, Below.refl _ _⟩
  · have H1 : Hid (pushC l limit = 0) := if_neg (by rw [hl]; exact h)
    have H2 : Hid (pushL l x limit = l ++ [x]) := if_neg (by rw [hl]; exact h)
    rw [H1.out]
    have h' : decide (limit ≤ (n : Int)) = false := by simp; omega
    clear hl h
    go_enter Tryz.func73, Tryz.ntmps73
    have tok1 : True := trivial
    go_wp2_with (first
      | (at_builtin; have _t := tok1; (refine wpList_app rfl _ _ rfl w.heap.size (.slice (some ⟨w.heap.size, 0, none⟩) 0 0) 0 [] rfl (none_owns w) A n c l rfl (HR.out.keep (below_one _ _)) (by omega) (by simp) w (below_one _ _) (Nat.le_refl _) ?_; intro v1 w1 ho b1; have HO := Lib.hid ho; have HB := Lib.hid b1; clear ho b1 tok1))
      | (at_builtin; (refine wpList_app rfl _ _ rfl w.heap.size v1 _ _ rfl (HO.out.alloc _) (some ⟨w1.heap.size, 0, none⟩) 1 1 [x] rfl (one_row w1 x) (by omega) (by have := HB.out.size; simp; omega) w (below_thenS HB.out (below_one _ _)) (Nat.le_refl _) ?_; intro v2 w2 ho b2; (obtain ⟨B, d, rfl, hr⟩ := ho.row); have HF := Lib.hid (from_own (w := w) (A := A) (n' := n) (c := c) ho (Nat.le_refl _) rfl); have HO2 := Lib.hid hr; have HB2 := Lib.hid b2; clear ho hr b2)))
    go_ret2
    exact ⟨_, _, _, rfl, by rw [H2.out]; have z := HO2.out; rw [Nat.zero_add, List.nil_append] at z; exact z, by have z := HF.out; rw [Nat.zero_add] at z; exact z, HB2.out⟩

set_option maxRecDepth 100000 in
set_option maxHeartbeats 4000000 in
theorem popF_at (A : Option Addr) (n c : Nat) (l : List Int) (w : World) (hn : n ≤ 65536) (HR : Hid (Row w A n c l)) :
    Calls Tryz.prog 74 #[.slice A n c] w fun e w' => ∃ B m d, e = .returned (.tuple #[.int .i64 (popX l), .slice B m d, .int .i64 (popC l)]) ∧ Row w' B m d (popL l) ∧ From w A n c B m d ∧ Below w.heap.size w w' := by
  have hl := HR.out.1
  have hc := HR.out.2.1
  have hm := HR.out.2.2.1
  cases n with
  | zero =>
    obtain rfl : l = [] := List.eq_nil_of_length_eq_zero hl
    clear hl
    go_enter Tryz.func74, Tryz.ntmps74
    go_wp2
    go_ret3
    exact ⟨_, _, _, rfl, row_nil _, from_none _ _ _ _ _ _, Below.refl _ _⟩
  | succ k =>
    obtain ⟨h1, h2, h3⟩ := pop_some hl
    rw [h1, h3]
    obtain ⟨g, o, rfl, hg, hce⟩ := HR.out.cells (by omega)
    have k0 := hce k (by omega)
    obtain ⟨y, hy⟩ : ∃ y, l.getD k 0 = y := ⟨_, rfl⟩
    rw [hy] at k0 ⊢
    have H2 := Lib.hid h2
    have HT := Lib.hid (HR.out.high (k := k) (by omega))
    have hkc : (k : Int) ≤ (c : Int) := by omega
    have hk1 : (k : Int) < (k : Int) + 1 := by omega
    unfold maxLen at hm
    clear h1 h2 h3 hce hy hl hc
    go_enter Tryz.func74, Tryz.ntmps74
    have S0 : (w.cell? ⟨g, o + k, none⟩ = some (.int .i64 y) ∧ Since w w) := ⟨k0, Below.refl _ _⟩
    have SD : Hid (∀ a, (a.cell? ⟨g, o + k, none⟩ = some (.int .i64 y) ∧ Since w a) → (a.drew.cell? ⟨g, o + k, none⟩ = some (.int .i64 y) ∧ Since w a.drew)) := Lib.hid fun a h => ⟨h.1, h.2.drew⟩
    have SK : Hid (∀ a b, (a.cell? ⟨g, o + k, none⟩ = some (.int .i64 y) ∧ Since w a) → Below a.heap.size a b → (b.cell? ⟨g, o + k, none⟩ = some (.int .i64 y) ∧ Since w b)) := Lib.hid fun a b h kb => ⟨(h.2.then kb).cell hg k0, h.2.then kb⟩
    have HS0 := Lib.hid S0
    clear S0 k0
    go_wp2_with fail
    refine wp_region_noPanic ?_
    go_region_held3 (fun a => a.cell? ⟨g, o + k, none⟩ = some (.int .i64 y) ∧ Since w a) (first | assumption | exact SD.out _ HS0.out)
      (first | (go_at_call 105; have s4 : (_ ∧ Since w _) := (by assumption); ((with_reducible refine (own_any _ _ _ (l.take k) _ (by omega) (Lib.hid (HT.out.keep s4.2.bel))).mono ?_); rintro e w5 ⟨g5, rfl, ho, b5⟩; have s5 := SK.out _ _ s4 b5; have HO := Lib.hid ho; clear ho s4)))
    all_goals (refine NoPanic.normal ?_)
    all_goals go_wp2
    all_goals go_ret3
    all_goals
      obtain ⟨B, d, e, hr⟩ := HO.out.row
      injection e with e1 e2 e3
      subst e1 e3
      exact ⟨_, _, _, rfl, by rw [H2.out]; exact hr, from_own HO.out (Nat.le_refl _) rfl, s5.2⟩

theorem rpopF_none (w : World) (c : Nat) (A : Option Addr) (hR : Row w A 0 c []) :
    Calls Tryz.prog 75 #[.slice A 0 c] w fun e w' => ∃ B m d, e = .returned (.tuple #[.int .i64 0, .slice B m d, .int .i64 (-4)]) ∧ Row w' B m d [] ∧ From w A 0 c B m d ∧ Below w.heap.size w w' := by
  have HR := Lib.hid hR
  clear hR
  go_enter Tryz.func75, Tryz.ntmps75
  go_wp2
  go_ret3
  exact ⟨_, _, _, rfl, HR.out, from_refl _ _ _ _, Below.refl _ _⟩

set_option maxRecDepth 100000 in
set_option maxHeartbeats 4000000 in
theorem rpopF_some (g o k c : Nat) (l T : List Int) (y : Int) (w : World) (hn : k ≤ 65536) (hkc : (k : Int) ≤ (c : Int)) (hm : c ≤ 9223372036854775807) (hg : g < w.heap.size) (k0 : w.cell? ⟨g, o + k, none⟩ = some (.int .i64 y)) (HT : Hid (Row w (some ⟨g, o, none⟩) k c T)) :
    Calls Tryz.prog 75 #[.slice (some ⟨g, o, none⟩) (k + 1) c] w fun e w' => ∃ B m d, e = .returned (.tuple #[.int .i64 y, .slice B m d, .int .i64 0]) ∧ Row w' B m d T ∧ From w (some ⟨g, o, none⟩) (k + 1) c B m d ∧ Below w.heap.size w w' := by
  have hk1 : (k : Int) < (k : Int) + 1 := by omega
  have S0 : (w.cell? ⟨g, o + k, none⟩ = some (.int .i64 y) ∧ Since w w) := ⟨k0, Below.refl _ _⟩
  have SD : Hid (∀ a, (a.cell? ⟨g, o + k, none⟩ = some (.int .i64 y) ∧ Since w a) → (a.drew.cell? ⟨g, o + k, none⟩ = some (.int .i64 y) ∧ Since w a.drew)) := Lib.hid fun a h => ⟨h.1, h.2.drew⟩
  have SK : Hid (∀ a b, (a.cell? ⟨g, o + k, none⟩ = some (.int .i64 y) ∧ Since w a) → Below a.heap.size a b → (b.cell? ⟨g, o + k, none⟩ = some (.int .i64 y) ∧ Since w b)) := Lib.hid fun a b h kb => ⟨(h.2.then kb).cell hg k0, h.2.then kb⟩
  have HS0 := Lib.hid S0
  have hz : ((k : Int) + 1 == 0) = false := by simp; omega
  have hw : IntKind.i64.wrap (k : Int) = (k : Int) := IntWalk.i64_in _ (by omega)
  clear S0 k0
  go_enter Tryz.func75, Tryz.ntmps75
  go_wp2_with fail
  refine wp_region_noPanic ?_
  go_region_held3 (fun a => a.cell? ⟨g, o + k, none⟩ = some (.int .i64 y) ∧ Since w a) (first | assumption | exact SD.out _ HS0.out | exact SK.out _ _ (SD.out _ HS0.out) (below_one _ _))
    (first | ((refine step_app rfl _ _ rfl w.heap.size (.slice (some ⟨w.heap.size, 0, none⟩) 0 0) 0 [] rfl (none_owns w) (some ⟨g, o, none⟩) k c T rfl (HT.out.keep (below_ad _ _)) (by omega) (by simp) w (below_ad _ _) (Nat.le_refl _) ?_; intro v1 w1 ho b1; have s5 := SK.out w w1 HS0.out b1; have HO := Lib.hid ho; clear ho b1)))
  all_goals (refine NoPanic.normal ?_)
  all_goals go_wp2
  all_goals (obtain ⟨B, d, rfl, hr⟩ := HO.out.row)
  all_goals go_ret3
  all_goals exact ⟨_, _, _, rfl, by rw [List.nil_append] at hr; exact hr, from_own HO.out (Nat.le_refl _) rfl, s5.2⟩

theorem rpopF_at (A : Option Addr) (n c : Nat) (l : List Int) (w : World) (hn : n ≤ 65536) (HR : Hid (Row w A n c l)) :
    Calls Tryz.prog 75 #[.slice A n c] w fun e w' => ∃ B m d, e = .returned (.tuple #[.int .i64 (popX l), .slice B m d, .int .i64 (popC l)]) ∧ Row w' B m d (popL l) ∧ From w A n c B m d ∧ Below w.heap.size w w' := by
  have hl := HR.out.1
  have hc := HR.out.2.1
  have hm := HR.out.2.2.1
  unfold maxLen at hm
  cases n with
  | zero =>
    obtain rfl : l = [] := List.eq_nil_of_length_eq_zero hl
    exact rpopF_none w c A HR.out
  | succ k =>
    obtain ⟨h1, h2, h3⟩ := pop_some hl
    rw [h1, h2, h3]
    obtain ⟨g, o, rfl, hg, hce⟩ := HR.out.cells (by omega)
    exact rpopF_some g o k c l (l.take k) (l.getD k 0) w (by omega) (by omega) (by omega) hg (hce k (by omega)) (Lib.hid (HR.out.high (by omega)))
end Go.Proofs.YtbighilgkmfemaaGreatDoor

/- The bases that stage 10 leans on, beside each other. -/
namespace Go.Proofs.YtbighilgkmfemaaGreatDoor
open Go.RowKit
end Go.Proofs.YtbighilgkmfemaaGreatDoor

/- A machine as a value, and in a block of 23 cells. -/
namespace Go.Proofs.YtbighilgkmfemaaGreatDoor
open Go.RowKit
set_option linter.unusedVariables false
set_option linter.unusedSimpArgs false

/-- A machine's letters: its numbers, and where its rows lie. -/
structure VmK where
  cm : Int
  cd : Int
  cr : Int
  cw : Int
  co : Int
  mA : Option Addr
  mn : Nat
  mc : Nat
  pA : Option Addr
  pn : Nat
  pc : Nat
  here : Int
  dA : Option Addr
  dn : Nat
  dc : Nat
  rA : Option Addr
  rn : Nat
  rc : Nat
  fA : Option Addr
  fn : Nat
  fc : Nat
  wA : Option Addr
  wn : Nat
  wc : Nat
  last : Int
  oA : Option Addr
  on : Nat
  oc : Nat
  qA : Option Addr
  qn : Nat
  qc : Nat
  qo : Bool
  eA : Option Addr
  en : Nat
  ec : Nat
  free : Int
  next : Int
  arg : Int
  self : Int
  now : Int
  hA : Option Addr
  hn : Nat
  hc : Nat
abbrev vmV (k : VmK) : Value := .agg #[.int .i64 k.cm, .int .i64 k.cd, .int .i64 k.cr, .int .i64 k.cw, .int .i64 k.co, .slice k.mA k.mn k.mc, .slice k.pA k.pn k.pc, .int .i64 k.here, .slice k.dA k.dn k.dc, .slice k.rA k.rn k.rc, .slice k.fA k.fn k.fc, .slice k.wA k.wn k.wc, .int .i64 k.last, .slice k.oA k.on k.oc, .slice k.qA k.qn k.qc, .bool k.qo, .slice k.eA k.en k.ec, .int .i64 k.free, .int .i64 k.next, .int .i64 k.arg, .int .i64 k.self, .int .i64 k.now, .slice k.hA k.hn k.hc]
def vm0 : VmK := { cm := 0, cd := 0, cr := 0, cw := 0, co := 0, mA := none, mn := 0, mc := 0, pA := none, pn := 0, pc := 0, here := 0, dA := none, dn := 0, dc := 0, rA := none, rn := 0, rc := 0, fA := none, fn := 0, fc := 0, wA := none, wn := 0, wc := 0, last := 0, oA := none, on := 0, oc := 0, qA := none, qn := 0, qc := 0, qo := false, eA := none, en := 0, ec := 0, free := 0, next := 0, arg := 0, self := 0, now := 0, hA := none, hn := 0, hc := 0 }
/-- A machine in a block of its own. -/
def VBox (w : World) (b : Nat) (k : VmK) : Prop := w.heap[b]? = some (.cells #[.int .i64 k.cm, .int .i64 k.cd, .int .i64 k.cr, .int .i64 k.cw, .int .i64 k.co, .slice k.mA k.mn k.mc, .slice k.pA k.pn k.pc, .int .i64 k.here, .slice k.dA k.dn k.dc, .slice k.rA k.rn k.rc, .slice k.fA k.fn k.fc, .slice k.wA k.wn k.wc, .int .i64 k.last, .slice k.oA k.on k.oc, .slice k.qA k.qn k.qc, .bool k.qo, .slice k.eA k.en k.ec, .int .i64 k.free, .int .i64 k.next, .int .i64 k.arg, .int .i64 k.self, .int .i64 k.now, .slice k.hA k.hn k.hc] 36 (0, 0))
theorem VBox.lt {w : World} {b : Nat} {k : VmK} (h : VBox w b k) : b < w.heap.size := (Array.getElem?_eq_some_iff.1 h).1
theorem VBox.keep {w w' : World} {b : Nat} {k : VmK} (h : VBox w b k) (x : Below w.heap.size w w') : VBox w' b k := (x.block b h.lt).trans h
set_option maxRecDepth 100000 in
theorem VBox.use {w : World} {b : Nat} {k : VmK} (h : VBox w b k) : w.cell? ⟨b, 0, none⟩ = some (.int .i64 k.cm) ∧ w.cell? ⟨b, 1, none⟩ = some (.int .i64 k.cd) ∧ w.cell? ⟨b, 2, none⟩ = some (.int .i64 k.cr) ∧ w.cell? ⟨b, 3, none⟩ = some (.int .i64 k.cw) ∧ w.cell? ⟨b, 4, none⟩ = some (.int .i64 k.co) ∧ w.cell? ⟨b, 5, none⟩ = some (.slice k.mA k.mn k.mc) ∧ w.cell? ⟨b, 6, none⟩ = some (.slice k.pA k.pn k.pc) ∧ w.cell? ⟨b, 7, none⟩ = some (.int .i64 k.here) ∧ w.cell? ⟨b, 8, none⟩ = some (.slice k.dA k.dn k.dc) ∧ w.cell? ⟨b, 9, none⟩ = some (.slice k.rA k.rn k.rc) ∧ w.cell? ⟨b, 10, none⟩ = some (.slice k.fA k.fn k.fc) ∧ w.cell? ⟨b, 11, none⟩ = some (.slice k.wA k.wn k.wc) ∧ w.cell? ⟨b, 12, none⟩ = some (.int .i64 k.last) ∧ w.cell? ⟨b, 13, none⟩ = some (.slice k.oA k.on k.oc) ∧ w.cell? ⟨b, 14, none⟩ = some (.slice k.qA k.qn k.qc) ∧ w.cell? ⟨b, 15, none⟩ = some (.bool k.qo) ∧ w.cell? ⟨b, 16, none⟩ = some (.slice k.eA k.en k.ec) ∧ w.cell? ⟨b, 17, none⟩ = some (.int .i64 k.free) ∧ w.cell? ⟨b, 18, none⟩ = some (.int .i64 k.next) ∧ w.cell? ⟨b, 19, none⟩ = some (.int .i64 k.arg) ∧ w.cell? ⟨b, 20, none⟩ = some (.int .i64 k.self) ∧ w.cell? ⟨b, 21, none⟩ = some (.int .i64 k.now) ∧ w.cell? ⟨b, 22, none⟩ = some (.slice k.hA k.hn k.hc) := by
  unfold VBox at h
  refine ⟨?_, ?_, ?_, ?_, ?_, ?_, ?_, ?_, ?_, ?_, ?_, ?_, ?_, ?_, ?_, ?_, ?_, ?_, ?_, ?_, ?_, ?_, ?_⟩ <;> simp [World.cell?, h]
set_option maxRecDepth 100000 in
theorem VBox.free {w : World} {b : Nat} {k : VmK} (h : VBox w b k) : w.frozen? ⟨b, 0, none⟩ = false ∧ w.frozen? ⟨b, 1, none⟩ = false ∧ w.frozen? ⟨b, 2, none⟩ = false ∧ w.frozen? ⟨b, 3, none⟩ = false ∧ w.frozen? ⟨b, 4, none⟩ = false ∧ w.frozen? ⟨b, 5, none⟩ = false ∧ w.frozen? ⟨b, 6, none⟩ = false ∧ w.frozen? ⟨b, 7, none⟩ = false ∧ w.frozen? ⟨b, 8, none⟩ = false ∧ w.frozen? ⟨b, 9, none⟩ = false ∧ w.frozen? ⟨b, 10, none⟩ = false ∧ w.frozen? ⟨b, 11, none⟩ = false ∧ w.frozen? ⟨b, 12, none⟩ = false ∧ w.frozen? ⟨b, 13, none⟩ = false ∧ w.frozen? ⟨b, 14, none⟩ = false ∧ w.frozen? ⟨b, 15, none⟩ = false ∧ w.frozen? ⟨b, 16, none⟩ = false ∧ w.frozen? ⟨b, 17, none⟩ = false ∧ w.frozen? ⟨b, 18, none⟩ = false ∧ w.frozen? ⟨b, 19, none⟩ = false ∧ w.frozen? ⟨b, 20, none⟩ = false ∧ w.frozen? ⟨b, 21, none⟩ = false ∧ w.frozen? ⟨b, 22, none⟩ = false := by
  unfold VBox at h
  refine ⟨?_, ?_, ?_, ?_, ?_, ?_, ?_, ?_, ?_, ?_, ?_, ?_, ?_, ?_, ?_, ?_, ?_, ?_, ?_, ?_, ?_, ?_, ?_⟩ <;> simp [World.frozen?, h]
theorem vbox_new (w : World) (k : VmK) : VBox (w.alloc (.cells #[.int .i64 k.cm, .int .i64 k.cd, .int .i64 k.cr, .int .i64 k.cw, .int .i64 k.co, .slice k.mA k.mn k.mc, .slice k.pA k.pn k.pc, .int .i64 k.here, .slice k.dA k.dn k.dc, .slice k.rA k.rn k.rc, .slice k.fA k.fn k.fc, .slice k.wA k.wn k.wc, .int .i64 k.last, .slice k.oA k.on k.oc, .slice k.qA k.qn k.qc, .bool k.qo, .slice k.eA k.en k.ec, .int .i64 k.free, .int .i64 k.next, .int .i64 k.arg, .int .i64 k.self, .int .i64 k.now, .slice k.hA k.hn k.hc] 36)) w.heap.size k := one_newN w _ _
theorem vbox_zero (w : World) : VBox (w.alloc (.cells #[.int .i64 0, .int .i64 0, .int .i64 0, .int .i64 0, .int .i64 0, .slice none 0 0, .slice none 0 0, .int .i64 0, .slice none 0 0, .slice none 0 0, .slice none 0 0, .slice none 0 0, .int .i64 0, .slice none 0 0, .slice none 0 0, .bool false, .slice none 0 0, .int .i64 0, .int .i64 0, .int .i64 0, .int .i64 0, .int .i64 0, .slice none 0 0] 36)) w.heap.size vm0 := one_newN w _ _
set_option maxRecDepth 100000 in
theorem VBox.put {w : World} {b : Nat} {j : VmK} (h : VBox w b j) (k : VmK) : VBox (((((((((((((((((((((((w.setCell ⟨b, 0, none⟩ (.int .i64 k.cm)).setCell ⟨b, 1, none⟩ (.int .i64 k.cd)).setCell ⟨b, 2, none⟩ (.int .i64 k.cr)).setCell ⟨b, 3, none⟩ (.int .i64 k.cw)).setCell ⟨b, 4, none⟩ (.int .i64 k.co)).setCell ⟨b, 5, none⟩ (.slice k.mA k.mn k.mc)).setCell ⟨b, 6, none⟩ (.slice k.pA k.pn k.pc)).setCell ⟨b, 7, none⟩ (.int .i64 k.here)).setCell ⟨b, 8, none⟩ (.slice k.dA k.dn k.dc)).setCell ⟨b, 9, none⟩ (.slice k.rA k.rn k.rc)).setCell ⟨b, 10, none⟩ (.slice k.fA k.fn k.fc)).setCell ⟨b, 11, none⟩ (.slice k.wA k.wn k.wc)).setCell ⟨b, 12, none⟩ (.int .i64 k.last)).setCell ⟨b, 13, none⟩ (.slice k.oA k.on k.oc)).setCell ⟨b, 14, none⟩ (.slice k.qA k.qn k.qc)).setCell ⟨b, 15, none⟩ (.bool k.qo)).setCell ⟨b, 16, none⟩ (.slice k.eA k.en k.ec)).setCell ⟨b, 17, none⟩ (.int .i64 k.free)).setCell ⟨b, 18, none⟩ (.int .i64 k.next)).setCell ⟨b, 19, none⟩ (.int .i64 k.arg)).setCell ⟨b, 20, none⟩ (.int .i64 k.self)).setCell ⟨b, 21, none⟩ (.int .i64 k.now)).setCell ⟨b, 22, none⟩ (.slice k.hA k.hn k.hc)) b k := by
  have h0 := Go.Joins.block_setCell (i := 0) h (.int .i64 k.cm)
  have h1 := Go.Joins.block_setCell (i := 1) h0 (.int .i64 k.cd)
  have h2 := Go.Joins.block_setCell (i := 2) h1 (.int .i64 k.cr)
  have h3 := Go.Joins.block_setCell (i := 3) h2 (.int .i64 k.cw)
  have h4 := Go.Joins.block_setCell (i := 4) h3 (.int .i64 k.co)
  have h5 := Go.Joins.block_setCell (i := 5) h4 (.slice k.mA k.mn k.mc)
  have h6 := Go.Joins.block_setCell (i := 6) h5 (.slice k.pA k.pn k.pc)
  have h7 := Go.Joins.block_setCell (i := 7) h6 (.int .i64 k.here)
  have h8 := Go.Joins.block_setCell (i := 8) h7 (.slice k.dA k.dn k.dc)
  have h9 := Go.Joins.block_setCell (i := 9) h8 (.slice k.rA k.rn k.rc)
  have h10 := Go.Joins.block_setCell (i := 10) h9 (.slice k.fA k.fn k.fc)
  have h11 := Go.Joins.block_setCell (i := 11) h10 (.slice k.wA k.wn k.wc)
  have h12 := Go.Joins.block_setCell (i := 12) h11 (.int .i64 k.last)
  have h13 := Go.Joins.block_setCell (i := 13) h12 (.slice k.oA k.on k.oc)
  have h14 := Go.Joins.block_setCell (i := 14) h13 (.slice k.qA k.qn k.qc)
  have h15 := Go.Joins.block_setCell (i := 15) h14 (.bool k.qo)
  have h16 := Go.Joins.block_setCell (i := 16) h15 (.slice k.eA k.en k.ec)
  have h17 := Go.Joins.block_setCell (i := 17) h16 (.int .i64 k.free)
  have h18 := Go.Joins.block_setCell (i := 18) h17 (.int .i64 k.next)
  have h19 := Go.Joins.block_setCell (i := 19) h18 (.int .i64 k.arg)
  have h20 := Go.Joins.block_setCell (i := 20) h19 (.int .i64 k.self)
  have h21 := Go.Joins.block_setCell (i := 21) h20 (.int .i64 k.now)
  have h22 := Go.Joins.block_setCell (i := 22) h21 (.slice k.hA k.hn k.hc)
  simpa [VBox] using h22
theorem below_vset {w0 w : World} {B : Nat} (h : Below B w0 w) {b : Nat} (hb : B ≤ b) (k : VmK) : Below B w0 (((((((((((((((((((((((w.setCell ⟨b, 0, none⟩ (.int .i64 k.cm)).setCell ⟨b, 1, none⟩ (.int .i64 k.cd)).setCell ⟨b, 2, none⟩ (.int .i64 k.cr)).setCell ⟨b, 3, none⟩ (.int .i64 k.cw)).setCell ⟨b, 4, none⟩ (.int .i64 k.co)).setCell ⟨b, 5, none⟩ (.slice k.mA k.mn k.mc)).setCell ⟨b, 6, none⟩ (.slice k.pA k.pn k.pc)).setCell ⟨b, 7, none⟩ (.int .i64 k.here)).setCell ⟨b, 8, none⟩ (.slice k.dA k.dn k.dc)).setCell ⟨b, 9, none⟩ (.slice k.rA k.rn k.rc)).setCell ⟨b, 10, none⟩ (.slice k.fA k.fn k.fc)).setCell ⟨b, 11, none⟩ (.slice k.wA k.wn k.wc)).setCell ⟨b, 12, none⟩ (.int .i64 k.last)).setCell ⟨b, 13, none⟩ (.slice k.oA k.on k.oc)).setCell ⟨b, 14, none⟩ (.slice k.qA k.qn k.qc)).setCell ⟨b, 15, none⟩ (.bool k.qo)).setCell ⟨b, 16, none⟩ (.slice k.eA k.en k.ec)).setCell ⟨b, 17, none⟩ (.int .i64 k.free)).setCell ⟨b, 18, none⟩ (.int .i64 k.next)).setCell ⟨b, 19, none⟩ (.int .i64 k.arg)).setCell ⟨b, 20, none⟩ (.int .i64 k.self)).setCell ⟨b, 21, none⟩ (.int .i64 k.now)).setCell ⟨b, 22, none⟩ (.slice k.hA k.hn k.hc)) :=
  (((((((((((((((((((((((h.setCell (p := ⟨b, 0, none⟩) hb _).setCell (p := ⟨b, 1, none⟩) hb _).setCell (p := ⟨b, 2, none⟩) hb _).setCell (p := ⟨b, 3, none⟩) hb _).setCell (p := ⟨b, 4, none⟩) hb _).setCell (p := ⟨b, 5, none⟩) hb _).setCell (p := ⟨b, 6, none⟩) hb _).setCell (p := ⟨b, 7, none⟩) hb _).setCell (p := ⟨b, 8, none⟩) hb _).setCell (p := ⟨b, 9, none⟩) hb _).setCell (p := ⟨b, 10, none⟩) hb _).setCell (p := ⟨b, 11, none⟩) hb _).setCell (p := ⟨b, 12, none⟩) hb _).setCell (p := ⟨b, 13, none⟩) hb _).setCell (p := ⟨b, 14, none⟩) hb _).setCell (p := ⟨b, 15, none⟩) hb _).setCell (p := ⟨b, 16, none⟩) hb _).setCell (p := ⟨b, 17, none⟩) hb _).setCell (p := ⟨b, 18, none⟩) hb _).setCell (p := ⟨b, 19, none⟩) hb _).setCell (p := ⟨b, 20, none⟩) hb _).setCell (p := ⟨b, 21, none⟩) hb _).setCell (p := ⟨b, 22, none⟩) hb _)
theorem vm_info : (Tryz.prog.info? 36).map (·.size) = some 23 := by kernel_rfl
abbrev vmC (k : VmK) : Array Value := #[.int .i64 k.cm, .int .i64 k.cd, .int .i64 k.cr, .int .i64 k.cw, .int .i64 k.co, .slice k.mA k.mn k.mc, .slice k.pA k.pn k.pc, .int .i64 k.here, .slice k.dA k.dn k.dc, .slice k.rA k.rn k.rc, .slice k.fA k.fn k.fc, .slice k.wA k.wn k.wc, .int .i64 k.last, .slice k.oA k.on k.oc, .slice k.qA k.qn k.qc, .bool k.qo, .slice k.eA k.en k.ec, .int .i64 k.free, .int .i64 k.next, .int .i64 k.arg, .int .i64 k.self, .int .i64 k.now, .slice k.hA k.hn k.hc]
set_option maxRecDepth 100000 in
theorem vm_one (k : VmK) : (vmC k).all (·.oneCell') = true := by simp [Value.oneCell']
/-- The whole of it written anew. -/
theorem vrow {w : World} {b : Nat} {j : VmK} (h : VBox w b j) (k : VmK) : VBox (w.setRow b (vmC k)) b k := setRow_heap w b _ _ _ _ h
theorem vrow_far {w : World} {b b' : Nat} {k : VmK} (h : VBox w b k) (hne : b ≠ b') (cs : Array Value) : VBox (w.setRow b' cs) b k := by
  unfold VBox at h ⊢
  rw [setRow_other w b' b cs (by omega)]
  exact h
theorem VBox.set_m {w : World} {b : Nat} {k : VmK} (h : VBox w b k) (B : Option Addr) (m d : Nat) : VBox (w.setCell ⟨b, 5, none⟩ (.slice B m d)) b { k with mA := B, mn := m, mc := d } := by
  have h1 := Go.Joins.block_setCell (i := 5) h (.slice B m d)
  simpa [VBox] using h1
theorem VBox.set_p {w : World} {b : Nat} {k : VmK} (h : VBox w b k) (B : Option Addr) (m d : Nat) : VBox (w.setCell ⟨b, 6, none⟩ (.slice B m d)) b { k with pA := B, pn := m, pc := d } := by
  have h1 := Go.Joins.block_setCell (i := 6) h (.slice B m d)
  simpa [VBox] using h1
theorem VBox.set_d {w : World} {b : Nat} {k : VmK} (h : VBox w b k) (B : Option Addr) (m d : Nat) : VBox (w.setCell ⟨b, 8, none⟩ (.slice B m d)) b { k with dA := B, dn := m, dc := d } := by
  have h1 := Go.Joins.block_setCell (i := 8) h (.slice B m d)
  simpa [VBox] using h1
theorem VBox.set_r {w : World} {b : Nat} {k : VmK} (h : VBox w b k) (B : Option Addr) (m d : Nat) : VBox (w.setCell ⟨b, 9, none⟩ (.slice B m d)) b { k with rA := B, rn := m, rc := d } := by
  have h1 := Go.Joins.block_setCell (i := 9) h (.slice B m d)
  simpa [VBox] using h1
theorem VBox.set_f {w : World} {b : Nat} {k : VmK} (h : VBox w b k) (B : Option Addr) (m d : Nat) : VBox (w.setCell ⟨b, 10, none⟩ (.slice B m d)) b { k with fA := B, fn := m, fc := d } := by
  have h1 := Go.Joins.block_setCell (i := 10) h (.slice B m d)
  simpa [VBox] using h1
theorem VBox.set_w {w : World} {b : Nat} {k : VmK} (h : VBox w b k) (B : Option Addr) (m d : Nat) : VBox (w.setCell ⟨b, 11, none⟩ (.slice B m d)) b { k with wA := B, wn := m, wc := d } := by
  have h1 := Go.Joins.block_setCell (i := 11) h (.slice B m d)
  simpa [VBox] using h1
theorem VBox.set_o {w : World} {b : Nat} {k : VmK} (h : VBox w b k) (B : Option Addr) (m d : Nat) : VBox (w.setCell ⟨b, 13, none⟩ (.slice B m d)) b { k with oA := B, on := m, oc := d } := by
  have h1 := Go.Joins.block_setCell (i := 13) h (.slice B m d)
  simpa [VBox] using h1
theorem VBox.set_q {w : World} {b : Nat} {k : VmK} (h : VBox w b k) (B : Option Addr) (m d : Nat) : VBox (w.setCell ⟨b, 14, none⟩ (.slice B m d)) b { k with qA := B, qn := m, qc := d } := by
  have h1 := Go.Joins.block_setCell (i := 14) h (.slice B m d)
  simpa [VBox] using h1
theorem VBox.set_e {w : World} {b : Nat} {k : VmK} (h : VBox w b k) (B : Option Addr) (m d : Nat) : VBox (w.setCell ⟨b, 16, none⟩ (.slice B m d)) b { k with eA := B, en := m, ec := d } := by
  have h1 := Go.Joins.block_setCell (i := 16) h (.slice B m d)
  simpa [VBox] using h1
theorem VBox.set_h {w : World} {b : Nat} {k : VmK} (h : VBox w b k) (B : Option Addr) (m d : Nat) : VBox (w.setCell ⟨b, 22, none⟩ (.slice B m d)) b { k with hA := B, hn := m, hc := d } := by
  have h1 := Go.Joins.block_setCell (i := 22) h (.slice B m d)
  simpa [VBox] using h1
theorem vm_load {w : World} {b : Nat} {k : VmK} (h : VBox w b k) : (loadVar 36 ⟨b, 0, none⟩).run Tryz.prog w = .ok (vmV k) w := run_loadVar_row w b _ _ _ _ _ h Tryz.underlying36 rfl vm_info
theorem res_ct {fn : Func} {p t : Tmp} (h : fn.results = #[.cell p 36, .tmp t]) (tmps : Array Value) (w : World) (b : Nat) (k : VmK) (hp : tmps.getD p undef = .pointer (some ⟨b, 0, none⟩)) (hb : VBox w b k) :
    (results fn tmps).run Tryz.prog w = .ok (.tuple #[vmV k, tmps.getD t undef]) w := by
  have hp' : tmps[p]?.getD undef = .pointer (some ⟨b, 0, none⟩) := by simpa using hp
  simp [results, h, hp', asAddr, vm_load hb]
theorem res_tct {fn : Func} {p t u : Tmp} (h : fn.results = #[.tmp u, .cell p 36, .tmp t]) (tmps : Array Value) (w : World) (b : Nat) (k : VmK) (hp : tmps.getD p undef = .pointer (some ⟨b, 0, none⟩)) (hb : VBox w b k) :
    (results fn tmps).run Tryz.prog w = .ok (.tuple #[tmps.getD u undef, vmV k, tmps.getD t undef]) w := by
  have hp' : tmps[p]?.getD undef = .pointer (some ⟨b, 0, none⟩) := by simpa using hp
  simp [results, h, hp', asAddr, vm_load hb]
/-- A whole machine read, or written, as one step of a drawn region. -/
theorem step_vload {ops : Array Oper} {o : Oper} {a : Act} {K : Act → World → Prop} {Q : Exit → Act → World → Prop} {E : Prop} {w : World} (hgd : o.guard = none) (x : Operand) (ho : o.op = .load 36 x)
    (b : Nat) (k : VmK) (hx : a.eval x = .pointer (some ⟨b, 0, none⟩)) (hb : VBox w b k) (h : K (a.put o.dst (vmV k)) w) :
    if Region.wanted o (yielded ops a.tmps) = true then Oper.wp Tryz.prog o a w K Q else E := by
  have hw : Region.wanted o (yielded ops a.tmps) = true := by simp [Region.wanted, hgd]
  rw [if_pos hw]
  exact wp_load_row 36 x ho b hx _ _ _ _ hb Tryz.underlying36 rfl vm_info h
theorem step_vstore {ops : Array Oper} {o : Oper} {a : Act} {K : Act → World → Prop} {Q : Exit → Act → World → Prop} {E : Prop} {w : World} (hgd : o.guard = none) (x y : Operand) (ho : o.op = .store 36 x y)
    (b : Nat) (j k : VmK) (hx : a.eval x = .pointer (some ⟨b, 0, none⟩)) (hy : a.eval y = vmV k) (hb : VBox w b j) (h : K (a.put o.dst undef) (w.setRow b (vmC k))) :
    if Region.wanted o (yielded ops a.tmps) = true then Oper.wp Tryz.prog o a w K Q else E := by
  have hw : Region.wanted o (yielded ops a.tmps) = true := by simp [Region.wanted, hgd]
  rw [if_pos hw]
  exact wp_store_row 36 x y ho b (vmC k) hx hy _ _ hb vm_info rfl (vm_one k) h
end Go.Proofs.YtbighilgkmfemaaGreatDoor

/- The names of the primitives and of the specials. -/
namespace Go.Proofs.YtbighilgkmfemaaGreatDoor
open Go.RowKit
set_option linter.unusedVariables false
set_option linter.unusedSimpArgs false

theorem parts_str (a : Act) (parts : Array (Nat × Operand)) (ls : List (List UInt8)) (hparts : parts.toList = (ls.zipIdx 0).map fun x => (x.2, Operand.const (Value.string (strB x.1)))) :
    (parts.map fun (i, x) => (i, a.eval x)).toList = ((sts ls).zipIdx 0).map fun x => (x.2, x.1) := by
  unfold sts
  rw [Array.toList_map, hparts, List.zipIdx_map, List.map_map, List.map_map]
  rfl
theorem wpList_buildStr {ops : Array Oper} {rest : List Oper} {o : Oper} {a : Act} {w : World} {Q : Exit → Act → World → Prop} (hg : o.guard = none) (len : Nat) (parts : Array (Nat × Operand)) (ho : o.op = .buildSlice 45 len parts)
    (ls : List (List UInt8)) (hlen : len = ls.length) (hpos : 0 < len) (hsmall : len ≤ 2 ^ 24)
    (hparts : parts.toList = (ls.zipIdx 0).map fun x => (x.2, Operand.const (Value.string (strB x.1))))
    (h : wpList Tryz.prog ops Q rest (a.put o.dst (.slice (some ⟨w.heap.size, 0, none⟩) len len)) (w.alloc (.cells (sts ls).toArray 9))) : wpList Tryz.prog ops Q (o :: rest) a w := by
  obtain ⟨i0, hi, hz0, hz1, hz2⟩ := info_parts info_str
  refine wpList_buildSlice hg 45 9 len parts ho _ i0 _ Tryz.underlying45 hi hz0 (by rw [hz1]; omega) (by rw [hz1]; omega) ?_ h
  rw [parts_str a parts ls hparts, hz1]
  exact Great.fill_flat _ _ (fun v hv => by unfold sts at hv; obtain ⟨n, _, rfl⟩ := List.mem_map.1 hv; rfl) (by simp [hlen, sts_len])
set_option maxRecDepth 100000 in
def primL : List (List UInt8) := [[40, 101, 120, 105, 116, 41], [40, 108, 105, 116, 41], [40, 98, 114, 97, 110, 99, 104, 41], [40, 48, 98, 114, 97, 110, 99, 104, 41], [40, 100, 111, 41], [40, 63, 100, 111, 41], [40, 108, 111, 111, 112, 41], [40, 43, 108, 111, 111, 112, 41], [40, 104, 97, 108, 116, 41], [40, 99, 97, 117, 103, 104, 116, 41], [40, 100, 111, 101, 115, 41], [40, 115, 116, 114, 41], [69, 88, 69, 67, 85, 84, 69], [67, 65, 84, 67, 72], [84, 72, 82, 79, 87], [73], [74], [85, 78, 76, 79, 79, 80], [62, 82], [82, 62], [82, 64], [50, 62, 82], [50, 82, 62], [68, 85, 80], [68, 82, 79, 80], [83, 87, 65, 80], [79, 86, 69, 82], [82, 79, 84], [45, 82, 79, 84], [78, 73, 80], [84, 85, 67, 75], [63, 68, 85, 80], [50, 68, 85, 80], [50, 68, 82, 79, 80], [50, 83, 87, 65, 80], [50, 79, 86, 69, 82], [80, 73, 67, 75], [82, 79, 76, 76], [68, 69, 80, 84, 72], [43], [45], [42], [47], [77, 79, 68], [65, 78, 68], [79, 82], [88, 79, 82], [76, 83, 72, 73, 70, 84], [82, 83, 72, 73, 70, 84], [77, 73, 78], [77, 65, 88], [61], [60, 62], [60], [62], [60, 61], [62, 61], [85, 60], [85, 62], [78, 69, 71, 65, 84, 69], [65, 66, 83], [73, 78, 86, 69, 82, 84], [49, 43], [49, 45], [50, 42], [50, 47], [48, 61], [48, 60], [48, 60, 62], [48, 62], [67, 69, 76, 76, 83], [67, 69, 76, 76, 43], [65, 76, 73, 71, 78, 69, 68], [47, 77, 79, 68], [42, 47], [42, 47, 77, 79, 68], [85, 77, 42], [85, 77, 47, 77, 79, 68], [77, 42], [83, 77, 47, 82, 69, 77], [70, 77, 47, 77, 79, 68], [83, 62, 68], [87, 73, 84, 72, 73, 78], [64], [33], [43, 33], [67, 64], [67, 33], [50, 64], [50, 33], [70, 73, 76, 76], [77, 79, 86, 69], [67, 79, 85, 78, 84], [72, 69, 82, 69], [65, 76, 76, 79, 84], [44], [67, 44], [65, 76, 73, 71, 78], [66, 65, 83, 69], [83, 84, 65, 84, 69], [84, 82, 85, 69], [70, 65, 76, 83, 69], [66, 76], [68, 69, 67, 73, 77, 65, 76], [72, 69, 88], [69, 77, 73, 84], [67, 82], [83, 80, 65, 67, 69], [83, 80, 65, 67, 69, 83], [84, 89, 80, 69], [46], [85, 46], [60, 35], [35], [35, 83], [72, 79, 76, 68], [83, 73, 71, 78], [35, 62], [62, 66, 79, 68, 89], [65, 66, 79, 82, 84], [80, 79, 83, 84], [65, 70, 84, 69, 82], [69, 86, 69, 82, 89], [67, 65, 78, 67, 69, 76], [65, 82, 71], [83, 69, 76, 70], [78, 79, 87], [83, 69, 84, 45, 83, 84, 65, 84, 69], [65, 84, 45, 83, 84, 65, 84, 69], [71, 69, 84, 45, 83, 84, 65, 84, 69]]
set_option maxRecDepth 100000 in
def specL : List (List UInt8) := [[58], [59], [67, 82, 69, 65, 84, 69], [68, 79, 69, 83, 62], [86, 65, 82, 73, 65, 66, 76, 69], [67, 79, 78, 83, 84, 65, 78, 84], [73, 77, 77, 69, 68, 73, 65, 84, 69], [39], [91, 39, 93], [67, 72, 65, 82], [91, 67, 72, 65, 82, 93], [76, 73, 84, 69, 82, 65, 76], [80, 79, 83, 84, 80, 79, 78, 69], [82, 69, 67, 85, 82, 83, 69], [73, 70], [69, 76, 83, 69], [84, 72, 69, 78], [66, 69, 71, 73, 78], [87, 72, 73, 76, 69], [82, 69, 80, 69, 65, 84], [85, 78, 84, 73, 76], [65, 71, 65, 73, 78], [68, 79], [63, 68, 79], [76, 79, 79, 80], [43, 76, 79, 79, 80], [76, 69, 65, 86, 69], [83, 34], [46, 34], [40], [92], [91], [93], [70, 79, 82, 71, 69, 84], [77, 65, 67, 72, 73, 78, 69], [79, 78, 58], [69, 88, 73, 84]]
set_option maxRecDepth 100000 in
theorem prim_len : primL.length = 130 := rfl
set_option maxRecDepth 100000 in
theorem spec_len : specL.length = 37 := rfl
set_option maxRecDepth 100000 in
set_option maxHeartbeats 4000000 in
theorem rnames_any (w : World) : Calls Tryz.prog 12 #[] w fun e w' => e = .returned (.slice (some ⟨w.heap.size, 0, none⟩) 130 130) ∧ Sts w' (.slice (some ⟨w.heap.size, 0, none⟩) 130 130) primL ∧ Below w.heap.size w w' := by
  go_enter Tryz.func12, Tryz.ntmps12
  go_wp2_with (refine wpList_buildStr rfl 130 _ rfl primL rfl (by decide) (by decide) (by kernel_rfl) ?_)
  go_ret
  exact ⟨rfl, sts_block (l := primL) (one_newN w _ _) (by decide), al_one _ _⟩
set_option maxRecDepth 100000 in
set_option maxHeartbeats 4000000 in
theorem rspecials_any (w : World) : Calls Tryz.prog 14 #[] w fun e w' => e = .returned (.slice (some ⟨w.heap.size, 0, none⟩) 37 37) ∧ Sts w' (.slice (some ⟨w.heap.size, 0, none⟩) 37 37) specL ∧ Below w.heap.size w w' := by
  go_enter Tryz.func14, Tryz.ntmps14
  go_wp2_with (refine wpList_buildStr rfl 37 _ rfl specL rfl (by decide) (by decide) (by kernel_rfl) ?_)
  go_ret
  exact ⟨rfl, sts_block (l := specL) (one_newN w _ _) (by decide), al_one _ _⟩
end Go.Proofs.YtbighilgkmfemaaGreatDoor

/- Is a text in a row; a word's flags: the document's in and flags. -/
namespace Go.Proofs.YtbighilgkmfemaaGreatDoor
open Go.RowKit
set_option linter.unusedVariables false
set_option linter.unusedSimpArgs false

def inB (ls : List (List UInt8)) (s : List UInt8) : Bool := decide (s ∈ ls)
theorem in_yes {ls : List (List UInt8)} {s : List UInt8} {k : Nat} (h : ls[k]? = some s) : inB ls s = true := by unfold inB; rw [decide_eq_true_eq]; exact List.mem_of_getElem? h
theorem in_no {ls : List (List UInt8)} {s : List UInt8} (h : ¬ s ∈ ls.take ls.length) : inB ls s = false := by unfold inB; rw [decide_eq_false_iff_not]; rw [List.take_length] at h; exact h
theorem in_step {ls : List (List UInt8)} {s x : List UInt8} {k : Nat} (h : ¬ s ∈ ls.take k) (hx : ls[k]? = some x) (hne : x ≠ s) : ¬ s ∈ ls.take (k + 1) := by
  rw [List.take_add_one, hx]
  simp
  exact ⟨h, fun e => hne e.symm⟩
set_option maxRecDepth 100000 in
set_option maxHeartbeats 4000000 in
theorem rin_any (A : Option Addr) (n c : Nat) (ls : List (List UInt8)) (s : List UInt8) (w : World) (h : Sts w (.slice A n c) ls) (hn : ls.length ≤ 100000) :
    Calls Tryz.prog 90 #[.slice A n c, .string (strB s)] w fun e w' => e = .returned (.bool (inB ls s)) ∧ Below w.heap.size w w' := by
  have en := h.len
  subst en
  have HA := Lib.hid h
  clear h
  go_enter Tryz.func90, Tryz.ntmps90
  go_wp2_with fail
  go_loopw [5] (fun s5 wr => ∃ (k : Nat), s5 = .int .i64 (k : Int) ∧ k ≤ ls.length ∧ Hid (¬ s ∈ ls.take k) ∧ Hid (Below w.heap.size w wr)) (fun s5 _ => ls.length - (intOf s5).toNat)
  case atStart => exact ⟨0, rfl, Nat.zero_le _, Lib.hid (by simp), Lib.hid (Below.refl _ _)⟩
  case round =>
    obtain ⟨k, rfl, hk, HT, HW⟩ := hrel
    by_cases hka : k < ls.length
    · have hka' : (k : Int) < (ls.length : Int) := by omega
      obtain ⟨g, o, hA, hc⟩ := sts_cell (HA.out.keep HW.out) hka
      have hx := List.getElem?_eq_getElem hka
      obtain ⟨x, ex⟩ : ∃ x, ls[k] = x := ⟨_, rfl⟩
      rw [ex] at hc hx
      subst hA
      by_cases he : x = s
      · subst he
        have H : Hid (inB ls x = true) := in_yes hx
        clear hx ex HT
        go_wp2_with fail
        go_ret
        exact ⟨by rw [H.out]; rfl, HW.out⟩
      · have hne := str_ne (a := strB x) (b := strB s) (fun e => he (strB_inj e))
        have hne2 := str_neq (a := strB x) (b := strB s) (fun e => he (strB_inj e))
        have HT2 : Hid (¬ s ∈ ls.take (k + 1)) := in_step HT.out hx he
        clear hx ex HT he
        go_wp2_with fail
        go_roundw
        case rel => exact ⟨k + 1, by simp, by omega, HT2, HW⟩
        case measure => simp [intOf]; omega
    · obtain rfl : k = ls.length := by omega
      have H : Hid (inB ls s = false) := in_no HT.out
      have hkk : decide ((ls.length : Int) < (ls.length : Int)) = false := by simp
      clear hka hk HT
      go_wp2_with fail
      go_ret
      exact ⟨by rw [H.out]; rfl, HW.out⟩
set_option maxRecDepth 100000 in
def onlyL : List (List UInt8) := [[73], [74], [85, 78, 76, 79, 79, 80], [62, 82], [82, 62], [82, 64], [50, 62, 82], [50, 82, 62]]
set_option maxRecDepth 100000 in
def nowL : List (List UInt8) := [[46, 34], [40], [92], [91]]
set_option maxRecDepth 100000 in
def bothL : List (List UInt8) := [[59], [68, 79, 69, 83, 62], [91, 39, 93], [91, 67, 72, 65, 82, 93], [76, 73, 84, 69, 82, 65, 76], [80, 79, 83, 84, 80, 79, 78, 69], [82, 69, 67, 85, 82, 83, 69], [73, 70], [69, 76, 83, 69], [84, 72, 69, 78], [66, 69, 71, 73, 78], [87, 72, 73, 76, 69], [82, 69, 80, 69, 65, 84], [85, 78, 84, 73, 76], [65, 71, 65, 73, 78], [68, 79], [63, 68, 79], [76, 79, 79, 80], [43, 76, 79, 79, 80], [76, 69, 65, 86, 69], [83, 34], [69, 88, 73, 84]]
/-- A word's flags. -/
def flagF (s : List UInt8) (i : Nat) : Int := if i < 12 then 6 else if inB onlyL s = true then 4 else if inB nowL s = true then 1 else if inB bothL s = true then 5 else 0
theorem lit_in (l : List (List UInt8)) (n : Nat) (s : List UInt8) (w : World) (hn : l.length = n) (hl : n ≤ 1000) :
    Calls Tryz.prog 90 #[.slice (some ⟨w.heap.size, 0, none⟩) n n, .string (strB s)] (w.alloc (.cells (sts l).toArray 9)) fun e w' => e = .returned (.bool (inB l s)) ∧ Below w.heap.size w w' := by
  subst hn
  refine (rin_any (some ⟨w.heap.size, 0, none⟩) l.length l.length l s _ (sts_block (one_newN w _ _) (by omega)) (by omega)).mono ?_
  rintro e w1 ⟨rfl, b⟩
  exact ⟨rfl, below_then (al_one w _) b⟩
set_option maxRecDepth 100000 in
set_option maxHeartbeats 4000000 in
theorem rflags_any (s : List UInt8) (i : Nat) (w : World) (hi : i ≤ 1000) :
    Calls Tryz.prog 43 #[.string (strB s), .int .i64 (i : Int)] w fun e w' => e = .returned (.int .i64 (flagF s i)) ∧ Below w.heap.size w w' := by
  obtain ⟨F, hF⟩ : ∃ F, flagF s i = F := ⟨_, rfl⟩
  have HF : Hid (F = flagF s i) := hF.symm
  rw [hF]
  clear hF
  by_cases h12 : i < 12
  · have h12' : (i : Int) < 12 := by omega
    have H : Hid (F = 6) := by show _ = _; rw [HF.out]; unfold flagF; rw [if_pos h12]
    clear HF h12
    go_enter Tryz.func43, Tryz.ntmps43
    go_wp2_with fail
    go_ret
    exact ⟨by rw [H.out]; rfl, Below.refl _ _⟩
  · have h12' : decide ((i : Int) < 12) = false := by simp; omega
    have H0 := Lib.hid h12
    clear h12
    go_enter Tryz.func43, Tryz.ntmps43
    go_wp2_with (refine wpList_buildStr rfl 8 _ rfl onlyL rfl (by decide) (by decide) (by kernel_rfl) ?_)
    obtain ⟨F1, e1⟩ : ∃ b, inB onlyL s = b := ⟨_, rfl⟩
    have H1 := Lib.hid e1
    have HC := Lib.hid (lit_in onlyL 8 s w rfl (by decide))
    rw [e1] at HC
    clear e1
    refine HC.out.mono ?_
    rintro e w1 ⟨rfl, bb⟩
    have B1 := Lib.hid bb
    clear bb HC
    cases F1 with
    | true =>
      have H : Hid (F = 4) := by show _ = _; rw [HF.out]; unfold flagF; rw [if_neg H0.out, if_pos H1.out]
      clear HF
      go_wp2_with fail
      go_ret
      exact ⟨by rw [H.out]; rfl, B1.out⟩
    | false =>
      go_wp2_with (refine wpList_buildStr rfl 4 _ rfl nowL rfl (by decide) (by decide) (by kernel_rfl) ?_)
      obtain ⟨F2, e2⟩ : ∃ b, inB nowL s = b := ⟨_, rfl⟩
      have H2 := Lib.hid e2
      have HC := Lib.hid (lit_in nowL 4 s w1 rfl (by decide))
      rw [e2] at HC
      clear e2
      refine HC.out.mono ?_
      rintro e w2 ⟨rfl, bb⟩
      have B2 := Lib.hid (below_then B1.out bb)
      clear bb HC
      cases F2 with
      | true =>
        have H : Hid (F = 1) := by show _ = _; rw [HF.out]; unfold flagF; rw [if_neg H0.out, if_neg (by rw [H1.out]; decide), if_pos H2.out]
        clear HF
        go_wp2_with fail
        go_ret
        exact ⟨by rw [H.out]; rfl, B2.out⟩
      | false =>
        go_wp2_with (refine wpList_buildStr rfl 22 _ rfl bothL rfl (by decide) (by decide) (by kernel_rfl) ?_)
        obtain ⟨F3, e3⟩ : ∃ b, inB bothL s = b := ⟨_, rfl⟩
        have H3 := Lib.hid e3
        have HC := Lib.hid (lit_in bothL 22 s w2 rfl (by decide))
        rw [e3] at HC
        clear e3
        refine HC.out.mono ?_
        rintro e w3 ⟨rfl, bb⟩
        have B3 := Lib.hid (below_then B2.out bb)
        clear bb HC
        cases F3 with
        | true =>
          have H : Hid (F = 5) := by show _ = _; rw [HF.out]; unfold flagF; rw [if_neg H0.out, if_neg (by rw [H1.out]; decide), if_neg (by rw [H2.out]; decide), if_pos H3.out]
          clear HF
          go_wp2_with fail
          go_ret
          exact ⟨by rw [H.out]; rfl, B3.out⟩
        | false =>
          have H : Hid (F = 0) := by show _ = _; rw [HF.out]; unfold flagF; rw [if_neg H0.out, if_neg (by rw [H1.out]; decide), if_neg (by rw [H2.out]; decide), if_neg (by rw [H3.out]; decide)]
          clear HF
          go_wp2_with fail
          go_ret
          exact ⟨by rw [H.out]; rfl, B3.out⟩
end Go.Proofs.YtbighilgkmfemaaGreatDoor

/- Which configurations may be: the document's Fits. -/
namespace Go.Proofs.YtbighilgkmfemaaGreatDoor
open Go.RowKit
set_option linter.unusedVariables false
set_option linter.unusedSimpArgs false

/-- A configuration that may be. -/
def fitsB (m d r w o : Int) : Bool := decide (2048 ≤ m ∧ m ≤ 65536 ∧ m % 8 = 0 ∧ 1 ≤ d ∧ d ≤ 256 ∧ 1 ≤ r ∧ r ≤ 256 ∧ 200 ≤ w ∧ w ≤ 1024 ∧ 0 ≤ o ∧ o ≤ 65536)
theorem fits_iff (m d r w o : Int) : fitsB m d r w o = true ↔ (2048 ≤ m ∧ m ≤ 65536 ∧ m % 8 = 0 ∧ 1 ≤ d ∧ d ≤ 256 ∧ 1 ≤ r ∧ r ≤ 256 ∧ 200 ≤ w ∧ w ≤ 1024 ∧ 0 ≤ o ∧ o ≤ 65536) := by unfold fitsB; rw [decide_eq_true_eq]
theorem fits_no (m d r w o : Int) : fitsB m d r w o = false ↔ ¬ (2048 ≤ m ∧ m ≤ 65536 ∧ m % 8 = 0 ∧ 1 ≤ d ∧ d ≤ 256 ∧ 1 ≤ r ∧ r ≤ 256 ∧ 200 ≤ w ∧ w ≤ 1024 ∧ 0 ≤ o ∧ o ≤ 65536) := by unfold fitsB; rw [decide_eq_false_iff_not]

set_option maxRecDepth 100000 in
set_option maxHeartbeats 4000000 in
theorem rfits_any (m d r v o : Int) (w : World) : Calls Tryz.prog 18 #[.agg #[.int .i64 m, .int .i64 d, .int .i64 r, .int .i64 v, .int .i64 o]] w fun e w' => e = .returned (.bool (fitsB m d r v o)) ∧ Below w.heap.size w w' := by
  obtain ⟨F, hF⟩ : ∃ F, fitsB m d r v o = F := ⟨_, rfl⟩
  have HF := Lib.hid hF
  rw [hF]
  clear hF
  go_enter Tryz.func18, Tryz.ntmps18
  go_wp2
  all_goals go_ret
  all_goals refine ⟨ret_bool ?_, al_one _ _⟩
  all_goals rw [← HF.out]
  all_goals unfold fitsB
  all_goals first
    | (show _ = decide _; rw [eq_comm, decide_eq_false_iff_not]; omega)
    | (show decide _ = decide _; rw [decide_eq_decide]; omega)
end Go.Proofs.YtbighilgkmfemaaGreatDoor

/- Rows of frames, of what is asked for, of handlers: structs of numbers, a cell each. -/
namespace Go.Proofs.YtbighilgkmfemaaGreatDoor
open Go.RowKit
set_option linter.unusedVariables false
set_option linter.unusedSimpArgs false

/-- A slice of structs: each lies as its cells, one behind the other. -/
def Rws {α : Type} (enc : α → List Value) (w : World) (v : Value) (l : List α) : Prop := ∃ A c, v = .slice A l.length c ∧ l.length ≤ c ∧ c ≤ maxLen ∧ Lies w A (l.flatMap enc)
theorem Rws.keep {α : Type} {enc : α → List Value} {w w' : World} {v : Value} {l : List α} (h : Rws enc w v l) (b : Below w.heap.size w w') : Rws enc w' v l := by
  obtain ⟨A, c, h1, h2, h3, h4⟩ := h
  exact ⟨A, c, h1, h2, h3, h4.keep b⟩
theorem rws_nil {α : Type} (enc : α → List Value) (w : World) : Rws enc w (.slice none 0 0) [] := ⟨none, 0, rfl, Nat.le_refl _, Nat.zero_le _, .inl rfl⟩
theorem Rws.len {α : Type} {enc : α → List Value} {w : World} {A : Option Addr} {n c : Nat} {l : List α} (h : Rws enc w (.slice A n c) l) : l.length = n := by
  obtain ⟨A', c', e, _⟩ := h
  injection e with _ e _
  exact e.symm
theorem Rws.lies {α : Type} {enc : α → List Value} {w : World} {A : Option Addr} {n c : Nat} {l : List α} (h : Rws enc w (.slice A n c) l) : Lies w A (l.flatMap enc) := by
  obtain ⟨A', c', e, _, _, hl⟩ := h
  injection e with e _ _
  subst e
  exact hl
theorem flat_at {α : Type} {enc : α → List Value} {s : Nat} (hs : ∀ x, (enc x).length = s) : ∀ {l : List α} {k : Nat} (hk : k < l.length) {i : Nat}, i < s → (l.flatMap enc)[k * s + i]? = (enc l[k])[i]?
  | q :: l, 0, _, i, hi => by
    rw [List.flatMap_cons, Nat.zero_mul, Nat.zero_add, List.getElem?_append_left (by rw [hs]; exact hi)]
    rfl
  | q :: l, k + 1, hk, i, hi => by
    have := flat_at hs (l := l) (k := k) (by simpa using hk) hi
    rw [List.flatMap_cons, List.getElem?_append_right (by rw [hs, Nat.add_mul]; omega), hs]
    rw [show (k + 1) * s + i - s = k * s + i by rw [Nat.add_mul]; omega]
    exact this
theorem Rws.cell {α : Type} {enc : α → List Value} {s : Nat} (hs : ∀ x, (enc x).length = s) (h0 : 0 < s) {w : World} {A : Option Addr} {n c : Nat} {l : List α} (h : Rws enc w (.slice A n c) l) {k : Nat} (hk : k < l.length) :
    ∃ g o, A = some ⟨g, o, none⟩ ∧ g < w.heap.size ∧ ∀ i v, i < s → (enc l[k])[i]? = some v → w.cell? ⟨g, o + (k * s + i), none⟩ = some v := by
  rcases h.lies with h | ⟨g, o, e, hg, hc⟩
  · have h1 := flat_at hs hk h0
    rw [h] at h1
    have h2 : (enc l[k])[0]? = some ((enc l[k])[0]'(by rw [hs]; exact h0)) := List.getElem?_eq_getElem _
    rw [h2] at h1
    cases h1
  · exact ⟨g, o, e, hg, fun i v hi hv => hc _ _ (by rw [flat_at hs hk hi]; exact hv)⟩
structure Fm where
  d : Int
  r : Int
  ip : Int
deriving DecidableEq
def fmE (q : Fm) : List Value := [.int .i64 q.d, .int .i64 q.r, .int .i64 q.ip]
abbrev Fms (w : World) (v : Value) (l : List Fm) : Prop := Rws fmE w v l
theorem fm_cells {w : World} {A : Option Addr} {n c : Nat} {l : List Fm} (h : Fms w (.slice A n c) l) {k : Nat} (hk : k < l.length) : ∃ g o, A = some ⟨g, o, none⟩ ∧ w.cell? ⟨g, o + k * 3, none⟩ = some (.int .i64 l[k].d) ∧ w.cell? ⟨g, o + k * 3 + 1, none⟩ = some (.int .i64 l[k].r) ∧ w.cell? ⟨g, o + k * 3 + 2, none⟩ = some (.int .i64 l[k].ip) := by
  obtain ⟨g, o, e, _, hc⟩ := Rws.cell (s := 3) (fun _ => rfl) (by decide) h hk
  exact ⟨g, o, e, hc 0 _ (by decide) rfl, hc 1 _ (by decide) rfl, hc 2 _ (by decide) rfl⟩
def fmSame (a b : List Fm) : Bool := decide (a = b)
theorem fm_no {a b : List Fm} {k : Nat} {x y : Fm} (hx : a[k]? = some x) (hy : b[k]? = some y) (hne : x ≠ y) : fmSame a b = false := by
  unfold fmSame
  rw [decide_eq_false_iff_not]
  intro e
  rw [e, hy] at hx
  injection hx with hx
  exact hne hx.symm
theorem fm_self (a : List Fm) : fmSame a a = true := by unfold fmSame; simp
structure Rq where
  kind : Int
  arg : Int
  hand : Int
  rank : Int
  delay : Int
  id : Int
deriving DecidableEq
def rqE (q : Rq) : List Value := [.int .i64 q.kind, .int .i64 q.arg, .int .i64 q.hand, .int .i64 q.rank, .int .i64 q.delay, .int .i64 q.id]
abbrev Rqs (w : World) (v : Value) (l : List Rq) : Prop := Rws rqE w v l
theorem rq_cells {w : World} {A : Option Addr} {n c : Nat} {l : List Rq} (h : Rqs w (.slice A n c) l) {k : Nat} (hk : k < l.length) : ∃ g o, A = some ⟨g, o, none⟩ ∧ w.cell? ⟨g, o + k * 6, none⟩ = some (.int .i64 l[k].kind) ∧ w.cell? ⟨g, o + k * 6 + 1, none⟩ = some (.int .i64 l[k].arg) ∧ w.cell? ⟨g, o + k * 6 + 2, none⟩ = some (.int .i64 l[k].hand) ∧ w.cell? ⟨g, o + k * 6 + 3, none⟩ = some (.int .i64 l[k].rank) ∧ w.cell? ⟨g, o + k * 6 + 4, none⟩ = some (.int .i64 l[k].delay) ∧ w.cell? ⟨g, o + k * 6 + 5, none⟩ = some (.int .i64 l[k].id) := by
  obtain ⟨g, o, e, _, hc⟩ := Rws.cell (s := 6) (fun _ => rfl) (by decide) h hk
  exact ⟨g, o, e, hc 0 _ (by decide) rfl, hc 1 _ (by decide) rfl, hc 2 _ (by decide) rfl, hc 3 _ (by decide) rfl, hc 4 _ (by decide) rfl, hc 5 _ (by decide) rfl⟩
def rqSame (a b : List Rq) : Bool := decide (a = b)
theorem rq_no {a b : List Rq} {k : Nat} {x y : Rq} (hx : a[k]? = some x) (hy : b[k]? = some y) (hne : x ≠ y) : rqSame a b = false := by
  unfold rqSame
  rw [decide_eq_false_iff_not]
  intro e
  rw [e, hy] at hx
  injection hx with hx
  exact hne hx.symm
theorem rq_self (a : List Rq) : rqSame a a = true := by unfold rqSame; simp
structure Hn where
  xt : Int
  fuel : Int
  strikes : Int
  out : Bool
deriving DecidableEq
def hnE (q : Hn) : List Value := [.int .i64 q.xt, .int .i64 q.fuel, .int .i64 q.strikes, .bool q.out]
abbrev Hns (w : World) (v : Value) (l : List Hn) : Prop := Rws hnE w v l
theorem hn_cells {w : World} {A : Option Addr} {n c : Nat} {l : List Hn} (h : Hns w (.slice A n c) l) {k : Nat} (hk : k < l.length) : ∃ g o, A = some ⟨g, o, none⟩ ∧ w.cell? ⟨g, o + k * 4, none⟩ = some (.int .i64 l[k].xt) ∧ w.cell? ⟨g, o + k * 4 + 1, none⟩ = some (.int .i64 l[k].fuel) ∧ w.cell? ⟨g, o + k * 4 + 2, none⟩ = some (.int .i64 l[k].strikes) ∧ w.cell? ⟨g, o + k * 4 + 3, none⟩ = some (.bool l[k].out) := by
  obtain ⟨g, o, e, _, hc⟩ := Rws.cell (s := 4) (fun _ => rfl) (by decide) h hk
  exact ⟨g, o, e, hc 0 _ (by decide) rfl, hc 1 _ (by decide) rfl, hc 2 _ (by decide) rfl, hc 3 _ (by decide) rfl⟩
def hnSame (a b : List Hn) : Bool := decide (a = b)
theorem hn_no {a b : List Hn} {k : Nat} {x y : Hn} (hx : a[k]? = some x) (hy : b[k]? = some y) (hne : x ≠ y) : hnSame a b = false := by
  unfold hnSame
  rw [decide_eq_false_iff_not]
  intro e
  rw [e, hy] at hx
  injection hx with hx
  exact hne hx.symm
theorem hn_self (a : List Hn) : hnSame a a = true := by unfold hnSame; simp
end Go.Proofs.YtbighilgkmfemaaGreatDoor

/- Is a memory not too much: the document's Few, by any bound; and of a machine. -/
namespace Go.Proofs.YtbighilgkmfemaaGreatDoor
open Go.RowKit
set_option linter.unusedVariables false
set_option linter.unusedSimpArgs false

set_option maxRecDepth 100000 in
set_option maxHeartbeats 2000000 in
theorem fewN_at (N : Nat) (A P : Option Addr) (L c K d : Nat) (m : PM) (w : World) (HM : Hid (IsMem w (.agg #[.slice A L c, .slice P K d]) m)) :
    Calls Tryz.prog 39 #[.agg #[.slice A L c, .slice P K d], .int .i64 (N : Int)] w fun e w' => e = .returned (.bool (fewB m N)) ∧ Below w.heap.size w w' := by
  have hbig := HM.out.big
  unfold maxLen at hbig
  obtain ⟨hL, hK⟩ := hbig
  have H : Hid (fewB m N = (decide (L ≤ N) && decide (K ≤ 60) && m.2.all few1)) := by show _ = _; rw [fewB_eq, HM.out.len1, HM.out.len2]
  by_cases h1 : N < L
  · have H2 : Hid (fewB m N = false) := by rw [H.out, decide_eq_false (by omega)]; rfl
    rw [H2.out]
    have h1' : (N : Int) < (L : Int) := by omega
    go_enter Tryz.func39, Tryz.ntmps39
    go_wp2
    go_ret
    exact ⟨rfl, (Below.refl _ _).alloc (Nat.le_refl _) _⟩
  · have h1' : decide ((N : Int) < (L : Int)) = false := by simp; omega
    have h1n : decide (N < L) = false := by simp; omega
    have h1m : L ≤ N := by omega
    have h1k : (L : Int) ≤ (N : Int) := by omega
    by_cases h2 : 60 < K
    · have H2 : Hid (fewB m N = false) := by rw [H.out, decide_eq_false (show ¬ K ≤ 60 by omega)]; simp [Hid]
      rw [H2.out]
      have h2' : (60 : Int) < (K : Int) := by omega
      clear h1
      go_enter Tryz.func39, Tryz.ntmps39
      go_wp2
      go_ret
      exact ⟨rfl, (Below.refl _ _).alloc (Nat.le_refl _) _⟩
    · have h2' : decide ((60 : Int) < (K : Int)) = false := by simp; omega
      have H2 : Hid (fewB m N = m.2.all few1) := by rw [H.out, decide_eq_true (by omega), decide_eq_true (by omega)]; simp [Hid]
      rw [H2.out]
      have hK60 : K ≤ 60 := by omega
      clear h1 h2 H H2
      go_enter Tryz.func39, Tryz.ntmps39
      go_wp2
      go_loop [5] (fun i => ∃ j : Nat, j ≤ K ∧ i = .int .i64 (j : Int) ∧ Hid ((m.2.take j).all few1 = true)) (fun i => K - (intOf i).toNat)
      case atStart => exact ⟨0, Nat.zero_le _, rfl, by simp [Hid]⟩
      case round =>
        obtain ⟨j, hj, rfl, hall⟩ := hrel
        by_cases hlt : j < K
        · obtain ⟨g, o, B, n, e, p, rfl, hg, hp, hc1, hc2, hby, hn, hKd⟩ := mem_patch HM.out hlt
          have hc : (w.alloc (.cells #[.slice A L c, .slice (some ⟨g, o, none⟩) K d] 27)).cell? ⟨g, o + j * 2 + 1, none⟩ = some (.slice B n e) := ((((Below.refl _ w).alloc (Nat.le_refl _) _).cell (p := ⟨g, o + j * 2 + 1, none⟩) hg)).trans hc2
          have HP := Lib.hid hp
          have HN : Hid (p.2.length = n) := hby.len
          unfold maxLen at hn
          clear hp hby hc1 hc2
          by_cases hb : 200 < n
          · have hb' : (200 : Int) < (n : Int) := by omega
            have HR : Hid (m.2.all few1 = false) := all_no HP.out (by unfold few1; rw [HN.out]; exact decide_eq_false (by omega))
            go_wp2
            go_ret
            exact ⟨ret_bool HR.out.symm, (Below.refl _ _).alloc (Nat.le_refl _) _⟩
          · have hb' : decide ((200 : Int) < (n : Int)) = false := by simp; omega
            have HR : Hid ((m.2.take (j + 1)).all few1 = true) := by
              rw [all_take_step HP.out, hall.out]
              unfold few1
              rw [HN.out, decide_eq_true (by omega)]
              rfl
            clear hb
            go_wp2
            go_round
            case rel => exact ⟨j + 1, by omega, by go_num, HR.out⟩
            case measure => simp [intOf]; omega
        · have hjk : j = K := by omega
          subst hjk
          have hl := HM.out.len2
          have HR : Hid (m.2.all few1 = true) := by
            have := hall.out
            rw [List.take_of_length_le (by omega)] at this
            exact this
          clear hl
          go_wp2
          go_ret
          exact ⟨ret_bool HR.out.symm, (Below.refl _ _).alloc (Nat.le_refl _) _⟩
end Go.Proofs.YtbighilgkmfemaaGreatDoor
