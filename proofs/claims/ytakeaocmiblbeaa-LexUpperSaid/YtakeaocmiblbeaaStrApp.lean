/- Rows of strings; append to one that the call made. -/
import Derived.Test.YtakeaocmiblbeaaNumStr
import Derived.Test.YtakeaocmiblbeaaBytApp
import Derived.Test.YtakeaocmiblbeaaNumRefC
import Derived.Deep.QuietTactic
namespace Go.Proofs.Ytakeaocmiblbeaa
open Go.RowKit
set_option linter.unusedVariables false
set_option linter.unusedSimpArgs false

theorem drewN_below (w : World) (n : Nat) : Below w.heap.size w (w.drewN n) := ⟨rfl, rfl, rfl, Nat.le_refl _, fun _ _ => rfl⟩
theorem info_str : (Try.prog.info? 9).map (fun i => (i.zero, i.size, i.bytes)) = some (some (.string ⟨#[]⟩), 1, 16) := by kernel_rfl
def sts (l : List (List UInt8)) : List Value := l.map fun b => .string (strB b)
theorem sts_len (l : List (List UInt8)) : (sts l).length = l.length := by simp [sts]
theorem sts_one (l : List (List UInt8)) : ∀ v ∈ sts l, v.oneCell' = true := by
  intro v hv
  unfold sts at hv
  rw [List.mem_map] at hv
  obtain ⟨b, _, rfl⟩ := hv
  rfl
theorem sts_app (a b : List (List UInt8)) : sts (a ++ b) = sts a ++ sts b := by simp [sts]
theorem sts_at {l : List (List UInt8)} {j : Nat} (h : j < l.length) : (sts l)[j]? = some (.string (strB l[j])) := by simp [sts, h]
/-- A slice of strings. -/
def Sts (w : World) (v : Value) (l : List (List UInt8)) : Prop := ∃ A c, v = .slice A l.length c ∧ l.length ≤ c ∧ c ≤ maxLen ∧ Lies w A (sts l)
theorem Sts.keep {w w' : World} {v : Value} {l : List (List UInt8)} (h : Sts w v l) (b : Below w.heap.size w w') : Sts w' v l := by
  obtain ⟨A, c, h1, h2, h3, h4⟩ := h
  exact ⟨A, c, h1, h2, h3, h4.keep b⟩
theorem sts_nil (w : World) : Sts w (.slice none 0 0) [] := ⟨none, 0, rfl, Nat.le_refl _, Nat.zero_le _, .inl rfl⟩
theorem sts_block {w : World} {g : Nat} {l : List (List UInt8)} {t : TypeId} (h : w.heap[g]? = some (.cells (sts l).toArray t (0, 0))) (hl : l.length ≤ 65536) : Sts w (.slice (some ⟨g, 0, none⟩) l.length l.length) l :=
  ⟨_, _, rfl, Nat.le_refl _, by unfold maxLen; omega, lies_block h⟩
theorem Sts.len {w : World} {A : Option Addr} {n c : Nat} {l : List (List UInt8)} (h : Sts w (.slice A n c) l) : l.length = n := by
  obtain ⟨A', c', e, _⟩ := h
  injection e with _ e _
  exact e.symm
theorem Sts.lies {w : World} {A : Option Addr} {n c : Nat} {l : List (List UInt8)} (h : Sts w (.slice A n c) l) : Lies w A (sts l) := by
  obtain ⟨A', c', e, _, _, hl⟩ := h
  injection e with e _ _
  subst e
  exact hl
theorem sts_slice {w : World} {v : Value} {l : List (List UInt8)} (h : Sts w v l) : ∃ A n c, v = .slice A n c := by
  obtain ⟨A, c, e, _⟩ := h
  exact ⟨A, _, c, e⟩
theorem sts_cell {w : World} {A : Option Addr} {n c : Nat} {l : List (List UInt8)} (h : Sts w (.slice A n c) l) {k : Nat} (hk : k < l.length) : ∃ g o, A = some ⟨g, o, none⟩ ∧ w.cell? ⟨g, o + k, none⟩ = some (.string (strB l[k])) := by
  rcases h.lies with h | ⟨g, o, e, _, hc⟩
  · have := congrArg List.length h
    rw [sts_len] at this
    have h0 : l.length = 0 := this
    omega
  · exact ⟨g, o, e, hc k _ (sts_at hk)⟩

/-- A value that owns a row of strings. -/
abbrev SOwns (w : World) (base : Nat) (v : Value) (n : Nat) (l : List (List UInt8)) : Prop := w.ownsRow base 9 1 v n (sts l)
theorem SOwns.sts {w : World} {base n : Nat} {v : Value} {l : List (List UInt8)} (h : SOwns w base v n l) : Sts w v l := by
  have hl := h.1
  rw [sts_len, Nat.mul_one] at hl
  subst hl
  rcases h.2 with ⟨rfl, h0⟩ | ⟨g, cap, cur, rfl, _, hg, hnc, hcm, _, ht⟩
  · have : l = [] := List.eq_nil_of_length_eq_zero h0
    subst this
    exact sts_nil w
  · refine ⟨some ⟨g, 0, none⟩, cap, rfl, hnc, hcm, .inr ⟨g, 0, rfl, (Array.getElem?_eq_some_iff.1 hg).1, fun j x hx => ?_⟩⟩
    rw [← ht, List.getElem?_take] at hx
    split at hx
    · rw [Nat.zero_add]
      simp [World.cell?, hg]
      simpa using hx
    · cases hx
theorem SOwns.alloc {w : World} {base n : Nat} {v : Value} {l : List (List UInt8)} (h : SOwns w base v n l) (o : Obj) : SOwns (w.alloc o) base v n l := World.ownsRow.alloc h o
theorem SOwns.keep {w w' : World} {base n : Nat} {v : Value} {l : List (List UInt8)} (h : SOwns w base v n l) (b : Below w.heap.size w w') : SOwns w' base v n l := by
  refine ⟨h.1, ?_⟩
  rcases h.2 with h2 | ⟨g, cap, cur, e, hb, hg, h3, h4, h5, h6⟩
  · exact .inl h2
  · exact .inr ⟨g, cap, cur, e, hb, (b.block g (Array.getElem?_eq_some_iff.1 hg).1).trans hg, h3, h4, h5, h6⟩
theorem sowns_none (w : World) (base : Nat) : SOwns w base (.slice none 0 0) 0 [] := ⟨rfl, .inl ⟨rfl, rfl⟩⟩
theorem none_sowns (w : World) : SOwns (w.alloc (.cells #[] 9)) w.heap.size (.slice (some ⟨w.heap.size, 0, none⟩) 0 0) 0 [] := World.ownsRow_lit w #[] 0 (Nat.le_refl _) (by unfold maxLen; omega) rfl
theorem sts_newone (w : World) (x : List UInt8) : Sts (w.alloc (.cells #[.string (strB x)] 9)) (.slice (some ⟨w.heap.size, 0, none⟩) 1 1) [x] := sts_block (l := [x]) (one_newN w _ _) (by simp)
theorem sown_app {w : World} {base : Nat} {v : Value} {l : List (List UInt8)} {x : List UInt8} (h : SOwns w base v (l.length + 1) (l ++ [x])) : SOwns w base v (l ++ [x]).length (l ++ [x]) := by
  have e : (l ++ [x]).length = l.length + 1 := by simp
  rw [e]; exact h
theorem sown_from {w : World} {base e size n : Nat} {v : Value} {xs : List Value} (h : w.ownsRow base e size v n xs) : ∀ k, v.ownBlock = some k → base ≤ k := fun k hk => (h.lt k hk).1

set_option maxRecDepth 100000 in
theorem run_sapp {w : World} (ty : TypeId) {base n : Nat} {v : Value} {xs : List (List UInt8)} (hown : SOwns w base v n xs) {A : Option Addr} {m c : Nat} {ys : List (List UInt8)} (hr : Sts w (.slice A m c) ys) (h63 : n + m ≤ 1000000) (hbase : base ≤ w.heap.size) :
    ∃ v' w', (Builtin.append_ #[30, 30] ty #[v, .slice A m c]).run Try.prog w = .ok v' w' ∧ SOwns w' base v' (n + m) (xs ++ ys) ∧ w.grownBy w' v.ownBlock := by
  obtain ⟨i0, hi, hz0, hz1, hz2⟩ := info_parts info_str
  have h1 := hr.len
  have h4 := hr.lies
  cases A with
  | some ad =>
    have hsrc : ∀ j u, (sts ys)[j]? = some u → w.cell? (ad.add j) = some u := by
      intro j u hu
      rcases h4 with h4 | ⟨g, o, e, _, hc⟩
      · rw [h4] at hu; simp at hu
      · injection e with e
        rw [e, add_at]
        exact hc j u hu
    obtain ⟨v', w', ha, hb, hc, _⟩ := run_append_own (P := Try.prog) w base 30 ty 9 i0 (.string ⟨#[]⟩) 1 16 Try.underlying30 hi hz0 hz1 hz2 rfl (by decide) v n (sts xs) hown ad m c (sts ys) (by rw [sts_len, h1, Nat.mul_one]) hsrc (sts_one ys) (by unfold maxLen; omega) (by omega) hbase
    exact ⟨v', w', ha, by have e := sts_app xs ys; unfold SOwns; rw [e]; exact hb, hc⟩
  | none =>
    have hnil : ys = [] := by
      rcases h4 with h | ⟨_, _, h, _⟩
      · have := congrArg List.length h
        rw [sts_len] at this
        exact List.eq_nil_of_length_eq_zero this
      · cases h
    subst hnil
    have hm : m = 0 := by rw [← h1]; rfl
    subst hm
    refine ⟨v, w, ?_, by simpa using hown, World.grownBy.refl w _⟩
    rcases hown.2 with ⟨rfl, rfl⟩ | ⟨g, cap, cur, rfl, _, _, hnc, _⟩
    · simp [Builtin.append_, run_underlying Try.underlying30, sizeOf, typeInfo, hi, Builtin.lenOf, Builtin.firstCells]
    · simp [Builtin.append_, run_underlying Try.underlying30, sizeOf, typeInfo, hi, Builtin.lenOf, Builtin.firstCells, hnc, storeCells]
theorem sapp_below {w0 w w' : World} {base n : Nat} {v : Value} {xs : List (List UInt8)} (hown : SOwns w base v n xs) (hb : Below w0.heap.size w0 w) (hg : w.grownBy w' v.ownBlock) (hB : w0.heap.size ≤ base) : Below w0.heap.size w0 w' :=
  hb.grown hg hb.size (fun k hk => Nat.le_trans hB (sown_from hown k hk))
theorem wp_sapp {o : Oper} {a : Act} {K : Act → World → Prop} {Q : Exit → Act → World → Prop} {w : World} (s x : Operand)
    (ho : o.op = .call { callee := .builtin .append, args := #[s, x], argTypes := #[30, 30] })
    (base : Nat) (v : Value) (n : Nat) (xs : List (List UInt8)) (hs : a.eval s = v) (hown : SOwns w base v n xs)
    (A : Option Addr) (m c : Nat) (ys : List (List UInt8)) (hx : a.eval x = .slice A m c) (hr : Sts w (.slice A m c) ys) (h63 : n + m ≤ 1000000) (hbase : base ≤ w.heap.size)
    (w0 : World) (hb : Below w0.heap.size w0 w) (hB : w0.heap.size ≤ base)
    (h : ∀ v' w', SOwns w' base v' (n + m) (xs ++ ys) → Below w0.heap.size w0 w' → w.grownBy w' v.ownBlock → K (a.put o.dst v') w') : o.wp Try.prog a w K Q := by
  obtain ⟨v', w', hr, h2, h3⟩ := run_sapp o.type hown hr h63 hbase
  unfold Oper.wp execOp
  simp only [ho, resolve, invoke, builtin, Sem.run_bind, Sem.run_pure, Result.andThen_ok, List.map_toArray, List.map_cons, List.map_nil, hs, hx, hr]
  exact h v' w' h2 (sapp_below hown hb h3 hB) h3
theorem wpList_sapp {ops : Array Oper} {rest : List Oper} {o : Oper} {a : Act} {Q : Exit → Act → World → Prop} {w : World} (hgd : o.guard = none) (s x : Operand)
    (ho : o.op = .call { callee := .builtin .append, args := #[s, x], argTypes := #[30, 30] })
    (base : Nat) (v : Value) (n : Nat) (xs : List (List UInt8)) (hs : a.eval s = v) (hown : SOwns w base v n xs)
    (A : Option Addr) (m c : Nat) (ys : List (List UInt8)) (hx : a.eval x = .slice A m c) (hr : Sts w (.slice A m c) ys) (h63 : n + m ≤ 1000000) (hbase : base ≤ w.heap.size)
    (w0 : World) (hb : Below w0.heap.size w0 w) (hB : w0.heap.size ≤ base)
    (h : ∀ v' w', SOwns w' base v' (n + m) (xs ++ ys) → Below w0.heap.size w0 w' → w.grownBy w' v.ownBlock → wpList Try.prog ops Q rest (a.put o.dst v') w') : wpList Try.prog ops Q (o :: rest) a w :=
  wpList_plain hgd fun _ hK => wp_sapp s x ho base v n xs hs hown A m c ys hx hr h63 hbase w0 hb hB fun v' w' h2 h3 h4 => hK _ _ (h v' w' h2 h3 h4)
theorem wpList_sapp_w {ops : Array Oper} {rest : List Oper} {o : Oper} {a : Act} {Q : Exit → Act → World → Prop} {w : World} (hw : Region.wanted o (yielded ops a.tmps) = true) (s x : Operand)
    (ho : o.op = .call { callee := .builtin .append, args := #[s, x], argTypes := #[30, 30] })
    (base : Nat) (v : Value) (n : Nat) (xs : List (List UInt8)) (hs : a.eval s = v) (hown : SOwns w base v n xs)
    (A : Option Addr) (m c : Nat) (ys : List (List UInt8)) (hx : a.eval x = .slice A m c) (hr : Sts w (.slice A m c) ys) (h63 : n + m ≤ 1000000) (hbase : base ≤ w.heap.size)
    (w0 : World) (hb : Below w0.heap.size w0 w) (hB : w0.heap.size ≤ base)
    (h : ∀ v' w', SOwns w' base v' (n + m) (xs ++ ys) → Below w0.heap.size w0 w' → w.grownBy w' v.ownBlock → wpList Try.prog ops Q rest (a.put o.dst v') w') : wpList Try.prog ops Q (o :: rest) a w :=
  wpList_step fun K hK => by
    rw [if_pos hw]
    exact wp_sapp s x ho base v n xs hs hown A m c ys hx hr h63 hbase w0 hb hB fun v' w' h2 h3 h4 => hK _ _ (h v' w' h2 h3 h4)
theorem step_sapp {ops : Array Oper} {o : Oper} {a : Act} {K : Act → World → Prop} {Q : Exit → Act → World → Prop} {E : Prop} {w : World} (hgd : o.guard = none) (s x : Operand)
    (ho : o.op = .call { callee := .builtin .append, args := #[s, x], argTypes := #[30, 30] })
    (base : Nat) (v : Value) (n : Nat) (xs : List (List UInt8)) (hs : a.eval s = v) (hown : SOwns w base v n xs)
    (A : Option Addr) (m c : Nat) (ys : List (List UInt8)) (hx : a.eval x = .slice A m c) (hr : Sts w (.slice A m c) ys) (h63 : n + m ≤ 1000000) (hbase : base ≤ w.heap.size)
    (w0 : World) (hb : Below w0.heap.size w0 w) (hB : w0.heap.size ≤ base)
    (h : ∀ v' w', SOwns w' base v' (n + m) (xs ++ ys) → Below w0.heap.size w0 w' → w.grownBy w' v.ownBlock → K (a.put o.dst v') w') :
    if Region.wanted o (yielded ops a.tmps) = true then Oper.wp Try.prog o a w K Q else E := by
  have hw : Region.wanted o (yielded ops a.tmps) = true := by simp [Region.wanted, hgd]
  rw [if_pos hw]
  exact wp_sapp s x ho base v n xs hs hown A m c ys hx hr h63 hbase w0 hb hB h
end Go.Proofs.Ytakeaocmiblbeaa
