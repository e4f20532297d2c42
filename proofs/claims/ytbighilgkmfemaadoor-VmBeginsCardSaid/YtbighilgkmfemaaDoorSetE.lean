/- What the laws of this stage lean on, part 5: StkBase, StkA, StkB, StkV, FieldsLay, DictRefE, DictRefF, LexCodeC, DictCodeA, DictCodeB, DictCodeC, DictCodeD, WordLay. -/
import Derived.Test.YtbighilgkmfemaaDoorRows
import Derived.WalkKit
import Derived.WalkSpells
import Derived.WalkLawsBesides
import Derived.Deep.QuietTactic
import Derived.BigQuiet
import Derived.Lib.Hide
import Derived.Laws.OwnMore
import Derived.OwnWalk
import Derived.Maps.AppendAt
import Derived.Deep.AppendLies
import Derived.Laws.CopyOwn
import Derived.Lib.SmallJoins
import Derived.Deep.RegionHeld3
import Derived.IntWalk
import Derived.Shelf.Strings.Fields
import Derived.Test.YtbighilgkmfemaaDoorSetC
import Derived.Test.YtbighilgkmfemaaDoorSetD
import Derived.Laws.IdiomStrings
import Derived.Laws.BytesString
import Derived.Shelf.SlicesQ.Equal
import Derived.Laws.StructEq

/- The head of the texts on layer 4: how a row of cells lies in a world, and what an append leaves. -/
namespace Go.Proofs.YtbighilgkmfemaaDoor
open Go.RowKit
set_option linter.unusedVariables false
set_option linter.unusedSimpArgs false

theorem below_thenS {w w1 w2 : World} (h : Below w.heap.size w w1) (k : Below w1.heap.size w1 w2) : Below w.heap.size w w2 := h.trans (k.mono h.size)
abbrev ints (l : List Int) : List Value := l.map (Value.int .i64)
theorem ints_len (l : List Int) : (ints l).length = l.length := by simp [ints]
theorem ints_app (a b : List Int) : ints (a ++ b) = ints a ++ ints b := by simp [ints]
theorem ints_one (l : List Int) : ∀ v ∈ ints l, v.oneCell' = true := by
  intro v hv
  rw [List.mem_map] at hv
  obtain ⟨b, _, rfl⟩ := hv
  rfl
theorem ints_at {l : List Int} {j : Nat} (h : j < l.length) : (ints l)[j]? = some (.int .i64 (l.getD j 0)) := by simp [ints, h]

/-- A row of cells lies at an address. -/
def LiesS (w : World) (A : Option Addr) (xs : List Value) : Prop :=
  xs = [] ∨ ∃ g o, A = some ⟨g, o, none⟩ ∧ g < w.heap.size ∧ ∀ j v, xs[j]? = some v → w.cell? ⟨g, o + j, none⟩ = some v
theorem add_atS (g o j : Nat) : (⟨g, o, none⟩ : Addr).add j = ⟨g, o + j, none⟩ := by unfold Addr.add; split <;> simp_all
theorem LiesS.keep {w w' : World} {A : Option Addr} {xs : List Value} (h : LiesS w A xs) (b : Below w.heap.size w w') : LiesS w' A xs := by
  rcases h with h | ⟨g, o, hA, hg, hc⟩
  · exact .inl h
  · exact .inr ⟨g, o, hA, Nat.lt_of_lt_of_le hg b.size, fun j v hv => (b.cell (p := ⟨g, o + j, none⟩) hg).trans (hc j v hv)⟩
theorem hpos_ofS {w : World} {A : Option Addr} {xs : List Value} (h : LiesS w A xs) {w' : World} (b : Below w.heap.size w w') (hx : 0 < xs.length) : ∃ ad, A = some ad ∧ ∀ j v, xs[j]? = some v → w'.cell? (ad.add j) = some v := by
  rcases h.keep b with rfl | ⟨g, o, rfl, _, hc⟩
  · simp at hx
  · exact ⟨_, rfl, fun j v hv => by rw [add_atS]; exact hc j v hv⟩

/-- A slice of cells. -/
def Row (w : World) (A : Option Addr) (n c : Nat) (l : List Int) : Prop := l.length = n ∧ n ≤ c ∧ c ≤ maxLen ∧ LiesS w A (ints l)
theorem Row.keep {w w' : World} {A : Option Addr} {n c : Nat} {l : List Int} (h : Row w A n c l) (b : Below w.heap.size w w') : Row w' A n c l := ⟨h.1, h.2.1, h.2.2.1, h.2.2.2.keep b⟩
theorem row_nil (w : World) : Row w none 0 0 [] := ⟨rfl, Nat.le_refl _, Nat.zero_le _, .inl rfl⟩
theorem Row.cells {w : World} {A : Option Addr} {n c : Nat} {l : List Int} (h : Row w A n c l) (hn : 0 < n) : ∃ g o, A = some ⟨g, o, none⟩ ∧ g < w.heap.size ∧ ∀ j, j < n → w.cell? ⟨g, o + j, none⟩ = some (.int .i64 (l.getD j 0)) := by
  obtain ⟨h1, _, _, h4⟩ := h
  rcases h4 with h4 | ⟨g, o, hA, hg, hc⟩
  · have : l = [] := by simpa [ints] using h4
    subst this
    simp at h1
    omega
  · exact ⟨g, o, hA, hg, fun j hj => hc j _ (ints_at (by omega))⟩
theorem Row.high {w : World} {A : Option Addr} {n c : Nat} {l : List Int} (h : Row w A n c l) {k : Nat} (hk : k ≤ n) : Row w A k c (l.take k) := by
  obtain ⟨h1, h2, h3, h4⟩ := h
  refine ⟨by simp; omega, by omega, h3, ?_⟩
  rcases h4 with h4 | ⟨g, o, hA, hg, hc⟩
  · left
    have := congrArg List.length h4
    rw [ints_len] at this
    simp at this
    subst this
    simp
  · refine .inr ⟨g, o, hA, hg, fun j v hv => hc j v ?_⟩
    unfold ints at hv
    rw [List.map_take, List.getElem?_take] at hv
    split at hv
    · exact hv
    · cases hv
/-- Where a slice's rest lies. -/
def restAt (A : Option Addr) (k c : Nat) : Option Addr := if c = k then A else A.map (·.add (k * 1))
theorem Row.rest {w : World} {A : Option Addr} {n c : Nat} {l : List Int} (h : Row w A n c l) {k : Nat} (hk : k ≤ n) : Row w (restAt A k c) (n - k) (c - k) (l.drop k) := by
  obtain ⟨h1, h2, h3, h4⟩ := h
  refine ⟨by simp; omega, by omega, by omega, ?_⟩
  by_cases hc : c = k
  · left
    have : l.drop k = [] := List.drop_eq_nil_of_le (by omega)
    rw [this]
    rfl
  · rcases h4 with h4 | ⟨g, o, rfl, hg, hcc⟩
    · left
      have := congrArg List.length h4
      rw [ints_len] at this
      simp at this
      subst this
      simp
    · refine .inr ⟨g, o + k, by unfold restAt; rw [if_neg hc]; simp [add_atS], hg, fun j v hv => ?_⟩
      unfold ints at hv
      rw [List.map_drop, List.getElem?_drop] at hv
      rw [Nat.add_assoc]
      exact hcc _ v hv
theorem info_int : (Tryd.prog.info? 3).map (fun i => (i.zero, i.size, i.bytes)) = some (some (.int .i64 0), 1, 8) := by kernel_rfl
/-- A value that owns a row of cells. -/
abbrev Owns (w : World) (base : Nat) (v : Value) (n : Nat) (l : List Int) : Prop := w.ownsRow base 3 1 v n (ints l)
theorem Owns.row {w : World} {base n : Nat} {v : Value} {l : List Int} (h : Owns w base v n l) : ∃ A c, v = .slice A n c ∧ Row w A n c l := by
  have hl := h.1
  rw [ints_len, Nat.mul_one] at hl
  rcases h.2 with ⟨rfl, h0⟩ | ⟨g, cap, cur, rfl, _, hg, hnc, hcm, _, ht⟩
  · have : l = [] := List.eq_nil_of_length_eq_zero (by omega)
    subst this
    subst h0
    exact ⟨_, _, rfl, row_nil w⟩
  · refine ⟨_, _, rfl, hl, hnc, hcm, .inr ⟨g, 0, rfl, (Array.getElem?_eq_some_iff.1 hg).1, fun j x hx => ?_⟩⟩
    rw [← ht, List.getElem?_take] at hx
    split at hx
    · rw [Nat.zero_add]
      simp [World.cell?, hg]
      simpa using hx
    · cases hx
theorem Owns.alloc {w : World} {base n : Nat} {v : Value} {l : List Int} (h : Owns w base v n l) (o : Obj) : Owns (w.alloc o) base v n l := World.ownsRow.alloc h o
theorem own_fromS {w : World} {base e size n : Nat} {v : Value} {xs : List Value} (h : w.ownsRow base e size v n xs) : ∀ k, v.ownBlock = some k → base ≤ k := fun k hk => (h.lt k hk).1
theorem owns_block {w : World} {base g n : Nat} {l : List Int} (h : w.heap[g]? = some (.cells (ints l).toArray 3 (0, 0))) (hl : l.length = n) (hb : base ≤ g) (hm : n ≤ maxLen) : Owns w base (.slice (some ⟨g, 0, none⟩) n n) n l :=
  ⟨by rw [ints_len, hl, Nat.mul_one], .inr ⟨g, n, _, rfl, hb, h, Nat.le_refl _, hm, by simp [ints, hl], by rw [← hl, Nat.mul_one]; exact List.take_of_length_le (by simp [ints])⟩⟩

/-- What has become of a world since; behind a name. -/
def Since (w a : World) : Prop := Below w.heap.size w a
theorem Since.drew {w a : World} (h : Since w a) : Since w a.drew := Below.trans h ⟨rfl, rfl, rfl, Nat.le_refl _, fun _ _ => rfl⟩
theorem Since.bel {w a : World} (h : Since w a) : Below w.heap.size w a := h
theorem Since.then {w a b : World} (h : Since w a) (k : Below a.heap.size a b) : Since w b := below_thenS h k
theorem Since.cell {w a : World} {g o : Nat} {v : Value} (h : Since w a) (hg : g < w.heap.size) (hc : w.cell? ⟨g, o, none⟩ = some v) : a.cell? ⟨g, o, none⟩ = some v := (Below.cell h (p := ⟨g, o, none⟩) hg).trans hc
theorem Row.grown {w w' : World} {g n c : Nat} {l : List Int} {row : Option Nat} (h : Row w (some ⟨g, 0, none⟩) n c l) (hg : w.grownBy w' row) (hne : some g ≠ row) : Row w' (some ⟨g, 0, none⟩) n c l := by
  refine ⟨h.1, h.2.1, h.2.2.1, ?_⟩
  rcases h.2.2.2 with h | ⟨b, o, e, hb, hc⟩
  · exact .inl h
  · injection e with e
    injection e with e1 e2
    subst e1 e2
    exact .inr ⟨g, 0, rfl, Nat.lt_of_lt_of_le hb hg.size, fun j v hv => (hg.cell_far ⟨g, 0 + j, none⟩ hb hne).trans (hc j v hv)⟩
end Go.Proofs.YtbighilgkmfemaaDoor

/- Contracts of own, with, Push and Pop of package stk. -/
namespace Go.Proofs.YtbighilgkmfemaaDoor
open Go.RowKit
set_option linter.unusedVariables false
set_option linter.unusedSimpArgs false

set_option maxRecDepth 100000 in
set_option maxHeartbeats 1000000 in
theorem own_any (A : Option Addr) (n c : Nat) (l : List Int) (w : World) (hn : n ≤ 65536) (HR : Hid (Row w A n c l)) :
    Calls Tryd.prog 68 #[.slice A n c] w fun e w' => ∃ g, e = .returned (.slice (some ⟨g, 0, none⟩) n n) ∧ Owns w' w.heap.size (.slice (some ⟨g, 0, none⟩) n n) n l ∧ Below w.heap.size w w' := by
  obtain ⟨i0, hi, hz0, hz1, hz2⟩ := info_parts info_int
  obtain ⟨Z, hZ⟩ : ∃ Z, Z = (madeCells (Value.int .i64 0).cells n).toList := ⟨_, rfl⟩
  obtain ⟨X, hX⟩ : ∃ X, X = ints l := ⟨_, rfl⟩
  have hmk : (Instr.makeSlice 29 (.int .i64 (n : Int)) (.int .i64 (n : Int))).run Tryd.prog w = .ok (.slice (some ⟨w.heap.size, 0, none⟩) n n) (w.alloc (.cells Z.toArray 3)) := by
    have := run_make (P := Tryd.prog) w 29 3 i0 (.int .i64 0) Tryd.underlying29 hi hz0 .i64 .i64 n n (by omega) (Int.le_refl _) (by rw [hz2]; omega) (by omega)
    rw [hz1] at this
    simpa [hZ] using this
  have HZ : Hid (Z.length = n) := by rw [hZ]; show _ = n; simp [size_madeCells]
  have HX : Hid (X.length = n) := by rw [hX]; have := HR.out.1; show _ = n; rw [ints_len]; exact this
  have HE := Lib.hid hX
  have HL0 := Lib.hid HR.out.2.2.2
  clear hX hZ hi hz0 hz1 hz2
  go_enter Tryd.func68, Tryd.ntmps68
  go_wp2_with (with_reducible refine wpList_copy_splice rfl (.tmp 7) (.tmp 8) 29 29 rfl 3 Tryd.underlying29 ?c0 (some ⟨w.heap.size, 0, none⟩) A n n n c rfl rfl w.heap.size 0 Z 3 ?c1 X ?c2 (fun hx => ⟨rfl, hpos_ofS (HE.out ▸ HL0.out) ((Below.refl _ _).alloc (Nat.le_refl _) _) hx⟩) ?c3 ?c4 w.heap.size w ?c5 ?c6 ?_)
  case c0 => kernel_rfl
  case c1 => exact heap_alloc_new _ _
  case c2 => rw [HX.out]; simp
  case c3 => rw [HX.out, HZ.out]; omega
  case c4 => rw [HE.out]; exact ints_one l
  case c5 => exact (Below.refl _ _).alloc (Nat.le_refl _) _
  case c6 => omega
  intro w2 hg hb2
  go_wp2
  go_ret
  refine ⟨w.heap.size, rfl, owns_block ?_ HR.out.1 (Nat.le_refl _) (by unfold maxLen; omega), hb2⟩
  have h2 := hg.out
  have e : splice Z 0 X = X := by
    have z := HZ.out
    have x := HX.out
    simp [splice, z, x]
  rw [e, HE.out] at h2
  exact h2

set_option maxRecDepth 100000 in
set_option maxHeartbeats 1000000 in
theorem with_anyS (A : Option Addr) (n c : Nat) (x : Int) (l : List Int) (w : World) (hn : n ≤ 65536) (HR : Hid (Row w A n c l)) :
    Calls Tryd.prog 69 #[.slice A n c, .int .i64 x] w fun e w' => ∃ g, e = .returned (.slice (some ⟨g, 0, none⟩) (n + 1) (n + 1)) ∧ Owns w' w.heap.size (.slice (some ⟨g, 0, none⟩) (n + 1) (n + 1)) (n + 1) (l ++ [x]) ∧ Below w.heap.size w w' := by
  obtain ⟨i0, hi, hz0, hz1, hz2⟩ := info_parts info_int
  obtain ⟨Z, hZ⟩ : ∃ Z, Z = (madeCells (Value.int .i64 0).cells (n + 1)).toList := ⟨_, rfl⟩
  obtain ⟨X, hX⟩ : ∃ X, X = ints l := ⟨_, rfl⟩
  have hmk : (Instr.makeSlice 29 (.int .i64 ((n : Int) + 1)) (.int .i64 ((n : Int) + 1))).run Tryd.prog w = .ok (.slice (some ⟨w.heap.size, 0, none⟩) (n + 1) (n + 1)) (w.alloc (.cells Z.toArray 3)) := by
    have := run_make (P := Tryd.prog) w 29 3 i0 (.int .i64 0) Tryd.underlying29 hi hz0 .i64 .i64 ((n : Int) + 1) ((n : Int) + 1) (by omega) (Int.le_refl _) (by rw [hz2]; omega) (by omega)
    rw [hz1] at this
    simpa [hZ] using this
  have HZ : Hid (Z.length = n + 1) := by rw [hZ]; show _ = n + 1; simp [size_madeCells]
  have HX : Hid (X.length = n) := by rw [hX]; have := HR.out.1; show _ = n; rw [ints_len]; exact this
  have HE := Lib.hid hX
  have HL0 := Lib.hid HR.out.2.2.2
  clear hX hZ hi hz0 hz1 hz2
  go_enter Tryd.func69, Tryd.ntmps69
  go_wp2_with (with_reducible refine wpList_copy_splice rfl (.tmp 10) (.tmp 11) 29 29 rfl 3 Tryd.underlying29 ?c0 (some ⟨w.heap.size, 0, none⟩) A (n + 1) (n + 1) n c rfl rfl w.heap.size 0 Z 3 ?c1 X ?c2 (fun hx => ⟨rfl, hpos_ofS (HE.out ▸ HL0.out) ((Below.refl _ _).alloc (Nat.le_refl _) _) hx⟩) ?c3 ?c4 w.heap.size w ?c5 ?c6 ?_)
  case c0 => kernel_rfl
  case c1 => exact heap_alloc_new _ _
  case c2 => rw [HX.out]; simp
  case c3 => rw [HX.out, HZ.out]; omega
  case c4 => rw [HE.out]; exact ints_one l
  case c5 => exact (Below.refl _ _).alloc (Nat.le_refl _) _
  case c6 => omega
  intro w2 hg hb2
  have e : splice Z 0 X = X ++ Z.drop n := by
    have z := HZ.out
    have x := HX.out
    simp [splice, z, x]
  rw [e] at hg
  have hl : (X ++ Z.drop n).length = n + 1 := by have z := HZ.out; have x := HX.out; simp [z, x]
  obtain ⟨y, hy⟩ : ∃ y, (X ++ Z.drop n)[n]? = some y := ⟨_, List.getElem?_eq_getElem (by omega)⟩
  have k2 : w2.cell? ⟨w.heap.size, n, none⟩ = some y := by
    simp only [World.cell?, hg.out]
    simpa using hy
  have f2 : w2.frozen? ⟨w.heap.size, n, none⟩ = false := by simp [World.frozen?, hg.out]
  have HB2 := Lib.hid hb2
  have HL := Lib.hid hl
  clear e hl hb2 hy
  go_wp2
  go_ret
  refine ⟨w.heap.size, rfl, owns_block ?_ (by have := HR.out.1; simp [this]) (Nat.le_refl _) (by unfold maxLen; omega), HB2.out.setCell (Nat.le_refl _) _⟩
  rw [Go.Joins.block_setCell hg.out]
  congr 2
  have z := HZ.out
  have x' := HX.out
  have hx : (X ++ Z.drop n).set n (.int .i64 x) = X ++ [.int .i64 x] := by
    rw [List.set_append_right _ _ (by omega), x', Nat.sub_self]
    congr 1
    have : Z.drop n = [Z[n]] := by
      rw [List.drop_eq_getElem_cons (by omega), List.drop_eq_nil_of_le (by omega)]
    rw [this]
    rfl
  rw [show ints (l ++ [x]) = X ++ [.int .i64 x] by rw [HE.out, ints_app]; rfl]
  simp [hx]
end Go.Proofs.YtbighilgkmfemaaDoor

/- Contracts of Push and Pop of package stk, and of the document's own. -/
namespace Go.Proofs.YtbighilgkmfemaaDoor
open Go.RowKit
set_option linter.unusedVariables false
set_option linter.unusedSimpArgs false

/-- What Push answers. -/
def pushL (l : List Int) (x limit : Int) : List Int := if limit ≤ (l.length : Int) then l else l ++ [x]
def pushC (l : List Int) (limit : Int) : Int := if limit ≤ (l.length : Int) then -3 else 0
/-- What Pop answers. -/
def popX (l : List Int) : Int := l.getD (l.length - 1) 0
def popL (l : List Int) : List Int := l.take (l.length - 1)
def popC (l : List Int) : Int := if l.length = 0 then -4 else 0

theorem pop_some {l : List Int} {k : Nat} (h : l.length = k + 1) : popX l = l.getD k 0 ∧ popL l = l.take k ∧ popC l = 0 := by
  unfold popX popL popC
  rw [h]
  exact ⟨rfl, rfl, rfl⟩

/-- Are two rows the same? -/
def sameB (a b : List Int) : Bool := decide (a = b)
end Go.Proofs.YtbighilgkmfemaaDoor

/- Push and Pop, the program's and the document's: where the rows lie that they answer: in blocks of their own, or where the row lay. -/
namespace Go.Proofs.YtbighilgkmfemaaDoor
open Go.RowKit
set_option linter.unusedVariables false
set_option linter.unusedSimpArgs false

/-- The row that is answered is the one that was handed in, or it lies in a block that w did not have. -/
def From (w : World) (A : Option Addr) (n c : Nat) (B : Option Addr) (m d : Nat) : Prop := (B = A ∧ m = n ∧ d = c) ∨ ∀ b, B = some b → w.heap.size ≤ b.block
theorem from_none (w : World) (A : Option Addr) (n c m d : Nat) : From w A n c none m d := .inr fun b e => by cases e
theorem from_own {w w' : World} {A B : Option Addr} {n' c base n m d : Nat} {v : Value} {l : List Int} (h : Owns w' base v n l) (hb : w.heap.size ≤ base) (e : v = .slice B m d) : From w A n' c B m d := by
  refine .inr fun b eb => ?_
  subst eb
  subst e
  exact Nat.le_trans hb (own_fromS h b.block rfl)
/-- Such a row stays where blocks are written that lie between: w had none of them, and what was answered does not lie there. -/
theorem Row.from {w w1 w2 : World} {A B : Option Addr} {n c m d : Nat} {l l' : List Int} (h : Row w A n c l) (h1 : Row w1 B m d l') {W : World} (hf : From W A n c B m d) (hw : w.heap.size ≤ W.heap.size) (hz : w1.heap.size ≤ w2.heap.size)
    (hs : ∀ g, g < w.heap.size ∨ W.heap.size ≤ g → g < w1.heap.size → w2.heap[g]? = w1.heap[g]?) : Row w2 B m d l' := by
  obtain ⟨q1, q2, q3, q4⟩ := h1
  refine ⟨q1, q2, q3, ?_⟩
  rcases q4 with q4 | ⟨g, o, e, hg, hc⟩
  · exact .inl q4
  · by_cases h0 : ints l' = []
    · exact .inl h0
    · have hgg : g < w.heap.size ∨ W.heap.size ≤ g := by
        rcases hf with ⟨f1, f2, f3⟩ | hf
        · subst f1 f2
          have hl : l.length = l'.length := by rw [h.1, q1]
          rcases h.2.2.2 with h4 | ⟨g', o', e', hg', _⟩
          · have := congrArg List.length h4
            rw [ints_len] at this
            have hz : l.length = 0 := this
            exact absurd (by rw [List.eq_nil_of_length_eq_zero (by omega : l'.length = 0)]; rfl) h0
          · rw [e] at e'
            injection e' with e'
            injection e' with e1
            subst e1
            exact .inl hg'
        · exact .inr (hf _ e)
      refine .inr ⟨g, o, e, by omega, fun j v hv => ?_⟩
      have := hc j v hv
      unfold World.cell? at this ⊢
      rw [hs g hgg hg]
      exact this

set_option maxRecDepth 100000 in
set_option maxHeartbeats 1000000 in
theorem pushF_at (A : Option Addr) (n c : Nat) (x limit : Int) (l : List Int) (w : World) (hn : n ≤ 65536) (HR : Hid (Row w A n c l)) :
    Calls Tryd.prog 35 #[.slice A n c, .int .i64 x, .int .i64 limit] w fun e w' => ∃ B m d, e = .returned (.tuple #[.slice B m d, .int .i64 (pushC l limit)]) ∧ Row w' B m d (pushL l x limit) ∧ From w A n c B m d ∧ Below w.heap.size w w' := by
  have hl := HR.out.1
  by_cases h : limit ≤ (n : Int)
  · have H1 : Hid (pushC l limit = -3) := if_pos (by rw [hl]; exact h)
    have H2 : Hid (pushL l x limit = l) := if_pos (by rw [hl]; exact h)
    rw [H1.out]
    clear hl
    go_enter Tryd.func35, Tryd.ntmps35
    go_wp2_with fail
    refine (own_any _ _ _ l _ hn HR).mono ?_
    rintro e w1 ⟨g, rfl, ho, b1⟩
    have HO := Lib.hid ho
    clear ho
    go_wp2_with fail
    go_ret2
    obtain ⟨B, d, e, hr⟩ := HO.out.row
    injection e with e1 e2 e3
    subst e1 e3
    exact ⟨_, _, _, rfl, by rw [H2.out]; exact hr, from_own HO.out (Nat.le_refl _) rfl, b1⟩
  · have H1 : Hid (pushC l limit = 0) := if_neg (by rw [hl]; exact h)
    have H2 : Hid (pushL l x limit = l ++ [x]) := if_neg (by rw [hl]; exact h)
    rw [H1.out]
    have h' : decide (limit ≤ (n : Int)) = false := by simp; omega
    clear hl h
    go_enter Tryd.func35, Tryd.ntmps35
    go_wp2_with fail
    refine (with_anyS _ _ _ x l _ hn HR).mono ?_
    rintro e w1 ⟨g, rfl, ho, b1⟩
    have HO := Lib.hid ho
    clear ho
    go_wp2_with fail
    go_ret2
    obtain ⟨B, d, e, hr⟩ := HO.out.row
    injection e with e1 e2 e3
    subst e1 e3
    exact ⟨_, _, _, rfl, by rw [H2.out]; exact hr, from_own HO.out (Nat.le_refl _) rfl, b1⟩

set_option maxRecDepth 100000 in
set_option maxHeartbeats 4000000 in
theorem popF_at (A : Option Addr) (n c : Nat) (l : List Int) (w : World) (hn : n ≤ 65536) (HR : Hid (Row w A n c l)) :
    Calls Tryd.prog 36 #[.slice A n c] w fun e w' => ∃ B m d, e = .returned (.tuple #[.int .i64 (popX l), .slice B m d, .int .i64 (popC l)]) ∧ Row w' B m d (popL l) ∧ From w A n c B m d ∧ Below w.heap.size w w' := by
  have hl := HR.out.1
  have hc := HR.out.2.1
  have hm := HR.out.2.2.1
  cases n with
  | zero =>
    obtain rfl : l = [] := List.eq_nil_of_length_eq_zero hl
    clear hl
    go_enter Tryd.func36, Tryd.ntmps36
    go_wp2
    go_ret3
    exact ⟨_, _, _, rfl, row_nil _, from_none _ _ _ _ _ _, Below.refl _ _⟩
  | succ k =>
    obtain ⟨h1, h2, h3⟩ := pop_some hl
    rw [h1, h3]
    obtain ⟨g, o, rfl, hg, hce⟩ := HR.out.cells (by omega)
    have k0 := hce k (by omega)
    obtain ⟨y, hy⟩ : ∃ y, l.getD k 0 = y := ⟨_, rfl⟩
    rw [hy] at k0 ⊢
    have H2 := Lib.hid h2
    have HT := Lib.hid (HR.out.high (k := k) (by omega))
    have hkc : (k : Int) ≤ (c : Int) := by omega
    have hk1 : (k : Int) < (k : Int) + 1 := by omega
    unfold maxLen at hm
    clear h1 h2 h3 hce hy hl hc
    go_enter Tryd.func36, Tryd.ntmps36
    have S0 : (w.cell? ⟨g, o + k, none⟩ = some (.int .i64 y) ∧ Since w w) := ⟨k0, Below.refl _ _⟩
    have SD : Hid (∀ a, (a.cell? ⟨g, o + k, none⟩ = some (.int .i64 y) ∧ Since w a) → (a.drew.cell? ⟨g, o + k, none⟩ = some (.int .i64 y) ∧ Since w a.drew)) := Lib.hid fun a h => ⟨h.1, h.2.drew⟩
    have SK : Hid (∀ a b, (a.cell? ⟨g, o + k, none⟩ = some (.int .i64 y) ∧ Since w a) → Below a.heap.size a b → (b.cell? ⟨g, o + k, none⟩ = some (.int .i64 y) ∧ Since w b)) := Lib.hid fun a b h kb => ⟨(h.2.then kb).cell hg k0, h.2.then kb⟩
    have HS0 := Lib.hid S0
    clear S0 k0
    go_wp2_with fail
    refine wp_region_noPanic ?_
    go_region_held3 (fun a => a.cell? ⟨g, o + k, none⟩ = some (.int .i64 y) ∧ Since w a) (first | assumption | exact SD.out _ HS0.out)
      (first | (go_at_call 68; have s4 : (_ ∧ Since w _) := (by assumption); ((with_reducible refine (own_any _ _ _ (l.take k) _ (by omega) (Lib.hid (HT.out.keep s4.2.bel))).mono ?_); rintro e w5 ⟨g5, rfl, ho, b5⟩; have s5 := SK.out _ _ s4 b5; have HO := Lib.hid ho; clear ho s4)))
    all_goals (refine NoPanic.normal ?_)
    all_goals go_wp2
    all_goals go_ret3
    all_goals
      obtain ⟨B, d, e, hr⟩ := HO.out.row
      injection e with e1 e2 e3
      subst e1 e3
      exact ⟨_, _, _, rfl, by rw [H2.out]; exact hr, from_own HO.out (Nat.le_refl _) rfl, s5.2⟩

end Go.Proofs.YtbighilgkmfemaaDoor

/- The library's contract of strings.Fields, laid at this program's own numbers; the table of blanks that it reads. -/
namespace Go.Proofs
open Go.Shelf
def Tryd.fields_ren : Go.Shelf.Ren := ⟨fun | 157 => 24 | 199 => 62 | 229 => 61 | 261 => 90 | 311 => 94 | 312 => 95 | n => n, fun | 0 => 0 | 3 => 3 | 4 => 4 | 5 => 5 | 9 => 9 | 21 => 21 | 31 => 42 | 40 => 111 | 46 => 163 | 49 => 151 | 51 => 140 | 119 => 109 | 141 => 142 | 152 => 137 | 154 => 139 | 193 => 147 | 194 => 148 | 196 => 150 | 198 => 153 | 201 => 156 | 226 => 162 | 227 => 164 | n => n, fun | 0 => 0 | 6 => 1 | n => n⟩
theorem Tryd.fields_lays : Go.Proofs.Lays.n157 Tryd.prog Tryd.fields_ren := {
  mixed := by kernel_rfl
  f157 := Tryd.func24.trans (congrArg some (by kernel_rfl))
  f199 := Tryd.func62.trans (congrArg some (by kernel_rfl))
  f229 := Tryd.func61.trans (congrArg some (by kernel_rfl))
  f261 := Tryd.func90.trans (congrArg some (by kernel_rfl))
  f311 := Tryd.func94.trans (congrArg some (by kernel_rfl))
  f312 := Tryd.func95.trans (congrArg some (by kernel_rfl))
  t0 := Tryd.underlying0
  a0 := Tryd.isAgg0
  z0 := Tryd.sizeOf0
  v0 := Tryd.zeroValue0
  t3 := Tryd.underlying3
  a3 := Tryd.isAgg3
  z3 := Tryd.sizeOf3
  v3 := Tryd.zeroValue3
  t4 := Tryd.underlying4
  a4 := Tryd.isAgg4
  z4 := Tryd.sizeOf4
  v4 := Tryd.zeroValue4
  t5 := Tryd.underlying5
  a5 := Tryd.isAgg5
  z5 := Tryd.sizeOf5
  v5 := Tryd.zeroValue5
  t9 := Tryd.underlying9
  a9 := Tryd.isAgg9
  z9 := Tryd.sizeOf9
  v9 := Tryd.zeroValue9
  t21 := Tryd.underlying21
  a21 := Tryd.isAgg21
  z21 := Tryd.sizeOf21
  v21 := Tryd.zeroValue21
  t31 := Tryd.underlying42
  a31 := Tryd.isAgg42
  z31 := Tryd.sizeOf42
  v31 := Tryd.zeroValue42
  t40 := Tryd.underlying111
  a40 := Tryd.isAgg111
  z40 := Tryd.sizeOf111
  v40 := Tryd.zeroValue111
  t46 := Tryd.underlying163
  a46 := Tryd.isAgg163
  z46 := Tryd.sizeOf163
  v46 := Tryd.zeroValue163
  t49 := Tryd.underlying151
  a49 := Tryd.isAgg151
  z49 := Tryd.sizeOf151
  v49 := Tryd.zeroValue151
  t51 := Tryd.underlying140
  a51 := Tryd.isAgg140
  z51 := Tryd.sizeOf140
  v51 := Tryd.zeroValue140
  t119 := Tryd.underlying109
  a119 := Tryd.isAgg109
  z119 := Tryd.sizeOf109
  t141 := Tryd.underlying142
  a141 := Tryd.isAgg142
  z141 := Tryd.sizeOf142
  v141 := Tryd.zeroValue142
  t152 := Tryd.underlying137
  a152 := Tryd.isAgg137
  z152 := Tryd.sizeOf137
  v152 := Tryd.zeroValue137
  t154 := Tryd.underlying139
  a154 := Tryd.isAgg139
  z154 := Tryd.sizeOf139
  v154 := Tryd.zeroValue139
  t193 := Tryd.underlying147
  a193 := Tryd.isAgg147
  z193 := Tryd.sizeOf147
  v193 := Tryd.zeroValue147
  t194 := Tryd.underlying148
  a194 := Tryd.isAgg148
  z194 := Tryd.sizeOf148
  v194 := Tryd.zeroValue148
  t196 := Tryd.underlying150
  a196 := Tryd.isAgg150
  z196 := Tryd.sizeOf150
  v196 := Tryd.zeroValue150
  t198 := Tryd.underlying153
  a198 := Tryd.isAgg153
  z198 := Tryd.sizeOf153
  v198 := Tryd.zeroValue153
  t201 := Tryd.underlying156
  a201 := Tryd.isAgg156
  z201 := Tryd.sizeOf156
  v201 := Tryd.zeroValue156
  t226 := Tryd.underlying162
  a226 := Tryd.isAgg162
  z226 := Tryd.sizeOf162
  v226 := Tryd.zeroValue162
  t227 := Tryd.underlying164
  a227 := Tryd.isAgg164
  z227 := Tryd.sizeOf164
  v227 := Tryd.zeroValue164
  g0 := by kernel_rfl
  g6 := by kernel_rfl }
end Go.Proofs
namespace Go.Proofs.YtbighilgkmfemaaDoor
open Go.RowKit Go.Lib Go.Shelf
set_option linter.unusedVariables false
set_option linter.unusedSimpArgs false

/-- The library's table of blanks, as it was laid. -/
def Tab (w : World) : Prop := ∀ c : Nat, c < 256 → w.cell? ⟨0, c, none⟩ = some (.int .u8 (if Lib.isSp (UInt8.ofNat c) then 1 else 0))
theorem Tab.keep {w w' : World} (h : Tab w) (b : Below w.heap.size w w') : Tab w' := fun c hc => (b.cell (p := ⟨0, c, none⟩) (World.block_lt_of_cell? _ _ (h c hc))).trans (h c hc)
theorem fields_hi : (Tryd.prog.info? (Tryd.fields_ren.t 9)).map (fun i => (i.zero, i.size, i.bytes)) = some (some (.string ByteArray.empty), 1, 16) := by kernel_rfl
theorem fields_any (l : List UInt8) (w : World) (hl : l.length < 4294967281) (ha : l.all (fun b => decide (b.toNat < 128)) = true) (ht : Tab w) (ls : List (List UInt8)) (hls : Lib.fields l = ls) :
    Calls Tryd.prog 24 #[.string (strB l)] w fun e w' => e = .returned (.slice (some ⟨w.heap.size, 0, none⟩) ls.length ls.length) ∧ w' = w.alloc (.cells (sts ls).toArray 9) := by
  have h := Any.strings_Fields_core Tryd.fields_lays fields_hi (strB l) w (by rw [strB_size]; exact hl) (fun j b hb => by
    have : b ∈ l := by
      have e : (strB l).data.toList = l := by simp [strB]
      rw [e] at hb
      exact List.mem_of_getElem? hb
    simpa using List.all_eq_true.1 ha b this) ht
  have e : (strB l).data.toList = l := by simp [strB]
  rw [e, hls] at h
  exact h
end Go.Proofs.YtbighilgkmfemaaDoor

/- Contracts of the document's Add, Cut. -/
namespace Go.Proofs.YtbighilgkmfemaaDoor
open Go.RowKit
set_option linter.unusedVariables false
set_option linter.unusedSimpArgs false

/-- What Add, Flag, Cut answer. -/
abbrev DictOut (l' : List Wr) (k : Int) (w : World) (e : Ending) (w' : World) : Prop := ∃ A' n' c', e = .returned (.tuple #[.slice A' n' c', .int .i64 k]) ∧ Wds w' (.slice A' n' c') l' ∧ Below w.heap.size w w'

end Go.Proofs.YtbighilgkmfemaaDoor

/- The contract of the document's Flag. -/
namespace Go.Proofs.YtbighilgkmfemaaDoor
open Go.RowKit
set_option linter.unusedVariables false
set_option linter.unusedSimpArgs false

theorem WOwns.block {w : World} {base n : Nat} {v : Value} {l : List Wr} (h : WOwns w base v n l) (hn : 0 < n) : ∃ g cap, v = .slice (some ⟨g, 0, none⟩) n cap ∧ base ≤ g ∧ g < w.heap.size ∧ ∀ k, k < n → (∃ x, w.cell? ⟨g, k * 3 + 2, none⟩ = some x) ∧ w.frozen? ⟨g, k * 3 + 2, none⟩ = false := by
  rcases h.2 with ⟨_, h0⟩ | ⟨g, cap, cur, e, hb, hg, hnc, hcm, hcs, ht⟩
  · omega
  · refine ⟨g, cap, e, hb, (Array.getElem?_eq_some_iff.1 hg).1, fun k hk => ?_⟩
    have hks : k * 3 + 2 < cur.size := by omega
    refine ⟨⟨cur[k * 3 + 2], by simp [World.cell?, hg, hks]⟩, by simp [World.frozen?, hg]⟩
end Go.Proofs.YtbighilgkmfemaaDoor

/- Contracts of lex's turner, of the closure that it makes, of Upper and Alike. -/
namespace Go.Proofs.YtbighilgkmfemaaDoor
open Go.RowKit
set_option linter.unusedVariables false
set_option linter.unusedSimpArgs false

/-- The boxes that the closure holds. -/
def Tn (w : World) (p q r : Addr) : Prop := w.cell? p = some (.int .u8 97) ∧ w.cell? q = some (.int .u8 122) ∧ w.cell? r = some (.int .u8 65)
/-- .. in blocks of a world. -/
def TnB (w : World) (p q r : Nat) : Prop := Tn w ⟨p, 0, none⟩ ⟨q, 0, none⟩ ⟨r, 0, none⟩ ∧ p < w.heap.size ∧ q < w.heap.size ∧ r < w.heap.size
theorem TnB.keep {w w' : World} {p q r : Nat} (h : TnB w p q r) (b : Below w.heap.size w w') : TnB w' p q r := by
  obtain ⟨⟨h1, h2, h3⟩, h4, h5, h6⟩ := h
  have hz := b.size
  exact ⟨⟨(b.cell (p := ⟨p, 0, none⟩) h4).trans h1, (b.cell (p := ⟨q, 0, none⟩) h5).trans h2, (b.cell (p := ⟨r, 0, none⟩) h6).trans h3⟩, by omega, by omega, by omega⟩

/-- A row of bytes in block g, with room behind it. -/
def Rw (w : World) (g C : Nat) (l : List UInt8) : Prop := ∃ X : Array Value, w.heap[g]? = some (.cells ((u8s l).toArray ++ X) 5 (C, C + 1)) ∧ l.length ≤ C ∧ C ≤ maxLen
theorem Rw.lt {w : World} {g C : Nat} {l : List UInt8} (h : Rw w g C l) : g < w.heap.size := by
  obtain ⟨X, h1, _⟩ := h
  exact (Array.getElem?_eq_some_iff.1 h1).1
theorem Rw.use {w : World} {g C : Nat} {l : List UInt8} (h : Rw w g C l) {k : Nat} {c : UInt8} (hk : l[k]? = some c) : w.cell? ⟨g, k, none⟩ = some (.int .u8 (c.toNat : Int)) ∧ w.frozen? ⟨g, k, none⟩ = false := by
  obtain ⟨X, h1, h2, h3⟩ := h
  have hkl := (List.getElem?_eq_some_iff.1 hk).1
  have e : ((u8s l).toArray ++ X)[k]? = some (.int .u8 (c.toNat : Int)) := by
    rw [Array.getElem?_append_left (by simpa [u8s] using hkl)]
    simp [u8s, hk]
  refine ⟨by simp [World.cell?, h1, e], ?_⟩
  simp [World.frozen?, h1]
  omega
theorem Rw.keep {w w' : World} {g C : Nat} {l : List UInt8} (h : Rw w g C l) (b : Below w.heap.size w w') : Rw w' g C l := by
  have hl := h.lt
  obtain ⟨X, h1, h2⟩ := h
  exact ⟨X, (b.block g hl).trans h1, h2⟩
theorem Rw.set {w : World} {g C : Nat} {l : List UInt8} (h : Rw w g C l) {k : Nat} (hk : k < l.length) (c : UInt8) : Rw (w.setCell ⟨g, k, none⟩ (.int .u8 (c.toNat : Int))) g C (l.set k c) := by
  obtain ⟨X, h1, h2, h3⟩ := h
  obtain ⟨hlt, hc⟩ := Array.getElem?_eq_some_iff.1 h1
  refine ⟨X, ?_, by rw [List.length_set]; exact h2, h3⟩
  show (w.heap.modify g _)[g]? = _
  rw [Array.getElem?_eq_getElem (by rw [Array.size_modify]; exact hlt), Array.getElem_modify_self, hc]
  simp [u8s, List.set_append_left, hk, List.map_set]
theorem Rw.byt {w : World} {g C : Nat} {l : List UInt8} (h : Rw w g C l) : Byt w (.slice (some ⟨g, 0, none⟩) l.length C) l := by
  have hlt := h.lt
  refine ⟨_, _, rfl, h.choose_spec.2.1, h.choose_spec.2.2, .inr ⟨g, 0, rfl, hlt, fun j v hv => ?_⟩⟩
  unfold u8s at hv
  rw [List.getElem?_map] at hv
  cases hj : l[j]? with
  | none => rw [hj] at hv; simp at hv
  | some c =>
    rw [hj] at hv
    have : v = .int .u8 (c.toNat : Int) := by simpa using hv.symm
    rw [this, Nat.zero_add]
    exact (h.use hj).1

set_option maxRecDepth 100000 in
theorem conv_own (t : List UInt8) (w : World) (ht : t.length ≤ 1000000) : ∃ c w', (convert 9 25 (.string (strB t))).run Tryd.prog w = .ok (.slice (some ⟨w.heap.size, 0, none⟩) t.length c) w' ∧ Rw w' w.heap.size c t ∧ Below w.heap.size w w' := by
  have hsz : (strB t).size = t.length := rfl
  have h := run_bytes_of_string (P := Tryd.prog) w 9 25 5 (strB t) Tryd.underlying9 Tryd.underlying25 Tryd.underlying5
  rw [hsz] at h
  have hge := grownCap_ge w t.length 0 5
  refine ⟨_, _, h, ?_, (Below.refl _ w).drew.alloc (Nat.le_refl _) _⟩
  have hz : (bytesRow (strB t) (grownCap w t.length 0 5)).size = grownCap w t.length 0 5 := by
    unfold bytesRow
    rw [Array.size_append, Array.size_map, Array.size_replicate]
    show t.length + _ = _
    rw [hsz]
    omega
  rw [hz]
  refine ⟨Array.replicate (grownCap w t.length 0 5 - (strB t).size) (.int .u8 0), ?_, hge, grownCap_le_maxLen _ _ _ _ (by unfold maxLen; omega)⟩
  show (w.heap.push _)[w.heap.size]? = _
  simp [bytesRow, strB, u8s]
end Go.Proofs.YtbighilgkmfemaaDoor

/- Contracts of dict's areFlags, hasBlank (with its row function and closure), nameCode. -/
namespace Go.Proofs.YtbighilgkmfemaaDoor
open Go.RowKit
set_option linter.unusedVariables false
set_option linter.unusedSimpArgs false

set_option maxHeartbeats 1000000 in
theorem areflags_any (f : Int) (w : World) : Calls Tryd.prog 78 #[.int .i64 f] w fun e w' => e = .returned (.bool (flagB f)) ∧ w = w' := by
  by_cases h0 : 0 ≤ f
  · by_cases h7 : f ≤ 7
    · have H := Lib.hid ((flagB_iff f).2 ⟨h0, h7⟩)
      rw [H.out]
      go_enter Tryd.func78, Tryd.ntmps78
      go_wp2
      go_ret
      exact ⟨rfl, rfl⟩
    · have H := Lib.hid ((flagB_no f).2 (fun h => h7 h.2))
      have h7' : decide (f ≤ 7) = false := by simpa using h7
      rw [H.out]
      go_enter Tryd.func78, Tryd.ntmps78
      go_wp2
      go_ret
      exact ⟨rfl, rfl⟩
  · have H := Lib.hid ((flagB_no f).2 (fun h => h0 h.1))
    have h0' : decide (0 ≤ f) = false := by simpa using h0
    rw [H.out]
    go_enter Tryd.func78, Tryd.ntmps78
    go_wp2
    go_ret
    exact ⟨rfl, rfl⟩

set_option maxHeartbeats 1000000 in
theorem blank_any (c : UInt8) (w : World) : Calls Tryd.prog 97 #[.int .u8 (c.toNat : Int)] w fun e w' => e = .returned (.bool (!solid c)) ∧ w = w' := by
  have hc := c.toNat_lt
  by_cases h : 32 < c.toNat
  · have H := Lib.hid (solid_yes h)
    have h1 : decide ((c.toNat : Int) ≤ 32) = false := by simp; omega
    rw [H.out]
    go_enter Tryd.func97, Tryd.ntmps97
    go_wp2
    go_ret
    exact ⟨rfl, rfl⟩
  · have H := Lib.hid (solid_no h)
    have h1 : (c.toNat : Int) ≤ 32 := by omega
    have h2 : c.toNat ≤ 32 := by omega
    rw [H.out]
    go_enter Tryd.func97, Tryd.ntmps97
    go_wp2
    go_ret
    exact ⟨rfl, rfl⟩

theorem all_drop_no {l : List UInt8} {k : Nat} {c : UInt8} (hc : l[k]? = some c) (hs : solid c = false) : l.all solid = false := dall_no hc hs
theorem all_drop_step {l : List UInt8} {k : Nat} {c : UInt8} (hc : l[k]? = some c) (hs : solid c = true) (h : (l.drop (k + 1)).all solid = true) : (l.drop k).all solid = true := by
  have hk := (List.getElem?_eq_some_iff.1 hc).1
  rw [List.drop_eq_getElem_cons hk, (List.getElem?_eq_some_iff.1 hc).2, List.all_cons, hs, h]
  rfl

set_option maxRecDepth 100000 in
set_option maxHeartbeats 4000000 in
theorem lastb_any (A : Option Addr) (n c : Nat) (l : List UInt8) (w : World) (h : Byt w (.slice A n c) l) (hn : n ≤ 100000) : Calls Tryd.prog 96 #[.slice A n c, .func (.func 97) #[] #[]] w fun e w' => (∃ (x k : Int), e = .returned (.tuple #[.int .u8 x, .int .i64 k, .bool (!l.all solid)])) ∧ Below w.heap.size w w' := by
  have hl := h.len
  subst hl
  have HA := Lib.hid h
  have HN : Hid (l.length ≤ 100000) := hn
  have hw1 : wrap64 ((l.length : Int) - 1) = (l.length : Int) - 1 := w64_id (by omega) (by omega)
  clear h hn
  go_enter Tryd.func96, Tryd.ntmps96
  go_wp2_with fail
  try rw [hw1]
  clear hw1
  go_loopw [7] (fun s7 wr => ∃ (k : Nat) (i : Int), s7 = .int .i64 i ∧ i = (k : Int) - 1 ∧ k ≤ l.length ∧ Hid ((l.drop k).all solid = true) ∧ Hid (Below w.heap.size w wr)) (fun s7 _ => (intOf s7 + 1).toNat)
  case atStart => exact ⟨l.length, _, rfl, rfl, Nat.le_refl _, Lib.hid (by rw [List.drop_length]; rfl), Lib.hid (Below.refl _ _)⟩
  case round =>
    obtain ⟨k, i, rfl, hi, hk, HL, HB⟩ := hrel
    cases k with
    | zero =>
      have hi1 : decide (0 ≤ i) = false := by simp; omega
      have H : Hid (l.all solid = true) := by have := HL.out; rwa [List.drop_zero] at this
      clear hi HL hk
      go_wp2_with fail
      rw [H.out]
      refine bodyPost_ret (v := .tuple #[.int .u8 0, .int .i64 0, .bool (!true)]) ?_ rfl ?_
      · simp [results, Tryd.results96, go_sem]
      · exact ⟨⟨_, _, rfl⟩, HB.out⟩
    | succ k =>
      obtain rfl : i = (k : Int) := by omega
      have hkl : k < l.length := by omega
      have hx : l[k]? = some l[k] := List.getElem?_eq_getElem hkl
      obtain ⟨q, eq⟩ : ∃ q, l[k] = q := ⟨_, rfl⟩
      rw [eq] at hx
      have hkl' : (k : Int) < (l.length : Int) := by omega
      have hln := HN.out
      have HK := Lib.hid (fun w => blank_any q w)
      have HXK := Lib.hid hx
      obtain ⟨g, o, hA, c1⟩ : ∃ g o, A = some ⟨g, o, none⟩ ∧ wr.cell? ⟨g, o + k, none⟩ = some (.int .u8 (q.toNat : Int)) := by
        rcases (HA.out.keep HB.out).lies with h | ⟨g, o, e, _, hc⟩
        · have := congrArg List.length h
          rw [u8s_len] at this
          have h0 : l.length = 0 := this
          omega
        · exact ⟨g, o, e, hc _ _ (by unfold u8s; rw [List.getElem?_map, hx]; rfl)⟩
      subst hA
      clear hx eq hi hk
      cases hs : solid q with
      | false =>
        have H := Lib.hid (all_drop_no HXK.out hs)
        rw [hs] at HK
        clear hs HL
        go_wp2_with fail
        refine (HK.out _).mono ?_
        rintro e1 w5 ⟨rfl, rfl⟩
        go_wp2_with fail
        rw [H.out]
        refine bodyPost_ret (v := .tuple #[.int .u8 (q.toNat : Int), .int .i64 (k : Int), .bool (!false)]) ?_ rfl ?_
        · simp [results, Tryd.results96, go_sem]
        · exact ⟨⟨_, _, rfl⟩, HB.out⟩
      | true =>
        have HN2 := Lib.hid (all_drop_step HXK.out hs HL.out)
        rw [hs] at HK
        clear hs HL
        go_wp2_with fail
        refine (HK.out _).mono ?_
        rintro e1 w5 ⟨rfl, rfl⟩
        go_wp2_with fail
        go_roundw
        case rel => exact ⟨k, _, rfl, (by first | rfl | exact w64_id (by omega) (by omega)), by omega, HN2, HB⟩
        case measure => first | (simp [intOf]; done) | (simp [intOf]; omega) | (rw [w64_id (by omega) (by omega)]; simp [intOf])

set_option maxRecDepth 100000 in
set_option maxHeartbeats 4000000 in
theorem hasblank_any (l : List UInt8) (w : World) (hl : l.length ≤ 100000) : Calls Tryd.prog 92 #[.string (strB l)] w fun e w' => e = .returned (.bool (!l.all solid)) ∧ Below w.heap.size w w' := by
  obtain ⟨C, w2, hcv, hrw, b2⟩ := conv_own l w (by omega)
  have HY := Lib.hid hrw.byt
  have HB := Lib.hid b2
  clear hrw b2
  go_enter Tryd.func92, Tryd.ntmps92
  go_wp2_with fail
  refine (lastb_any _ _ _ l w2 HY.out hl).mono ?_
  rintro e1 w5 ⟨⟨x, k, rfl⟩, b5⟩
  have HB5 := Lib.hid (below_then HB.out b5)
  clear b5
  go_wp2_with fail
  go_ret
  exact ⟨rfl, HB5.out⟩

set_option maxRecDepth 100000 in
set_option maxHeartbeats 4000000 in
theorem namecode_any (l : List UInt8) (w : World) : Calls Tryd.prog 77 #[.string (strB l)] w fun e w' => e = .returned (.int .i64 (namedC l)) ∧ Below w.heap.size w w' := by
  have hsz : (strB l).size = l.length := rfl
  by_cases h0 : l = []
  · subst h0
    have H : Hid (namedC [] = -16) := by show _ = _; rfl
    rw [H.out, show strB [] = ⟨#[]⟩ from rfl]
    go_enter Tryd.func77, Tryd.ntmps77
    go_wp2_with fail
    go_ret
    exact ⟨rfl, Below.refl _ _⟩
  · have he := str_ne (a := strB l) (b := strB []) (fun e => h0 (strB_inj e))
    have he2 := str_emp h0
    by_cases h31 : 31 < l.length
    · have H : Hid (namedC l = -19) := by show _ = _; unfold namedC; rw [if_neg h0, if_pos h31]
      have h31' : (31 : Int) < (l.length : Int) := by omega
      rw [H.out]
      go_enter Tryd.func77, Tryd.ntmps77
      go_wp2_with fail
      go_ret
      exact ⟨rfl, Below.refl _ _⟩
    · have h31' : decide ((31 : Int) < (l.length : Int)) = false := by simp; omega
      have HC := Lib.hid (fun w => hasblank_any l w (by omega))
      have H : Hid (namedC l = if l.all solid = true then 0 else -32) := by show _ = _; unfold namedC; rw [if_neg h0, if_neg h31]
      rw [H.out]
      cases hs : l.all solid with
      | true =>
        rw [hs] at HC
        clear h31 hs
        go_enter Tryd.func77, Tryd.ntmps77
        go_wp2_with fail
        refine (HC.out _).mono ?_
        rintro e1 w5 ⟨rfl, b5⟩
        have HB5 := Lib.hid b5
        clear b5
        go_wp2_with fail
        go_ret
        exact ⟨rfl, HB5.out⟩
      | false =>
        rw [hs] at HC
        clear h31 hs
        go_enter Tryd.func77, Tryd.ntmps77
        go_wp2_with fail
        refine (HC.out _).mono ?_
        rintro e1 w5 ⟨rfl, b5⟩
        have HB5 := Lib.hid b5
        clear b5
        go_wp2_with fail
        go_ret
        exact ⟨rfl, HB5.out⟩
end Go.Proofs.YtbighilgkmfemaaDoor

/- Contracts of dict's closures, and of its row function with each of them. -/
namespace Go.Proofs.YtbighilgkmfemaaDoor
open Go.RowKit
set_option linter.unusedVariables false
set_option linter.unusedSimpArgs false

abbrev wv (q : Wr) : Value := .agg #[.string (strB q.nm), .int .i64 q.xt, .int .i64 q.fl]

set_option maxRecDepth 100000 in
set_option maxHeartbeats 4000000 in
theorem wrong_any (q : Wr) (w : World) : Calls Tryd.prog 76 #[wv q] w fun e w' => e = .returned (.bool (!wordB q)) ∧ Below w.heap.size w w' := by
  have HN := Lib.hid (fun w => namecode_any q.nm w)
  have HF := Lib.hid (fun w => areflags_any q.fl w)
  obtain ⟨z, ez⟩ : ∃ z, namedC q.nm = z := ⟨_, rfl⟩
  have HZ := Lib.hid ez
  rw [ez] at HN
  obtain ⟨W, hW⟩ : ∃ W, w.alloc (.cells #[.string (strB q.nm), .int .i64 q.xt, .int .i64 q.fl] 45) = W := ⟨_, rfl⟩
  have hB := al_one w (.cells #[.string (strB q.nm), .int .i64 q.xt, .int .i64 q.fl] 45)
  have hX := wbox_new w q
  rw [hW] at hB hX
  have HX := Lib.hid hX
  have HB := Lib.hid hB
  have HW := Lib.hid hW
  clear hB hX hW ez
  by_cases hz : z = 0
  · subst hz
    have H : Hid (wordB q = flagB q.fl) := by show _ = _; unfold wordB; rw [HZ.out]; rfl
    rw [H.out]
    obtain ⟨fb, efb⟩ : ∃ fb, flagB q.fl = fb := ⟨_, rfl⟩
    rw [efb] at HF ⊢
    clear efb
    unfold wv
    go_enter Tryd.func76, Tryd.ntmps76
    go_wp2_with fail
    rw [HW.out]
    obtain ⟨z0, z1, z2, z3, z4, z5⟩ := HX.out.use
    have lz := HX.out.lt
    go_wp2_with fail
    refine (HN.out _).mono ?_
    rintro e1 w5 ⟨rfl, b5⟩
    have XZ5 := Lib.hid (HX.out.keep b5)
    have HB5 := Lib.hid (below_then HB.out b5)
    clear b5 z0 z1 z2 z3 z4 z5 lz
    obtain ⟨z0, z1, z2, z3, z4, z5⟩ := XZ5.out.use
    have lz := XZ5.out.lt
    go_wp2_with fail
    refine (HF.out _).mono ?_
    rintro e1 w6 ⟨rfl, rfl⟩
    go_wp2_with fail
    go_ret
    exact ⟨rfl, HB5.out⟩
  · have H : Hid (wordB q = false) := by show _ = _; unfold wordB; rw [HZ.out]; simp [hz]
    have hz1 : ((z : Int) != 0) = true := by simpa using hz
    have hz2 : ((z : Int) == 0) = false := by simpa using hz
    rw [H.out]
    unfold wv
    go_enter Tryd.func76, Tryd.ntmps76
    go_wp2_with fail
    rw [HW.out]
    obtain ⟨z0, z1, z2, z3, z4, z5⟩ := HX.out.use
    have lz := HX.out.lt
    go_wp2_with fail
    refine (HN.out _).mono ?_
    rintro e1 w5 ⟨rfl, b5⟩
    have XZ5 := Lib.hid (HX.out.keep b5)
    have HB5 := Lib.hid (below_then HB.out b5)
    clear b5 z0 z1 z2 z3 z4 z5 lz
    obtain ⟨z0, z1, z2, z3, z4, z5⟩ := XZ5.out.use
    have lz := XZ5.out.lt
    go_wp2_with fail
    go_ret
    exact ⟨rfl, HB5.out⟩

end Go.Proofs.YtbighilgkmfemaaDoor

/- Contracts of dict's row function, with each of three closures. -/
namespace Go.Proofs.YtbighilgkmfemaaDoor
open Go.RowKit
set_option linter.unusedVariables false
set_option linter.unusedSimpArgs false

set_option maxRecDepth 100000 in
set_option maxHeartbeats 4000000 in
theorem last_wrong (A : Option Addr) (n c : Nat) (l : List Wr) (p : Wr → Bool) (w : World) (h : Wds w (.slice A n c) l) (hn : n ≤ 100000) (hc : ∀ q ∈ l, ∀ w1, Below w.heap.size w w1 → Calls Tryd.prog 76 #[wv q] w1 fun e w2 => e = .returned (.bool (p q)) ∧ Below w1.heap.size w1 w2) : Calls Tryd.prog 75 #[.slice A n c, .func (.func 76) #[] #[]] w (GotOut (gotW l (lastI p l)) (gotI (lastI p l)) (lastI p l).isSome w) := by
  have hl := h.len
  subst hl
  have HA := Lib.hid h
  have HN : Hid (l.length ≤ 100000) := hn
  have HC : Hid (∀ q ∈ l, ∀ w1, Below w.heap.size w w1 → Calls Tryd.prog 76 #[.agg #[.string (strB q.nm), .int .i64 q.xt, .int .i64 q.fl]] w1 fun e w2 => e = .returned (.bool (p q)) ∧ Below w1.heap.size w1 w2) := hc
  have hw1 : wrap64 ((l.length : Int) - 1) = (l.length : Int) - 1 := w64_id (by omega) (by omega)
  clear h hn hc
  unfold GotOut
  go_enter Tryd.func75, Tryd.ntmps75
  go_wp2_with fail
  try rw [hw1]
  clear hw1
  obtain ⟨W, hW⟩ : ∃ W, w.alloc (.cells #[.string ⟨#[]⟩, .int .i64 0, .int .i64 0] 45) = W := ⟨_, rfl⟩
  have hB := al_one w (.cells #[.string ⟨#[]⟩, .int .i64 0, .int .i64 0] 45)
  have hX := wbox_zero w
  rw [hW] at hB hX
  have HX := Lib.hid hX
  have HB := Lib.hid hB
  have HW := Lib.hid hW
  rw [HW.out]
  clear hB hX hW
  go_loopw [7] (fun s7 wr => ∃ (k : Nat) (i : Int), s7 = .int .i64 i ∧ i = (k : Int) - 1 ∧ k ≤ l.length ∧ Hid (lastI p (l.drop k) = none) ∧ Hid (Below W.heap.size W wr)) (fun s7 _ => (intOf s7 + 1).toNat)
  case atStart => exact ⟨l.length, _, rfl, rfl, Nat.le_refl _, Lib.hid (by rw [List.drop_length]; rfl), Lib.hid (Below.refl _ _)⟩
  case round =>
    obtain ⟨k, i, rfl, hi, hk, HL, HB2⟩ := hrel
    have XZ := Lib.hid (HX.out.keep HB2.out)
    have HBB := Lib.hid (below_then HB.out HB2.out)
    obtain ⟨z0, z1, z2, z3, z4, z5⟩ := XZ.out.use
    have lz := XZ.out.lt
    cases k with
    | zero =>
      have hi1 : decide (0 ≤ i) = false := by simp; omega
      have H : Hid (lastI p l = none) := by have := HL.out; rwa [List.drop_zero] at this
      clear hi HL hk z0 z1 z2 z3 z4 z5 lz
      obtain ⟨W2, hW2⟩ : ∃ W2, wr.alloc (.cells #[.string ⟨#[]⟩, .int .i64 0, .int .i64 0] 45) = W2 := ⟨_, rfl⟩
      have hB2 := al_one wr (.cells #[.string ⟨#[]⟩, .int .i64 0, .int .i64 0] 45)
      have hX2 := wbox_zero wr
      rw [hW2] at hB2 hX2
      have XZ2 := Lib.hid (XZ.out.keep hB2)
      have HX2 := Lib.hid hX2
      have HB3 := Lib.hid (below_then HBB.out hB2)
      have HW2 := Lib.hid hW2
      clear hB2 hX2 hW2
      obtain ⟨z0, z1, z2, z3, z4, z5⟩ := XZ2.out.use
      have lz := XZ2.out.lt
      obtain ⟨y0, y1, y2, y3, y4, y5⟩ := HX2.out.use
      have ly := HX2.out.lt
      go_upto_region 7 with fail
      rw [HW2.out]
      go_wp2_with fail
      obtain ⟨r0, r1, r2, _, _, _⟩ := (XZ2.out.put w0).use
      rw [H.out]
      refine bodyPost_ret (v := .tuple #[.agg #[.string (strB w0.nm), .int .i64 w0.xt, .int .i64 w0.fl], .int .i64 0, .bool false]) ?_ rfl ?_
      · simp [results, Tryd.results75, go_sem, r0, r1, r2]
      · exact ⟨rfl, below_wset HB3.out (Nat.le_refl _) _ _ _⟩
    | succ k =>
      obtain rfl : i = (k : Int) := by omega
      have hkl : k < l.length := by omega
      obtain ⟨g, o, hA, c1, c2, c3⟩ := wds_cell (HA.out.keep (below_then HB.out HB2.out)) hkl
      have hx : l[k]? = some l[k] := List.getElem?_eq_getElem hkl
      obtain ⟨q, eq⟩ : ∃ q, l[k] = q := ⟨_, rfl⟩
      rw [eq] at c1 c2 c3 hx
      have hkl' : (k : Int) < (l.length : Int) := by omega
      have hln := HN.out
      subst hA
      have HK := Lib.hid (HC.out q (List.mem_of_getElem? hx) wr HBB.out)
      have HC2 : Hid (wr.cell? ⟨g, o + k * 3, none⟩ = some (.string (strB q.nm)) ∧ wr.cell? ⟨g, o + k * 3 + 1, none⟩ = some (.int .i64 q.xt) ∧ wr.cell? ⟨g, o + k * 3 + 2, none⟩ = some (.int .i64 q.fl)) := ⟨c1, c2, c3⟩
      have hg2 := World.block_lt_of_cell? wr ⟨g, o + k * 3, none⟩ c1
      have HXK := Lib.hid hx
      have XZ2 := XZ
      clear hx eq hi hk HBB HC
      cases hK : p q with
      | false =>
        rw [hK] at HK
        have HN2 := Lib.hid (lastI_step (p := p) HXK.out hK HL.out)
        clear hK HL
        go_wp2_with fail
        refine HK.out.mono ?_
        rintro e1 w5 ⟨rfl, b5⟩
        have HB5 := Lib.hid (below_then HB2.out b5)
        clear b5 c1 c2 c3 z0 z1 z2 z3 z4 z5 lz
        go_wp2_with fail
        go_roundw
        case rel => exact ⟨k, _, rfl, (by first | rfl | exact w64_id (by omega) (by omega)), by omega, HN2, HB5⟩
        case measure => first | (simp [intOf]; done) | (simp [intOf]; omega) | (rw [w64_id (by omega) (by omega)]; simp [intOf])
      | true =>
        rw [hK] at HK
        have H : Hid (lastI p l = some k) := lastI_at HXK.out hK HL.out
        have HG : Hid (gotW l (some k) = q) := gotW_at HXK.out
        clear hK HL
        go_wp2_with fail
        refine HK.out.mono ?_
        rintro e1 w5 ⟨rfl, b5⟩
        obtain ⟨d1, d2, d3⟩ := HC2.out
        have HC5 : Hid (w5.cell? ⟨g, o + k * 3, none⟩ = some (.string (strB q.nm)) ∧ w5.cell? ⟨g, o + k * 3 + 1, none⟩ = some (.int .i64 q.xt) ∧ w5.cell? ⟨g, o + k * 3 + 2, none⟩ = some (.int .i64 q.fl)) := ⟨(b5.cell (p := ⟨g, o + k * 3, none⟩) hg2).trans d1, (b5.cell (p := ⟨g, o + k * 3 + 1, none⟩) hg2).trans d2, (b5.cell (p := ⟨g, o + k * 3 + 2, none⟩) hg2).trans d3⟩
        have hg5 : g < w5.heap.size := Nat.lt_of_lt_of_le hg2 b5.size
        have XZ5 := Lib.hid (XZ2.out.keep b5)
        have HB5 := Lib.hid (below_then HB2.out b5)
        clear b5 d1 d2 d3 c1 c2 c3 z0 z1 z2 z3 z4 z5 lz
        obtain ⟨c1, c2, c3⟩ := HC5.out
        obtain ⟨z0, z1, z2, z3, z4, z5⟩ := XZ5.out.use
        have lz := XZ5.out.lt
        go_wp2_with fail
        obtain ⟨r0, r1, r2, _, _, _⟩ := (XZ5.out.put q).use
        rw [H.out, HG.out]
        refine bodyPost_ret (v := .tuple #[.agg #[.string (strB q.nm), .int .i64 q.xt, .int .i64 q.fl], .int .i64 (k : Int), .bool true]) ?_ rfl ?_
        · simp [results, Tryd.results75, go_sem, r0, r1, r2]
        · exact ⟨rfl, below_wset (below_then HB.out HB5.out) (Nat.le_refl _) _ _ _⟩

end Go.Proofs.YtbighilgkmfemaaDoor

/- Contracts of dict's Right, Find, Of. -/
namespace Go.Proofs.YtbighilgkmfemaaDoor
open Go.RowKit
set_option linter.unusedVariables false
set_option linter.unusedSimpArgs false

theorem lastI_none {p : Wr → Bool} {l : List Wr} : lastI p l = none ↔ ∀ q ∈ l, p q = false := by
  induction l with
  | nil => simp [lastI]
  | cons q r ih =>
    unfold lastI
    cases h : lastI p r with
    | some i =>
      simp
      intro _
      have hn : ¬ ∀ q ∈ r, p q = false := fun e => by rw [ih.2 e] at h; cases h
      apply Classical.byContradiction
      intro hc
      exact hn fun a ha => by
        cases hp : p a with
        | false => rfl
        | true => exact absurd ⟨a, ha, hp⟩ hc
    | none =>
      have hr := ih.1 h
      cases hq : p q with
      | true => simp [hq]
      | false =>
        simp [hq]
        exact hr
theorem lastI_right (l : List Wr) : (lastI (fun q => !wordB q) l).isSome = !l.all wordB := by
  cases h : l.all wordB with
  | true =>
    rw [List.all_eq_true] at h
    rw [lastI_none.2 fun q hq => by rw [h q hq]; rfl]
    rfl
  | false =>
    cases hl : lastI (fun q => !wordB q) l with
    | some i => rfl
    | none =>
      have := lastI_none.1 hl
      rw [List.all_eq_false] at h
      obtain ⟨q, hq, hw⟩ := h
      have h1 := this q hq
      simp at h1
      exact absurd h1 hw

set_option maxRecDepth 100000 in
set_option maxHeartbeats 4000000 in
theorem dright_any (A : Option Addr) (n c : Nat) (l : List Wr) (w : World) (h : Wds w (.slice A n c) l) (hn : n ≤ 100000) : Calls Tryd.prog 49 #[.slice A n c] w fun e w' => e = .returned (.bool (dRight l)) ∧ Below w.heap.size w w' := by
  have hl := h.len
  subst hl
  by_cases hm : 1024 < l.length
  · have H : Hid (dRight l = false) := by show _ = _; unfold dRight; rw [show decide (l.length ≤ 1024) = false by simp; omega, Bool.and_false]
    have hm' : (1024 : Int) < (l.length : Int) := by omega
    rw [H.out]
    clear h hn hm
    go_enter Tryd.func49, Tryd.ntmps49
    go_wp2_with fail
    go_ret
    exact ⟨rfl, Below.refl _ _⟩
  · have H : Hid (dRight l = !(lastI (fun q => !wordB q) l).isSome) := by show _ = _; unfold dRight; rw [show decide (l.length ≤ 1024) = true by simp; omega, Bool.and_true, lastI_right, Bool.not_not]
    have hm' : decide ((1024 : Int) < (l.length : Int)) = false := by simp; omega
    have HC := Lib.hid (last_wrong A l.length c l (fun q => !wordB q) w h hn fun q _ w1 _ => wrong_any q w1)
    obtain ⟨r, er⟩ : ∃ r, lastI (fun q => !wordB q) l = r := ⟨_, rfl⟩
    rw [er] at HC H
    rw [H.out]
    obtain ⟨q, eq⟩ : ∃ q, gotW l r = q := ⟨_, rfl⟩
    obtain ⟨i, ei⟩ : ∃ i, gotI r = i := ⟨_, rfl⟩
    obtain ⟨b, eb⟩ : ∃ b, r.isSome = b := ⟨_, rfl⟩
    rw [eq, ei, eb] at HC
    rw [eb]
    clear h hn hm er eq ei eb H
    go_enter Tryd.func49, Tryd.ntmps49
    go_wp2_with fail
    refine HC.out.mono ?_
    rintro e1 w5 ⟨rfl, b5⟩
    have HB := Lib.hid (alloc_then (o := .cells #[.string (strB q.nm), .int .i64 q.xt, .int .i64 q.fl] 45) b5)
    clear b5
    go_wp2_with fail
    go_ret
    exact ⟨rfl, HB.out⟩

end Go.Proofs.YtbighilgkmfemaaDoor

/- The library's contracts of slices.Equal and slices.Clone, laid at this program's own numbers, at words. -/
namespace Go.Proofs
open Go.Shelf Go.Lib
def Tryd.weq_ren : Go.Shelf.Ren := ⟨fun | 8 => 73 | n => n, fun | 0 => 0 | 3 => 3 | 4 => 4 | 22 => 31 | 24 => 45 | n => n, fun | n => n⟩
theorem Tryd.weq_lays : Go.Proofs.SlLaysQ.n8 Tryd.prog Tryd.weq_ren := {
  mixed := by kernel_rfl
  f8 := ⟨"slices.Equal[[]detent/api.Word,detent/api.Word]", by decide, Tryd.func73.trans (congrArg some (by kernel_rfl))⟩
  t0 := Tryd.underlying0
  a0 := Tryd.isAgg0
  z0 := Tryd.sizeOf0
  v0 := Tryd.zeroValue0
  t3 := Tryd.underlying3
  a3 := Tryd.isAgg3
  z3 := Tryd.sizeOf3
  v3 := Tryd.zeroValue3
  t4 := Tryd.underlying4
  a4 := Tryd.isAgg4
  z4 := Tryd.sizeOf4
  v4 := Tryd.zeroValue4
  t22 := Tryd.underlying31
  a22 := Tryd.isAgg31
  z22 := Tryd.sizeOf31
  v22 := Tryd.zeroValue31 }
end Go.Proofs
namespace Go.Proofs.YtbighilgkmfemaaDoor
open Go.RowKit Go.Lib Go.Shelf
set_option linter.unusedVariables false
set_option linter.unusedSimpArgs false
instance : Inhabited Wr := ⟨⟨[], 0, 0⟩⟩

theorem wneq : NeqAt Tryd.prog 45 (fun q : Wr => .agg (wcell q).toArray) (fun x y => decide (x = y)) := by
  refine ⟨fun x y w => ?_, GuardAt.agg _ (by kernel_rfl)⟩
  have u3 := Tryd.underlying3
  have a3 := Tryd.isAgg3
  have z3 := Tryd.sizeOf3
  have u9 := Tryd.underlying9
  have a9 := Tryd.isAgg9
  have z9 := Tryd.sizeOf9
  have hS : Tryd.prog.underlying 45 = some (.struct (Tryd.prog.fieldsOf 45)) := by kernel_rfl
  have hp : Tryd.prog.stoodInHeld 45 = false := by kernel_rfl
  simp only [wcell]
  rw [run_neq_struct, show (10000 : Nat) = 9999 + 1 from rfl, run_equalIn_agg w 9999 45 _ _ hS hp]
  simp only [Program.fieldsOf, Tryd.underlying45]
  by_cases h1 : x.nm = y.nm
  · rw [h1]
    by_cases h2 : x.xt = y.xt <;> by_cases h3 : x.fl = y.fl
    · have e : x = y := by cases x; cases y; simp_all
      subst e
      go_simp
    · have e : ¬ x = y := fun e => h3 (by rw [e])
      go_simp
    · have e : ¬ x = y := fun e => h2 (by rw [e])
      go_simp
    · have e : ¬ x = y := fun e => h2 (by rw [e])
      go_simp
  · have e : ¬ x = y := fun e => h1 (by rw [e])
    have hne := str_ne (a := strB x.nm) (b := strB y.nm) (fun e => h1 (strB_inj e))
    go_simp

theorem wcell_len (q : Wr) : (wcell q).length = 3 := rfl
theorem wds_elem (l : List Wr) (j : Nat) (hj : j < l.length) (i : Nat) (v : Value) (h : (wcell l[j]!)[i]? = some v) : (wds l)[j * 3 + i]? = some v := by
  rw [getElem!_pos l j hj] at h
  obtain ⟨h1, h2, h3⟩ := wds_at hj
  have e : j * 3 = 3 * j := by omega
  rw [e]
  match i, h with
  | 0, h => rw [Nat.add_zero, h1]; exact h
  | 1, h => rw [h2]; exact h
  | 2, h => rw [h3]; exact h
  | i + 3, h => simp [wcell] at h

theorem allEq_words (a b : List Wr) : Lib.allEq (fun x y : Wr => decide (x = y)) a b = decide (a = b) := by
  induction a generalizing b with
  | nil => cases b <;> simp [Lib.allEq]
  | cons x a ih =>
    cases b with
    | nil => simp [Lib.allEq]
    | cons y b => simp [Lib.allEq, ih]

theorem wequal_some (g o n c g' o' n' c' : Nat) (a b : List Wr) (w : World) (h : Wds w (.slice (some ⟨g, o, none⟩) n c) a) (h' : Wds w (.slice (some ⟨g', o', none⟩) n' c') b) (ha : n ≤ 1000000) (hb : n' ≤ 1000000) :
    Calls Tryd.prog 73 #[.slice (some ⟨g, o, none⟩) n c, .slice (some ⟨g', o', none⟩) n' c'] w fun e w' => e = .returned (.bool (decide (a = b))) ∧ Below w.heap.size w w' := by
  have ea := h.len
  have eb := h'.len
  subst ea eb
  have hcell : ∀ {g o : Nat} {l : List Wr} {c : Nat}, Wds w (.slice (some ⟨g, o, none⟩) l.length c) l → ∀ j, j < l.length → ∀ i v, (wcell l[j]!)[i]? = some v → w.cell? ⟨g, o + j * 3 + i, none⟩ = some v := by
    intro g o l c h j hj i v hv
    have hx := wds_elem l j hj i v hv
    rcases h.lies with hl | ⟨g2, o2, e, _, hc⟩
    · rw [hl] at hx; simp at hx
    · injection e with e
      injection e with e1 e2
      subst e1 e2
      have := hc _ _ hx
      rwa [← Nat.add_assoc] at this
  have hz := AnyQ.slices_Equal Tryd.weq_lays 3 Tryd.isAgg45 Tryd.sizeOf45 wcell wcell_len _ wneq g o a.length c g' o' b.length c' a b w (Nat.le_refl _) (Nat.le_refl _) (by omega) (by omega) (hcell h) (hcell h')
  refine Calls.mono hz ?_
  rintro e w1 ⟨he, q, hw⟩
  rw [List.take_length, List.take_length, allEq_words] at he
  exact ⟨he, by rw [hw]; exact drewN_belowW w q⟩

/-- A copy of a row: a row of its own. -/
theorem words_none {n c : Nat} {l : List Wr} {w : World} (h : Wds w (.slice none n c) l) : l = [] ∧ n = 0 := by
  have hl := h.len
  have h0 : l = [] := by
    rcases h.lies with h | ⟨_, _, h, _⟩
    · have := congrArg List.length h
      rw [wds_len] at this
      have h0 : l.length * 3 = 0 := this
      exact List.eq_nil_of_length_eq_zero (by omega)
    · cases h
  exact ⟨h0, by rw [← hl, h0]; rfl⟩
set_option maxRecDepth 100000 in
set_option maxHeartbeats 4000000 in
theorem wclone_any (A : Option Addr) (n c : Nat) (l : List Wr) (w : World) (h : Wds w (.slice A n c) l) (hn : n ≤ 100000) :
    Calls Tryd.prog 88 #[.slice A n c] w fun e w' => ∃ v, e = .returned v ∧ WOwns w' w.heap.size v n l ∧ Below w.heap.size w w' := by
  have q : ∀ w : World, _ := fun w => Lib.run_eql_slice_nil (P := Tryd.prog) w 31 45 A n c 0 0 Tryd.underlying31
  cases A with
  | none =>
    obtain ⟨rfl, rfl⟩ := words_none h
    clear h
    go_enter Tryd.func88, Tryd.ntmps88
    go_wp2_with fail
    go_ret
    exact ⟨_, rfl, wowns_none _ _, Below.refl _ _⟩
  | some p =>
    have HA := Lib.hid h
    clear h
    go_enter Tryd.func88, Tryd.ntmps88
    go_wp2_with (at_builtin; refine wpList_wapp rfl _ _ rfl w.heap.size (.slice (some ⟨w.heap.size, 0, none⟩) 0 0) 0 [] rfl (none_wowns w) (some p) n c l rfl (HA.out.keep (al_one _ _)) (by omega) (by simp) w (al_one _ _) (Nat.le_refl _) ?_; intro v2 w4 ho hb2 hgr; have O4 := Lib.hid ho; have B4 := Lib.hid hb2; clear ho hb2 hgr)
    go_ret
    exact ⟨v2, rfl, by simpa using O4.out, B4.out⟩
end Go.Proofs.YtbighilgkmfemaaDoor
