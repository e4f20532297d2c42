/- The document's New of machines. -/
import Derived.RangeFuncBox
import Derived.Test.YtbighilgkmfemaaDoorVmNewM
import Derived.Test.YtbighilgkmfemaaDoorVmFits
namespace Go.Proofs.YtbighilgkmfemaaDoor
open Go.RowKit
set_option linter.unusedVariables false
set_option linter.unusedSimpArgs false

/-- All but one block lie as they lay, of those ahead of n. -/
def KpX (g n : Nat) (A B : World) : Prop := A.heap.size ≤ B.heap.size ∧ ∀ k, k < n → k ≠ g → B.heap[k]? = A.heap[k]?
theorem KpX.refl (g n : Nat) (A : World) : KpX g n A A := ⟨Nat.le_refl _, fun _ _ _ => rfl⟩
theorem KpX.trans {g n : Nat} {A B C : World} (h : KpX g n A B) (k : KpX g n B C) : KpX g n A C := ⟨Nat.le_trans h.1 k.1, fun i hi hg => (k.2 i hi hg).trans (h.2 i hi hg)⟩
theorem KpX.cell {g n : Nat} {A B : World} (h : KpX g n A B) {b o : Nat} (hb : b < n) (hg : b ≠ g) : B.cell? ⟨b, o, none⟩ = A.cell? ⟨b, o, none⟩ := World.cell?_of_block (h.2 b hb hg)
theorem KpX.below {g n : Nat} {A B C : World} (h : KpX g n A B) (hn : n ≤ A.heap.size) (b : Below B.heap.size B C) : KpX g n A C := ⟨Nat.le_trans h.1 b.size, fun i hi hg => (b.block i (by have := h.1; omega)).trans (h.2 i hi hg)⟩
theorem KpX.set {g n : Nat} {A B : World} (h : KpX g n A B) (k : Nat) (v : Value) : KpX g n A (B.setCell ⟨g, k, none⟩ v) := by
  refine ⟨by simpa using h.1, fun i hi hg => ?_⟩
  rw [← h.2 i hi hg]
  exact Below.heap_setCell _ _ _ i hg
theorem KpX.grown {g n : Nat} {A B C : World} {row : Option Nat} (h : KpX g n A B) (hn : n ≤ A.heap.size) (hg : B.grownBy C row) (hr : ∀ k, row = some k → n ≤ k) : KpX g n A C := by
  refine ⟨Nat.le_trans h.1 hg.size, fun i hi hne => ?_⟩
  rw [hg.block i (by have := h.1; omega) (fun e => by have := hr i e.symm; omega)]
  exact h.2 i hi hne
theorem grownBy_set (W : World) (b k : Nat) (v : Value) : W.grownBy (W.setCell ⟨b, k, none⟩ v) (some b) :=
  ⟨rfl, rfl, rfl, (KeepsWalks.setCell W _ v).size, fun j _ hk => Below.heap_setCell _ _ _ j (fun e => hk (by rw [e]))⟩
theorem WOwns.far {w : World} {base n g k : Nat} {v u : Value} {l : List Wr} (h : WOwns w base v n l) (hg : g < base) : WOwns (w.setCell ⟨g, k, none⟩ u) base v n l :=
  World.ownsRow.kept h (grownBy_set w g k u) (.inr fun e => by have := (h.lt g e).1; omega)
/-- A configuration in a block. -/
def CBox (w : World) (b : Nat) (m d r v o : Int) : Prop := w.heap[b]? = some (.cells #[.int .i64 m, .int .i64 d, .int .i64 r, .int .i64 v, .int .i64 o] 23 (0, 0))
theorem CBox.lt {w : World} {b : Nat} {m d r v o : Int} (h : CBox w b m d r v o) : b < w.heap.size := (Array.getElem?_eq_some_iff.1 h).1
theorem CBox.keep {w w' : World} {b : Nat} {m d r v o : Int} (h : CBox w b m d r v o) (x : Below w.heap.size w w') : CBox w' b m d r v o := (x.block b h.lt).trans h
theorem CBox.use {w : World} {b : Nat} {m d r v o : Int} (h : CBox w b m d r v o) : w.cell? ⟨b, 0, none⟩ = some (.int .i64 m) ∧ w.cell? ⟨b, 1, none⟩ = some (.int .i64 d) ∧ w.cell? ⟨b, 2, none⟩ = some (.int .i64 r) ∧ w.cell? ⟨b, 3, none⟩ = some (.int .i64 v) ∧ w.cell? ⟨b, 4, none⟩ = some (.int .i64 o) := by
  unfold CBox at h
  refine ⟨?_, ?_, ?_, ?_, ?_⟩ <;> simp [World.cell?, h]
theorem cv_new (w : World) (m d r v o : Int) (k : VmK) (B : Obj) (hB : B = .cells (vmC k) 37) : Below w.heap.size w ((w.alloc (.cells #[.int .i64 m, .int .i64 d, .int .i64 r, .int .i64 v, .int .i64 o] 23)).alloc B) ∧ CBox ((w.alloc (.cells #[.int .i64 m, .int .i64 d, .int .i64 r, .int .i64 v, .int .i64 o] 23)).alloc B) w.heap.size m d r v o ∧ VBox ((w.alloc (.cells #[.int .i64 m, .int .i64 d, .int .i64 r, .int .i64 v, .int .i64 o] 23)).alloc B) (w.heap.size + 1) k := by
  subst hB
  refine ⟨((Below.refl _ _).alloc (Nat.le_refl _) _).alloc (by simp) _, ?_, ?_⟩
  · exact CBox.keep (one_newN w _ _) ((Below.refl _ _).alloc (Nat.le_refl _) _)
  · have := vbox_new (w.alloc (.cells #[.int .i64 m, .int .i64 d, .int .i64 r, .int .i64 v, .int .i64 o] 23)) k
    rw [World.size_alloc] at this
    exact this
def newL (L : Nat) : VmL := { m := (rowN L 167, []), d := [], r := [], f := [], dict := newW 167, o := [], q := [], e := [], h := [] }
end Go.Proofs.YtbighilgkmfemaaDoor
