/- The contract of Write of package mem. -/
import Derived.Test.YtakeaocmiblbeaaMemWalksA
import Derived.Lib.SmallJoins
namespace Go.Proofs.Ytakeaocmiblbeaa
open Go.RowKit

/-- A block of two cells. -/
def Box (w : World) (b : Nat) (x y : Value) (t : TypeId) : Prop := w.heap[b]? = some (.cells #[x, y] t (0, 0))
theorem Box.lt {w : World} {b : Nat} {x y : Value} {t : TypeId} (h : Box w b x y t) : b < w.heap.size := (Array.getElem?_eq_some_iff.1 h).1
theorem Box.keep {w w' : World} {b : Nat} {x y : Value} {t : TypeId} (h : Box w b x y t) (k : Below w.heap.size w w') : Box w' b x y t := (k.block b h.lt).trans h
theorem Box.row {w w' : World} {b g : Nat} {x y : Value} {t : TypeId} (h : Box w b x y t) (k : RowSet g w w') (hb : b ≠ g) : Box w' b x y t := (k.other b hb).trans h
theorem Box.use {w : World} {b : Nat} {x y : Value} {t : TypeId} (h : Box w b x y t) : w.cell? ⟨b, 0, none⟩ = some x ∧ w.cell? ⟨b, 1, none⟩ = some y ∧ w.frozen? ⟨b, 0, none⟩ = false ∧ w.frozen? ⟨b, 1, none⟩ = false := by
  unfold Box at h
  refine ⟨?_, ?_, ?_, ?_⟩ <;> simp [World.cell?, World.frozen?, h]
theorem Box.put {w : World} {b : Nat} {x y : Value} {t : TypeId} (h : Box w b x y t) (x' y' : Value) : Box ((w.setCell ⟨b, 0, none⟩ x').setCell ⟨b, 1, none⟩ y') b x' y' t := by
  have h1 : (w.setCell ⟨b, 0, none⟩ x').heap[b]? = some (.cells (#[x, y].setIfInBounds 0 x') t (0, 0)) := Go.Joins.block_setCell h x'
  have h2 := Go.Joins.block_setCell (i := 1) h1 y'
  simpa [Box] using h2
theorem Byt.len {w : World} {A : Option Addr} {n c : Nat} {l : List UInt8} (h : Byt w (.slice A n c) l) : l.length = n := by
  obtain ⟨A', c', e, _⟩ := h
  injection e with _ e _
  exact e.symm
theorem Byt.lies {w : World} {A : Option Addr} {n c : Nat} {l : List UInt8} (h : Byt w (.slice A n c) l) : Lies w A (u8s l) := by
  obtain ⟨A', c', e, _, _, hl⟩ := h
  injection e with e _ _
  subst e
  exact hl
theorem IsMem.byt {w : World} {x y : Value} {m : PM} (h : IsMem w (.agg #[x, y]) m) : Byt w x m.1 := by
  obtain ⟨x', y', e, hb, _⟩ := h
  injection e with e
  simp at e
  rw [e.1]
  exact hb
theorem Box.two {w : World} {b : Nat} {A P : Option Addr} {n c k d : Nat} {t : TypeId} (h : Box w b (.slice A n c) (.slice P k d) t) {o : Nat} {v : Value} (hc : w.cell? ⟨b, o, none⟩ = some v) : ∃ A n c, v = .slice A n c := by
  unfold Box at h
  simp [World.cell?, h] at hc
  match o, hc with
  | 0, hc => simp at hc; exact ⟨_, _, _, hc.symm⟩
  | 1, hc => simp at hc; exact ⟨_, _, _, hc.symm⟩
  | o + 2, hc => simp at hc
/-- A write into a block of two slices touches neither bytes nor patches. -/
theorem Lies.row {w w' : World} {b : Nat} {A P A' : Option Addr} {n c k d : Nat} {t : TypeId} {xs : List Value} (h : Lies w A' xs) (hb : Box w b (.slice A n c) (.slice P k d) t) (rs : RowSet b w w') (hi : ∀ v r, xs = v :: r → ∃ q i, v = .int q i) : Lies w' A' xs := by
  rcases h with h | ⟨g, o, e, hg, hc⟩
  · exact .inl h
  · match xs, hi, hc with
    | [], _, _ => exact .inl rfl
    | v :: r, hi, hc =>
      have hne : g ≠ b := by
        intro e
        subst e
        obtain ⟨q, i, rfl⟩ := hi v r rfl
        obtain ⟨_, _, _, hv⟩ := hb.two (hc 0 _ rfl)
        cases hv
      exact .inr ⟨g, o, e, by rw [rs.size]; exact hg, fun j v hv => (rs.cell hne).trans (hc j v hv)⟩
theorem u8s_head (l : List UInt8) : ∀ v r, u8s l = v :: r → ∃ q i, v = Value.int q i := by
  intro v r h
  cases l with
  | nil => simp [u8s] at h
  | cons x l => simp [u8s] at h; exact ⟨_, _, h.1.symm⟩
theorem pc_head (qs : List Qt) : ∀ v r, pc qs = v :: r → ∃ q i, v = Value.int q i := by
  intro v r h
  cases qs with
  | nil => simp [pc] at h
  | cons x l => rw [pc_cons] at h; injection h with h _; exact ⟨_, _, h.symm⟩
theorem Byt.row {w w' : World} {b : Nat} {A P : Option Addr} {n c k d : Nat} {t : TypeId} {v : Value} {l : List UInt8} (h : Byt w v l) (hb : Box w b (.slice A n c) (.slice P k d) t) (rs : RowSet b w w') : Byt w' v l := by
  obtain ⟨A', c', h1, h2, h3, h4⟩ := h
  exact ⟨A', c', h1, h2, h3, h4.row hb rs (u8s_head l)⟩
theorem Tells.row {w w' : World} {b : Nat} {A P : Option Addr} {n c k d : Nat} {t : TypeId} {qs : List Qt} {ps : List Pt} (h : Tells w qs ps) (hb : Box w b (.slice A n c) (.slice P k d) t) (rs : RowSet b w w') : Tells w' qs ps :=
  ⟨h.1, fun i q p hq hp => ⟨(h.2 i q p hq hp).1, (h.2 i q p hq hp).2.row hb rs⟩⟩
theorem IsMem.row {w w' : World} {b : Nat} {A P : Option Addr} {n c k d : Nat} {t : TypeId} {v : Value} {m : PM} (h : IsMem w v m) (hb : Box w b (.slice A n c) (.slice P k d) t) (rs : RowSet b w w') : IsMem w' v m := by
  obtain ⟨x, y, h1, h2, A', c', qs, e, h3, h4, h5, h6⟩ := h
  exact ⟨x, y, h1, h2.row hb rs, A', c', qs, e, h3, h4, h5.row hb rs (pc_head qs), h6.row hb rs⟩
end Go.Proofs.Ytakeaocmiblbeaa
