/- How bytes, patches and memories lie in a world; and that they lie on behind calls that make memory of their own. -/
import Derived.Test.YtakeaocmiblbeaaMemSpec
import Derived.Test.YtakeaocmiblbeaaMemBytesC
namespace Go.Proofs.Ytakeaocmiblbeaa
open Go.RowKit

theorem below_then {w w1 w2 : World} (h : Below w.heap.size w w1) (k : Below w1.heap.size w1 w2) : Below w.heap.size w w2 := h.trans (k.mono h.size)

def u8s (l : List UInt8) : List Value := l.map fun b => .int .u8 (b.toNat : Int)
theorem u8s_len (l : List UInt8) : (u8s l).length = l.length := by simp [u8s]
theorem u8s_one (l : List UInt8) : ∀ v ∈ u8s l, v.oneCell' = true := by
  intro v hv
  unfold u8s at hv
  rw [List.mem_map] at hv
  obtain ⟨b, _, rfl⟩ := hv
  rfl
theorem u8s_at {l : List UInt8} {j : Nat} (h : j < l.length) : (u8s l)[j]? = some (.int .u8 ((l[j]).toNat : Int)) := by simp [u8s, h]
theorem u8s_app (a b : List UInt8) : u8s (a ++ b) = u8s a ++ u8s b := by simp [u8s]
/-- A row of cells lies at an address. -/
def Lies (w : World) (A : Option Addr) (xs : List Value) : Prop :=
  xs = [] ∨ ∃ g o, A = some ⟨g, o, none⟩ ∧ g < w.heap.size ∧ ∀ j v, xs[j]? = some v → w.cell? ⟨g, o + j, none⟩ = some v
theorem add_at (g o j : Nat) : (⟨g, o, none⟩ : Addr).add j = ⟨g, o + j, none⟩ := by unfold Addr.add; split <;> simp_all
theorem Lies.keep {w w' : World} {A : Option Addr} {xs : List Value} (h : Lies w A xs) (b : Below w.heap.size w w') : Lies w' A xs := by
  rcases h with h | ⟨g, o, hA, hg, hc⟩
  · exact .inl h
  · exact .inr ⟨g, o, hA, Nat.lt_of_lt_of_le hg b.size, fun j v hv => (b.cell (p := ⟨g, o + j, none⟩) hg).trans (hc j v hv)⟩
theorem lies_block {w : World} {g : Nat} {xs : List Value} {t : TypeId} (h : w.heap[g]? = some (.cells xs.toArray t (0, 0))) : Lies w (some ⟨g, 0, none⟩) xs := by
  refine .inr ⟨g, 0, rfl, (Array.getElem?_eq_some_iff.1 h).1, fun j v hv => ?_⟩
  rw [Nat.zero_add]
  simp [World.cell?, h, hv]

/-- A slice of bytes. -/
def Byt (w : World) (v : Value) (l : List UInt8) : Prop := ∃ A c, v = .slice A l.length c ∧ l.length ≤ c ∧ c ≤ maxLen ∧ Lies w A (u8s l)
theorem Byt.keep {w w' : World} {v : Value} {l : List UInt8} (h : Byt w v l) (b : Below w.heap.size w w') : Byt w' v l := by
  obtain ⟨A, c, h1, h2, h3, h4⟩ := h
  exact ⟨A, c, h1, h2, h3, h4.keep b⟩
theorem byt_nil (w : World) : Byt w (.slice none 0 0) [] := ⟨none, 0, rfl, Nat.le_refl _, Nat.zero_le _, .inl rfl⟩

/-- The cells of patches. -/
abbrev Qt := Int × Value
def pc (qs : List Qt) : List Value := qs.flatMap fun q => [.int .i64 q.1, q.2]
theorem pc_cons (q : Qt) (qs : List Qt) : pc (q :: qs) = .int .i64 q.1 :: q.2 :: pc qs := rfl
/-- Cells of patches tell patches. -/
def Tells (w : World) (qs : List Qt) (ps : List Pt) : Prop := qs.length = ps.length ∧ ∀ (i : Nat) (q : Qt) (p : Pt), qs[i]? = some q → ps[i]? = some p → q.1 = p.1 ∧ Byt w q.2 p.2
theorem Tells.keep {w w' : World} {qs : List Qt} {ps : List Pt} (h : Tells w qs ps) (b : Below w.heap.size w w') : Tells w' qs ps :=
  ⟨h.1, fun i q p hq hp => ⟨(h.2 i q p hq hp).1, (h.2 i q p hq hp).2.keep b⟩⟩
theorem Tells.take {w : World} {qs : List Qt} {ps : List Pt} (h : Tells w qs ps) (k : Nat) : Tells w (qs.take k) (ps.take k) := by
  refine ⟨by simp [h.1], fun i q r hq hr => ?_⟩
  rw [List.getElem?_take] at hq hr
  split at hq
  · rename_i hk
    rw [if_pos hk] at hr
    exact h.2 i q r hq hr
  · cases hq
theorem Tells.drop {w : World} {qs : List Qt} {ps : List Pt} (h : Tells w qs ps) (k : Nat) : Tells w (qs.drop k) (ps.drop k) := by
  refine ⟨by simp [h.1], fun i q r hq hr => ?_⟩
  rw [List.getElem?_drop] at hq hr
  exact h.2 _ q r hq hr
/-- A slice of patches. -/
def Pats (w : World) (v : Value) (ps : List Pt) : Prop := ∃ A c qs, v = .slice A ps.length c ∧ ps.length ≤ c ∧ c ≤ maxLen ∧ Lies w A (pc qs) ∧ Tells w qs ps
theorem Pats.keep {w w' : World} {v : Value} {ps : List Pt} (h : Pats w v ps) (b : Below w.heap.size w w') : Pats w' v ps := by
  obtain ⟨A, c, qs, h1, h2, h3, h4, h5⟩ := h
  exact ⟨A, c, qs, h1, h2, h3, h4.keep b, h5.keep b⟩
/-- A memory. -/
def IsMem (w : World) (v : Value) (m : PM) : Prop := ∃ b o, v = .agg #[b, o] ∧ Byt w b m.1 ∧ Pats w o m.2
theorem IsMem.keep {w w' : World} {v : Value} {m : PM} (h : IsMem w v m) (b : Below w.heap.size w w') : IsMem w' v m := by
  obtain ⟨x, y, h1, h2, h3⟩ := h
  exact ⟨x, y, h1, h2.keep b, h3.keep b⟩
theorem IsMem.parts {w : World} {v : Value} {m : PM} (h : IsMem w v m) : ∃ A c P d, v = .agg #[.slice A m.1.length c, .slice P m.2.length d] ∧ Byt w (.slice A m.1.length c) m.1 ∧ Pats w (.slice P m.2.length d) m.2 := by
  obtain ⟨x, y, rfl, hb, hp⟩ := h
  have hb' := hb
  have hp' := hp
  obtain ⟨A, c, rfl, _⟩ := hb
  obtain ⟨P, d, qs, rfl, _⟩ := hp
  exact ⟨A, c, P, d, rfl, hb', hp'⟩

/-- One block alone was written. -/
structure RowSet (g : Nat) (w w' : World) : Prop where
  os : w'.os = w.os
  tape : w'.tape = w.tape
  output : w'.output = w.output
  size : w'.heap.size = w.heap.size
  other : ∀ k, k ≠ g → w'.heap[k]? = w.heap[k]?
theorem RowSet.refl (g : Nat) (w : World) : RowSet g w w := ⟨rfl, rfl, rfl, rfl, fun _ _ => rfl⟩
theorem RowSet.trans {g : Nat} {a b c : World} (h : RowSet g a b) (k : RowSet g b c) : RowSet g a c :=
  ⟨k.os.trans h.os, k.tape.trans h.tape, k.output.trans h.output, k.size.trans h.size, fun i hi => (k.other i hi).trans (h.other i hi)⟩
theorem RowSet.cell {g : Nat} {w w' : World} (h : RowSet g w w') {b o : Nat} (hb : b ≠ g) : w'.cell? ⟨b, o, none⟩ = w.cell? ⟨b, o, none⟩ := World.cell?_of_block (h.other b hb)
theorem RowSet.frozen {g : Nat} {w w' : World} (h : RowSet g w w') {b o : Nat} (hb : b ≠ g) : w'.frozen? ⟨b, o, none⟩ = w.frozen? ⟨b, o, none⟩ := World.frozen?_of_block (h.other b hb)
end Go.Proofs.Ytakeaocmiblbeaa
