/- How bytes, patches and memories lie in a world; and that they lie on behind calls that make memory of their own. -/
import Derived.Test.YtekfemkoiadipaaMemSpec
import Derived.Test.YtekfemkoiadipaaMemBytesC
namespace Go.Proofs.Ytekfemkoiadipaa
open Go.RowKit

theorem below_then {w w1 w2 : World} (h : Below w.heap.size w w1) (k : Below w1.heap.size w1 w2) : Below w.heap.size w w2 := h.trans (k.mono h.size)

def u8s (l : List UInt8) : List Value := l.map fun b => .int .u8 (b.toNat : Int)
theorem u8s_len (l : List UInt8) : (u8s l).length = l.length := by simp [u8s]
theorem u8s_lay (l : List UInt8) (o : Nat) (c : List UInt8) : u8s (splice l o c) = splice (u8s l) o (u8s c) := splice_map _ l o c
theorem u8s_one (l : List UInt8) : ∀ v ∈ u8s l, v.oneCell' = true := by
  intro v hv
  unfold u8s at hv
  rw [List.mem_map] at hv
  obtain ⟨b, _, rfl⟩ := hv
  rfl
theorem u8s_at {l : List UInt8} {j : Nat} (h : j < l.length) : (u8s l)[j]? = some (.int .u8 ((l[j]).toNat : Int)) := by simp [u8s, h]
theorem u8s_app (a b : List UInt8) : u8s (a ++ b) = u8s a ++ u8s b := by simp [u8s]
/-- A row of cells lies at an address. -/
def Lies (w : World) (A : Option Addr) (xs : List Value) : Prop :=
  xs = [] ∨ ∃ g o, A = some ⟨g, o, none⟩ ∧ g < w.heap.size ∧ ∀ j v, xs[j]? = some v → w.cell? ⟨g, o + j, none⟩ = some v
theorem add_at (g o j : Nat) : (⟨g, o, none⟩ : Addr).add j = ⟨g, o + j, none⟩ := by unfold Addr.add; split <;> simp_all
theorem Lies.keep {w w' : World} {A : Option Addr} {xs : List Value} (h : Lies w A xs) (b : Below w.heap.size w w') : Lies w' A xs := by
  rcases h with h | ⟨g, o, hA, hg, hc⟩
  · exact .inl h
  · exact .inr ⟨g, o, hA, Nat.lt_of_lt_of_le hg b.size, fun j v hv => (b.cell (p := ⟨g, o + j, none⟩) hg).trans (hc j v hv)⟩
theorem Lies.part {w : World} {g o : Nat} {xs : List Value} (h : Lies w (some ⟨g, o, none⟩) xs) (a n : Nat) : Lies w (some ⟨g, o + a, none⟩) ((xs.drop a).take n) := by
  rcases h with rfl | ⟨g', o', hA, hg, hc⟩
  · exact .inl (by simp)
  · injection hA with hA
    injection hA with e1 e2
    subst e1 e2
    refine .inr ⟨g, o + a, rfl, hg, fun j v hv => ?_⟩
    rw [List.getElem?_take] at hv
    split at hv
    · rw [List.getElem?_drop] at hv
      rw [Nat.add_assoc]
      exact hc _ _ hv
    · cases hv
theorem lies_block {w : World} {g : Nat} {xs : List Value} {t : TypeId} (h : w.heap[g]? = some (.cells xs.toArray t (0, 0))) : Lies w (some ⟨g, 0, none⟩) xs := by
  refine .inr ⟨g, 0, rfl, (Array.getElem?_eq_some_iff.1 h).1, fun j v hv => ?_⟩
  rw [Nat.zero_add]
  simp [World.cell?, h, hv]

/-- A slice of bytes. -/
def Byt (w : World) (v : Value) (l : List UInt8) : Prop := ∃ A c, v = .slice A l.length c ∧ l.length ≤ c ∧ c ≤ maxLen ∧ Lies w A (u8s l)
theorem Byt.keep {w w' : World} {v : Value} {l : List UInt8} (h : Byt w v l) (b : Below w.heap.size w w') : Byt w' v l := by
  obtain ⟨A, c, h1, h2, h3, h4⟩ := h
  exact ⟨A, c, h1, h2, h3, h4.keep b⟩
theorem byt_block {w : World} {g : Nat} {l : List UInt8} {t : TypeId} (h : w.heap[g]? = some (.cells (u8s l).toArray t (0, 0))) (hl : l.length ≤ 65536) : Byt w (.slice (some ⟨g, 0, none⟩) l.length l.length) l :=
  ⟨_, _, rfl, Nat.le_refl _, by unfold maxLen; omega, lies_block h⟩
theorem byt_nil (w : World) : Byt w (.slice none 0 0) [] := ⟨none, 0, rfl, Nat.le_refl _, Nat.zero_le _, .inl rfl⟩

/-- The cells of patches. -/
abbrev Qt := Int × Value
def pc (qs : List Qt) : List Value := qs.flatMap fun q => [.int .i64 q.1, q.2]
theorem pc_cons (q : Qt) (qs : List Qt) : pc (q :: qs) = .int .i64 q.1 :: q.2 :: pc qs := rfl
theorem pc_app (a b : List Qt) : pc (a ++ b) = pc a ++ pc b := by simp [pc]
theorem pc_len (qs : List Qt) : (pc qs).length = 2 * qs.length := by
  induction qs with
  | nil => rfl
  | cons q qs ih => rw [pc_cons]; simp [ih]; omega
theorem pc_at (qs : List Qt) : ∀ i q, qs[i]? = some q → (pc qs)[2 * i]? = some (.int .i64 q.1) ∧ (pc qs)[2 * i + 1]? = some q.2 := by
  induction qs with
  | nil => intro i q h; simp at h
  | cons x qs ih =>
    intro i q h
    rw [pc_cons]
    cases i with
    | zero => simp at h; subst h; exact ⟨rfl, rfl⟩
    | succ i =>
      simp at h
      have := ih i q h
      rw [show 2 * (i + 1) = 2 * i + 1 + 1 by omega]
      simpa using this
/-- Cells of patches tell patches. -/
def Tells (w : World) (qs : List Qt) (ps : List Pt) : Prop := qs.length = ps.length ∧ ∀ (i : Nat) (q : Qt) (p : Pt), qs[i]? = some q → ps[i]? = some p → q.1 = p.1 ∧ Byt w q.2 p.2
theorem Tells.keep {w w' : World} {qs : List Qt} {ps : List Pt} (h : Tells w qs ps) (b : Below w.heap.size w w') : Tells w' qs ps :=
  ⟨h.1, fun i q p hq hp => ⟨(h.2 i q p hq hp).1, (h.2 i q p hq hp).2.keep b⟩⟩
theorem Tells.at_ {w : World} {qs : List Qt} {ps : List Pt} (h : Tells w qs ps) {i : Nat} {p : Pt} (hp : ps[i]? = some p) : ∃ v, qs[i]? = some (p.1, v) ∧ Byt w v p.2 := by
  have hi : i < qs.length := by rw [h.1]; exact (List.getElem?_eq_some_iff.1 hp).1
  have hq : qs[i]? = some qs[i] := List.getElem?_eq_getElem hi
  obtain ⟨e, hb⟩ := h.2 i _ p hq hp
  refine ⟨qs[i].2, ?_, hb⟩
  rw [hq, ← e]
theorem Tells.snoc {w : World} {qs : List Qt} {ps : List Pt} (h : Tells w qs ps) {p : Pt} {v : Value} (hv : Byt w v p.2) : Tells w (qs ++ [(p.1, v)]) (ps ++ [p]) := by
  refine ⟨by simp [h.1], fun i q r hq hr => ?_⟩
  by_cases hi : i < qs.length
  · rw [List.getElem?_append_left hi] at hq
    rw [List.getElem?_append_left (by rw [← h.1]; exact hi)] at hr
    exact h.2 i q r hq hr
  · have hi' : i = qs.length := by have := (List.getElem?_eq_some_iff.1 hq).1; simp at this; omega
    subst hi'
    rw [List.getElem?_append_right (Nat.le_refl _)] at hq
    rw [h.1, List.getElem?_append_right (Nat.le_refl _)] at hr
    simp at hq hr
    subst hq hr
    exact ⟨rfl, hv⟩
theorem Tells.take {w : World} {qs : List Qt} {ps : List Pt} (h : Tells w qs ps) (k : Nat) : Tells w (qs.take k) (ps.take k) := by
  refine ⟨by simp [h.1], fun i q r hq hr => ?_⟩
  rw [List.getElem?_take] at hq hr
  split at hq
  · rename_i hk
    rw [if_pos hk] at hr
    exact h.2 i q r hq hr
  · cases hq
theorem Tells.drop {w : World} {qs : List Qt} {ps : List Pt} (h : Tells w qs ps) (k : Nat) : Tells w (qs.drop k) (ps.drop k) := by
  refine ⟨by simp [h.1], fun i q r hq hr => ?_⟩
  rw [List.getElem?_drop] at hq hr
  exact h.2 _ q r hq hr
theorem tells_nil (w : World) : Tells w [] [] := ⟨rfl, fun i q p h => by simp at h⟩

/-- A slice of patches. -/
def Pats (w : World) (v : Value) (ps : List Pt) : Prop := ∃ A c qs, v = .slice A ps.length c ∧ ps.length ≤ c ∧ c ≤ maxLen ∧ Lies w A (pc qs) ∧ Tells w qs ps
theorem Pats.keep {w w' : World} {v : Value} {ps : List Pt} (h : Pats w v ps) (b : Below w.heap.size w w') : Pats w' v ps := by
  obtain ⟨A, c, qs, h1, h2, h3, h4, h5⟩ := h
  exact ⟨A, c, qs, h1, h2, h3, h4.keep b, h5.keep b⟩
theorem pats_nil (w : World) : Pats w (.slice none 0 0) [] := ⟨none, 0, [], rfl, Nat.le_refl _, Nat.zero_le _, .inl rfl, tells_nil w⟩

/-- A memory. -/
def IsMem (w : World) (v : Value) (m : PM) : Prop := ∃ b o, v = .agg #[b, o] ∧ Byt w b m.1 ∧ Pats w o m.2
theorem IsMem.keep {w w' : World} {v : Value} {m : PM} (h : IsMem w v m) (b : Below w.heap.size w w') : IsMem w' v m := by
  obtain ⟨x, y, h1, h2, h3⟩ := h
  exact ⟨x, y, h1, h2.keep b, h3.keep b⟩
theorem IsMem.parts {w : World} {v : Value} {m : PM} (h : IsMem w v m) : ∃ A c P d, v = .agg #[.slice A m.1.length c, .slice P m.2.length d] ∧ Byt w (.slice A m.1.length c) m.1 ∧ Pats w (.slice P m.2.length d) m.2 := by
  obtain ⟨x, y, rfl, hb, hp⟩ := h
  have hb' := hb
  have hp' := hp
  obtain ⟨A, c, rfl, _⟩ := hb
  obtain ⟨P, d, qs, rfl, _⟩ := hp
  exact ⟨A, c, P, d, rfl, hb', hp'⟩

/-- One block alone was written. -/
structure RowSet (g : Nat) (w w' : World) : Prop where
  os : w'.os = w.os
  tape : w'.tape = w.tape
  output : w'.output = w.output
  size : w'.heap.size = w.heap.size
  other : ∀ k, k ≠ g → w'.heap[k]? = w.heap[k]?
theorem rowSet_setRow (g : Nat) (w : World) (cs : Array Value) : RowSet g w (w.setRow g cs) := ⟨rfl, rfl, rfl, by simp [World.setRow], fun k hk => setRow_other w g k cs hk⟩
theorem RowSet.refl (g : Nat) (w : World) : RowSet g w w := ⟨rfl, rfl, rfl, rfl, fun _ _ => rfl⟩
theorem RowSet.trans {g : Nat} {a b c : World} (h : RowSet g a b) (k : RowSet g b c) : RowSet g a c :=
  ⟨k.os.trans h.os, k.tape.trans h.tape, k.output.trans h.output, k.size.trans h.size, fun i hi => (k.other i hi).trans (h.other i hi)⟩
theorem RowSet.below {g B : Nat} {w w' : World} (h : RowSet g w w') (hB : B ≤ g) : Below B w w' := ⟨h.os, h.tape, h.output, by rw [h.size]; exact Nat.le_refl _, fun k hk => h.other k (by omega)⟩
theorem RowSet.cell {g : Nat} {w w' : World} (h : RowSet g w w') {b o : Nat} (hb : b ≠ g) : w'.cell? ⟨b, o, none⟩ = w.cell? ⟨b, o, none⟩ := World.cell?_of_block (h.other b hb)
end Go.Proofs.Ytekfemkoiadipaa
