/- What the laws of this stage lean on, part 1: MemSpec, Spec, MemBase, MemBytesA, MemBytesC, MemLies, MemWalksA, MemWalksD, MemRefA, MemRefP, MemWalksF, MemSame, NumSpec, NumMath, NumStr, MemRefJ, MemShown, MemOpen, BytApp, NumRefB, NumRefC, WordApp, LexSpec, StrApp, NumCodeC, LexMath, LexRefC, DictSpec, DictRefA, DictMath, DictRefB. -/
import Derived.Laws.CopyOwn
import Derived.RowKit
import Derived.IntWalk
import Derived.Laws.Bits64
import Derived.Test.YtnjmhgbdhekmdaaRows
import Derived.WalkKit
import Derived.WalkSpells
import Derived.WalkLawsBesides
import Derived.Deep.QuietTactic
import Derived.BigQuiet
import Derived.Lib.Hide
import Derived.LoopN
import Derived.Laws.OwnMore
import Derived.OwnWalk
import Derived.Lib.SmallJoins
import Derived.Maps.AppendAt
import Derived.Deep.AppendLies
import Derived.Deep.RegionHeld3
import Derived.Test.YtnjmhgbdhekmdaaProg
import Derived.Laws.IdiomStrings
import Derived.Laws.BytesString
import Derived.ProofKit
import Derived.OpenShut
import Derived.ShutString
import Derived.ChangeOld
import Derived.Below
import Derived.Deep.Slices
import Derived.Deep.Fields
import Derived.Deep.DeepCutAuto
import Derived.Deep.Cut
import Derived.Laws.RangeAny
import Derived.Lib.OthersKept

/- What the calls of package mem answer, as plain functions of lists, by the document's own words. -/
namespace Go.Proofs.Ytnjmhgbdhekmdaa
open Go.RowKit

/-- A patch: a place, and the bytes that stood there. A memory: its bytes, and its patches. -/
abbrev Pt := Int × List UInt8
abbrev PM := List UInt8 × List Pt

/-- Are n bytes at a place there, of L bytes? -/
def okB (L : Nat) (p n : Int) : Bool := decide (n = 0 ∨ 0 < n ∧ 0 ≤ p ∧ p ≤ (L : Int) - n)
def textF (m : PM) (p n : Int) : List UInt8 := if okB m.1.length p n then (m.1.drop p.toNat).take n.toNat else []
/-- Bytes that are laid into a row from a place on. -/
def layF (row : List UInt8) (p : Int) (b : List UInt8) : List UInt8 := splice row p.toNat b
def writeF (m : PM) (p : Int) (b : List UInt8) : PM := if okB m.1.length p b.length = true ∧ b ≠ [] then (layF m.1 p b, m.2 ++ [(p, textF m p b.length)]) else m
/-- Patches undone, the last one first. -/
def undo (ps : List Pt) (row : List UInt8) : List UInt8 := ps.foldr (fun q r => layF r q.1 q.2) row
def backOk (m : PM) (k : Int) : Bool := decide (0 ≤ k ∧ k ≤ (m.2.length : Int))
def backF (m : PM) (k : Int) : PM := if backOk m k = true then (undo (m.2.drop k.toNat) m.1, m.2.take k.toNat) else m
def backC (m : PM) (k : Int) : Int := if backOk m k = true then 0 else -24

def rightP (L : Nat) (q : Pt) : Bool := okB L q.1 q.2.length
def rightB (m : PM) : Bool := decide (m.1.length ≤ 65536) && decide (m.1.length % 8 = 0) && m.2.all (rightP m.1.length)
/-- Why there is no cell at a place, or 0. -/
def cellC (L : Nat) (p : Int) : Int := if okB L p 8 = true then (if p % 8 = 0 then 0 else -23) else -9
def newOk (n : Int) : Bool := decide (8 ≤ n ∧ n ≤ 65536 ∧ n % 8 = 0)

end Go.Proofs.Ytnjmhgbdhekmdaa

/- What the calls of package cell answer, as plain functions of numbers, by the document's own words. -/
namespace Go.Proofs.Ytnjmhgbdhekmdaa
open Go.RowKit

/-- A cell, read without a sign. -/
def un (n : Int) : Nat := (IntKind.u64.wrap n).toNat
end Go.Proofs.Ytnjmhgbdhekmdaa

/- The head of the texts on layer 3: what each walk brings along. -/
namespace Go.Proofs.Ytnjmhgbdhekmdaa
open Go.RowKit

theorem ret_int {k : IntKind} {a b : Int} (h : a = b) : Ending.returned (.int k a) = .returned (.int k b) := by rw [h]
theorem ret_bool {a b : Bool} (h : a = b) : Ending.returned (.bool a) = .returned (.bool b) := by rw [h]
theorem ret_two {k l : IntKind} {a b c d : Int} (h : a = c) (g : b = d) : Ending.returned (.tuple #[.int k a, .int l b]) = .returned (.tuple #[.int k c, .int l d]) := by rw [h, g]
theorem ret_ib {k : IntKind} {a c : Int} {b d : Bool} (h : a = c) (g : b = d) : Ending.returned (.tuple #[.int k a, .bool b]) = .returned (.tuple #[.int k c, .bool d]) := by rw [h, g]
end Go.Proofs.Ytnjmhgbdhekmdaa

/- Contracts of gather and spread of package cell: a number out of its bytes, and its bytes. -/
namespace Go.Proofs.Ytnjmhgbdhekmdaa
open Go.RowKit

/-- A number's byte, the lowest first. -/
def byteOf (n i : Nat) : Nat := n / 256 ^ i % 256
/-- The number of eight bytes, the lowest first. -/
def eight (x0 x1 x2 x3 x4 x5 x6 x7 : Nat) : Nat := x0 + x1 * 256 + x2 * 65536 + x3 * 16777216 + x4 * 4294967296 + x5 * 1099511627776 + x6 * 281474976710656 + x7 * 72057594037927936
end Go.Proofs.Ytnjmhgbdhekmdaa

/- The contract of Get of package cell. -/
namespace Go.Proofs.Ytnjmhgbdhekmdaa
open Go.RowKit

theorem one_new (w : World) (c : Array Value) (t : TypeId) : (w.alloc (.cells c t)).heap[w.heap.size]? = some (.cells c t (0, 0)) := (MapKept.heap_alloc w _).1

end Go.Proofs.Ytnjmhgbdhekmdaa

/- How bytes, patches and memories lie in a world; and that they lie on behind calls that make memory of their own. -/
namespace Go.Proofs.Ytnjmhgbdhekmdaa
open Go.RowKit

theorem below_then {w w1 w2 : World} (h : Below w.heap.size w w1) (k : Below w1.heap.size w1 w2) : Below w.heap.size w w2 := h.trans (k.mono h.size)

def u8s (l : List UInt8) : List Value := l.map fun b => .int .u8 (b.toNat : Int)
theorem u8s_len (l : List UInt8) : (u8s l).length = l.length := by simp [u8s]
theorem u8s_one (l : List UInt8) : ∀ v ∈ u8s l, v.oneCell' = true := by
  intro v hv
  unfold u8s at hv
  rw [List.mem_map] at hv
  obtain ⟨b, _, rfl⟩ := hv
  rfl
theorem u8s_at {l : List UInt8} {j : Nat} (h : j < l.length) : (u8s l)[j]? = some (.int .u8 ((l[j]).toNat : Int)) := by simp [u8s, h]
theorem u8s_app (a b : List UInt8) : u8s (a ++ b) = u8s a ++ u8s b := by simp [u8s]
/-- A row of cells lies at an address. -/
def Lies (w : World) (A : Option Addr) (xs : List Value) : Prop :=
  xs = [] ∨ ∃ g o, A = some ⟨g, o, none⟩ ∧ g < w.heap.size ∧ ∀ j v, xs[j]? = some v → w.cell? ⟨g, o + j, none⟩ = some v
theorem add_at (g o j : Nat) : (⟨g, o, none⟩ : Addr).add j = ⟨g, o + j, none⟩ := by unfold Addr.add; split <;> simp_all
theorem Lies.keep {w w' : World} {A : Option Addr} {xs : List Value} (h : Lies w A xs) (b : Below w.heap.size w w') : Lies w' A xs := by
  rcases h with h | ⟨g, o, hA, hg, hc⟩
  · exact .inl h
  · exact .inr ⟨g, o, hA, Nat.lt_of_lt_of_le hg b.size, fun j v hv => (b.cell (p := ⟨g, o + j, none⟩) hg).trans (hc j v hv)⟩
theorem Lies.part {w : World} {g o : Nat} {xs : List Value} (h : Lies w (some ⟨g, o, none⟩) xs) (a n : Nat) : Lies w (some ⟨g, o + a, none⟩) ((xs.drop a).take n) := by
  rcases h with rfl | ⟨g', o', hA, hg, hc⟩
  · exact .inl (by simp)
  · injection hA with hA
    injection hA with e1 e2
    subst e1 e2
    refine .inr ⟨g, o + a, rfl, hg, fun j v hv => ?_⟩
    rw [List.getElem?_take] at hv
    split at hv
    · rw [List.getElem?_drop] at hv
      rw [Nat.add_assoc]
      exact hc _ _ hv
    · cases hv
theorem lies_block {w : World} {g : Nat} {xs : List Value} {t : TypeId} (h : w.heap[g]? = some (.cells xs.toArray t (0, 0))) : Lies w (some ⟨g, 0, none⟩) xs := by
  refine .inr ⟨g, 0, rfl, (Array.getElem?_eq_some_iff.1 h).1, fun j v hv => ?_⟩
  rw [Nat.zero_add]
  simp [World.cell?, h, hv]

/-- A slice of bytes. -/
def Byt (w : World) (v : Value) (l : List UInt8) : Prop := ∃ A c, v = .slice A l.length c ∧ l.length ≤ c ∧ c ≤ maxLen ∧ Lies w A (u8s l)
theorem Byt.keep {w w' : World} {v : Value} {l : List UInt8} (h : Byt w v l) (b : Below w.heap.size w w') : Byt w' v l := by
  obtain ⟨A, c, h1, h2, h3, h4⟩ := h
  exact ⟨A, c, h1, h2, h3, h4.keep b⟩
theorem byt_nil (w : World) : Byt w (.slice none 0 0) [] := ⟨none, 0, rfl, Nat.le_refl _, Nat.zero_le _, .inl rfl⟩

/-- The cells of patches. -/
abbrev Qt := Int × Value
def pc (qs : List Qt) : List Value := qs.flatMap fun q => [.int .i64 q.1, q.2]
theorem pc_cons (q : Qt) (qs : List Qt) : pc (q :: qs) = .int .i64 q.1 :: q.2 :: pc qs := rfl
/-- Cells of patches tell patches. -/
def Tells (w : World) (qs : List Qt) (ps : List Pt) : Prop := qs.length = ps.length ∧ ∀ (i : Nat) (q : Qt) (p : Pt), qs[i]? = some q → ps[i]? = some p → q.1 = p.1 ∧ Byt w q.2 p.2
theorem Tells.keep {w w' : World} {qs : List Qt} {ps : List Pt} (h : Tells w qs ps) (b : Below w.heap.size w w') : Tells w' qs ps :=
  ⟨h.1, fun i q p hq hp => ⟨(h.2 i q p hq hp).1, (h.2 i q p hq hp).2.keep b⟩⟩
theorem Tells.take {w : World} {qs : List Qt} {ps : List Pt} (h : Tells w qs ps) (k : Nat) : Tells w (qs.take k) (ps.take k) := by
  refine ⟨by simp [h.1], fun i q r hq hr => ?_⟩
  rw [List.getElem?_take] at hq hr
  split at hq
  · rename_i hk
    rw [if_pos hk] at hr
    exact h.2 i q r hq hr
  · cases hq
theorem Tells.drop {w : World} {qs : List Qt} {ps : List Pt} (h : Tells w qs ps) (k : Nat) : Tells w (qs.drop k) (ps.drop k) := by
  refine ⟨by simp [h.1], fun i q r hq hr => ?_⟩
  rw [List.getElem?_drop] at hq hr
  exact h.2 _ q r hq hr
/-- A slice of patches. -/
def Pats (w : World) (v : Value) (ps : List Pt) : Prop := ∃ A c qs, v = .slice A ps.length c ∧ ps.length ≤ c ∧ c ≤ maxLen ∧ Lies w A (pc qs) ∧ Tells w qs ps
theorem Pats.keep {w w' : World} {v : Value} {ps : List Pt} (h : Pats w v ps) (b : Below w.heap.size w w') : Pats w' v ps := by
  obtain ⟨A, c, qs, h1, h2, h3, h4, h5⟩ := h
  exact ⟨A, c, qs, h1, h2, h3, h4.keep b, h5.keep b⟩
/-- A memory. -/
def IsMem (w : World) (v : Value) (m : PM) : Prop := ∃ b o, v = .agg #[b, o] ∧ Byt w b m.1 ∧ Pats w o m.2
theorem IsMem.keep {w w' : World} {v : Value} {m : PM} (h : IsMem w v m) (b : Below w.heap.size w w') : IsMem w' v m := by
  obtain ⟨x, y, h1, h2, h3⟩ := h
  exact ⟨x, y, h1, h2.keep b, h3.keep b⟩
theorem IsMem.parts {w : World} {v : Value} {m : PM} (h : IsMem w v m) : ∃ A c P d, v = .agg #[.slice A m.1.length c, .slice P m.2.length d] ∧ Byt w (.slice A m.1.length c) m.1 ∧ Pats w (.slice P m.2.length d) m.2 := by
  obtain ⟨x, y, rfl, hb, hp⟩ := h
  have hb' := hb
  have hp' := hp
  obtain ⟨A, c, rfl, _⟩ := hb
  obtain ⟨P, d, qs, rfl, _⟩ := hp
  exact ⟨A, c, P, d, rfl, hb', hp'⟩

/-- One block alone was written. -/
structure RowSet (g : Nat) (w w' : World) : Prop where
  os : w'.os = w.os
  tape : w'.tape = w.tape
  output : w'.output = w.output
  size : w'.heap.size = w.heap.size
  other : ∀ k, k ≠ g → w'.heap[k]? = w.heap[k]?
theorem RowSet.refl (g : Nat) (w : World) : RowSet g w w := ⟨rfl, rfl, rfl, rfl, fun _ _ => rfl⟩
theorem RowSet.trans {g : Nat} {a b c : World} (h : RowSet g a b) (k : RowSet g b c) : RowSet g a c :=
  ⟨k.os.trans h.os, k.tape.trans h.tape, k.output.trans h.output, k.size.trans h.size, fun i hi => (k.other i hi).trans (h.other i hi)⟩
theorem RowSet.cell {g : Nat} {w w' : World} (h : RowSet g w w') {b o : Nat} (hb : b ≠ g) : w'.cell? ⟨b, o, none⟩ = w.cell? ⟨b, o, none⟩ := World.cell?_of_block (h.other b hb)
end Go.Proofs.Ytnjmhgbdhekmdaa

/- Contracts of there, lay, own (of bytes) of package mem, and of the document's There. -/
namespace Go.Proofs.Ytnjmhgbdhekmdaa
open Go.RowKit
set_option linter.unusedVariables false

theorem info_u8 : (Try.prog.info? 5).map (fun i => (i.zero, i.size, i.bytes)) = some (some (.int .u8 0), 1, 1) := by kernel_rfl

end Go.Proofs.Ytnjmhgbdhekmdaa

/- The contract of Write of package mem. -/
namespace Go.Proofs.Ytnjmhgbdhekmdaa
open Go.RowKit

/-- A block of two cells. -/
def Box (w : World) (b : Nat) (x y : Value) (t : TypeId) : Prop := w.heap[b]? = some (.cells #[x, y] t (0, 0))
theorem Box.lt {w : World} {b : Nat} {x y : Value} {t : TypeId} (h : Box w b x y t) : b < w.heap.size := (Array.getElem?_eq_some_iff.1 h).1
theorem Box.keep {w w' : World} {b : Nat} {x y : Value} {t : TypeId} (h : Box w b x y t) (k : Below w.heap.size w w') : Box w' b x y t := (k.block b h.lt).trans h
theorem Box.row {w w' : World} {b g : Nat} {x y : Value} {t : TypeId} (h : Box w b x y t) (k : RowSet g w w') (hb : b ≠ g) : Box w' b x y t := (k.other b hb).trans h
theorem Box.use {w : World} {b : Nat} {x y : Value} {t : TypeId} (h : Box w b x y t) : w.cell? ⟨b, 0, none⟩ = some x ∧ w.cell? ⟨b, 1, none⟩ = some y ∧ w.frozen? ⟨b, 0, none⟩ = false ∧ w.frozen? ⟨b, 1, none⟩ = false := by
  unfold Box at h
  refine ⟨?_, ?_, ?_, ?_⟩ <;> simp [World.cell?, World.frozen?, h]
theorem Box.put {w : World} {b : Nat} {x y : Value} {t : TypeId} (h : Box w b x y t) (x' y' : Value) : Box ((w.setCell ⟨b, 0, none⟩ x').setCell ⟨b, 1, none⟩ y') b x' y' t := by
  have h1 : (w.setCell ⟨b, 0, none⟩ x').heap[b]? = some (.cells (#[x, y].setIfInBounds 0 x') t (0, 0)) := Go.Joins.block_setCell h x'
  have h2 := Go.Joins.block_setCell (i := 1) h1 y'
  simpa [Box] using h2
theorem Byt.len {w : World} {A : Option Addr} {n c : Nat} {l : List UInt8} (h : Byt w (.slice A n c) l) : l.length = n := by
  obtain ⟨A', c', e, _⟩ := h
  injection e with _ e _
  exact e.symm
theorem Byt.lies {w : World} {A : Option Addr} {n c : Nat} {l : List UInt8} (h : Byt w (.slice A n c) l) : Lies w A (u8s l) := by
  obtain ⟨A', c', e, _, _, hl⟩ := h
  injection e with e _ _
  subst e
  exact hl
theorem IsMem.byt {w : World} {x y : Value} {m : PM} (h : IsMem w (.agg #[x, y]) m) : Byt w x m.1 := by
  obtain ⟨x', y', e, hb, _⟩ := h
  injection e with e
  simp at e
  rw [e.1]
  exact hb
theorem Box.two {w : World} {b : Nat} {A P : Option Addr} {n c k d : Nat} {t : TypeId} (h : Box w b (.slice A n c) (.slice P k d) t) {o : Nat} {v : Value} (hc : w.cell? ⟨b, o, none⟩ = some v) : ∃ A n c, v = .slice A n c := by
  unfold Box at h
  simp [World.cell?, h] at hc
  match o, hc with
  | 0, hc => simp at hc; exact ⟨_, _, _, hc.symm⟩
  | 1, hc => simp at hc; exact ⟨_, _, _, hc.symm⟩
  | o + 2, hc => simp at hc
/-- A write into a block of two slices touches neither bytes nor patches. -/
theorem Lies.row {w w' : World} {b : Nat} {A P A' : Option Addr} {n c k d : Nat} {t : TypeId} {xs : List Value} (h : Lies w A' xs) (hb : Box w b (.slice A n c) (.slice P k d) t) (rs : RowSet b w w') (hi : ∀ v r, xs = v :: r → ∃ q i, v = .int q i) : Lies w' A' xs := by
  rcases h with h | ⟨g, o, e, hg, hc⟩
  · exact .inl h
  · match xs, hi, hc with
    | [], _, _ => exact .inl rfl
    | v :: r, hi, hc =>
      have hne : g ≠ b := by
        intro e
        subst e
        obtain ⟨q, i, rfl⟩ := hi v r rfl
        obtain ⟨_, _, _, hv⟩ := hb.two (hc 0 _ rfl)
        cases hv
      exact .inr ⟨g, o, e, by rw [rs.size]; exact hg, fun j v hv => (rs.cell hne).trans (hc j v hv)⟩
theorem u8s_head (l : List UInt8) : ∀ v r, u8s l = v :: r → ∃ q i, v = Value.int q i := by
  intro v r h
  cases l with
  | nil => simp [u8s] at h
  | cons x l => simp [u8s] at h; exact ⟨_, _, h.1.symm⟩
theorem pc_head (qs : List Qt) : ∀ v r, pc qs = v :: r → ∃ q i, v = Value.int q i := by
  intro v r h
  cases qs with
  | nil => simp [pc] at h
  | cons x l => rw [pc_cons] at h; injection h with h _; exact ⟨_, _, h.symm⟩
theorem Byt.row {w w' : World} {b : Nat} {A P : Option Addr} {n c k d : Nat} {t : TypeId} {v : Value} {l : List UInt8} (h : Byt w v l) (hb : Box w b (.slice A n c) (.slice P k d) t) (rs : RowSet b w w') : Byt w' v l := by
  obtain ⟨A', c', h1, h2, h3, h4⟩ := h
  exact ⟨A', c', h1, h2, h3, h4.row hb rs (u8s_head l)⟩
theorem Tells.row {w w' : World} {b : Nat} {A P : Option Addr} {n c k d : Nat} {t : TypeId} {qs : List Qt} {ps : List Pt} (h : Tells w qs ps) (hb : Box w b (.slice A n c) (.slice P k d) t) (rs : RowSet b w w') : Tells w' qs ps :=
  ⟨h.1, fun i q p hq hp => ⟨(h.2 i q p hq hp).1, (h.2 i q p hq hp).2.row hb rs⟩⟩
theorem IsMem.row {w w' : World} {b : Nat} {A P : Option Addr} {n c k d : Nat} {t : TypeId} {v : Value} {m : PM} (h : IsMem w v m) (hb : Box w b (.slice A n c) (.slice P k d) t) (rs : RowSet b w w') : IsMem w' v m := by
  obtain ⟨x, y, h1, h2, A', c', qs, e, h3, h4, h5, h6⟩ := h
  exact ⟨x, y, h1, h2.row hb rs, A', c', qs, e, h3, h4, h5.row hb rs (pc_head qs), h6.row hb rs⟩
end Go.Proofs.Ytnjmhgbdhekmdaa

/- The document's own Text: bytes that are appended one by one. -/
namespace Go.Proofs.Ytnjmhgbdhekmdaa
open Go.RowKit

theorem own_byt {w : World} {base n : Nat} {v : Value} {l : List UInt8} (h : w.ownsRow base 5 1 v n (u8s l)) : Byt w v l := by
  have hl := h.1
  rw [u8s_len, Nat.mul_one] at hl
  subst hl
  rcases h.2 with ⟨rfl, h0⟩ | ⟨g, cap, cur, rfl, _, hg, hnc, hcm, _, ht⟩
  · have : l = [] := List.eq_nil_of_length_eq_zero h0
    subst this
    exact byt_nil w
  · refine ⟨some ⟨g, 0, none⟩, cap, rfl, hnc, hcm, .inr ⟨g, 0, rfl, (Array.getElem?_eq_some_iff.1 hg).1, fun j x hx => ?_⟩⟩
    rw [← ht, List.getElem?_take] at hx
    split at hx
    · rw [Nat.zero_add]
      simp [World.cell?, hg]
      simpa using hx
    · cases hx
theorem own_from {w : World} {base e size n : Nat} {v : Value} {xs : List Value} (h : w.ownsRow base e size v n xs) : ∀ k, v.ownBlock = some k → base ≤ k := fun k hk => (h.lt k hk).1

end Go.Proofs.Ytnjmhgbdhekmdaa

/- Contracts of the document's own Put and Get for layer 1; cells as bytes. -/
namespace Go.Proofs.Ytnjmhgbdhekmdaa
open Go.RowKit

/-- A cell's bytes. -/
def cellBytes (n : Int) : List UInt8 := [UInt8.ofNat (byteOf (un n) 0), UInt8.ofNat (byteOf (un n) 1), UInt8.ofNat (byteOf (un n) 2), UInt8.ofNat (byteOf (un n) 3), UInt8.ofNat (byteOf (un n) 4), UInt8.ofNat (byteOf (un n) 5), UInt8.ofNat (byteOf (un n) 6), UInt8.ofNat (byteOf (un n) 7)]
/-- The byte at a place, as a number; the cell at a place. -/
def bn (m : PM) (k : Nat) : Nat := (m.1.getD k 0).toNat
def fetchF (m : PM) (p : Int) : Int := if cellC m.1.length p = 0 then wrap64 (eight (bn m p.toNat) (bn m (p.toNat + 1)) (bn m (p.toNat + 2)) (bn m (p.toNat + 3)) (bn m (p.toNat + 4)) (bn m (p.toNat + 5)) (bn m (p.toNat + 6)) (bn m (p.toNat + 7)) : Int) else 0

end Go.Proofs.Ytnjmhgbdhekmdaa

/- Contracts of Mark, Free, New and Store of package mem. -/
namespace Go.Proofs.Ytnjmhgbdhekmdaa
open Go.RowKit

/-- A memory's two slices. -/
theorem IsMem.slices {w : World} {x y : Value} {m : PM} (h : IsMem w (.agg #[x, y]) m) : ∃ A n c P k d, x = .slice A n c ∧ y = .slice P k d := by
  obtain ⟨A, c, P, d, e, _, _⟩ := h.parts
  injection e with e
  simp at e
  exact ⟨A, _, c, P, _, d, e.1, e.2⟩

def newF (n : Int) : PM := if newOk n = true then (List.replicate n.toNat 0, []) else ([], [])
def newC (n : Int) : Int := if newOk n = true then 0 else -24
def storeF (m : PM) (p n : Int) : PM := if cellC m.1.length p = 0 then writeF m p (cellBytes n) else m
end Go.Proofs.Ytnjmhgbdhekmdaa

/- Contracts of bytes.Equal, samePatch, slices.EqualFunc and Same. -/
namespace Go.Proofs.Ytnjmhgbdhekmdaa
open Go.RowKit

/-- Bytes as a string. -/
def strB (l : List UInt8) : ByteArray := ⟨l.toArray⟩
theorem strB_inj {a b : List UInt8} (h : strB a = strB b) : a = b := by
  have : a.toArray = b.toArray := congrArg ByteArray.data h
  simpa using this
theorem str_ne {a b : ByteArray} (h : a ≠ b) : (a.toList == b.toList) = false := by
  rw [beq_eq_false_iff_ne]
  intro e
  rw [ByteArray.toList_eq, ByteArray.toList_eq] at e
  apply h
  cases a
  cases b
  congr 1
  exact Array.toList_inj.1 e
theorem Byt.conv {w : World} {A : Option Addr} {n c : Nat} {l : List UInt8} (h : Byt w (.slice A n c) l) : (convert 66 9 (.slice A n c)).run Try.prog w = .ok (.string (strB l)) w := by
  have hl := h.len
  subst hl
  rcases h.lies with e | ⟨g, o, rfl, _, hc⟩
  · have : l = [] := by
      have := congrArg List.length e
      rw [u8s_len] at this
      exact List.eq_nil_of_length_eq_zero this
    subst this
    rw [run_convert_bytes_string w 66 9 5 _ _ _ Try.underlying66 Try.underlying5 Try.underlying9]
    cases A <;> simp [Conv.bytesToString, loadCells, strB]
    all_goals rfl
  · refine run_convert_bytes_back w 66 9 5 ⟨g, o, none⟩ c l Try.underlying66 Try.underlying5 Try.underlying9 fun j hj => ?_
    rw [add_at]
    exact hc j _ (u8s_at hj)

theorem take_eq_step {α : Type} {a b : List α} {j : Nat} {p q : α} (h : a.take j = b.take j) (hp : a[j]? = some p) (hq : b[j]? = some q) (e : p = q) : a.take (j + 1) = b.take (j + 1) := by
  have h1 := (List.getElem?_eq_some_iff.1 hp)
  have h2 := (List.getElem?_eq_some_iff.1 hq)
  obtain ⟨i1, e1⟩ := h1
  obtain ⟨i2, e2⟩ := h2
  rw [List.take_succ_eq_append_getElem i1, List.take_succ_eq_append_getElem i2, h, e1, e2, e]
end Go.Proofs.Ytnjmhgbdhekmdaa

/- What the calls of package num answer, as plain functions, by the document's own words. -/
namespace Go.Proofs.Ytnjmhgbdhekmdaa
open Go.RowKit
set_option linter.unusedVariables false
set_option linter.unusedSimpArgs false

/-- A digit's sign. -/
def digN (n : Nat) : Nat := if n ≤ 9 then 48 + n else if n ≤ 35 then 55 + n else 63
/-- A number in digits. -/
def usF (b u : Nat) : List UInt8 :=
  if h : 2 ≤ b ∧ b ≤ u then usF b (u / b) ++ [UInt8.ofNat (digN (u % b))] else [UInt8.ofNat (digN u)]
termination_by u
decreasing_by exact Nat.div_lt_self (by omega) (by omega)
theorem usF_big {b u : Nat} (h2 : 2 ≤ b) (h : b ≤ u) : usF b u = usF b (u / b) ++ [UInt8.ofNat (digN (u % b))] := by
  rw [usF, dif_pos ⟨h2, h⟩]
theorem usF_low {b u : Nat} (h : u < b) : usF b u = [UInt8.ofNat (digN u)] := by
  rw [usF, dif_neg (by omega)]
end Go.Proofs.Ytnjmhgbdhekmdaa

/- Plain facts on numbers as texts: what is shown is read. -/
namespace Go.Proofs.Ytnjmhgbdhekmdaa
open Go.RowKit
set_option linter.unusedVariables false
set_option linter.unusedSimpArgs false

theorem w64_id {n : Int} (h0 : -9223372036854775808 ≤ n) (h1 : n ≤ 9223372036854775807) : wrap64 n = n := IntWalk.wrap64_in n ⟨h0, h1⟩
theorem w64_mod (n : Int) : wrap64 n % 18446744073709551616 = n % 18446744073709551616 := by unfold wrap64; omega
end Go.Proofs.Ytnjmhgbdhekmdaa

/- Texts as values: their bytes, one by one, and put together. -/
namespace Go.Proofs.Ytnjmhgbdhekmdaa
open Go.RowKit
set_option linter.unusedVariables false
set_option linter.unusedSimpArgs false

theorem strB_of (s : ByteArray) : strB s.data.toList = s := by
  cases s
  simp [strB]
theorem strB_size (l : List UInt8) : (strB l).size = l.length := rfl
theorem strB_app (a b : List UInt8) : strB a ++ strB b = strB (a ++ b) := by
  apply ByteArray.ext
  simp [strB, ByteArray.data_append]
theorem run_ix (l : List UInt8) (i : Nat) (h : i < l.length) (w : World) :
    (Instr.index 9 (.string (strB l)) (.int .i64 (i : Int))).run Try.prog w = .ok (.int .u8 ((l[i]).toNat : Int)) w := by
  have e : (strB l)[i]? = some l[i] := by
    have hs : i < (strB l).size := h
    rw [getElem?_pos (strB l) i hs]
    rfl
  simp [Instr.index, run_underlying Try.underlying9, asIntOf, e]
theorem one_newN (w1 : World) (b : Array Value) (t : TypeId) : (w1.alloc (.cells b t)).heap[w1.heap.size]? = some (.cells b t (0, 0)) := by
  show (w1.heap.push _)[w1.heap.size]? = _
  exact Array.getElem?_push_size
theorem conv_one (x : UInt8) (w : World) : (convert 66 9 (.slice (some ⟨w.heap.size, 0, none⟩) 1 1)).run Try.prog (w.alloc (.cells #[.int .u8 (x.toNat : Int)] 5)) = .ok (.string (strB [x])) (w.alloc (.cells #[.int .u8 (x.toNat : Int)] 5)) := by
  refine run_convert_bytes_back (w.alloc (.cells #[.int .u8 (x.toNat : Int)] 5)) 66 9 5 ⟨w.heap.size, 0, none⟩ 1 [x] Try.underlying66 Try.underlying5 Try.underlying9 fun j hj => ?_
  have h0 : j = 0 := by simp at hj; omega
  subst h0
  have h := one_newN w #[.int .u8 (x.toNat : Int)] 5
  rw [show (⟨w.heap.size, 0, none⟩ : Addr).add 0 = ⟨w.heap.size, 0, none⟩ from by simp [Addr.add]]
  unfold World.cell?
  rw [h]
  rfl
end Go.Proofs.Ytnjmhgbdhekmdaa

/- The document's own Same. -/
namespace Go.Proofs.Ytnjmhgbdhekmdaa
open Go.RowKit

theorem str_neq {a b : ByteArray} (h : a ≠ b) : (a.toList != b.toList) = true := by rw [bne, str_ne h]; rfl
theorem Byt.drewN {w : World} {v : Value} {l : List UInt8} (h : Byt w v l) (i : Nat) : Byt (w.drewN i) v l := h

end Go.Proofs.Ytnjmhgbdhekmdaa

/- The head of all statements of layer 3: the document's examples come out. -/
namespace Go.Proofs.Ytnjmhgbdhekmdaa
open Go.RowKit

def sm : PM := newF 16
def sx : PM := storeF sm 8 258
theorem s1 : newC 16 = 0 := by decide +kernel
theorem s2 : sm.1.length = 16 ∧ sm.2.length = 0 ∧ sx.1.length = 16 ∧ sx.2.length = 1 := by decide +kernel
theorem s3 : cellC 16 8 = 0 ∧ cellC 16 9 = -9 ∧ cellC 16 4 = -23 := by decide +kernel
theorem s4 : fetchF sx 8 = 258 := by decide +kernel
theorem s5 : backC sx 0 = 0 ∧ backF sx 0 = sm := by decide +kernel
theorem s7 : rightB sx = true ∧ rightB ([1], []) = false ∧ decide (sm = sm) = true ∧ decide (sx = sm) = false := by decide +kernel

theorem al_one (w : World) (o : Obj) : Below w.heap.size w (w.alloc o) := (Below.refl _ _).alloc (Nat.le_refl _) o
theorem al_then {w1 w2 : World} {o : Obj} (b : Below (w1.alloc o).heap.size (w1.alloc o) w2) : Below w1.heap.size w1 w2 := (al_one w1 o).trans (b.mono (by simp))

end Go.Proofs.Ytnjmhgbdhekmdaa

/- What a statement is asked of, as it is read: slices of bytes, of patches, memories. -/
namespace Go.Proofs.Ytnjmhgbdhekmdaa
open Go.ChangeShapes Go.WideShapes Go.ChangeAt Go.RowKit Go.Joins Go.Deep
set_option linter.unusedVariables false
set_option linter.unusedSimpArgs false

theorem plain_of {w : World} {x : Addr} {v : Value} (h : w.cell? (x.add 0) = some v) : ∃ b off, x = ⟨b, off, none⟩ ∧ b < w.heap.size := by
  obtain ⟨b, off, sp⟩ := x
  have e : (⟨b, off, sp⟩ : Addr).add 0 = ⟨b, off, sp⟩ := by simp [Addr.add]
  rw [e] at h
  have hl : b < w.heap.size := by
    rcases Nat.lt_or_ge b w.heap.size with hl | hl
    · exact hl
    · unfold World.cell? at h
      rw [Array.getElem?_eq_none hl] at h
      simp at h
  cases sp with
  | none => exact ⟨b, off, rfl, hl⟩
  | some s =>
    unfold World.cell? at h
    split at h <;> simp_all

section
variable {H : Type} {enc : TypeId × Value → H} {w : World}

theorem open_byt {fuel : Nat} {v : Value} {x : DataW H × List MemPlace} (h : DataW.trod enc Try.prog w 0 (fun _ => true) true fuel 66 [v] = some x) : ∃ l, Byt w v l := by
  rcases open_ints Try.underlying66 Try.underlying5 (by kernel_rfl) h with ⟨hcs, _⟩ | ⟨a, len, cap, zs, hcs, _, hl, hm, hz, _, hcell, hwz⟩
  · simp at hcs
    subst hcs
    exact ⟨[], byt_nil w⟩
  · simp at hcs hz
    subst hcs
    refine ⟨(zs.take len).map fun z => UInt8.ofNat z.toNat, ?_⟩
    have hlen : ((zs.take len).map fun z => UInt8.ofNat z.toNat).length = len := by simp; omega
    refine ⟨some a, cap, by rw [hlen], by rw [hlen]; exact hl, hm, ?_⟩
    by_cases h0 : len = 0
    · subst h0; exact .inl (by simp [u8s])
    · obtain ⟨b, off, rfl, hb⟩ := plain_of (hcell 0 (by omega))
      refine .inr ⟨b, off, rfl, hb, fun j v hv => ?_⟩
      have hj : j < len := by have := (List.getElem?_eq_some_iff.1 hv).1; rw [u8s_len, hlen] at this; exact this
      have hjz : j < zs.length := by omega
      have hc := hcell j hjz
      rw [add_at] at hc
      rw [hc]
      have hw := hwz zs[j] (List.getElem_mem hjz)
      simp only [Lit.wf, IntKind.min, IntKind.max, IntKind.signed, IntKind.bits, Bool.and_eq_true, decide_eq_true_eq] at hw
      simp at hw
      simp [u8s, hj, hjz] at hv
      rw [← hv]
      simp [List.getD, List.getElem?_eq_getElem hjz]
      omega

/-- A list, told element by element. -/
theorem list_of {α : Type} (n : Nat) (R : Nat → α → Prop) (h : ∀ i, i < n → ∃ x, R i x) : ∃ l : List α, l.length = n ∧ ∀ (i : Nat) (x : α), l[i]? = some x → R i x := by
  induction n with
  | zero => exact ⟨[], rfl, fun i x hx => by simp at hx⟩
  | succ n ih =>
    obtain ⟨l, h1, h2⟩ := ih fun i hi => h i (by omega)
    obtain ⟨y, hy⟩ := h n (by omega)
    refine ⟨l ++ [y], by simp [h1], fun i x hx => ?_⟩
    by_cases hi : i < l.length
    · rw [List.getElem?_append_left hi] at hx
      exact h2 i x hx
    · have : i = n := by have := (List.getElem?_eq_some_iff.1 hx).1; simp at this; omega
      subst this
      rw [List.getElem?_append_right (by omega), h1, Nat.sub_self] at hx
      simp at hx
      rw [← hx]
      exact hy

end
end Go.Proofs.Ytnjmhgbdhekmdaa

/- append of bytes to a row that the call made, in a list of operations and in a region that draws its order. -/
namespace Go.Proofs.Ytnjmhgbdhekmdaa
open Go.RowKit
set_option linter.unusedVariables false
set_option linter.unusedSimpArgs false

/-- A value that owns a row of bytes. -/
abbrev BOwns (w : World) (base : Nat) (v : Value) (n : Nat) (l : List UInt8) : Prop := w.ownsRow base 5 1 v n (u8s l)
theorem BOwns.byt {w : World} {base n : Nat} {v : Value} {l : List UInt8} (h : BOwns w base v n l) : Byt w v l := own_byt h
theorem BOwns.len {w : World} {base n : Nat} {v : Value} {l : List UInt8} (h : BOwns w base v n l) : l.length = n := by
  have hl := h.1
  rw [u8s_len, Nat.mul_one] at hl
  exact hl
theorem BOwns.alloc {w : World} {base n : Nat} {v : Value} {l : List UInt8} (h : BOwns w base v n l) (o : Obj) : BOwns (w.alloc o) base v n l := World.ownsRow.alloc h o
theorem bowns_none (w : World) (base : Nat) : BOwns w base (.slice none 0 0) 0 [] := ⟨rfl, .inl ⟨rfl, rfl⟩⟩

set_option maxRecDepth 100000 in
/-- append of a row of bytes to one that the call owns. -/
theorem run_bapp {w : World} (ty : TypeId) {base n : Nat} {v : Value} {xs : List UInt8} (hown : BOwns w base v n xs) {A : Option Addr} {m c : Nat} {ys : List UInt8} (hr : Byt w (.slice A m c) ys) (h63 : n + m ≤ 1000000) (hbase : base ≤ w.heap.size) :
    ∃ v' w', (Builtin.append_ #[66, 66] ty #[v, .slice A m c]).run Try.prog w = .ok v' w' ∧ BOwns w' base v' (n + m) (xs ++ ys) ∧ w.grownBy w' v.ownBlock := by
  obtain ⟨i0, hi, hz0, hz1, hz2⟩ := info_parts info_u8
  have h1 := hr.len
  have h4 := hr.lies
  cases A with
  | some ad =>
    have hsrc : ∀ j u, (u8s ys)[j]? = some u → w.cell? (ad.add j) = some u := by
      intro j u hu
      rcases h4 with h4 | ⟨g, o, e, _, hc⟩
      · rw [h4] at hu; simp at hu
      · injection e with e
        rw [e, add_at]
        exact hc j u hu
    obtain ⟨v', w', ha, hb, hc, _⟩ := run_append_own (P := Try.prog) w base 66 ty 5 i0 (.int .u8 0) 1 1 Try.underlying66 hi hz0 hz1 hz2 rfl (by decide) v n (u8s xs) hown ad m c (u8s ys) (by rw [u8s_len, h1, Nat.mul_one]) hsrc (u8s_one ys) (by unfold maxLen; omega) (by omega) hbase
    exact ⟨v', w', ha, by have e := u8s_app xs ys; unfold BOwns; rw [e]; exact hb, hc⟩
  | none =>
    have hnil : ys = [] := by
      rcases h4 with h | ⟨_, _, h, _⟩
      · have := congrArg List.length h
        rw [u8s_len] at this
        exact List.eq_nil_of_length_eq_zero this
      · cases h
    subst hnil
    have hm : m = 0 := by rw [← h1]; rfl
    subst hm
    refine ⟨v, w, ?_, by simpa using hown, World.grownBy.refl w _⟩
    rcases hown.2 with ⟨rfl, rfl⟩ | ⟨g, cap, cur, rfl, _, _, hnc, _⟩
    · simp [Builtin.append_, run_underlying Try.underlying66, sizeOf, typeInfo, hi, Builtin.lenOf, Builtin.firstCells]
    · simp [Builtin.append_, run_underlying Try.underlying66, sizeOf, typeInfo, hi, Builtin.lenOf, Builtin.firstCells, hnc, storeCells]
theorem bapp_below {w0 w w' : World} {base n : Nat} {v : Value} {xs : List UInt8} (hown : BOwns w base v n xs) (hb : Below w0.heap.size w0 w) (hg : w.grownBy w' v.ownBlock) (hB : w0.heap.size ≤ base) : Below w0.heap.size w0 w' :=
  hb.grown hg hb.size (fun k hk => Nat.le_trans hB (own_from hown k hk))

theorem wp_bapp {o : Oper} {a : Act} {K : Act → World → Prop} {Q : Exit → Act → World → Prop} {w : World} (s x : Operand)
    (ho : o.op = .call { callee := .builtin .append, args := #[s, x], argTypes := #[66, 66] })
    (base : Nat) (v : Value) (n : Nat) (xs : List UInt8) (hs : a.eval s = v) (hown : BOwns w base v n xs)
    (A : Option Addr) (m c : Nat) (ys : List UInt8) (hx : a.eval x = .slice A m c) (hr : Byt w (.slice A m c) ys) (h63 : n + m ≤ 1000000) (hbase : base ≤ w.heap.size)
    (w0 : World) (hb : Below w0.heap.size w0 w) (hB : w0.heap.size ≤ base)
    (h : ∀ v' w', BOwns w' base v' (n + m) (xs ++ ys) → Below w0.heap.size w0 w' → w.grownBy w' v.ownBlock → K (a.put o.dst v') w') : o.wp Try.prog a w K Q := by
  obtain ⟨v', w', hr, h2, h3⟩ := run_bapp o.type hown hr h63 hbase
  unfold Oper.wp execOp
  simp only [ho, resolve, invoke, builtin, Sem.run_bind, Sem.run_pure, Result.andThen_ok, List.map_toArray, List.map_cons, List.map_nil, hs, hx, hr]
  exact h v' w' h2 (bapp_below hown hb h3 hB) h3
theorem wpList_bapp {ops : Array Oper} {rest : List Oper} {o : Oper} {a : Act} {Q : Exit → Act → World → Prop} {w : World} (hgd : o.guard = none) (s x : Operand)
    (ho : o.op = .call { callee := .builtin .append, args := #[s, x], argTypes := #[66, 66] })
    (base : Nat) (v : Value) (n : Nat) (xs : List UInt8) (hs : a.eval s = v) (hown : BOwns w base v n xs)
    (A : Option Addr) (m c : Nat) (ys : List UInt8) (hx : a.eval x = .slice A m c) (hr : Byt w (.slice A m c) ys) (h63 : n + m ≤ 1000000) (hbase : base ≤ w.heap.size)
    (w0 : World) (hb : Below w0.heap.size w0 w) (hB : w0.heap.size ≤ base)
    (h : ∀ v' w', BOwns w' base v' (n + m) (xs ++ ys) → Below w0.heap.size w0 w' → w.grownBy w' v.ownBlock → wpList Try.prog ops Q rest (a.put o.dst v') w') : wpList Try.prog ops Q (o :: rest) a w :=
  wpList_plain hgd fun _ hK => wp_bapp s x ho base v n xs hs hown A m c ys hx hr h63 hbase w0 hb hB fun v' w' h2 h3 h4 => hK _ _ (h v' w' h2 h3 h4)
theorem Box.grown {w w' : World} {b : Nat} {x y : Value} {t : TypeId} {row : Option Nat} (h : Box w b x y t) (hg : w.grownBy w' row) (hne : some b ≠ row) : Box w' b x y t := (hg.block b h.lt hne).trans h
end Go.Proofs.Ytnjmhgbdhekmdaa

/- Contracts of the document's UShow and Show. -/
namespace Go.Proofs.Ytnjmhgbdhekmdaa
open Go.RowKit
set_option linter.unusedVariables false
set_option linter.unusedSimpArgs false

/-- What is there yet of a number's text, and what comes ahead of it. -/
def Rest (b u0 u : Nat) (l : List UInt8) : Prop := (b ≤ u → usF b u0 = usF b (u / b) ++ l) ∧ (u < b → usF b u0 = l)
theorem us_le {b : Nat} (h2 : 2 ≤ b) : ∀ j u, u < 2 ^ (j + 1) → (usF b u).length ≤ j + 1 := by
  intro j
  induction j with
  | zero =>
    intro u hu
    rw [usF_low (by omega)]
    simp
  | succ j ih =>
    intro u hu
    by_cases h : b ≤ u
    · rw [usF_big h2 h, List.length_append]
      have hd : u / b < 2 ^ (j + 1) := by
        rw [Nat.div_lt_iff_lt_mul (by omega)]
        have e : 2 ^ (j + 1 + 1) = 2 ^ (j + 1) * 2 := Nat.pow_succ _ _
        have : 2 ^ (j + 1) * 2 ≤ 2 ^ (j + 1) * b := Nat.mul_le_mul_left _ h2
        omega
      have := ih _ hd
      simp
      omega
    · rw [usF_low (by omega)]
      simp
theorem Rest.len {b u0 u : Nat} {l : List UInt8} (h2 : 2 ≤ b) (h : Rest b u0 u l) (h0 : u0 < 18446744073709551616) : l.length ≤ 64 := by
  have hl := us_le h2 63 u0 (by omega)
  by_cases hu : b ≤ u
  · rw [h.1 hu, List.length_append] at hl
    omega
  · rw [h.2 (by omega)] at hl
    exact hl
theorem cat_ok {a b : List UInt8} (h : a.length + b.length ≤ 9223372036854775807) : ¬ (9223372036854775807 < (strB a).size + (strB b).size) := by
  rw [strB_size, strB_size]
  omega
theorem alloc_then {w w1 : World} {o : Obj} (b : Below w.heap.size w w1) : Below w.heap.size w (w1.alloc o) := b.alloc b.size o

end Go.Proofs.Ytnjmhgbdhekmdaa

/- A contract of the document's Parse. -/
namespace Go.Proofs.Ytnjmhgbdhekmdaa
open Go.RowKit
set_option linter.unusedVariables false
set_option linter.unusedSimpArgs false

theorem drop_cons {l : List UInt8} {i : Nat} (h : i < l.length) : l.drop i = l[i] :: l.drop (i + 1) := List.drop_eq_getElem_cons h
theorem u8_ne {c : UInt8} {k : Nat} (hk : k < 256) (h : c ≠ UInt8.ofNat k) : ((c.toNat : Int) == (k : Int)) = false := by
  have : c.toNat ≠ k := by
    intro e
    apply h
    rw [← e]
    simp
  simp
  omega
theorem ret_pair {a c : Int} {b d : Bool} (h : a = c) (g : b = d) : Ending.returned (.tuple #[.int .i64 a, .bool b]) = .returned (.tuple #[.int .i64 c, .bool d]) := by rw [h, g]
theorem ix_at (l : List UInt8) (i : Nat) (c : UInt8) (h : l[i]? = some c) : ∀ w, (Instr.index 9 (.string (strB l)) (.int .i64 (i : Int))).run Try.prog w = .ok (.int .u8 (c.toNat : Int)) w := by
  intro w
  have hi := (List.getElem?_eq_some_iff.1 h).1
  have := run_ix l i hi w
  rw [(List.getElem?_eq_some_iff.1 h).2] at this
  exact this
theorem ix_0 {l : List UInt8} {c : UInt8} (h : l[0]? = some c) : ∀ w, (Instr.index 9 (.string (strB l)) (.int .i64 0)).run Try.prog w = .ok (.int .u8 (c.toNat : Int)) w := ix_at l 0 c h
theorem ix_1 {l : List UInt8} {c : UInt8} (h : l[1]? = some c) : ∀ w, (Instr.index 9 (.string (strB l)) (.int .i64 1)).run Try.prog w = .ok (.int .u8 (c.toNat : Int)) w := ix_at l 1 c h
end Go.Proofs.Ytnjmhgbdhekmdaa

/- Rows of words (api.Word); append to one that the call made. -/
namespace Go.Proofs.Ytnjmhgbdhekmdaa
open Go.RowKit
set_option linter.unusedVariables false
set_option linter.unusedSimpArgs false

theorem drewN_belowW (w : World) (n : Nat) : Below w.heap.size w (w.drewN n) := ⟨rfl, rfl, rfl, Nat.le_refl _, fun _ _ => rfl⟩
theorem info_word : (Try.prog.info? 30).map (fun i => (i.zero, i.size, i.bytes)) = some (some (.agg #[.string ⟨#[]⟩, .int .i64 0, .int .i64 0]), 3, 32) := by kernel_rfl
/-- A word: its name, its Xt, its flags. -/
structure Wr where
  nm : List UInt8
  xt : Int
  fl : Int
  deriving DecidableEq
def wcell (q : Wr) : List Value := [.string (strB q.nm), .int .i64 q.xt, .int .i64 q.fl]
def wds (l : List Wr) : List Value := l.flatMap wcell
theorem wds_cons (q : Wr) (l : List Wr) : wds (q :: l) = .string (strB q.nm) :: .int .i64 q.xt :: .int .i64 q.fl :: wds l := rfl
theorem wds_len (l : List Wr) : (wds l).length = l.length * 3 := by
  induction l with
  | nil => rfl
  | cons q l ih => rw [wds_cons]; simp [ih]; omega
theorem wds_one (l : List Wr) : ∀ v ∈ wds l, v.oneCell' = true := by
  intro v hv
  unfold wds at hv
  rw [List.mem_flatMap] at hv
  obtain ⟨q, _, hv⟩ := hv
  unfold wcell at hv
  simp at hv
  rcases hv with rfl | rfl | rfl <;> rfl
theorem wds_app (a b : List Wr) : wds (a ++ b) = wds a ++ wds b := by simp [wds]
theorem wds_at {l : List Wr} : ∀ {j : Nat} (h : j < l.length), (wds l)[3 * j]? = some (.string (strB l[j].nm)) ∧ (wds l)[3 * j + 1]? = some (.int .i64 l[j].xt) ∧ (wds l)[3 * j + 2]? = some (.int .i64 l[j].fl) := by
  induction l with
  | nil => intro j h; simp at h
  | cons q l ih =>
    intro j h
    rw [wds_cons]
    cases j with
    | zero => exact ⟨rfl, rfl, rfl⟩
    | succ j =>
      have := ih (j := j) (by simpa using h)
      rw [show 3 * (j + 1) = 3 * j + 1 + 1 + 1 by omega]
      simpa using this
theorem wds_drop (l : List Wr) : ∀ k, wds (l.drop k) = (wds l).drop (3 * k) := by
  induction l with
  | nil => intro k; simp [wds]
  | cons q l ih =>
    intro k
    cases k with
    | zero => simp
    | succ k => rw [wds_cons, show 3 * (k + 1) = 3 * k + 1 + 1 + 1 by omega]; simpa using ih k
theorem wds_take (l : List Wr) : ∀ k, wds (l.take k) = (wds l).take (3 * k) := by
  induction l with
  | nil => intro k; simp [wds]
  | cons q l ih =>
    intro k
    cases k with
    | zero => simp [wds]
    | succ k => rw [wds_cons, show 3 * (k + 1) = 3 * k + 1 + 1 + 1 by omega]; simp [wds_cons, ih k]
/-- A slice of words. -/
def Wds (w : World) (v : Value) (l : List Wr) : Prop := ∃ A c, v = .slice A l.length c ∧ l.length ≤ c ∧ c ≤ maxLen ∧ Lies w A (wds l)
theorem Wds.keep {w w' : World} {v : Value} {l : List Wr} (h : Wds w v l) (b : Below w.heap.size w w') : Wds w' v l := by
  obtain ⟨A, c, h1, h2, h3, h4⟩ := h
  exact ⟨A, c, h1, h2, h3, h4.keep b⟩
theorem wds_nil (w : World) : Wds w (.slice none 0 0) [] := ⟨none, 0, rfl, Nat.le_refl _, Nat.zero_le _, .inl rfl⟩
theorem wds_block {w : World} {g : Nat} {l : List Wr} {t : TypeId} (h : w.heap[g]? = some (.cells (wds l).toArray t (0, 0))) (hl : l.length ≤ 65536) : Wds w (.slice (some ⟨g, 0, none⟩) l.length l.length) l :=
  ⟨_, _, rfl, Nat.le_refl _, by unfold maxLen; omega, lies_block h⟩
theorem Wds.len {w : World} {A : Option Addr} {n c : Nat} {l : List Wr} (h : Wds w (.slice A n c) l) : l.length = n := by
  obtain ⟨A', c', e, _⟩ := h
  injection e with _ e _
  exact e.symm
theorem Wds.lies {w : World} {A : Option Addr} {n c : Nat} {l : List Wr} (h : Wds w (.slice A n c) l) : Lies w A (wds l) := by
  obtain ⟨A', c', e, _, _, hl⟩ := h
  injection e with e _ _
  subst e
  exact hl
theorem wds_slice {w : World} {v : Value} {l : List Wr} (h : Wds w v l) : ∃ A n c, v = .slice A n c := by
  obtain ⟨A, c, e, _⟩ := h
  exact ⟨A, _, c, e⟩
theorem wds_cell {w : World} {A : Option Addr} {n c : Nat} {l : List Wr} (h : Wds w (.slice A n c) l) {k : Nat} (hk : k < l.length) : ∃ g o, A = some ⟨g, o, none⟩ ∧ w.cell? ⟨g, o + k * 3, none⟩ = some (.string (strB l[k].nm)) ∧ w.cell? ⟨g, o + k * 3 + 1, none⟩ = some (.int .i64 l[k].xt) ∧ w.cell? ⟨g, o + k * 3 + 2, none⟩ = some (.int .i64 l[k].fl) := by
  rcases h.lies with h | ⟨g, o, e, _, hc⟩
  · have := congrArg List.length h
    rw [wds_len] at this
    have h0 : l.length * 3 = 0 := this
    omega
  · obtain ⟨h1, h2, h3⟩ := wds_at hk
    have e1 : o + k * 3 = o + 3 * k := by omega
    have e2 : o + k * 3 + 1 = o + (3 * k + 1) := by omega
    have e3 : o + k * 3 + 2 = o + (3 * k + 2) := by omega
    exact ⟨g, o, e, by rw [e1]; exact hc _ _ h1, by rw [e2]; exact hc _ _ h2, by rw [e3]; exact hc _ _ h3⟩

/-- A value that owns a row of words. -/
abbrev WOwns (w : World) (base : Nat) (v : Value) (n : Nat) (l : List Wr) : Prop := w.ownsRow base 30 3 v n (wds l)
theorem WOwns.wds {w : World} {base n : Nat} {v : Value} {l : List Wr} (h : WOwns w base v n l) : Wds w v l := by
  have hl := h.1
  rw [wds_len] at hl
  have hl : l.length = n := by omega
  subst hl
  rcases h.2 with ⟨rfl, h0⟩ | ⟨g, cap, cur, rfl, _, hg, hnc, hcm, _, ht⟩
  · have : l = [] := List.eq_nil_of_length_eq_zero h0
    subst this
    exact wds_nil w
  · refine ⟨some ⟨g, 0, none⟩, cap, rfl, hnc, hcm, .inr ⟨g, 0, rfl, (Array.getElem?_eq_some_iff.1 hg).1, fun j x hx => ?_⟩⟩
    rw [← ht, List.getElem?_take] at hx
    split at hx
    · rw [Nat.zero_add]
      simp [World.cell?, hg]
      simpa using hx
    · cases hx
theorem WOwns.alloc {w : World} {base n : Nat} {v : Value} {l : List Wr} (h : WOwns w base v n l) (o : Obj) : WOwns (w.alloc o) base v n l := World.ownsRow.alloc h o
theorem WOwns.keep {w w' : World} {base n : Nat} {v : Value} {l : List Wr} (h : WOwns w base v n l) (b : Below w.heap.size w w') : WOwns w' base v n l := by
  refine ⟨h.1, ?_⟩
  rcases h.2 with h2 | ⟨g, cap, cur, e, hb, hg, h3, h4, h5, h6⟩
  · exact .inl h2
  · exact .inr ⟨g, cap, cur, e, hb, (b.block g (Array.getElem?_eq_some_iff.1 hg).1).trans hg, h3, h4, h5, h6⟩
theorem wowns_none (w : World) (base : Nat) : WOwns w base (.slice none 0 0) 0 [] := ⟨rfl, .inl ⟨rfl, rfl⟩⟩
theorem none_wowns (w : World) : WOwns (w.alloc (.cells #[] 30)) w.heap.size (.slice (some ⟨w.heap.size, 0, none⟩) 0 0) 0 [] := World.ownsRow_lit w #[] 0 (Nat.le_refl _) (by unfold maxLen; omega) rfl
theorem wds_newone (w : World) (q : Wr) : Wds (w.alloc (.cells #[.string (strB q.nm), .int .i64 q.xt, .int .i64 q.fl] 30)) (.slice (some ⟨w.heap.size, 0, none⟩) 1 1) [q] := wds_block (l := [q]) (one_newN w _ _) (by simp)
theorem wown_app {w : World} {base : Nat} {v : Value} {l : List Wr} {x : Wr} (h : WOwns w base v (l.length + 1) (l ++ [x])) : WOwns w base v (l ++ [x]).length (l ++ [x]) := by
  have e : (l ++ [x]).length = l.length + 1 := by simp
  rw [e]; exact h
theorem wown_from {w : World} {base e size n : Nat} {v : Value} {xs : List Value} (h : w.ownsRow base e size v n xs) : ∀ k, v.ownBlock = some k → base ≤ k := fun k hk => (h.lt k hk).1

set_option maxRecDepth 100000 in
theorem run_wapp {w : World} (ty : TypeId) {base n : Nat} {v : Value} {xs : List Wr} (hown : WOwns w base v n xs) {A : Option Addr} {m c : Nat} {ys : List Wr} (hr : Wds w (.slice A m c) ys) (h63 : n + m ≤ 1000000) (hbase : base ≤ w.heap.size) :
    ∃ v' w', (Builtin.append_ #[22, 22] ty #[v, .slice A m c]).run Try.prog w = .ok v' w' ∧ WOwns w' base v' (n + m) (xs ++ ys) ∧ w.grownBy w' v.ownBlock := by
  obtain ⟨i0, hi, hz0, hz1, hz2⟩ := info_parts info_word
  have h1 := hr.len
  have h4 := hr.lies
  cases A with
  | some ad =>
    have hsrc : ∀ j u, (wds ys)[j]? = some u → w.cell? (ad.add j) = some u := by
      intro j u hu
      rcases h4 with h4 | ⟨g, o, e, _, hc⟩
      · rw [h4] at hu; simp at hu
      · injection e with e
        rw [e, add_at]
        exact hc j u hu
    obtain ⟨v', w', ha, hb, hc, _⟩ := run_append_own (P := Try.prog) w base 22 ty 30 i0 (.agg #[.string ⟨#[]⟩, .int .i64 0, .int .i64 0]) 3 32 Try.underlying22 hi hz0 hz1 hz2 rfl (by decide) v n (wds xs) hown ad m c (wds ys) (by rw [wds_len, h1]) hsrc (wds_one ys) (by unfold maxLen; omega) (by omega) hbase
    exact ⟨v', w', ha, by have e := wds_app xs ys; unfold WOwns; rw [e]; exact hb, hc⟩
  | none =>
    have hnil : ys = [] := by
      rcases h4 with h | ⟨_, _, h, _⟩
      · have := congrArg List.length h
        rw [wds_len] at this
        have h0 : ys.length * 3 = 0 := this
        exact List.eq_nil_of_length_eq_zero (by omega)
      · cases h
    subst hnil
    have hm : m = 0 := by rw [← h1]; rfl
    subst hm
    refine ⟨v, w, ?_, by simpa using hown, World.grownBy.refl w _⟩
    rcases hown.2 with ⟨rfl, rfl⟩ | ⟨g, cap, cur, rfl, _, _, hnc, _⟩
    · simp [Builtin.append_, run_underlying Try.underlying22, sizeOf, typeInfo, hi, Builtin.lenOf, Builtin.firstCells]
    · simp [Builtin.append_, run_underlying Try.underlying22, sizeOf, typeInfo, hi, Builtin.lenOf, Builtin.firstCells, hnc, storeCells]
theorem wapp_below {w0 w w' : World} {base n : Nat} {v : Value} {xs : List Wr} (hown : WOwns w base v n xs) (hb : Below w0.heap.size w0 w) (hg : w.grownBy w' v.ownBlock) (hB : w0.heap.size ≤ base) : Below w0.heap.size w0 w' :=
  hb.grown hg hb.size (fun k hk => Nat.le_trans hB (wown_from hown k hk))
theorem wp_wapp {o : Oper} {a : Act} {K : Act → World → Prop} {Q : Exit → Act → World → Prop} {w : World} (s x : Operand)
    (ho : o.op = .call { callee := .builtin .append, args := #[s, x], argTypes := #[22, 22] })
    (base : Nat) (v : Value) (n : Nat) (xs : List Wr) (hs : a.eval s = v) (hown : WOwns w base v n xs)
    (A : Option Addr) (m c : Nat) (ys : List Wr) (hx : a.eval x = .slice A m c) (hr : Wds w (.slice A m c) ys) (h63 : n + m ≤ 1000000) (hbase : base ≤ w.heap.size)
    (w0 : World) (hb : Below w0.heap.size w0 w) (hB : w0.heap.size ≤ base)
    (h : ∀ v' w', WOwns w' base v' (n + m) (xs ++ ys) → Below w0.heap.size w0 w' → w.grownBy w' v.ownBlock → K (a.put o.dst v') w') : o.wp Try.prog a w K Q := by
  obtain ⟨v', w', hr, h2, h3⟩ := run_wapp o.type hown hr h63 hbase
  unfold Oper.wp execOp
  simp only [ho, resolve, invoke, builtin, Sem.run_bind, Sem.run_pure, Result.andThen_ok, List.map_toArray, List.map_cons, List.map_nil, hs, hx, hr]
  exact h v' w' h2 (wapp_below hown hb h3 hB) h3
theorem wpList_wapp {ops : Array Oper} {rest : List Oper} {o : Oper} {a : Act} {Q : Exit → Act → World → Prop} {w : World} (hgd : o.guard = none) (s x : Operand)
    (ho : o.op = .call { callee := .builtin .append, args := #[s, x], argTypes := #[22, 22] })
    (base : Nat) (v : Value) (n : Nat) (xs : List Wr) (hs : a.eval s = v) (hown : WOwns w base v n xs)
    (A : Option Addr) (m c : Nat) (ys : List Wr) (hx : a.eval x = .slice A m c) (hr : Wds w (.slice A m c) ys) (h63 : n + m ≤ 1000000) (hbase : base ≤ w.heap.size)
    (w0 : World) (hb : Below w0.heap.size w0 w) (hB : w0.heap.size ≤ base)
    (h : ∀ v' w', WOwns w' base v' (n + m) (xs ++ ys) → Below w0.heap.size w0 w' → w.grownBy w' v.ownBlock → wpList Try.prog ops Q rest (a.put o.dst v') w') : wpList Try.prog ops Q (o :: rest) a w :=
  wpList_plain hgd fun _ hK => wp_wapp s x ho base v n xs hs hown A m c ys hx hr h63 hbase w0 hb hB fun v' w' h2 h3 h4 => hK _ _ (h v' w' h2 h3 h4)
theorem wpList_wapp_w {ops : Array Oper} {rest : List Oper} {o : Oper} {a : Act} {Q : Exit → Act → World → Prop} {w : World} (hw : Region.wanted o (yielded ops a.tmps) = true) (s x : Operand)
    (ho : o.op = .call { callee := .builtin .append, args := #[s, x], argTypes := #[22, 22] })
    (base : Nat) (v : Value) (n : Nat) (xs : List Wr) (hs : a.eval s = v) (hown : WOwns w base v n xs)
    (A : Option Addr) (m c : Nat) (ys : List Wr) (hx : a.eval x = .slice A m c) (hr : Wds w (.slice A m c) ys) (h63 : n + m ≤ 1000000) (hbase : base ≤ w.heap.size)
    (w0 : World) (hb : Below w0.heap.size w0 w) (hB : w0.heap.size ≤ base)
    (h : ∀ v' w', WOwns w' base v' (n + m) (xs ++ ys) → Below w0.heap.size w0 w' → w.grownBy w' v.ownBlock → wpList Try.prog ops Q rest (a.put o.dst v') w') : wpList Try.prog ops Q (o :: rest) a w :=
  wpList_step fun K hK => by
    rw [if_pos hw]
    exact wp_wapp s x ho base v n xs hs hown A m c ys hx hr h63 hbase w0 hb hB fun v' w' h2 h3 h4 => hK _ _ (h v' w' h2 h3 h4)
theorem step_wapp {ops : Array Oper} {o : Oper} {a : Act} {K : Act → World → Prop} {Q : Exit → Act → World → Prop} {E : Prop} {w : World} (hgd : o.guard = none) (s x : Operand)
    (ho : o.op = .call { callee := .builtin .append, args := #[s, x], argTypes := #[22, 22] })
    (base : Nat) (v : Value) (n : Nat) (xs : List Wr) (hs : a.eval s = v) (hown : WOwns w base v n xs)
    (A : Option Addr) (m c : Nat) (ys : List Wr) (hx : a.eval x = .slice A m c) (hr : Wds w (.slice A m c) ys) (h63 : n + m ≤ 1000000) (hbase : base ≤ w.heap.size)
    (w0 : World) (hb : Below w0.heap.size w0 w) (hB : w0.heap.size ≤ base)
    (h : ∀ v' w', WOwns w' base v' (n + m) (xs ++ ys) → Below w0.heap.size w0 w' → w.grownBy w' v.ownBlock → K (a.put o.dst v') w') :
    if Region.wanted o (yielded ops a.tmps) = true then Oper.wp Try.prog o a w K Q else E := by
  have hw : Region.wanted o (yielded ops a.tmps) = true := by simp [Region.wanted, hgd]
  rw [if_pos hw]
  exact wp_wapp s x ho base v n xs hs hown A m c ys hx hr h63 hbase w0 hb hB h
end Go.Proofs.Ytnjmhgbdhekmdaa

/- What the calls of package lex answer, as plain functions, by the document's own words. -/
namespace Go.Proofs.Ytnjmhgbdhekmdaa
open Go.RowKit
set_option linter.unusedVariables false
set_option linter.unusedSimpArgs false

/-- A sign that is no blank. -/
def solid (c : UInt8) : Bool := decide (32 < c.toNat)
theorem solid_yes {c : UInt8} (h : 32 < c.toNat) : solid c = true := by unfold solid; simpa using h
theorem solid_no {c : UInt8} (h : ¬ 32 < c.toNat) : solid c = false := by unfold solid; simpa using h
/-- The first word; and what is behind the blank behind it. -/
def wordW : List UInt8 → List UInt8
  | [] => []
  | c :: r => if solid c = true then c :: r.takeWhile solid else wordW r
def wordT : List UInt8 → List UInt8
  | [] => []
  | c :: r => if solid c = true then (r.dropWhile solid).drop 1 else wordT r
/-- Up to a sign. -/
def notC (c x : UInt8) : Bool := decide (x ≠ c)
def uptoW (r : List UInt8) (c : UInt8) : List UInt8 := r.takeWhile (notC c)
/-- Great letters. -/
def upC (c : UInt8) : UInt8 := if 97 ≤ c.toNat ∧ c.toNat ≤ 122 then c - 32 else c
def upperF (l : List UInt8) : List UInt8 := l.map upC
def alikeF (a b : List UInt8) : Bool := decide (upperF a = upperF b)

end Go.Proofs.Ytnjmhgbdhekmdaa

/- Rows of strings; append to one that the call made. -/
namespace Go.Proofs.Ytnjmhgbdhekmdaa
open Go.RowKit
set_option linter.unusedVariables false
set_option linter.unusedSimpArgs false

theorem drewN_below (w : World) (n : Nat) : Below w.heap.size w (w.drewN n) := ⟨rfl, rfl, rfl, Nat.le_refl _, fun _ _ => rfl⟩
def sts (l : List (List UInt8)) : List Value := l.map fun b => .string (strB b)
theorem sts_len (l : List (List UInt8)) : (sts l).length = l.length := by simp [sts]
/-- A slice of strings. -/
def Sts (w : World) (v : Value) (l : List (List UInt8)) : Prop := ∃ A c, v = .slice A l.length c ∧ l.length ≤ c ∧ c ≤ maxLen ∧ Lies w A (sts l)
theorem Sts.keep {w w' : World} {v : Value} {l : List (List UInt8)} (h : Sts w v l) (b : Below w.heap.size w w') : Sts w' v l := by
  obtain ⟨A, c, h1, h2, h3, h4⟩ := h
  exact ⟨A, c, h1, h2, h3, h4.keep b⟩
theorem sts_nil (w : World) : Sts w (.slice none 0 0) [] := ⟨none, 0, rfl, Nat.le_refl _, Nat.zero_le _, .inl rfl⟩
theorem Sts.len {w : World} {A : Option Addr} {n c : Nat} {l : List (List UInt8)} (h : Sts w (.slice A n c) l) : l.length = n := by
  obtain ⟨A', c', e, _⟩ := h
  injection e with _ e _
  exact e.symm
theorem Sts.lies {w : World} {A : Option Addr} {n c : Nat} {l : List (List UInt8)} (h : Sts w (.slice A n c) l) : Lies w A (sts l) := by
  obtain ⟨A', c', e, _, _, hl⟩ := h
  injection e with e _ _
  subst e
  exact hl
/-- A value that owns a row of strings. -/
abbrev SOwns (w : World) (base : Nat) (v : Value) (n : Nat) (l : List (List UInt8)) : Prop := w.ownsRow base 9 1 v n (sts l)
theorem SOwns.sts {w : World} {base n : Nat} {v : Value} {l : List (List UInt8)} (h : SOwns w base v n l) : Sts w v l := by
  have hl := h.1
  rw [sts_len, Nat.mul_one] at hl
  subst hl
  rcases h.2 with ⟨rfl, h0⟩ | ⟨g, cap, cur, rfl, _, hg, hnc, hcm, _, ht⟩
  · have : l = [] := List.eq_nil_of_length_eq_zero h0
    subst this
    exact sts_nil w
  · refine ⟨some ⟨g, 0, none⟩, cap, rfl, hnc, hcm, .inr ⟨g, 0, rfl, (Array.getElem?_eq_some_iff.1 hg).1, fun j x hx => ?_⟩⟩
    rw [← ht, List.getElem?_take] at hx
    split at hx
    · rw [Nat.zero_add]
      simp [World.cell?, hg]
      simpa using hx
    · cases hx
theorem SOwns.alloc {w : World} {base n : Nat} {v : Value} {l : List (List UInt8)} (h : SOwns w base v n l) (o : Obj) : SOwns (w.alloc o) base v n l := World.ownsRow.alloc h o
theorem SOwns.keep {w w' : World} {base n : Nat} {v : Value} {l : List (List UInt8)} (h : SOwns w base v n l) (b : Below w.heap.size w w') : SOwns w' base v n l := by
  refine ⟨h.1, ?_⟩
  rcases h.2 with h2 | ⟨g, cap, cur, e, hb, hg, h3, h4, h5, h6⟩
  · exact .inl h2
  · exact .inr ⟨g, cap, cur, e, hb, (b.block g (Array.getElem?_eq_some_iff.1 hg).1).trans hg, h3, h4, h5, h6⟩
end Go.Proofs.Ytnjmhgbdhekmdaa

/- Contracts of num's unmarked, quoted, of strings.CutPrefix by a minus, and of Parse. -/
namespace Go.Proofs.Ytnjmhgbdhekmdaa
open Go.RowKit
set_option linter.unusedVariables false
set_option linter.unusedSimpArgs false

theorem strB_tail (c : UInt8) (r : List UInt8) : (strB (c :: r)).extract 1 (strB (c :: r)).size = strB r := by
  apply ByteArray.ext
  rw [ByteArray.data_extract]
  simp [strB, strB_size, ByteArray.size]
theorem strB_first (c : UInt8) (r : List UInt8) : (strB (c :: r)).extract 0 1 = strB [c] := by
  apply ByteArray.ext
  rw [ByteArray.data_extract]
  simp [strB]

end Go.Proofs.Ytnjmhgbdhekmdaa

/- Plain facts on words. -/
namespace Go.Proofs.Ytnjmhgbdhekmdaa
open Go.RowKit
set_option linter.unusedVariables false
set_option linter.unusedSimpArgs false

/-- What a word is made of under way: u was read, rest is to come. -/
def WInv (R u rest : List UInt8) : Prop := (u = [] → wordW R = wordW rest ∧ wordT R = wordT rest) ∧ (u ≠ [] → wordW R = u ++ rest.takeWhile solid ∧ wordT R = (rest.dropWhile solid).drop 1)
theorem WInv.first (R : List UInt8) : WInv R [] R := ⟨fun _ => ⟨rfl, rfl⟩, fun h => absurd rfl h⟩
theorem WInv.sign {R u rest : List UInt8} {c : UInt8} (h : WInv R u (c :: rest)) (hc : solid c = true) : WInv R (u ++ [c]) rest := by
  refine ⟨fun e => by simp at e, fun _ => ?_⟩
  by_cases hu : u = []
  · obtain ⟨h1, h2⟩ := h.1 hu
    rw [h1, h2, hu]
    unfold wordW wordT
    rw [if_pos hc, if_pos hc]
    exact ⟨rfl, rfl⟩
  · obtain ⟨h1, h2⟩ := h.2 hu
    rw [h1, h2, List.takeWhile_cons, List.dropWhile_cons, if_pos hc, if_pos hc]
    simp
theorem WInv.blank {R u rest : List UInt8} {c : UInt8} (h : WInv R u (c :: rest)) (hc : solid c = false) (hu : u ≠ []) : wordW R = u ∧ wordT R = rest := by
  obtain ⟨h1, h2⟩ := h.2 hu
  rw [h1, h2, List.takeWhile_cons, List.dropWhile_cons, if_neg (by simp [hc]), if_neg (by simp [hc])]
  simp
theorem WInv.last {R u : List UInt8} (h : WInv R u []) : wordW R = u ∧ wordT R = [] := by
  by_cases hu : u = []
  · obtain ⟨h1, h2⟩ := h.1 hu
    rw [h1, h2, hu]
    exact ⟨rfl, rfl⟩
  · obtain ⟨h1, h2⟩ := h.2 hu
    rw [h1, h2]
    simp
theorem strB_cut (l : List UInt8) (a b : Nat) : (strB l).extract a b = strB ((l.drop a).take (b - a)) := by
  apply ByteArray.ext
  rw [ByteArray.data_extract]
  apply Array.toList_inj.1
  simp [strB, List.extract_eq_take_drop]
theorem strB_rest (l : List UInt8) (a : Nat) : (strB l).extract a (strB l).size = strB (l.drop a) := by
  rw [strB_cut, strB_size, List.take_of_length_le (by simp)]
theorem str_toList (l : List UInt8) : (strB l).toList = l := by
  rw [ByteArray.toList_eq]; rfl
theorem str_nil {l : List UInt8} (h : l ≠ []) : ¬ (strB l).toList = [] := by
  intro e
  apply h
  rw [str_toList] at e
  exact e
theorem str_emp {l : List UInt8} (h : l ≠ []) : (strB l).toList.isEmpty = false := by
  rw [str_toList]
  cases l with
  | nil => exact absurd rfl h
  | cons c r => rfl
/-- Up to a sign, under way: m signs were read. -/
def UInv (R : List UInt8) (c : UInt8) (m : Nat) : Prop := uptoW R c = R.take m ++ uptoW (R.drop m) c ∧ (c ∈ R ↔ c ∈ R.drop m)
theorem UInv.first (R : List UInt8) (c : UInt8) : UInv R c 0 := ⟨by simp, by simp⟩
theorem UInv.on {R : List UInt8} {c x : UInt8} {m : Nat} (h : UInv R c m) (hx : R[m]? = some x) (hne : x ≠ c) : UInv R c (m + 1) := by
  have hm := (List.getElem?_eq_some_iff.1 hx).1
  have e : R.drop m = x :: R.drop (m + 1) := by rw [List.drop_eq_getElem_cons hm, (List.getElem?_eq_some_iff.1 hx).2]
  obtain ⟨h1, h2⟩ := h
  rw [e] at h1 h2
  refine ⟨?_, ?_⟩
  · rw [h1, List.take_add_one, hx]
    unfold uptoW
    rw [List.takeWhile_cons, if_pos (by unfold notC; simpa using hne)]
    simp
  · rw [h2]
    simp
    intro e
    exact absurd e.symm hne
theorem UInv.found {R : List UInt8} {c : UInt8} {m : Nat} (h : UInv R c m) (hx : R[m]? = some c) : uptoW R c = R.take m ∧ c ∈ R ∧ (R.take m).length = m := by
  have hm := (List.getElem?_eq_some_iff.1 hx).1
  have e : R.drop m = c :: R.drop (m + 1) := by rw [List.drop_eq_getElem_cons hm, (List.getElem?_eq_some_iff.1 hx).2]
  obtain ⟨h1, h2⟩ := h
  rw [e] at h1 h2
  refine ⟨?_, h2.2 (by simp), by rw [List.length_take]; omega⟩
  rw [h1]
  unfold uptoW
  rw [List.takeWhile_cons, if_neg (by unfold notC; simp)]
  simp
theorem UInv.no {R : List UInt8} {c : UInt8} {m : Nat} (h : UInv R c m) (hm : R.length ≤ m) : uptoW R c = R ∧ ¬ c ∈ R := by
  obtain ⟨h1, h2⟩ := h
  rw [List.drop_eq_nil_of_le hm] at h1 h2
  refine ⟨?_, fun hc => by simpa using h2.1 hc⟩
  rw [h1, List.take_of_length_le hm]
  simp [uptoW]
theorem u8_int {a b : UInt8} (h : a ≠ b) : ((a.toNat : Int) == (b.toNat : Int)) = false ∧ (a.toNat == b.toNat) = false ∧ ¬ (a.toNat : Int) = (b.toNat : Int) := by
  have h1 : ¬ a.toNat = b.toNat := fun e => h (UInt8.toNat_inj.1 e)
  refine ⟨by simp; omega, by simpa using h1, by omega⟩
theorem dropW_suf (p : UInt8 → Bool) (r : List UInt8) : ∃ n, n ≤ r.length ∧ r.dropWhile p = r.drop n := by
  induction r with
  | nil => exact ⟨0, Nat.le_refl _, rfl⟩
  | cons c r ih =>
    rw [List.dropWhile_cons]
    split
    · obtain ⟨n, h1, h2⟩ := ih
      exact ⟨n + 1, by simp; omega, by rw [h2]; rfl⟩
    · exact ⟨0, Nat.zero_le _, rfl⟩
theorem wordT_suf (r : List UInt8) : ∃ n, n ≤ r.length ∧ wordT r = r.drop n := by
  induction r with
  | nil => exact ⟨0, Nat.le_refl _, rfl⟩
  | cons c r ih =>
    unfold wordT
    split
    · obtain ⟨n, h1, h2⟩ := dropW_suf solid r
      rw [h2, List.drop_drop]
      by_cases h : n + 1 ≤ r.length
      · exact ⟨n + 1 + 1, by simp; omega, by rw [List.drop_succ_cons]⟩
      · refine ⟨r.length + 1, by simp, ?_⟩
        rw [List.drop_eq_nil_of_le (by omega), List.drop_eq_nil_of_le (by simp)]
    · obtain ⟨n, h1, h2⟩ := ih
      exact ⟨n + 1, by simp; omega, by rw [h2]; rfl⟩
/-- A rest of a line. -/
def Rem (l R : List UInt8) : Prop := ∃ k, k ≤ l.length ∧ R = l.drop k
theorem Rem.all (l : List UInt8) : Rem l l := ⟨0, Nat.zero_le _, rfl⟩
theorem Rem.word {l R : List UInt8} (h : Rem l R) : Rem l (wordT R) := by
  obtain ⟨k, hk, rfl⟩ := h
  obtain ⟨n, h1, h2⟩ := wordT_suf (l.drop k)
  rw [List.length_drop] at h1
  exact ⟨k + n, by omega, by rw [h2, List.drop_drop]⟩
theorem Rem.drop {l R : List UInt8} (h : Rem l R) : l.drop (l.length - R.length) = R := by
  obtain ⟨k, hk, rfl⟩ := h
  rw [List.length_drop]
  congr 1
  omega
theorem upC_low {c : UInt8} (h1 : 97 ≤ c.toNat) (h2 : c.toNat ≤ 122) : ((upC c).toNat : Int) = (c.toNat : Int) - 32 := by
  unfold upC
  rw [if_pos ⟨h1, h2⟩]
  have : (c - 32).toNat = c.toNat - 32 := by
    rw [UInt8.toNat_sub_of_le]
    · rfl
    · show (32 : UInt8).toNat ≤ c.toNat
      have : (32 : UInt8).toNat = 32 := rfl
      omega
  omega
theorem upC_same {c : UInt8} (h : ¬ (97 ≤ c.toNat ∧ c.toNat ≤ 122)) : upC c = c := by unfold upC; rw [if_neg h]
theorem upper_step {l : List UInt8} {k : Nat} {c : UInt8} (h : l[k]? = some c) : upperF (l.take (k + 1)) = upperF (l.take k) ++ [upC c] := by
  unfold upperF
  rw [List.take_add_one, h]
  simp
theorem upper_len (l : List UInt8) : (upperF l).length = l.length := by unfold upperF; simp
end Go.Proofs.Ytnjmhgbdhekmdaa

/- Contracts of the document's Upper, Alike, Same. -/
namespace Go.Proofs.Ytnjmhgbdhekmdaa
open Go.RowKit
set_option linter.unusedVariables false
set_option linter.unusedSimpArgs false

set_option maxRecDepth 100000 in
set_option maxHeartbeats 4000000 in
theorem rupper_any (l : List UInt8) (w : World) (hl : l.length ≤ 100000) : Calls Try.prog 25 #[.string (strB l)] w fun e w' => e = .returned (.string (strB (upperF l))) ∧ Below w.heap.size w w' := by
  have hsz : (strB l).size = l.length := rfl
  go_enter Try.func25, Try.ntmps25
  go_wp2_with fail
  go_loopw [3, 4] (fun s3 s4 wr => ∃ (k : Nat), s3 = .string (strB (upperF (l.take k))) ∧ s4 = .int .i64 (k : Int) ∧ k ≤ l.length ∧ Hid (Below w.heap.size w wr)) (fun _ s4 _ => l.length - (intOf s4).toNat)
  case atStart => exact ⟨0, rfl, rfl, Nat.zero_le _, Lib.hid (Below.refl _ _)⟩
  case round =>
    obtain ⟨k, rfl, rfl, hk, HB⟩ := hrel
    by_cases hkl : k < l.length
    · have hkl' : (k : Int) < (l.length : Int) := by omega
      obtain ⟨c, hc⟩ : ∃ c, l[k]? = some c := ⟨_, List.getElem?_eq_getElem hkl⟩
      have ixk := ix_at l k c hc
      have HS := Lib.hid (upper_step hc)
      have hlen : (upperF (l.take k)).length = k := by rw [upper_len, List.length_take]; omega
      obtain ⟨u, eu⟩ : ∃ u, upperF (l.take k) = u := ⟨_, rfl⟩
      rw [eu] at HS hlen ⊢
      have hap : strB u ++ strB [upC c] = strB (u ++ [upC c]) := strB_app u [upC c]
      have hcat := cat_ok (a := u) (b := [upC c]) (by simp; omega)
      have hcv := conv_one (upC c) wr
      clear hc eu hlen
      by_cases h97 : 97 ≤ c.toNat
      · have g97 : (97 : Int) ≤ (c.toNat : Int) := by omega
        by_cases h122 : c.toNat ≤ 122
        · have g122 : (c.toNat : Int) ≤ 122 := by omega
          have hx := upC_low h97 h122
          have hx2 : ((c.toNat : Int) - 32) % 256 = ((upC c).toNat : Int) := by omega
          rw [hx] at hcv
          obtain ⟨x, ex⟩ : ∃ x, upC c = x := ⟨_, rfl⟩
          rw [ex] at hap hcat hcv hx hx2 HS
          have hx3 : ((c.toNat : Int) - 32) = (x.toNat : Int) := hx.symm
          rw [hx3] at hcv
          have hx4 : (x.toNat : Int) % 256 = (x.toNat : Int) := by have := x.toNat_lt; omega
          have hx5 : IntKind.u8.wrap (x.toNat : Int) = (x.toNat : Int) := by rw [IntKind.wrap_u8]; exact hx4
          clear ex h97 h122 hx hx2
          go_wp2_with fail
          go_roundw
          case rel => exact ⟨k + 1, by rw [HS.out], by simp, by omega, Lib.hid (alloc_then HB.out)⟩
          case measure => simp [intOf]; omega
        · have g122 : decide ((c.toNat : Int) ≤ 122) = false := by simp; omega
          rw [upC_same (by omega)] at hap hcat hcv HS
          clear h97 h122
          go_wp2_with fail
          go_roundw
          case rel => exact ⟨k + 1, by rw [HS.out], by simp, by omega, Lib.hid (alloc_then HB.out)⟩
          case measure => simp [intOf]; omega
      · have g97 : decide ((97 : Int) ≤ (c.toNat : Int)) = false := by simp; omega
        rw [upC_same (by omega)] at hap hcat hcv HS
        clear h97
        go_wp2_with fail
        go_roundw
        case rel => exact ⟨k + 1, by rw [HS.out], by simp, by omega, Lib.hid (alloc_then HB.out)⟩
        case measure => simp [intOf]; omega
    · obtain rfl : k = l.length := by omega
      have HT : Hid (l.take l.length = l) := List.take_length
      clear hkl hk
      go_wp2_with fail
      go_ret
      exact ⟨by rw [HT.out]; rfl, HB.out⟩

theorem alike_yes {a b : List UInt8} (h : upperF a = upperF b) : alikeF a b = true := by unfold alikeF; simpa using h
theorem alike_no {a b : List UInt8} (h : ¬ upperF a = upperF b) : alikeF a b = false := by unfold alikeF; simpa using h
set_option maxRecDepth 100000 in
theorem ralike_any (a b : List UInt8) (w : World) (ha : a.length ≤ 100000) (hb : b.length ≤ 100000) : Calls Try.prog 26 #[.string (strB a), .string (strB b)] w fun e w' => e = .returned (.bool (alikeF a b)) ∧ Below w.heap.size w w' := by
  have HA := Lib.hid (fun w => rupper_any a w ha)
  have HB := Lib.hid (fun w => rupper_any b w hb)
  clear ha hb
  by_cases he : upperF a = upperF b
  · have H : Hid (alikeF a b = true) := alike_yes he
    rw [H.out]
    rw [he] at HA
    clear he
    go_enter Try.func26, Try.ntmps26
    go_wp2_with fail
    refine (HA.out _).mono ?_
    rintro e w1 ⟨rfl, b1⟩
    go_wp2_with fail
    refine (HB.out _).mono ?_
    rintro e w2 ⟨rfl, b2⟩
    go_wp2_with fail
    go_ret
    exact ⟨rfl, below_then b1 b2⟩
  · have H : Hid (alikeF a b = false) := alike_no he
    have hne := str_ne (a := strB (upperF a)) (b := strB (upperF b)) (fun e => he (strB_inj e))
    rw [H.out]
    clear he
    go_enter Try.func26, Try.ntmps26
    go_wp2_with fail
    refine (HA.out _).mono ?_
    rintro e w1 ⟨rfl, b1⟩
    go_wp2_with fail
    refine (HB.out _).mono ?_
    rintro e w2 ⟨rfl, b2⟩
    go_wp2_with fail
    go_ret
    exact ⟨rfl, below_then b1 b2⟩

end Go.Proofs.Ytnjmhgbdhekmdaa

/- What the calls of package dict answer, as plain functions, by the document's own words. -/
namespace Go.Proofs.Ytnjmhgbdhekmdaa
open Go.RowKit
set_option linter.unusedVariables false
set_option linter.unusedSimpArgs false

/-- Why a name may not be; 0: it may. -/
def namedC (nm : List UInt8) : Int := if nm = [] then -16 else if 31 < nm.length then -19 else if nm.all solid = true then 0 else -32
def flagB (f : Int) : Bool := decide (0 ≤ f ∧ f ≤ 7)
theorem flagB_iff (f : Int) : flagB f = true ↔ (0 ≤ f ∧ f ≤ 7) := by unfold flagB; simp
theorem flagB_no (f : Int) : flagB f = false ↔ ¬ (0 ≤ f ∧ f ≤ 7) := by unfold flagB; rw [decide_eq_false_iff_not]
def wordB (q : Wr) : Bool := decide (namedC q.nm = 0) && flagB q.fl
def dRight (l : List Wr) : Bool := l.all wordB && decide (l.length ≤ 1024)
def dSame (a b : List Wr) : Bool := decide (a = b)
def dFew (l : List Wr) (most : Int) : Bool := decide ((l.length : Int) ≤ most) && l.all fun q => decide (q.nm.length ≤ 60)
/-- Hidden, by its flags. -/
def hidB (f : Int) : Bool := f / 2 % 2 == 1
/-- The last one of which p holds. -/
def lastI (p : Wr → Bool) : List Wr → Option Nat
  | [] => none
  | q :: r => match lastI p r with
    | some i => some (i + 1)
    | none => if p q = true then some 0 else none
theorem lastI_lt {p : Wr → Bool} {l : List Wr} {i : Nat} (h : lastI p l = some i) : i < l.length := by
  induction l generalizing i with
  | nil => cases h
  | cons q r ih =>
    unfold lastI at h
    split at h
    · rename_i k hk
      injection h with h
      have := ih hk
      simp
      omega
    · split at h
      · injection h with h; subst h; simp
      · cases h
theorem lastI_snoc (p : Wr → Bool) (l : List Wr) (q : Wr) : lastI p (l ++ [q]) = if p q = true then some l.length else lastI p l := by
  induction l with
  | nil => rfl
  | cons x l ih =>
    show (match lastI p (l ++ [q]) with | some i => some (i + 1) | none => _) = _
    rw [ih]
    by_cases h : p q = true
    · rw [if_pos h, if_pos h]; rfl
    · rw [if_neg h, if_neg h]; rfl
def w0 : Wr := ⟨[], 0, 0⟩
def seenP (nm : List UInt8) (q : Wr) : Bool := alikeF q.nm nm && !hidB q.fl
def findI (l : List Wr) (nm : List UInt8) : Option Nat := lastI (seenP nm) l
def ofI (l : List Wr) (xt : Int) : Option Nat := lastI (fun q => decide (q.xt = xt)) l
def gotW (l : List Wr) (i : Option Nat) : Wr := match i with | some i => l.getD i w0 | none => w0
def gotI (i : Option Nat) : Nat := i.getD 0
def roomB (l : List Wr) (limit : Int) : Bool := decide ((l.length : Int) < limit ∧ l.length < 1024)
def addC (l : List Wr) (nm : List UInt8) (fl limit : Int) : Int := if namedC nm ≠ 0 then namedC nm else if flagB fl = false then -24 else if roomB l limit = false then -8 else 0
def addL (l : List Wr) (nm : List UInt8) (xt fl limit : Int) : List Wr := if addC l nm fl limit = 0 then l ++ [⟨nm, xt, fl⟩] else l
def flgB (l : List Wr) (p fl : Int) : Bool := decide (0 ≤ p ∧ p < (l.length : Int)) && flagB fl
def flgC (l : List Wr) (p fl : Int) : Int := if flgB l p fl = true then 0 else -24
def flgL (l : List Wr) (p fl : Int) : List Wr := if flgB l p fl = true then l.set p.toNat { l.getD p.toNat w0 with fl := fl } else l
def cutB (l : List Wr) (n : Int) : Bool := decide (0 ≤ n ∧ n ≤ (l.length : Int))
def cutC (l : List Wr) (n : Int) : Int := if cutB l n = true then 0 else -24
def cutL (l : List Wr) (n : Int) : List Wr := if cutB l n = true then l.take n.toNat else l
end Go.Proofs.Ytnjmhgbdhekmdaa

/- Contracts of the document's named, hidden, Few, Right, Same. -/
namespace Go.Proofs.Ytnjmhgbdhekmdaa
open Go.RowKit
set_option linter.unusedVariables false
set_option linter.unusedSimpArgs false

theorem dall_take {p : UInt8 → Bool} {l : List UInt8} {k : Nat} {c : UInt8} (h : (l.take k).all p = true) (hc : l[k]? = some c) (hp : p c = true) : (l.take (k + 1)).all p = true := by
  rw [List.take_add_one, hc, List.all_append, h]
  simp [hp]
theorem dall_no {p : UInt8 → Bool} {l : List UInt8} {k : Nat} {c : UInt8} (hc : l[k]? = some c) (hp : p c = false) : l.all p = false := by
  rw [List.all_eq_false]
  exact ⟨c, List.mem_of_getElem? hc, by simp [hp]⟩
set_option maxRecDepth 100000 in
set_option maxHeartbeats 4000000 in
theorem rnamed_any (l : List UInt8) (w : World) : Calls Try.prog 27 #[.string (strB l)] w fun e w' => e = .returned (.int .i64 (namedC l)) ∧ w = w' := by
  have hsz : (strB l).size = l.length := rfl
  by_cases h0 : l = []
  · have H : Hid (namedC l = -16) := by show _ = _; unfold namedC; rw [if_pos h0]
    rw [H.out]
    subst h0
    have hsz0 : (strB []).size = 0 := rfl
    clear hsz
    go_enter Try.func27, Try.ntmps27
    go_wp2
    go_ret
    exact ⟨rfl, rfl⟩
  · have hl0 : ((l.length : Int) == 0) = false := by
      cases l with
      | nil => exact absurd rfl h0
      | cons c r => simp; omega
    by_cases h31 : 31 < l.length
    · have H : Hid (namedC l = -19) := by show _ = _; unfold namedC; rw [if_neg h0, if_pos h31]
      rw [H.out]
      have h31' : (31 : Int) < (l.length : Int) := by omega
      clear h0 h31
      go_enter Try.func27, Try.ntmps27
      go_wp2
      go_ret
      exact ⟨rfl, rfl⟩
    · have h31' : decide ((31 : Int) < (l.length : Int)) = false := by simp; omega
      have hl31 : l.length ≤ 31 := by omega
      have HC : Hid (namedC l = if l.all solid = true then 0 else -32) := by show _ = _; unfold namedC; rw [if_neg h0, if_neg h31]
      clear h0 h31
      go_enter Try.func27, Try.ntmps27
      go_wp2_with fail
      go_loopw [3] (fun s3 wr => ∃ (k : Nat), s3 = .int .i64 (k : Int) ∧ k ≤ l.length ∧ Hid ((l.take k).all solid = true) ∧ w = wr) (fun s3 _ => l.length - (intOf s3).toNat)
      case atStart => exact ⟨0, rfl, Nat.zero_le _, Lib.hid rfl, rfl⟩
      case round =>
        obtain ⟨k, rfl, hk, HT, rfl⟩ := hrel
        by_cases hkl : k < l.length
        · have hkl' : (k : Int) < (l.length : Int) := by omega
          obtain ⟨c, hc⟩ : ∃ c, l[k]? = some c := ⟨_, List.getElem?_eq_getElem hkl⟩
          have ixk := ix_at l k c hc
          by_cases h32 : 32 < c.toNat
          · have h32' : decide ((c.toNat : Int) ≤ 32) = false := by simp; omega
            have HN := Lib.hid (dall_take HT.out hc (solid_yes h32))
            clear hc h32 HT
            go_wp2_with fail
            go_roundw
            case rel => exact ⟨k + 1, by simp, by omega, HN, (by first | rfl | trivial)⟩
            case measure => simp [intOf]; omega
          · have h32' : (c.toNat : Int) ≤ 32 := by omega
            have HN := Lib.hid (dall_no hc (solid_no h32))
            have H : Hid (namedC l = -32) := by show _ = _; rw [HC.out, HN.out]; rfl
            clear hc h32 HT
            go_wp2_with fail
            go_ret
            exact ⟨by rw [H.out]; rfl, rfl⟩
        · obtain rfl : k = l.length := by omega
          rw [List.take_length] at HT
          have H : Hid (namedC l = 0) := by show _ = _; rw [HC.out, HT.out]; rfl
          clear hkl hk
          go_wp2_with fail
          go_ret
          exact ⟨by rw [H.out]; rfl, rfl⟩

set_option maxRecDepth 100000 in
theorem rhidden_any (q : Wr) (w : World) (h0 : 0 ≤ q.fl) (h1 : q.fl ≤ 7) : Calls Try.prog 35 #[.agg #[.string (strB q.nm), .int .i64 q.xt, .int .i64 q.fl]] w fun e w' => e = .returned (.bool (hidB q.fl)) ∧ Below w.heap.size w w' := by
  go_enter Try.func35, Try.ntmps35
  go_wp2_with fail
  go_ret
  exact ⟨rfl, al_one _ _⟩

set_option maxRecDepth 100000 in
set_option maxHeartbeats 4000000 in
theorem rfew_any (A : Option Addr) (n c : Nat) (l : List Wr) (most : Int) (w : World) (h : Wds w (.slice A n c) l) (hmost : most ≤ 1000) : Calls Try.prog 10 #[.slice A n c, .int .i64 most] w fun e w' => e = .returned (.bool (dFew l most)) ∧ Below w.heap.size w w' := by
  have hl := h.len
  subst hl
  by_cases hm : most < (l.length : Int)
  · have H : Hid (dFew l most = false) := by show _ = _; unfold dFew; rw [show decide ((l.length : Int) ≤ most) = false by simp; omega]; rfl
    rw [H.out]
    clear h
    go_enter Try.func10, Try.ntmps10
    go_wp2
    go_ret
    exact ⟨rfl, Below.refl _ _⟩
  · have hm' : decide (most < (l.length : Int)) = false := by simp; omega
    have hln : l.length ≤ 1000 := by omega
    have HF : Hid (dFew l most = l.all fun q => decide (q.nm.length ≤ 60)) := by show _ = _; unfold dFew; rw [show decide ((l.length : Int) ≤ most) = true by simp; omega]; rfl
    have HA := Lib.hid h
    clear h hm
    go_enter Try.func10, Try.ntmps10
    go_wp2_with fail
    go_loopw [5] (fun s5 wr => ∃ (k : Nat), s5 = .int .i64 (k : Int) ∧ k ≤ l.length ∧ Hid ((l.take k).all (fun q => decide (q.nm.length ≤ 60)) = true) ∧ Hid (Below w.heap.size w wr)) (fun s5 _ => l.length - (intOf s5).toNat)
    case atStart => exact ⟨0, rfl, Nat.zero_le _, Lib.hid rfl, Lib.hid (Below.refl _ _)⟩
    case round =>
      obtain ⟨k, rfl, hk, HT, HB⟩ := hrel
      by_cases hkl : k < l.length
      · have hkl' : (k : Int) < (l.length : Int) := by omega
        obtain ⟨g, o, hA, c1, c2, c3⟩ := wds_cell (HA.out.keep HB.out) hkl
        have hx : l[k]? = some l[k] := List.getElem?_eq_getElem hkl
        obtain ⟨q, eq⟩ : ∃ q, l[k] = q := ⟨_, rfl⟩
        rw [eq] at c1 c2 c3 hx
        have hqs : (strB q.nm).size = q.nm.length := rfl
        subst hA
        by_cases h60 : 60 < q.nm.length
        · have h60' : (60 : Int) < (q.nm.length : Int) := by omega
          have H : Hid (dFew l most = false) := by
            show _ = _
            rw [HF.out, List.all_eq_false]
            exact ⟨q, List.mem_of_getElem? hx, by simp; omega⟩
          clear hx eq h60 HT
          go_wp2_with fail
          go_ret
          exact ⟨by rw [H.out]; rfl, HB.out⟩
        · have h60' : decide ((60 : Int) < (q.nm.length : Int)) = false := by simp; omega
          have HN : Hid ((l.take (k + 1)).all (fun q => decide (q.nm.length ≤ 60)) = true) := by
            show _ = _
            rw [List.take_add_one, hx, List.all_append, HT.out]
            simp
            omega
          clear hx eq h60 HT
          go_wp2_with fail
          go_roundw
          case rel => exact ⟨k + 1, by simp, by omega, HN, HB⟩
          case measure => simp [intOf]; omega
      · obtain rfl : k = l.length := by omega
        rw [List.take_length] at HT
        have H : Hid (dFew l most = true) := by show _ = _; rw [HF.out, HT.out]
        clear hkl hk
        go_wp2_with fail
        go_ret
        exact ⟨by rw [H.out]; rfl, HB.out⟩
end Go.Proofs.Ytnjmhgbdhekmdaa

/- Plain facts on dictionaries. -/
namespace Go.Proofs.Ytnjmhgbdhekmdaa
open Go.RowKit
set_option linter.unusedVariables false
set_option linter.unusedSimpArgs false

theorem lastI_app (p : Wr → Bool) (a b : List Wr) : lastI p (a ++ b) = match lastI p b with | some i => some (a.length + i) | none => lastI p a := by
  induction a with
  | nil =>
    show lastI p b = _
    cases lastI p b with
    | none => rfl
    | some i => simp
  | cons q a ih =>
    show (match lastI p (a ++ b) with | some i => some (i + 1) | none => _) = _
    rw [ih]
    cases h : lastI p b with
    | none => rfl
    | some i => simp; omega
theorem lastI_cons_none {p : Wr → Bool} {q : Wr} {r : List Wr} (h : lastI p r = none) : lastI p (q :: r) = if p q = true then some 0 else none := by
  show (match lastI p r with | some i => some (i + 1) | none => _) = _
  rw [h]
theorem lastI_at {p : Wr → Bool} {l : List Wr} {k : Nat} {q : Wr} (hq : l[k]? = some q) (hp : p q = true) (h : lastI p (l.drop (k + 1)) = none) : lastI p l = some k := by
  have hk := (List.getElem?_eq_some_iff.1 hq).1
  have e : l = l.take k ++ (q :: l.drop (k + 1)) := by
    conv => lhs; rw [← List.take_append_drop k l]
    rw [List.drop_eq_getElem_cons hk, (List.getElem?_eq_some_iff.1 hq).2]
  rw [e, lastI_app, lastI_cons_none h, if_pos hp]
  simp
  omega
theorem lastI_step {p : Wr → Bool} {l : List Wr} {k : Nat} {q : Wr} (hq : l[k]? = some q) (hp : p q = false) (h : lastI p (l.drop (k + 1)) = none) : lastI p (l.drop k) = none := by
  have hk := (List.getElem?_eq_some_iff.1 hq).1
  rw [List.drop_eq_getElem_cons hk, (List.getElem?_eq_some_iff.1 hq).2, lastI_cons_none h, if_neg (by simp [hp])]
theorem gotW_at {l : List Wr} {k : Nat} {q : Wr} (hq : l[k]? = some q) : gotW l (some k) = q := by
  show l.getD k w0 = q
  rw [List.getD, hq]
  rfl
theorem right_all {l : List Wr} (h : dRight l = true) : ∀ q ∈ l, namedC q.nm = 0 ∧ 0 ≤ q.fl ∧ q.fl ≤ 7 := by
  intro q hq
  unfold dRight at h
  rw [Bool.and_eq_true, List.all_eq_true] at h
  have := h.1 q hq
  unfold wordB at this
  rw [Bool.and_eq_true, decide_eq_true_eq, flagB_iff] at this
  exact this
theorem few_facts {l : List Wr} (h : dFew l 60 = true) : l.length ≤ 60 ∧ ∀ q ∈ l, q.nm.length ≤ 60 := by
  unfold dFew at h
  rw [Bool.and_eq_true, List.all_eq_true, decide_eq_true_eq] at h
  refine ⟨by omega, fun q hq => ?_⟩
  have := h.2 q hq
  simpa using this
/-- A word in a block of its own. -/
def WBox (w : World) (b : Nat) (q : Wr) : Prop := w.heap[b]? = some (.cells #[.string (strB q.nm), .int .i64 q.xt, .int .i64 q.fl] 30 (0, 0))
theorem WBox.lt {w : World} {b : Nat} {q : Wr} (h : WBox w b q) : b < w.heap.size := (Array.getElem?_eq_some_iff.1 h).1
theorem WBox.keep {w w' : World} {b : Nat} {q : Wr} (h : WBox w b q) (k : Below w.heap.size w w') : WBox w' b q := (k.block b h.lt).trans h
theorem WBox.use {w : World} {b : Nat} {q : Wr} (h : WBox w b q) : w.cell? ⟨b, 0, none⟩ = some (.string (strB q.nm)) ∧ w.cell? ⟨b, 1, none⟩ = some (.int .i64 q.xt) ∧ w.cell? ⟨b, 2, none⟩ = some (.int .i64 q.fl) ∧ w.frozen? ⟨b, 0, none⟩ = false ∧ w.frozen? ⟨b, 1, none⟩ = false ∧ w.frozen? ⟨b, 2, none⟩ = false := by
  unfold WBox at h
  refine ⟨?_, ?_, ?_, ?_, ?_, ?_⟩ <;> simp [World.cell?, World.frozen?, h]
theorem wbox_new (w : World) (q : Wr) : WBox (w.alloc (.cells #[.string (strB q.nm), .int .i64 q.xt, .int .i64 q.fl] 30)) w.heap.size q := one_newN w _ _
theorem wbox_zero (w : World) : WBox (w.alloc (.cells #[.string ⟨#[]⟩, .int .i64 0, .int .i64 0] 30)) w.heap.size w0 := one_newN w _ _
theorem WBox.put {w : World} {b : Nat} {q : Wr} (h : WBox w b q) (q' : Wr) : WBox (((w.setCell ⟨b, 0, none⟩ (.string (strB q'.nm))).setCell ⟨b, 1, none⟩ (.int .i64 q'.xt)).setCell ⟨b, 2, none⟩ (.int .i64 q'.fl)) b q' := by
  have h1 := Go.Joins.block_setCell (i := 0) h (.string (strB q'.nm))
  have h2 := Go.Joins.block_setCell (i := 1) h1 (.int .i64 q'.xt)
  have h3 := Go.Joins.block_setCell (i := 2) h2 (.int .i64 q'.fl)
  simpa [WBox] using h3
theorem WBox.put0 {w : World} {b : Nat} {q : Wr} (h : WBox w b q) :
    (((w.setCell ⟨b, 0, none⟩ (.string ⟨#[]⟩)).setCell ⟨b, 1, none⟩ (.int .i64 0)).setCell ⟨b, 2, none⟩ (.int .i64 0)).cell? ⟨b, 0, none⟩ = some (.string ⟨#[]⟩) ∧
    (((w.setCell ⟨b, 0, none⟩ (.string ⟨#[]⟩)).setCell ⟨b, 1, none⟩ (.int .i64 0)).setCell ⟨b, 2, none⟩ (.int .i64 0)).cell? ⟨b, 1, none⟩ = some (.int .i64 0) ∧
    (((w.setCell ⟨b, 0, none⟩ (.string ⟨#[]⟩)).setCell ⟨b, 1, none⟩ (.int .i64 0)).setCell ⟨b, 2, none⟩ (.int .i64 0)).cell? ⟨b, 2, none⟩ = some (.int .i64 0) :=
  ⟨(h.put w0).use.1, (h.put w0).use.2.1, (h.put w0).use.2.2.1⟩
theorem below_wset {w0 w : World} {B : Nat} (h : Below B w0 w) {b : Nat} (hb : B ≤ b) (x y z : Value) : Below B w0 (((w.setCell ⟨b, 0, none⟩ x).setCell ⟨b, 1, none⟩ y).setCell ⟨b, 2, none⟩ z) :=
  ((h.setCell (p := ⟨b, 0, none⟩) hb x).setCell (p := ⟨b, 1, none⟩) hb y).setCell (p := ⟨b, 2, none⟩) hb z
end Go.Proofs.Ytnjmhgbdhekmdaa

/- Contracts of the document's Of. -/
namespace Go.Proofs.Ytnjmhgbdhekmdaa
open Go.RowKit
set_option linter.unusedVariables false
set_option linter.unusedSimpArgs false

/-- What Find and Of answer. -/
abbrev GotOut (q : Wr) (i : Nat) (b : Bool) (w : World) (e : Ending) (w' : World) : Prop := e = .returned (.tuple #[.agg #[.string (strB q.nm), .int .i64 q.xt, .int .i64 q.fl], .int .i64 (i : Int), .bool b]) ∧ Below w.heap.size w w'

set_option maxRecDepth 100000 in
set_option maxHeartbeats 4000000 in
theorem rof_any (A : Option Addr) (n c : Nat) (l : List Wr) (xt : Int) (w : World) (h : Wds w (.slice A n c) l) (hn : n ≤ 1000000) : Calls Try.prog 18 #[.slice A n c, .int .i64 xt] w (GotOut (gotW l (ofI l xt)) (gotI (ofI l xt)) (ofI l xt).isSome w) := by
  have hl := h.len
  subst hl
  have HA := Lib.hid h
  have HN : Hid (l.length ≤ 1000000) := hn
  have hw1 : wrap64 ((l.length : Int) - 1) = (l.length : Int) - 1 := w64_id (by omega) (by omega)
  clear h hn
  unfold GotOut
  go_enter Try.func18, Try.ntmps18
  go_wp2_with fail
  try rw [hw1]
  clear hw1
  obtain ⟨W, hW⟩ : ∃ W, w.alloc (.cells #[.string ⟨#[]⟩, .int .i64 0, .int .i64 0] 30) = W := ⟨_, rfl⟩
  have hB := al_one w (.cells #[.string ⟨#[]⟩, .int .i64 0, .int .i64 0] 30)
  have hX := wbox_zero w
  rw [hW] at hB hX
  have HX := Lib.hid hX
  have HB := Lib.hid hB
  have HW := Lib.hid hW
  rw [HW.out]
  clear hB hX hW
  go_loopw [7] (fun s7 wr => ∃ (k : Nat) (i : Int), s7 = .int .i64 i ∧ i = (k : Int) - 1 ∧ k ≤ l.length ∧ Hid (lastI (fun q => decide (q.xt = xt)) (l.drop k) = none) ∧ Hid (Below W.heap.size W wr)) (fun s7 _ => (intOf s7 + 1).toNat)
  case atStart => exact ⟨l.length, _, rfl, rfl, Nat.le_refl _, Lib.hid (by rw [List.drop_length]; rfl), Lib.hid (Below.refl _ _)⟩
  case round =>
    obtain ⟨k, i, rfl, hi, hk, HL, HB2⟩ := hrel
    have XZ := Lib.hid (HX.out.keep HB2.out)
    have HBB := Lib.hid (below_then HB.out HB2.out)
    obtain ⟨z0, z1, z2, z3, z4, z5⟩ := XZ.out.use
    have lz := XZ.out.lt
    cases k with
    | zero =>
      have hi1 : decide (0 ≤ i) = false := by simp; omega
      have H : Hid (ofI l xt = none) := by have := HL.out; rwa [List.drop_zero] at this
      clear hi HL hk
      go_wp2_with fail
      obtain ⟨r0, r1, r2⟩ := XZ.out.put0
      rw [H.out]
      refine bodyPost_ret (v := .tuple #[.agg #[.string ⟨#[]⟩, .int .i64 0, .int .i64 0], .int .i64 0, .bool false]) ?_ rfl ?_
      · first
          | (simp [results, Try.results18, go_sem, r0, r1, r2]; done)
          | (have r0' := r0; have r1' := r1; have r2' := r2; simp only [w0] at r0' r1' r2'; simp [results, Try.results18, go_sem, r0', r1', r2', w0]; done)
      · exact ⟨rfl, below_wset HBB.out (Nat.le_refl _) _ _ _⟩
    | succ k =>
      obtain rfl : i = (k : Int) := by omega
      have hkl : k < l.length := by omega
      obtain ⟨g, o, hA, c1, c2, c3⟩ := wds_cell (HA.out.keep (below_then HB.out HB2.out)) hkl
      have hx : l[k]? = some l[k] := List.getElem?_eq_getElem hkl
      obtain ⟨q, eq⟩ : ∃ q, l[k] = q := ⟨_, rfl⟩
      rw [eq] at c1 c2 c3 hx
      have hkl' : (k : Int) < (l.length : Int) := by omega
      have hln := HN.out
      subst hA
      by_cases hq : q.xt = xt
      · have H : Hid (ofI l xt = some k) := lastI_at hx (by simpa using hq) HL.out
        have HG : Hid (gotW l (some k) = q) := gotW_at hx
        subst hq
        have hq1 : ((q.xt : Int) == q.xt) = true := by simp
        clear hx eq HL hi hk
        go_wp2_with fail
        obtain ⟨r0, r1, r2, _, _, _⟩ := (XZ.out.put q).use
        rw [H.out, HG.out]
        refine bodyPost_ret (v := .tuple #[.agg #[.string (strB q.nm), .int .i64 q.xt, .int .i64 q.fl], .int .i64 (k : Int), .bool true]) ?_ rfl ?_
        · first
            | (simp [results, Try.results18, go_sem, r0, r1, r2]; done)
            | (have r0' := r0; have r1' := r1; have r2' := r2; simp only [w0] at r0' r1' r2'; simp [results, Try.results18, go_sem, r0', r1', r2', w0]; done)
        · exact ⟨rfl, below_wset HBB.out (Nat.le_refl _) _ _ _⟩
      · have hq1 : ((q.xt : Int) == xt) = false := by simpa using hq
        have HN2 := Lib.hid (lastI_step (p := fun q => decide (q.xt = xt)) hx (by simpa using hq) HL.out)
        clear hx eq HL hi hk
        go_wp2_with fail
        go_roundw
        case rel => exact ⟨k, _, rfl, (by first | rfl | exact w64_id (by omega) (by omega)), by omega, HN2, HB2⟩
        case measure => first | (simp [intOf]; done) | (simp [intOf]; omega) | (rw [w64_id (by omega) (by omega)]; simp [intOf])
end Go.Proofs.Ytnjmhgbdhekmdaa
