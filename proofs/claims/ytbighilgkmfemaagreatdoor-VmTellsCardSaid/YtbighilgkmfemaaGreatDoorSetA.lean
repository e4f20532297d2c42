/- What the laws of this stage lean on, part 1: MemSpec, Spec, MemBase, MemBytesA, MemBytesB, MemBytesC, MemLies, MemWalksA, MemWalksB, MemWalksC, MemWalksD, MemWalksE, MemRefA, MemRefP. -/
import Derived.Laws.CopyOwn
import Derived.RowKit
import Derived.IntWalk
import Derived.Laws.Bits64
import Derived.Test.YtbighilgkmfemaaGreatDoorRows
import Derived.WalkKit
import Derived.WalkSpells
import Derived.WalkLawsBesides
import Derived.Deep.QuietTactic
import Derived.BigQuiet
import Derived.Lib.Hide
import Derived.LoopN
import Derived.Laws.OwnMore
import Derived.OwnWalk
import Derived.Lib.SmallJoins
import Derived.Maps.AppendAt
import Derived.Deep.AppendLies

/- What the calls of package mem answer, as plain functions of lists, by the document's own words. -/
namespace Go.Proofs.YtbighilgkmfemaaGreatDoor
open Go.RowKit

/-- A patch: a place, and the bytes that stood there. A memory: its bytes, and its patches. -/
abbrev Pt := Int × List UInt8
abbrev PM := List UInt8 × List Pt

/-- Are n bytes at a place there, of L bytes? -/
def okB (L : Nat) (p n : Int) : Bool := decide (n = 0 ∨ 0 < n ∧ 0 ≤ p ∧ p ≤ (L : Int) - n)
theorem okB_iff (L : Nat) (p n : Int) : okB L p n = true ↔ (n = 0 ∨ 0 < n ∧ 0 ≤ p ∧ p ≤ (L : Int) - n) := by unfold okB; simp
theorem okB_no (L : Nat) (p n : Int) : okB L p n = false ↔ ¬ (n = 0 ∨ 0 < n ∧ 0 ≤ p ∧ p ≤ (L : Int) - n) := by unfold okB; rw [decide_eq_false_iff_not]

def codeF (b : Bool) : Int := if b then 0 else -9
def textF (m : PM) (p n : Int) : List UInt8 := if okB m.1.length p n then (m.1.drop p.toNat).take n.toNat else []
theorem textF_yes {m : PM} {p n : Int} (h : okB m.1.length p n = true) : textF m p n = (m.1.drop p.toNat).take n.toNat := by unfold textF; rw [if_pos h]
theorem textF_no {m : PM} {p n : Int} (h : okB m.1.length p n = false) : textF m p n = [] := by unfold textF; rw [if_neg (by simp [h])]
/-- Bytes that are laid into a row from a place on. -/
def layF (row : List UInt8) (p : Int) (b : List UInt8) : List UInt8 := splice row p.toNat b
theorem layF_none (row : List UInt8) (p : Int) : layF row p [] = row := by simp [layF, splice]
theorem layF_len {row b : List UInt8} {p : Int} (h : okB row.length p b.length = true) : (layF row p b).length = row.length := by
  rw [okB_iff] at h
  rcases h with h | h
  · have : b = [] := List.eq_nil_of_length_eq_zero (by omega)
    subst this
    rw [layF_none]
  · unfold layF
    exact length_splice _ _ _ (by omega)
theorem splice_map {α β : Type} (f : α → β) (l : List α) (o : Nat) (c : List α) : (splice l o c).map f = splice (l.map f) o (c.map f) := by
  simp [splice, List.map_take, List.map_drop]

def writeF (m : PM) (p : Int) (b : List UInt8) : PM := if okB m.1.length p b.length = true ∧ b ≠ [] then (layF m.1 p b, m.2 ++ [(p, textF m p b.length)]) else m
theorem writeF_yes {m : PM} {p : Int} {b : List UInt8} (h : okB m.1.length p b.length = true) (hb : b ≠ []) : writeF m p b = (layF m.1 p b, m.2 ++ [(p, textF m p b.length)]) := by unfold writeF; rw [if_pos ⟨h, hb⟩]
theorem writeF_no {m : PM} {p : Int} {b : List UInt8} (h : okB m.1.length p b.length = false) : writeF m p b = m := by unfold writeF; rw [if_neg (by simp [h])]
theorem writeF_nil {m : PM} {p : Int} : writeF m p [] = m := by unfold writeF; rw [if_neg (by simp)]

/-- Patches undone, the last one first. -/
def undo (ps : List Pt) (row : List UInt8) : List UInt8 := ps.foldr (fun q r => layF r q.1 q.2) row
def backOk (m : PM) (k : Int) : Bool := decide (0 ≤ k ∧ k ≤ (m.2.length : Int))
def backF (m : PM) (k : Int) : PM := if backOk m k = true then (undo (m.2.drop k.toNat) m.1, m.2.take k.toNat) else m
def backC (m : PM) (k : Int) : Int := if backOk m k = true then 0 else -24

def rightP (L : Nat) (q : Pt) : Bool := okB L q.1 q.2.length
def rightB (m : PM) : Bool := decide (m.1.length ≤ 65536) && decide (m.1.length % 8 = 0) && m.2.all (rightP m.1.length)
def fewB (m : PM) (most : Nat) : Bool := decide (m.1.length ≤ most) && decide (m.2.length ≤ 60) && m.2.all (fun q => decide (q.2.length ≤ 200))

/-- Why there is no cell at a place, or 0. -/
def cellC (L : Nat) (p : Int) : Int := if okB L p 8 = true then (if p % 8 = 0 then 0 else -23) else -9
def newOk (n : Int) : Bool := decide (8 ≤ n ∧ n ≤ 65536 ∧ n % 8 = 0)

end Go.Proofs.YtbighilgkmfemaaGreatDoor

/- What the calls of package cell answer, as plain functions of numbers, by the document's own words. -/
namespace Go.Proofs.YtbighilgkmfemaaGreatDoor
open Go.RowKit

/-- A cell, read without a sign. -/
def un (n : Int) : Nat := (IntKind.u64.wrap n).toNat
theorem un_cast (n : Int) : IntKind.u64.wrap n = (un n : Int) := by unfold un; rw [IntKind.wrap_u64]; omega
theorem un_mod (n : Int) : (un n : Int) = n % 18446744073709551616 := by rw [← un_cast, IntKind.wrap_u64]
theorem un_lt (n : Int) : un n < 18446744073709551616 := by have := un_mod n; omega
/-- Is the quotient that left this rest, rounded to 0, rounded up? -/
def leans (r d : Int) : Bool := r != 0 && (decide (r < 0) != decide (d < 0))

def dc (b : Int) : Int := if b = 0 then -10 else 0

/-- A pair with a sign. -/
def pr (lo hi : Int) : Int := (un lo : Int) + 18446744073709551616 * hi
def sok (lo hi d : Int) : Bool := d != 0 && decide (-9223372036854775808 ≤ (pr lo hi).tdiv d) && decide ((pr lo hi).tdiv d ≤ 9223372036854775807)
def sq (lo hi d : Int) : Int := if sok lo hi d then (pr lo hi).tdiv d else 0
def sr (lo hi d : Int) : Int := if sok lo hi d then (pr lo hi).tmod d else 0
def fok (lo hi d : Int) : Bool := sok lo hi d && !(leans (sr lo hi d) d && sq lo hi d == -9223372036854775808)
def fc (lo hi d : Int) : Int := if d = 0 then -10 else if fok lo hi d then 0 else -11

/-- The range of a cell. -/
def cellR (n : Int) : Prop := -9223372036854775808 ≤ n ∧ n ≤ 9223372036854775807
end Go.Proofs.YtbighilgkmfemaaGreatDoor

/- The head of the texts on layer 3: what each walk brings along. -/
namespace Go.Proofs.YtbighilgkmfemaaGreatDoor
open Go.RowKit

theorem ret_int {k : IntKind} {a b : Int} (h : a = b) : Ending.returned (.int k a) = .returned (.int k b) := by rw [h]
theorem ret_bool {a b : Bool} (h : a = b) : Ending.returned (.bool a) = .returned (.bool b) := by rw [h]
theorem ret_two {k l : IntKind} {a b c d : Int} (h : a = c) (g : b = d) : Ending.returned (.tuple #[.int k a, .int l b]) = .returned (.tuple #[.int k c, .int l d]) := by rw [h, g]
theorem ret_ib {k : IntKind} {a c : Int} {b d : Bool} (h : a = c) (g : b = d) : Ending.returned (.tuple #[.int k a, .bool b]) = .returned (.tuple #[.int k c, .bool d]) := by rw [h, g]
end Go.Proofs.YtbighilgkmfemaaGreatDoor

/- Contracts of gather and spread of package cell: a number out of its bytes, and its bytes. -/
namespace Go.Proofs.YtbighilgkmfemaaGreatDoor
open Go.RowKit

/-- A number's byte, the lowest first. -/
def byteOf (n i : Nat) : Nat := n / 256 ^ i % 256
theorem byteOf_lt (n i : Nat) : byteOf n i < 256 := Nat.mod_lt _ (by omega)

/-- The number of eight bytes, the lowest first. -/
def eight (x0 x1 x2 x3 x4 x5 x6 x7 : Nat) : Nat := x0 + x1 * 256 + x2 * 65536 + x3 * 16777216 + x4 * 4294967296 + x5 * 1099511627776 + x6 * 281474976710656 + x7 * 72057594037927936
theorem or_step (a b k : Nat) (ha : a < 2 ^ k) (hs : b * 2 ^ k + a < 18446744073709551616) : bits BinOp.or IntKind.u64 (a : Int) ((b : Int) * ((2 ^ k : Nat) : Int)) = ((a + b * 2 ^ k : Nat) : Int) := by
  rw [← Int.natCast_mul, bits_or_u64_nat _ _ (by omega) (by omega)]
  have := Nat.two_pow_add_eq_or_of_lt ha b
  rw [Nat.or_comm, Nat.mul_comm, ← this, Nat.mul_comm, Nat.add_comm]

set_option maxRecDepth 100000 in
set_option maxHeartbeats 1000000 in
theorem gather_core (x0 x1 x2 x3 x4 x5 x6 x7 N1 N2 N3 N4 N5 N6 N7 : Nat) (w : World) (h0 : x0 < 256) (h1 : x1 < 256) (h2 : x2 < 256) (h3 : x3 < 256) (h4 : x4 < 256) (h5 : x5 < 256) (h6 : x6 < 256) (h7 : x7 < 256)
    (e0 : bits BinOp.or IntKind.u64 0 (x0 : Int) = (x0 : Int)) (e1 : bits BinOp.or IntKind.u64 (x0 : Int) ((x1 : Int) * 256) = (N1 : Int)) (e2 : bits BinOp.or IntKind.u64 (N1 : Int) ((x2 : Int) * 65536) = (N2 : Int)) (e3 : bits BinOp.or IntKind.u64 (N2 : Int) ((x3 : Int) * 16777216) = (N3 : Int)) (e4 : bits BinOp.or IntKind.u64 (N3 : Int) ((x4 : Int) * 4294967296) = (N4 : Int)) (e5 : bits BinOp.or IntKind.u64 (N4 : Int) ((x5 : Int) * 1099511627776) = (N5 : Int)) (e6 : bits BinOp.or IntKind.u64 (N5 : Int) ((x6 : Int) * 281474976710656) = (N6 : Int)) (e7 : bits BinOp.or IntKind.u64 (N6 : Int) ((x7 : Int) * 72057594037927936) = (N7 : Int)) :
    Calls Tryz.prog 122 #[.agg #[.int .u8 (x0 : Int), .int .u8 (x1 : Int), .int .u8 (x2 : Int), .int .u8 (x3 : Int), .int .u8 (x4 : Int), .int .u8 (x5 : Int), .int .u8 (x6 : Int), .int .u8 (x7 : Int)]] w fun e w' => e = .returned (.int .u64 (N7 : Int)) ∧ Below w.heap.size w w' := by
  go_enter Tryz.func122, Tryz.ntmps122
  go_wp2
  refine wp_loop_rounds 9 ?_
  iterate 9 (rw [rounds_succ]; go_wp2)
  go_ret
  exact ⟨rfl, (Below.refl _ _).alloc (Nat.le_refl _) _⟩

theorem gather_any (x0 x1 x2 x3 x4 x5 x6 x7 : Nat) (w : World) (h0 : x0 < 256) (h1 : x1 < 256) (h2 : x2 < 256) (h3 : x3 < 256) (h4 : x4 < 256) (h5 : x5 < 256) (h6 : x6 < 256) (h7 : x7 < 256) :
    Calls Tryz.prog 122 #[.agg #[.int .u8 (x0 : Int), .int .u8 (x1 : Int), .int .u8 (x2 : Int), .int .u8 (x3 : Int), .int .u8 (x4 : Int), .int .u8 (x5 : Int), .int .u8 (x6 : Int), .int .u8 (x7 : Int)]] w fun e w' => e = .returned (.int .u64 (eight x0 x1 x2 x3 x4 x5 x6 x7 : Int)) ∧ Below w.heap.size w w' := by
  refine gather_core x0 x1 x2 x3 x4 x5 x6 x7 (x0 + x1 * 256) (x0 + x1 * 256 + x2 * 65536) (x0 + x1 * 256 + x2 * 65536 + x3 * 16777216) (x0 + x1 * 256 + x2 * 65536 + x3 * 16777216 + x4 * 4294967296) (x0 + x1 * 256 + x2 * 65536 + x3 * 16777216 + x4 * 4294967296 + x5 * 1099511627776) (x0 + x1 * 256 + x2 * 65536 + x3 * 16777216 + x4 * 4294967296 + x5 * 1099511627776 + x6 * 281474976710656) (eight x0 x1 x2 x3 x4 x5 x6 x7) w h0 h1 h2 h3 h4 h5 h6 h7 ?_ ?_ ?_ ?_ ?_ ?_ ?_ ?_
  · exact (bits_or_u64_nat 0 x0 (by omega) (by omega)).trans (by simp)
  · exact or_step (x0) x1 8 (by simp only [Nat.reducePow]; omega) (by simp only [Nat.reducePow]; omega)
  · exact or_step (x0 + x1 * 256) x2 16 (by simp only [Nat.reducePow]; omega) (by simp only [Nat.reducePow]; omega)
  · exact or_step (x0 + x1 * 256 + x2 * 65536) x3 24 (by simp only [Nat.reducePow]; omega) (by simp only [Nat.reducePow]; omega)
  · exact or_step (x0 + x1 * 256 + x2 * 65536 + x3 * 16777216) x4 32 (by simp only [Nat.reducePow]; omega) (by simp only [Nat.reducePow]; omega)
  · exact or_step (x0 + x1 * 256 + x2 * 65536 + x3 * 16777216 + x4 * 4294967296) x5 40 (by simp only [Nat.reducePow]; omega) (by simp only [Nat.reducePow]; omega)
  · exact or_step (x0 + x1 * 256 + x2 * 65536 + x3 * 16777216 + x4 * 4294967296 + x5 * 1099511627776) x6 48 (by simp only [Nat.reducePow]; omega) (by simp only [Nat.reducePow]; omega)
  · exact or_step (x0 + x1 * 256 + x2 * 65536 + x3 * 16777216 + x4 * 4294967296 + x5 * 1099511627776 + x6 * 281474976710656) x7 56 (by simp only [Nat.reducePow]; omega) (by simp only [Nat.reducePow]; omega)

set_option maxRecDepth 100000 in
set_option maxHeartbeats 1000000 in
theorem spread_any (n : Nat) (w : World) :
    Calls Tryz.prog 128 #[.int .u64 (n : Int)] w fun e w' => e = .returned (.agg #[.int .u8 (byteOf n 0 : Int), .int .u8 (byteOf n 1 : Int), .int .u8 (byteOf n 2 : Int), .int .u8 (byteOf n 3 : Int), .int .u8 (byteOf n 4 : Int), .int .u8 (byteOf n 5 : Int), .int .u8 (byteOf n 6 : Int), .int .u8 (byteOf n 7 : Int)]) ∧ Below w.heap.size w w' := by
  go_enter Tryz.func128, Tryz.ntmps128
  go_wp2
  refine wp_loop_rounds 9 ?_
  iterate 9 (rw [rounds_succ]; go_wp2)
  refine bodyPost_ret (v := .agg #[.int .u8 (byteOf n 0 : Int), .int .u8 (byteOf n 1 : Int), .int .u8 (byteOf n 2 : Int), .int .u8 (byteOf n 3 : Int), .int .u8 (byteOf n 4 : Int), .int .u8 (byteOf n 5 : Int), .int .u8 (byteOf n 6 : Int), .int .u8 (byteOf n 7 : Int)]) (by simp [results, Tryz.results128, go_sem, byteOf]) rfl ⟨rfl, ?_⟩
  exact ((Below.refl _ _).alloc (Nat.le_refl _) _).alloc (by simp) _
end Go.Proofs.YtbighilgkmfemaaGreatDoor

/- Contracts of Put and Get of package cell. -/
namespace Go.Proofs.YtbighilgkmfemaaGreatDoor
open Go.RowKit

/-- A slice of eight bytes in memory of its own: those of n. -/
def IsPut (n : Nat) (w : World) (e : Ending) (w' : World) : Prop :=
  ∃ g, e = .returned (.slice (some ⟨g, 0, none⟩) 8 8) ∧ w.heap.size ≤ g ∧ w'.heap[g]? = some (.cells #[.int .u8 (byteOf n 0 : Int), .int .u8 (byteOf n 1 : Int), .int .u8 (byteOf n 2 : Int), .int .u8 (byteOf n 3 : Int), .int .u8 (byteOf n 4 : Int), .int .u8 (byteOf n 5 : Int), .int .u8 (byteOf n 6 : Int), .int .u8 (byteOf n 7 : Int)] 5 (0, 0)) ∧ Below w.heap.size w w'

theorem cells_at {w : World} {g : Nat} {cs : List Value} {t : TypeId} (h : w.heap[g]? = some (.cells cs.toArray t (0, 0))) (j : Nat) (v : Value) (hv : cs[j]? = some v) : w.cell? ((⟨g, 0, none⟩ : Addr).add j) = some v := by
  unfold World.cell? Addr.add
  by_cases h0 : j = 0
  · subst h0; simp [h, hv]
  · simp [h0, h, hv]

theorem two_new (w1 : World) (a b : Array Value) (s t : TypeId) : ((w1.alloc (.cells a s)).alloc (.cells b t)).heap[w1.heap.size + 1]? = some (.cells b t (0, 0)) ∧ ((w1.alloc (.cells a s)).alloc (.cells b t)).heap[w1.heap.size]? = some (.cells a s (0, 0)) := by
  constructor
  · show ((w1.heap.push (.cells a s)).push (.cells b t))[w1.heap.size + 1]? = _
    rw [Array.getElem?_push, if_pos (by simp)]
  · show ((w1.heap.push (.cells a s)).push (.cells b t))[w1.heap.size]? = _
    simp [Array.getElem?_push]

set_option maxRecDepth 100000 in
set_option maxHeartbeats 1000000 in
theorem put_any (n : Int) (w : World) :
    Calls Tryz.prog 123 #[.int .i64 n] w (IsPut (un n) w) := by
  have e1 := un_cast n
  have hmk : ∀ w : World, (Instr.makeSlice 24 (.int .i64 8) (.int .i64 8)).run Tryz.prog w = .ok (.slice (some ⟨w.heap.size, 0, none⟩) 8 8) (w.alloc (.cells #[.int .u8 0, .int .u8 0, .int .u8 0, .int .u8 0, .int .u8 0, .int .u8 0, .int .u8 0, .int .u8 0] 5)) := fun _ => by kernel_rfl
  go_enter Tryz.func123, Tryz.ntmps123
  go_wp2_with (first | (go_at_call 128; refine (spread_any _ _).mono ?_; rintro e w1 ⟨rfl, hb⟩) | (with_reducible refine wpList_copy_splice rfl (.tmp 9) (.tmp 10) 24 24 rfl 5 Tryz.underlying24 ?c0 (some ⟨w1.heap.size + 1, 0, none⟩) (some ⟨w1.heap.size, 0, none⟩) 8 8 8 8 rfl rfl (w1.heap.size + 1) 0 [.int .u8 0, .int .u8 0, .int .u8 0, .int .u8 0, .int .u8 0, .int .u8 0, .int .u8 0, .int .u8 0] 5 ?c1 [.int .u8 (byteOf (un n) 0 : Int), .int .u8 (byteOf (un n) 1 : Int), .int .u8 (byteOf (un n) 2 : Int), .int .u8 (byteOf (un n) 3 : Int), .int .u8 (byteOf (un n) 4 : Int), .int .u8 (byteOf (un n) 5 : Int), .int .u8 (byteOf (un n) 6 : Int), .int .u8 (byteOf (un n) 7 : Int)] rfl (fun _ => ⟨rfl, ⟨w1.heap.size, 0, none⟩, rfl, fun j v h => cells_at (two_new _ _ _ _ _).2 j v h⟩) ?c3 ?c4 w.heap.size w ?c5 ?c6 ?_))
  case c0 => kernel_rfl
  case c1 => exact (two_new _ _ _ _ _).1
  case c3 => simp
  case c4 => simp [Value.oneCell']
  case c5 => exact (hb.alloc hb.size _).alloc (by have := hb.size; simp; omega) _
  case c6 => have := hb.size; omega
  intro w2 hg hb2
  go_wp2
  go_ret
  exact ⟨w1.heap.size + 1, rfl, by have := hb.size; omega, hg.out, hb2⟩
end Go.Proofs.YtbighilgkmfemaaGreatDoor

/- The contract of Get of package cell. -/
namespace Go.Proofs.YtbighilgkmfemaaGreatDoor
open Go.RowKit

theorem add_block (x : Addr) (j : Nat) : (x.add j).block = x.block := by unfold Addr.add; split <;> rfl
theorem src_new {w : World} {x : Addr} (hx : x.block < w.heap.size) (o : Obj) {cs : List Value} (h : ∀ j v, cs[j]? = some v → w.cell? (x.add j) = some v) : ∀ j v, cs[j]? = some v → (w.alloc o).cell? (x.add j) = some v := by
  intro j v hv
  have hb : Below w.heap.size w (w.alloc o) := (Below.refl _ _).alloc (Nat.le_refl _) _
  rw [hb.cell (p := x.add j) (by rw [add_block]; exact hx)]
  exact h j v hv

theorem one_new (w : World) (c : Array Value) (t : TypeId) : (w.alloc (.cells c t)).heap[w.heap.size]? = some (.cells c t (0, 0)) := (MapKept.heap_alloc w _).1

set_option maxRecDepth 100000 in
set_option maxHeartbeats 1000000 in
theorem get_yes (x : Addr) (cap : Nat) (x0 x1 x2 x3 x4 x5 x6 x7 : Nat) (w : World) (hx : x.block < w.heap.size) (h0 : x0 < 256) (h1 : x1 < 256) (h2 : x2 < 256) (h3 : x3 < 256) (h4 : x4 < 256) (h5 : x5 < 256) (h6 : x6 < 256) (h7 : x7 < 256) (hsrc : Hid (∀ j v, [.int .u8 (x0 : Int), .int .u8 (x1 : Int), .int .u8 (x2 : Int), .int .u8 (x3 : Int), .int .u8 (x4 : Int), .int .u8 (x5 : Int), .int .u8 (x6 : Int), .int .u8 (x7 : Int)][j]? = some v → w.cell? (x.add j) = some v)) :
    Calls Tryz.prog 104 #[.slice (some x) 8 cap] w fun e w' => e = .returned (.tuple #[.int .i64 (wrap64 (eight x0 x1 x2 x3 x4 x5 x6 x7 : Int)), .int .i64 0]) ∧ Below w.heap.size w w' := by
  go_enter Tryz.func104, Tryz.ntmps104
  go_wp2_with (with_reducible refine wpList_copy_splice rfl (.tmp 8) (.tmp 9) 24 24 rfl 5 Tryz.underlying24 ?c0 (some ⟨w.heap.size, 0, none⟩) (some x) 8 8 8 cap rfl rfl w.heap.size 0 [.int .u8 0, .int .u8 0, .int .u8 0, .int .u8 0, .int .u8 0, .int .u8 0, .int .u8 0, .int .u8 0] 161 ?c1 [.int .u8 (x0 : Int), .int .u8 (x1 : Int), .int .u8 (x2 : Int), .int .u8 (x3 : Int), .int .u8 (x4 : Int), .int .u8 (x5 : Int), .int .u8 (x6 : Int), .int .u8 (x7 : Int)] rfl (fun _ => ⟨rfl, x, rfl, src_new hx _ hsrc.out⟩) ?c3 ?c4 w.heap.size w ?c5 ?c6 ?_)
  case c0 => kernel_rfl
  case c1 => exact one_new _ _ _
  case c3 => simp
  case c4 => simp [Value.oneCell']
  case c5 => exact (Below.refl _ _).alloc (Nat.le_refl _) _
  case c6 => omega
  intro w2 hg hb2
  have hg' : w2.heap[w.heap.size]? = some (.cells [.int .u8 (x0 : Int), .int .u8 (x1 : Int), .int .u8 (x2 : Int), .int .u8 (x3 : Int), .int .u8 (x4 : Int), .int .u8 (x5 : Int), .int .u8 (x6 : Int), .int .u8 (x7 : Int)].toArray 161 (0, 0)) := hg.out
  have k0 : w2.cell? ⟨w.heap.size, 0, none⟩ = some (.int .u8 (x0 : Int)) := cells_at hg' 0 _ rfl
  have k1 : w2.cell? ⟨w.heap.size, 1, none⟩ = some (.int .u8 (x1 : Int)) := cells_at hg' 1 _ rfl
  have k2 : w2.cell? ⟨w.heap.size, 2, none⟩ = some (.int .u8 (x2 : Int)) := cells_at hg' 2 _ rfl
  have k3 : w2.cell? ⟨w.heap.size, 3, none⟩ = some (.int .u8 (x3 : Int)) := cells_at hg' 3 _ rfl
  have k4 : w2.cell? ⟨w.heap.size, 4, none⟩ = some (.int .u8 (x4 : Int)) := cells_at hg' 4 _ rfl
  have k5 : w2.cell? ⟨w.heap.size, 5, none⟩ = some (.int .u8 (x5 : Int)) := cells_at hg' 5 _ rfl
  have k6 : w2.cell? ⟨w.heap.size, 6, none⟩ = some (.int .u8 (x6 : Int)) := cells_at hg' 6 _ rfl
  have k7 : w2.cell? ⟨w.heap.size, 7, none⟩ = some (.int .u8 (x7 : Int)) := cells_at hg' 7 _ rfl
  have HZ := Lib.hid hb2.size
  clear hg hg'
  go_wp2_with (go_at_call 122; refine (gather_any x0 x1 x2 x3 x4 x5 x6 x7 _ h0 h1 h2 h3 h4 h5 h6 h7).mono ?_; rintro e w3 ⟨rfl, hb3⟩)
  go_ret2
  exact ⟨rfl, hb2.trans (hb3.mono HZ.out)⟩
end Go.Proofs.YtbighilgkmfemaaGreatDoor

/- How bytes, patches and memories lie in a world; and that they lie on behind calls that make memory of their own. -/
namespace Go.Proofs.YtbighilgkmfemaaGreatDoor
open Go.RowKit

theorem below_then {w w1 w2 : World} (h : Below w.heap.size w w1) (k : Below w1.heap.size w1 w2) : Below w.heap.size w w2 := h.trans (k.mono h.size)

def u8s (l : List UInt8) : List Value := l.map fun b => .int .u8 (b.toNat : Int)
theorem u8s_len (l : List UInt8) : (u8s l).length = l.length := by simp [u8s]
theorem u8s_lay (l : List UInt8) (o : Nat) (c : List UInt8) : u8s (splice l o c) = splice (u8s l) o (u8s c) := splice_map _ l o c
theorem u8s_one (l : List UInt8) : ∀ v ∈ u8s l, v.oneCell' = true := by
  intro v hv
  unfold u8s at hv
  rw [List.mem_map] at hv
  obtain ⟨b, _, rfl⟩ := hv
  rfl
theorem u8s_at {l : List UInt8} {j : Nat} (h : j < l.length) : (u8s l)[j]? = some (.int .u8 ((l[j]).toNat : Int)) := by simp [u8s, h]
theorem u8s_app (a b : List UInt8) : u8s (a ++ b) = u8s a ++ u8s b := by simp [u8s]
/-- A row of cells lies at an address. -/
def Lies (w : World) (A : Option Addr) (xs : List Value) : Prop :=
  xs = [] ∨ ∃ g o, A = some ⟨g, o, none⟩ ∧ g < w.heap.size ∧ ∀ j v, xs[j]? = some v → w.cell? ⟨g, o + j, none⟩ = some v
theorem add_at (g o j : Nat) : (⟨g, o, none⟩ : Addr).add j = ⟨g, o + j, none⟩ := by unfold Addr.add; split <;> simp_all
theorem Lies.keep {w w' : World} {A : Option Addr} {xs : List Value} (h : Lies w A xs) (b : Below w.heap.size w w') : Lies w' A xs := by
  rcases h with h | ⟨g, o, hA, hg, hc⟩
  · exact .inl h
  · exact .inr ⟨g, o, hA, Nat.lt_of_lt_of_le hg b.size, fun j v hv => (b.cell (p := ⟨g, o + j, none⟩) hg).trans (hc j v hv)⟩
theorem Lies.part {w : World} {g o : Nat} {xs : List Value} (h : Lies w (some ⟨g, o, none⟩) xs) (a n : Nat) : Lies w (some ⟨g, o + a, none⟩) ((xs.drop a).take n) := by
  rcases h with rfl | ⟨g', o', hA, hg, hc⟩
  · exact .inl (by simp)
  · injection hA with hA
    injection hA with e1 e2
    subst e1 e2
    refine .inr ⟨g, o + a, rfl, hg, fun j v hv => ?_⟩
    rw [List.getElem?_take] at hv
    split at hv
    · rw [List.getElem?_drop] at hv
      rw [Nat.add_assoc]
      exact hc _ _ hv
    · cases hv
theorem lies_block {w : World} {g : Nat} {xs : List Value} {t : TypeId} (h : w.heap[g]? = some (.cells xs.toArray t (0, 0))) : Lies w (some ⟨g, 0, none⟩) xs := by
  refine .inr ⟨g, 0, rfl, (Array.getElem?_eq_some_iff.1 h).1, fun j v hv => ?_⟩
  rw [Nat.zero_add]
  simp [World.cell?, h, hv]

/-- A slice of bytes. -/
def Byt (w : World) (v : Value) (l : List UInt8) : Prop := ∃ A c, v = .slice A l.length c ∧ l.length ≤ c ∧ c ≤ maxLen ∧ Lies w A (u8s l)
theorem Byt.keep {w w' : World} {v : Value} {l : List UInt8} (h : Byt w v l) (b : Below w.heap.size w w') : Byt w' v l := by
  obtain ⟨A, c, h1, h2, h3, h4⟩ := h
  exact ⟨A, c, h1, h2, h3, h4.keep b⟩
theorem byt_block {w : World} {g : Nat} {l : List UInt8} {t : TypeId} (h : w.heap[g]? = some (.cells (u8s l).toArray t (0, 0))) (hl : l.length ≤ 65536) : Byt w (.slice (some ⟨g, 0, none⟩) l.length l.length) l :=
  ⟨_, _, rfl, Nat.le_refl _, by unfold maxLen; omega, lies_block h⟩
theorem byt_nil (w : World) : Byt w (.slice none 0 0) [] := ⟨none, 0, rfl, Nat.le_refl _, Nat.zero_le _, .inl rfl⟩

/-- The cells of patches. -/
abbrev Qt := Int × Value
def pc (qs : List Qt) : List Value := qs.flatMap fun q => [.int .i64 q.1, q.2]
theorem pc_cons (q : Qt) (qs : List Qt) : pc (q :: qs) = .int .i64 q.1 :: q.2 :: pc qs := rfl
theorem pc_app (a b : List Qt) : pc (a ++ b) = pc a ++ pc b := by simp [pc]
theorem pc_len (qs : List Qt) : (pc qs).length = 2 * qs.length := by
  induction qs with
  | nil => rfl
  | cons q qs ih => rw [pc_cons]; simp [ih]; omega
theorem pc_at (qs : List Qt) : ∀ i q, qs[i]? = some q → (pc qs)[2 * i]? = some (.int .i64 q.1) ∧ (pc qs)[2 * i + 1]? = some q.2 := by
  induction qs with
  | nil => intro i q h; simp at h
  | cons x qs ih =>
    intro i q h
    rw [pc_cons]
    cases i with
    | zero => simp at h; subst h; exact ⟨rfl, rfl⟩
    | succ i =>
      simp at h
      have := ih i q h
      rw [show 2 * (i + 1) = 2 * i + 1 + 1 by omega]
      simpa using this
/-- Cells of patches tell patches. -/
def Tells (w : World) (qs : List Qt) (ps : List Pt) : Prop := qs.length = ps.length ∧ ∀ (i : Nat) (q : Qt) (p : Pt), qs[i]? = some q → ps[i]? = some p → q.1 = p.1 ∧ Byt w q.2 p.2
theorem Tells.keep {w w' : World} {qs : List Qt} {ps : List Pt} (h : Tells w qs ps) (b : Below w.heap.size w w') : Tells w' qs ps :=
  ⟨h.1, fun i q p hq hp => ⟨(h.2 i q p hq hp).1, (h.2 i q p hq hp).2.keep b⟩⟩
theorem Tells.at_ {w : World} {qs : List Qt} {ps : List Pt} (h : Tells w qs ps) {i : Nat} {p : Pt} (hp : ps[i]? = some p) : ∃ v, qs[i]? = some (p.1, v) ∧ Byt w v p.2 := by
  have hi : i < qs.length := by rw [h.1]; exact (List.getElem?_eq_some_iff.1 hp).1
  have hq : qs[i]? = some qs[i] := List.getElem?_eq_getElem hi
  obtain ⟨e, hb⟩ := h.2 i _ p hq hp
  refine ⟨qs[i].2, ?_, hb⟩
  rw [hq, ← e]
theorem Tells.snoc {w : World} {qs : List Qt} {ps : List Pt} (h : Tells w qs ps) {p : Pt} {v : Value} (hv : Byt w v p.2) : Tells w (qs ++ [(p.1, v)]) (ps ++ [p]) := by
  refine ⟨by simp [h.1], fun i q r hq hr => ?_⟩
  by_cases hi : i < qs.length
  · rw [List.getElem?_append_left hi] at hq
    rw [List.getElem?_append_left (by rw [← h.1]; exact hi)] at hr
    exact h.2 i q r hq hr
  · have hi' : i = qs.length := by have := (List.getElem?_eq_some_iff.1 hq).1; simp at this; omega
    subst hi'
    rw [List.getElem?_append_right (Nat.le_refl _)] at hq
    rw [h.1, List.getElem?_append_right (Nat.le_refl _)] at hr
    simp at hq hr
    subst hq hr
    exact ⟨rfl, hv⟩
theorem Tells.take {w : World} {qs : List Qt} {ps : List Pt} (h : Tells w qs ps) (k : Nat) : Tells w (qs.take k) (ps.take k) := by
  refine ⟨by simp [h.1], fun i q r hq hr => ?_⟩
  rw [List.getElem?_take] at hq hr
  split at hq
  · rename_i hk
    rw [if_pos hk] at hr
    exact h.2 i q r hq hr
  · cases hq
theorem Tells.drop {w : World} {qs : List Qt} {ps : List Pt} (h : Tells w qs ps) (k : Nat) : Tells w (qs.drop k) (ps.drop k) := by
  refine ⟨by simp [h.1], fun i q r hq hr => ?_⟩
  rw [List.getElem?_drop] at hq hr
  exact h.2 _ q r hq hr
theorem tells_nil (w : World) : Tells w [] [] := ⟨rfl, fun i q p h => by simp at h⟩

/-- A slice of patches. -/
def Pats (w : World) (v : Value) (ps : List Pt) : Prop := ∃ A c qs, v = .slice A ps.length c ∧ ps.length ≤ c ∧ c ≤ maxLen ∧ Lies w A (pc qs) ∧ Tells w qs ps
theorem Pats.keep {w w' : World} {v : Value} {ps : List Pt} (h : Pats w v ps) (b : Below w.heap.size w w') : Pats w' v ps := by
  obtain ⟨A, c, qs, h1, h2, h3, h4, h5⟩ := h
  exact ⟨A, c, qs, h1, h2, h3, h4.keep b, h5.keep b⟩
theorem pats_nil (w : World) : Pats w (.slice none 0 0) [] := ⟨none, 0, [], rfl, Nat.le_refl _, Nat.zero_le _, .inl rfl, tells_nil w⟩

/-- A memory. -/
def IsMem (w : World) (v : Value) (m : PM) : Prop := ∃ b o, v = .agg #[b, o] ∧ Byt w b m.1 ∧ Pats w o m.2
theorem IsMem.keep {w w' : World} {v : Value} {m : PM} (h : IsMem w v m) (b : Below w.heap.size w w') : IsMem w' v m := by
  obtain ⟨x, y, h1, h2, h3⟩ := h
  exact ⟨x, y, h1, h2.keep b, h3.keep b⟩
theorem IsMem.parts {w : World} {v : Value} {m : PM} (h : IsMem w v m) : ∃ A c P d, v = .agg #[.slice A m.1.length c, .slice P m.2.length d] ∧ Byt w (.slice A m.1.length c) m.1 ∧ Pats w (.slice P m.2.length d) m.2 := by
  obtain ⟨x, y, rfl, hb, hp⟩ := h
  have hb' := hb
  have hp' := hp
  obtain ⟨A, c, rfl, _⟩ := hb
  obtain ⟨P, d, qs, rfl, _⟩ := hp
  exact ⟨A, c, P, d, rfl, hb', hp'⟩

/-- One block alone was written. -/
structure RowSet (g : Nat) (w w' : World) : Prop where
  os : w'.os = w.os
  tape : w'.tape = w.tape
  output : w'.output = w.output
  size : w'.heap.size = w.heap.size
  other : ∀ k, k ≠ g → w'.heap[k]? = w.heap[k]?
theorem rowSet_setRow (g : Nat) (w : World) (cs : Array Value) : RowSet g w (w.setRow g cs) := ⟨rfl, rfl, rfl, by simp [World.setRow], fun k hk => setRow_other w g k cs hk⟩
theorem RowSet.refl (g : Nat) (w : World) : RowSet g w w := ⟨rfl, rfl, rfl, rfl, fun _ _ => rfl⟩
theorem RowSet.trans {g : Nat} {a b c : World} (h : RowSet g a b) (k : RowSet g b c) : RowSet g a c :=
  ⟨k.os.trans h.os, k.tape.trans h.tape, k.output.trans h.output, k.size.trans h.size, fun i hi => (k.other i hi).trans (h.other i hi)⟩
theorem RowSet.below {g B : Nat} {w w' : World} (h : RowSet g w w') (hB : B ≤ g) : Below B w w' := ⟨h.os, h.tape, h.output, by rw [h.size]; exact Nat.le_refl _, fun k hk => h.other k (by omega)⟩
theorem RowSet.cell {g : Nat} {w w' : World} (h : RowSet g w w') {b o : Nat} (hb : b ≠ g) : w'.cell? ⟨b, o, none⟩ = w.cell? ⟨b, o, none⟩ := World.cell?_of_block (h.other b hb)
end Go.Proofs.YtbighilgkmfemaaGreatDoor

/- Contracts of there, lay, own (of bytes) of package mem, and of the document's There. -/
namespace Go.Proofs.YtbighilgkmfemaaGreatDoor
open Go.RowKit
set_option linter.unusedVariables false

set_option maxRecDepth 100000 in
set_option maxHeartbeats 1000000 in
theorem there_any (A P : Option Addr) (L c k d : Nat) (p n : Int) (w : World) (hL : L ≤ 9223372036854775807) (hn : n ≤ 9223372036854775807) :
    Calls Tryz.prog 109 #[.agg #[.slice A L c, .slice P k d], .int .i64 p, .int .i64 n] w fun e w' => e = .returned (.bool (okB L p n)) ∧ Below w.heap.size w w' := by
  by_cases h0 : n = 0
  · have H : Hid (okB L p n = true) := (okB_iff _ _ _).2 (.inl h0)
    subst h0
    go_enter Tryz.func109, Tryz.ntmps109
    go_wp2
    go_ret
    exact ⟨ret_bool H.out.symm, (Below.refl _ _).alloc (Nat.le_refl _) _⟩
  · have h1 : (n == 0) = false := by simp [h0]
    by_cases h2 : 0 < n ∧ 0 ≤ p ∧ p ≤ (L : Int) - n
    · have H : Hid (okB L p n = true) := (okB_iff _ _ _).2 (.inr h2)
      obtain ⟨h3, h4, h5⟩ := h2
      clear h0
      go_enter Tryz.func109, Tryz.ntmps109
      go_wp2
      go_ret
      exact ⟨ret_bool H.out.symm, (Below.refl _ _).alloc (Nat.le_refl _) _⟩
    · have H : Hid (okB L p n = false) := (okB_no _ _ _).2 (by omega)
      by_cases h3 : 0 < n
      · by_cases h4 : 0 ≤ p
        · have h5 : decide (p ≤ (L : Int) - n) = false := by simp; omega
          clear h0 h2
          go_enter Tryz.func109, Tryz.ntmps109
          go_wp2
          go_ret
          exact ⟨ret_bool H.out.symm, (Below.refl _ _).alloc (Nat.le_refl _) _⟩
        · have h4 : decide (0 ≤ p) = false := by simp; omega
          clear h0 h2
          go_enter Tryz.func109, Tryz.ntmps109
          go_wp2
          go_ret
          exact ⟨ret_bool H.out.symm, (Below.refl _ _).alloc (Nat.le_refl _) _⟩
      · have h3 : decide (0 < n) = false := by simp; omega
        clear h0 h2
        go_enter Tryz.func109, Tryz.ntmps109
        go_wp2
        go_ret
        exact ⟨ret_bool H.out.symm, (Below.refl _ _).alloc (Nat.le_refl _) _⟩

theorem info_u8 : (Tryz.prog.info? 5).map (fun i => (i.zero, i.size, i.bytes)) = some (some (.int .u8 0), 1, 1) := by kernel_rfl

theorem hpos_of {w : World} {A : Option Addr} {xs : List Value} (h : Lies w A xs) {w' : World} (b : Below w.heap.size w w') (hx : 0 < xs.length) : ∃ ad, A = some ad ∧ ∀ j v, xs[j]? = some v → w'.cell? (ad.add j) = some v := by
  rcases h.keep b with rfl | ⟨g, o, rfl, _, hc⟩
  · simp at hx
  · exact ⟨_, rfl, fun j v hv => by rw [add_at]; exact hc j v hv⟩

set_option maxRecDepth 100000 in
set_option maxHeartbeats 1000000 in
theorem own_u8 (A : Option Addr) (n c : Nat) (l : List UInt8) (w : World) (hl : l.length = n) (hn : n ≤ 65536) (h : Lies w A (u8s l)) :
    Calls Tryz.prog 110 #[.slice A n c] w fun e w' => ∃ g, e = .returned (.slice (some ⟨g, 0, none⟩) n n) ∧ w.heap.size ≤ g ∧ w'.heap[g]? = some (.cells (u8s l).toArray 5 (0, 0)) ∧ Below w.heap.size w w' := by
  obtain ⟨i0, hi, hz0, hz1, hz2⟩ := info_parts info_u8
  obtain ⟨Z, hZ⟩ : ∃ Z, Z = (madeCells (Value.int .u8 0).cells n).toList := ⟨_, rfl⟩
  obtain ⟨X, hX⟩ : ∃ X, X = u8s l := ⟨_, rfl⟩
  have hmk : (Instr.makeSlice 24 (.int .i64 (n : Int)) (.int .i64 (n : Int))).run Tryz.prog w = .ok (.slice (some ⟨w.heap.size, 0, none⟩) n n) (w.alloc (.cells Z.toArray 5)) := by
    have := run_make (P := Tryz.prog) w 24 5 i0 (.int .u8 0) Tryz.underlying24 hi hz0 .i64 .i64 n n (by omega) (Int.le_refl _) (by rw [hz2]; omega) (by omega)
    rw [hz1] at this
    simpa [hZ] using this
  have HZ : Hid (Z.length = n) := by rw [hZ]; show _ = n; simp [size_madeCells]
  have HX : Hid (X.length = n) := by rw [hX, u8s_len]; exact hl
  have HL := Lib.hid h
  have HE := Lib.hid hX
  clear h hX hZ hl hi hz0 hz1 hz2
  go_enter Tryz.func110, Tryz.ntmps110
  go_wp2_with (with_reducible refine wpList_copy_splice rfl (.tmp 7) (.tmp 8) 24 24 rfl 5 Tryz.underlying24 ?c0 (some ⟨w.heap.size, 0, none⟩) A n n n c rfl rfl w.heap.size 0 Z 5 ?c1 X ?c2 (fun hx => ⟨rfl, hpos_of (HE.out ▸ HL.out) ((Below.refl _ _).alloc (Nat.le_refl _) _) hx⟩) ?c3 ?c4 w.heap.size w ?c5 ?c6 ?_)
  case c0 => kernel_rfl
  case c1 => exact one_new _ _ _
  case c2 => rw [HX.out]; simp
  case c3 => rw [HX.out, HZ.out]; omega
  case c4 => rw [HE.out]; exact u8s_one l
  case c5 => exact (Below.refl _ _).alloc (Nat.le_refl _) _
  case c6 => omega
  intro w2 hg hb2
  go_wp2
  go_ret
  refine ⟨w.heap.size, rfl, Nat.le_refl _, ?_, hb2⟩
  have h2 := hg.out
  have e : splice Z 0 X = X := by
    have z := HZ.out
    have x := HX.out
    simp [splice, z, x]
  rw [e, HE.out] at h2
  exact h2

set_option maxRecDepth 100000 in
set_option maxHeartbeats 1000000 in
theorem lay_any (g L n c : Nat) (A : Option Addr) (p : Int) (row b : List UInt8) (w : World) (t : TypeId) (hL : row.length = L) (hn : b.length = n) (hL2 : L ≤ 65536) (ok : okB L p n = true) (hg : w.heap[g]? = some (.cells (u8s row).toArray t (0, 0))) (h : Lies w A (u8s b)) :
    Calls Tryz.prog 113 #[.slice (some ⟨g, 0, none⟩) L L, .int .i64 p, .slice A n c] w fun e w' => e = .returned (.tuple #[]) ∧ w'.heap[g]? = some (.cells (u8s (layF row p b)).toArray t (0, 0)) ∧ RowSet g w w' := by
  by_cases h0 : n = 0
  · have HG := Lib.hid hg
    have HR : Hid (layF row p b = row) := by
      have : b = [] := List.eq_nil_of_length_eq_zero (by omega)
      subst this
      exact layF_none row p
    clear hg h hL hn ok
    subst h0
    by_cases h1 : p < 0
    · go_enter Tryz.func113, Tryz.ntmps113
      go_wp2
      refine bodyPost_ret (results_none rfl _ _ _) rfl ?_
      exact ⟨rfl, by rw [HR.out]; exact HG.out, RowSet.refl _ _⟩
    · have h1' : decide (p < 0) = false := by simp; omega
      by_cases h2 : (L : Int) < p
      · go_enter Tryz.func113, Tryz.ntmps113
        go_wp2
        refine bodyPost_ret (results_none rfl _ _ _) rfl ?_
        exact ⟨rfl, by rw [HR.out]; exact HG.out, RowSet.refl _ _⟩
      · have h2' : decide ((L : Int) < p) = false := by simp; omega
        obtain ⟨q, rfl⟩ := Int.eq_ofNat_of_zero_le (by omega : 0 ≤ p)
        have h3 : (q : Int) ≤ (L : Int) := by omega
        clear h1 h2
        go_enter Tryz.func113, Tryz.ntmps113
        go_wp2_with (with_reducible refine wpList_copy_nothing rfl (.tmp 16) (.tmp 17) 24 24 rfl 5 Tryz.underlying24 (by kernel_rfl) _ _ _ _ _ _ rfl rfl (by simp) ?_)
        all_goals
          go_end0
          exact ⟨rfl, by rw [HR.out]; exact HG.out, RowSet.refl _ _⟩
  · rw [okB_iff] at ok
    have h1 : 0 ≤ p := by omega
    obtain ⟨q, rfl⟩ := Int.eq_ofNat_of_zero_le h1
    have h2 : (q : Int) + (n : Int) ≤ (L : Int) := by omega
    have h3 : 0 < n := by omega
    have hq : (L : Nat) ≠ q := by omega
    have HQ : Hid (q + n ≤ L) := by show _ ≤ _; omega
    obtain ⟨X, hX⟩ : ∃ X, X = u8s b := ⟨_, rfl⟩
    obtain ⟨Y, hY⟩ : ∃ Y, Y = u8s row := ⟨_, rfl⟩
    have HX : Hid (X.length = n) := by rw [hX, u8s_len]; exact hn
    have HY : Hid (Y.length = L) := by rw [hY, u8s_len]; exact hL
    have HR : Hid ((u8s (layF row (q : Int) b)) = splice Y q X) := by rw [hX, hY]; exact u8s_lay _ _ _
    obtain ⟨g2, o2, rfl, HC⟩ : ∃ g2 o2, A = some ⟨g2, o2, none⟩ ∧ Hid (∀ j v, X[j]? = some v → w.cell? ⟨g2, o2 + j, none⟩ = some v) := by
      rcases h with h | ⟨g2, o2, e, _, hc⟩
      · rw [← hX] at h
        have hx := HX.out
        rw [h] at hx
        simp at hx
        omega
      · exact ⟨g2, o2, e, by rw [hX]; exact hc⟩
    have H1 : Hid (∀ v ∈ X, v.oneCell' = true) := by rw [hX]; exact u8s_one b
    rw [← hY] at hg
    have HG := Lib.hid hg
    clear hg h hL hn ok hX hY h0 h1
    go_enter Tryz.func113, Tryz.ntmps113
    go_wp2_with (with_reducible refine wpList_copy_own rfl (.tmp 16) (.tmp 17) 24 24 rfl 5 Tryz.underlying24 ?c0 g q (L - q) (L - q) ⟨g2, o2, none⟩ n c rfl rfl Y.toArray t ?c1 X ?c2 ?c3 ?c4 ?c5 ?_)
    case c0 => kernel_rfl
    case c1 => exact HG.out
    case c2 => have := HQ.out; rw [HX.out]; show n = min n (L - q); omega
    case c3 => intro j v hv; rw [add_at]; exact HC.out j v hv
    case c4 => have := HQ.out; rw [HX.out]; simp [HY.out]; omega
    case c5 => exact H1.out
    go_end0
    refine ⟨rfl, ?_, rowSet_setRow _ _ _⟩
    rw [HR.out, setRow_heap w g _ _ t _ HG.out]
    simp [splice]
end Go.Proofs.YtbighilgkmfemaaGreatDoor

/- Contracts of Text of package mem, and of the document's There. -/
namespace Go.Proofs.YtbighilgkmfemaaGreatDoor
open Go.RowKit

theorem box_cells {w w1 : World} {x y : Value} {t : TypeId} (b : Below (w.alloc (.cells #[x, y] t)).heap.size (w.alloc (.cells #[x, y] t)) w1) : w1.cell? ⟨w.heap.size, 0, none⟩ = some x ∧ w1.cell? ⟨w.heap.size, 1, none⟩ = some y := by
  constructor
  · rw [b.cell (p := ⟨w.heap.size, 0, none⟩) (by simp), World.cell?_alloc_new]; rfl
  · rw [b.cell (p := ⟨w.heap.size, 1, none⟩) (by simp), World.cell?_alloc_new]; rfl
theorem box_below {w w1 : World} {o : Obj} (b : Below (w.alloc o).heap.size (w.alloc o) w1) : Below w.heap.size w w1 := ((Below.refl _ w).alloc (Nat.le_refl _) o).trans (b.mono (by simp))

theorem codeF_yes : codeF true = 0 := rfl
theorem codeF_no : codeF false = -9 := rfl

set_option maxRecDepth 100000 in
set_option maxHeartbeats 1000000 in
theorem text_any (v : Value) (m : PM) (p n : Int) (w : World) (h : IsMem w v m) (hL : m.1.length ≤ 65536) (hn : n ≤ 9223372036854775807) :
    Calls Tryz.prog 82 #[v, .int .i64 p, .int .i64 n] w fun e w' => ∃ u, e = .returned (.tuple #[u, .int .i64 (codeF (okB m.1.length p n))]) ∧ Byt w' u (textF m p n) ∧ Below w.heap.size w w' := by
  obtain ⟨A, c, P, d, rfl, hb, hp⟩ := h.parts
  obtain ⟨A', c', e', hc, hm, hA⟩ := hb
  injection e' with e1 _ e2
  subst e1 e2
  have HT := Lib.hid (textF_no (m := m) (p := p) (n := n))
  have HY := Lib.hid (textF_yes (m := m) (p := p) (n := n))
  obtain ⟨L, hLe⟩ : ∃ L, L = m.1.length := ⟨_, rfl⟩
  rw [← hLe] at hL hc ⊢
  have HE := Lib.hid hLe
  clear hLe
  cases ok : okB L p n with
  | false =>
    clear h hp
    go_enter Tryz.func82, Tryz.ntmps82
    go_wp2_with (go_at_call 109; (with_reducible refine (there_any _ _ _ _ _ _ _ _ _ (by omega) hn).mono ?_); rintro e w1 ⟨rfl, b1⟩)
    go_ret2
    exact ⟨_, rfl, by rw [HT.out (by rw [← HE.out]; exact ok)]; exact byt_nil _, box_below b1⟩
  | true =>
    have hok := (okB_iff _ _ _).1 ok
    by_cases h0 : n = 0
    · subst h0
      clear h hp
      go_enter Tryz.func82, Tryz.ntmps82
      go_wp2_with (go_at_call 109; (with_reducible refine (there_any _ _ _ _ _ _ _ _ _ (by omega) hn).mono ?_); rintro e w1 ⟨rfl, b1⟩)
      go_ret2
      exact ⟨_, rfl, by rw [HY.out (by rw [← HE.out]; exact ok)]; simpa using byt_nil _, box_below b1⟩
    · have h0' : (n == 0) = false := by simp [h0]
      obtain ⟨h1, h2, h3⟩ := hok.resolve_left h0
      obtain ⟨q, rfl⟩ := Int.eq_ofNat_of_zero_le h2
      obtain ⟨k, rfl⟩ := Int.eq_ofNat_of_zero_le (Int.le_of_lt h1)
      have h4 : q + k ≤ L := by omega
      have h5 : 0 < k := by omega
      have hne : c ≠ q := by omega
      obtain ⟨g, o, rfl, hg, hcell⟩ : ∃ g o, A = some ⟨g, o, none⟩ ∧ g < w.heap.size ∧ Lies w (some ⟨g, o, none⟩) (u8s m.1) := by
        have hA' := hA
        rcases hA with e | ⟨g, o, rfl, hg, _⟩
        · have := congrArg List.length e
          rw [u8s_len, ← HE.out] at this
          simp at this
          omega
        · exact ⟨g, o, rfl, hg, hA'⟩
      have HX : Hid (Lies w (some ⟨g, o + q, none⟩) (u8s (textF m q k))) := by
        show Lies w _ _
        rw [HY.out (by rw [← HE.out]; exact ok)]
        have := hcell.part q k
        simpa [u8s, List.map_take, List.map_drop] using this
      have HK : Hid ((textF m q k).length = k) := by rw [HY.out (by rw [← HE.out]; exact ok)]; show _ = _; have := HE.out; simp; omega
      clear h hp hcell hA hok h0 h1 h2 h3
      go_enter Tryz.func82, Tryz.ntmps82
      go_wp2_with fail
      refine (there_any _ _ _ _ _ _ _ _ _ (by omega) hn).mono ?_
      rintro e w1 ⟨rfl, b1⟩
      obtain ⟨k0, k1⟩ := box_cells b1
      have B1 := Lib.hid (box_below b1)
      clear b1
      go_wp2_with fail
      refine (own_u8 _ k _ (textF m q k) _ HK.out (by omega) (HX.out.keep B1.out)).mono ?_
      rintro e w2 ⟨g2, rfl, hg2, hh, b2⟩
      have HH := Lib.hid hh
      clear hh
      go_wp2_with fail
      go_ret2
      exact ⟨_, rfl, by have := byt_block HH.out (by rw [HK.out]; omega); rwa [HK.out] at this, below_then B1.out b2⟩

set_option maxRecDepth 100000 in
set_option maxHeartbeats 1000000 in
theorem rthere_any (A P : Option Addr) (L c k d : Nat) (p n : Int) (w : World) (hL : L ≤ 9223372036854775807) (hn : n ≤ 9223372036854775807) :
    Calls Tryz.prog 98 #[.agg #[.slice A L c, .slice P k d], .int .i64 p, .int .i64 n] w fun e w' => e = .returned (.bool (okB L p n)) ∧ Below w.heap.size w w' := by
  by_cases h0 : n = 0
  · have H : Hid (okB L p n = true) := (okB_iff _ _ _).2 (.inl h0)
    subst h0
    go_enter Tryz.func98, Tryz.ntmps98
    go_wp2
    go_ret
    exact ⟨ret_bool H.out.symm, (Below.refl _ _).alloc (Nat.le_refl _) _⟩
  · have h1 : (n == 0) = false := by simp [h0]
    by_cases h2 : 0 < n ∧ 0 ≤ p ∧ p ≤ (L : Int) - n
    · have H : Hid (okB L p n = true) := (okB_iff _ _ _).2 (.inr h2)
      obtain ⟨h3, h4, h5⟩ := h2
      have h6 : n ≤ (L : Int) := by omega
      clear h0
      go_enter Tryz.func98, Tryz.ntmps98
      go_wp2
      go_ret
      exact ⟨ret_bool H.out.symm, (Below.refl _ _).alloc (Nat.le_refl _) _⟩
    · have H : Hid (okB L p n = false) := (okB_no _ _ _).2 (by omega)
      by_cases h3 : 0 < n
      · by_cases h4 : 0 ≤ p
        · have h5 : decide (p ≤ (L : Int) - n) = false := by simp; omega
          by_cases h6 : n ≤ (L : Int)
          · clear h0 h2
            go_enter Tryz.func98, Tryz.ntmps98
            go_wp2
            go_ret
            exact ⟨ret_bool H.out.symm, (Below.refl _ _).alloc (Nat.le_refl _) _⟩
          · have h7 : decide (n ≤ (L : Int)) = false := by simp; omega
            clear h0 h2 h6
            go_enter Tryz.func98, Tryz.ntmps98
            go_wp2
            go_ret
            exact ⟨ret_bool H.out.symm, (Below.refl _ _).alloc (Nat.le_refl _) _⟩
        · have h4 : decide (0 ≤ p) = false := by simp; omega
          clear h0 h2
          go_enter Tryz.func98, Tryz.ntmps98
          go_wp2
          go_ret
          exact ⟨ret_bool H.out.symm, (Below.refl _ _).alloc (Nat.le_refl _) _⟩
      · have h3 : decide (0 < n) = false := by simp; omega
        clear h0 h2
        go_enter Tryz.func98, Tryz.ntmps98
        go_wp2
        go_ret
        exact ⟨ret_bool H.out.symm, (Below.refl _ _).alloc (Nat.le_refl _) _⟩
end Go.Proofs.YtbighilgkmfemaaGreatDoor

/- Contracts of with and own (of patches) of package mem: copies of elements of two cells. -/
namespace Go.Proofs.YtbighilgkmfemaaGreatDoor
open Go.RowKit

/-- copy of elements of two cells each into a block that is known whole. -/
theorem run_copy_two {P : Program} (w : World) (dT sT ty elem : TypeId) (g dLen dCap : Nat) (A : Option Addr) (sLen sCap : Nat) (cur : Array Value) (t : TypeId) (cs : List Value)
    (hu : P.underlying dT = some (.slice elem)) (hs : (P.info? elem).map (·.size) = some 2)
    (hg : w.heap[g]? = some (.cells cur t (0, 0))) (hn : cs.length = Nat.min sLen dLen * 2)
    (hsrc : Lies w A cs) (hfit : cs.length ≤ cur.size) (h1 : ∀ v ∈ cs, v.oneCell' = true) :
    (Builtin.copy_ #[dT, sT] ty #[.slice (some ⟨g, 0, none⟩) dLen dCap, .slice A sLen sCap]).run P w =
      .ok (goInt (Nat.min sLen dLen)) (w.setRow g (cs ++ cur.toList.drop cs.length).toArray) := by
  have hst := run_storeCells_at P g 0 t cs 0 cur w hg (by simpa using hfit) h1
  cases hq : P.info? elem with
  | none => simp [hq] at hs
  | some i =>
    have hi : i.size = 2 := by simpa [hq] using hs
    rcases hsrc with rfl | ⟨g2, o2, rfl, _, hc⟩
    · have h0 : Nat.min sLen dLen = 0 := by simp at hn; omega
      have hl : ∀ (x : Addr), (loadCells x 0).run P w = .ok #[] w := fun x => by simpa using run_loadCells_list (P := P) w x [] (by simp)
      have e : w.setRow g ([] ++ cur.toList.drop ([] : List Value).length).toArray = w := by simpa using setRow_self w g cur t (0, 0) hg
      rw [e]
      cases A <;> simp [Builtin.copy_, run_underlying hu, Builtin.lenOf, Builtin.firstCells, sizeOf, typeInfo, hq, h0, storeCells, hl]
    · have hl := run_loadCells_list (P := P) w ⟨g2, o2, none⟩ cs (fun j v hv => by rw [add_at]; exact hc j v hv)
      rw [hn] at hl
      simp at hst
      simp [Builtin.copy_, run_underlying hu, Builtin.lenOf, Builtin.firstCells, sizeOf, typeInfo, hq, hi, hl, hst]

theorem wpList_copy_two {P : Program} {w : World} {ops : Array Oper} {rest : List Oper} {o : Oper} {a : Act} {Q : Exit → Act → World → Prop} (hgd : o.guard = none) (d s : Operand) (dT sT : TypeId)
    (ho : o.op = .call { callee := .builtin .copy, args := #[d, s], argTypes := #[dT, sT] }) (elem : TypeId) (hu : P.underlying dT = some (.slice elem)) (hsz : (P.info? elem).map (·.size) = some 2)
    (g dLen dCap : Nat) (A : Option Addr) (sLen sCap : Nat) (hd : a.eval d = .slice (some ⟨g, 0, none⟩) dLen dCap) (hs : a.eval s = .slice A sLen sCap)
    (cur : Array Value) (t : TypeId) (hg : w.heap[g]? = some (.cells cur t (0, 0))) (cs : List Value) (hn : cs.length = Nat.min sLen dLen * 2)
    (hsrc : Lies w A cs) (hfit : cs.length ≤ cur.size) (h1 : ∀ v ∈ cs, v.oneCell' = true)
    (h : wpList P ops Q rest (a.put o.dst (goInt (Nat.min sLen dLen))) (w.setRow g (cs ++ cur.toList.drop cs.length).toArray)) : wpList P ops Q (o :: rest) a w := by
  refine wpList_plain hgd fun K hK => ?_
  have hrun := run_copy_two (P := P) w dT sT o.type elem g dLen dCap A sLen sCap cur t cs hu hsz hg hn hsrc hfit h1
  unfold Oper.wp
  simp [execOp, ho, resolve, invoke, builtin, hd, hs, hrun, Result.andThen]
  exact hK _ _ h

theorem wpList_copy_two' {P : Program} {w : World} {ops : Array Oper} {rest : List Oper} {o : Oper} {a : Act} {Q : Exit → Act → World → Prop} (hgd : o.guard = none) (d s : Operand) (dT sT : TypeId)
    (ho : o.op = .call { callee := .builtin .copy, args := #[d, s], argTypes := #[dT, sT] }) (elem : TypeId) (hu : P.underlying dT = some (.slice elem)) (hsz : (P.info? elem).map (·.size) = some 2)
    (g dLen dCap : Nat) (A : Option Addr) (sLen sCap : Nat) (hd : a.eval d = .slice (some ⟨g, 0, none⟩) dLen dCap) (hs : a.eval s = .slice A sLen sCap)
    (cur : Array Value) (t : TypeId) (hg : w.heap[g]? = some (.cells cur t (0, 0))) (cs : List Value) (hn : cs.length = Nat.min sLen dLen * 2)
    (hsrc : Lies w A cs) (hfit : cs.length ≤ cur.size) (h1 : ∀ v ∈ cs, v.oneCell' = true)
    (h : ∀ w', Hid (w'.heap[g]? = some (.cells (cs ++ cur.toList.drop cs.length).toArray t (0, 0))) → RowSet g w w' → wpList P ops Q rest (a.put o.dst (goInt (Nat.min sLen dLen))) w') : wpList P ops Q (o :: rest) a w :=
  wpList_copy_two hgd d s dT sT ho elem hu hsz g dLen dCap A sLen sCap hd hs cur t hg cs hn hsrc hfit h1 (h _ (setRow_heap w g _ _ t _ hg) (rowSet_setRow _ _ _))

theorem set_two (X D : List Value) (n : Nat) (p : Int) (v : Value) (hx : X.length = 2 * n) (hd : D.length = 2) : (((X ++ D).toArray.setIfInBounds (n * 2) (.int .i64 p)).setIfInBounds (n * 2 + 1) v) = (X ++ pc [(p, v)]).toArray := by
  match D, hd with
  | [a, b], _ =>
    have e1 : n * 2 = X.length := by omega
    rw [e1]
    simp [pc]

theorem info_patch : (Tryz.prog.info? 113).map (fun i => (i.zero, i.size, i.bytes)) = some (some (.agg #[.int .i64 0, .slice none 0 0]), 2, 32) := by kernel_rfl

theorem pc_one {w : World} {qs : List Qt} {ps : List Pt} (h : Tells w qs ps) : ∀ v ∈ pc qs, v.oneCell' = true := by
  intro v hv
  unfold pc at hv
  rw [List.mem_flatMap] at hv
  obtain ⟨q, hq, hv⟩ := hv
  obtain ⟨i, hi, rfl⟩ := List.mem_iff_getElem.1 hq
  have hp : i < ps.length := by rw [← h.1]; exact hi
  obtain ⟨_, A, c, e, _⟩ := h.2 i _ _ (List.getElem?_eq_getElem hi) (List.getElem?_eq_getElem hp)
  simp at hv
  rcases hv with rfl | rfl
  · rfl
  · rw [e]; rfl

set_option maxRecDepth 100000 in
set_option maxHeartbeats 1000000 in
theorem with_any (A : Option Addr) (n c : Nat) (qs : List Qt) (p : Int) (B : Option Addr) (k e : Nat) (w : World) (hl : qs.length = n) (hn : n ≤ 1000) (h : Lies w A (pc qs)) (h1 : ∀ v ∈ pc qs, v.oneCell' = true) :
    Calls Tryz.prog 114 #[.slice A n c, .agg #[.int .i64 p, .slice B k e]] w fun e' w' => ∃ g, e' = .returned (.slice (some ⟨g, 0, none⟩) (n + 1) (n + 1)) ∧ w.heap.size ≤ g ∧ w'.heap[g]? = some (.cells (pc (qs ++ [(p, .slice B k e)])).toArray 113 (0, 0)) ∧ Below w.heap.size w w' := by
  obtain ⟨i0, hi, hz0, hz1, hz2⟩ := info_parts info_patch
  obtain ⟨Z, hZ⟩ : ∃ Z, Z = madeCells (Value.agg #[.int .i64 0, .slice none 0 0]).cells ((n + 1) * 2) := ⟨_, rfl⟩
  obtain ⟨X, hX⟩ : ∃ X, X = pc qs := ⟨_, rfl⟩
  have hmk : ∀ w : World, (Instr.makeSlice 25 (.int .i64 ((n : Int) + 1)) (.int .i64 ((n : Int) + 1))).run Tryz.prog w = .ok (.slice (some ⟨w.heap.size, 0, none⟩) (n + 1) (n + 1)) (w.alloc (.cells Z 113)) := by
    intro w
    have := run_make (P := Tryz.prog) w 25 113 i0 (.agg #[.int .i64 0, .slice none 0 0]) Tryz.underlying25 hi hz0 .i64 .i64 ((n : Int) + 1) ((n : Int) + 1) (by omega) (Int.le_refl _) (by rw [hz2]; omega) (by omega)
    rw [hz1] at this
    rw [hZ]
    simpa using this
  have HZ : Hid (Z.size = 2 * n + 2) := by rw [hZ, size_madeCells]; show _ = _; omega
  have HX : Hid (X.length = 2 * n) := by rw [hX, pc_len, hl]; rfl
  have HL : Hid (Lies w A X) := by rw [hX]; exact h
  have H1 : Hid (∀ v ∈ X, v.oneCell' = true) := by rw [hX]; exact h1
  have HE := Lib.hid hX
  clear h h1 hX hZ hl hi hz0 hz1 hz2
  go_enter Tryz.func114, Tryz.ntmps114
  go_wp2_with (with_reducible refine wpList_copy_two' rfl (.tmp 10) (.tmp 11) 25 25 rfl 113 Tryz.underlying25 ?c0 (w.heap.size + 1) (n + 1) (n + 1) A n c rfl rfl Z 113 ?c1 X ?c2 ?c3 ?c4 ?c5 ?_)
  case c0 => kernel_rfl
  case c1 => exact (two_new _ _ _ _ _).1
  case c2 => rw [HX.out]; show _ = min n (n + 1) * 2; omega
  case c3 => exact HL.out.keep (((Below.refl _ _).alloc (Nat.le_refl _) _).alloc (by simp) _)
  case c4 => rw [HX.out, HZ.out]; omega
  case c5 => exact H1.out
  intro w2 hg2 rs
  obtain ⟨Y, hY⟩ : ∃ Y, Y = X ++ Z.toList.drop X.length := ⟨_, rfl⟩
  have HY : Hid (Y = X ++ Z.toList.drop X.length) := hY
  have HYL : Hid (Y.length = 2 * n + 2) := by rw [hY]; have x := HX.out; have z := HZ.out; show _ = _; simp [x, z]
  rw [← hY] at hg2
  clear hY
  have k0 : w2.cell? ⟨w.heap.size, 0, none⟩ = some (.int .i64 p) := by
    rw [rs.cell (by simp)]
    exact cells_at (cs := [.int .i64 p, .slice B k e]) (two_new _ _ _ _ _).2 0 _ rfl
  have k1 : w2.cell? ⟨w.heap.size, 1, none⟩ = some (.slice B k e) := by
    rw [rs.cell (by simp)]
    exact cells_at (cs := [.int .i64 p, .slice B k e]) (two_new _ _ _ _ _).2 1 _ rfl
  have k2 : w2.cell? ⟨w.heap.size + 1, n * 2, none⟩ = some (Y[n * 2]'(by rw [HYL.out]; omega)) := by
    simp [World.cell?, hg2.out]
  have k3 : w2.cell? ⟨w.heap.size + 1, n * 2 + 1, none⟩ = some (Y[n * 2 + 1]'(by rw [HYL.out]; omega)) := by
    simp [World.cell?, hg2.out]
  have f2 : ∀ i, w2.frozen? ⟨w.heap.size + 1, i, none⟩ = false := fun i => by simp [World.frozen?, hg2.out]
  have RS := Lib.hid rs
  clear rs
  go_wp2
  go_ret
  refine ⟨w.heap.size + 1, rfl, by omega, ?_, ((RS.out.below (Nat.le_refl _)).mono (by simp : w.heap.size ≤ w.heap.size + 1) |> fun b => ((((Below.refl w.heap.size w).alloc (Nat.le_refl _) _).alloc (by simp) _).trans b)).setCell (by simp) _ |>.setCell (by simp) _⟩
  rw [Go.Joins.block_setCell (Go.Joins.block_setCell hg2.out _), pc_app]
  have x := HX.out
  have z := HZ.out
  rw [HY.out, ← HE.out]
  congr 2
  exact set_two X _ n p _ x (by simp [x, z])
end Go.Proofs.YtbighilgkmfemaaGreatDoor

/- The contract of Write of package mem. -/
namespace Go.Proofs.YtbighilgkmfemaaGreatDoor
open Go.RowKit

/-- A block of two cells. -/
def Box (w : World) (b : Nat) (x y : Value) (t : TypeId) : Prop := w.heap[b]? = some (.cells #[x, y] t (0, 0))
theorem Box.lt {w : World} {b : Nat} {x y : Value} {t : TypeId} (h : Box w b x y t) : b < w.heap.size := (Array.getElem?_eq_some_iff.1 h).1
theorem Box.keep {w w' : World} {b : Nat} {x y : Value} {t : TypeId} (h : Box w b x y t) (k : Below w.heap.size w w') : Box w' b x y t := (k.block b h.lt).trans h
theorem Box.row {w w' : World} {b g : Nat} {x y : Value} {t : TypeId} (h : Box w b x y t) (k : RowSet g w w') (hb : b ≠ g) : Box w' b x y t := (k.other b hb).trans h
theorem Box.use {w : World} {b : Nat} {x y : Value} {t : TypeId} (h : Box w b x y t) : w.cell? ⟨b, 0, none⟩ = some x ∧ w.cell? ⟨b, 1, none⟩ = some y ∧ w.frozen? ⟨b, 0, none⟩ = false ∧ w.frozen? ⟨b, 1, none⟩ = false := by
  unfold Box at h
  refine ⟨?_, ?_, ?_, ?_⟩ <;> simp [World.cell?, World.frozen?, h]
theorem box_new (w : World) (x y : Value) (t : TypeId) : Box (w.alloc (.cells #[x, y] t)) w.heap.size x y t := one_new w _ t
theorem box_two (w : World) (x y x' y' : Value) (t t' : TypeId) : Box ((w.alloc (.cells #[x, y] t)).alloc (.cells #[x', y'] t')) w.heap.size x y t ∧ Box ((w.alloc (.cells #[x, y] t)).alloc (.cells #[x', y'] t')) (w.heap.size + 1) x' y' t' :=
  ⟨(two_new w _ _ _ _).2, (two_new w _ _ _ _).1⟩
theorem below_two {w w1 : World} {o o' : Obj} (b : Below ((w.alloc o).alloc o').heap.size ((w.alloc o).alloc o') w1) : Below w.heap.size w w1 :=
  (((Below.refl _ w).alloc (Nat.le_refl _) o).alloc (by simp) o').trans (b.mono (by simp; omega))

theorem Box.put {w : World} {b : Nat} {x y : Value} {t : TypeId} (h : Box w b x y t) (x' y' : Value) : Box ((w.setCell ⟨b, 0, none⟩ x').setCell ⟨b, 1, none⟩ y') b x' y' t := by
  have h1 : (w.setCell ⟨b, 0, none⟩ x').heap[b]? = some (.cells (#[x, y].setIfInBounds 0 x') t (0, 0)) := Go.Joins.block_setCell h x'
  have h2 := Go.Joins.block_setCell (i := 1) h1 y'
  simpa [Box] using h2
theorem Box.got {w : World} {b : Nat} {x y : Value} {t : TypeId} (h : Box w b x y t) (x' y' : Value) : (w.setCell ⟨b, 0, none⟩ x').cell? ⟨b, 0, none⟩ = some x' ∧ ((w.setCell ⟨b, 0, none⟩ x').setCell ⟨b, 1, none⟩ y').cell? ⟨b, 1, none⟩ = some y' := by
  constructor
  · have h1 : (w.setCell ⟨b, 0, none⟩ x').heap[b]? = some (.cells (#[x, y].setIfInBounds 0 x') t (0, 0)) := Go.Joins.block_setCell h x'
    simp [World.cell?, h1]
  · exact (h.put x' y').use.2.1
theorem Byt.len {w : World} {A : Option Addr} {n c : Nat} {l : List UInt8} (h : Byt w (.slice A n c) l) : l.length = n := by
  obtain ⟨A', c', e, _⟩ := h
  injection e with _ e _
  exact e.symm
theorem Byt.lies {w : World} {A : Option Addr} {n c : Nat} {l : List UInt8} (h : Byt w (.slice A n c) l) : Lies w A (u8s l) := by
  obtain ⟨A', c', e, _, _, hl⟩ := h
  injection e with e _ _
  subst e
  exact hl
theorem Byt.form {w : World} {u : Value} {l : List UInt8} (h : Byt w u l) : ∃ A c, u = .slice A l.length c := by
  obtain ⟨A, c, e, _⟩ := h
  exact ⟨A, c, e⟩
theorem IsMem.byt {w : World} {x y : Value} {m : PM} (h : IsMem w (.agg #[x, y]) m) : Byt w x m.1 := by
  obtain ⟨x', y', e, hb, _⟩ := h
  injection e with e
  simp at e
  rw [e.1]
  exact hb
theorem IsMem.pats {w : World} {x y : Value} {m : PM} (h : IsMem w (.agg #[x, y]) m) : Pats w y m.2 := by
  obtain ⟨x', y', e, _, hb⟩ := h
  injection e with e
  simp at e
  rw [e.2]
  exact hb
theorem IsMem.len1 {w : World} {A : Option Addr} {L c : Nat} {y : Value} {m : PM} (h : IsMem w (.agg #[.slice A L c, y]) m) : m.1.length = L := h.byt.len
theorem IsMem.len2 {w : World} {P : Option Addr} {K d : Nat} {x : Value} {m : PM} (h : IsMem w (.agg #[x, .slice P K d]) m) : m.2.length = K := by
  obtain ⟨A', c', qs, e, _⟩ := h.pats
  injection e with _ e _
  exact e.symm
theorem IsMem.patq {w : World} {P : Option Addr} {K d : Nat} {x : Value} {m : PM} (h : IsMem w (.agg #[x, .slice P K d]) m) : ∃ qs : List Qt, Hid (qs.length = K) ∧ Lies w P (pc qs) ∧ Tells w qs m.2 := by
  have e2 := h.len2
  obtain ⟨A', c', qs, e, _, _, hl, ht⟩ := h.pats
  injection e with e _ _
  subst e
  exact ⟨qs, ht.1.trans e2, hl, ht⟩
theorem mem_mk {w : World} {x y : Value} {m : PM} (h : Byt w x m.1) (k : Pats w y m.2) : IsMem w (.agg #[x, y]) m := ⟨x, y, rfl, h, k⟩

theorem text_at (A P : Option Addr) (L c K d : Nat) (m : PM) (p n : Int) (w : World) (h : IsMem w (.agg #[.slice A L c, .slice P K d]) m) (hL : L ≤ 65536) (hn : n ≤ 9223372036854775807) :
    Calls Tryz.prog 82 #[.agg #[.slice A L c, .slice P K d], .int .i64 p, .int .i64 n] w fun e w' => ∃ B k e', e = .returned (.tuple #[.slice B k e', .int .i64 (codeF (okB L p n))]) ∧ Byt w' (.slice B k e') (textF m p n) ∧ Below w.heap.size w w' := by
  have e1 := h.len1
  have c := text_any _ m p n w h (by omega) hn
  rw [e1] at c
  refine c.mono fun e w' ⟨u, he, hu, hb⟩ => ?_
  obtain ⟨B, k, rfl⟩ := hu.form
  exact ⟨B, _, k, he, hu, hb⟩

theorem Box.two {w : World} {b : Nat} {A P : Option Addr} {n c k d : Nat} {t : TypeId} (h : Box w b (.slice A n c) (.slice P k d) t) {o : Nat} {v : Value} (hc : w.cell? ⟨b, o, none⟩ = some v) : ∃ A n c, v = .slice A n c := by
  unfold Box at h
  simp [World.cell?, h] at hc
  match o, hc with
  | 0, hc => simp at hc; exact ⟨_, _, _, hc.symm⟩
  | 1, hc => simp at hc; exact ⟨_, _, _, hc.symm⟩
  | o + 2, hc => simp at hc
/-- A write into a block of two slices touches neither bytes nor patches. -/
theorem Lies.row {w w' : World} {b : Nat} {A P A' : Option Addr} {n c k d : Nat} {t : TypeId} {xs : List Value} (h : Lies w A' xs) (hb : Box w b (.slice A n c) (.slice P k d) t) (rs : RowSet b w w') (hi : ∀ v r, xs = v :: r → ∃ q i, v = .int q i) : Lies w' A' xs := by
  rcases h with h | ⟨g, o, e, hg, hc⟩
  · exact .inl h
  · match xs, hi, hc with
    | [], _, _ => exact .inl rfl
    | v :: r, hi, hc =>
      have hne : g ≠ b := by
        intro e
        subst e
        obtain ⟨q, i, rfl⟩ := hi v r rfl
        obtain ⟨_, _, _, hv⟩ := hb.two (hc 0 _ rfl)
        cases hv
      exact .inr ⟨g, o, e, by rw [rs.size]; exact hg, fun j v hv => (rs.cell hne).trans (hc j v hv)⟩
theorem u8s_head (l : List UInt8) : ∀ v r, u8s l = v :: r → ∃ q i, v = Value.int q i := by
  intro v r h
  cases l with
  | nil => simp [u8s] at h
  | cons x l => simp [u8s] at h; exact ⟨_, _, h.1.symm⟩
theorem pc_head (qs : List Qt) : ∀ v r, pc qs = v :: r → ∃ q i, v = Value.int q i := by
  intro v r h
  cases qs with
  | nil => simp [pc] at h
  | cons x l => rw [pc_cons] at h; injection h with h _; exact ⟨_, _, h.symm⟩
theorem Byt.row {w w' : World} {b : Nat} {A P : Option Addr} {n c k d : Nat} {t : TypeId} {v : Value} {l : List UInt8} (h : Byt w v l) (hb : Box w b (.slice A n c) (.slice P k d) t) (rs : RowSet b w w') : Byt w' v l := by
  obtain ⟨A', c', h1, h2, h3, h4⟩ := h
  exact ⟨A', c', h1, h2, h3, h4.row hb rs (u8s_head l)⟩
theorem Tells.row {w w' : World} {b : Nat} {A P : Option Addr} {n c k d : Nat} {t : TypeId} {qs : List Qt} {ps : List Pt} (h : Tells w qs ps) (hb : Box w b (.slice A n c) (.slice P k d) t) (rs : RowSet b w w') : Tells w' qs ps :=
  ⟨h.1, fun i q p hq hp => ⟨(h.2 i q p hq hp).1, (h.2 i q p hq hp).2.row hb rs⟩⟩
theorem IsMem.row {w w' : World} {b : Nat} {A P : Option Addr} {n c k d : Nat} {t : TypeId} {v : Value} {m : PM} (h : IsMem w v m) (hb : Box w b (.slice A n c) (.slice P k d) t) (rs : RowSet b w w') : IsMem w' v m := by
  obtain ⟨x, y, h1, h2, A', c', qs, e, h3, h4, h5, h6⟩ := h
  exact ⟨x, y, h1, h2.row hb rs, A', c', qs, e, h3, h4, h5.row hb rs (pc_head qs), h6.row hb rs⟩
theorem row_put (w : World) (b : Nat) (x y : Value) : RowSet b w ((w.setCell ⟨b, 0, none⟩ x).setCell ⟨b, 1, none⟩ y) :=
  ⟨rfl, rfl, rfl, by simp [World.setCell], fun k hk => (Below.heap_setCell _ _ _ k hk).trans (Below.heap_setCell _ _ _ k hk)⟩

set_option maxRecDepth 100000 in
set_option maxHeartbeats 1000000 in
theorem write_no (A P A2 : Option Addr) (L c K d n c2 : Nat) (m : PM) (p : Int) (w : World) (HM : Hid (IsMem w (.agg #[.slice A L c, .slice P K d]) m)) (hL : L ≤ 65536) (hn : n ≤ 65536) (hno : okB L p n = false ∨ n = 0) :
    Calls Tryz.prog 84 #[.agg #[.slice A L c, .slice P K d], .int .i64 p, .slice A2 n c2] w fun e w' => e = .returned (.tuple #[.agg #[.slice A L c, .slice P K d], .int .i64 (codeF (okB L p n))]) ∧ Below w.heap.size w w' := by
  cases ok : okB L p n with
  | false =>
    clear hno
    go_enter Tryz.func84, Tryz.ntmps84
    go_wp2_with fail
    refine (text_at _ _ _ _ _ _ m _ _ _ (HM.out.keep (((Below.refl _ w).alloc (Nat.le_refl _) _).alloc (by simp) _)) hL (by omega)).mono ?_
    rw [ok, codeF_no]
    rintro e w1 ⟨B, k, e', rfl, hu1, b1⟩
    obtain ⟨k0, k1⟩ := box_two w (.slice A L c) (.slice P K d) (.slice none 0 0) (.slice none 0 0) 27 27
    obtain ⟨q0, q1, _, _⟩ := (k0.keep b1).use
    obtain ⟨q2, q3, q4, q5⟩ := (k1.keep b1).use
    have HG := Lib.hid ((k1.keep b1).got (.slice A L c) (.slice P K d))
    have HB := Lib.hid (below_two b1)
    clear k0 k1 b1 hu1
    go_wp2_with fail
    refine bodyPost_ret (v := .tuple #[.agg #[.slice A L c, .slice P K d], .int .i64 (-9)]) ?_ rfl ?_
    · obtain ⟨r0, r1⟩ := HG.out
      simp [results, Tryz.results84, go_sem, r0, r1]
    · exact ⟨rfl, (HB.out.setCell (by simp) _).setCell (by simp) _⟩
  | true =>
    have h0 : n = 0 := hno.resolve_left (by simp [ok])
    subst h0
    clear hno
    go_enter Tryz.func84, Tryz.ntmps84
    go_wp2_with fail
    refine (text_at _ _ _ _ _ _ m _ _ _ (HM.out.keep (((Below.refl _ w).alloc (Nat.le_refl _) _).alloc (by simp) _)) hL (by omega)).mono ?_
    rw [show okB L p 0 = true from ok, codeF_yes]
    rintro e w1 ⟨B, k, e', rfl, hu1, b1⟩
    obtain ⟨k0, k1⟩ := box_two w (.slice A L c) (.slice P K d) (.slice none 0 0) (.slice none 0 0) 27 27
    obtain ⟨q0, q1, _, _⟩ := (k0.keep b1).use
    obtain ⟨q2, q3, q4, q5⟩ := (k1.keep b1).use
    have HG := Lib.hid ((k1.keep b1).got (.slice A L c) (.slice P K d))
    have HB := Lib.hid (below_two b1)
    clear k0 k1 b1 hu1
    go_wp2_with fail
    refine bodyPost_ret (v := .tuple #[.agg #[.slice A L c, .slice P K d], .int .i64 0]) ?_ rfl ?_
    · obtain ⟨r0, r1⟩ := HG.out
      simp [results, Tryz.results84, go_sem, r0, r1]
    · exact ⟨rfl, (HB.out.setCell (by simp) _).setCell (by simp) _⟩

set_option maxRecDepth 100000 in
set_option maxHeartbeats 1000000 in
theorem write_yes (A P A2 : Option Addr) (L c K d n c2 : Nat) (m : PM) (b : List UInt8) (p : Int) (w : World) (HM : Hid (IsMem w (.agg #[.slice A L c, .slice P K d]) m)) (HU : Hid (Byt w (.slice A2 n c2) b)) (hL : L ≤ 65536) (hK : K < 1000) (hn : n ≤ 65536) (hn0 : 0 < n) (ok : okB L p n = true) :
    Calls Tryz.prog 84 #[.agg #[.slice A L c, .slice P K d], .int .i64 p, .slice A2 n c2] w fun e w' => ∃ A' c' P' d', e = .returned (.tuple #[.agg #[.slice A' L c', .slice P' (K + 1) d'], .int .i64 0]) ∧ IsMem w' (.agg #[.slice A' L c', .slice P' (K + 1) d']) (writeF m p b) ∧ Below w.heap.size w w' := by
  have hz : ((n : Int) == 0) = false := by simp; omega
  go_enter Tryz.func84, Tryz.ntmps84
  go_wp2_with fail
  refine (text_at _ _ _ _ _ _ m _ _ _ (HM.out.keep (((Below.refl _ w).alloc (Nat.le_refl _) _).alloc (by simp) _)) hL (by omega)).mono ?_
  rw [ok, codeF_yes]
  rintro e w1 ⟨B, k, e', rfl, hu1, b1⟩
  obtain ⟨k0, k1⟩ := box_two w (.slice A L c) (.slice P K d) (.slice none 0 0) (.slice none 0 0) 27 27
  have K0 := Lib.hid (k0.keep b1)
  have K1 := Lib.hid (k1.keep b1)
  obtain ⟨q0, q1, _, _⟩ := (k0.keep b1).use
  have HB := Lib.hid (below_two b1)
  have HT := Lib.hid hu1
  clear k0 k1 b1 hu1
  go_wp2_with fail
  refine (own_u8 _ _ _ m.1 _ HM.out.len1 hL (HM.out.keep HB.out).byt.lies).mono ?_
  rintro e w2 ⟨g, rfl, hg, hh, b2⟩
  clear q0 q1
  have K2 := Lib.hid (K0.out.keep b2)
  have K3 := Lib.hid (K1.out.keep b2)
  have HG := Lib.hid hh
  have HB2 := Lib.hid b2
  have hlt := K1.out.lt
  clear hh b2
  go_wp2_with fail
  refine (lay_any g L n c2 A2 p m.1 b w2 5 HM.out.len1 HU.out.len hL ok HG.out ((HU.out.keep HB.out).keep HB2.out).lies).mono ?_
  rintro e w3 ⟨rfl, hh, rs⟩
  have hne0 : w.heap.size ≠ g := by omega
  have hne1 : w.heap.size + 1 ≠ g := by omega
  have K4 := Lib.hid (K2.out.row rs hne0)
  have K5 := Lib.hid (K3.out.row rs hne1)
  obtain ⟨q0, q1, _, _⟩ := (K2.out.row rs hne0).use
  have HG3 := Lib.hid hh
  have RS := Lib.hid rs
  clear hh rs
  have hB3 : Below w.heap.size w w3 := (below_then HB.out HB2.out).trans (RS.out.below (by omega))
  have HB3 := Lib.hid hB3
  obtain ⟨qs, HQ, hlq, htl⟩ : ∃ qs : List Qt, Hid (qs.length = K) ∧ Lies w P (pc qs) ∧ Tells w qs m.2 := HM.out.patq
  have HLQ := Lib.hid hlq
  have HTQ := Lib.hid htl
  clear hB3 hlq htl
  go_wp2_with fail
  refine (with_any _ K _ qs _ _ _ _ _ HQ.out (by omega) (HLQ.out.keep HB3.out) (pc_one HTQ.out)).mono ?_
  rintro e w4 ⟨g4, rfl, hg4, hh, b4⟩
  obtain ⟨q2, q3, q4, q5⟩ := (K5.out.keep b4).use
  have K6 := Lib.hid (K5.out.keep b4)
  have HH := Lib.hid hh
  have HB4 := Lib.hid b4
  clear hh b4 q0 q1
  go_wp2_with fail
  refine bodyPost_ret (v := .tuple #[.agg #[.slice (some ⟨g, 0, none⟩) L L, .slice (some ⟨g4, 0, none⟩) (K + 1) (K + 1)], .int .i64 0]) ?_ rfl ?_
  · obtain ⟨r0, r1⟩ := K6.out.got (.slice (some ⟨g, 0, none⟩) L L) (.slice (some ⟨g4, 0, none⟩) (K + 1) (K + 1))
    simp [results, Tryz.results84, go_sem, r0, r1]
  · refine ⟨_, _, _, _, rfl, ?_, ((HB3.out.trans (HB4.out.mono HB3.out.size)).setCell (by simp) _).setCell (by simp) _⟩
    refine IsMem.row (w := w4) ?_ K6.out (row_put _ _ _ _)
    have ok' : okB m.1.length p b.length = true := by rw [HM.out.len1, HU.out.len]; exact ok
    have hl : (layF m.1 p b).length = L := (layF_len ok').trans HM.out.len1
    have hb0 : b ≠ [] := by
      intro e
      have := HU.out.len
      rw [e] at this
      simp at this
      omega
    have b24 : Below w1.heap.size w1 w4 := (HB2.out.trans (RS.out.below (by omega))).trans (HB4.out.mono (Nat.le_trans HB2.out.size (Nat.le_of_eq RS.out.size.symm)))
    rw [writeF_yes ok' hb0]
    refine mem_mk ?_ ?_
    · show Byt w4 _ (layF m.1 p b)
      rw [← hl]
      refine byt_block (t := 5) ?_ (by omega)
      rw [HB4.out.block g (by rw [RS.out.size]; exact (Array.getElem?_eq_some_iff.1 HG.out).1)]
      exact HG3.out
    · have e5 : (m.2 ++ [(p, textF m p b.length)]).length = K + 1 := by simp [HM.out.len2]
      refine ⟨some ⟨g4, 0, none⟩, K + 1, qs ++ [(p, .slice B k e')], by rw [e5], by rw [e5]; exact Nat.le_refl _, by unfold maxLen; omega, lies_block HH.out, Tells.snoc (p := (p, textF m p b.length)) (HTQ.out.keep (HB3.out.trans (HB4.out.mono HB3.out.size))) ?_⟩
      have := HT.out.keep b24
      rw [HU.out.len]
      exact this

/-- Write, whatever comes. -/
theorem write_any (v u : Value) (m : PM) (b : List UInt8) (p : Int) (w : World) (h : IsMem w v m) (hu : Byt w u b) (hL : m.1.length ≤ 65536) (hK : m.2.length < 1000) (hb : b.length ≤ 65536) :
    Calls Tryz.prog 84 #[v, .int .i64 p, u] w fun e w' => ∃ x y, e = .returned (.tuple #[.agg #[x, y], .int .i64 (codeF (okB m.1.length p b.length))]) ∧ IsMem w' (.agg #[x, y]) (writeF m p b) ∧ Below w.heap.size w w' := by
  have h' := h
  obtain ⟨A, c, P, d, rfl, _, _⟩ := h.parts
  have hu' := hu
  obtain ⟨A2, c2, rfl⟩ := hu.form
  by_cases hn : okB m.1.length p b.length = false ∨ b.length = 0
  · refine (write_no A P A2 _ c _ d _ c2 m p w h' hL hb hn).mono fun e w' ⟨he, hw⟩ => ⟨_, _, he, ?_, hw⟩
    have e : writeF m p b = m := by
      rcases hn with hn | hn
      · exact writeF_no hn
      · rw [List.eq_nil_of_length_eq_zero hn]; exact writeF_nil
    rw [e]
    exact h'.keep hw
  · have ok : okB m.1.length p b.length = true := by
      cases e : okB m.1.length p b.length with
      | true => rfl
      | false => exact absurd (.inl e) hn
    refine (write_yes A P A2 _ c _ d _ c2 m b p w h' hu' hL hK hb (by omega) ok).mono fun e w' ⟨A', c', P', d', he, hm, hw⟩ => ⟨_, _, ?_, hm, hw⟩
    rw [ok, codeF_yes]
    exact he
end Go.Proofs.YtbighilgkmfemaaGreatDoor

/- Contracts of New, cellCode, Fetch, FetchByte, Mark and Free of package mem, and of the document's own. -/
namespace Go.Proofs.YtbighilgkmfemaaGreatDoor
open Go.RowKit

theorem cellC_no {L : Nat} {p : Int} (h : okB L p 8 = false) : cellC L p = -9 := by unfold cellC; rw [h]; rfl
theorem cellC_align {L : Nat} {p : Int} (h : okB L p 8 = true) (h8 : p % 8 ≠ 0) : cellC L p = -23 := by unfold cellC; rw [if_pos h, if_neg h8]
theorem cellC_ok {L : Nat} {p : Int} (h : okB L p 8 = true) (h8 : p % 8 = 0) : cellC L p = 0 := by unfold cellC; rw [if_pos h, if_pos h8]

set_option maxRecDepth 100000 in
set_option maxHeartbeats 1000000 in
theorem cellCode_any (A P : Option Addr) (L c K d : Nat) (p : Int) (w : World) (hL : L ≤ 65536) :
    Calls Tryz.prog 103 #[.agg #[.slice A L c, .slice P K d], .int .i64 p] w fun e w' => e = .returned (.int .i64 (cellC L p)) ∧ Below w.heap.size w w' := by
  cases ok : okB L p 8 with
  | false =>
    have H := Lib.hid (cellC_no ok)
    go_enter Tryz.func103, Tryz.ntmps103
    go_wp2_with (go_at_call 109; (with_reducible refine (there_any _ _ _ _ _ _ _ _ _ (by omega) (by omega)).mono ?_); rintro e w1 ⟨rfl, b1⟩)
    go_ret
    exact ⟨ret_int H.out.symm, box_below b1⟩
  | true =>
    have hok := (okB_iff _ _ _).1 ok
    have h0 : 0 ≤ p := by omega
    by_cases h8 : p % 8 = 0
    · have H := Lib.hid (cellC_ok ok h8)
      have h8' : (p % 8 != 0) = false := by simp [h8]
      clear h8 hok
      go_enter Tryz.func103, Tryz.ntmps103
      go_wp2_with (go_at_call 109; (with_reducible refine (there_any _ _ _ _ _ _ _ _ _ (by omega) (by omega)).mono ?_); rintro e w1 ⟨rfl, b1⟩)
      go_ret
      exact ⟨ret_int H.out.symm, box_below b1⟩
    · have H := Lib.hid (cellC_align ok h8)
      have h8' : (p % 8 != 0) = true := by simp [h8]
      clear h8 hok
      go_enter Tryz.func103, Tryz.ntmps103
      go_wp2_with (go_at_call 109; (with_reducible refine (there_any _ _ _ _ _ _ _ _ _ (by omega) (by omega)).mono ?_); rintro e w1 ⟨rfl, b1⟩)
      go_ret
      exact ⟨ret_int H.out.symm, box_below b1⟩

set_option maxRecDepth 100000 in
set_option maxHeartbeats 1000000 in
theorem rcellAt_any (A P : Option Addr) (L c K d : Nat) (p : Int) (w : World) (hL : L ≤ 65536) :
    Calls Tryz.prog 79 #[.agg #[.slice A L c, .slice P K d], .int .i64 p] w fun e w' => e = .returned (.int .i64 (cellC L p)) ∧ Below w.heap.size w w' := by
  cases ok : okB L p 8 with
  | false =>
    have H := Lib.hid (cellC_no ok)
    go_enter Tryz.func79, Tryz.ntmps79
    go_wp2_with (go_at_call 98; (with_reducible refine (rthere_any _ _ _ _ _ _ _ _ _ (by omega) (by omega)).mono ?_); rintro e w1 ⟨rfl, b1⟩)
    go_ret
    exact ⟨ret_int H.out.symm, box_below b1⟩
  | true =>
    have hok := (okB_iff _ _ _).1 ok
    have h0 : 0 ≤ p := by omega
    by_cases h8 : p % 8 = 0
    · have H := Lib.hid (cellC_ok ok h8)
      have h8' : (p % 8 != 0) = false := by simp [h8]
      clear h8 hok
      go_enter Tryz.func79, Tryz.ntmps79
      go_wp2_with (go_at_call 98; (with_reducible refine (rthere_any _ _ _ _ _ _ _ _ _ (by omega) (by omega)).mono ?_); rintro e w1 ⟨rfl, b1⟩)
      go_ret
      exact ⟨ret_int H.out.symm, box_below b1⟩
    · have H := Lib.hid (cellC_align ok h8)
      have h8' : (p % 8 != 0) = true := by simp [h8]
      clear h8 hok
      go_enter Tryz.func79, Tryz.ntmps79
      go_wp2_with (go_at_call 98; (with_reducible refine (rthere_any _ _ _ _ _ _ _ _ _ (by omega) (by omega)).mono ?_); rintro e w1 ⟨rfl, b1⟩)
      go_ret
      exact ⟨ret_int H.out.symm, box_below b1⟩

theorem mem_cell {w : World} {A : Option Addr} {L c : Nat} {y : Value} {m : PM} (h : IsMem w (.agg #[.slice A L c, y]) m) {q : Nat} (hq : q < L) : ∃ g o, A = some ⟨g, o, none⟩ ∧ g < w.heap.size ∧ w.cell? ⟨g, o + q, none⟩ = some (.int .u8 ((m.1.getD q 0).toNat : Int)) ∧ L ≤ c := by
  have hl := h.len1
  have hb := h.byt
  have hlies := hb.lies
  have hc : L ≤ c := by
    obtain ⟨A', c', e, h2, _⟩ := hb
    injection e with _ _ e
    omega
  rcases hlies with e | ⟨g, o, e, hg, hcell⟩
  · have := congrArg List.length e
    rw [u8s_len, hl] at this
    simp at this
    omega
  · refine ⟨g, o, e, hg, hcell q _ ?_, hc⟩
    rw [u8s_at (by omega)]
    simp [List.getD, List.getElem?_eq_getElem (by omega : q < m.1.length)]

end Go.Proofs.YtbighilgkmfemaaGreatDoor

/- The document's own Text: bytes that are appended one by one. -/
namespace Go.Proofs.YtbighilgkmfemaaGreatDoor
open Go.RowKit

theorem own_byt {w : World} {base n : Nat} {v : Value} {l : List UInt8} (h : w.ownsRow base 5 1 v n (u8s l)) : Byt w v l := by
  have hl := h.1
  rw [u8s_len, Nat.mul_one] at hl
  subst hl
  rcases h.2 with ⟨rfl, h0⟩ | ⟨g, cap, cur, rfl, _, hg, hnc, hcm, _, ht⟩
  · have : l = [] := List.eq_nil_of_length_eq_zero h0
    subst this
    exact byt_nil w
  · refine ⟨some ⟨g, 0, none⟩, cap, rfl, hnc, hcm, .inr ⟨g, 0, rfl, (Array.getElem?_eq_some_iff.1 hg).1, fun j x hx => ?_⟩⟩
    rw [← ht, List.getElem?_take] at hx
    split at hx
    · rw [Nat.zero_add]
      simp [World.cell?, hg]
      simpa using hx
    · cases hx
theorem own_from {w : World} {base e size n : Nat} {v : Value} {xs : List Value} (h : w.ownsRow base e size v n xs) : ∀ k, v.ownBlock = some k → base ≤ k := fun k hk => (h.lt k hk).1

end Go.Proofs.YtbighilgkmfemaaGreatDoor

/- Contracts of the document's own Put and Get for layer 1; cells as bytes. -/
namespace Go.Proofs.YtbighilgkmfemaaGreatDoor
open Go.RowKit

def bytesTo (U k : Nat) : List Value := (List.range k).map fun i => Value.int .u8 (byteOf U i : Int)
theorem bytesTo_eight (U : Nat) : bytesTo U 8 = [.int .u8 (byteOf U 0 : Int), .int .u8 (byteOf U 1 : Int), .int .u8 (byteOf U 2 : Int), .int .u8 (byteOf U 3 : Int), .int .u8 (byteOf U 4 : Int), .int .u8 (byteOf U 5 : Int), .int .u8 (byteOf U 6 : Int), .int .u8 (byteOf U 7 : Int)] := rfl

set_option maxRecDepth 100000 in
set_option maxHeartbeats 1000000 in
theorem rget_yes (b off cap : Nat) (x0 x1 x2 x3 x4 x5 x6 x7 : Nat) (w : World) (h0 : x0 < 256) (h1 : x1 < 256) (h2 : x2 < 256) (h3 : x3 < 256) (h4 : x4 < 256) (h5 : x5 < 256) (h6 : x6 < 256) (h7 : x7 < 256) (k0 : w.cell? ⟨b, off, none⟩ = some (.int .u8 (x0 : Int))) (k1 : w.cell? ⟨b, off + 1, none⟩ = some (.int .u8 (x1 : Int))) (k2 : w.cell? ⟨b, off + 2, none⟩ = some (.int .u8 (x2 : Int))) (k3 : w.cell? ⟨b, off + 3, none⟩ = some (.int .u8 (x3 : Int))) (k4 : w.cell? ⟨b, off + 4, none⟩ = some (.int .u8 (x4 : Int))) (k5 : w.cell? ⟨b, off + 5, none⟩ = some (.int .u8 (x5 : Int))) (k6 : w.cell? ⟨b, off + 6, none⟩ = some (.int .u8 (x6 : Int))) (k7 : w.cell? ⟨b, off + 7, none⟩ = some (.int .u8 (x7 : Int))) :
    Calls Tryz.prog 80 #[.slice (some ⟨b, off, none⟩) 8 cap] w fun e w' => e = .returned (.tuple #[.int .i64 (wrap64 (eight x0 x1 x2 x3 x4 x5 x6 x7 : Int)), .int .i64 0]) ∧ w = w' := by
  go_enter Tryz.func80, Tryz.ntmps80
  go_wp2
  refine wp_loop_rounds 9 ?_
  iterate 9 (rw [rounds_succ]; go_wp2)
  go_ret2
  exact ⟨ret_two (congrArg wrap64 (by unfold eight; omega)) rfl, rfl⟩

/-- A cell's bytes. -/
def cellBytes (n : Int) : List UInt8 := [UInt8.ofNat (byteOf (un n) 0), UInt8.ofNat (byteOf (un n) 1), UInt8.ofNat (byteOf (un n) 2), UInt8.ofNat (byteOf (un n) 3), UInt8.ofNat (byteOf (un n) 4), UInt8.ofNat (byteOf (un n) 5), UInt8.ofNat (byteOf (un n) 6), UInt8.ofNat (byteOf (un n) 7)]
theorem cellBytes_len (n : Int) : (cellBytes n).length = 8 := rfl
theorem u8_byte (n i : Nat) : (UInt8.ofNat (byteOf n i)).toNat = byteOf n i := by
  rw [UInt8.toNat_ofNat']
  exact Nat.mod_eq_of_lt (byteOf_lt _ _)
theorem cellBytes_u8 (n : Int) : u8s (cellBytes n) = bytesTo (un n) 8 := by
  rw [bytesTo_eight]
  simp only [u8s, cellBytes, List.map_cons, List.map_nil, u8_byte]

theorem put_byt (n : Int) (w : World) : Calls Tryz.prog 123 #[.int .i64 n] w fun e w' => ∃ B k c, e = .returned (.slice B k c) ∧ Byt w' (.slice B k c) (cellBytes n) ∧ Below w.heap.size w w' := by
  refine (put_any n w).mono fun e w' ⟨g, he, _, hh, hb⟩ => ⟨_, _, _, he, ?_, hb⟩
  refine byt_block (l := cellBytes n) (t := 5) ?_ (by rw [cellBytes_len]; omega)
  rw [cellBytes_u8, bytesTo_eight]
  exact hh
/-- The byte at a place, as a number; the cell at a place. -/
def bn (m : PM) (k : Nat) : Nat := (m.1.getD k 0).toNat
theorem bn_lt (m : PM) (k : Nat) : bn m k < 256 := UInt8.toNat_lt _
def fetchF (m : PM) (p : Int) : Int := if cellC m.1.length p = 0 then wrap64 (eight (bn m p.toNat) (bn m (p.toNat + 1)) (bn m (p.toNat + 2)) (bn m (p.toNat + 3)) (bn m (p.toNat + 4)) (bn m (p.toNat + 5)) (bn m (p.toNat + 6)) (bn m (p.toNat + 7)) : Int) else 0

theorem mem_cells {w : World} {A : Option Addr} {L c : Nat} {y : Value} {m : PM} (h : IsMem w (.agg #[.slice A L c, y]) m) (hL : 0 < L) : ∃ g o, A = some ⟨g, o, none⟩ ∧ g < w.heap.size ∧ L ≤ c ∧ ∀ q, q < L → w.cell? ⟨g, o + q, none⟩ = some (.int .u8 (bn m q : Int)) := by
  obtain ⟨g, o, rfl, hg, _, hc⟩ := mem_cell h hL
  refine ⟨g, o, rfl, hg, hc, fun q hq => ?_⟩
  obtain ⟨g', o', e, _, hc', _⟩ := mem_cell h hq
  injection e with e
  injection e with e1 e2
  subst e1 e2
  exact hc'

set_option maxRecDepth 100000 in
set_option maxHeartbeats 1000000 in
theorem fetch_at (A P : Option Addr) (L c K d : Nat) (m : PM) (p : Int) (w : World) (HM : Hid (IsMem w (.agg #[.slice A L c, .slice P K d]) m)) (hL : L ≤ 65536) :
    Calls Tryz.prog 70 #[.agg #[.slice A L c, .slice P K d], .int .i64 p] w fun e w' => e = .returned (.tuple #[.int .i64 (fetchF m p), .int .i64 (cellC L p)]) ∧ Below w.heap.size w w' := by
  obtain ⟨C, hC⟩ : ∃ C, cellC L p = C := ⟨_, rfl⟩
  by_cases h0 : C = 0
  · subst h0
    have ok : okB L p 8 = true := by
      cases e : okB L p 8 with
      | true => rfl
      | false => rw [cellC_no e] at hC; cases hC
    have hok := (okB_iff _ _ _).1 ok
    obtain ⟨q, rfl⟩ := Int.eq_ofNat_of_zero_le (by omega : 0 ≤ p)
    have hq : q + 8 ≤ L := by omega
    obtain ⟨g, o, rfl, hg, hLc, hcl⟩ := mem_cells HM.out (by omega)
    have HF : Hid (fetchF m q = wrap64 (eight (bn m q) (bn m (q + 1)) (bn m (q + 2)) (bn m (q + 3)) (bn m (q + 4)) (bn m (q + 5)) (bn m (q + 6)) (bn m (q + 7)) : Int)) := by unfold fetchF; rw [if_pos (by rw [HM.out.len1]; exact hC)]; rfl
    have HC := Lib.hid hC
    have hne : c ≠ q := by omega
    have HCL := Lib.hid hcl
    clear hC hok ok hcl
    go_enter Tryz.func70, Tryz.ntmps70
    go_wp2_with fail
    refine (cellCode_any _ _ _ _ _ _ _ _ hL).mono ?_
    rw [HC.out]
    rintro e w1 ⟨rfl, b1⟩
    obtain ⟨k0, k1⟩ := box_cells b1
    have HB := Lib.hid (box_below b1)
    clear b1
    go_wp2_with fail
    refine (get_yes ⟨g, o + q, none⟩ _ (bn m q) (bn m (q + 1)) (bn m (q + 2)) (bn m (q + 3)) (bn m (q + 4)) (bn m (q + 5)) (bn m (q + 6)) (bn m (q + 7)) _ (Nat.lt_of_lt_of_le hg HB.out.size) (bn_lt _ _) (bn_lt _ _) (bn_lt _ _) (bn_lt _ _) (bn_lt _ _) (bn_lt _ _) (bn_lt _ _) (bn_lt _ _) (Lib.hid ?_)).mono ?_
    · intro j v hv
      rw [add_at, HB.out.cell (p := ⟨g, o + q + j, none⟩) hg]
      match j, hv with
      | 0, hv => simp at hv; rw [← hv]; exact HCL.out q (by omega)
      | 1, hv => simp at hv; rw [← hv]; exact HCL.out (q + 1) (by omega)
      | 2, hv => simp at hv; rw [← hv]; exact HCL.out (q + 2) (by omega)
      | 3, hv => simp at hv; rw [← hv]; exact HCL.out (q + 3) (by omega)
      | 4, hv => simp at hv; rw [← hv]; exact HCL.out (q + 4) (by omega)
      | 5, hv => simp at hv; rw [← hv]; exact HCL.out (q + 5) (by omega)
      | 6, hv => simp at hv; rw [← hv]; exact HCL.out (q + 6) (by omega)
      | 7, hv => simp at hv; rw [← hv]; exact HCL.out (q + 7) (by omega)
      | j + 8, hv => simp at hv
    rw [← HF.out]
    rintro e w2 ⟨rfl, b2⟩
    have HB2 := Lib.hid b2
    clear b2
    go_wp2_with fail
    go_ret2
    exact ⟨by rw [HC.out]; rfl, below_then HB.out HB2.out⟩
  · have hF : fetchF m p = 0 := by unfold fetchF; rw [if_neg (by rw [HM.out.len1, hC]; exact h0)]
    rw [hF, hC]
    have HC := Lib.hid hC
    have h0' : (C != 0) = true := by simp [h0]
    clear hC hF h0
    go_enter Tryz.func70, Tryz.ntmps70
    go_wp2_with fail
    refine (cellCode_any _ _ _ _ _ _ _ _ hL).mono ?_
    rw [HC.out]
    rintro e w1 ⟨rfl, b1⟩
    have HB := Lib.hid (box_below b1)
    clear b1
    go_wp2_with fail
    go_ret2
    exact ⟨rfl, HB.out⟩

set_option maxRecDepth 100000 in
set_option maxHeartbeats 1000000 in
theorem rfetch_at (A P : Option Addr) (L c K d : Nat) (m : PM) (p : Int) (w : World) (HM : Hid (IsMem w (.agg #[.slice A L c, .slice P K d]) m)) (hL : L ≤ 65536) :
    Calls Tryz.prog 38 #[.agg #[.slice A L c, .slice P K d], .int .i64 p] w fun e w' => e = .returned (.tuple #[.int .i64 (fetchF m p), .int .i64 (cellC L p)]) ∧ Below w.heap.size w w' := by
  obtain ⟨C, hC⟩ : ∃ C, cellC L p = C := ⟨_, rfl⟩
  by_cases h0 : C = 0
  · subst h0
    have ok : okB L p 8 = true := by
      cases e : okB L p 8 with
      | true => rfl
      | false => rw [cellC_no e] at hC; cases hC
    have hok := (okB_iff _ _ _).1 ok
    obtain ⟨q, rfl⟩ := Int.eq_ofNat_of_zero_le (by omega : 0 ≤ p)
    have hq : q + 8 ≤ L := by omega
    obtain ⟨g, o, rfl, hg, hLc, hcl⟩ := mem_cells HM.out (by omega)
    have HF : Hid (fetchF m q = wrap64 (eight (bn m q) (bn m (q + 1)) (bn m (q + 2)) (bn m (q + 3)) (bn m (q + 4)) (bn m (q + 5)) (bn m (q + 6)) (bn m (q + 7)) : Int)) := by unfold fetchF; rw [if_pos (by rw [HM.out.len1]; exact hC)]; rfl
    have HC := Lib.hid hC
    have hne : c ≠ q := by omega
    have HCL := Lib.hid hcl
    clear hC hok ok hcl
    go_enter Tryz.func38, Tryz.ntmps38
    go_wp2_with fail
    refine (rcellAt_any _ _ _ _ _ _ _ _ hL).mono ?_
    rw [HC.out]
    rintro e w1 ⟨rfl, b1⟩
    obtain ⟨k0, k1⟩ := box_cells b1
    have HB := Lib.hid (box_below b1)
    clear b1
    go_wp2_with fail
    have hcl : ∀ j, j < 8 → w1.cell? ⟨g, o + q + j, none⟩ = some (.int .u8 (bn m (q + j) : Int)) := fun j hj => by
      rw [HB.out.cell (p := ⟨g, o + q + j, none⟩) hg, Nat.add_assoc]
      exact HCL.out (q + j) (by omega)
    refine (rget_yes g (o + q) _ (bn m q) (bn m (q + 1)) (bn m (q + 2)) (bn m (q + 3)) (bn m (q + 4)) (bn m (q + 5)) (bn m (q + 6)) (bn m (q + 7)) _ (bn_lt _ _) (bn_lt _ _) (bn_lt _ _) (bn_lt _ _) (bn_lt _ _) (bn_lt _ _) (bn_lt _ _) (bn_lt _ _) (hcl 0 (by omega)) (hcl 1 (by omega)) (hcl 2 (by omega)) (hcl 3 (by omega)) (hcl 4 (by omega)) (hcl 5 (by omega)) (hcl 6 (by omega)) (hcl 7 (by omega))).mono ?_
    clear hcl
    rw [← HF.out]
    rintro e w2 ⟨rfl, rfl⟩
    go_wp2_with fail
    go_ret2
    exact ⟨by rw [HC.out]; rfl, HB.out⟩
  · have hF : fetchF m p = 0 := by unfold fetchF; rw [if_neg (by rw [HM.out.len1, hC]; exact h0)]
    rw [hF, hC]
    have HC := Lib.hid hC
    have h0' : (C != 0) = true := by simp [h0]
    clear hC hF h0
    go_enter Tryz.func38, Tryz.ntmps38
    go_wp2_with fail
    refine (rcellAt_any _ _ _ _ _ _ _ _ hL).mono ?_
    rw [HC.out]
    rintro e w1 ⟨rfl, b1⟩
    have HB := Lib.hid (box_below b1)
    clear b1
    go_wp2_with fail
    go_ret2
    exact ⟨rfl, HB.out⟩

end Go.Proofs.YtbighilgkmfemaaGreatDoor
