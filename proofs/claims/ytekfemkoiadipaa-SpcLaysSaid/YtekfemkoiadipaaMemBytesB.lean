/- Contracts of Put and Get of package cell. -/
import Derived.Test.YtekfemkoiadipaaMemBytesA
import Derived.Laws.CopyOwn
namespace Go.Proofs.Ytekfemkoiadipaa
open Go.RowKit

/-- A slice of eight bytes in memory of its own: those of n. -/
def IsPut (n : Nat) (w : World) (e : Ending) (w' : World) : Prop :=
  ∃ g, e = .returned (.slice (some ⟨g, 0, none⟩) 8 8) ∧ w.heap.size ≤ g ∧ w'.heap[g]? = some (.cells #[.int .u8 (byteOf n 0 : Int), .int .u8 (byteOf n 1 : Int), .int .u8 (byteOf n 2 : Int), .int .u8 (byteOf n 3 : Int), .int .u8 (byteOf n 4 : Int), .int .u8 (byteOf n 5 : Int), .int .u8 (byteOf n 6 : Int), .int .u8 (byteOf n 7 : Int)] 5 (0, 0)) ∧ Below w.heap.size w w'

theorem cells_at {w : World} {g : Nat} {cs : List Value} {t : TypeId} (h : w.heap[g]? = some (.cells cs.toArray t (0, 0))) (j : Nat) (v : Value) (hv : cs[j]? = some v) : w.cell? ((⟨g, 0, none⟩ : Addr).add j) = some v := by
  unfold World.cell? Addr.add
  by_cases h0 : j = 0
  · subst h0; simp [h, hv]
  · simp [h0, h, hv]

theorem two_new (w1 : World) (a b : Array Value) (s t : TypeId) : ((w1.alloc (.cells a s)).alloc (.cells b t)).heap[w1.heap.size + 1]? = some (.cells b t (0, 0)) ∧ ((w1.alloc (.cells a s)).alloc (.cells b t)).heap[w1.heap.size]? = some (.cells a s (0, 0)) := by
  constructor
  · show ((w1.heap.push (.cells a s)).push (.cells b t))[w1.heap.size + 1]? = _
    rw [Array.getElem?_push, if_pos (by simp)]
  · show ((w1.heap.push (.cells a s)).push (.cells b t))[w1.heap.size]? = _
    simp [Array.getElem?_push]

set_option maxRecDepth 100000 in
set_option maxHeartbeats 1000000 in
theorem put_any (n : Int) (w : World) :
    Calls Try.prog 27 #[.int .i64 n] w (IsPut (un n) w) := by
  have e1 := un_cast n
  have hmk : ∀ w : World, (Instr.makeSlice 22 (.int .i64 8) (.int .i64 8)).run Try.prog w = .ok (.slice (some ⟨w.heap.size, 0, none⟩) 8 8) (w.alloc (.cells #[.int .u8 0, .int .u8 0, .int .u8 0, .int .u8 0, .int .u8 0, .int .u8 0, .int .u8 0, .int .u8 0] 5)) := fun _ => by kernel_rfl
  go_enter Try.func27, Try.ntmps27
  go_wp2_with (first | (go_at_call 37; refine (spread_any _ _).mono ?_; rintro e w1 ⟨rfl, hb⟩) | (with_reducible refine wpList_copy_splice rfl (.tmp 9) (.tmp 10) 22 22 rfl 5 Try.underlying22 ?c0 (some ⟨w1.heap.size + 1, 0, none⟩) (some ⟨w1.heap.size, 0, none⟩) 8 8 8 8 rfl rfl (w1.heap.size + 1) 0 [.int .u8 0, .int .u8 0, .int .u8 0, .int .u8 0, .int .u8 0, .int .u8 0, .int .u8 0, .int .u8 0] 5 ?c1 [.int .u8 (byteOf (un n) 0 : Int), .int .u8 (byteOf (un n) 1 : Int), .int .u8 (byteOf (un n) 2 : Int), .int .u8 (byteOf (un n) 3 : Int), .int .u8 (byteOf (un n) 4 : Int), .int .u8 (byteOf (un n) 5 : Int), .int .u8 (byteOf (un n) 6 : Int), .int .u8 (byteOf (un n) 7 : Int)] rfl (fun _ => ⟨rfl, ⟨w1.heap.size, 0, none⟩, rfl, fun j v h => cells_at (two_new _ _ _ _ _).2 j v h⟩) ?c3 ?c4 w.heap.size w ?c5 ?c6 ?_))
  case c0 => kernel_rfl
  case c1 => exact (two_new _ _ _ _ _).1
  case c3 => simp
  case c4 => simp [Value.oneCell']
  case c5 => exact (hb.alloc hb.size _).alloc (by have := hb.size; simp; omega) _
  case c6 => have := hb.size; omega
  intro w2 hg hb2
  go_wp2
  go_ret
  exact ⟨w1.heap.size + 1, rfl, by have := hb.size; omega, hg.out, hb2⟩
end Go.Proofs.Ytekfemkoiadipaa
