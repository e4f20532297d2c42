/- The contract of Get of package cell. -/
import Derived.Test.YtngmkbbeafefaaaMemBytesB
namespace Go.Proofs.Ytngmkbbeafefaaa
open Go.RowKit

set_option maxHeartbeats 400000 in
theorem get_no (a : Option Addr) (len cap : Nat) (w : World) (h : len ≠ 8) :
    Calls Try.prog 49 #[.slice a len cap] w fun e w' => e = .returned (.tuple #[.int .i64 0, .int .i64 (-24)]) ∧ w = w' := by
  have h1 : ((len : Int) != 8) = true := by simp; omega
  have H := Lib.hid h
  clear h
  go_enter Try.func49, Try.ntmps49
  go_wp2
  go_ret2
  exact ⟨rfl, rfl⟩

theorem add_block (x : Addr) (j : Nat) : (x.add j).block = x.block := by unfold Addr.add; split <;> rfl
theorem src_new {w : World} {x : Addr} (hx : x.block < w.heap.size) (o : Obj) {cs : List Value} (h : ∀ j v, cs[j]? = some v → w.cell? (x.add j) = some v) : ∀ j v, cs[j]? = some v → (w.alloc o).cell? (x.add j) = some v := by
  intro j v hv
  have hb : Below w.heap.size w (w.alloc o) := (Below.refl _ _).alloc (Nat.le_refl _) _
  rw [hb.cell (p := x.add j) (by rw [add_block]; exact hx)]
  exact h j v hv

theorem one_new (w : World) (c : Array Value) (t : TypeId) : (w.alloc (.cells c t)).heap[w.heap.size]? = some (.cells c t (0, 0)) := (MapKept.heap_alloc w _).1

set_option maxRecDepth 100000 in
set_option maxHeartbeats 1000000 in
theorem get_yes (x : Addr) (cap : Nat) (x0 x1 x2 x3 x4 x5 x6 x7 : Nat) (w : World) (hx : x.block < w.heap.size) (h0 : x0 < 256) (h1 : x1 < 256) (h2 : x2 < 256) (h3 : x3 < 256) (h4 : x4 < 256) (h5 : x5 < 256) (h6 : x6 < 256) (h7 : x7 < 256) (hsrc : Hid (∀ j v, [.int .u8 (x0 : Int), .int .u8 (x1 : Int), .int .u8 (x2 : Int), .int .u8 (x3 : Int), .int .u8 (x4 : Int), .int .u8 (x5 : Int), .int .u8 (x6 : Int), .int .u8 (x7 : Int)][j]? = some v → w.cell? (x.add j) = some v)) :
    Calls Try.prog 49 #[.slice (some x) 8 cap] w fun e w' => e = .returned (.tuple #[.int .i64 (wrap64 (eight x0 x1 x2 x3 x4 x5 x6 x7 : Int)), .int .i64 0]) ∧ Below w.heap.size w w' := by
  go_enter Try.func49, Try.ntmps49
  go_wp2_with (with_reducible refine wpList_copy_splice rfl (.tmp 8) (.tmp 9) 22 22 rfl 5 Try.underlying22 ?c0 (some ⟨w.heap.size, 0, none⟩) (some x) 8 8 8 cap rfl rfl w.heap.size 0 [.int .u8 0, .int .u8 0, .int .u8 0, .int .u8 0, .int .u8 0, .int .u8 0, .int .u8 0, .int .u8 0] 93 ?c1 [.int .u8 (x0 : Int), .int .u8 (x1 : Int), .int .u8 (x2 : Int), .int .u8 (x3 : Int), .int .u8 (x4 : Int), .int .u8 (x5 : Int), .int .u8 (x6 : Int), .int .u8 (x7 : Int)] rfl (fun _ => ⟨rfl, x, rfl, src_new hx _ hsrc.out⟩) ?c3 ?c4 w.heap.size w ?c5 ?c6 ?_)
  case c0 => kernel_rfl
  case c1 => exact one_new _ _ _
  case c3 => simp
  case c4 => simp [Value.oneCell']
  case c5 => exact (Below.refl _ _).alloc (Nat.le_refl _) _
  case c6 => omega
  intro w2 hg hb2
  have hg' : w2.heap[w.heap.size]? = some (.cells [.int .u8 (x0 : Int), .int .u8 (x1 : Int), .int .u8 (x2 : Int), .int .u8 (x3 : Int), .int .u8 (x4 : Int), .int .u8 (x5 : Int), .int .u8 (x6 : Int), .int .u8 (x7 : Int)].toArray 93 (0, 0)) := hg.out
  have k0 : w2.cell? ⟨w.heap.size, 0, none⟩ = some (.int .u8 (x0 : Int)) := cells_at hg' 0 _ rfl
  have k1 : w2.cell? ⟨w.heap.size, 1, none⟩ = some (.int .u8 (x1 : Int)) := cells_at hg' 1 _ rfl
  have k2 : w2.cell? ⟨w.heap.size, 2, none⟩ = some (.int .u8 (x2 : Int)) := cells_at hg' 2 _ rfl
  have k3 : w2.cell? ⟨w.heap.size, 3, none⟩ = some (.int .u8 (x3 : Int)) := cells_at hg' 3 _ rfl
  have k4 : w2.cell? ⟨w.heap.size, 4, none⟩ = some (.int .u8 (x4 : Int)) := cells_at hg' 4 _ rfl
  have k5 : w2.cell? ⟨w.heap.size, 5, none⟩ = some (.int .u8 (x5 : Int)) := cells_at hg' 5 _ rfl
  have k6 : w2.cell? ⟨w.heap.size, 6, none⟩ = some (.int .u8 (x6 : Int)) := cells_at hg' 6 _ rfl
  have k7 : w2.cell? ⟨w.heap.size, 7, none⟩ = some (.int .u8 (x7 : Int)) := cells_at hg' 7 _ rfl
  have HZ := Lib.hid hb2.size
  clear hg hg'
  go_wp2_with (go_at_call 60; refine (gather_any x0 x1 x2 x3 x4 x5 x6 x7 _ h0 h1 h2 h3 h4 h5 h6 h7).mono ?_; rintro e w3 ⟨rfl, hb3⟩)
  go_ret2
  exact ⟨rfl, hb2.trans (hb3.mono HZ.out)⟩
end Go.Proofs.Ytngmkbbeafefaaa
