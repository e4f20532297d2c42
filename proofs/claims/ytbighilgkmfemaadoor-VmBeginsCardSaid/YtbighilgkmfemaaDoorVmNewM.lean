/- What a new machine has, as plain functions; a row of bytes in a block of its own. -/
import Derived.Test.YtbighilgkmfemaaDoorVmFlag
import Derived.Test.YtbighilgkmfemaaDoorVmHolds
namespace Go.Proofs.YtbighilgkmfemaaDoor
open Go.RowKit
set_option linter.unusedVariables false
set_option linter.unusedSimpArgs false

/-- All names, in their order. -/
def nmsL : List (List UInt8) := primL ++ specL
set_option maxRecDepth 100000 in
theorem all_len : nmsL.length = 167 := rfl
def nmN (i : Nat) : List UInt8 := nmsL.getD i []
theorem nm_at {i : Nat} (h : i < 167) : nmsL[i]? = some (nmN i) := by
  unfold nmN
  rw [List.getD_eq_getElem?_getD, List.getElem?_eq_getElem (by rw [all_len]; exact h)]
  rfl
/-- A code field's number. -/
def numN (i : Nat) : Nat := if i < 130 then i else 170 + i
theorem num_lo {i : Nat} (h : i < 130) : numN i = i := by unfold numN; rw [if_pos h]
theorem num_hi {i : Nat} (h : ¬ i < 130) : numN i = 170 + i := by unfold numN; rw [if_neg h]
theorem num_le {i : Nat} (h : i < 167) : numN i < 337 := by unfold numN; split <;> omega
def wordN (i : Nat) : Wr := ⟨nmN i, ((32 + 8 * i : Nat) : Int), flagF (nmN i) i⟩
/-- The first n words. -/
def newW (n : Nat) : List Wr := (List.range n).map wordN
theorem newW_len (n : Nat) : (newW n).length = n := by unfold newW; simp
theorem newW_succ (n : Nat) : newW (n + 1) = newW n ++ [wordN n] := by unfold newW; rw [List.range_succ, List.map_append]; rfl
/-- The byte at a place, when n code fields are laid. -/
def byteN (n j : Nat) : UInt8 :=
  if j = 0 then 10 else if j = 16 then (if 8 < n then 96 else 0) else if j = 24 then (if 9 < n then 104 else 0)
  else if 32 ≤ j ∧ j < 32 + 8 * n then (if j % 8 = 0 then UInt8.ofNat (numN ((j - 32) / 8) % 256) else if j % 8 = 1 then UInt8.ofNat (numN ((j - 32) / 8) / 256) else 0) else 0
def rowN (L n : Nat) : List UInt8 := (List.range L).map (byteN n)
theorem rowN_len (L n : Nat) : (rowN L n).length = L := by unfold rowN; simp
theorem rowN_at {L n j : Nat} (h : j < L) : (rowN L n)[j]? = some (byteN n j) := by unfold rowN; simp [h]
theorem rowN_out {L n j : Nat} (h : ¬ j < L) : (rowN L n)[j]? = none := by unfold rowN; simp [h]
/-- A row of bytes in a block of its own. -/
def Bw (w : World) (g : Nat) (l : List UInt8) : Prop := w.heap[g]? = some (.cells (u8s l).toArray 5 (0, 0))
theorem Bw.lt {w : World} {g : Nat} {l : List UInt8} (h : Bw w g l) : g < w.heap.size := (Array.getElem?_eq_some_iff.1 h).1
theorem Bw.use {w : World} {g : Nat} {l : List UInt8} (h : Bw w g l) {k : Nat} (hk : k < l.length) : (∃ c : UInt8, w.cell? ⟨g, k, none⟩ = some (.int .u8 (c.toNat : Int))) ∧ w.frozen? ⟨g, k, none⟩ = false := by
  unfold Bw at h
  refine ⟨⟨l[k], ?_⟩, by simp [World.frozen?, h]⟩
  simp [World.cell?, h, u8s, hk]
theorem Bw.keep {w w' : World} {g : Nat} {l : List UInt8} (h : Bw w g l) (b : Below w.heap.size w w') : Bw w' g l := (b.block g h.lt).trans h
theorem Bw.set {w : World} {g : Nat} {l : List UInt8} (h : Bw w g l) (k : Nat) (c : UInt8) : Bw (w.setCell ⟨g, k, none⟩ (.int .u8 (c.toNat : Int))) g (l.set k c) := by
  unfold Bw at h ⊢
  have h1 := Go.Joins.block_setCell (i := k) h (.int .u8 (c.toNat : Int))
  simpa [u8s, List.map_set] using h1
theorem Bw.byt {w : World} {g : Nat} {l : List UInt8} (h : Bw w g l) (hl : l.length ≤ 65536) : Byt w (.slice (some ⟨g, 0, none⟩) l.length l.length) l := byt_block h hl
end Go.Proofs.YtbighilgkmfemaaDoor
