/- The iterator of package mem: patches from the last one down. -/
import Derived.RangeFuncNested
import Derived.RangeFuncBound
import Derived.RangeFuncCalls
import Derived.RangeFuncLeaves
import Derived.Shelf.Abstract
import Derived.Shelf.RegionOpen
import Derived.WalkKit
import Derived.OwnWalkIn
import Derived.TacticsInMore
import Derived.LoopNIn
import Derived.LoopIn
import Derived.Test.YtngmkbbeafefaaaMemRefK
namespace Go.Proofs.Ytngmkbbeafefaaa
open Go.RowKit Go.Shelf Go.Proofs
attribute [local go_sem] Oper.semAt_some

/-- A patch that lies in a world, and fits into L bytes: its place, its slice, its bytes. -/
abbrev Good (w : World) (L : Nat) := { x : Int × (Option Addr × Nat × Nat) × List UInt8 // Byt w (.slice x.2.1.1 x.2.1.2.1 x.2.1.2.2) x.2.2 ∧ okB L x.1 x.2.1.2.1 = true }
def gv {w : World} {L : Nat} (x : Good w L) : Value := .slice x.1.2.1.1 x.1.2.1.2.1 x.1.2.1.2.2

/-- What a round keeps: all but one block, of those that were there. -/
def KpG (g n₀ : Nat) (A B : World) : Prop := A.heap.size ≤ B.heap.size ∧ ∀ k, k < n₀ → k ≠ g → B.heap[k]? = A.heap[k]?
theorem KpG.refl (g n₀ : Nat) (A : World) : KpG g n₀ A A := ⟨Nat.le_refl _, fun _ _ _ => rfl⟩
theorem KpG.trans {g n₀ : Nat} {A B C : World} (h : KpG g n₀ A B) (k : KpG g n₀ B C) : KpG g n₀ A C := ⟨Nat.le_trans h.1 k.1, fun i hi hg => (k.2 i hi hg).trans (h.2 i hi hg)⟩
theorem KpG.cell {g n₀ : Nat} {A B : World} (h : KpG g n₀ A B) {b o : Nat} (hb : b < n₀) (hg : b ≠ g) : B.cell? ⟨b, o, none⟩ = A.cell? ⟨b, o, none⟩ := World.cell?_of_block (h.2 b hb hg)
theorem kpG_b {g n₀ : Nat} {w : World} (hn : n₀ ≤ w.heap.size) (W : World) (l : Nat) (o o' : Obj) (hl : w.heap.size ≤ l) (h : W.heap[l]? = some o) (_ : o.isCells = false) (_ : o.isWalk = false) : KpG g n₀ W (W.putObj l o') := by
  have hb := belowK_b hn W l o o' hl h ‹_› ‹_›
  exact ⟨hb.size, fun k hk _ => hb.block k hk⟩

theorem rev_take_step {α : Type} {zs : List α} {k : Nat} {x : α} (hk : k < zs.length) (hx : zs[zs.length - 1 - k]? = some x) : zs.reverse.take (k + 1) = zs.reverse.take k ++ [x] := by
  have hl : k < zs.reverse.length := by simpa using hk
  rw [List.take_succ_eq_append_getElem hl]
  congr 2
  have e : zs.reverse[k]? = zs[zs.length - 1 - k]? := by rw [List.getElem?_reverse hk]
  rw [hx, List.getElem?_eq_getElem hl] at e
  injection e

set_option maxRecDepth 100000 in
set_option maxHeartbeats 2000000 in
theorem latest1_in (F : Fence) (n : Nat) (h64 : F.fn 64) (hro : F.round = none) (hn : 1 ≤ n) (l Bs g n₀ len cap L : Nat) (wo : World) (A : Option Addr) (zs : List (Good wo L)) (hlen : zs.length = len) (hmax : len ≤ 1000) (hlc : len ≤ cap)
    (J Jx : List (Good wo L) → World → Prop)
    (hY : ∀ pre x W, J pre W → pre.length < len → YieldAt F (n - 1) Try.prog l #[.agg #[.int .i64 x.1.1, gv x]] W fun e W' =>
      (e = .returned (.bool true) ∧ J (pre ++ [x]) W' ∧ KpG g n₀ W W') ∨ (e = .returned (.bool false) ∧ Jx (pre ++ [x]) W'))
    (W : World) (hBs1 : Bs < n₀) (hBs2 : Bs ≠ g) (hBs : W.cell? ⟨Bs, 0, none⟩ = some (.slice A len cap))
    (hc : ∀ j x, zs[j]? = some x → ∃ b off, A = some ⟨b, off, none⟩ ∧ b < n₀ ∧ b ≠ g ∧ W.cell? ⟨b, off + j * 2, none⟩ = some (.int .i64 x.1.1) ∧ W.cell? ⟨b, off + j * 2 + 1, none⟩ = some (gv x)) (h0 : J [] W) :
    CallsIn F n Try.prog 64 #[.func (.yield l) #[] #[], .pointer (some ⟨Bs, 0, none⟩)] W fun e W' => (∃ v, e = .returned v) ∧
      ((∃ ys, ys = zs.reverse ∧ J ys W') ∨ (∃ pre, pre <+: zs.reverse ∧ Jx pre W')) := by
  have HC := Lib.hid hc
  have HY := Lib.hid hY
  have HLn := Lib.hid hlen
  clear hc hY hlen
  refine callsIn_of_wp Try.func64 rfl h64 ?_ hro
  simp only [Try.ntmps64, List.size_toArray, List.length_cons, List.length_nil, Nat.reduceAdd, Nat.reduceSub, Array.replicate_succ, Array.replicate_zero, List.push_toArray, List.append_toArray, List.nil_append, List.cons_append]
  gi_wp2
  gi_loopw [3] (fun i wr => ∃ k : Nat, k ≤ len ∧ i = .int .i64 (((len - k : Nat) : Int) - 1) ∧ J (zs.reverse.take k) wr ∧ KpG g n₀ W wr)
    (fun i _ => (intOf i + 1).toNat)
  case atStart => exact ⟨0, Nat.zero_le _, by simp, by simpa using h0, KpG.refl _ _ _⟩
  case round =>
    obtain ⟨k, hk, rfl, hJs, hnx⟩ := hrel
    have hcb : wr.cell? ⟨Bs, 0, none⟩ = some (.slice A len cap) := (hnx.cell hBs1 hBs2).trans hBs
    by_cases hlt : k < len
    · obtain ⟨j, hj⟩ : ∃ j, len - 1 - k = j := ⟨_, rfl⟩
      have hjl : j < len := by omega
      rw [show ((len - k : Nat) : Int) - 1 = (j : Int) by omega]
      obtain ⟨x, hx⟩ : ∃ x, zs[j]? = some x := ⟨_, List.getElem?_eq_getElem (by rw [HLn.out]; exact hjl)⟩
      obtain ⟨b, off, rfl, hb1, hb2, hc1, hc2⟩ := HC.out j x hx
      have hd1 := (hnx.cell (o := off + j * 2) hb1 hb2).trans hc1
      have hd2 := (hnx.cell (o := off + j * 2 + 1) hb1 hb2).trans hc2
      have HT : Hid (zs.reverse.take (k + 1) = zs.reverse.take k ++ [x]) := rev_take_step (by rw [HLn.out]; exact hlt) (by rw [HLn.out, hj]; exact hx)
      obtain ⟨fn, tmps, assign, body, hy, hR⟩ := HY.out _ x wr hJs (by rw [List.length_take, List.length_reverse, HLn.out]; omega)
      have HR := Lib.hid hR
      have HJ := Lib.hid hj
      have hji : (j : Int) < (len : Int) := by omega
      generalize x.1.1 = a at hd1 hy
      generalize gv x = v at hd2 hy
      clear hc1 hc2 hx hR hj
      gi_wp2
      refine HR.out.mono ?_
      rintro e W3 (⟨rfl, hJ3, hk3⟩ | ⟨rfl, hJx3⟩)
      · gi_wp2
        go_roundw
        case rel =>
          have := HJ.out
          exact ⟨k + 1, by omega, by congr 1; omega, by rw [HT.out]; exact hJ3, hnx.trans hk3⟩
        case measure => simp [intOf]
      · gi_wp2
        refine bodyPost_ret (results_none rfl _ _ _) rfl ?_
        refine ⟨⟨_, rfl⟩, .inr ⟨_, ?_, hJx3⟩⟩
        rw [← HT.out]
        exact List.take_prefix _ _
    · obtain rfl : k = len := by omega
      rw [show ((k - k : Nat) : Int) - 1 = -1 by omega]
      have HF : Hid (zs.reverse.take k = zs.reverse) := List.take_of_length_le (by rw [List.length_reverse, HLn.out]; exact Nat.le_refl _)
      rw [HF.out] at hJs
      have HJs := Lib.hid hJs
      clear hJs
      gi_wp2
      go_end0
      exact ⟨⟨_, rfl⟩, .inl ⟨_, rfl, HJs.out⟩⟩

set_option maxHeartbeats 1000000 in
/-- latestFirst: the patches are boxed; the function value captures the box. -/
theorem latest_in (F : Fence) (n : Nat) (h58 : F.fn 58) (hro : F.round = none) (A : Option Addr) (len cap : Nat) (w : World) :
    CallsIn F n Try.prog 58 #[.slice A len cap] w fun e w' => e = .returned (.func (.func 64) #[] #[.pointer (some ⟨w.heap.size, 0, none⟩)]) ∧ w' = w.alloc (.cells #[.slice A len cap] 23) := by
  refine callsIn_of_wp Try.func58 rfl h58 ?_ hro
  simp only [Try.ntmps58, List.size_toArray, List.length_cons, List.length_nil, Nat.reduceAdd, Nat.reduceSub, Array.replicate_succ, Array.replicate_zero, List.push_toArray, List.append_toArray, List.nil_append, List.cons_append]
  gi_wp2
  go_ret
  exact ⟨rfl, rfl⟩

theorem latest_stops (F : Fence) (n : Nat) (h64 : F.fn 64) (hro : F.round = none) (hn : 1 ≤ n) (Bs g len cap L : Nat) (wo : World) (A : Option Addr) (zs : List (Good wo L)) (hlen : zs.length = len) (hmax : len ≤ 1000) (hlc : len ≤ cap) (w : World)
    (hBs1 : Bs < w.heap.size) (hBs2 : Bs ≠ g) (hBs : w.cell? ⟨Bs, 0, none⟩ = some (.slice A len cap))
    (hc : ∀ j x, zs[j]? = some x → ∃ b off, A = some ⟨b, off, none⟩ ∧ b < w.heap.size ∧ b ≠ g ∧ w.cell? ⟨b, off + j * 2, none⟩ = some (.int .i64 x.1.1) ∧ w.cell? ⟨b, off + j * 2 + 1, none⟩ = some (gv x)) :
    SeqStopsK F n Try.prog 64 #[.pointer (some ⟨Bs, 0, none⟩)] (fun x : Good wo L => #[.agg #[.int .i64 x.1.1, gv x]]) (KpG g w.heap.size) (fun ys => ys = zs.reverse) (fun pre => pre <+: zs.reverse) len w := fun l J Jx W hW _ _ hY h0 =>
  latest1_in F n h64 hro hn l Bs g w.heap.size len cap L wo A zs hlen hmax hlc J Jx hY W hBs1 hBs2 ((hW.cell (p := ⟨Bs, 0, none⟩) hBs1).trans hBs)
    (fun j x hx => by
      obtain ⟨b, off, e, h1, h2, h3, h4⟩ := hc j x hx
      exact ⟨b, off, e, h1, h2, (hW.cell (p := ⟨b, off + j * 2, none⟩) h1).trans h3, (hW.cell (p := ⟨b, off + j * 2 + 1, none⟩) h1).trans h4⟩) h0
end Go.Proofs.Ytngmkbbeafefaaa
