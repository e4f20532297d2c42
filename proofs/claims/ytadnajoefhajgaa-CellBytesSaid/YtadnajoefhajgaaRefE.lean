/- Contracts of the document's own Put and Get for layer 1. -/
import Derived.Test.YtadnajoefhajgaaStr
import Derived.OwnWalk
import Derived.Maps.AppendAt
namespace Go.Proofs.Ytadnajoefhajgaa
open Go.RowKit

def bytesTo (U k : Nat) : List Value := (List.range k).map fun i => Value.int .u8 (byteOf U i : Int)
theorem bytesTo_succ (U k : Nat) : bytesTo U (k + 1) = bytesTo U k ++ [.int .u8 (byteOf U k : Int)] := by
  unfold bytesTo; rw [List.range_succ, List.map_append]; rfl
theorem bytesTo_eight (U : Nat) : bytesTo U 8 = [.int .u8 (byteOf U 0 : Int), .int .u8 (byteOf U 1 : Int), .int .u8 (byteOf U 2 : Int), .int .u8 (byteOf U 3 : Int), .int .u8 (byteOf U 4 : Int), .int .u8 (byteOf U 5 : Int), .int .u8 (byteOf U 6 : Int), .int .u8 (byteOf U 7 : Int)] := rfl

theorem Try.info5 : (Try.prog.info? 5).map (fun i => (i.zero, i.size, i.bytes)) = some (some (.int .u8 0), 1, 1) := by kernel_rfl

theorem own_from {w : World} {base e size n : Nat} {v : Value} {xs : List Value} (h : w.ownsRow base e size v n xs) : ∀ k, v.ownBlock = some k → base ≤ k := by
  intro k hk
  obtain ⟨_, ⟨rfl, _⟩ | ⟨g, cap, cur, rfl, hg, _⟩⟩ := h
  · simp [Value.ownBlock] at hk
  · simp [Value.ownBlock] at hk; omega

set_option maxRecDepth 100000 in
set_option maxHeartbeats 1000000 in
theorem rput_any (n : Int) (w : World) :
    Calls Try.prog 16 #[.int .i64 n] w fun e w' => ∃ v, e = .returned v ∧ w'.ownsRow w.heap.size 5 1 v 8 (bytesTo (un n) 8) ∧ Below w.heap.size w w' := by
  have e1 := un_cast n
  obtain ⟨i0, hi, hz0, hz1, hz2⟩ := info_parts Try.info5
  go_enter Try.func16, Try.ntmps16
  go_wp2
  go_loopw [3, 4, 5] (fun u v i wr => ∃ k : Nat, k ≤ 8 ∧ i = .int .i64 (k : Int) ∧ u = .int .u64 ((un n / 256 ^ k : Nat) : Int) ∧ wr.ownsRow w.heap.size 5 1 v k (bytesTo (un n) k) ∧ Below w.heap.size w wr) (fun _ _ i _ => 8 - (intOf i).toNat)
  case atStart => exact ⟨0, Nat.zero_le _, rfl, by simp, World.ownsRow_nil _ _ _ _, Below.refl _ _⟩
  case round =>
    obtain ⟨k, hk, rfl, rfl, hown, hb⟩ := hrel
    obtain ⟨b, hbk⟩ : ∃ b : Nat, byteOf (un n) k = b := ⟨_, rfl⟩
    have hbk' : un n / 256 ^ k % 256 = b := hbk
    have hnext : un n / 256 ^ (k + 1) = un n / 256 ^ k / 256 := by rw [Nat.pow_succ, ← Nat.div_div_eq_div_mul]
    have hlow : un n / 256 ^ k < 18446744073709551616 := Nat.lt_of_le_of_lt (Nat.div_le_self _ _) (un_lt n)
    generalize un n / 256 ^ k = t at *
    have et : (t : Int) % 256 = (b : Int) := by omega
    have ht : (t : Int) ≤ 18446744073709551615 := by omega
    have hb8 : (b : Int) ≤ 255 := by omega
    have HB := Lib.hid hbk
    have HN := Lib.hid hnext
    clear hbk hbk' hnext hlow
    by_cases hlt : k < 8
    · go_wp2_with (at_builtin; refine wpList_append_own _ rfl _ _ 22 rfl w.heap.size 5 i0 (.int .u8 0) 1 1 Try.underlying22 hi hz0 hz1 hz2 rfl (by decide) _ _ _ rfl (hown.alloc _) ⟨wr.heap.size, 0, none⟩ 1 1 [.int .u8 (b : Int)] rfl rfl ?c1 ?c2 ?c3 ?c4 ?c5 ?_)
      case c1 => exact cell_one_new _ _ _
      case c2 => simp [Value.oneCell']
      case c3 => unfold maxLen; omega
      case c4 => omega
      case c5 => have := hb.size; simp; omega
      intro v' w2 hown2 hgrow _
      have hb2 : Below w.heap.size w w2 := (hb.alloc hb.size _).grown hgrow (by have := hb.size; simp; omega) (own_from hown)
      rw [← HB.out, ← bytesTo_succ] at hown2
      clear hown hb hgrow
      go_wp2
      go_roundw
      case rel => exact ⟨k + 1, by omega, by go_num, by rw [HN.out]; go_num, hown2, hb2⟩
      case measure => simp [intOf]; omega
    · have hk8 : k = 8 := by omega
      subst hk8
      go_wp2
      go_ret
      exact ⟨_, rfl, hown, hb⟩

theorem rconv {w : World} {base : Nat} {v : Value} {U : Nat} (h : w.ownsRow base 5 1 v 8 (bytesTo U 8)) (w2 : World) (hb : Below w.heap.size w w2) :
    (convert 22 9 v).run Try.prog w2 = .ok (.string (strOf U)) w2 := by
  obtain ⟨_, ⟨_, h0⟩ | ⟨g, cap, cur, rfl, _, hg, _, _, _, ht⟩⟩ := h
  · cases h0
  · have hlt : g < w.heap.size := (Array.getElem?_eq_some_iff.1 hg).1
    have hg2 : w2.heap[g]? = some (.cells cur 5 (0, 0)) := (hb.block g hlt).trans hg
    refine run_convert_bytes_arg w2 22 5 Try.underlying22 Try.underlying5 g 0 8 cap [(byteOf U 0 : Int), (byteOf U 1 : Int), (byteOf U 2 : Int), (byteOf U 3 : Int), (byteOf U 4 : Int), (byteOf U 5 : Int), (byteOf U 6 : Int), (byteOf U 7 : Int)] rfl ?_ 9 Try.underlying9
    intro i hi
    have hc : cur.toList[i]? = (bytesTo U 8)[i]? := by rw [← ht, Nat.mul_one, List.getElem?_take_of_lt hi]
    have hp : w2.cell? ⟨g, 0 + i, none⟩ = cur[i]? := by simp [World.cell?, hg2]
    rw [hp, ← Array.getElem?_toList, hc, bytesTo_eight]
    have h8 : i = 0 ∨ i = 1 ∨ i = 2 ∨ i = 3 ∨ i = 4 ∨ i = 5 ∨ i = 6 ∨ i = 7 := by omega
    rcases h8 with rfl | rfl | rfl | rfl | rfl | rfl | rfl | rfl <;> rfl

set_option maxHeartbeats 400000 in
theorem rget_no (a : Option Addr) (len cap : Nat) (w : World) (h : len ≠ 8) :
    Calls Try.prog 14 #[.slice a len cap] w fun e w' => e = .returned (.tuple #[.int .i64 0, .int .i64 (-24)]) ∧ w = w' := by
  have h1 : ((len : Int) != 8) = true := by simp; omega
  have H := Lib.hid h
  clear h
  go_enter Try.func14, Try.ntmps14
  go_wp2
  go_ret2
  exact ⟨rfl, rfl⟩

set_option maxRecDepth 100000 in
set_option maxHeartbeats 1000000 in
theorem rget_yes (b off cap : Nat) (x0 x1 x2 x3 x4 x5 x6 x7 : Nat) (w : World) (h0 : x0 < 256) (h1 : x1 < 256) (h2 : x2 < 256) (h3 : x3 < 256) (h4 : x4 < 256) (h5 : x5 < 256) (h6 : x6 < 256) (h7 : x7 < 256) (k0 : w.cell? ⟨b, off, none⟩ = some (.int .u8 (x0 : Int))) (k1 : w.cell? ⟨b, off + 1, none⟩ = some (.int .u8 (x1 : Int))) (k2 : w.cell? ⟨b, off + 2, none⟩ = some (.int .u8 (x2 : Int))) (k3 : w.cell? ⟨b, off + 3, none⟩ = some (.int .u8 (x3 : Int))) (k4 : w.cell? ⟨b, off + 4, none⟩ = some (.int .u8 (x4 : Int))) (k5 : w.cell? ⟨b, off + 5, none⟩ = some (.int .u8 (x5 : Int))) (k6 : w.cell? ⟨b, off + 6, none⟩ = some (.int .u8 (x6 : Int))) (k7 : w.cell? ⟨b, off + 7, none⟩ = some (.int .u8 (x7 : Int))) :
    Calls Try.prog 14 #[.slice (some ⟨b, off, none⟩) 8 cap] w fun e w' => e = .returned (.tuple #[.int .i64 (wrap64 (eight x0 x1 x2 x3 x4 x5 x6 x7 : Int)), .int .i64 0]) ∧ w = w' := by
  go_enter Try.func14, Try.ntmps14
  go_wp2
  refine wp_loop_rounds 9 ?_
  iterate 9 (rw [rounds_succ]; go_wp2)
  go_ret2
  exact ⟨ret_two (congrArg wrap64 (by unfold eight; omega)) rfl, rfl⟩
end Go.Proofs.Ytadnajoefhajgaa
