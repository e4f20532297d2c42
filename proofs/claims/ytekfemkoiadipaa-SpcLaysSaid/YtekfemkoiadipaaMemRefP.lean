/- Contracts of the document's own Put and Get for layer 1; cells as bytes. -/
import Derived.Test.YtekfemkoiadipaaMemRefB
import Derived.LoopN
namespace Go.Proofs.Ytekfemkoiadipaa
open Go.RowKit

def bytesTo (U k : Nat) : List Value := (List.range k).map fun i => Value.int .u8 (byteOf U i : Int)
theorem bytesTo_succ (U k : Nat) : bytesTo U (k + 1) = bytesTo U k ++ [.int .u8 (byteOf U k : Int)] := by
  unfold bytesTo; rw [List.range_succ, List.map_append]; rfl
theorem bytesTo_eight (U : Nat) : bytesTo U 8 = [.int .u8 (byteOf U 0 : Int), .int .u8 (byteOf U 1 : Int), .int .u8 (byteOf U 2 : Int), .int .u8 (byteOf U 3 : Int), .int .u8 (byteOf U 4 : Int), .int .u8 (byteOf U 5 : Int), .int .u8 (byteOf U 6 : Int), .int .u8 (byteOf U 7 : Int)] := rfl

theorem Try.info5 : (Try.prog.info? 5).map (fun i => (i.zero, i.size, i.bytes)) = some (some (.int .u8 0), 1, 1) := by kernel_rfl

set_option maxRecDepth 100000 in
set_option maxHeartbeats 1000000 in
theorem rput_any (n : Int) (w : World) :
    Calls Try.prog 28 #[.int .i64 n] w fun e w' => ∃ v, e = .returned v ∧ w'.ownsRow w.heap.size 5 1 v 8 (bytesTo (un n) 8) ∧ Below w.heap.size w w' := by
  have e1 := un_cast n
  obtain ⟨i0, hi, hz0, hz1, hz2⟩ := info_parts Try.info5
  go_enter Try.func28, Try.ntmps28
  go_wp2
  go_loopw [3, 4, 5] (fun u v i wr => ∃ k : Nat, k ≤ 8 ∧ i = .int .i64 (k : Int) ∧ u = .int .u64 ((un n / 256 ^ k : Nat) : Int) ∧ wr.ownsRow w.heap.size 5 1 v k (bytesTo (un n) k) ∧ Below w.heap.size w wr) (fun _ _ i _ => 8 - (intOf i).toNat)
  case atStart => exact ⟨0, Nat.zero_le _, rfl, by simp, World.ownsRow_nil _ _ _ _, Below.refl _ _⟩
  case round =>
    obtain ⟨k, hk, rfl, rfl, hown, hb⟩ := hrel
    obtain ⟨b, hbk⟩ : ∃ b : Nat, byteOf (un n) k = b := ⟨_, rfl⟩
    have hbk' : un n / 256 ^ k % 256 = b := hbk
    have hnext : un n / 256 ^ (k + 1) = un n / 256 ^ k / 256 := by rw [Nat.pow_succ, ← Nat.div_div_eq_div_mul]
    have hlow : un n / 256 ^ k < 18446744073709551616 := Nat.lt_of_le_of_lt (Nat.div_le_self _ _) (un_lt n)
    generalize un n / 256 ^ k = t at *
    have et : (t : Int) % 256 = (b : Int) := by omega
    have ht : (t : Int) ≤ 18446744073709551615 := by omega
    have hb8 : (b : Int) ≤ 255 := by omega
    have HB := Lib.hid hbk
    have HN := Lib.hid hnext
    clear hbk hbk' hnext hlow
    by_cases hlt : k < 8
    · go_wp2_with (at_builtin; refine wpList_append_own _ rfl _ _ 22 rfl w.heap.size 5 i0 (.int .u8 0) 1 1 Try.underlying22 hi hz0 hz1 hz2 rfl (by decide) _ _ _ rfl (hown.alloc _) ⟨wr.heap.size, 0, none⟩ 1 1 [.int .u8 (b : Int)] rfl rfl ?c1 ?c2 ?c3 ?c4 ?c5 ?_)
      case c1 => exact cell_one_new _ _ _
      case c2 => simp [Value.oneCell']
      case c3 => unfold maxLen; omega
      case c4 => omega
      case c5 => have := hb.size; simp; omega
      intro v' w2 hown2 hgrow _
      have hb2 : Below w.heap.size w w2 := (hb.alloc hb.size _).grown hgrow (by have := hb.size; simp; omega) (own_from hown)
      rw [← HB.out, ← bytesTo_succ] at hown2
      clear hown hb hgrow
      go_wp2
      go_roundw
      case rel => exact ⟨k + 1, by omega, by go_num, by rw [HN.out]; go_num, hown2, hb2⟩
      case measure => simp [intOf]; omega
    · have hk8 : k = 8 := by omega
      subst hk8
      go_wp2
      go_ret
      exact ⟨_, rfl, hown, hb⟩

set_option maxRecDepth 100000 in
set_option maxHeartbeats 1000000 in
theorem rget_yes (b off cap : Nat) (x0 x1 x2 x3 x4 x5 x6 x7 : Nat) (w : World) (h0 : x0 < 256) (h1 : x1 < 256) (h2 : x2 < 256) (h3 : x3 < 256) (h4 : x4 < 256) (h5 : x5 < 256) (h6 : x6 < 256) (h7 : x7 < 256) (k0 : w.cell? ⟨b, off, none⟩ = some (.int .u8 (x0 : Int))) (k1 : w.cell? ⟨b, off + 1, none⟩ = some (.int .u8 (x1 : Int))) (k2 : w.cell? ⟨b, off + 2, none⟩ = some (.int .u8 (x2 : Int))) (k3 : w.cell? ⟨b, off + 3, none⟩ = some (.int .u8 (x3 : Int))) (k4 : w.cell? ⟨b, off + 4, none⟩ = some (.int .u8 (x4 : Int))) (k5 : w.cell? ⟨b, off + 5, none⟩ = some (.int .u8 (x5 : Int))) (k6 : w.cell? ⟨b, off + 6, none⟩ = some (.int .u8 (x6 : Int))) (k7 : w.cell? ⟨b, off + 7, none⟩ = some (.int .u8 (x7 : Int))) :
    Calls Try.prog 30 #[.slice (some ⟨b, off, none⟩) 8 cap] w fun e w' => e = .returned (.tuple #[.int .i64 (wrap64 (eight x0 x1 x2 x3 x4 x5 x6 x7 : Int)), .int .i64 0]) ∧ w = w' := by
  go_enter Try.func30, Try.ntmps30
  go_wp2
  refine wp_loop_rounds 9 ?_
  iterate 9 (rw [rounds_succ]; go_wp2)
  go_ret2
  exact ⟨ret_two (congrArg wrap64 (by unfold eight; omega)) rfl, rfl⟩

/-- A cell's bytes. -/
def cellBytes (n : Int) : List UInt8 := [UInt8.ofNat (byteOf (un n) 0), UInt8.ofNat (byteOf (un n) 1), UInt8.ofNat (byteOf (un n) 2), UInt8.ofNat (byteOf (un n) 3), UInt8.ofNat (byteOf (un n) 4), UInt8.ofNat (byteOf (un n) 5), UInt8.ofNat (byteOf (un n) 6), UInt8.ofNat (byteOf (un n) 7)]
theorem cellBytes_len (n : Int) : (cellBytes n).length = 8 := rfl
theorem u8_byte (n i : Nat) : (UInt8.ofNat (byteOf n i)).toNat = byteOf n i := by
  rw [UInt8.toNat_ofNat']
  exact Nat.mod_eq_of_lt (byteOf_lt _ _)
theorem cellBytes_u8 (n : Int) : u8s (cellBytes n) = bytesTo (un n) 8 := by
  rw [bytesTo_eight]
  simp only [u8s, cellBytes, List.map_cons, List.map_nil, u8_byte]

theorem put_byt (n : Int) (w : World) : Calls Try.prog 27 #[.int .i64 n] w fun e w' => ∃ B k c, e = .returned (.slice B k c) ∧ Byt w' (.slice B k c) (cellBytes n) ∧ Below w.heap.size w w' := by
  refine (put_any n w).mono fun e w' ⟨g, he, _, hh, hb⟩ => ⟨_, _, _, he, ?_, hb⟩
  refine byt_block (l := cellBytes n) (t := 5) ?_ (by rw [cellBytes_len]; omega)
  rw [cellBytes_u8, bytesTo_eight]
  exact hh
theorem rput_byt (n : Int) (w : World) : Calls Try.prog 28 #[.int .i64 n] w fun e w' => ∃ B k c, e = .returned (.slice B k c) ∧ Byt w' (.slice B k c) (cellBytes n) ∧ Below w.heap.size w w' := by
  refine (rput_any n w).mono fun e w' ⟨v, he, ho, hb⟩ => ?_
  rw [← cellBytes_u8] at ho
  obtain ⟨B, c, rfl⟩ := (own_byt ho).form
  exact ⟨B, _, c, he, own_byt ho, hb⟩

/-- The byte at a place, as a number; the cell at a place. -/
def bn (m : PM) (k : Nat) : Nat := (m.1.getD k 0).toNat
theorem bn_lt (m : PM) (k : Nat) : bn m k < 256 := UInt8.toNat_lt _
def fetchF (m : PM) (p : Int) : Int := if cellC m.1.length p = 0 then wrap64 (eight (bn m p.toNat) (bn m (p.toNat + 1)) (bn m (p.toNat + 2)) (bn m (p.toNat + 3)) (bn m (p.toNat + 4)) (bn m (p.toNat + 5)) (bn m (p.toNat + 6)) (bn m (p.toNat + 7)) : Int) else 0

theorem mem_cells {w : World} {A : Option Addr} {L c : Nat} {y : Value} {m : PM} (h : IsMem w (.agg #[.slice A L c, y]) m) (hL : 0 < L) : ∃ g o, A = some ⟨g, o, none⟩ ∧ g < w.heap.size ∧ L ≤ c ∧ ∀ q, q < L → w.cell? ⟨g, o + q, none⟩ = some (.int .u8 (bn m q : Int)) := by
  obtain ⟨g, o, rfl, hg, _, hc⟩ := mem_cell h hL
  refine ⟨g, o, rfl, hg, hc, fun q hq => ?_⟩
  obtain ⟨g', o', e, _, hc', _⟩ := mem_cell h hq
  injection e with e
  injection e with e1 e2
  subst e1 e2
  exact hc'

set_option maxRecDepth 100000 in
set_option maxHeartbeats 1000000 in
theorem rfetch_at (A P : Option Addr) (L c K d : Nat) (m : PM) (p : Int) (w : World) (HM : Hid (IsMem w (.agg #[.slice A L c, .slice P K d]) m)) (hL : L ≤ 65536) :
    Calls Try.prog 20 #[.agg #[.slice A L c, .slice P K d], .int .i64 p] w fun e w' => e = .returned (.tuple #[.int .i64 (fetchF m p), .int .i64 (cellC L p)]) ∧ Below w.heap.size w w' := by
  obtain ⟨C, hC⟩ : ∃ C, cellC L p = C := ⟨_, rfl⟩
  by_cases h0 : C = 0
  · subst h0
    have ok : okB L p 8 = true := by
      cases e : okB L p 8 with
      | true => rfl
      | false => rw [cellC_no e] at hC; cases hC
    have hok := (okB_iff _ _ _).1 ok
    obtain ⟨q, rfl⟩ := Int.eq_ofNat_of_zero_le (by omega : 0 ≤ p)
    have hq : q + 8 ≤ L := by omega
    obtain ⟨g, o, rfl, hg, hLc, hcl⟩ := mem_cells HM.out (by omega)
    have HF : Hid (fetchF m q = wrap64 (eight (bn m q) (bn m (q + 1)) (bn m (q + 2)) (bn m (q + 3)) (bn m (q + 4)) (bn m (q + 5)) (bn m (q + 6)) (bn m (q + 7)) : Int)) := by unfold fetchF; rw [if_pos (by rw [HM.out.len1]; exact hC)]; rfl
    have HC := Lib.hid hC
    have hne : c ≠ q := by omega
    have HCL := Lib.hid hcl
    clear hC hok ok hcl
    go_enter Try.func20, Try.ntmps20
    go_wp2_with fail
    refine (rcellAt_any _ _ _ _ _ _ _ _ hL).mono ?_
    rw [HC.out]
    rintro e w1 ⟨rfl, b1⟩
    obtain ⟨k0, k1⟩ := box_cells b1
    have HB := Lib.hid (box_below b1)
    clear b1
    go_wp2_with fail
    have hcl : ∀ j, j < 8 → w1.cell? ⟨g, o + q + j, none⟩ = some (.int .u8 (bn m (q + j) : Int)) := fun j hj => by
      rw [HB.out.cell (p := ⟨g, o + q + j, none⟩) hg, Nat.add_assoc]
      exact HCL.out (q + j) (by omega)
    refine (rget_yes g (o + q) _ (bn m q) (bn m (q + 1)) (bn m (q + 2)) (bn m (q + 3)) (bn m (q + 4)) (bn m (q + 5)) (bn m (q + 6)) (bn m (q + 7)) _ (bn_lt _ _) (bn_lt _ _) (bn_lt _ _) (bn_lt _ _) (bn_lt _ _) (bn_lt _ _) (bn_lt _ _) (bn_lt _ _) (hcl 0 (by omega)) (hcl 1 (by omega)) (hcl 2 (by omega)) (hcl 3 (by omega)) (hcl 4 (by omega)) (hcl 5 (by omega)) (hcl 6 (by omega)) (hcl 7 (by omega))).mono ?_
    clear hcl
    rw [← HF.out]
    rintro e w2 ⟨rfl, rfl⟩
    go_wp2_with fail
    go_ret2
    exact ⟨by rw [HC.out]; rfl, HB.out⟩
  · have hF : fetchF m p = 0 := by unfold fetchF; rw [if_neg (by rw [HM.out.len1, hC]; exact h0)]
    rw [hF, hC]
    have HC := Lib.hid hC
    have h0' : (C != 0) = true := by simp [h0]
    clear hC hF h0
    go_enter Try.func20, Try.ntmps20
    go_wp2_with fail
    refine (rcellAt_any _ _ _ _ _ _ _ _ hL).mono ?_
    rw [HC.out]
    rintro e w1 ⟨rfl, b1⟩
    have HB := Lib.hid (box_below b1)
    clear b1
    go_wp2_with fail
    go_ret2
    exact ⟨rfl, HB.out⟩

end Go.Proofs.Ytekfemkoiadipaa
