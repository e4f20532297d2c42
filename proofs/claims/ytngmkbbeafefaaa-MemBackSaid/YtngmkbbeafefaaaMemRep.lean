/- bytes.Repeat of one byte. -/
import Derived.Test.YtngmkbbeafefaaaMemWalksG
import Derived.Test.YtngmkbbeafefaaaMemMul
import Derived.Lib.MakeNoZero
import Derived.Deep.RegionLaw
namespace Go.Proofs.Ytngmkbbeafefaaa
open Go.RowKit

set_option maxRecDepth 100000 in
set_option maxHeartbeats 1000000 in
theorem mul_one (n : Nat) (w : World) (hn : n ≤ 65536) :
    Calls Try.prog 62 #[.int .u64 1, .int .u64 (n : Int)] w fun e w' => e = .returned (.tuple #[.int .u64 0, .int .u64 (n : Int)]) ∧ w = w' := by
  have c := fun w => Try.bits_Mul64 1 n (by omega) (by omega) w
  rw [show (1 * n / 18446744073709551616 : Nat) = 0 by omega, show (1 * n % 18446744073709551616 : Nat) = n by omega] at c
  have C := Lib.hid c
  clear c
  go_enter Try.func62, Try.ntmps62
  go_wp2_with fail
  refine (C.out _).mono ?_
  rintro e w' ⟨rfl, rfl⟩
  go_wp2_with fail
  go_ret2
  exact ⟨rfl, rfl⟩

theorem one_src {w : World} {g o : Nat} {v : Value} (hg : g < w.heap.size) (hc : w.cell? ⟨g, o, none⟩ = some v) {ob : Obj} {i : Nat} : ∀ j u, [v][j]? = some u → ((w.alloc ob).drewN i).cell? ((⟨g, o, none⟩ : Addr).add j) = some u := by
  intro j u hu
  have hj : j = 0 := by have := (List.getElem?_eq_some_iff.1 hu).1; simp at this; omega
  subst hj
  have b : Below w.heap.size w ((w.alloc ob).drewN i) := ((Below.refl _ _).alloc (Nat.le_refl _) _).trans (Go.Joins.below_draws _ _ _)
  rw [add_at, b.cell (p := ⟨g, o + 0, none⟩) hg]
  simp at hu
  rw [← hu]
  exact hc

theorem size_u8 : (Try.prog.info? 5).map (·.size) = some 1 := by kernel_rfl

/-- A row whose first k cells are one byte. -/
def Filled (g k cap : Nat) (x : UInt8) (w : World) : Prop := ∃ cur : List Value, w.heap[g]? = some (.cells cur.toArray 5 (0, 0)) ∧ cur.length = cap ∧ ∀ j, j < k → cur[j]? = some (.int .u8 (x.toNat : Int))

set_option maxRecDepth 100000 in
set_option maxHeartbeats 4000000 in
theorem repeat_one (A : Option Addr) (c : Nat) (x : UInt8) (n : Nat) (w : World) (h : Lies w A (u8s [x])) (hn : n ≤ 8192) :
    Calls Try.prog 57 #[.slice A 1 c, .int .i64 (n : Int)] w fun e w' => ∃ B k c', e = .returned (.slice B k c') ∧ Byt w' (.slice B k c') (List.replicate n x) ∧ Below w.heap.size w w' := by
  by_cases h0 : n = 0
  · subst h0
    go_enter Try.func57, Try.ntmps57
    go_wp2
    go_ret
    exact ⟨_, _, _, rfl, ⟨_, _, rfl, by simp, by simp [maxLen], .inl rfl⟩, (Below.refl _ _).alloc (Nat.le_refl _) _⟩
  · have h0' : ((n : Int) == 0) = false := by simp; omega
    have h1 : decide ((8192 : Int) < (n : Int)) = false := by simp; omega
    obtain ⟨cs, hrunM, hle, hmax⟩ := Lib.run_makeNoZero (P := Try.prog) w #[3] 22 5 Try.underlying22 n (by omega)
    have hcall : (callFunc 63 #[.int .i64 (n : Int)]).run Try.prog w = .ok (.value (.slice (some ⟨w.heap.size, 0, none⟩) n cs.size)) ((w.alloc (.cells cs 5)).drewN 2) := by
      rw [run_callFunc_extern Try.func63 (by kernel_rfl) (by kernel_rfl) (by kernel_rfl) (e := Extern.BytealgMakeNoZero.makeNoZero #[3] #[22]) (by kernel_rfl), hrunM]
      rfl
    clear hrunM hmax
    obtain ⟨Z⟩ := cs
    simp only [List.size_toArray] at hle hcall
    have h2 : decide ((n : Int) < 0) = false := by simp
    have h3 : decide ((9223372036854775807 : Int) < (n : Int)) = false := by simp; omega
    obtain ⟨g1, o1, rfl, hg1, hc1⟩ : ∃ g1 o1, A = some ⟨g1, o1, none⟩ ∧ g1 < w.heap.size ∧ w.cell? ⟨g1, o1, none⟩ = some (.int .u8 (x.toNat : Int)) := by
      rcases h with e | ⟨g1, o1, e, hg, hc⟩
      · simp [u8s] at e
      · exact ⟨g1, o1, e, hg, hc 0 _ rfl⟩
    have hz : (n : Int) ≤ (Z.length : Int) := by omega
    have hnp : 0 < n := by omega
    clear h0 h
    go_enter Try.func57, Try.ntmps57
    go_wp2_with fail
    refine (mul_one n _ (by omega)).mono ?_
    rintro e w' ⟨rfl, rfl⟩
    go_wp2_with (with_reducible refine wpList_copy_splice rfl (.tmp 58) (.tmp 59) 22 22 rfl 5 Try.underlying22 ?c0 (some ⟨w.heap.size, 0, none⟩) (some ⟨g1, o1, none⟩) n n 1 c rfl rfl w.heap.size 0 Z 5 ?c1 [.int .u8 (x.toNat : Int)] ?c2 (fun _ => ⟨rfl, ⟨g1, o1, none⟩, rfl, one_src hg1 hc1⟩) ?c3 ?c4 w.heap.size w ?c5 ?c6 ?_)
    case c0 => kernel_rfl
    case c1 => exact one_new _ _ _
    case c2 => show 1 = min 1 n; omega
    case c3 => show 0 + 1 ≤ Z.length; omega
    case c4 => simp [Value.oneCell']
    case c5 => exact ((Below.refl _ _).alloc (Nat.le_refl _) _).trans (Go.Joins.below_draws _ _ _)
    case c6 => omega
    intro w2 hg2 hb2
    have HF : Hid (Filled w.heap.size 1 Z.length x w2) := by
      refine ⟨_, hg2.out, length_splice _ _ _ (by show 0 + 1 ≤ Z.length; omega), fun j hj => ?_⟩
      obtain rfl : j = 0 := by omega
      simp [splice]
    clear hg2 hcall hc1
    go_wp2_with fail
    go_loopw [10, 11] (fun b ch wr => ∃ k : Nat, 1 ≤ k ∧ k ≤ n ∧ b = .int .i64 (k : Int) ∧ Filled w.heap.size k Z.length x wr ∧ Below w.heap.size w wr) (fun b _ _ => n - (intOf b).toNat)
    case atStart => exact ⟨1, by omega, by omega, rfl, HF.out, hb2⟩
    case round =>
      obtain ⟨k, hk1, hk2, rfl, hfil, hb⟩ := hrel
      by_cases hlt : k < n
      · obtain ⟨cur, hcur, hcl, hall⟩ := hfil
        have HC := Lib.hid hcur
        have HCL := Lib.hid hcl
        have HA := Lib.hid hall
        have hne : n ≠ k := by omega
        have hmn : ¬ (n : Int) < (k : Int) := by omega
        clear hcur hcl hall
        obtain ⟨t, ht⟩ : ∃ t, min k (n - k) = t := ⟨_, rfl⟩
        have ht1 : t ≤ k := by omega
        have ht2 : k + t ≤ n := by omega
        have ht3 : 0 < t := by omega
        have HT := Lib.hid ht
        obtain ⟨X, hX⟩ : ∃ X : List Value, X = List.replicate t (.int .u8 (x.toNat : Int)) := ⟨_, rfl⟩
        have HXL : Hid (X.length = t) := by rw [hX]; simp [Hid]
        have HX := Lib.hid hX
        have hkn1 : (k : Int) ≤ (n : Int) := by omega
        have D2 : Hid (X.length = Nat.min k (n - k)) := by rw [HXL.out]; exact ht.symm
        have HC2 : Hid (wr.drew.heap[w.heap.size]? = some (.cells cur.toArray 5 (0, 0))) := HC.out
        have HD : Hid (Below w.heap.size w wr.drew) := hb.drew
        have D3 : Hid (∀ j v, X[j]? = some v → wr.drew.cell? ((⟨w.heap.size, 0, none⟩ : Addr).add j) = some v) := by
          intro j v hv
          have hj : j < t := by have := (List.getElem?_eq_some_iff.1 hv).1; rw [HXL.out] at this; exact this
          have hv2 := hv
          rw [hX] at hv2
          simp [hj] at hv2
          rw [add_at, Nat.zero_add, ← hv2]
          have h4 := HA.out j (by omega)
          have h5 : wr.cell? ⟨w.heap.size, j, none⟩ = some (.int .u8 (x.toNat : Int)) := by simp [World.cell?, HC.out, h4]
          exact h5
        have D4 : Hid (k + X.length ≤ cur.length) := by rw [HXL.out, HCL.out]; show _ ≤ _; omega
        have D5 : Hid (∀ v ∈ X, v.oneCell' = true) := by rw [hX]; intro v hv; rw [List.mem_replicate] at hv; rw [hv.2]; rfl
        have hwr : IntKind.i64.wrap ((k : Int) + (X.length : Int)) = ((k + t : Nat) : Int) := by rw [HXL.out, IntKind.wrap_i64]; omega
        clear ht hX
        go_wp2_with fail
        go_region_held3 (fun w' => Below w.heap.size w w') (first | exact hb.drew | exact hb4) ((with_reducible refine step_copy_splice rfl (.tmp 70) (.tmp 73) 22 22 rfl 5 Try.underlying22 size_u8 (some ⟨w.heap.size, k, none⟩) (some ⟨w.heap.size, 0, none⟩) (n - k) (n - k) k n rfl rfl w.heap.size k cur 5 HC2.out X D2.out (fun _ => ⟨rfl, ⟨w.heap.size, 0, none⟩, rfl, D3.out⟩) D4.out D5.out w.heap.size w HD.out (Nat.le_refl _) ?_; intro w4 hg4 hb4))
        have HF4 : Hid (Filled w.heap.size (k + t) Z.length x w4) := by
          have hx1 := HXL.out
          have hc1 := HCL.out
          refine ⟨_, hg4.out, (length_splice _ _ _ (by rw [hx1]; omega)).trans hc1, fun j hj => ?_⟩
          unfold splice
          by_cases hjk : j < k
          · rw [List.getElem?_append_left (by simp; omega), List.getElem?_take, if_pos hjk]
            exact HA.out j hjk
          · rw [List.getElem?_append_right (by simp; omega), List.getElem?_append_left (by simp; omega), HX.out]
            have e1 : (cur.take k).length = k := by simp; omega
            rw [e1, List.getElem?_replicate, if_pos (by omega)]
        have HB4 := Lib.hid hb4
        clear hg4 hb4 hb
        go_wp2
        go_roundw
        case rel => exact ⟨k + t, by omega, by omega, rfl, HF4.out, HB4.out⟩
        case measure => simp [intOf]; omega
      · have hkn : k = n := by omega
        subst hkn
        obtain ⟨cur, hcur, hcl, hall⟩ := hfil
        have HBY : Hid (Byt wr (.slice (some ⟨w.heap.size, 0, none⟩) k k) (List.replicate k x)) := by
          refine ⟨some ⟨w.heap.size, 0, none⟩, k, by simp, by simp, by unfold maxLen; omega, .inr ⟨w.heap.size, 0, rfl, (Array.getElem?_eq_some_iff.1 hcur).1, fun j v hv => ?_⟩⟩
          have hj : j < k := by have := (List.getElem?_eq_some_iff.1 hv).1; simpa [u8s] using this
          rw [Nat.zero_add]
          simp only [World.cell?, hcur]
          have h4 := hall j hj
          simp [u8s, hj] at hv
          simp [h4, hv]
        have HBL := Lib.hid hb
        clear hcur hcl hall hb
        go_wp2
        go_ret
        exact ⟨_, _, _, rfl, HBY.out, HBL.out⟩
end Go.Proofs.Ytngmkbbeafefaaa
