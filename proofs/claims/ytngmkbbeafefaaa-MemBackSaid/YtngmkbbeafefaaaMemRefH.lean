/- The document's own Fill. -/
import Derived.Test.YtngmkbbeafefaaaMemFill
namespace Go.Proofs.Ytngmkbbeafefaaa
open Go.RowKit

def fillTo (k j : Nat) (x : UInt8) : List UInt8 := List.replicate j x ++ List.replicate (k - j) 0
theorem fillTo_len (k j : Nat) (x : UInt8) (h : j ≤ k) : (fillTo k j x).length = k := by simp [fillTo]; omega
theorem fillTo_zero (k : Nat) (x : UInt8) : fillTo k 0 x = List.replicate k 0 := by simp [fillTo]
theorem fillTo_all (k : Nat) (x : UInt8) : fillTo k k x = List.replicate k x := by simp [fillTo]
theorem fillTo_step (k j : Nat) (x : UInt8) (h : j < k) : (u8s (fillTo k j x)).toArray.setIfInBounds j (.int .u8 (x.toNat : Int)) = (u8s (fillTo k (j + 1) x)).toArray := by
  rw [List.setIfInBounds_toArray]
  congr 1
  have e : (fillTo k j x).set j x = fillTo k (j + 1) x := by
    unfold fillTo
    rw [List.set_append, if_neg (by simp), List.length_replicate, Nat.sub_self, show k - j = (k - (j + 1)) + 1 by omega, List.replicate_succ, List.set_cons_zero, List.replicate_succ', List.append_assoc]
    rfl
  rw [← e]
  unfold u8s
  rw [List.map_set]

set_option maxRecDepth 100000 in
set_option maxHeartbeats 4000000 in
theorem rfill_at (A P : Option Addr) (L c K d : Nat) (m : PM) (p n b : Int) (w : World) (HM : Hid (IsMem w (.agg #[.slice A L c, .slice P K d]) m)) (hL : L ≤ 8192) (hK : K < 1000) (hn : n ≤ 9223372036854775807) :
    Calls Try.prog 33 #[.agg #[.slice A L c, .slice P K d], .int .i64 p, .int .i64 n, .int .i64 b] w fun e w' => ∃ A' L' c' P' K' d', e = .returned (.tuple #[.agg #[.slice A' L' c', .slice P' K' d'], .int .i64 (codeF (okB L p n))]) ∧ IsMem w' (.agg #[.slice A' L' c', .slice P' K' d']) (fillF m p n b) ∧ Below w.heap.size w w' := by
  cases ok : okB L p n with
  | false =>
    have okm : okB m.1.length p n = false := by rw [HM.out.len1]; exact ok
    rw [fill_no okm, codeF_no]
    clear okm
    go_enter Try.func33, Try.ntmps33
    go_wp2_with fail
    refine (rthere_any _ _ _ _ _ _ _ _ _ (by omega) hn).mono ?_
    rw [ok]
    rintro e w1 ⟨rfl, b1⟩
    have F1 := fr_two b1
    have HF := Lib.hid F1
    obtain ⟨q0, q1, _, _⟩ := F1.2.1.use
    obtain ⟨q2, q3, q4, q5⟩ := F1.2.2.use
    clear F1 b1
    go_wp2_with fail
    refine bodyPost_ret (v := .tuple #[.agg #[.slice A L c, .slice P K d], .int .i64 (-9)]) ?_ rfl ?_
    · obtain ⟨r0, r1⟩ := HF.out.2.2.got (.slice A L c) (.slice P K d)
      simp [results, Try.results33, go_sem, r0, r1]
    · exact ⟨_, _, _, _, _, _, rfl, HF.out.mem (HM.out.keep HF.out.bel) _ _, HF.out.put _ _⟩
  | true =>
    have okm : okB m.1.length p n = true := by rw [HM.out.len1]; exact ok
    have hok := (okB_iff _ _ _).1 ok
    rw [fill_yes okm, codeF_yes]
    obtain ⟨k, rfl⟩ := Int.eq_ofNat_of_zero_le (by omega : 0 ≤ n)
    have hk : k ≤ 8192 := by omega
    obtain ⟨x, hx⟩ : ∃ x, lowB b = x := ⟨_, rfl⟩
    have h1 : b % 256 = (x.toNat : Int) := by rw [← hx]; exact (lowB_nat b).symm
    rw [hx, Int.toNat_natCast]
    have hx2 := x.toNat_lt
    have ok2 : okB m.1.length p ((List.replicate k x).length : Int) = true := by rw [List.length_replicate]; exact okm
    have CW : Hid (∀ (w1 : World) (B : Option Addr) (k' e : Nat), IsMem w1 (.agg #[.slice A L c, .slice P K d]) m → Byt w1 (.slice B k' e) (List.replicate k x) → Calls Try.prog 31 #[.agg #[.slice A L c, .slice P K d], .int .i64 p, .slice B k' e] w1 fun e w' => ∃ A' L' c' P' K' d', e = .returned (.tuple #[.agg #[.slice A' L' c', .slice P' K' d'], .int .i64 0]) ∧ IsMem w' (.agg #[.slice A' L' c', .slice P' K' d']) (writeF m p (List.replicate k x)) ∧ Below w1.heap.size w1 w') := by
      intro w1 B k' e hm hb
      have := rwrite_sl _ _ m (List.replicate k x) p w1 hm hb (by rw [HM.out.len1]; omega) (by rw [HM.out.len2]; exact hK) (by rw [List.length_replicate]; omega)
      rw [ok2, codeF_yes] at this
      exact this
    obtain ⟨i0, hi, hz0, hz1, hz2⟩ := info_parts info_u8
    obtain ⟨Z, hZ⟩ : ∃ Z, Z = (u8s (List.replicate k 0)).toArray := ⟨_, rfl⟩
    have hmk : ∀ w : World, (Instr.makeSlice 22 (.int .i64 (k : Int)) (.int .i64 (k : Int))).run Try.prog w = .ok (.slice (some ⟨w.heap.size, 0, none⟩) k k) (w.alloc (.cells Z 5)) := by
      intro w
      have := run_make (P := Try.prog) w 22 5 i0 (.int .u8 0) Try.underlying22 hi hz0 .i64 .i64 k k (by omega) (Int.le_refl _) (by rw [hz2]; omega) (by omega)
      rw [hz1, Nat.mul_one, Int.toNat_natCast, made_u8] at this
      rw [hZ]
      exact this
    have HZ := Lib.hid hZ
    clear okm ok2 hok hx hZ hi hz0 hz1 hz2
    go_enter Try.func33, Try.ntmps33
    go_wp2_with fail
    refine (rthere_any _ _ _ _ _ _ _ _ _ (by omega) hn).mono ?_
    rw [ok]
    rintro e w1 ⟨rfl, b1⟩
    have F1 := Lib.hid (fr_two b1)
    clear b1
    go_wp2_with fail
    go_loopw [12] (fun i wr => ∃ j : Nat, j ≤ k ∧ i = .int .i64 (j : Int) ∧ Hid (wr.heap[w1.heap.size]? = some (.cells (u8s (fillTo k j x)).toArray 5 (0, 0))) ∧ Below w1.heap.size w1 wr) (fun i _ => k - (intOf i).toNat)
    case atStart => exact ⟨0, Nat.zero_le _, rfl, by rw [fillTo_zero, HZ.out]; exact one_new _ _ _, (Below.refl _ _).alloc (Nat.le_refl _) _⟩
    case round =>
      obtain ⟨j, hj, rfl, hg, hb⟩ := hrel
      by_cases hlt : j < k
      · obtain ⟨y, hy⟩ : ∃ y, (u8s (fillTo k j x))[j]? = some y := ⟨_, u8s_at (by rw [fillTo_len _ _ _ hj]; exact hlt)⟩
        have hc : wr.cell? ⟨w1.heap.size, j, none⟩ = some y := by simp [World.cell?, hg.out, hy]
        have hf : wr.frozen? ⟨w1.heap.size, j, none⟩ = false := by simp [World.frozen?, hg.out]
        have HS := Lib.hid (Go.Joins.block_setCell (i := j) hg.out (.int .u8 (x.toNat : Int)))
        have HB : Hid (Below w1.heap.size w1 (wr.setCell ⟨w1.heap.size, j, none⟩ (.int .u8 (x.toNat : Int)))) := hb.setCell (Nat.le_refl _) _
        clear hy hg hb
        go_wp2
        go_roundw
        case rel => exact ⟨j + 1, by omega, by go_num, by rw [← fillTo_step k j x hlt]; exact HS.out, HB.out⟩
        case measure => simp [intOf]; omega
      · have hjk : j = k := by omega
        subst hjk
        have hg2 := hg.out
        rw [fillTo_all] at hg2
        have HBY : Hid (Byt wr (.slice (some ⟨w1.heap.size, 0, none⟩) j j) (List.replicate j x)) := by
          have := byt_block hg2 (by rw [List.length_replicate]; omega)
          rw [List.length_replicate] at this
          exact this
        have F2 := Lib.hid (F1.out.keep hb)
        obtain ⟨q0, q1, _, _⟩ := F2.out.2.1.use
        clear hg hg2 hb
        go_wp2_with fail
        refine (CW.out _ _ _ _ (HM.out.keep F2.out.bel) HBY.out).mono ?_
        rintro e w3 ⟨A', L', c', P', K', d', rfl, hm3, b3⟩
        have F3 := Lib.hid (F2.out.keep b3)
        have HM3 := Lib.hid hm3
        obtain ⟨q2, q3, q4, q5⟩ := F3.out.2.2.use
        clear b3 hm3 q0 q1
        go_wp2_with fail
        refine bodyPost_ret (v := .tuple #[.agg #[.slice A' L' c', .slice P' K' d'], .int .i64 0]) ?_ rfl ?_
        · obtain ⟨r0, r1⟩ := F3.out.2.2.got (.slice A' L' c') (.slice P' K' d')
          simp [results, Try.results33, go_sem, r0, r1]
        · exact ⟨_, _, _, _, _, _, rfl, F3.out.mem HM3.out _ _, F3.out.put _ _⟩
end Go.Proofs.Ytngmkbbeafefaaa
