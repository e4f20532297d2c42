/- Contracts of StoreByte and Move of package mem. -/
import Derived.Test.YtngmkbbeafefaaaMemWalksF
namespace Go.Proofs.Ytngmkbbeafefaaa
open Go.RowKit

set_option maxRecDepth 100000 in
set_option maxHeartbeats 2000000 in
theorem storeByte_at (A P : Option Addr) (L c K d : Nat) (m : PM) (p n : Int) (w : World) (HM : Hid (IsMem w (.agg #[.slice A L c, .slice P K d]) m)) (hL : L ≤ 65536) (hK : K < 1000) :
    Calls Try.prog 25 #[.agg #[.slice A L c, .slice P K d], .int .i64 p, .int .i64 n] w fun e w' => ∃ A' L' c' P' K' d', e = .returned (.tuple #[.agg #[.slice A' L' c', .slice P' K' d'], .int .i64 (codeF (okB L p 1))]) ∧ IsMem w' (.agg #[.slice A' L' c', .slice P' K' d']) (writeF m p [lowB n]) ∧ Below w.heap.size w w' := by
  obtain ⟨x, hx⟩ : ∃ x, lowB n = x := ⟨_, rfl⟩
  have h1 : n % 256 = (x.toNat : Int) := by rw [← hx]; exact (lowB_nat n).symm
  rw [hx]
  have hx2 := x.toNat_lt
  obtain ⟨C, hC⟩ : ∃ C, codeF (okB L p 1) = C := ⟨_, rfl⟩
  have HC := Lib.hid hC
  rw [hC]
  clear hx hC
  go_enter Try.func25, Try.ntmps25
  go_wp2_with fail
  refine (write_sl _ _ m [x] _ _ (HM.out.keep ((fr_new w A P L c K d).bel.alloc (by simp; omega) _)) (byt_one3 w A P L c K d x) (by rw [HM.out.len1]; exact hL) (by rw [HM.out.len2]; exact hK) (by simp)).mono ?_
  rw [HM.out.len1, show (([x] : List UInt8).length : Int) = 1 from rfl, HC.out]
  rintro e w3 ⟨A', L', c', P', K', d', rfl, hm3, b3⟩
  have F3 := fr_two (box_below b3)
  have HF := Lib.hid F3
  have HM3 := Lib.hid hm3
  obtain ⟨q2, q3, q4, q5⟩ := F3.2.2.use
  clear F3 b3 hm3
  go_wp2_with fail
  refine bodyPost_ret (v := .tuple #[.agg #[.slice A' L' c', .slice P' K' d'], .int .i64 C]) ?_ rfl ?_
  · obtain ⟨r0, r1⟩ := HF.out.2.2.got (.slice A' L' c') (.slice P' K' d')
    simp [results, Try.results25, go_sem, r0, r1]
  · exact ⟨_, _, _, _, _, _, rfl, HF.out.mem HM3.out _ _, HF.out.put _ _⟩

set_option maxRecDepth 100000 in
set_option maxHeartbeats 2000000 in
theorem move_at (A P : Option Addr) (L c K d : Nat) (m : PM) (f t n : Int) (w : World) (HM : Hid (IsMem w (.agg #[.slice A L c, .slice P K d]) m)) (hL : L ≤ 65536) (hK : K < 1000) (hn : n ≤ 9223372036854775807) :
    Calls Try.prog 34 #[.agg #[.slice A L c, .slice P K d], .int .i64 f, .int .i64 t, .int .i64 n] w fun e w' => ∃ A' L' c' P' K' d', e = .returned (.tuple #[.agg #[.slice A' L' c', .slice P' K' d'], .int .i64 (moveC m f t n)]) ∧ IsMem w' (.agg #[.slice A' L' c', .slice P' K' d']) (moveF m f t n) ∧ Below w.heap.size w w' := by
  obtain ⟨C, hC⟩ : ∃ C, moveC m f t n = C := ⟨_, rfl⟩
  cases ok : okB L f n with
  | false =>
    have okm : okB m.1.length f n = false := by rw [HM.out.len1]; exact ok
    have hF : moveF m f t n = m := by unfold moveF; rw [if_neg (by simp [okm])]
    have hC9 : moveC m f t n = -9 := by unfold moveC; rw [if_neg (by simp [okm])]
    rw [hF, hC9]
    clear hF hC9 hC okm
    go_enter Try.func34, Try.ntmps34
    go_wp2_with fail
    refine (text_at _ _ _ _ _ _ m _ _ _ (HM.out.keep (fr_new w A P L c K d).bel) hL hn).mono ?_
    rw [ok, codeF_no]
    rintro e w1 ⟨B, k, e', rfl, hu1, b1⟩
    have F1 := fr_two b1
    have HF := Lib.hid F1
    obtain ⟨q0, q1, _, _⟩ := F1.2.1.use
    obtain ⟨q2, q3, q4, q5⟩ := F1.2.2.use
    clear F1 b1 hu1
    go_wp2_with fail
    refine bodyPost_ret (v := .tuple #[.agg #[.slice A L c, .slice P K d], .int .i64 (-9)]) ?_ rfl ?_
    · obtain ⟨r0, r1⟩ := HF.out.2.2.got (.slice A L c) (.slice P K d)
      simp [results, Try.results34, go_sem, r0, r1]
    · exact ⟨_, _, _, _, _, _, rfl, HF.out.mem (HM.out.keep HF.out.bel) _ _, HF.out.put _ _⟩
  | true =>
    have okm : okB m.1.length f n = true := by rw [HM.out.len1]; exact ok
    have hok := (okB_iff _ _ _).1 ok
    have hF : moveF m f t n = writeF m t (textF m f n) := by unfold moveF; rw [if_pos okm]
    have hl : ((textF m f n).length : Int) = n := by rw [textF_len okm]; omega
    have hC2 : codeF (okB m.1.length t ((textF m f n).length : Int)) = C := by rw [hl, ← hC]; unfold moveC; rw [if_pos okm]
    have HC := Lib.hid hC2
    have HL : Hid ((textF m f n).length ≤ 65536) := by show _ ≤ _; omega
    rw [hF, hC]
    clear hC2 hF hC hl okm hok
    go_enter Try.func34, Try.ntmps34
    go_wp2_with fail
    refine (text_at _ _ _ _ _ _ m _ _ _ (HM.out.keep (fr_new w A P L c K d).bel) hL hn).mono ?_
    rw [ok, codeF_yes]
    rintro e w1 ⟨B, k, e', rfl, hu1, b1⟩
    have F1 := fr_two b1
    have HF := Lib.hid F1
    have HU := Lib.hid hu1
    obtain ⟨q0, q1, _, _⟩ := F1.2.1.use
    clear F1 b1 hu1
    go_wp2_with fail
    refine (write_sl _ _ m (textF m f n) _ _ (HM.out.keep HF.out.bel) HU.out (by rw [HM.out.len1]; exact hL) (by rw [HM.out.len2]; exact hK) HL.out).mono ?_
    rw [HC.out]
    rintro e w3 ⟨A', L', c', P', K', d', rfl, hm3, b3⟩
    have F3 := HF.out.keep b3
    have HF3 := Lib.hid F3
    have HM3 := Lib.hid hm3
    obtain ⟨q2, q3, q4, q5⟩ := F3.2.2.use
    clear F3 b3 hm3 q0 q1
    go_wp2_with fail
    refine bodyPost_ret (v := .tuple #[.agg #[.slice A' L' c', .slice P' K' d'], .int .i64 C]) ?_ rfl ?_
    · obtain ⟨r0, r1⟩ := HF3.out.2.2.got (.slice A' L' c') (.slice P' K' d')
      simp [results, Try.results34, go_sem, r0, r1]
    · exact ⟨_, _, _, _, _, _, rfl, HF3.out.mem HM3.out _ _, HF3.out.put _ _⟩

end Go.Proofs.Ytngmkbbeafefaaa
