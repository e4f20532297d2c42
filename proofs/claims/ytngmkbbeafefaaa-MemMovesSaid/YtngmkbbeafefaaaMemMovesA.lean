/- The walk of MemMoves. -/
import Derived.Test.YtngmkbbeafefaaaMemTextsA
import Derived.Test.YtngmkbbeafefaaaMemMath
namespace Go.Proofs.Ytngmkbbeafefaaa
open Go.RowKit
set_option linter.unusedVariables false
set_option linter.unusedSimpArgs false

set_option maxRecDepth 100000 in
set_option maxHeartbeats 16000000 in
theorem moves_early (A P : Option Addr) (L c K d : Nat) (m : PM) (fn tn nn : Nat) (cc : Int) (w : World) (HM : Hid (IsMem w (.agg #[.slice A L c, .slice P K d]) m)) (hf : fn ≤ 65535) (ht : tn ≤ 65535) (hn : nn ≤ 255) (H0 : (fewB m 600 && rightB m) = false ∨ L < 8) :
    Calls Try.prog 8 #[.agg #[.slice A L c, .slice P K d, .int .u16 (fn : Int), .int .u16 (tn : Int), .int .u8 (nn : Int), .int .i64 cc]] w fun e w' => e = .returned (.bool true) ∧ Below w.heap.size w w' := by
  cases hmay : (fewB m 600 && rightB m) with
  | false =>
    go_enter Try.func8, Try.ntmps8
    go_wp2_with fail
    refine (shown_any _).mono ?_
    rintro e w1 ⟨rfl, bb⟩
    have M1 := Lib.hid ((start6 HM.out _).keep bb)
    have B1 := Lib.hid (below_two bb)
    clear bb
    obtain ⟨cM0, cM1⟩ := M1.out.use
    go_wp2_with fail
    refine (may_at _ _ _ _ _ _ m _ M1.out.mem).mono ?_
    rw [hmay]
    rintro e w2 ⟨rfl, bb⟩
    have M2 := Lib.hid (M1.out.keep bb)
    have B2 := Lib.hid (below_then B1.out bb)
    clear bb cM0 cM1 M1 B1
    obtain ⟨cM0, cM1⟩ := M2.out.use
    go_wp2_with fail
    go_ret
    exact ⟨rfl, B2.out⟩
  | true =>
    have h1 : (L : Int) < 8 := by
      rcases H0 with h | h
      · rw [hmay] at h; cases h
      · omega
    clear H0
    go_enter Try.func8, Try.ntmps8
    go_wp2_with fail
    refine (shown_any _).mono ?_
    rintro e w1 ⟨rfl, bb⟩
    have M1 := Lib.hid ((start6 HM.out _).keep bb)
    have B1 := Lib.hid (below_two bb)
    clear bb
    obtain ⟨cM0, cM1⟩ := M1.out.use
    go_wp2_with fail
    refine (may_at _ _ _ _ _ _ m _ M1.out.mem).mono ?_
    rw [hmay]
    rintro e w2 ⟨rfl, bb⟩
    have M2 := Lib.hid (M1.out.keep bb)
    have B2 := Lib.hid (below_then B1.out bb)
    clear bb cM0 cM1 M1 B1
    obtain ⟨cM0, cM1⟩ := M2.out.use
    go_wp2_with fail
    go_ret
    exact ⟨rfl, B2.out⟩
set_option maxRecDepth 100000 in
set_option maxHeartbeats 16000000 in
theorem moves_core (A P : Option Addr) (L c K d : Nat) (m : PM) (fn tn nn : Nat) (cc : Int) (w : World) (HM : Hid (IsMem w (.agg #[.slice A L c, .slice P K d]) m)) (hf : fn ≤ 65535) (ht : tn ≤ 65535) (hn : nn ≤ 255) (k a b : Nat) (x : UInt8) (X1 Y1 : PM) (T1 : List UInt8) (hmay : (fewB m 600 && rightB m) = true) (hL : L ≤ 600) (hK : K ≤ 60) (h8 : 8 ≤ L) (h8d : decide ((L : Int) < 8) = false) (ek : (nn : Int) % ((L : Int) / 2) = (k : Int)) (ea : (fn : Int) % ((L : Int) - (k : Int)) = (a : Int)) (eb : (tn : Int) % ((L : Int) - (k : Int)) = (b : Int)) (z1 : (((L : Int) - (k : Int)) == 0) = false) (hk : k < L / 2) (ha : a + k < L) (hb : b + k < L) (hx : cc % 256 = (x.toNat : Int)) (HX : Hid (moveF m (a : Int) (b : Int) (k : Int) = X1)) (HY : Hid (fillF m (a : Int) (k : Int) cc = Y1)) (HC : Hid (moveC m (a : Int) (b : Int) (k : Int) = 0)) (HE : Hid (codeF (okB L (a : Int) (k : Int)) = 0)) (HE2 : Hid (codeF (okB L (b : Int) (k : Int)) = 0)) (HXL : Hid (X1.1.length = L)) (HYL : Hid (Y1.1.length = L)) (HS : Hid (textF m (a : Int) (k : Int) = T1)) (HT : Hid (textF X1 (b : Int) (k : Int) = T1)) (HU : Hid (textF Y1 (a : Int) (k : Int) = List.replicate k x)) :
    Calls Try.prog 8 #[.agg #[.slice A L c, .slice P K d, .int .u16 (fn : Int), .int .u16 (tn : Int), .int .u8 (nn : Int), .int .i64 cc]] w fun e w' => e = .returned (.bool true) ∧ Below w.heap.size w w' := by
  go_enter Try.func8, Try.ntmps8
  go_wp2_with fail
  refine (shown_any _).mono ?_
  rintro e w1 ⟨rfl, bb⟩
  have M1 := Lib.hid ((start6 HM.out _).keep bb)
  have B1 := Lib.hid (below_two bb)
  clear bb
  obtain ⟨cM0, cM1⟩ := M1.out.use
  go_wp2_with fail
  refine (may_at _ _ _ _ _ _ m _ M1.out.mem).mono ?_
  rw [hmay]
  rintro e w2 ⟨rfl, bb⟩
  have M2 := Lib.hid (M1.out.keep bb)
  have B2 := Lib.hid (below_then B1.out bb)
  clear bb cM0 cM1 M1 B1
  obtain ⟨cM0, cM1⟩ := M2.out.use
  go_wp2_with fail
  refine (move_at _ _ _ _ _ _ m (a : Int) (b : Int) (k : Int) _ M2.out.mem (by omega) (by omega) (by omega)).mono ?_
  rw [HC.out, HX.out]
  rintro e w3 ⟨A1, L1, c1, P1, K1, d1, rfl, hx1, bb⟩
  have Mp := Lib.hid (M2.out.keep bb)
  have M3 := Lib.hid (Mp.out.keep (al_one _ (.cells #[.slice A1 L1 c1, .slice P1 K1 d1] 25)))
  have B3 := Lib.hid (below_then (below_then B2.out bb) (al_one _ (.cells #[.slice A1 L1 c1, .slice P1 K1 d1] 25)))
  have X3 := Lib.hid (at_new hx1)
  clear bb cM0 cM1 M2 B2 hx1
  have hl : L = L1 := HXL.out.symm.trans X3.out.mem.len1
  subst hl
  obtain ⟨cM0, cM1⟩ := Mp.out.use
  have lM := Mp.out.lt
  go_wp2_with fail
  refine (text_at _ _ _ _ _ _ m (a : Int) (k : Int) _ M3.out.mem (by omega) (by omega)).mono ?_
  rw [HS.out, HE.out]
  rintro e w4 ⟨Ba, ka, ea2, rfl, hta, bb⟩
  clear Mp
  have M4 := Lib.hid (M3.out.keep bb)
  have X4 := Lib.hid (X3.out.keep bb)
  have B4 := Lib.hid (below_then B3.out bb)
  have S4 := Lib.hid hta
  clear bb cM0 cM1 lM M3 X3 B3 hta
  obtain ⟨cX0, cX1⟩ := X4.out.use
  go_wp2_with fail
  refine (text_at _ _ _ _ _ _ X1 (b : Int) (k : Int) _ X4.out.mem (by omega) (by omega)).mono ?_
  rw [HT.out, HE2.out]
  rintro e w5 ⟨Bb, kb, eb2, rfl, htb, bb⟩
  have M5 := Lib.hid (M4.out.keep bb)
  have X5 := Lib.hid (X4.out.keep bb)
  have S5 := Lib.hid (S4.out.keep bb)
  have B5 := Lib.hid (below_then B4.out bb)
  have R5 := Lib.hid htb
  clear bb cX0 cX1 M4 X4 S4 B4 htb
  obtain ⟨cM0, cM1⟩ := M5.out.use
  go_wp2_with fail
  refine (fill_at _ _ _ _ _ _ m (a : Int) (k : Int) cc _ M5.out.mem (by omega) (by omega) (by omega)).mono ?_
  rw [HE.out, HY.out]
  rintro e w6 ⟨A2, L2, c2, P2, K2, d2, rfl, hx2, bb⟩
  have Mp := Lib.hid (M5.out.keep bb)
  have M6 := Lib.hid (Mp.out.keep (al_one _ (.cells #[.slice A2 L2 c2, .slice P2 K2 d2] 25)))
  have Xp := Lib.hid (X5.out.keep bb)
  have X6 := Lib.hid (Xp.out.keep (al_one _ (.cells #[.slice A2 L2 c2, .slice P2 K2 d2] 25)))
  have Sp := Lib.hid (S5.out.keep bb)
  have S6 := Lib.hid (Sp.out.keep (al_one _ (.cells #[.slice A2 L2 c2, .slice P2 K2 d2] 25)))
  have Rp := Lib.hid (R5.out.keep bb)
  have R6 := Lib.hid (Rp.out.keep (al_one _ (.cells #[.slice A2 L2 c2, .slice P2 K2 d2] 25)))
  have B6 := Lib.hid (below_then (below_then B5.out bb) (al_one _ (.cells #[.slice A2 L2 c2, .slice P2 K2 d2] 25)))
  have Y6 := Lib.hid (at_new hx2)
  clear bb cM0 cM1 M5 X5 S5 R5 B5 hx2
  have hl : L = L2 := HYL.out.symm.trans Y6.out.mem.len1
  subst hl
  go_wp2_with fail
  refine (text_at _ _ _ _ _ _ Y1 (a : Int) (k : Int) _ Y6.out.mem (by omega) (by omega)).mono ?_
  rw [HU.out, HE.out]
  rintro e w7 ⟨Bc, kc, ec, rfl, htc, bb⟩
  clear Mp Xp Sp Rp
  have M7 := Lib.hid (M6.out.keep bb)
  have X7 := Lib.hid (X6.out.keep bb)
  have S7 := Lib.hid (S6.out.keep bb)
  have R7 := Lib.hid (R6.out.keep bb)
  have Y7 := Lib.hid (Y6.out.keep bb)
  have B7 := Lib.hid (below_then B6.out bb)
  have V7 := Lib.hid htc
  clear bb M6 X6 S6 R6 Y6 B6 htc
  have hlen : k = kc := by have := V7.out.len; simpa using this
  subst hlen
  have cv1 := S7.out.conv
  have cv2 := R7.out.conv
  generalize strB T1 = st at cv1 cv2
  go_wp2_with fail
  clear cv1 cv2
  go_loop [22] (fun i => ∃ j : Nat, j ≤ k ∧ i = .int .i64 (j : Int)) (fun i => k - (intOf i).toNat)
  case atStart => exact ⟨0, Nat.zero_le _, rfl⟩
  case round =>
    obtain ⟨j, hj, rfl⟩ := hrel
    by_cases hjk : j < k
    · obtain ⟨g, q, rfl, hg, hc, hke⟩ := mem_cell (m := (List.replicate k x, [])) (mem_mk V7.out (pats_nil _)) hjk
      have hx1 : (List.replicate k x).getD j 0 = x := by simp [List.getD, hjk]
      have hc' : w7.cell? ⟨g, q + j, none⟩ = some (.int .u8 (x.toNat : Int)) := by rw [← hx1]; exact hc
      have hx2 := x.toNat_lt
      have hjk' : (j : Int) < (k : Int) := by omega
      clear hc hx1
      go_wp2
      go_round
      case rel => exact ⟨j + 1, by omega, by go_num⟩
      case measure => simp [intOf]; omega
    · have hjk' : j = k := by omega
      subst hjk'
      go_wp2
      go_ret
      exact ⟨rfl, B7.out⟩
theorem moves_walk (A P : Option Addr) (L c K d : Nat) (m : PM) (fn tn nn : Nat) (cc : Int) (w : World) (HM : Hid (IsMem w (.agg #[.slice A L c, .slice P K d]) m)) (hf : fn ≤ 65535) (ht : tn ≤ 65535) (hn : nn ≤ 255) :
    Calls Try.prog 8 #[.agg #[.slice A L c, .slice P K d, .int .u16 (fn : Int), .int .u16 (tn : Int), .int .u8 (nn : Int), .int .i64 cc]] w fun e w' => e = .returned (.bool true) ∧ Below w.heap.size w w' := by
  by_cases H0 : (fewB m 600 && rightB m) = false ∨ L < 8
  · exact moves_early A P L c K d m fn tn nn cc w HM hf ht hn H0
  have hmay : (fewB m 600 && rightB m) = true := by
    cases h : (fewB m 600 && rightB m) with
    | true => rfl
    | false => exact absurd (.inl h) H0
  have h8 : 8 ≤ L := by
    rcases Nat.lt_or_ge L 8 with h | h
    · exact absurd (.inr h) H0
    · exact h
  obtain ⟨hL, hK, _⟩ := may_parts hmay
  have eL := HM.out.len1
  have eK := HM.out.len2
  have hL' : L ≤ 600 := by omega
  have hK' : K ≤ 60 := by omega
  obtain ⟨k, ek⟩ : ∃ k, nn % (L / 2) = k := ⟨_, rfl⟩
  have hk : k < L / 2 := by rw [← ek]; exact Nat.mod_lt _ (by omega)
  obtain ⟨a, ea⟩ : ∃ a, fn % (L - k) = a := ⟨_, rfl⟩
  have ha : a < L - k := by rw [← ea]; exact Nat.mod_lt _ (by omega)
  obtain ⟨b, eb⟩ : ∃ b, tn % (L - k) = b := ⟨_, rfl⟩
  have hb : b < L - k := by rw [← eb]; exact Nat.mod_lt _ (by omega)
  have ek' : (nn : Int) % ((L : Int) / 2) = (k : Int) := by rw [← ek]; push_cast; rfl
  have eLk : ((L - k : Nat) : Int) = (L : Int) - (k : Int) := by omega
  have ea' : (fn : Int) % ((L : Int) - (k : Int)) = (a : Int) := by rw [← ea, ← eLk]; push_cast; rfl
  have eb' : (tn : Int) % ((L : Int) - (k : Int)) = (b : Int) := by rw [← eb, ← eLk]; push_cast; rfl
  have z1 : (((L : Int) - (k : Int)) == 0) = false := by simp; omega
  have oa : okB L (a : Int) (k : Int) = true := (okB_iff _ _ _).2 (by omega)
  have ob : okB L (b : Int) (k : Int) = true := (okB_iff _ _ _).2 (by omega)
  have oa' : okB m.1.length (a : Int) (k : Int) = true := by rw [eL]; exact oa
  have hs : (textF m (a : Int) (k : Int)).length = k := by rw [textF_len oa', Int.toNat_natCast]
  have ob2 : okB m.1.length (b : Int) ((textF m (a : Int) (k : Int)).length : Int) = true := by rw [hs, eL]; exact ob
  have hX : moveF m (a : Int) (b : Int) (k : Int) = writeF m (b : Int) (textF m (a : Int) (k : Int)) := by unfold moveF; rw [if_pos oa']
  have hr : (List.replicate k (lowB cc)).length = k := by simp
  have hY : fillF m (a : Int) (k : Int) cc = writeF m (a : Int) (List.replicate k (lowB cc)) := by unfold fillF; rw [if_pos oa', Int.toNat_natCast]
  have oa2 : okB m.1.length (a : Int) ((List.replicate k (lowB cc)).length : Int) = true := by rw [hr]; exact oa'
  have hT : textF (moveF m (a : Int) (b : Int) (k : Int)) (b : Int) (k : Int) = textF m (a : Int) (k : Int) := by
    rw [hX]
    by_cases hn : textF m (a : Int) (k : Int) = []
    · have hk0 : k = 0 := by rw [hn] at hs; simpa using hs.symm
      subst hk0
      have ob0 : okB (writeF m ((b : Nat) : Int) []).1.length ((b : Nat) : Int) ((0 : Nat) : Int) = true := (okB_iff _ _ _).2 (.inl rfl)
      rw [hn]
      apply List.eq_nil_of_length_eq_zero
      have := textF_len ob0
      simpa using this
    · have := text_write m (b : Int) _ ob2 hn
      rw [hs] at this
      exact this
  have hU : textF (fillF m (a : Int) (k : Int) cc) (a : Int) (k : Int) = List.replicate k (lowB cc) := by
    rw [hY]
    by_cases hn : List.replicate k (lowB cc) = []
    · have hk0 : k = 0 := by rw [hn] at hr; simpa using hr.symm
      subst hk0
      have ob0 : okB (writeF m ((a : Nat) : Int) (List.replicate 0 (lowB cc))).1.length ((a : Nat) : Int) ((0 : Nat) : Int) = true := (okB_iff _ _ _).2 (.inl rfl)
      apply List.eq_nil_of_length_eq_zero
      have := textF_len ob0
      simpa using this
    · have := text_write m (a : Int) _ oa2 hn
      rw [hr] at this
      exact this
  exact moves_core A P L c K d m fn tn nn cc w HM hf ht hn k a b (lowB cc) _ _ _ hmay hL' hK' h8 (by simp; omega) ek' ea' eb' z1 hk (by omega) (by omega) (lowB_nat cc).symm (Lib.hid rfl) (Lib.hid rfl) (Lib.hid (by unfold moveC; rw [if_pos oa', eL, ob]; rfl)) (Lib.hid (by rw [oa]; rfl)) (Lib.hid (by rw [ob]; rfl)) (Lib.hid (by rw [hX, writeF_len]; exact eL)) (Lib.hid (by rw [hY, writeF_len]; exact eL)) (Lib.hid rfl) (Lib.hid hT) (Lib.hid hU)
theorem moves_int (A P : Option Addr) (L c K d : Nat) (m : PM) (f t n cc : Int) (w : World) (HM : Hid (IsMem w (.agg #[.slice A L c, .slice P K d]) m)) (hf : 0 ≤ f ∧ f ≤ 65535) (ht : 0 ≤ t ∧ t ≤ 65535) (hn : 0 ≤ n ∧ n ≤ 255) :
    Calls Try.prog 8 #[.agg #[.slice A L c, .slice P K d, .int .u16 f, .int .u16 t, .int .u8 n, .int .i64 cc]] w fun e w' => e = .returned (.bool true) ∧ Below w.heap.size w w' := by
  obtain ⟨f', rfl⟩ := Int.eq_ofNat_of_zero_le hf.1
  obtain ⟨t', rfl⟩ := Int.eq_ofNat_of_zero_le ht.1
  obtain ⟨n', rfl⟩ := Int.eq_ofNat_of_zero_le hn.1
  exact moves_walk A P L c K d m f' t' n' cc w HM (by omega) (by omega) (by omega)
end Go.Proofs.Ytngmkbbeafefaaa
