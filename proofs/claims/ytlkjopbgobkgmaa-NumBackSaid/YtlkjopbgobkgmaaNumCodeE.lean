/- Contracts of num's UShow and Show. -/
import Derived.Test.YtlkjopbgobkgmaaNumCodeD
import Derived.Test.YtlkjopbgobkgmaaBytRev
import Derived.Test.YtlkjopbgobkgmaaWalksC
namespace Go.Proofs.Ytlkjopbgobkgmaa
open Go.RowKit
set_option linter.unusedVariables false
set_option linter.unusedSimpArgs false

theorem conv_row {w : World} {v : Value} {l : List UInt8} (h : Byt w v l) (hne : l ≠ []) : (convert 38 9 v).run Try.prog w = .ok (.string (strB l)) w := by
  obtain ⟨A, c, rfl, _, _, hli⟩ := h
  rcases hli with h | ⟨g, o, rfl, _, hc⟩
  · have := congrArg List.length h
    rw [u8s_len] at this
    exact absurd (List.eq_nil_of_length_eq_zero this) hne
  · refine run_convert_bytes_back w 38 9 5 ⟨g, o, none⟩ c l Try.underlying38 Try.underlying5 Try.underlying9 fun j hj => ?_
    have := hc j (encB l[j]) (by unfold u8s; rw [List.getElem?_map, List.getElem?_eq_getElem hj]; rfl)
    rw [← this, add_at]
theorem BOwns.keep {w w' : World} {base n : Nat} {v : Value} {l : List UInt8} (h : BOwns w base v n l) (b : Below w.heap.size w w') : BOwns w' base v n l := by
  refine ⟨h.1, ?_⟩
  rcases h.2 with h2 | ⟨g, cap, cur, e, hb, hg, h3, h4, h5, h6⟩
  · exact .inl h2
  · exact .inr ⟨g, cap, cur, e, hb, (b.block g (Array.getElem?_eq_some_iff.1 hg).1).trans hg, h3, h4, h5, h6⟩
def measU (a b : Value) : Nat := match b with | .bool true => un (intOf a) + 1 | _ => 0
theorem udiv_facts (N : Int) (u k : Nat) (hu : un N = u) (h2 : 2 ≤ k) (h36 : k ≤ 36) : uq N 0 (k : Int) = ((u / k : Nat) : Int) ∧ ur N 0 (k : Int) = ((u % k : Nat) : Int) ∧ uc 0 (k : Int) = 0 := by
  have e0 : un 0 = 0 := by decide +kernel
  have ek : un (k : Int) = k := by have := un_mod (k : Int); omega
  have hlt := un_lt N
  have ok : uok 0 (k : Int) = true := by unfold uok; rw [e0, ek]; simp; omega
  have hq : u / k < 9223372036854775808 := by
    rw [Nat.div_lt_iff_lt_mul (by omega)]
    omega
  have hr : u % k < k := Nat.mod_lt _ (by omega)
  refine ⟨?_, ?_, ?_⟩
  · unfold uq
    rw [if_pos ok, e0, ek, hu, Nat.zero_mul, Nat.zero_add]
    generalize u / k = q at hq ⊢
    exact w64_id (by omega) (by omega)
  · unfold ur
    rw [if_pos ok, e0, ek, hu, Nat.zero_mul, Nat.zero_add]
    generalize u % k = r at hr ⊢
    exact w64_id (by omega) (by omega)
  · unfold uc
    rw [if_neg (by omega), if_pos ok]
/-- What a number's text is made of: what is to come yet, ahead of the digits that were laid, the last one first. -/
def Half (k u0 u : Nat) (m : Bool) (l : List UInt8) : Prop := (m = true → usF k u0 = usF k u ++ l.reverse) ∧ (m = false → usF k u0 = l.reverse)
theorem Half.big {k u0 u : Nat} {l : List UInt8} (h : Half k u0 u true l) (h2 : 2 ≤ k) (hu : k ≤ u) : Half k u0 (u / k) true (l ++ [UInt8.ofNat (digN (u % k))]) := by
  refine ⟨fun _ => ?_, fun h => (by cases h)⟩
  rw [h.1 rfl, usF_big h2 hu]
  simp
theorem Half.low {k u0 u : Nat} {l : List UInt8} (h : Half k u0 u true l) (h2 : 2 ≤ k) (hu : u < k) : Half k u0 (u / k) false (l ++ [UInt8.ofNat (digN (u % k))]) := by
  refine ⟨fun h => (by cases h), fun _ => ?_⟩
  rw [h.1 rfl, usF_low hu, Nat.mod_eq_of_lt hu]
  simp
theorem Half.len {k u0 u : Nat} {m : Bool} {l : List UInt8} (h : Half k u0 u m l) (h2 : 2 ≤ k) (h0 : u0 < 18446744073709551616) : l.length ≤ 64 := by
  have hl := us_le h2 63 u0 (by omega)
  cases m with
  | true => rw [h.1 rfl, List.length_append, List.length_reverse] at hl; omega
  | false => rw [h.2 rfl, List.length_reverse] at hl; omega
theorem byt_one (w : World) (x : UInt8) : Byt (w.alloc (.cells #[.int .u8 (x.toNat : Int)] 5)) (.slice (some ⟨w.heap.size, 0, none⟩) 1 1) [x] := byt_block (l := [x]) (one_newN w _ _) (by simp)
theorem bown_app {w : World} {base : Nat} {v : Value} {l : List UInt8} {x : UInt8} (h : BOwns w base v (l.length + 1) (l ++ [x])) : BOwns w base v (l ++ [x]).length (l ++ [x]) := by
  have e : (l ++ [x]).length = l.length + 1 := by simp
  rw [e]; exact h
set_option maxRecDepth 100000 in
set_option maxHeartbeats 4000000 in
theorem ushow_any (n b : Int) (w : World) (h0 : -9223372036854775808 ≤ n) (h1 : n ≤ 9223372036854775807) :
    Calls Try.prog 11 #[.int .i64 n, .int .i64 b] w fun e w' => e = .returned (.tuple #[.string (strB (ushowF n b)), .int .i64 (showC b)]) ∧ Below w.heap.size w w' := by
  cases hb : baseB b with
  | false =>
    have H1 : Hid (strB (ushowF n b) = ⟨#[]⟩) := by show _ = _; unfold ushowF; rw [if_neg (by simp [hb])]; rfl
    have H2 : Hid (showC b = -24) := by show _ = _; unfold showC; rw [if_neg (by simp [hb])]
    rw [H1.out, H2.out]
    go_enter Try.func11, Try.ntmps11
    go_wp2_with fail
    refine (isbase_any b _).mono ?_
    rw [hb]
    rintro e w1 ⟨rfl, rfl⟩
    go_wp2
    go_ret2
    exact ⟨rfl, Below.refl _ _⟩
  | true =>
    obtain ⟨b2, b36⟩ := (baseB_iff b).1 hb
    obtain ⟨k, rfl⟩ := Int.eq_ofNat_of_zero_le (by omega : 0 ≤ b)
    have H1 : Hid (ushowF n (k : Int) = usF k (un n)) := by show _ = _; unfold ushowF; rw [if_pos hb, Int.toNat_natCast]
    have H2 : Hid (showC (k : Int) = 0) := by show _ = _; unfold showC; rw [if_pos hb]
    rw [H1.out, H2.out]
    have hul := un_lt n
    obtain ⟨u0, hu0⟩ : ∃ u0, un n = u0 := ⟨_, rfl⟩
    rw [hu0] at hul ⊢
    have HU := Lib.hid hu0
    have HUL := Lib.hid hul
    have HK2 : Hid (2 ≤ k ∧ k ≤ 36) := by show _ ∧ _; omega
    clear H1 H2 hu0 hul b2 b36 h0 h1
    go_enter Try.func11, Try.ntmps11
    go_wp2_with fail
    refine (isbase_any _ _).mono ?_
    rw [hb]
    rintro e w1 ⟨rfl, rfl⟩
    clear hb
    go_wp2_with fail
    go_loopw [0, 6, 7] (fun s0 s6 s7 wr => ∃ (N : Int) (u : Nat) (v : Value) (m : Bool) (l : List UInt8), s0 = .int .i64 N ∧ v = s6 ∧ s7 = .bool m ∧ Hid (un N = u) ∧ Hid (BOwns wr w.heap.size v l.length l) ∧ Hid (Below w.heap.size w wr) ∧ Hid (Half k u0 u m l)) (fun s0 _ s7 _ => measU s0 s7)
    case atStart => exact ⟨n, u0, _, true, [], rfl, rfl, rfl, HU, Lib.hid (bowns_none _ _), Lib.hid (Below.refl _ _), Lib.hid ⟨fun _ => by simp, fun h => by cases h⟩⟩
    case round =>
      obtain ⟨N, u, v, m, l, rfl, hv0, rfl, HN, HO, HB, HH⟩ := hrel
      subst hv0
      cases m with
      | true =>
        have hkk := HK2.out
        have hF := udiv_facts N u k HN.out HK2.out.1 HK2.out.2
        have HD : Hid (∀ w, Calls Try.prog 20 #[.int .i64 N, .int .i64 0, .int .i64 (k : Int)] w fun e w' => e = .returned (.tuple #[.int .i64 ((u / k : Nat) : Int), .int .i64 ((u % k : Nat) : Int), .int .i64 0]) ∧ Below w.heap.size w w') := by
          show ∀ _, _
          intro w
          have := udiv_any N 0 (k : Int) w (by unfold cellR; omega)
          rw [hF.1, hF.2.1, hF.2.2] at this
          exact this
        have hll := HH.out.len HK2.out.1 HUL.out
        have HQ : Hid ((u / k = 0 ↔ u < k) ∧ u / k < 9223372036854775808 ∧ (k ≤ u → u / k < u)) := by
          have := un_lt N
          have hn := HN.out
          refine ⟨Nat.div_eq_zero_iff_lt (by omega), ?_, fun h => Nat.div_lt_self (by omega) (by omega)⟩
          rw [Nat.div_lt_iff_lt_mul (by omega)]
          omega
        have HX : Hid (digF ((u % k : Nat) : Int) = ((UInt8.ofNat (digN (u % k))).toNat : Int)) := dig_u8 _
        obtain ⟨q, hq⟩ : ∃ q, u / k = q := ⟨_, rfl⟩
        obtain ⟨r, hr⟩ : ∃ r, u % k = r := ⟨_, rfl⟩
        obtain ⟨x, hx⟩ : ∃ x, UInt8.ofNat (digN r) = x := ⟨_, rfl⟩
        have HBIG : Hid (k ≤ u → Half k u0 q true (l ++ [x])) := fun h => by have := HH.out.big HK2.out.1 h; rw [hq, hr, hx] at this; exact this
        have HLOW : Hid (u < k → Half k u0 q false (l ++ [x])) := fun h => by have := HH.out.low HK2.out.1 h; rw [hq, hr, hx] at this; exact this
        rw [hq, hr] at HD
        rw [hr, hx] at HX
        rw [hq] at HQ
        have HUQ : Hid (un (q : Int) = q) := by show _ = _; have := un_mod (q : Int); have := HQ.out.2.1; omega
        have HLL := Lib.hid hll
        clear hF hq hr hx hll hkk
        by_cases h : q = 0
        · have hH := HLOW.out (HQ.out.1.1 h)
          have HH2 := Lib.hid hH
          have hm : measU (.int .i64 N) (.bool true) = u + 1 := by unfold measU intOf; rw [HN.out]
          have HM := Lib.hid hm
          subst h
          clear HBIG HLOW HQ hH hm HH
          go_wp2_with fail
          refine (HD.out _).mono ?_
          rintro e w2 ⟨rfl, bb⟩
          have B2 := Lib.hid (below_then HB.out bb)
          have O2 := Lib.hid (HO.out.keep bb)
          clear bb
          go_wp2_with fail
          refine (digit_any _ _).mono ?_
          rw [HX.out]
          rintro e w3 ⟨rfl, bb⟩
          have B3 := Lib.hid (below_then B2.out bb)
          have O3 := Lib.hid (O2.out.keep bb)
          clear bb
          go_wp2_with ((at_builtin; (refine wpList_bapp rfl _ _ rfl w.heap.size v l.length l rfl (O3.out.alloc _) (some ⟨w3.heap.size, 0, none⟩) 1 1 [x] rfl (byt_one w3 x) (by have := HLL.out; omega) (by have := B3.out.size; simp; omega) w (alloc_then B3.out) (Nat.le_refl _) ?_; intro v2 w4 ho hb2 hgr; have O4 := Lib.hid (bown_app ho); have B4 := Lib.hid hb2; clear ho hb2 hgr)))
          go_roundw
          case rel => exact ⟨0, 0, v2, false, l ++ [x], rfl, rfl, rfl, HUQ, O4, B4, HH2⟩
          case measure => rw [HM.out]; simp [measU]
        · have hku : k ≤ u := by have := HQ.out.1; omega
          have HH2 := Lib.hid (HBIG.out hku)
          have HLT := Lib.hid (HQ.out.2.2 hku)
          have HM : Hid (measU (.int .i64 N) (.bool true) = u + 1) := by show _ = _; unfold measU intOf; rw [HN.out]
          have hq0 : ((q : Int) == 0) = false := by simp; omega
          have hq1 : ((q : Int) != 0) = true := by rw [bne, hq0]; rfl
          have hq2 : ¬ (q : Int) = 0 := by omega
          clear HBIG HLOW HQ hku HH
          go_wp2_with fail
          refine (HD.out _).mono ?_
          rintro e w2 ⟨rfl, bb⟩
          have B2 := Lib.hid (below_then HB.out bb)
          have O2 := Lib.hid (HO.out.keep bb)
          clear bb
          go_wp2_with fail
          refine (digit_any _ _).mono ?_
          rw [HX.out]
          rintro e w3 ⟨rfl, bb⟩
          have B3 := Lib.hid (below_then B2.out bb)
          have O3 := Lib.hid (O2.out.keep bb)
          clear bb
          go_wp2_with ((at_builtin; (refine wpList_bapp rfl _ _ rfl w.heap.size v l.length l rfl (O3.out.alloc _) (some ⟨w3.heap.size, 0, none⟩) 1 1 [x] rfl (byt_one w3 x) (by have := HLL.out; omega) (by have := B3.out.size; simp; omega) w (alloc_then B3.out) (Nat.le_refl _) ?_; intro v2 w4 ho hb2 hgr; have O4 := Lib.hid (bown_app ho); have B4 := Lib.hid hb2; clear ho hb2 hgr)))
          go_roundw
          case rel => exact ⟨(q : Int), q, v2, true, l ++ [x], rfl, rfl, rfl, HUQ, O4, B4, HH2⟩
          case measure => rw [HM.out]; have := HLT.out; simp [measU, intOf, HUQ.out]; omega
      | false =>
        have he := HH.out.2 rfl
        have hne : l ≠ [] := by
          intro e
          rw [e] at he
          exact us_ne he
        have HLL := Lib.hid (HH.out.len HK2.out.1 HUL.out)
        have HE := Lib.hid he
        have hrn : l.reverse ≠ [] := by simpa using hne
        clear HH he
        have HR := Lib.hid (rev_own wr w.heap.size l.length v l HO.out hne (by have := HLL.out; omega))
        go_wp2_with fail
        refine (HR.out).mono ?_
        rintro e w2 ⟨rfl, hby, hbb⟩
        have B2 := Lib.hid (hbb w HB.out (Nat.le_refl _))
        have cv := conv_row hby hrn
        clear hbb hby hrn hne
        go_wp2_with fail
        go_ret2
        exact ⟨by rw [HE.out]; rfl, B2.out⟩

set_option maxRecDepth 100000 in
set_option maxHeartbeats 4000000 in
theorem show_any (n b : Int) (w : World) (h0 : -9223372036854775808 ≤ n) (h1 : n ≤ 9223372036854775807) :
    Calls Try.prog 9 #[.int .i64 n, .int .i64 b] w fun e w' => e = .returned (.tuple #[.string (strB (showF n b)), .int .i64 (showC b)]) ∧ Below w.heap.size w w' := by
  by_cases hn : 0 ≤ n
  · have H : Hid (ushowF n b = showF n b) := by
      show _ = _
      unfold ushowF showF
      have e : un n = n.toNat := by have := un_mod n; omega
      rw [if_pos hn, e]
    have HU := Lib.hid (ushow_any n b w h0 h1)
    clear h0 h1
    go_enter Try.func9, Try.ntmps9
    go_wp2_with fail
    refine (HU.out).mono ?_
    rw [H.out]
    rintro e w1 ⟨rfl, hb⟩
    go_wp2
    go_ret2
    exact ⟨rfl, hb⟩
  · have hn' : decide (0 ≤ n) = false := by simp; omega
    have HU := Lib.hid (ushow_any (wrap64 (-n)) b w (by unfold wrap64; omega) (by unfold wrap64; omega))
    cases hb : baseB b with
    | false =>
      have H : Hid (ushowF (wrap64 (-n)) b = [] ∧ showF n b = []) := by
        constructor
        · unfold ushowF; rw [if_neg (by simp [hb])]
        · unfold showF; rw [if_neg (by simp [hb])]
      have HC : Hid (showC b = -24) := by show _ = _; unfold showC; rw [if_neg (by simp [hb])]
      have HE : Hid (strB [] = ⟨#[]⟩) := rfl
      rw [H.out.2, HC.out, HE.out]
      clear hn hb h0 h1
      go_enter Try.func9, Try.ntmps9
      go_wp2_with fail
      refine (HU.out).mono ?_
      rw [HC.out]
      rintro e w1 ⟨rfl, hb⟩
      go_wp2
      go_ret2
      exact ⟨rfl, hb⟩
    | true =>
      have H : Hid (showF n b = 45 :: ushowF (wrap64 (-n)) b) := by
        show _ = _
        unfold ushowF showF
        have e : un (wrap64 (-n)) = (-n).toNat := by have := un_mod (wrap64 (-n)); unfold wrap64 at this ⊢; omega
        rw [if_pos hb, if_pos hb, if_neg hn, e]
      have HC : Hid (showC b = 0) := by show _ = _; unfold showC; rw [if_pos hb]
      obtain ⟨l, hl⟩ : ∃ l, ushowF (wrap64 (-n)) b = l := ⟨_, rfl⟩
      rw [hl] at H
      have HL := Lib.hid hl
      have hap : (⟨#[45]⟩ : ByteArray) ++ strB l = strB (45 :: l) := strB_app [45] l
      have hll : l.length ≤ 64 := by rw [← hl]; exact ushow_len _ _
      have hsz : (strB l).size ≤ 64 := hll
      have hcat : ¬ (9223372036854775807 < 1 + (strB l).size) := by omega
      rw [H.out, HC.out]
      clear hn hb hl H h0 h1
      go_enter Try.func9, Try.ntmps9
      go_wp2_with fail
      refine (HU.out).mono ?_
      rw [HC.out, HL.out]
      rintro e w1 ⟨rfl, hb⟩
      go_wp2
      go_ret2
      exact ⟨rfl, hb⟩
end Go.Proofs.Ytlkjopbgobkgmaa
