/- A contract of the document's Parse. -/
import Derived.Test.YtlkjopbgobkgmaaNumRefB
import Derived.Deep.DeepCutAuto
import Derived.Deep.Cut
namespace Go.Proofs.Ytlkjopbgobkgmaa
open Go.RowKit
set_option linter.unusedVariables false
set_option linter.unusedSimpArgs false

def markT (l : List UInt8) : Bool := match l with | [] => false | c :: _ => c == 35 || c == 36 || c == 37
theorem quote_some {l : List UInt8} {n : Int} (h : quoteF l = some n) : ∃ a c d, l = [a, c, d] ∧ n = (c.toNat : Int) := by
  match l, h with
  | [a, c, d], h =>
    refine ⟨a, c, d, rfl, ?_⟩
    have h' : (if a = 39 ∧ d = 39 ∧ 33 ≤ c.toNat ∧ c.toNat ≤ 126 then some (c.toNat : Int) else none) = some n := h
    split at h'
    · injection h' with h'; exact h'.symm
    · cases h'
theorem mark_no {l : List UInt8} {b : Int} (h : markT l = false) : (markF l b).1 = b := by
  cases l with
  | nil => rfl
  | cons c r =>
    unfold markT at h
    simp at h
    unfold markF
    simp [h]
theorem mark_16 (r : List UInt8) (b : Int) : (markF (36 :: r) b).1 = 16 := by simp [markF]
theorem mark_2 (r : List UInt8) (b : Int) : (markF (37 :: r) b).1 = 2 := by simp [markF]
theorem mark_10 (r : List UInt8) (b : Int) : (markF (35 :: r) b).1 = 10 := by simp [markF]
theorem mark_35 {c : UInt8} {r : List UInt8} (h : markT (c :: r) = true) (h6 : c ≠ 36) (h7 : c ≠ 37) : c = 35 := by
  unfold markT at h
  simpa [h6, h7] using h
theorem mark_drop (l : List UInt8) (b : Int) : (markF l b).2 = l.drop (if markT l = true then 1 else 0) := by
  cases l with
  | nil => rfl
  | cons c r =>
    unfold markF markT
    by_cases h1 : c = 35
    · simp [h1]
    · by_cases h2 : c = 36
      · simp [h2]
      · by_cases h3 : c = 37
        · simp [h3]
        · simp [h1, h2, h3]
theorem min_drop (l : List UInt8) : (minF l).2 = l.drop (if (minF l).1 = true then 1 else 0) := by
  cases l with
  | nil => rfl
  | cons c r =>
    unfold minF
    by_cases h : c = 45
    · simp [h]
    · simp [h]
theorem drop_cons {l : List UInt8} {i : Nat} (h : i < l.length) : l.drop i = l[i] :: l.drop (i + 1) := List.drop_eq_getElem_cons h
theorem u8_ne {c : UInt8} {k : Nat} (hk : k < 256) (h : c ≠ UInt8.ofNat k) : ((c.toNat : Int) == (k : Int)) = false := by
  have : c.toNat ≠ k := by
    intro e
    apply h
    rw [← e]
    simp
  simp
  omega
theorem ret_pair {a c : Int} {b d : Bool} (h : a = c) (g : b = d) : Ending.returned (.tuple #[.int .i64 a, .bool b]) = .returned (.tuple #[.int .i64 c, .bool d]) := by rw [h, g]
theorem ix_at (l : List UInt8) (i : Nat) (c : UInt8) (h : l[i]? = some c) : ∀ w, (Instr.index 9 (.string (strB l)) (.int .i64 (i : Int))).run Try.prog w = .ok (.int .u8 (c.toNat : Int)) w := by
  intro w
  have hi := (List.getElem?_eq_some_iff.1 h).1
  have := run_ix l i hi w
  rw [(List.getElem?_eq_some_iff.1 h).2] at this
  exact this
theorem ix_0 {l : List UInt8} {c : UInt8} (h : l[0]? = some c) : ∀ w, (Instr.index 9 (.string (strB l)) (.int .i64 0)).run Try.prog w = .ok (.int .u8 (c.toNat : Int)) w := ix_at l 0 c h
theorem ix_1 {l : List UInt8} {c : UInt8} (h : l[1]? = some c) : ∀ w, (Instr.index 9 (.string (strB l)) (.int .i64 1)).run Try.prog w = .ok (.int .u8 (c.toNat : Int)) w := ix_at l 1 c h
theorem ix_2 {l : List UInt8} {c : UInt8} (h : l[2]? = some c) : ∀ w, (Instr.index 9 (.string (strB l)) (.int .i64 2)).run Try.prog w = .ok (.int .u8 (c.toNat : Int)) w := ix_at l 2 c h

set_option maxRecDepth 100000 in
set_option maxHeartbeats 4000000 in
theorem rparse_any (l : List UInt8) (b : Int) (w : World) (hl : l.length ≤ 1000000) :
    Calls Try.prog 14 #[.string (strB l), .int .i64 b] w fun e w' => e = .returned (.tuple #[.int .i64 (parN l b), .bool (parB l b)]) ∧ w = w' := by
  have hsz : (strB l).size = l.length := rfl
  obtain ⟨k, hk⟩ : ∃ k, l.length = k := ⟨_, rfl⟩
  rw [hk] at hsz hl
  have HK := Lib.hid hk
  clear hk
  obtain ⟨q, hq⟩ : ∃ q, (quoteF l).isSome = q := ⟨_, rfl⟩
  have HQQ := Lib.hid hq
  clear hq
  go_enter Try.func14, Try.ntmps14
  go_upto_region 1 with fail
  go_cut [34] (fun s wx => s = .bool q ∧ w = wx)
  case first =>
    by_cases h3 : k = 3
    · obtain ⟨a, c, d, rfl⟩ : ∃ a c d, l = [a, c, d] := by
        have := HK.out
        rw [h3] at this
        match l, this with
        | [a, c, d], _ => exact ⟨a, c, d, rfl⟩
      subst h3
      have i0 := ix_0 (l := [a, c, d]) (c := a) rfl
      have i1 := ix_1 (l := [a, c, d]) (c := c) rfl
      have i2 := ix_2 (l := [a, c, d]) (c := d) rfl
      have HQ0 := Lib.hid (show quoteF [a, c, d] = if a = 39 ∧ d = 39 ∧ 33 ≤ c.toNat ∧ c.toNat ≤ 126 then some (c.toNat : Int) else none from rfl)
      by_cases ha : a = 39
      · have ha' : (a.toNat : Int) = 39 := by rw [ha]; rfl
        rw [ha'] at i0
        by_cases hd : d = 39
        · have hd' : (d.toNat : Int) = 39 := by rw [hd]; rfl
          rw [hd'] at i2
          by_cases hc : 33 ≤ c.toNat
          · have hc' : (33 : Int) ≤ (c.toNat : Int) := by omega
            by_cases hc2 : c.toNat ≤ 126
            · have hc2' : (c.toNat : Int) ≤ 126 := by omega
              have HQ : Hid (q = true) := by rw [← HQQ.out, HQ0.out, if_pos ⟨ha, hd, hc, hc2⟩]; rfl
              clear ha hd ha' hd'
              go_wp2_with fail
              go_meet
              exact ⟨by rw [HQ.out], rfl⟩
            · have hc2' : decide ((c.toNat : Int) ≤ 126) = false := by simp; omega
              have HQ : Hid (q = false) := by rw [← HQQ.out, HQ0.out, if_neg (fun h => hc2 h.2.2.2)]; rfl
              clear ha hd ha' hd' hc2
              go_wp2_with fail
              go_meet
              exact ⟨by rw [HQ.out], rfl⟩
          · have hc' : decide ((33 : Int) ≤ (c.toNat : Int)) = false := by simp; omega
            have HQ : Hid (q = false) := by rw [← HQQ.out, HQ0.out, if_neg (fun h => hc h.2.2.1)]; rfl
            clear ha hd ha' hd' hc
            go_wp2_with fail
            go_meet
            exact ⟨by rw [HQ.out], rfl⟩
        · have hd' : ((d.toNat : Int) == 39) = false := u8_ne (k := 39) (by omega) hd
          have HQ : Hid (q = false) := by rw [← HQQ.out, HQ0.out, if_neg (fun h => hd h.2.1)]; rfl
          clear ha hd ha'
          go_wp2_with fail
          go_meet
          exact ⟨by rw [HQ.out], rfl⟩
      · have ha' : ((a.toNat : Int) == 39) = false := u8_ne (k := 39) (by omega) ha
        have HQ : Hid (q = false) := by rw [← HQQ.out, HQ0.out, if_neg (fun h => ha h.1)]; rfl
        clear ha
        go_wp2_with fail
        go_meet
        exact ⟨by rw [HQ.out], rfl⟩
    · have h3' : ((k : Int) == 3) = false := by simp; omega
      have HQ : Hid (q = false) := by
        rw [← HQQ.out]
        have e := HK.out
        show (quoteF l).isSome = false
        unfold quoteF
        split
        · simp at e; omega
        · rfl
      clear h3
      go_wp2_with fail
      go_meet
      exact ⟨by rw [HQ.out], rfl⟩
  case rest =>
    obtain ⟨rfl, rfl⟩ := hcut
    cases hq : quoteF l with
    | some n =>
      have HQ1 : q = true := by rw [← HQQ.out, hq]; rfl
      obtain ⟨a, c, d, rfl, hc⟩ := quote_some hq
      have hc255 : (c.toNat : Int) ≤ 255 := by have := c.toNat_lt; omega
      have i1 := ix_1 (l := [a, c, d]) (c := c) rfl
      have HP : Hid (parN [a, c, d] b = (c.toNat : Int) ∧ parB [a, c, d] b = true) := by
        show _ ∧ _
        unfold parN parB parseF
        rw [hq, hc]
        exact ⟨rfl, rfl⟩
      clear hq hc
      subst HQ1
      go_wp2
      go_ret2
      exact ⟨ret_pair HP.out.1.symm HP.out.2.symm, rfl⟩
    | none =>
      have HQ1 : q = false := by rw [← HQQ.out, hq]; rfl
      subst HQ1
      obtain ⟨mk, hmk⟩ : ∃ x, markT l = x := ⟨_, rfl⟩
      obtain ⟨B, hB⟩ : ∃ x, (markF l b).1 = x := ⟨_, rfl⟩
      obtain ⟨ng, hng⟩ : ∃ x, (minF (markF l b).2).1 = x := ⟨_, rfl⟩
      obtain ⟨t, ht⟩ : ∃ x, (if mk = true then 1 else 0) = x := ⟨_, rfl⟩
      obtain ⟨t2, ht2⟩ : ∃ x, t + (if ng = true then 1 else 0) = x := ⟨_, rfl⟩
      have hd1 : (markF l b).2 = l.drop t := by rw [mark_drop, hmk, ht]
      rw [hd1] at hng
      have hd2 : (minF (l.drop t)).2 = l.drop t2 := by rw [min_drop, hng, List.drop_drop, ht2]
      have HP : Hid (parseF l b = endF ng B (l.drop t2)) := by
        show _ = _
        unfold parseF
        rw [hq]
        show endF _ _ _ = _
        rw [hB, hd1, hng, hd2]
      have HMK := Lib.hid hmk
      have HB := Lib.hid hB
      have HN : Hid ((minF (l.drop t)).1 = ng) := hng
      have HT := Lib.hid ht
      have HT2 := Lib.hid ht2
      clear hq hmk hB hng ht ht2 hd1 hd2 HQQ
      go_upto_region 4 with fail
      go_cut [55] (fun s wx => s = .bool mk ∧ w = wx)
      case first =>
        cases l with
        | nil =>
          have hk0 : k = 0 := HK.out.symm
          subst hk0
          have HQ : Hid (mk = false) := HMK.out.symm
          go_wp2_with fail
          go_meet
          exact ⟨by rw [HQ.out], rfl⟩
        | cons c r =>
          have hk0 : 0 < k := by have := HK.out; simp at this; omega
          have hk0' : (0 : Int) < (k : Int) := by omega
          have i0 := ix_0 (l := c :: r) (c := c) rfl
          have HM2 := Lib.hid (show (c == 35 || c == 36 || c == 37) = mk from HMK.out)
          by_cases h5 : c = 35
          · have e5 : (c.toNat : Int) = 35 := by rw [h5]; rfl
            rw [e5] at i0
            have HQ : Hid (mk = true) := by rw [← HM2.out, h5]; rfl
            clear h5 e5
            go_wp2_with fail
            go_meet
            exact ⟨by rw [HQ.out], rfl⟩
          · have e5 : ((c.toNat : Int) == 35) = false := u8_ne (k := 35) (by omega) h5
            by_cases h6 : c = 36
            · have e6 : (c.toNat : Int) = 36 := by rw [h6]; rfl
              rw [e6] at i0
              have HQ : Hid (mk = true) := by rw [← HM2.out, h6]; rfl
              clear h5 h6 e5 e6
              go_wp2_with fail
              go_meet
              exact ⟨by rw [HQ.out], rfl⟩
            · have e6 : ((c.toNat : Int) == 36) = false := u8_ne (k := 36) (by omega) h6
              by_cases h7 : c = 37
              · have e7 : (c.toNat : Int) = 37 := by rw [h7]; rfl
                rw [e7] at i0
                have HQ : Hid (mk = true) := by rw [← HM2.out, h7]; rfl
                clear h5 h6 h7 e5 e6 e7
                go_wp2_with fail
                go_meet
                exact ⟨by rw [HQ.out], rfl⟩
              · have e7 : ((c.toNat : Int) == 37) = false := u8_ne (k := 37) (by omega) h7
                have HQ : Hid (mk = false) := by show mk = false; rw [← HM2.out]; simp [h5, h6, h7]
                clear h5 h6 h7
                go_wp2_with fail
                go_meet
                exact ⟨by rw [HQ.out], rfl⟩
      case rest =>
        obtain ⟨rfl, rfl⟩ := hcut
        go_upto_if 55 with fail
        go_cut [1, 6] (fun s1 s6 wx => s1 = .int .i64 B ∧ s6 = .int .i64 (t : Int) ∧ w = wx)
        case first =>
          cases mk with
          | false =>
            have HTE : Hid (t = 0) := HT.out.symm
            have HBE : Hid (B = b) := by rw [← HB.out]; exact mark_no HMK.out
            go_wp2_with fail
            go_meet
            exact ⟨by rw [HBE.out], by rw [HTE.out]; rfl, rfl⟩
          | true =>
            have HTE : Hid (t = 1) := HT.out.symm
            obtain ⟨c, r, rfl⟩ : ∃ c r, l = c :: r := by
              cases l with
              | nil => have := HMK.out; cases this
              | cons c r => exact ⟨c, r, rfl⟩
            have i0 := ix_0 (l := c :: r) (c := c) rfl
            have hk0 : 0 < k := by have := HK.out; simp at this; omega
            have hk0' : (0 : Int) < (k : Int) := by omega
            by_cases h6 : c = 36
            · have e6 : (c.toNat : Int) = 36 := by rw [h6]; rfl
              rw [e6] at i0
              have HBE : Hid (B = 16) := by rw [← HB.out, h6]; exact mark_16 _ _
              clear h6 e6
              go_wp2_with fail
              go_meet
              exact ⟨by rw [HBE.out], by rw [HTE.out]; rfl, rfl⟩
            · have e6 : ((c.toNat : Int) == 36) = false := u8_ne (k := 36) (by omega) h6
              by_cases h7 : c = 37
              · have e7 : (c.toNat : Int) = 37 := by rw [h7]; rfl
                rw [e7] at i0
                have HBE : Hid (B = 2) := by rw [← HB.out, h7]; exact mark_2 _ _
                clear h6 h7 e6 e7
                go_wp2_with fail
                go_meet
                exact ⟨by rw [HBE.out], by rw [HTE.out]; rfl, rfl⟩
              · have e7 : ((c.toNat : Int) == 37) = false := u8_ne (k := 37) (by omega) h7
                have HBE : Hid (B = 10) := by rw [← HB.out, mark_35 HMK.out h6 h7]; exact mark_10 _ _
                clear h6 h7
                go_wp2_with fail
                go_meet
                exact ⟨by rw [HBE.out], by rw [HTE.out]; rfl, rfl⟩
        case rest =>
          obtain ⟨rfl, rfl, rfl⟩ := hcut
          clear HMK HB
          have ht1 : t ≤ 1 := by rw [← HT.out]; split <;> omega
          clear HT
          have HLD : ∀ i, Hid ((l.drop i).length = k - i) := fun i => by rw [List.length_drop, HK.out]; rfl
          have HNN := Lib.hid HLD
          clear HLD
          go_upto_region 11 with fail
          go_cut [7] (fun s7 wx => s7 = .bool ng ∧ w = wx)
          case first =>
            by_cases htk : t < k
            · have htk' : (t : Int) < (k : Int) := by omega
              obtain ⟨c, hc⟩ : ∃ c, l[t]? = some c := ⟨_, List.getElem?_eq_getElem (by rw [HK.out]; exact htk)⟩
              have ix := ix_at l t c hc
              have HDC : Hid (l.drop t = c :: l.drop (t + 1)) := by
                have hlt : t < l.length := by rw [HK.out]; exact htk
                have := drop_cons hlt
                rw [List.getElem?_eq_getElem hlt] at hc
                injection hc with hc
                rw [hc] at this
                exact this
              clear hc
              by_cases h5 : c = 45
              · have e5 : (c.toNat : Int) = 45 := by rw [h5]; rfl
                rw [e5] at ix
                have HQ : Hid (ng = true) := by
                  show ng = true
                  rw [← HN.out, HDC.out, h5]
                  simp [minF]
                clear h5 e5 htk
                go_wp2_with fail
                go_meet
                exact ⟨by rw [HQ.out], rfl⟩
              · have e5 : ((c.toNat : Int) == 45) = false := u8_ne (k := 45) (by omega) h5
                have HQ : Hid (ng = false) := by
                  show ng = false
                  rw [← HN.out, HDC.out]
                  simp [minF, h5]
                clear h5 htk
                go_wp2_with fail
                go_meet
                exact ⟨by rw [HQ.out], rfl⟩
            · have htk' : decide (t < k) = false := by simp; omega
              have htk2 : decide ((t : Int) < (k : Int)) = false := by simp; omega
              have HQ : Hid (ng = false) := by
                show ng = false
                rw [← HN.out, List.drop_eq_nil_of_le (by rw [HK.out]; omega)]
                rfl
              clear htk
              go_wp2_with fail
              go_meet
              exact ⟨by rw [HQ.out], rfl⟩
          case rest =>
            obtain ⟨rfl, rfl⟩ := hcut
            clear HN
            go_upto_if 72 with fail
            go_cut [6] (fun s6 wx => s6 = .int .i64 (t2 : Int) ∧ w = wx)
            case first =>
              cases ng with
              | false =>
                have HTE : Hid (t2 = t) := HT2.out.symm
                go_wp2_with fail
                go_meet
                exact ⟨by rw [HTE.out], rfl⟩
              | true =>
                have HTE : Hid (t2 = t + 1) := HT2.out.symm
                go_wp2_with fail
                go_meet
                exact ⟨by rw [HTE.out]; go_num, rfl⟩
            case rest =>
              obtain ⟨rfl, rfl⟩ := hcut
              have ht22 : t2 ≤ 2 := by rw [← HT2.out]; split <;> omega
              clear HT2
              by_cases htk : k ≤ t2
              · have htk' : (k : Int) ≤ (t2 : Int) := by omega
                have HP2 : Hid (parN l b = 0 ∧ parB l b = false) := by
                  show _ ∧ _
                  unfold parN parB
                  rw [HP.out, end_no (.inl (List.drop_eq_nil_of_le (by rw [HK.out]; exact htk)))]
                  exact ⟨rfl, rfl⟩
                clear HP HNN
                go_wp2
                go_ret2
                exact ⟨ret_pair HP2.out.1.symm HP2.out.2.symm, rfl⟩
              · have htk' : decide (k ≤ t2) = false := by simp; omega
                have htk2 : decide ((k : Int) ≤ (t2 : Int)) = false := by simp; omega
                have HE : Hid (endF ng B (l.drop t2) = (readF B 0 (l.drop t2)).map fun n => if ng = true then wrap64 (0 - n) else n) := by
                  show _ = _
                  unfold endF
                  rw [if_neg]
                  intro e
                  have := congrArg List.length e
                  rw [List.length_drop, HK.out] at this
                  simp at this
                  omega
                go_wp2_with fail
                have HP3 : Hid (parseF l b = (readF B 0 (l.drop t2)).map fun n => if ng = true then wrap64 (0 - n) else n) := by rw [HP.out]; exact HE.out
                clear HP HE HNN
                go_loopw [8, 9] (fun s8 s9 wr => ∃ (i : Nat) (n : Int), i ≤ k ∧ s9 = .int .i64 (i : Int) ∧ s8 = .int .i64 n ∧ Hid (readF B 0 (l.drop t2) = readF B n (l.drop i)) ∧ w = wr) (fun _ s9 _ => k - (intOf s9).toNat)
                case atStart => exact ⟨t2, 0, by omega, rfl, rfl, rfl, rfl⟩
                case round =>
                  obtain ⟨i, n, hik, rfl, rfl, HR, rfl⟩ := hrel
                  by_cases hi : i < k
                  · have hi' : (i : Int) < (k : Int) := by omega
                    have hlt : i < l.length := by rw [HK.out]; exact hi
                    obtain ⟨c, hc⟩ : ∃ c, l[i]? = some c := ⟨_, List.getElem?_eq_getElem hlt⟩
                    have ix := ix_at l i c hc
                    have HDC : Hid (l.drop i = c :: l.drop (i + 1)) := by
                      have := drop_cons hlt
                      rw [List.getElem?_eq_getElem hlt] at hc
                      injection hc with hc
                      rw [hc] at this
                      exact this
                    have CW := Lib.hid (rworth_any c.toNat B w c.toNat_lt)
                    clear hc
                    cases hw : isW c.toNat B with
                    | true =>
                      have HWD : Hid (worthF c.toNat B = (wN c.toNat : Int)) := by show _ = _; unfold worthF; rw [if_pos hw]
                      have HR2 : Hid (readF B 0 (l.drop t2) = readF B (wrap64 (wrap64 (n * B) + (wN c.toNat : Int))) (l.drop (i + 1))) := by
                        rw [HR.out, HDC.out]
                        show (if _ then _ else _) = _
                        rw [if_pos hw]
                      obtain ⟨d, hd⟩ : ∃ d : Int, ((wN c.toNat : Nat) : Int) = d := ⟨_, rfl⟩
                      rw [hd] at HWD HR2
                      clear HR HDC hd
                      go_wp2_with fail
                      refine (CW.out).mono ?_
                      rw [HWD.out, hw]
                      rintro e w1 ⟨rfl, rfl⟩
                      clear CW hw ix
                      go_wp2
                      go_roundw
                      case rel => exact ⟨i + 1, _, by omega, by go_num, rfl, HR2.out, by trivial⟩
                      case measure => simp [intOf]; omega
                    | false =>
                      have HWD : Hid (worthF c.toNat B = 0) := by show _ = _; unfold worthF; rw [if_neg (by simp [hw])]
                      have HP2 : Hid (parN l b = 0 ∧ parB l b = false) := by
                        show _ ∧ _
                        unfold parN parB
                        have e : readF B 0 (l.drop t2) = none := by
                          rw [HR.out, HDC.out]
                          show (if _ then _ else _) = _
                          rw [if_neg (by simp [hw])]
                        rw [HP3.out, e]
                        exact ⟨rfl, rfl⟩
                      clear HR HDC HP3
                      go_wp2_with fail
                      refine (CW.out).mono ?_
                      rw [HWD.out, hw]
                      rintro e w1 ⟨rfl, rfl⟩
                      clear CW hw ix
                      go_wp2
                      go_ret2
                      exact ⟨ret_pair HP2.out.1.symm HP2.out.2.symm, rfl⟩
                  · have hi' : decide (i < k) = false := by simp; omega
                    have hi2 : decide ((i : Int) < (k : Int)) = false := by simp; omega
                    have e : readF B 0 (l.drop t2) = some n := by
                      rw [HR.out, List.drop_eq_nil_of_le (by rw [HK.out]; omega)]
                      rfl
                    cases ng with
                    | false =>
                      have HP2 : Hid (parN l b = n ∧ parB l b = true) := by
                        show _ ∧ _
                        unfold parN parB
                        rw [HP3.out, e]
                        exact ⟨rfl, rfl⟩
                      clear HR HP3 e hi
                      go_wp2
                      go_ret2
                      exact ⟨ret_pair HP2.out.1.symm HP2.out.2.symm, rfl⟩
                    | true =>
                      have HP2 : Hid (parN l b = wrap64 (-n) ∧ parB l b = true) := by
                        show _ ∧ _
                        unfold parN parB
                        rw [HP3.out, e, Option.map_some, if_pos rfl, show (0 : Int) - n = -n by omega]
                        exact ⟨rfl, rfl⟩
                      clear HR HP3 e hi
                      go_wp2
                      go_ret2
                      exact ⟨ret_pair HP2.out.1.symm HP2.out.2.symm, rfl⟩
end Go.Proofs.Ytlkjopbgobkgmaa
