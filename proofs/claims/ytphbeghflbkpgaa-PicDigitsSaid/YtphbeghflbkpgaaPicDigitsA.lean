/- The walk of PicDigits. -/
import Derived.Test.YtphbeghflbkpgaaPicShowsA
namespace Go.Proofs.Ytphbeghflbkpgaa
open Go.RowKit
set_option linter.unusedVariables false
set_option linter.unusedSimpArgs false

theorem val_mono {b : Int} (hb : 1 ≤ b) (l : List UInt8) : ∀ n : Int, 0 ≤ n → n ≤ valF b n l := by
  induction l with
  | nil => intro n _; exact Int.le_refl _
  | cons c l ih =>
    intro n h0
    show n ≤ valF b (n * b + (wN c.toNat : Int)) l
    have h1 : n ≤ n * b := by
      have := Int.mul_le_mul_of_nonneg_left hb h0
      rwa [Int.mul_one] at this
    have h2 : 0 ≤ n * b + (wN c.toNat : Int) := by omega
    have := ih _ h2
    omega
/-- What the first i digits tell. -/
def headV (b : Nat) (l : List UInt8) (i : Nat) : Nat := (valF (b : Int) 0 (l.take i)).toNat
theorem headV_int {b : Nat} (hb : 1 ≤ b) (l : List UInt8) (i : Nat) : ((headV b l i : Nat) : Int) = valF (b : Int) 0 (l.take i) := by
  unfold headV
  exact Int.toNat_of_nonneg (val_mono (by omega) _ 0 (Int.le_refl _))
theorem headV_step {b : Nat} (hb : 1 ≤ b) (l : List UInt8) (i : Nat) (c : UInt8) (h : l[i]? = some c) : headV b l (i + 1) = headV b l i * b + wN c.toNat := by
  have e : l.take (i + 1) = l.take i ++ [c] := by rw [List.take_add_one, h]; rfl
  have h1 := headV_int hb l (i + 1)
  rw [e, valF_app] at h1
  have h2 : valF (b : Int) (valF (b : Int) 0 (l.take i)) [c] = valF (b : Int) 0 (l.take i) * (b : Int) + (wN c.toNat : Int) := rfl
  rw [h2, ← headV_int hb l i] at h1
  exact_mod_cast h1
theorem headV_le {b : Nat} (hb : 1 ≤ b) (l : List UInt8) (i : Nat) : headV b l i ≤ headV b l l.length := by
  have h1 := headV_int hb l i
  have h2 := headV_int hb l l.length
  have e : valF (b : Int) 0 l = valF (b : Int) (valF (b : Int) 0 (l.take i)) (l.drop i) := by
    conv => lhs; rw [← List.take_append_drop i l]
    exact valF_app _ _ _ _
  rw [List.take_length, e] at h2
  have := val_mono (b := (b : Int)) (by omega) (l.drop i) (valF (b : Int) 0 (l.take i)) (by omega)
  omega
theorem headV_all {b : Nat} (h2 : 2 ≤ b) (h36 : b ≤ 36) (u : Nat) : headV b (usF b u) (usF b u).length = u := by
  have h := headV_int (b := b) (by omega) (usF b u) (usF b u).length
  rw [List.take_length, us_val h2 h36] at h
  exact_mod_cast h
theorem un_w64 (n : Nat) (h : n < 18446744073709551616) : un (wrap64 (n : Int)) = n := by
  have := un_mod (wrap64 (n : Int))
  rw [w64_mod] at this
  omega
theorem un_small (n : Nat) (h : n ≤ 36) : un (n : Int) = n := by
  have := un_mod (n : Int)
  omega
theorem u64_w64 (n : Nat) (h : n < 18446744073709551616) : IntKind.u64.wrap (wrap64 (n : Int)) = (n : Int) := by
  rw [IntKind.wrap_u64, w64_mod]
  omega
theorem u64_add (x d : Nat) : IntKind.u64.wrap ((x : Int) + (d : Int)) = (((x + d) % 18446744073709551616 : Nat) : Int) := by
  rw [IntKind.wrap_u64]
  omega
theorem headV_zero (b : Nat) (l : List UInt8) : headV b l 0 = 0 := rfl
theorem mul_parts7 (low high k d V : Nat) (hV : high * 18446744073709551616 + low = V) (hl : low < 18446744073709551616) (hk2 : 2 ≤ k) (hk : k ≤ 36) (hd : d < k) (hV' : V * k + d < 340282366920938463463374607431768211456) :
    high * k < 18446744073709551616 ∧ high * k + low * k / 18446744073709551616 < 18446744073709551616 ∧
    (18446744073709551616 ≤ low * k % 18446744073709551616 + d → high * k + low * k / 18446744073709551616 + 1 < 18446744073709551616 ∧ (low * k % 18446744073709551616 + d) % 18446744073709551616 < low * k % 18446744073709551616 ∧ (high * k + low * k / 18446744073709551616 + 1) * 18446744073709551616 + (low * k % 18446744073709551616 + d) % 18446744073709551616 = V * k + d) ∧
    (low * k % 18446744073709551616 + d < 18446744073709551616 → ¬ (low * k % 18446744073709551616 + d) % 18446744073709551616 < low * k % 18446744073709551616 ∧ (high * k + low * k / 18446744073709551616) * 18446744073709551616 + (low * k % 18446744073709551616 + d) % 18446744073709551616 = V * k + d) := by
  have e : V * k + d = high * k * 18446744073709551616 + low * k + d := by
    rw [← hV, Nat.add_mul]
    have : high * 18446744073709551616 * k = high * k * 18446744073709551616 := by rw [Nat.mul_assoc, Nat.mul_comm 18446744073709551616 k, ← Nat.mul_assoc]
    rw [this]
  rw [e] at hV' ⊢
  obtain ⟨a, ha⟩ : ∃ a, high * k = a := ⟨_, rfl⟩
  obtain ⟨c, hc⟩ : ∃ c, low * k = c := ⟨_, rfl⟩
  rw [ha, hc] at hV' ⊢
  have h1 := Nat.div_add_mod c 18446744073709551616
  have h2 := Nat.mod_lt c (by omega : 0 < 18446744073709551616)
  obtain ⟨q, hq⟩ : ∃ q, c / 18446744073709551616 = q := ⟨_, rfl⟩
  obtain ⟨r, hr⟩ : ∃ r, c % 18446744073709551616 = r := ⟨_, rfl⟩
  rw [hq, hr] at h1
  rw [hr] at h2
  rw [hq, hr]
  clear ha hc hq hr e hV
  refine ⟨by omega, by omega, fun h => ⟨by omega, by omega, by omega⟩, fun h => ⟨by omega, by omega⟩⟩
set_option maxRecDepth 100000 in
set_option maxHeartbeats 8000000 in
theorem digits_lt (lo hi b : Int) (w : World) (hlo : cellR lo) (hhi : cellR hi) (hcb : cellR b) (h1 : b < 2) :
    Calls Try.prog 6 #[.int .i64 lo, .int .i64 hi, .int .i64 b] w fun e w' => e = .returned (.bool true) ∧ Below w.heap.size w w' := by
  clear hlo hhi hcb
  go_enter Try.func6, Try.ntmps6
  have B0 : Hid (Below w.heap.size w w) := Below.refl _ _
  go_wp2_with fail
  refine (shown_any7 _).mono ?_
  rintro e w1 ⟨rfl, bb⟩
  have B1 := Lib.hid (below_then B0.out bb)
  clear bb B0
  go_wp2_with fail
  go_ret
  exact ⟨rfl, B1.out⟩
set_option maxRecDepth 100000 in
set_option maxHeartbeats 8000000 in
theorem digits_gt (lo hi b : Int) (w : World) (hlo : cellR lo) (hhi : cellR hi) (hcb : cellR b) (h1 : decide (b < 2) = false) (h2 : 36 < b) :
    Calls Try.prog 6 #[.int .i64 lo, .int .i64 hi, .int .i64 b] w fun e w' => e = .returned (.bool true) ∧ Below w.heap.size w w' := by
  clear hlo hhi hcb
  go_enter Try.func6, Try.ntmps6
  have B0 : Hid (Below w.heap.size w w) := Below.refl _ _
  go_wp2_with fail
  refine (shown_any7 _).mono ?_
  rintro e w1 ⟨rfl, bb⟩
  have B1 := Lib.hid (below_then B0.out bb)
  clear bb B0
  go_wp2_with fail
  go_ret
  exact ⟨rfl, B1.out⟩
set_option maxRecDepth 100000 in
set_option maxHeartbeats 8000000 in
theorem digits_core (lo hi0 : Int) (k : Nat) (w : World) (hk2 : 2 ≤ k) (hk36 : k ≤ 36) (F : List UInt8) (c0 : UInt8) (HLO : Hid (cellR lo)) (HHI : Hid (cellR hi0)) (HBB : Hid (cellR (k : Int))) (HF : Hid (usF k (pairN lo hi0) = F)) (HA : Hid (allL true [] lo hi0 (k : Int) = F.reverse)) (HAC : Hid (allC true [] lo hi0 (k : Int) = 0)) (hf0 : F[0]? = some c0) (hl1 : 1 ≤ F.length) (hl2 : F.length ≤ 128) (hz : ((c0.toNat : Int) == 48) = false) :
    Calls Try.prog 6 #[.int .i64 lo, .int .i64 hi0, .int .i64 (k : Int)] w fun e w' => e = .returned (.bool true) ∧ Below w.heap.size w w' := by
  have HM : Hid (F.reverse.length ≤ 1000) := by show _ ≤ _; rw [List.length_reverse]; omega
  have HE : Hid (strB (endL true F.reverse) = strB F) := by show _ = _; rw [(end_on _).1]
  have HEC : Hid (endC true = 0) := rfl
  have k1' : decide ((k : Int) < 2) = false := by simp; omega
  have k2' : decide (36 < (k : Int)) = false := by simp; omega
  have ix0 := ix_0 hf0

  have hsz : (strB F).size = F.length := rfl
  have g1 : decide ((F.length : Int) < 1) = false := by simp; omega
  have g2 : decide ((128 : Int) < (F.length : Int)) = false := by simp; omega
  have hpos : 0 < F.length := by omega
  go_enter Try.func6, Try.ntmps6
  have B0 : Hid (Below w.heap.size w w) := Below.refl _ _
  go_wp2_with fail
  refine (shown_any7 _).mono ?_
  rintro e w1 ⟨rfl, bb⟩
  have B1 := Lib.hid (below_then B0.out bb)
  clear bb B0
  go_wp2_with fail
  refine (begin_any _).mono ?_
  rintro e w2 ⟨A0, n0, c0, rfl, hy, bb⟩
  have B2 := Lib.hid (below_then B1.out bb)
  have S2 := Lib.hid hy
  clear bb B1 hy
  go_wp2_with fail
  refine (all_any _ _ _ true [] lo hi0 (k : Int) _ S2.out (by simp) HLO.out HHI.out HBB.out).mono ?_
  rw [HA.out, HAC.out]
  rintro e w3 ⟨A1, n1, c1, rfl, hy, bb⟩
  have Sp := Lib.hid (S2.out.keep bb)
  have S3 := Lib.hid (Sp.out.keep (al_one _ (.cells #[.slice A1 n1 c1, .bool true] 24)))
  have B3 := Lib.hid (below_then (below_then B2.out bb) (al_one _ (.cells #[.slice A1 n1 c1, .bool true] 24)))
  have P3 := Lib.hid (pat_new (o := true) hy)
  clear bb S2 B2 hy
  clear S3 Sp
  go_wp2_with fail
  refine (end_any _ _ _ true _ _ P3.out.byt HM.out).mono ?_
  rw [HE.out, HEC.out]
  rintro e w4 ⟨rfl, bb⟩
  have P4 := Lib.hid (P3.out.keep bb)
  have B4 := Lib.hid (below_then B3.out bb)
  clear bb P3 B3
  clear P4
  go_wp2_with fail
  clear HA HAC HE HEC HM ix0 g1 g2 hpos hz hf0 hl1
  go_loopw [12, 13, 14] (fun s12 s13 s14 wr => ∃ (low high i : Nat), s12 = .int .u64 (low : Int) ∧ s13 = .int .u64 (high : Int) ∧ s14 = .int .i64 (i : Int) ∧ i ≤ F.length ∧ Hid (high * 18446744073709551616 + low = headV k F i ∧ low < 18446744073709551616) ∧ Hid (Below w.heap.size w wr)) (fun _ _ s14 _ => F.length - (intOf s14).toNat)
  case atStart => exact ⟨0, 0, 0, rfl, rfl, rfl, Nat.zero_le _, Lib.hid ⟨rfl, by omega⟩, B4⟩
  case round =>
    obtain ⟨low, high, i, rfl, rfl, rfl, hi, HV, HB⟩ := hrel
    by_cases hil : i < F.length
    · have hil' : (i : Int) < (F.length : Int) := by omega
      obtain ⟨c, hc⟩ : ∃ c, F[i]? = some c := ⟨_, List.getElem?_eq_getElem hil⟩
      have ixi := ix_at F i c hc
      have hisw : isW c.toNat (k : Int) = true := by
        have hm : c ∈ usF k (pairN lo hi0) := by rw [HF.out]; exact List.mem_of_getElem? hc
        exact us_isW hk2 hk36 _ c hm
      have hdk : wN c.toNat < k := by have := (isW_iff _ _).1 hisw; omega
      have hwo : worthF c.toNat (k : Int) = (wN c.toNat : Int) := by unfold worthF; rw [if_pos hisw]
      have HW : Hid (∀ w, Calls Try.prog 28 #[.int .u8 (c.toNat : Int), .int .i64 (k : Int)] w fun e w' => e = .returned (.tuple #[.int .i64 (wN c.toNat : Int), .bool true]) ∧ w = w') := by
        show ∀ _, _
        intro w
        have := rworth_any c.toNat (k : Int) w c.toNat_lt
        rw [hisw, hwo] at this
        exact this
      have hst := headV_step (b := k) (by omega) F i c hc
      have hle := headV_le (b := k) (by omega) F (i + 1)
      have hall := headV_all hk2 hk36 (pairN lo hi0)
      rw [HF.out] at hall
      have hlt := pairN_lt lo hi0
      obtain ⟨d, ed⟩ : ∃ d, wN c.toNat = d := ⟨_, rfl⟩
      rw [ed] at hdk HW hst
      have hmp := mul_parts7 low high k d (headV k F i) HV.out.1 HV.out.2 hk2 hk36 hdk (by rw [← hst]; exact Nat.lt_of_le_of_lt (Nat.le_trans hle (Nat.le_of_eq hall)) hlt)
      rw [← hst] at hmp
      have ul : un (wrap64 (low : Int)) = low := un_w64 low HV.out.2
      have uk : un (k : Int) = k := un_small k (by omega)
      have HUM : Hid (∀ w, Calls Try.prog 29 #[.int .i64 (wrap64 (low : Int)), .int .i64 (k : Int)] w fun e w' => e = .returned (.tuple #[.int .i64 (wrap64 ((low * k % 18446744073709551616 : Nat) : Int)), .int .i64 (wrap64 ((low * k / 18446744073709551616 : Nat) : Int))]) ∧ Below w.heap.size w w') := by
        show ∀ _, _
        intro w
        have := rumul_any (wrap64 (low : Int)) (k : Int) w
        unfold umLo umHi at this
        rw [ul, uk] at this
        exact this
      have hxm : low * k % 18446744073709551616 < 18446744073709551616 := Nat.mod_lt _ (by omega)
      have hcm : low * k / 18446744073709551616 < 18446744073709551616 := Nat.lt_of_le_of_lt (Nat.le_add_left _ _) hmp.2.1
      obtain ⟨x, ex⟩ : ∃ x, low * k % 18446744073709551616 = x := ⟨_, rfl⟩
      obtain ⟨y, ey⟩ : ∃ y, low * k / 18446744073709551616 = y := ⟨_, rfl⟩
      rw [ex] at hmp HUM hxm
      rw [ey] at hmp HUM hcm
      obtain ⟨X, eX⟩ : ∃ X, wrap64 (x : Int) = X := ⟨_, rfl⟩
      obtain ⟨Y, eY⟩ : ∃ Y, wrap64 (y : Int) = Y := ⟨_, rfl⟩
      obtain ⟨LI, eLI⟩ : ∃ Y, wrap64 (low : Int) = Y := ⟨_, rfl⟩
      rw [eX, eY, eLI] at HUM
      have e1 : IntKind.i64.wrap (low : Int) = LI := by rw [IntWalk.i64_left]; exact eLI
      have e2 : IntKind.u64.wrap X = (x : Int) := by rw [← eX]; exact u64_w64 x hxm
      have e3 : IntKind.u64.wrap Y = (y : Int) := by rw [← eY]; exact u64_w64 y hcm
      have e4 : IntKind.u64.wrap (d : Int) = (d : Int) := un_nat d (by omega)
      have e5 : IntKind.u64.wrap (k : Int) = (k : Int) := un_nat k (by omega)
      have e6 : IntKind.u64.wrap ((x : Int) + (d : Int)) = (((x + d) % 18446744073709551616 : Nat) : Int) := u64_add x d
      obtain ⟨hk, ehk⟩ : ∃ z, high * k = z := ⟨_, rfl⟩
      rw [ehk] at hmp
      have e7 : IntKind.u64.wrap ((high : Int) * (k : Int)) = (hk : Int) := by
        have : (high : Int) * (k : Int) = (hk : Int) := by rw [← ehk]; simp
        rw [this]; exact un_nat hk hmp.1
      have e8 : IntKind.u64.wrap ((hk : Int) + (y : Int)) = ((hk + y : Nat) : Int) := by
        rw [show (hk : Int) + (y : Int) = ((hk + y : Nat) : Int) by simp]; exact un_nat _ hmp.2.1
      obtain ⟨h2, eh2⟩ : ∃ z, hk + y = z := ⟨_, rfl⟩
      rw [eh2] at hmp e8
      obtain ⟨nl, enl⟩ : ∃ z, (x + d) % 18446744073709551616 = z := ⟨_, rfl⟩
      rw [enl] at hmp e6
      have hnl : nl < 18446744073709551616 := by rw [← enl]; exact Nat.mod_lt _ (by omega)
      by_cases hov : 18446744073709551616 ≤ x + d
      · obtain ⟨m1, m2, m3⟩ := hmp.2.2.1 hov
        have e9 : IntKind.u64.wrap ((h2 : Int) + 1) = ((h2 + 1 : Nat) : Int) := by
          rw [show (h2 : Int) + 1 = ((h2 + 1 : Nat) : Int) by simp]; exact un_nat _ m1
        obtain ⟨h3, eh3⟩ : ∃ z, h2 + 1 = z := ⟨_, rfl⟩
        rw [eh3] at e9 m3
        have hcmp : (nl : Int) < (x : Int) := by omega
        have HR := Lib.hid m3
        have HNL := Lib.hid hnl
        clear hc hisw hdk hwo hst hle hall hlt ed hmp ul uk hxm hcm ex ey eX eY eLI ehk eh2 enl hnl hov m1 m2 m3 eh3 HV HF
        go_wp2_with fail
        refine (HW.out _).mono ?_
        rintro e w6 ⟨rfl, rfl⟩
        go_wp2_with fail
        refine (HUM.out _).mono ?_
        rintro e w7 ⟨rfl, b7⟩
        have B7 := Lib.hid (below_then HB.out b7)
        clear b7
        go_wp2_with fail
        go_roundw
        case rel => exact ⟨nl, h3, i + 1, rfl, rfl, (by simp), by omega, Lib.hid ⟨HR.out, HNL.out⟩, B7⟩
        case measure => simp [intOf]; omega
      · obtain ⟨m2, m3⟩ := hmp.2.2.2 (by omega)
        have hcmp : decide ((nl : Int) < (x : Int)) = false := by simp; omega
        have hcmp2 : decide (nl < x) = false := by simp; omega
        have hcmp3 : x ≤ nl := by omega
        have HR := Lib.hid m3
        have HNL := Lib.hid hnl
        clear hc hisw hdk hwo hst hle hall hlt ed hmp ul uk hxm hcm ex ey eX eY eLI ehk eh2 enl hnl hov m2 m3 HV HF
        go_wp2_with fail
        refine (HW.out _).mono ?_
        rintro e w6 ⟨rfl, rfl⟩
        go_wp2_with fail
        refine (HUM.out _).mono ?_
        rintro e w7 ⟨rfl, b7⟩
        have B7 := Lib.hid (below_then HB.out b7)
        clear b7
        go_wp2_with fail
        go_roundw
        case rel => exact ⟨nl, h2, i + 1, rfl, rfl, (by simp), by omega, Lib.hid ⟨HR.out, HNL.out⟩, B7⟩
        case measure => simp [intOf]; omega
    · obtain rfl : i = F.length := by omega
      have hall := headV_all hk2 hk36 (pairN lo hi0)
      rw [HF.out] at hall
      have hv := HV.out.1.trans hall
      have e1 : IntKind.i64.wrap (low : Int) = lo := by
        rw [IntWalk.i64_left]
        have : low = un lo := by unfold pairN at hv; have := un_lt lo; have := HV.out.2; omega
        rw [this]
        exact wrap_unN HLO.out.1 HLO.out.2
      have e2 : IntKind.i64.wrap (high : Int) = hi0 := by
        rw [IntWalk.i64_left]
        have : high = un hi0 := by unfold pairN at hv; have := un_lt lo; have := HV.out.2; omega
        rw [this]
        exact wrap_unN HHI.out.1 HHI.out.2
      clear hall hv HV HF hil hi
      go_wp2_with fail
      go_ret
      exact ⟨rfl, HB.out⟩
set_option maxRecDepth 100000 in
set_option maxHeartbeats 8000000 in
theorem digits_nought (lo hi0 : Int) (k : Nat) (w : World) (hk2 : 2 ≤ k) (hk36 : k ≤ 36) (F : List UInt8) (c0 : UInt8) (HLO : Hid (cellR lo)) (HHI : Hid (cellR hi0)) (HBB : Hid (cellR (k : Int))) (HF : Hid (usF k (pairN lo hi0) = F)) (HA : Hid (allL true [] lo hi0 (k : Int) = F.reverse)) (HAC : Hid (allC true [] lo hi0 (k : Int) = 0)) (hf0 : F[0]? = some c0) (hl1 : 1 ≤ F.length) (hl2 : F.length ≤ 128) (hz : (c0.toNat : Int) = 48) (hz2 : decide ((1 : Int) < (F.length : Int)) = false) :
    Calls Try.prog 6 #[.int .i64 lo, .int .i64 hi0, .int .i64 (k : Int)] w fun e w' => e = .returned (.bool true) ∧ Below w.heap.size w w' := by
  have HM : Hid (F.reverse.length ≤ 1000) := by show _ ≤ _; rw [List.length_reverse]; omega
  have HE : Hid (strB (endL true F.reverse) = strB F) := by show _ = _; rw [(end_on _).1]
  have HEC : Hid (endC true = 0) := rfl
  have k1' : decide ((k : Int) < 2) = false := by simp; omega
  have k2' : decide (36 < (k : Int)) = false := by simp; omega
  have ix0 := ix_0 hf0
  rw [hz] at ix0
  have hsz : (strB F).size = F.length := rfl
  have g1 : decide ((F.length : Int) < 1) = false := by simp; omega
  have g2 : decide ((128 : Int) < (F.length : Int)) = false := by simp; omega
  have hpos : 0 < F.length := by omega
  go_enter Try.func6, Try.ntmps6
  have B0 : Hid (Below w.heap.size w w) := Below.refl _ _
  go_wp2_with fail
  refine (shown_any7 _).mono ?_
  rintro e w1 ⟨rfl, bb⟩
  have B1 := Lib.hid (below_then B0.out bb)
  clear bb B0
  go_wp2_with fail
  refine (begin_any _).mono ?_
  rintro e w2 ⟨A0, n0, c0, rfl, hy, bb⟩
  have B2 := Lib.hid (below_then B1.out bb)
  have S2 := Lib.hid hy
  clear bb B1 hy
  go_wp2_with fail
  refine (all_any _ _ _ true [] lo hi0 (k : Int) _ S2.out (by simp) HLO.out HHI.out HBB.out).mono ?_
  rw [HA.out, HAC.out]
  rintro e w3 ⟨A1, n1, c1, rfl, hy, bb⟩
  have Sp := Lib.hid (S2.out.keep bb)
  have S3 := Lib.hid (Sp.out.keep (al_one _ (.cells #[.slice A1 n1 c1, .bool true] 24)))
  have B3 := Lib.hid (below_then (below_then B2.out bb) (al_one _ (.cells #[.slice A1 n1 c1, .bool true] 24)))
  have P3 := Lib.hid (pat_new (o := true) hy)
  clear bb S2 B2 hy
  clear S3 Sp
  go_wp2_with fail
  refine (end_any _ _ _ true _ _ P3.out.byt HM.out).mono ?_
  rw [HE.out, HEC.out]
  rintro e w4 ⟨rfl, bb⟩
  have P4 := Lib.hid (P3.out.keep bb)
  have B4 := Lib.hid (below_then B3.out bb)
  clear bb P3 B3
  clear P4
  go_wp2_with fail
  clear HA HAC HE HEC HM ix0 g1 g2 hpos hz hz2 hf0 hl1
  go_loopw [12, 13, 14] (fun s12 s13 s14 wr => ∃ (low high i : Nat), s12 = .int .u64 (low : Int) ∧ s13 = .int .u64 (high : Int) ∧ s14 = .int .i64 (i : Int) ∧ i ≤ F.length ∧ Hid (high * 18446744073709551616 + low = headV k F i ∧ low < 18446744073709551616) ∧ Hid (Below w.heap.size w wr)) (fun _ _ s14 _ => F.length - (intOf s14).toNat)
  case atStart => exact ⟨0, 0, 0, rfl, rfl, rfl, Nat.zero_le _, Lib.hid ⟨rfl, by omega⟩, B4⟩
  case round =>
    obtain ⟨low, high, i, rfl, rfl, rfl, hi, HV, HB⟩ := hrel
    by_cases hil : i < F.length
    · have hil' : (i : Int) < (F.length : Int) := by omega
      obtain ⟨c, hc⟩ : ∃ c, F[i]? = some c := ⟨_, List.getElem?_eq_getElem hil⟩
      have ixi := ix_at F i c hc
      have hisw : isW c.toNat (k : Int) = true := by
        have hm : c ∈ usF k (pairN lo hi0) := by rw [HF.out]; exact List.mem_of_getElem? hc
        exact us_isW hk2 hk36 _ c hm
      have hdk : wN c.toNat < k := by have := (isW_iff _ _).1 hisw; omega
      have hwo : worthF c.toNat (k : Int) = (wN c.toNat : Int) := by unfold worthF; rw [if_pos hisw]
      have HW : Hid (∀ w, Calls Try.prog 28 #[.int .u8 (c.toNat : Int), .int .i64 (k : Int)] w fun e w' => e = .returned (.tuple #[.int .i64 (wN c.toNat : Int), .bool true]) ∧ w = w') := by
        show ∀ _, _
        intro w
        have := rworth_any c.toNat (k : Int) w c.toNat_lt
        rw [hisw, hwo] at this
        exact this
      have hst := headV_step (b := k) (by omega) F i c hc
      have hle := headV_le (b := k) (by omega) F (i + 1)
      have hall := headV_all hk2 hk36 (pairN lo hi0)
      rw [HF.out] at hall
      have hlt := pairN_lt lo hi0
      obtain ⟨d, ed⟩ : ∃ d, wN c.toNat = d := ⟨_, rfl⟩
      rw [ed] at hdk HW hst
      have hmp := mul_parts7 low high k d (headV k F i) HV.out.1 HV.out.2 hk2 hk36 hdk (by rw [← hst]; exact Nat.lt_of_le_of_lt (Nat.le_trans hle (Nat.le_of_eq hall)) hlt)
      rw [← hst] at hmp
      have ul : un (wrap64 (low : Int)) = low := un_w64 low HV.out.2
      have uk : un (k : Int) = k := un_small k (by omega)
      have HUM : Hid (∀ w, Calls Try.prog 29 #[.int .i64 (wrap64 (low : Int)), .int .i64 (k : Int)] w fun e w' => e = .returned (.tuple #[.int .i64 (wrap64 ((low * k % 18446744073709551616 : Nat) : Int)), .int .i64 (wrap64 ((low * k / 18446744073709551616 : Nat) : Int))]) ∧ Below w.heap.size w w') := by
        show ∀ _, _
        intro w
        have := rumul_any (wrap64 (low : Int)) (k : Int) w
        unfold umLo umHi at this
        rw [ul, uk] at this
        exact this
      have hxm : low * k % 18446744073709551616 < 18446744073709551616 := Nat.mod_lt _ (by omega)
      have hcm : low * k / 18446744073709551616 < 18446744073709551616 := Nat.lt_of_le_of_lt (Nat.le_add_left _ _) hmp.2.1
      obtain ⟨x, ex⟩ : ∃ x, low * k % 18446744073709551616 = x := ⟨_, rfl⟩
      obtain ⟨y, ey⟩ : ∃ y, low * k / 18446744073709551616 = y := ⟨_, rfl⟩
      rw [ex] at hmp HUM hxm
      rw [ey] at hmp HUM hcm
      obtain ⟨X, eX⟩ : ∃ X, wrap64 (x : Int) = X := ⟨_, rfl⟩
      obtain ⟨Y, eY⟩ : ∃ Y, wrap64 (y : Int) = Y := ⟨_, rfl⟩
      obtain ⟨LI, eLI⟩ : ∃ Y, wrap64 (low : Int) = Y := ⟨_, rfl⟩
      rw [eX, eY, eLI] at HUM
      have e1 : IntKind.i64.wrap (low : Int) = LI := by rw [IntWalk.i64_left]; exact eLI
      have e2 : IntKind.u64.wrap X = (x : Int) := by rw [← eX]; exact u64_w64 x hxm
      have e3 : IntKind.u64.wrap Y = (y : Int) := by rw [← eY]; exact u64_w64 y hcm
      have e4 : IntKind.u64.wrap (d : Int) = (d : Int) := un_nat d (by omega)
      have e5 : IntKind.u64.wrap (k : Int) = (k : Int) := un_nat k (by omega)
      have e6 : IntKind.u64.wrap ((x : Int) + (d : Int)) = (((x + d) % 18446744073709551616 : Nat) : Int) := u64_add x d
      obtain ⟨hk, ehk⟩ : ∃ z, high * k = z := ⟨_, rfl⟩
      rw [ehk] at hmp
      have e7 : IntKind.u64.wrap ((high : Int) * (k : Int)) = (hk : Int) := by
        have : (high : Int) * (k : Int) = (hk : Int) := by rw [← ehk]; simp
        rw [this]; exact un_nat hk hmp.1
      have e8 : IntKind.u64.wrap ((hk : Int) + (y : Int)) = ((hk + y : Nat) : Int) := by
        rw [show (hk : Int) + (y : Int) = ((hk + y : Nat) : Int) by simp]; exact un_nat _ hmp.2.1
      obtain ⟨h2, eh2⟩ : ∃ z, hk + y = z := ⟨_, rfl⟩
      rw [eh2] at hmp e8
      obtain ⟨nl, enl⟩ : ∃ z, (x + d) % 18446744073709551616 = z := ⟨_, rfl⟩
      rw [enl] at hmp e6
      have hnl : nl < 18446744073709551616 := by rw [← enl]; exact Nat.mod_lt _ (by omega)
      by_cases hov : 18446744073709551616 ≤ x + d
      · obtain ⟨m1, m2, m3⟩ := hmp.2.2.1 hov
        have e9 : IntKind.u64.wrap ((h2 : Int) + 1) = ((h2 + 1 : Nat) : Int) := by
          rw [show (h2 : Int) + 1 = ((h2 + 1 : Nat) : Int) by simp]; exact un_nat _ m1
        obtain ⟨h3, eh3⟩ : ∃ z, h2 + 1 = z := ⟨_, rfl⟩
        rw [eh3] at e9 m3
        have hcmp : (nl : Int) < (x : Int) := by omega
        have HR := Lib.hid m3
        have HNL := Lib.hid hnl
        clear hc hisw hdk hwo hst hle hall hlt ed hmp ul uk hxm hcm ex ey eX eY eLI ehk eh2 enl hnl hov m1 m2 m3 eh3 HV HF
        go_wp2_with fail
        refine (HW.out _).mono ?_
        rintro e w6 ⟨rfl, rfl⟩
        go_wp2_with fail
        refine (HUM.out _).mono ?_
        rintro e w7 ⟨rfl, b7⟩
        have B7 := Lib.hid (below_then HB.out b7)
        clear b7
        go_wp2_with fail
        go_roundw
        case rel => exact ⟨nl, h3, i + 1, rfl, rfl, (by simp), by omega, Lib.hid ⟨HR.out, HNL.out⟩, B7⟩
        case measure => simp [intOf]; omega
      · obtain ⟨m2, m3⟩ := hmp.2.2.2 (by omega)
        have hcmp : decide ((nl : Int) < (x : Int)) = false := by simp; omega
        have hcmp2 : decide (nl < x) = false := by simp; omega
        have hcmp3 : x ≤ nl := by omega
        have HR := Lib.hid m3
        have HNL := Lib.hid hnl
        clear hc hisw hdk hwo hst hle hall hlt ed hmp ul uk hxm hcm ex ey eX eY eLI ehk eh2 enl hnl hov m2 m3 HV HF
        go_wp2_with fail
        refine (HW.out _).mono ?_
        rintro e w6 ⟨rfl, rfl⟩
        go_wp2_with fail
        refine (HUM.out _).mono ?_
        rintro e w7 ⟨rfl, b7⟩
        have B7 := Lib.hid (below_then HB.out b7)
        clear b7
        go_wp2_with fail
        go_roundw
        case rel => exact ⟨nl, h2, i + 1, rfl, rfl, (by simp), by omega, Lib.hid ⟨HR.out, HNL.out⟩, B7⟩
        case measure => simp [intOf]; omega
    · obtain rfl : i = F.length := by omega
      have hall := headV_all hk2 hk36 (pairN lo hi0)
      rw [HF.out] at hall
      have hv := HV.out.1.trans hall
      have e1 : IntKind.i64.wrap (low : Int) = lo := by
        rw [IntWalk.i64_left]
        have : low = un lo := by unfold pairN at hv; have := un_lt lo; have := HV.out.2; omega
        rw [this]
        exact wrap_unN HLO.out.1 HLO.out.2
      have e2 : IntKind.i64.wrap (high : Int) = hi0 := by
        rw [IntWalk.i64_left]
        have : high = un hi0 := by unfold pairN at hv; have := un_lt lo; have := HV.out.2; omega
        rw [this]
        exact wrap_unN HHI.out.1 HHI.out.2
      clear hall hv HV HF hil hi
      go_wp2_with fail
      go_ret
      exact ⟨rfl, HB.out⟩
theorem digits_len {k : Nat} (h2 : 2 ≤ k) (lo hi : Int) : (usF k (pairN lo hi)).length ≤ 128 := us_le h2 127 (pairN lo hi) (Nat.lt_of_lt_of_le (pairN_lt lo hi) (by decide +kernel))
theorem digits_all {k : Nat} (h2 : 2 ≤ k) (h36 : k ≤ 36) (lo hi : Int) : allL true [] lo hi (k : Int) = (usF k (pairN lo hi)).reverse ∧ allC true [] lo hi (k : Int) = 0 := by
  have hb : baseB (k : Int) = true := (baseB_iff _).2 (by omega)
  have hl := digits_len h2 lo hi
  have hok : allOK true [] lo hi (k : Int) = true := by
    unfold allOK figs
    rw [hb, Int.toNat_natCast]
    simp
    omega
  refine ⟨?_, ?_⟩
  · unfold allL figs; rw [if_pos hok, Int.toNat_natCast, List.nil_append]
  · unfold allC; rw [if_pos hb, if_pos hok]
theorem digits_any (lo hi b : Int) (w : World) (hlo : cellR lo) (hhi : cellR hi) (hcb : cellR b) :
    Calls Try.prog 6 #[.int .i64 lo, .int .i64 hi, .int .i64 b] w fun e w' => e = .returned (.bool true) ∧ Below w.heap.size w w' := by
  by_cases h1 : b < 2
  · exact digits_lt lo hi b w hlo hhi hcb h1
  · by_cases h2 : 36 < b
    · exact digits_gt lo hi b w hlo hhi hcb (by simp; omega) h2
    · obtain ⟨k, rfl⟩ := Int.eq_ofNat_of_zero_le (by omega : 0 ≤ b)
      have hk2 : 2 ≤ k := by omega
      have hk36 : k ≤ 36 := by omega
      obtain ⟨q1, q2⟩ := digits_all hk2 hk36 lo hi
      have hl := digits_len hk2 lo hi
      by_cases hP : 0 < pairN lo hi
      · obtain ⟨c, r, e, hc⟩ := us_first hk2 hk36 _ hP
        refine digits_core lo hi k w hk2 hk36 (usF k (pairN lo hi)) c (Lib.hid hlo) (Lib.hid hhi) (Lib.hid hcb) (Lib.hid rfl) (Lib.hid q1) (Lib.hid q2) (by rw [e]; rfl) (us_one _ _) hl ?_
        rw [beq_eq_false_iff_ne]
        intro h
        apply hc
        apply UInt8.toNat_inj.1
        show c.toNat = 48
        omega
      · have e : usF k (pairN lo hi) = [UInt8.ofNat (digN (pairN lo hi))] := usF_low (by omega)
        have h0 : pairN lo hi = 0 := by omega
        refine digits_nought lo hi k w hk2 hk36 (usF k (pairN lo hi)) 48 (Lib.hid hlo) (Lib.hid hhi) (Lib.hid hcb) (Lib.hid rfl) (Lib.hid q1) (Lib.hid q2) ?_ (us_one _ _) hl rfl ?_
        · rw [e, h0]; decide
        · rw [e]; rfl
end Go.Proofs.Ytphbeghflbkpgaa
