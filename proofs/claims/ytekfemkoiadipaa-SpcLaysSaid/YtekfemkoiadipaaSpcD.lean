/- Contracts of AlignUp of package spc, and of the document's. -/
import Derived.Test.YtekfemkoiadipaaSpcC
namespace Go.Proofs.Ytekfemkoiadipaa
open Go.RowKit
set_option linter.unusedVariables false
set_option linter.unusedSimpArgs false

theorem Byt.form_len {w : World} {u : Value} {l : List UInt8} {n : Nat} (h : Byt w u l) (hn : l.length = n) : ∃ A c, u = .slice A n c := by
  subst hn
  exact h.form

set_option maxRecDepth 100000 in
set_option maxHeartbeats 2000000 in
theorem up_at (A P : Option Addr) (L c K d : Nat) (m : PM) (p : Int) (w : World) (HM : Hid (IsMem w (.agg #[.slice A L c, .slice P K d]) m)) (hL : L ≤ 65536) (hK : K < 1000) (hp : endB L p = true) :
    Calls Try.prog 17 #[.agg #[.slice A L c, .slice P K d], .int .i64 p] w fun e w' => ∃ A' L' c' P' K' d', e = .returned (.tuple #[.agg #[.slice A' L' c', .slice P' K' d'], .int .i64 (layP L p (misN p)), .int .i64 (layC L p (misN p))]) ∧ IsMem w' (.agg #[.slice A' L' c', .slice P' K' d']) (layM m p (upB p)) ∧ Below w.heap.size w w' := by
  obtain ⟨p0, p1⟩ := (endB_iff _ _).1 hp
  have p2 : p ≤ 65536 := by omega
  have k8 := misN_lt p
  have HU := Lib.hid (upB_len p)
  obtain ⟨T, hT⟩ : ∃ x, upB p = x := ⟨_, rfl⟩
  have HT : Hid (T = List.replicate (misN p) 0) := hT.symm
  have HMI := Lib.hid (missing_any p · p0 p2)
  obtain ⟨k, hk⟩ : ∃ x, misN p = x := ⟨_, rfl⟩
  rw [hT] at HU
  rw [hk] at k8 HMI HU HT
  obtain ⟨E, hE⟩ : ∃ x, layP L p k = x := ⟨_, rfl⟩
  obtain ⟨C, hC⟩ : ∃ x, layC L p k = x := ⟨_, rfl⟩
  have CW : Hid (∀ (w1 : World) (B : Option Addr) (e : Nat), IsMem w1 (.agg #[.slice A L c, .slice P K d]) m → Byt w1 (.slice B k e) T → Calls Try.prog 13 #[.agg #[.slice A L c, .slice P K d], .int .i64 p, .slice B k e] w1 fun e w' => ∃ A' L' c' P' K' d', e = .returned (.tuple #[.agg #[.slice A' L' c', .slice P' K' d'], .int .i64 E, .int .i64 C]) ∧ IsMem w' (.agg #[.slice A' L' c', .slice P' K' d']) (layM m p T) ∧ Below w1.heap.size w1 w') := by
    intro w1 B e hm hb
    have := lay_at A P B L c K d k e m T p w1 hm hb hL hK hp (by omega)
    rw [hE, hC] at this
    exact this
  obtain ⟨i0, hi, hz0, hz1, hz2⟩ := info_parts info_u8
  obtain ⟨Z, hZ⟩ : ∃ Z, Z = (u8s T).toArray := ⟨_, rfl⟩
  have hmk : ∀ w : World, (Instr.makeSlice 22 (.int .i64 (k : Int)) (.int .i64 (k : Int))).run Try.prog w = .ok (.slice (some ⟨w.heap.size, 0, none⟩) k k) (w.alloc (.cells Z 5)) := by
    intro w
    have := run_make (P := Try.prog) w 22 5 i0 (.int .u8 0) Try.underlying22 hi hz0 .i64 .i64 k k (by omega) (Int.le_refl _) (by rw [hz2]; omega) (by omega)
    rw [hz1, Nat.mul_one, Int.toNat_natCast, made_u8] at this
    rw [hZ, HT.out]
    exact this
  have HB : Hid (∀ W : World, Byt (W.alloc (.cells Z 5)) (.slice (some ⟨W.heap.size, 0, none⟩) k k) T) := by
    intro W
    have h := byt_block (l := T) (t := 5) (w := W.alloc (.cells Z 5)) (g := W.heap.size) (by rw [hZ]; exact one_new _ _ _) (by rw [HU.out]; omega)
    rw [HU.out] at h
    exact h
  rw [hT, hk, hE, hC]
  have F1 := fr_new w A P L c K d
  clear hE hC hp hT hk hZ hi hz0 hz1 hz2 HU HT
  go_enter Try.func17, Try.ntmps17
  go_wp2_with fail
  refine wp_region_noPanic ?_
  go_region_held (fun w' => w'.cell? ⟨w.heap.size, 0, none⟩ = some (.slice A L c) ∧ w'.cell? ⟨w.heap.size, 1, none⟩ = some (.slice P K d) ∧ Fw w A P L c K d w') (first | assumption | exact fwS F1.drew | exact fwP (by assumption) _ _ _ _ _ _ | exact fwK (by assumption) (al_one _ _))
    (first | (go_at_call 26; ((with_reducible refine (HMI.out _).mono ?_); rintro e w2 ⟨rfl, b2⟩; have s2 := fwK (by assumption) b2)) | (go_at_call 13; ((with_reducible refine (CW.out _ _ _ ((HM.out.keep s2.2.2.bel).keep (al_one _ _)) (HB.out _)).mono ?_); rintro e w3 ⟨A', L', c', P', K', d', rfl, hm3, b3⟩; have s3 := fwK (fwK s2 (al_one _ _)) b3; obtain ⟨A0, n0, c0, P0, k0, d0, hres⟩ := s3.2.2.res; obtain ⟨q2, q3, q4, q5⟩ := hres.use)))
  all_goals (refine NoPanic.normal ?_)
  all_goals go_wp2
  all_goals refine bodyPost_ret (v := .tuple #[.agg #[.slice A' L' c', .slice P' K' d'], .int .i64 E, .int .i64 C]) ?_ rfl ?_
  · obtain ⟨r0, r1⟩ := hres.got (.slice A' L' c') (.slice P' K' d')
    simp [results, Try.results17, go_sem, r0, r1]
  · exact ⟨_, _, _, _, _, _, rfl, hm3.row hres (row_put _ _ _ _), (s3.2.2.bel.setCell (by simp) _).setCell (by simp) _⟩

set_option maxRecDepth 100000 in
set_option maxHeartbeats 2000000 in
theorem rup_at (A P : Option Addr) (L c K d : Nat) (m : PM) (p : Int) (w : World) (HM : Hid (IsMem w (.agg #[.slice A L c, .slice P K d]) m)) (hL : L ≤ 65536) (hK : K < 1000) (hp : endB L p = true) :
    Calls Try.prog 18 #[.agg #[.slice A L c, .slice P K d], .int .i64 p] w fun e w' => ∃ A' L' c' P' K' d', e = .returned (.tuple #[.agg #[.slice A' L' c', .slice P' K' d'], .int .i64 (layP L p (misN p)), .int .i64 (layC L p (misN p))]) ∧ IsMem w' (.agg #[.slice A' L' c', .slice P' K' d']) (layM m p (upB p)) ∧ Below w.heap.size w w' := by
  obtain ⟨p0, p1⟩ := (endB_iff _ _).1 hp
  have p2 : p ≤ 65536 := by omega
  have k8 := misN_lt p
  have HN : Hid (∀ j : Nat, j < misN p → (((p + (j : Int)) % 8 != 0) = true)) := fun j hj => by
    have := misN_int p
    simp; omega
  have HNE : Hid ((p + (misN p : Int)) % 8 = 0) := by
    show _ = _
    have := misN_int p
    omega
  have HT : Hid (upB p = List.replicate (misN p) 0) := rfl
  obtain ⟨T, hT⟩ : ∃ x, upB p = x := ⟨_, rfl⟩
  obtain ⟨k, hk⟩ : ∃ x, misN p = x := ⟨_, rfl⟩
  rw [hT] at HT
  rw [hk] at k8 HN HNE HT
  obtain ⟨E, hE⟩ : ∃ x, layP L p k = x := ⟨_, rfl⟩
  obtain ⟨C, hC⟩ : ∃ x, layC L p k = x := ⟨_, rfl⟩
  have CW : Hid (∀ (w1 : World) (B : Option Addr) (e : Nat), IsMem w1 (.agg #[.slice A L c, .slice P K d]) m → Byt w1 (.slice B k e) T → Calls Try.prog 14 #[.agg #[.slice A L c, .slice P K d], .int .i64 p, .slice B k e] w1 fun e w' => ∃ A' L' c' P' K' d', e = .returned (.tuple #[.agg #[.slice A' L' c', .slice P' K' d'], .int .i64 E, .int .i64 C]) ∧ IsMem w' (.agg #[.slice A' L' c', .slice P' K' d']) (layM m p T) ∧ Below w1.heap.size w1 w') := by
    intro w1 B e hm hb
    have := rlay_at A P B L c K d k e m T p w1 hm hb hL hK hp (by omega)
    rw [hE, hC] at this
    exact this
  obtain ⟨i0, hi, hz0, hz1, hz2⟩ := info_parts info_u8
  rw [hT, hk, hE, hC]
  clear hE hC hp hT hk
  go_enter Try.func18, Try.ntmps18
  go_wp2_with fail
  obtain ⟨w1, hw1⟩ : ∃ x, ((w.alloc (.cells #[.slice A L c, .slice P K d] 25)).alloc (.cells #[.slice none 0 0, .slice none 0 0] 25)) = x := ⟨_, rfl⟩
  rw [hw1]
  have F1 : Hid (Fr w A P L c K d w1) := hw1 ▸ fr_new w A P L c K d
  clear hw1
  go_loopw [7] (fun v wr => ∃ j : Nat, j ≤ k ∧ wr.ownsRow w1.heap.size 5 1 v j (u8s (List.replicate j 0)) ∧ Below w1.heap.size w1 wr) (fun v _ => k - (match v with | .slice _ n _ => n | _ => 0))
  case atStart => exact ⟨0, Nat.zero_le _, by simpa [u8s] using World.ownsRow_nil _ _ _ _, Below.refl _ _⟩
  case round =>
    obtain ⟨j, hj, hown, hb⟩ := hrel
    obtain ⟨B, e', rfl⟩ := (own_byt hown).form_len (n := j) (by simp)
    have hpj0 : 0 ≤ p + (j : Int) := by omega
    have hpj1 : p + (j : Int) ≤ 65600 := by omega
    by_cases hlt : j < k
    · have ht := HN.out j hlt
      have HX : Hid (List.replicate (j + 1) (0 : UInt8) = List.replicate j 0 ++ [0]) := List.replicate_succ'
      go_wp2_with (at_builtin; refine wpList_append_own _ rfl _ _ 22 rfl w1.heap.size 5 i0 (.int .u8 0) 1 1 Try.underlying22 hi hz0 hz1 hz2 rfl (by decide) _ _ _ rfl (hown.alloc _) ⟨wr.heap.size, 0, none⟩ 1 1 [.int .u8 0] rfl rfl ?c1 ?c2 ?c3 ?c4 ?c5 ?_)
      case c1 => exact cell_one_new _ _ _
      case c2 => simp [Value.oneCell']
      case c3 => unfold maxLen; omega
      case c4 => omega
      case c5 => have := hb.size; simp; omega
      intro v' w2 hown2 hgrow _
      have hb2 : Below w1.heap.size w1 w2 := (hb.alloc hb.size _).grown hgrow (by have := hb.size; simp; omega) (own_from hown)
      have hown3 : w2.ownsRow w1.heap.size 5 1 v' (j + 1) (u8s (List.replicate (j + 1) 0)) := by rw [HX.out, u8s_app]; exact hown2
      obtain ⟨B2, e2, rfl⟩ := (own_byt hown3).form_len (n := j + 1) (by simp)
      have HO := Lib.hid hown3
      clear hown hb hgrow hown2 hown3
      go_wp2
      go_roundw
      case rel => exact ⟨j + 1, by omega, HO.out, hb2⟩
      case measure => simp; omega
    · have hjk : j = k := by omega
      subst hjk
      have ht : ((p + (j : Int)) % 8 != 0) = false := by have := HNE.out; simp [this]
      have HO : Hid (Byt wr (.slice B j e') T) := by rw [HT.out]; exact own_byt hown
      have F2 := Lib.hid (F1.out.keep hb)
      obtain ⟨q0, q1, _, _⟩ := (F1.out.keep hb).2.1.use
      clear hown hb hlt F1
      go_wp2_with fail
      refine (CW.out _ _ _ (HM.out.keep F2.out.bel) HO.out).mono ?_
      rintro e w3 ⟨A', L', c', P', K', d', rfl, hm3, b3⟩
      have F3 := Lib.hid (F2.out.keep b3)
      obtain ⟨q2, q3, q4, q5⟩ := F3.out.2.2.use
      have M3 := Lib.hid hm3
      clear b3 hm3 F2 q0 q1
      go_wp2_with fail
      refine bodyPost_ret (v := .tuple #[.agg #[.slice A' L' c', .slice P' K' d'], .int .i64 E, .int .i64 C]) ?_ rfl ?_
      · obtain ⟨r0, r1⟩ := F3.out.2.2.got (.slice A' L' c') (.slice P' K' d')
        simp [results, Try.results18, go_sem, r0, r1]
      · exact ⟨_, _, _, _, _, _, rfl, F3.out.mem M3.out _ _, F3.out.put _ _⟩
end Go.Proofs.Ytekfemkoiadipaa
