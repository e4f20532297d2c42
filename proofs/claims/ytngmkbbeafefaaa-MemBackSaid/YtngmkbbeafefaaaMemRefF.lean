/- Contracts of the document's own Mark, Free, New and Store. -/
import Derived.Test.YtngmkbbeafefaaaMemWalksF
namespace Go.Proofs.Ytngmkbbeafefaaa
open Go.RowKit

set_option maxRecDepth 100000 in
set_option maxHeartbeats 2000000 in
theorem rmark_at (A P : Option Addr) (L c K d : Nat) (w : World) :
    Calls Try.prog 39 #[.agg #[.slice A L c, .slice P K d]] w fun e w' => e = .returned (.int .i64 (K : Int)) ∧ Below w.heap.size w w' := by
  go_enter Try.func39, Try.ntmps39
  go_wp2
  go_ret
  exact ⟨rfl, (Below.refl _ _).alloc (Nat.le_refl _) _⟩

set_option maxRecDepth 100000 in
set_option maxHeartbeats 2000000 in
theorem rfree_at (A P : Option Addr) (L c K d : Nat) (w : World) :
    Calls Try.prog 41 #[.agg #[.slice A L c, .slice P K d]] w fun e w' => e = .returned (.agg #[.slice A L c, .slice none 0 0]) ∧ Below w.heap.size w w' := by
  go_enter Try.func41, Try.ntmps41
  go_wp2
  refine bodyPost_ret (v := .agg #[.slice A L c, .slice none 0 0]) ?_ rfl ?_
  · simp [results, Try.results41, go_sem]
  · exact ⟨rfl, ((Below.refl _ _).alloc (Nat.le_refl _) _).alloc (by simp) _⟩

set_option maxRecDepth 100000 in
set_option maxHeartbeats 2000000 in
theorem rnew_any (n : Int) (w : World) :
    Calls Try.prog 14 #[.int .i64 n] w fun e w' => ∃ A L c P K d, e = .returned (.tuple #[.agg #[.slice A L c, .slice P K d], .int .i64 (newC n)]) ∧ IsMem w' (.agg #[.slice A L c, .slice P K d]) (newF n) ∧ Below w.heap.size w w' := by
  by_cases h : newOk n = true
  · have HC : Hid (newC n = 0) := if_pos h
    have HF : Hid (newF n = (List.replicate n.toNat 0, [])) := if_pos h
    have h' := h
    unfold newOk at h'
    rw [decide_eq_true_eq] at h'
    obtain ⟨h1, h2, h3⟩ := h'
    obtain ⟨k, rfl⟩ := Int.eq_ofNat_of_zero_le (by omega : 0 ≤ n)
    have h4 : decide ((k : Int) < 8) = false := by simp; omega
    have h5 : decide ((65536 : Int) < (k : Int)) = false := by simp; omega
    have h6 : ((k : Int) % 8 != 0) = false := by simp [h3]
    obtain ⟨i0, hi, hz0, hz1, hz2⟩ := info_parts info_u8
    obtain ⟨Z, hZ⟩ : ∃ Z, Z = (u8s (List.replicate k 0)).toArray := ⟨_, rfl⟩
    have hmk : ∀ w : World, (Instr.makeSlice 22 (.int .i64 (k : Int)) (.int .i64 (k : Int))).run Try.prog w = .ok (.slice (some ⟨w.heap.size, 0, none⟩) k k) (w.alloc (.cells Z 5)) := by
      intro w
      have := run_make (P := Try.prog) w 22 5 i0 (.int .u8 0) Try.underlying22 hi hz0 .i64 .i64 k k (by omega) (Int.le_refl _) (by rw [hz2]; omega) (by omega)
      rw [hz1, Nat.mul_one, Int.toNat_natCast, made_u8] at this
      rw [hZ]
      exact this
    have HZ := Lib.hid hZ
    rw [HC.out]
    clear hZ h h3 hi hz0 hz1 hz2
    go_enter Try.func14, Try.ntmps14
    go_wp2
    refine bodyPost_ret (v := .tuple #[.agg #[.slice (some ⟨w.heap.size + 1, 0, none⟩) k k, .slice none 0 0], .int .i64 0]) ?_ rfl ?_
    · simp [results, Try.results14, go_sem]
    · refine ⟨_, _, _, _, _, _, rfl, ?_, ((Below.refl _ _).alloc (Nat.le_refl _) _).alloc (by simp) _⟩
      rw [HF.out, HZ.out]
      refine mem_mk ?_ (pats_nil _)
      have e : (List.replicate k (0 : UInt8)).length = k := by simp
      have := byt_block (w := (w.alloc (.cells #[.slice (some ⟨w.heap.size + 1, 0, none⟩) k k, .slice none 0 0] 25)).alloc (.cells (u8s (List.replicate k 0)).toArray 5)) (g := w.heap.size + 1) (l := List.replicate k 0) (t := 5) (two_new _ _ _ _ _).1 (by rw [e]; omega)
      rw [e] at this
      simpa using this
  · have hn : newOk n = false := by simpa using h
    have HC : Hid (newC n = -24) := if_neg h
    have HF : Hid (newF n = ([], [])) := if_neg h
    rw [HC.out]
    have HN : Hid (¬ (8 ≤ n ∧ n ≤ 65536 ∧ n % 8 = 0)) := by unfold newOk at hn; exact of_decide_eq_false hn
    have hfin : ∀ w' : World, IsMem w' (.agg #[.slice none 0 0, .slice none 0 0]) (newF n) := fun w' => by rw [HF.out]; exact mem_mk (byt_nil _) (pats_nil _)
    have HFIN := Lib.hid hfin
    clear hn h hfin
    by_cases h1 : n < 8
    · go_enter Try.func14, Try.ntmps14
      go_wp2
      refine bodyPost_ret (v := .tuple #[.agg #[.slice none 0 0, .slice none 0 0], .int .i64 (-24)]) ?_ rfl ?_
      · simp [results, Try.results14, go_sem]
      · exact ⟨_, _, _, _, _, _, rfl, HFIN.out _, (Below.refl _ _).alloc (Nat.le_refl _) _⟩
    · have h1' : decide (n < 8) = false := by simp; omega
      by_cases h2 : 65536 < n
      · go_enter Try.func14, Try.ntmps14
        go_wp2
        refine bodyPost_ret (v := .tuple #[.agg #[.slice none 0 0, .slice none 0 0], .int .i64 (-24)]) ?_ rfl ?_
        · simp [results, Try.results14, go_sem]
        · exact ⟨_, _, _, _, _, _, rfl, HFIN.out _, (Below.refl _ _).alloc (Nat.le_refl _) _⟩
      · have h2' : decide ((65536 : Int) < n) = false := by simp; omega
        have h3 : n % 8 ≠ 0 := by have := HN.out; omega
        have h3' : (n % 8 != 0) = true := by simp [h3]
        have h0 : 0 ≤ n := by omega
        clear h3 h1 h2
        go_enter Try.func14, Try.ntmps14
        go_wp2
        refine bodyPost_ret (v := .tuple #[.agg #[.slice none 0 0, .slice none 0 0], .int .i64 (-24)]) ?_ rfl ?_
        · simp [results, Try.results14, go_sem]
        · exact ⟨_, _, _, _, _, _, rfl, HFIN.out _, (Below.refl _ _).alloc (Nat.le_refl _) _⟩

/-- Write, with its memory's slices told. -/
theorem rwrite_sl (v u : Value) (m : PM) (b : List UInt8) (p : Int) (w : World) (h : IsMem w v m) (hu : Byt w u b) (hL : m.1.length ≤ 65536) (hK : m.2.length < 1000) (hb : b.length ≤ 65536) :
    Calls Try.prog 31 #[v, .int .i64 p, u] w fun e w' => ∃ A L c P K d, e = .returned (.tuple #[.agg #[.slice A L c, .slice P K d], .int .i64 (codeF (okB m.1.length p b.length))]) ∧ IsMem w' (.agg #[.slice A L c, .slice P K d]) (writeF m p b) ∧ Below w.heap.size w w' := by
  refine (rwrite_any v u m b p w h hu hL hK hb).mono fun e w' ⟨x, y, he, hm, hw⟩ => ?_
  obtain ⟨A, n, c, P, k, d, rfl, rfl⟩ := hm.slices
  exact ⟨A, n, c, P, k, d, he, hm, hw⟩

set_option maxRecDepth 100000 in
set_option maxHeartbeats 2000000 in
theorem rstore_at (A P : Option Addr) (L c K d : Nat) (m : PM) (p n : Int) (w : World) (HM : Hid (IsMem w (.agg #[.slice A L c, .slice P K d]) m)) (hL : L ≤ 65536) (hK : K < 1000) :
    Calls Try.prog 22 #[.agg #[.slice A L c, .slice P K d], .int .i64 p, .int .i64 n] w fun e w' => ∃ A' L' c' P' K' d', e = .returned (.tuple #[.agg #[.slice A' L' c', .slice P' K' d'], .int .i64 (cellC L p)]) ∧ IsMem w' (.agg #[.slice A' L' c', .slice P' K' d']) (storeF m p n) ∧ Below w.heap.size w w' := by
  obtain ⟨C, hC⟩ : ∃ C, cellC L p = C := ⟨_, rfl⟩
  by_cases h0 : C = 0
  · subst h0
    have HF : Hid (storeF m p n = writeF m p (cellBytes n)) := by unfold storeF; rw [if_pos (by rw [HM.out.len1]; exact hC)]; rfl
    have ok : okB m.1.length p (cellBytes n).length = true := by rw [HM.out.len1, cellBytes_len]; exact store_ok hC
    have CW : Hid (∀ (w1 : World) (B : Option Addr) (k e : Nat), IsMem w1 (.agg #[.slice A L c, .slice P K d]) m → Byt w1 (.slice B k e) (cellBytes n) → Calls Try.prog 31 #[.agg #[.slice A L c, .slice P K d], .int .i64 p, .slice B k e] w1 fun e w' => ∃ A' L' c' P' K' d', e = .returned (.tuple #[.agg #[.slice A' L' c', .slice P' K' d'], .int .i64 0]) ∧ IsMem w' (.agg #[.slice A' L' c', .slice P' K' d']) (writeF m p (cellBytes n)) ∧ Below w1.heap.size w1 w') := by
      intro w1 B k e hm hb
      have := rwrite_sl _ _ m (cellBytes n) p w1 hm hb (by rw [HM.out.len1]; exact hL) (by rw [HM.out.len2]; exact hK) (by rw [cellBytes_len]; omega)
      rw [ok, codeF_yes] at this
      exact this
    rw [HF.out, hC]
    have HC := Lib.hid hC
    clear hC ok
    go_enter Try.func22, Try.ntmps22
    go_wp2_with fail
    refine (rcellAt_any _ _ _ _ _ _ _ _ hL).mono ?_
    rw [HC.out]
    rintro e w1 ⟨rfl, b1⟩
    have F1 := fr_two b1
    clear b1
    go_wp2_with fail
    refine wp_region_noPanic ?_
    go_region_held (fun w' => w'.cell? ⟨w.heap.size, 0, none⟩ = some (.slice A L c) ∧ w'.cell? ⟨w.heap.size, 1, none⟩ = some (.slice P K d) ∧ Fw w A P L c K d w') (first | assumption | exact fwS F1.drew | exact fwP (by assumption) _ _ _ _ _ _)
      (first | (go_at_call 53; ((with_reducible refine (rput_byt _ _).mono ?_); rintro e w2 ⟨B, k, e', rfl, hu2, b2⟩; have s2 := fwK (by assumption) b2)) | (go_at_call 31; ((with_reducible refine (CW.out _ _ _ _ (HM.out.keep s2.2.2.bel) hu2).mono ?_); rintro e w3 ⟨A', L', c', P', K', d', rfl, hm3, b3⟩; have s3 := fwK (by assumption) b3; obtain ⟨A0, n0, c0, P0, k0, d0, hres⟩ := s3.2.2.res; obtain ⟨q2, q3, q4, q5⟩ := hres.use)))
    all_goals (refine NoPanic.normal ?_)
    all_goals go_wp2
    all_goals refine bodyPost_ret (v := .tuple #[.agg #[.slice A' L' c', .slice P' K' d'], .int .i64 0]) ?_ rfl ?_
    · obtain ⟨r0, r1⟩ := hres.got (.slice A' L' c') (.slice P' K' d')
      simp [results, Try.results22, go_sem, r0, r1]
    · exact ⟨_, _, _, _, _, _, rfl, hm3.row hres (row_put _ _ _ _), (s3.2.2.bel.setCell (by simp) _).setCell (by simp) _⟩
  · have hF : storeF m p n = m := by unfold storeF; rw [if_neg (by rw [HM.out.len1, hC]; exact h0)]
    rw [hF, hC]
    have HC := Lib.hid hC
    have h0' : (C != 0) = true := by simp [h0]
    clear hC hF h0
    go_enter Try.func22, Try.ntmps22
    go_wp2_with fail
    refine (rcellAt_any _ _ _ _ _ _ _ _ hL).mono ?_
    rw [HC.out]
    rintro e w1 ⟨rfl, b1⟩
    have F1 := Lib.hid (fr_two b1)
    obtain ⟨q0, q1, _, _⟩ := (fr_two b1).2.1.use
    obtain ⟨q2, q3, q4, q5⟩ := (fr_two b1).2.2.use
    clear b1
    go_wp2_with fail
    refine bodyPost_ret (v := .tuple #[.agg #[.slice A L c, .slice P K d], .int .i64 C]) ?_ rfl ?_
    · obtain ⟨r0, r1⟩ := F1.out.2.2.got (.slice A L c) (.slice P K d)
      simp [results, Try.results22, go_sem, r0, r1]
    · exact ⟨_, _, _, _, _, _, rfl, F1.out.mem (HM.out.keep F1.out.1) _ _, F1.out.put _ _⟩

end Go.Proofs.Ytngmkbbeafefaaa
