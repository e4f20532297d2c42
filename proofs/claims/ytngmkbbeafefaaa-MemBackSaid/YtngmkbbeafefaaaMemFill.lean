/- Contracts of Fill of package mem, and of the document's own. -/
import Derived.Test.YtngmkbbeafefaaaMemRep
import Derived.Test.YtngmkbbeafefaaaMemRefG
namespace Go.Proofs.Ytngmkbbeafefaaa
open Go.RowKit

theorem fill_no {m : PM} {p n c : Int} (h : okB m.1.length p n = false) : fillF m p n c = m := by unfold fillF; rw [if_neg (by simp [h])]
theorem fill_yes {m : PM} {p n c : Int} (h : okB m.1.length p n = true) : fillF m p n c = writeF m p (List.replicate n.toNat (lowB c)) := by unfold fillF; rw [if_pos h]

set_option maxRecDepth 100000 in
set_option maxHeartbeats 4000000 in
theorem fill_at (A P : Option Addr) (L c K d : Nat) (m : PM) (p n b : Int) (w : World) (HM : Hid (IsMem w (.agg #[.slice A L c, .slice P K d]) m)) (hL : L ≤ 8192) (hK : K < 1000) (hn : n ≤ 9223372036854775807) :
    Calls Try.prog 32 #[.agg #[.slice A L c, .slice P K d], .int .i64 p, .int .i64 n, .int .i64 b] w fun e w' => ∃ A' L' c' P' K' d', e = .returned (.tuple #[.agg #[.slice A' L' c', .slice P' K' d'], .int .i64 (codeF (okB L p n))]) ∧ IsMem w' (.agg #[.slice A' L' c', .slice P' K' d']) (fillF m p n b) ∧ Below w.heap.size w w' := by
  cases ok : okB L p n with
  | false =>
    have okm : okB m.1.length p n = false := by rw [HM.out.len1]; exact ok
    rw [fill_no okm, codeF_no]
    clear okm
    go_enter Try.func32, Try.ntmps32
    go_wp2_with fail
    refine (there_any _ _ _ _ _ _ _ _ _ (by omega) hn).mono ?_
    rw [ok]
    rintro e w1 ⟨rfl, b1⟩
    have F1 := fr_two b1
    have HF := Lib.hid F1
    obtain ⟨q0, q1, _, _⟩ := F1.2.1.use
    obtain ⟨q2, q3, q4, q5⟩ := F1.2.2.use
    clear F1 b1
    go_wp2_with fail
    refine bodyPost_ret (v := .tuple #[.agg #[.slice A L c, .slice P K d], .int .i64 (-9)]) ?_ rfl ?_
    · obtain ⟨r0, r1⟩ := HF.out.2.2.got (.slice A L c) (.slice P K d)
      simp [results, Try.results32, go_sem, r0, r1]
    · exact ⟨_, _, _, _, _, _, rfl, HF.out.mem (HM.out.keep HF.out.bel) _ _, HF.out.put _ _⟩
  | true =>
    have okm : okB m.1.length p n = true := by rw [HM.out.len1]; exact ok
    have hok := (okB_iff _ _ _).1 ok
    rw [fill_yes okm, codeF_yes]
    obtain ⟨k, rfl⟩ := Int.eq_ofNat_of_zero_le (by omega : 0 ≤ n)
    have hk : k ≤ 8192 := by omega
    obtain ⟨x, hx⟩ : ∃ x, lowB b = x := ⟨_, rfl⟩
    have h1 : b % 256 = (x.toNat : Int) := by rw [← hx]; exact (lowB_nat b).symm
    have h2 : IntKind.u8.wrap b = (x.toNat : Int) := by rw [IntKind.wrap_u8]; exact h1
    rw [hx, Int.toNat_natCast]
    have hx2 := x.toNat_lt
    have ok2 : okB m.1.length p ((List.replicate k x).length : Int) = true := by rw [List.length_replicate]; exact okm
    have CW : Hid (∀ (w1 : World) (B : Option Addr) (k' e : Nat), IsMem w1 (.agg #[.slice A L c, .slice P K d]) m → Byt w1 (.slice B k' e) (List.replicate k x) → Calls Try.prog 30 #[.agg #[.slice A L c, .slice P K d], .int .i64 p, .slice B k' e] w1 fun e w' => ∃ A' L' c' P' K' d', e = .returned (.tuple #[.agg #[.slice A' L' c', .slice P' K' d'], .int .i64 0]) ∧ IsMem w' (.agg #[.slice A' L' c', .slice P' K' d']) (writeF m p (List.replicate k x)) ∧ Below w1.heap.size w1 w') := by
      intro w1 B k' e hm hb
      have := write_sl _ _ m (List.replicate k x) p w1 hm hb (by rw [HM.out.len1]; omega) (by rw [HM.out.len2]; exact hK) (by rw [List.length_replicate]; omega)
      rw [ok2, codeF_yes] at this
      exact this
    clear okm ok2 hok hx
    go_enter Try.func32, Try.ntmps32
    go_wp2_with fail
    refine (there_any _ _ _ _ _ _ _ _ _ (by omega) hn).mono ?_
    rw [ok]
    rintro e w1 ⟨rfl, b1⟩
    have F1 := fr_two b1
    have HLn : Hid (Lies (w1.alloc (.cells #[.int .u8 (x.toNat : Int)] 5)).drew (some ⟨w1.heap.size, 0, none⟩) (u8s [x])) := lies_block (t := 5) (one_new w1 _ _)
    clear b1
    go_wp2_with fail
    refine wp_region_noPanic ?_
    go_region_held3 (fun w' => w'.cell? ⟨w.heap.size, 0, none⟩ = some (.slice A L c) ∧ w'.cell? ⟨w.heap.size, 1, none⟩ = some (.slice P K d) ∧ Fw w A P L c K d w') (first | assumption | exact fwS F1.drew | exact fwK (fwS F1) ((Below.refl _ _).alloc (Nat.le_refl _) _).drew | exact fwP (by assumption) _ _ _ _ _ _)
      (first | (go_at_call 57; ((with_reducible refine (repeat_one _ _ x k _ HLn.out hk).mono ?_); rintro e w2 ⟨B, k', e', rfl, hu2, b2⟩; have s2 := fwK (fwK (fwS F1) ((Below.refl _ _).alloc (Nat.le_refl _) _).drew) b2)) | (go_at_call 30; ((with_reducible refine (CW.out _ _ _ _ (HM.out.keep s2.2.2.bel) hu2).mono ?_); rintro e w3 ⟨A', L', c', P', K', d', rfl, hm3, b3⟩; have s3 := fwK s2 b3; obtain ⟨A0, n0, c0, P0, k0, d0, hres⟩ := s3.2.2.res; obtain ⟨q2, q3, q4, q5⟩ := hres.use)))
    all_goals (refine NoPanic.normal ?_)
    all_goals go_wp2
    all_goals refine bodyPost_ret (v := .tuple #[.agg #[.slice A' L' c', .slice P' K' d'], .int .i64 0]) ?_ rfl ?_
    · obtain ⟨r0, r1⟩ := hres.got (.slice A' L' c') (.slice P' K' d')
      simp [results, Try.results32, go_sem, r0, r1]
    · exact ⟨_, _, _, _, _, _, rfl, hm3.row hres (row_put _ _ _ _), (s3.2.2.bel.setCell (by simp) _).setCell (by simp) _⟩
end Go.Proofs.Ytngmkbbeafefaaa
