/- MemTwo's ways, joined. -/
import Derived.Test.YtngmkbbeafefaaaMemTwoA
import Derived.Test.YtngmkbbeafefaaaMemTwoYnb0
import Derived.Test.YtngmkbbeafefaaaMemTwoYnc0
import Derived.Test.YtngmkbbeafefaaaMemTwoYge
import Derived.Test.YtngmkbbeafefaaaMemTwoYle
import Derived.Test.YtngmkbbeafefaaaMemTwoYno
namespace Go.Proofs.Ytngmkbbeafefaaa
open Go.RowKit
set_option linter.unusedVariables false
set_option linter.unusedSimpArgs false

theorem two_walk (A P Ab Ac : Option Addr) (L c K d nb cb nc cc : Nat) (m : PM) (bs cs : List UInt8) (p t : Int) (w : World) (HM : Hid (IsMem w (.agg #[.slice A L c, .slice P K d]) m)) (HU : Hid (Byt w (.slice Ab nb cb) bs)) (HV : Hid (Byt w (.slice Ac nc cc) cs)) (hnb : nb ≤ 9223372036854775807) (hnc : nc ≤ 9223372036854775807) (hp0 : -9223372036854775808 ≤ p) (hp1 : p ≤ 9223372036854775807) (ht0 : -9223372036854775808 ≤ t) (ht1 : t ≤ 9223372036854775807) :
    Calls Try.prog 10 #[.agg #[.slice A L c, .slice P K d, .int .i64 p, .int .i64 t, .slice Ab nb cb, .slice Ac nc cc]] w fun e w' => e = .returned (.bool true) ∧ Below w.heap.size w w' := by
  by_cases H0 : (fewB m 600 && rightB m) = false ∨ 100 < nb ∨ 100 < nc
  · exact two_early A P Ab Ac L c K d nb cb nc cc m bs cs p t w HM HU HV hnb hnc H0
  have hmay : (fewB m 600 && rightB m) = true := by
    cases h : (fewB m 600 && rightB m) with
    | true => rfl
    | false => exact absurd (.inl h) H0
  have n1 : nb ≤ 100 := by
    rcases Nat.lt_or_ge 100 nb with h | h
    · exact absurd (.inr (.inl h)) H0
    · exact h
  have n2 : nc ≤ 100 := by
    rcases Nat.lt_or_ge 100 nc with h | h
    · exact absurd (.inr (.inr h)) H0
    · exact h
  obtain ⟨hL, hK, _⟩ := may_parts hmay
  have eL := HM.out.len1
  have eK := HM.out.len2
  have eb := HU.out.len
  have ec := HV.out.len
  have h1 : decide ((100 : Int) < (nb : Int)) = false := by simp; omega
  have h2 : decide ((100 : Int) < (nc : Int)) = false := by simp; omega
  have g1 := writeF_len m p bs
  have g2 := writeF_len m t cs
  have g3 := writeF_len (writeF m p bs) t cs
  have k1 := writeF_pats m p bs
  have k2 := writeF_pats m t cs
  have k3 := writeF_pats (writeF m p bs) t cs
  have HBL : Hid (bs.length ≤ 65536) := Lib.hid (by omega)
  have HCL : Hid (cs.length ≤ 65536) := Lib.hid (by omega)
  have HML : Hid (m.1.length ≤ 65536 ∧ m.2.length < 1000) := Lib.hid (by omega)
  have HML1 : Hid ((writeF m p bs).1.length ≤ 65536 ∧ (writeF m p bs).2.length < 1000) := Lib.hid (by omega)
  have HML2 : Hid ((writeF m t cs).1.length ≤ 65536 ∧ (writeF m t cs).2.length < 1000) := Lib.hid (by omega)
  cases ho1 : okB m.1.length p bs.length with
  | false =>
    cases ho2 : okB m.1.length t cs.length with
    | false => exact two_nn A P Ab Ac L c K d nb cb nc cc m bs cs p t w HM HU HV hnb hnc _ _ _ _ hmay h1 h2 (Lib.hid rfl) (Lib.hid rfl) (Lib.hid rfl) (Lib.hid rfl) (Lib.hid (by rw [ho1]; rfl)) (Lib.hid (by rw [ho2]; rfl)) (Lib.hid (by rw [g1, ho2]; rfl)) (Lib.hid (by rw [g2, ho1]; rfl)) HBL HCL HML HML1 HML2
    | true => exact two_ny A P Ab Ac L c K d nb cb nc cc m bs cs p t w HM HU HV hnb hnc _ _ _ _ hmay h1 h2 (Lib.hid rfl) (Lib.hid rfl) (Lib.hid rfl) (Lib.hid rfl) (Lib.hid (by rw [ho1]; rfl)) (Lib.hid (by rw [ho2]; rfl)) (Lib.hid (by rw [g1, ho2]; rfl)) (Lib.hid (by rw [g2, ho1]; rfl)) HBL HCL HML HML1 HML2
  | true =>
    cases ho2 : okB m.1.length t cs.length with
    | false => exact two_yn A P Ab Ac L c K d nb cb nc cc m bs cs p t w HM HU HV hnb hnc _ _ _ _ hmay h1 h2 (Lib.hid rfl) (Lib.hid rfl) (Lib.hid rfl) (Lib.hid rfl) (Lib.hid (by rw [ho1]; rfl)) (Lib.hid (by rw [ho2]; rfl)) (Lib.hid (by rw [g1, ho2]; rfl)) (Lib.hid (by rw [g2, ho1]; rfl)) HBL HCL HML HML1 HML2
    | true =>
      have hr1 := (okB_iff _ _ _).1 ho1
      have hr2 := (okB_iff _ _ _).1 ho2
      have hsame := two_same m p t bs cs ho1 ho2
      rw [eb, ec] at hsame
      by_cases q1 : nb = 0
      · exact two_yy_nb0 A P Ab Ac L c K d nb cb nc cc m bs cs p t w HM HU HV hnb hnc (writeF m p bs) (writeF (writeF m p bs) t cs) (writeF m t cs) (writeF (writeF m t cs) p bs) hmay h1 h2 (Lib.hid rfl) (Lib.hid rfl) (Lib.hid rfl) (Lib.hid rfl) (Lib.hid (by rw [ho1]; rfl)) (Lib.hid (by rw [ho2]; rfl)) (Lib.hid (by rw [g1, ho2]; rfl)) (Lib.hid (by rw [g2, ho1]; rfl)) HBL HCL HML HML1 HML2 _ hp0 hp1 ht0 ht1 (Lib.hid rfl) (Lib.hid (by rw [g3, g1, ho2]; rfl)) (Lib.hid (by omega)) (Lib.hid (two_again _ t cs (by rw [g1]; exact ho2))) (Lib.hid (hsame (.inl q1))) (by simp [q1])
      by_cases q2 : nc = 0
      · exact two_yy_nc0 A P Ab Ac L c K d nb cb nc cc m bs cs p t w HM HU HV hnb hnc (writeF m p bs) (writeF (writeF m p bs) t cs) (writeF m t cs) (writeF (writeF m t cs) p bs) hmay h1 h2 (Lib.hid rfl) (Lib.hid rfl) (Lib.hid rfl) (Lib.hid rfl) (Lib.hid (by rw [ho1]; rfl)) (Lib.hid (by rw [ho2]; rfl)) (Lib.hid (by rw [g1, ho2]; rfl)) (Lib.hid (by rw [g2, ho1]; rfl)) HBL HCL HML HML1 HML2 _ hp0 hp1 ht0 ht1 (Lib.hid rfl) (Lib.hid (by rw [g3, g1, ho2]; rfl)) (Lib.hid (by omega)) (Lib.hid (two_again _ t cs (by rw [g1]; exact ho2))) (Lib.hid (hsame (.inr (.inl q2)))) (by simp; omega) (by simp [q2])
      by_cases q3 : t + (nc : Int) ≤ p
      · exact two_yy_ge A P Ab Ac L c K d nb cb nc cc m bs cs p t w HM HU HV hnb hnc (writeF m p bs) (writeF (writeF m p bs) t cs) (writeF m t cs) (writeF (writeF m t cs) p bs) hmay h1 h2 (Lib.hid rfl) (Lib.hid rfl) (Lib.hid rfl) (Lib.hid rfl) (Lib.hid (by rw [ho1]; rfl)) (Lib.hid (by rw [ho2]; rfl)) (Lib.hid (by rw [g1, ho2]; rfl)) (Lib.hid (by rw [g2, ho1]; rfl)) HBL HCL HML HML1 HML2 _ hp0 hp1 ht0 ht1 (Lib.hid rfl) (Lib.hid (by rw [g3, g1, ho2]; rfl)) (Lib.hid (by omega)) (Lib.hid (two_again _ t cs (by rw [g1]; exact ho2))) (Lib.hid (hsame (.inr (.inr (.inl q3))))) (by simp; omega) (by simp; omega) (by omega) (by omega) (by omega) (by omega) n1 n2 q3
      by_cases q4 : p + (nb : Int) ≤ t
      · exact two_yy_le A P Ab Ac L c K d nb cb nc cc m bs cs p t w HM HU HV hnb hnc (writeF m p bs) (writeF (writeF m p bs) t cs) (writeF m t cs) (writeF (writeF m t cs) p bs) hmay h1 h2 (Lib.hid rfl) (Lib.hid rfl) (Lib.hid rfl) (Lib.hid rfl) (Lib.hid (by rw [ho1]; rfl)) (Lib.hid (by rw [ho2]; rfl)) (Lib.hid (by rw [g1, ho2]; rfl)) (Lib.hid (by rw [g2, ho1]; rfl)) HBL HCL HML HML1 HML2 _ hp0 hp1 ht0 ht1 (Lib.hid rfl) (Lib.hid (by rw [g3, g1, ho2]; rfl)) (Lib.hid (by omega)) (Lib.hid (two_again _ t cs (by rw [g1]; exact ho2))) (Lib.hid (hsame (.inr (.inr (.inr q4))))) (by simp; omega) (by simp; omega) (by omega) (by omega) (by omega) (by omega) n1 n2 (by simp; omega) q4
      · exact two_yy_no A P Ab Ac L c K d nb cb nc cc m bs cs p t w HM HU HV hnb hnc (writeF m p bs) (writeF (writeF m p bs) t cs) (writeF m t cs) (writeF (writeF m t cs) p bs) hmay h1 h2 (Lib.hid rfl) (Lib.hid rfl) (Lib.hid rfl) (Lib.hid rfl) (Lib.hid (by rw [ho1]; rfl)) (Lib.hid (by rw [ho2]; rfl)) (Lib.hid (by rw [g1, ho2]; rfl)) (Lib.hid (by rw [g2, ho1]; rfl)) HBL HCL HML HML1 HML2 _ hp0 hp1 ht0 ht1 (Lib.hid rfl) (Lib.hid (by rw [g3, g1, ho2]; rfl)) (Lib.hid (by omega)) (Lib.hid (two_again _ t cs (by rw [g1]; exact ho2))) (by simp; omega) (by simp; omega) (by omega) (by omega) (by omega) (by omega) n1 n2 (by simp; omega) (by simp; omega)
end Go.Proofs.Ytngmkbbeafefaaa
