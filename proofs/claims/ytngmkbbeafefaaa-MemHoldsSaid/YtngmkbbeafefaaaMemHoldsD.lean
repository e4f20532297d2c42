/- MemHolds' ways, joined. -/
import Derived.Test.YtngmkbbeafefaaaMemHoldsA
import Derived.Test.YtngmkbbeafefaaaMemHoldsB
import Derived.Test.YtngmkbbeafefaaaMemHoldsC
namespace Go.Proofs.Ytngmkbbeafefaaa
open Go.RowKit
set_option linter.unusedVariables false
set_option linter.unusedSimpArgs false

theorem holds_walk (A P Ab : Option Addr) (L c K d nb cb : Nat) (m : PM) (bs : List UInt8) (p n o : Int) (w : World) (HM : Hid (IsMem w (.agg #[.slice A L c, .slice P K d]) m)) (HU : Hid (Byt w (.slice Ab nb cb) bs)) (hnb : nb ≤ 9223372036854775807) (hn0 : -9223372036854775808 ≤ n) (hn1 : n ≤ 9223372036854775807) :
    Calls Try.prog 7 #[.agg #[.slice A L c, .slice P K d, .int .i64 p, .int .i64 n, .slice Ab nb cb, .int .i64 o]] w fun e w' => e = .returned (.bool true) ∧ Below w.heap.size w w' := by
  by_cases H0 : (fewB m 600 && rightB m) = false ∨ 200 < nb
  · exact holds_early A P Ab L c K d nb cb m bs p n o w HM HU hnb H0
  have hmay : (fewB m 600 && rightB m) = true := by
    cases h : (fewB m 600 && rightB m) with
    | true => rfl
    | false => exact absurd (.inl h) H0
  have n1 : nb ≤ 200 := by
    rcases Nat.lt_or_ge 200 nb with h | h
    · exact absurd (.inr h) H0
    · exact h
  obtain ⟨hL, hK, _⟩ := may_parts hmay
  have eL := HM.out.len1
  have eK := HM.out.len2
  have eb := HU.out.len
  have hL' : L ≤ 600 := by omega
  have hK' : K ≤ 60 := by omega
  have h1 : decide ((200 : Int) < (nb : Int)) = false := by simp; omega
  have g1 := writeF_len m p bs
  have g0 : (storeF m p n).1.length = m.1.length := by unfold storeF; split; exact writeF_len _ _ _; rfl
  have HXL : Hid ((storeF m p n).1.length = L) := Lib.hid (by omega)
  have HYL : Hid ((writeF m p bs).1.length = L) := Lib.hid (by omega)
  have HBL : Hid (bs.length ≤ 65536) := Lib.hid (by omega)
  have HML : Hid (m.1.length ≤ 65536 ∧ m.2.length < 1000) := Lib.hid (by omega)
  -- where the other byte lies, of what was written
  have hw : okB m.1.length p bs.length = true → bs ≠ [] → (Hid (textF (writeF m p bs) p (nb : Int) = bs) ∧ Hid (codeF (okB L p (nb : Int)) = 0) ∧ 0 ≤ p ∧ p ≤ 600 ∧ ((nb : Int) == 0) = false) := by
    intro ho hb
    have hl : 0 < bs.length := List.length_pos_iff.2 hb
    have hr := okB_nat ho hb
    refine ⟨Lib.hid ?_, Lib.hid ?_, hr.1, by omega, by simp; omega⟩
    · have := text_write m p bs ho hb
      rw [eb] at this
      exact this
    · rw [← eL, ← eb, ho]; rfl
  have hnil : bs = [] → ((nb : Int) == 0) = true ∧ Hid (writeF m p bs = m) := by
    intro h
    subst h
    obtain rfl : nb = 0 := by simpa using eb.symm
    exact ⟨rfl, Lib.hid writeF_nil⟩
  by_cases hC : cellC L p = 0
  · have hCm : cellC m.1.length p = 0 := by rw [eL]; exact hC
    have hs : storeF m p n = writeF m p (cellBytes n) := by unfold storeF; rw [if_pos hCm]
    have ok8 : okB m.1.length p (cellBytes n).length = true := store_ok hCm
    have ne8 : cellBytes n ≠ [] := by intro h; have := congrArg List.length h; rw [cellBytes_len] at this; simp at this
    have l8 : (cellBytes n).length = 8 := cellBytes_len n
    have rg := okB_nat ok8 ne8
    have HFX : Hid (fetchF (storeF m p n) p = n) := Lib.hid (fetch_store m p n hCm hn0 hn1)
    have r1 : 0 ≤ p := rg.1
    have r2 : p ≤ 600 := by omega
    by_cases q1 : o < p
    · have HBX : Hid (byteF (storeF m p n) o = byteF m o) := Lib.hid (by rw [hs]; exact byte_write m p o _ ok8 ne8 (.inl q1))
      cases ho : okB m.1.length p bs.length with
      | false => exact holds_lt_no A P Ab L c K d nb cb m bs p n o w HM HU hnb _ _ _ 0 0 _ hmay h1 hL' hK' (Lib.hid rfl) (Lib.hid rfl) HXL HYL (Lib.hid hC) (Lib.hid (by rw [ho]; rfl)) HBL HML (Lib.hid rfl) (Lib.hid rfl) HFX HBX r1 r2 q1 (Lib.hid (writeF_no ho))
      | true =>
        by_cases hb : bs = []
        · obtain ⟨z0, zm⟩ := hnil hb
          exact holds_lt_nil A P Ab L c K d nb cb m bs p n o w HM HU hnb _ _ _ 0 0 _ hmay h1 hL' hK' (Lib.hid rfl) (Lib.hid rfl) HXL HYL (Lib.hid hC) (Lib.hid (by rw [ho]; rfl)) HBL HML (Lib.hid rfl) (Lib.hid rfl) HFX HBX r1 r2 q1 zm z0
        · obtain ⟨ht, he, z1, z2, z0⟩ := hw ho hb
          exact holds_lt_lt A P Ab L c K d nb cb m bs p n o w HM HU hnb _ _ _ 0 0 _ hmay h1 hL' hK' (Lib.hid rfl) (Lib.hid rfl) HXL HYL (Lib.hid hC) (Lib.hid (by rw [ho]; rfl)) HBL HML (Lib.hid rfl) (Lib.hid rfl) HFX HBX r1 r2 q1 ht he z1 z2 n1 z0 (Lib.hid (byte_write m p o bs ho hb (.inl q1))) (by simp; omega)
    · have q1' : decide (o < p) = false := by simp; omega
      by_cases q2 : p + 8 ≤ o
      · have HBX : Hid (byteF (storeF m p n) o = byteF m o) := Lib.hid (by rw [hs]; exact byte_write m p o _ ok8 ne8 (.inr (by rw [l8]; exact q2)))
        cases ho : okB m.1.length p bs.length with
        | false => exact holds_ge_no A P Ab L c K d nb cb m bs p n o w HM HU hnb _ _ _ 0 0 _ hmay h1 hL' hK' (Lib.hid rfl) (Lib.hid rfl) HXL HYL (Lib.hid hC) (Lib.hid (by rw [ho]; rfl)) HBL HML (Lib.hid rfl) (Lib.hid rfl) HFX HBX r1 r2 q1' q2 (Lib.hid (writeF_no ho))
        | true =>
          by_cases hb : bs = []
          · obtain ⟨z0, zm⟩ := hnil hb
            exact holds_ge_nil A P Ab L c K d nb cb m bs p n o w HM HU hnb _ _ _ 0 0 _ hmay h1 hL' hK' (Lib.hid rfl) (Lib.hid rfl) HXL HYL (Lib.hid hC) (Lib.hid (by rw [ho]; rfl)) HBL HML (Lib.hid rfl) (Lib.hid rfl) HFX HBX r1 r2 q1' q2 zm z0
          · obtain ⟨ht, he, z1, z2, z0⟩ := hw ho hb
            by_cases q3 : o < p + (nb : Int)
            · exact holds_ge_in A P Ab L c K d nb cb m bs p n o w HM HU hnb _ _ _ 0 _ _ hmay h1 hL' hK' (Lib.hid rfl) (Lib.hid rfl) HXL HYL (Lib.hid hC) (Lib.hid (by rw [ho]; rfl)) HBL HML (Lib.hid rfl) (Lib.hid rfl) HFX HBX r1 r2 q1' q2 ht he z1 z2 n1 z0 (Lib.hid rfl) (by omega) q3
            · exact holds_ge_ge A P Ab L c K d nb cb m bs p n o w HM HU hnb _ _ _ 0 0 _ hmay h1 hL' hK' (Lib.hid rfl) (Lib.hid rfl) HXL HYL (Lib.hid hC) (Lib.hid (by rw [ho]; rfl)) HBL HML (Lib.hid rfl) (Lib.hid rfl) HFX HBX r1 r2 q1' q2 ht he z1 z2 n1 z0 (Lib.hid (byte_write m p o bs ho hb (.inr (by rw [eb]; omega)))) (by omega) (by simp; omega)
      · have q2' : decide (p + 8 ≤ o) = false := by simp; omega
        cases ho : okB m.1.length p bs.length with
        | false => exact holds_in_no A P Ab L c K d nb cb m bs p n o w HM HU hnb _ _ _ _ 0 _ hmay h1 hL' hK' (Lib.hid rfl) (Lib.hid rfl) HXL HYL (Lib.hid hC) (Lib.hid (by rw [ho]; rfl)) HBL HML (Lib.hid rfl) (Lib.hid rfl) HFX (Lib.hid rfl) r1 r2 q1' q2' (Lib.hid (writeF_no ho))
        | true =>
          by_cases hb : bs = []
          · obtain ⟨z0, zm⟩ := hnil hb
            exact holds_in_nil A P Ab L c K d nb cb m bs p n o w HM HU hnb _ _ _ _ 0 _ hmay h1 hL' hK' (Lib.hid rfl) (Lib.hid rfl) HXL HYL (Lib.hid hC) (Lib.hid (by rw [ho]; rfl)) HBL HML (Lib.hid rfl) (Lib.hid rfl) HFX (Lib.hid rfl) r1 r2 q1' q2' zm z0
          · obtain ⟨ht, he, z1, z2, z0⟩ := hw ho hb
            by_cases q3 : o < p + (nb : Int)
            · exact holds_in_in A P Ab L c K d nb cb m bs p n o w HM HU hnb _ _ _ _ _ _ hmay h1 hL' hK' (Lib.hid rfl) (Lib.hid rfl) HXL HYL (Lib.hid hC) (Lib.hid (by rw [ho]; rfl)) HBL HML (Lib.hid rfl) (Lib.hid rfl) HFX (Lib.hid rfl) r1 r2 q1' q2' ht he z1 z2 n1 z0 (Lib.hid rfl) (by omega) q3
            · exact holds_in_ge A P Ab L c K d nb cb m bs p n o w HM HU hnb _ _ _ _ 0 _ hmay h1 hL' hK' (Lib.hid rfl) (Lib.hid rfl) HXL HYL (Lib.hid hC) (Lib.hid (by rw [ho]; rfl)) HBL HML (Lib.hid rfl) (Lib.hid rfl) HFX (Lib.hid rfl) r1 r2 q1' q2' ht he z1 z2 n1 z0 (Lib.hid (byte_write m p o bs ho hb (.inr (by rw [eb]; omega)))) (by omega) (by simp; omega)
  · have hC' : (cellC L p == 0) = false := by simpa using hC
    cases ho : okB m.1.length p bs.length with
    | false => exact holds_no_no A P Ab L c K d nb cb m bs p n o w HM HU hnb _ _ _ 0 0 _ _ hmay h1 hL' hK' (Lib.hid rfl) (Lib.hid rfl) HXL HYL (Lib.hid rfl) (Lib.hid (by rw [ho]; rfl)) HBL HML (Lib.hid rfl) (Lib.hid rfl) hC' (Lib.hid (writeF_no ho))
    | true =>
      by_cases hb : bs = []
      · obtain ⟨z0, zm⟩ := hnil hb
        exact holds_no_nil A P Ab L c K d nb cb m bs p n o w HM HU hnb _ _ _ 0 0 _ _ hmay h1 hL' hK' (Lib.hid rfl) (Lib.hid rfl) HXL HYL (Lib.hid rfl) (Lib.hid (by rw [ho]; rfl)) HBL HML (Lib.hid rfl) (Lib.hid rfl) hC' zm z0
      · obtain ⟨ht, he, z1, z2, z0⟩ := hw ho hb
        by_cases q1 : o < p
        · exact holds_no_lt A P Ab L c K d nb cb m bs p n o w HM HU hnb _ _ _ 0 0 _ _ hmay h1 hL' hK' (Lib.hid rfl) (Lib.hid rfl) HXL HYL (Lib.hid rfl) (Lib.hid (by rw [ho]; rfl)) HBL HML (Lib.hid rfl) (Lib.hid rfl) hC' ht he z1 z2 n1 z0 (Lib.hid (byte_write m p o bs ho hb (.inl q1))) (by simp; omega)
        · by_cases q3 : o < p + (nb : Int)
          · exact holds_no_in A P Ab L c K d nb cb m bs p n o w HM HU hnb _ _ _ 0 _ _ _ hmay h1 hL' hK' (Lib.hid rfl) (Lib.hid rfl) HXL HYL (Lib.hid rfl) (Lib.hid (by rw [ho]; rfl)) HBL HML (Lib.hid rfl) (Lib.hid rfl) hC' ht he z1 z2 n1 z0 (Lib.hid rfl) (by omega) q3
          · exact holds_no_ge A P Ab L c K d nb cb m bs p n o w HM HU hnb _ _ _ 0 0 _ _ hmay h1 hL' hK' (Lib.hid rfl) (Lib.hid rfl) HXL HYL (Lib.hid rfl) (Lib.hid (by rw [ho]; rfl)) HBL HML (Lib.hid rfl) (Lib.hid rfl) hC' ht he z1 z2 n1 z0 (Lib.hid (byte_write m p o bs ho hb (.inr (by rw [eb]; omega)))) (by omega) (by simp; omega)
end Go.Proofs.Ytngmkbbeafefaaa
