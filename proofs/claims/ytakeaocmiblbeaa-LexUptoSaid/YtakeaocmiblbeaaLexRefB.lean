/- Contracts of the document's Words, Upper, Alike, Same. -/
import Derived.Test.YtakeaocmiblbeaaLexRefA
namespace Go.Proofs.Ytakeaocmiblbeaa
open Go.RowKit
set_option linter.unusedVariables false
set_option linter.unusedSimpArgs false

/-- What Words answers. -/
abbrev RowOut (ls : List (List UInt8)) (w : World) (e : Ending) (w' : World) : Prop := ∃ A n c, e = .returned (.slice A n c) ∧ Sts w' (.slice A n c) ls ∧ Below w.heap.size w w'

set_option maxRecDepth 100000 in
set_option maxHeartbeats 4000000 in
theorem rwords_any (l : List UInt8) (w : World) (hl : l.length ≤ 100000) : Calls Try.prog 16 #[.string (strB l)] w (RowOut (wordsF l) w) := by
  have HW1 : Hid (∀ w, Calls Try.prog 11 #[.string (strB l), .int .i64 0] w fun e w' => e = .returned (.tuple #[.string (strB (wordW l)), .int .i64 ((l.length - (wordT l).length : Nat) : Int)]) ∧ Below w.heap.size w w') := by
    show ∀ _, _
    intro w
    have := rword_any l 0 w (by omega)
    rw [(word_first l).1, (word_first l).2] at this
    exact this
  have HL : Hid (l.length ≤ 100000) := hl
  have HLN := Lib.hid (words_len l l.length (Nat.le_refl _))
  unfold RowOut
  go_enter Try.func16, Try.ntmps16
  go_wp2_with fail
  refine (HW1.out _).mono ?_
  rintro e w1 ⟨rfl, b1⟩
  have B1 := Lib.hid b1
  clear b1 HW1
  go_wp2_with fail
  go_loopw [3, 4, 5] (fun s3 s4 s5 wr => ∃ (dn : List (List UInt8)) (v : Value) (R : List UInt8), v = s3 ∧ s4 = .string (strB (wordW R)) ∧ s5 = .int .i64 ((l.length - (wordT R).length : Nat) : Int) ∧ Hid (Rem l R) ∧ Hid (wordsF l = dn ++ wordsF R) ∧ Hid (SOwns wr w.heap.size v dn.length dn) ∧ Hid (Below w.heap.size w wr)) (fun _ s4 s5 _ => measW l.length s4 s5)
  case atStart => exact ⟨[], _, l, rfl, rfl, rfl, Lib.hid (Rem.all l), Lib.hid rfl, Lib.hid (sowns_none _ _), B1⟩
  case round =>
    clear B1
    obtain ⟨dn, v, R, hv, rfl, rfl, HR, HE, HO, HB⟩ := hrel
    subst hv
    by_cases hw : wordW R = []
    · have HF : Hid (wordsF l = dn) := by show _ = _; rw [HE.out, wordsF_nil hw, List.append_nil]
      obtain ⟨A, n, c, rfl⟩ := sts_slice HO.out.sts
      have he : strB [] = ⟨#[]⟩ := rfl
      rw [hw, he]
      clear he hw HE
      go_wp2_with fail
      go_ret
      exact ⟨A, n, c, rfl, by rw [HF.out]; exact HO.out.sts, HB.out⟩
    · have hne := str_nil hw
      have hne2 := str_emp hw
      have HM := Lib.hid (measW_step HR.out hw)
      have HW : Hid (∀ w, Calls Try.prog 11 #[.string (strB l), .int .i64 ((l.length - (wordT R).length : Nat) : Int)] w fun e w' => e = .returned (.tuple #[.string (strB (wordW (wordT R))), .int .i64 ((l.length - (wordT (wordT R)).length : Nat) : Int)]) ∧ Below w.heap.size w w') := by
        show ∀ _, _
        intro w
        have := rword_any l ((l.length - (wordT R).length : Nat) : Int) w (by have := HL.out; omega)
        rw [(word_at HR.out.word).1, (word_at HR.out.word).2] at this
        exact this
      have HF : Hid (wordsF l = (dn ++ [wordW R]) ++ wordsF (wordT R)) := by show _ = _; rw [HE.out, wordsF_cons hw]; simp
      have HLD : Hid (dn.length ≤ 100000) := by
        show _ ≤ _
        have h1 := HLN.out
        have h2 := HL.out
        rw [HE.out, List.length_append] at h1
        omega
      have HR2 := Lib.hid HR.out.word
      clear hw HE
      obtain ⟨u, eu⟩ : ∃ u, wordW R = u := ⟨_, rfl⟩
      obtain ⟨R2, eR⟩ : ∃ u, wordT R = u := ⟨_, rfl⟩
      rw [eu] at hne hne2 HF HM
      rw [eR] at HR2 HF HM HW
      simp only [eu, eR]
      obtain ⟨N1, eN1⟩ : ∃ n, l.length - R2.length = n := ⟨_, rfl⟩
      obtain ⟨N2, eN2⟩ : ∃ n, l.length - (wordT R2).length = n := ⟨_, rfl⟩
      have HN2 := Lib.hid eN2
      rw [eN1] at HW HM
      rw [eN2] at HW HM
      simp only [eN1]
      clear eu eR eN1 eN2 HR
      go_wp2_with (at_builtin; (refine wpList_sapp rfl _ _ rfl w.heap.size v dn.length dn rfl (HO.out.alloc _) (some ⟨wr.heap.size, 0, none⟩) 1 1 [u] rfl (sts_newone wr u) (by have := HLD.out; omega) (by have := HB.out.size; simp; omega) w (alloc_then HB.out) (Nat.le_refl _) ?_; intro v2 w4 ho hb2 hgr; have O4 := Lib.hid (sown_app ho); have B4 := Lib.hid hb2; clear ho hb2 hgr))
      refine (HW.out _).mono ?_
      rintro e w5 ⟨rfl, b5⟩
      have O5 := Lib.hid (O4.out.keep b5)
      have B5 := Lib.hid (below_then B4.out b5)
      clear b5 O4 B4
      go_wp2_with fail
      go_roundw
      case rel => exact ⟨dn ++ [u], v2, R2, rfl, rfl, by rw [HN2.out], HR2, HF, O5, B5⟩
      case measure => exact HM.out
end Go.Proofs.Ytakeaocmiblbeaa
