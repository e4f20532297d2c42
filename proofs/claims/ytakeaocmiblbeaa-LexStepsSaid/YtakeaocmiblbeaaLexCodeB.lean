/- Contracts of strings.IndexByte at any byte, and of lex's Upto. -/
import Derived.Test.YtakeaocmiblbeaaLexCodeA
import Derived.Lib.Bytealg
namespace Go.Proofs.Ytakeaocmiblbeaa
open Go.RowKit
set_option linter.unusedVariables false
set_option linter.unusedSimpArgs false

theorem index_yes {r : List UInt8} {c : UInt8} (h : c ∈ r) : Lib.indexByte r c = ((uptoW r c).length : Int) := by
  induction r with
  | nil => simp at h
  | cons x r ih =>
    unfold Lib.indexByte uptoW
    rw [List.takeWhile_cons]
    by_cases hx : x = c
    · subst hx
      simp [notC]
    · have hr : c ∈ r := by
        rcases List.mem_cons.1 h with e | h
        · exact absurd e.symm hx
        · exact h
      have e := ih hr
      unfold uptoW at e
      rw [if_neg (by simpa using hx), e, if_neg (by simp <;> omega), if_pos (show notC c x = true by unfold notC; simpa using hx)]
      simp
theorem index_no {r : List UInt8} {c : UInt8} (h : ¬ c ∈ r) : Lib.indexByte r c = -1 := by
  induction r with
  | nil => rfl
  | cons x r ih =>
    unfold Lib.indexByte
    have hx : ¬ x = c := fun e => h (by rw [e]; simp)
    rw [if_neg (by simpa using hx), ih (fun hr => h (List.mem_cons_of_mem _ hr))]
    rfl
theorem upto_whole {r : List UInt8} {c : UInt8} (h : ¬ c ∈ r) : uptoW r c = r := by
  induction r with
  | nil => rfl
  | cons x r ih =>
    unfold uptoW
    have e := ih (fun hr => h (List.mem_cons_of_mem _ hr))
    unfold uptoW at e
    rw [List.takeWhile_cons, if_pos (show notC c x = true by unfold notC; simp; exact fun e => h (by rw [e]; simp)), e]
theorem upto_take (r : List UInt8) (c : UInt8) : r.take (uptoW r c).length = uptoW r c := (List.prefix_iff_eq_take.1 (List.takeWhile_prefix _)).symm
theorem upto_lt {r : List UInt8} {c : UInt8} (h : c ∈ r) : (uptoW r c).length < r.length := by
  induction r with
  | nil => simp at h
  | cons x r ih =>
    unfold uptoW
    rw [List.takeWhile_cons]
    by_cases hx : x = c
    · subst hx
      simp [notC]
    · have hr : c ∈ r := by
        rcases List.mem_cons.1 h with e | h
        · exact absurd e.symm hx
        · exact h
      have e := ih hr
      unfold uptoW at e
      rw [if_pos (by unfold notC; simpa using hx)]
      simp
      exact e

theorem ibs_run (l : List UInt8) (c : UInt8) (i : Int) (h : Lib.indexByte l c = i) (w : World) :
    (callFunc 31 #[.string (strB l), .int .u8 (c.toNat : Int)]).run Try.prog w = .ok (.value (.int .i64 i)) w := by
  rw [run_callFunc_extern Try.func31 (by kernel_rfl) (by kernel_rfl) (by kernel_rfl) (e := Extern.BytealgIndexByte.indexByte) (by kernel_rfl)]
  have hc : (c.toNat : Int).toNat.toUInt8 = c := by simp
  have hl : (strB l).data.toList = l := by simp [strB]
  rw [Lib.run_indexByteString, hc, hl, h]
  rfl

set_option maxRecDepth 100000 in
theorem ixl_any (l : List UInt8) (c : UInt8) (i : Int) (w : World) (h : Hid (Lib.indexByte l c = i)) :
    Calls Try.prog 28 #[.string (strB l), .int .u8 (c.toNat : Int)] w fun e w' => e = .returned (.int .i64 i) ∧ w = w' := by
  have hr := ibs_run l c i h.out
  go_enter Try.func28, Try.ntmps28
  go_wp2
  go_ret
  exact ⟨rfl, rfl⟩

set_option maxRecDepth 100000 in
theorem ixs_any (l : List UInt8) (c : UInt8) (i : Int) (w : World) (h : Hid (Lib.indexByte l c = i)) :
    Calls Try.prog 24 #[.string (strB l), .int .u8 (c.toNat : Int)] w fun e w' => e = .returned (.int .i64 i) ∧ w = w' := by
  go_enter Try.func24, Try.ntmps24
  go_wp2_with fail
  refine (ixl_any l c i w h).mono ?_
  rintro e w1 ⟨rfl, rfl⟩
  go_wp2_with fail
  go_ret
  exact ⟨rfl, rfl⟩

set_option maxRecDepth 100000 in
set_option maxHeartbeats 4000000 in
theorem upto_any (l : List UInt8) (p : Int) (c : UInt8) (w : World) (hl : l.length ≤ 100000) : Calls Try.prog 12 #[.string (strB l), .int .i64 p, .int .u8 (c.toNat : Int)] w fun e w' => e = .returned (.tuple #[.string (strB (uptoAt l p c)), .int .i64 (uptoN l p c : Int), .bool (hasC l p c)]) ∧ Below w.heap.size w w' := by
  have hsz : (strB l).size = l.length := rfl
  have hs := startN_le l p
  have HP := Lib.hid (place_any l p w)
  have HK : Hid (startN l p = startN l p) := rfl
  by_cases hc : c ∈ l.drop (startN l p)
  · have HH : Hid (hasC l p c = true) := by show _ = _; unfold hasC; simpa using hc
    have HI := index_yes hc
    have hlt := upto_lt hc
    have HT : Hid (uptoAt l p c = (l.drop (startN l p)).take (uptoW (l.drop (startN l p)) c).length) := (upto_take _ c).symm
    have HQ : Hid (uptoN l p c = startN l p + (uptoW (l.drop (startN l p)) c).length + 1) := by show _ = _; unfold uptoN; rw [if_pos HH.out]; rfl
    rw [List.length_drop] at hlt
    clear hc HK
    obtain ⟨s, es⟩ : ∃ s, startN l p = s := ⟨_, rfl⟩
    rw [es] at hs HP HI hlt HT HQ
    obtain ⟨m, em⟩ : ∃ m, (uptoW (l.drop s) c).length = m := ⟨_, rfl⟩
    rw [em] at HI hlt HT HQ
    have HX := Lib.hid (ixs_any (l.drop s) c _ w HI)
    have hrest : (strB l).extract s l.length = strB (l.drop s) := strB_rest l s
    have hcut := strB_cut l s (s + m)
    rw [Nat.add_sub_cancel_left] at hcut
    have h1 : s + m < l.length := by omega
    have h2 : ((s : Int) + (m : Int)).toNat = s + m := by omega
    have h3 : (s : Int) + (m : Int) ≤ (l.length : Int) := by omega
    have h4 : IntKind.i64.wrap ((s : Int) + (m : Int)) = (s : Int) + (m : Int) := IntWalk.i64_in _ (by omega)
    have h5 : IntKind.i64.wrap ((s : Int) + (m : Int) + 1) = (s : Int) + (m : Int) + 1 := IntWalk.i64_in _ (by omega)
    have h6 : (0 : Int) ≤ (s : Int) + (m : Int) := by omega
    have h7 : (s : Int) ≤ (s : Int) + (m : Int) := by omega
    have h8 : decide ((m : Int) < 0) = false := by simp
    clear es em HI
    go_enter Try.func12, Try.ntmps12
    go_wp2_with fail
    refine (HP.out).mono ?_
    rintro e w1 ⟨rfl, rfl⟩
    go_wp2_with fail
    refine (HX.out).mono ?_
    rintro e w2 ⟨rfl, rfl⟩
    go_wp2_with fail
    go_ret3
    exact ⟨by rw [HT.out, HQ.out, HH.out]; simp, Below.refl _ _⟩
  · have HH : Hid (hasC l p c = false) := by show _ = _; unfold hasC; simpa using hc
    have HI := index_no hc
    have HT : Hid (uptoAt l p c = l.drop (startN l p)) := upto_whole hc
    have HQ : Hid (uptoN l p c = l.length) := by show _ = _; unfold uptoN; rw [if_neg (by simp [HH.out])]
    clear hc HK
    obtain ⟨s, es⟩ : ∃ s, startN l p = s := ⟨_, rfl⟩
    rw [es] at hs HP HI HT
    have HX := Lib.hid (ixs_any (l.drop s) c _ w HI)
    have hrest : (strB l).extract s l.length = strB (l.drop s) := strB_rest l s
    clear es HI
    go_enter Try.func12, Try.ntmps12
    go_wp2_with fail
    refine (HP.out).mono ?_
    rintro e w1 ⟨rfl, rfl⟩
    go_wp2_with fail
    refine (HX.out).mono ?_
    rintro e w2 ⟨rfl, rfl⟩
    go_wp2_with fail
    go_ret3
    exact ⟨by rw [HT.out, HQ.out, HH.out]; rfl, Below.refl _ _⟩
end Go.Proofs.Ytakeaocmiblbeaa
