/- Contracts of bytes.Equal, samePatch, slices.EqualFunc and Same. -/
import Derived.Test.YtngmkbbeafefaaaMemRefI
import Derived.Laws.IdiomStrings
import Derived.Laws.BytesString
namespace Go.Proofs.Ytngmkbbeafefaaa
open Go.RowKit

/-- Bytes as a string. -/
def strB (l : List UInt8) : ByteArray := ⟨l.toArray⟩
theorem strB_inj {a b : List UInt8} (h : strB a = strB b) : a = b := by
  have : a.toArray = b.toArray := congrArg ByteArray.data h
  simpa using this
theorem str_ne {a b : ByteArray} (h : a ≠ b) : (a.toList == b.toList) = false := by
  rw [beq_eq_false_iff_ne]
  intro e
  rw [ByteArray.toList_eq, ByteArray.toList_eq] at e
  apply h
  cases a
  cases b
  congr 1
  exact Array.toList_inj.1 e
theorem Byt.conv {w : World} {A : Option Addr} {n c : Nat} {l : List UInt8} (h : Byt w (.slice A n c) l) : (convert 22 9 (.slice A n c)).run Try.prog w = .ok (.string (strB l)) w := by
  have hl := h.len
  subst hl
  rcases h.lies with e | ⟨g, o, rfl, _, hc⟩
  · have : l = [] := by
      have := congrArg List.length e
      rw [u8s_len] at this
      exact List.eq_nil_of_length_eq_zero this
    subst this
    rw [run_convert_bytes_string w 22 9 5 _ _ _ Try.underlying22 Try.underlying5 Try.underlying9]
    cases A <;> simp [Conv.bytesToString, loadCells, strB]
    all_goals rfl
  · refine run_convert_bytes_back w 22 9 5 ⟨g, o, none⟩ c l Try.underlying22 Try.underlying5 Try.underlying9 fun j hj => ?_
    rw [add_at]
    exact hc j _ (u8s_at hj)

set_option maxRecDepth 100000 in
set_option maxHeartbeats 1000000 in
theorem equal_any (A B : Option Addr) (n c k d : Nat) (l1 l2 : List UInt8) (w : World) (h1 : Byt w (.slice A n c) l1) (h2 : Byt w (.slice B k d) l2) :
    Calls Try.prog 45 #[.slice A n c, .slice B k d] w fun e w' => e = .returned (.bool (decide (l1 = l2))) ∧ w = w' := by
  have c1 := h1.conv
  have c2 := h2.conv
  have HD : Hid (l1 = l2 ↔ strB l1 = strB l2) := ⟨fun h => by rw [h], strB_inj⟩
  clear h1 h2
  by_cases he : l1 = l2
  · subst he
    have HE : Hid (decide (l1 = l1) = true) := by simp [Hid]
    generalize strB l1 = s at c1 c2
    clear HD
    go_enter Try.func45, Try.ntmps45
    go_wp2
    go_ret
    exact ⟨ret_bool HE.out.symm, rfl⟩
  · have HE : Hid (decide (l1 = l2) = false) := decide_eq_false he
    have hne : strB l1 ≠ strB l2 := fun h => he (strB_inj h)
    generalize strB l1 = s1 at c1 hne
    generalize strB l2 = s2 at c2 hne
    have hne' := str_ne hne
    clear HD he hne
    go_enter Try.func45, Try.ntmps45
    go_wp2
    go_ret
    exact ⟨ret_bool HE.out.symm, rfl⟩

set_option maxRecDepth 100000 in
set_option maxHeartbeats 1000000 in
theorem samePatch_any (a b : Int) (A B : Option Addr) (n c k d : Nat) (l1 l2 : List UInt8) (w : World) (h1 : Hid (Byt w (.slice A n c) l1)) (h2 : Hid (Byt w (.slice B k d) l2)) :
    Calls Try.prog 47 #[.agg #[.int .i64 a, .slice A n c], .agg #[.int .i64 b, .slice B k d]] w fun e w' => e = .returned (.bool (decide ((a, l1) = (b, l2)))) ∧ Below w.heap.size w w' := by
  by_cases he : a = b
  · subst he
    have HD : Hid (decide ((a, l1) = (a, l2)) = decide (l1 = l2)) := by simp [Hid]
    rw [HD.out]
    obtain ⟨R, hR⟩ : ∃ R, decide (l1 = l2) = R := ⟨_, rfl⟩
    rw [hR]
    have HR := Lib.hid hR
    clear HD hR
    go_enter Try.func47, Try.ntmps47
    go_wp2_with fail
    have b2 := ((Below.refl w.heap.size w).alloc (Nat.le_refl _) (.cells #[.int .i64 a, .slice A n c] 76)).alloc (by simp) (.cells #[.int .i64 a, .slice B k d] 76)
    refine (equal_any _ _ _ _ _ _ l1 l2 _ (h1.out.keep b2) (h2.out.keep b2)).mono ?_
    rw [HR.out]
    rintro e w1 ⟨rfl, rfl⟩
    have HB := Lib.hid b2
    clear b2
    go_wp2_with fail
    go_ret
    exact ⟨rfl, HB.out⟩
  · have HD : Hid (decide ((a, l1) = (b, l2)) = false) := decide_eq_false (by simp [he])
    have he' : (a == b) = false := by simp [he]
    clear he h1 h2
    go_enter Try.func47, Try.ntmps47
    go_wp2
    go_ret
    exact ⟨ret_bool HD.out.symm, ((Below.refl _ _).alloc (Nat.le_refl _) _).alloc (by simp) _⟩

theorem take_eq_step {α : Type} {a b : List α} {j : Nat} {p q : α} (h : a.take j = b.take j) (hp : a[j]? = some p) (hq : b[j]? = some q) (e : p = q) : a.take (j + 1) = b.take (j + 1) := by
  have h1 := (List.getElem?_eq_some_iff.1 hp)
  have h2 := (List.getElem?_eq_some_iff.1 hq)
  obtain ⟨i1, e1⟩ := h1
  obtain ⟨i2, e2⟩ := h2
  rw [List.take_succ_eq_append_getElem i1, List.take_succ_eq_append_getElem i2, h, e1, e2, e]
theorem pats_len {w : World} {P : Option Addr} {K d : Nat} {ps : List Pt} (h : Pats w (.slice P K d) ps) : ps.length = K ∧ K ≤ maxLen := by
  obtain ⟨_, _, _, e, h1, h2, _⟩ := h
  injection e with _ e _
  omega

set_option maxRecDepth 100000 in
set_option maxHeartbeats 4000000 in
theorem equalFunc_any (P P2 : Option Addr) (K d K2 d2 : Nat) (ps qs : List Pt) (w : World) (h1 : Hid (Pats w (.slice P K d) ps)) (h2 : Hid (Pats w (.slice P2 K2 d2) qs)) :
    Calls Try.prog 46 #[.slice P K d, .slice P2 K2 d2, .func (.func 47) #[] #[]] w fun e w' => e = .returned (.bool (decide (ps = qs))) ∧ Below w.heap.size w w' := by
  have hk1 := (pats_len h1.out).2
  have hk2 := (pats_len h2.out).2
  unfold maxLen at hk1 hk2
  obtain ⟨R, hR⟩ : ∃ R, decide (ps = qs) = R := ⟨_, rfl⟩
  rw [hR]
  have HR := Lib.hid hR
  clear hR
  by_cases hK : K = K2
  · subst hK
    go_enter Try.func46, Try.ntmps46
    go_wp2
    go_loopw [17] (fun i wr => ∃ j : Nat, j ≤ K ∧ i = .int .i64 (j : Int) ∧ Hid (ps.take j = qs.take j) ∧ Below w.heap.size w wr) (fun i _ => K - (intOf i).toNat)
    case atStart => exact ⟨0, Nat.zero_le _, rfl, by simp [Hid], Below.refl _ _⟩
    case round =>
      obtain ⟨j, hj, rfl, hall, hb⟩ := hrel
      by_cases hlt : j < K
      · obtain ⟨g, o, B, n, e, p, rfl, hg, hp, hc1, hc2, hby, hn, hKd⟩ := mem_patch (mem_mk (m := ([], ps)) (byt_nil w) h1.out) hlt
        obtain ⟨g', o', B', n', e', p', rfl, hg', hp', hc1', hc2', hby', hn', hKd'⟩ := mem_patch (mem_mk (m := ([], qs)) (byt_nil w) h2.out) hlt
        have d1 : wr.cell? ⟨g, o + j * 2, none⟩ = some (.int .i64 p.1) := (hb.cell (p := ⟨g, o + j * 2, none⟩) hg).trans hc1
        have d2 : wr.cell? ⟨g, o + j * 2 + 1, none⟩ = some (.slice B n e) := (hb.cell (p := ⟨g, o + j * 2 + 1, none⟩) hg).trans hc2
        have d3 : wr.cell? ⟨g', o' + j * 2, none⟩ = some (.int .i64 p'.1) := (hb.cell (p := ⟨g', o' + j * 2, none⟩) hg').trans hc1'
        have d4 : wr.cell? ⟨g', o' + j * 2 + 1, none⟩ = some (.slice B' n' e') := (hb.cell (p := ⟨g', o' + j * 2 + 1, none⟩) hg').trans hc2'
        have hl1 := Nat.lt_of_lt_of_le hg hb.size
        have hl2 := Nat.lt_of_lt_of_le hg' hb.size
        have HY := Lib.hid hby
        have HY' := Lib.hid hby'
        have HP := Lib.hid hp
        have HP' := Lib.hid hp'
        have HB := Lib.hid hb
        have hji : (j : Int) < (K : Int) := by omega
        clear hby hby' hp hp' hc1 hc2 hc1' hc2' hb
        go_wp2_with fail
        refine (samePatch_any _ _ _ _ _ _ _ _ p.2 p'.2 _ (HY.out.keep ((HB.out.alloc HB.out.size _).alloc (by have := HB.out.size; simp; omega) _)) (HY'.out.keep ((HB.out.alloc HB.out.size _).alloc (by have := HB.out.size; simp; omega) _))).mono ?_
        by_cases hpp : p = p'
        · rw [decide_eq_true (show (p.1, p.2) = (p'.1, p'.2) from hpp)]
          rintro e w2 ⟨rfl, b2⟩
          have HA : Hid (ps.take (j + 1) = qs.take (j + 1)) := take_eq_step hall.out HP.out HP'.out hpp
          have HB2 := Lib.hid (HB.out.trans ((below_two b2).mono HB.out.size))
          clear b2 d1 d2 d3 d4 hpp
          go_wp2_with fail
          go_roundw
          case rel => exact ⟨j + 1, by omega, by go_num, HA.out, HB2.out⟩
          case measure => simp [intOf]; omega
        · rw [decide_eq_false (show ¬ (p.1, p.2) = (p'.1, p'.2) from hpp)]
          rintro e w2 ⟨rfl, b2⟩
          have HA : Hid (R = false) := by
            rw [← HR.out, decide_eq_false_iff_not]
            intro e
            have x1 : ps[j]? = some p := HP.out
            have x2 : qs[j]? = some p' := HP'.out
            rw [e, x2] at x1
            injection x1 with x1
            exact hpp x1.symm
          have HB2 := Lib.hid (HB.out.trans ((below_two b2).mono HB.out.size))
          clear b2 d1 d2 d3 d4 hpp
          go_wp2_with fail
          go_ret
          exact ⟨ret_bool HA.out.symm, HB2.out⟩
      · have hjk : j = K := by omega
        subst hjk
        have HA : Hid (R = true) := by
          have x1 := (pats_len h1.out).1
          have x2 := (pats_len h2.out).1
          have x3 := hall.out
          rw [List.take_of_length_le (by omega), List.take_of_length_le (by omega)] at x3
          rw [← HR.out, decide_eq_true x3]
          rfl
        have HB := Lib.hid hb
        clear hb
        go_wp2
        go_ret
        exact ⟨ret_bool HA.out.symm, HB.out⟩
  · have HA : Hid (R = false) := by
      rw [← HR.out, decide_eq_false_iff_not]
      intro e
      have x1 := (pats_len h1.out).1
      have x2 := (pats_len h2.out).1
      rw [e] at x1
      omega
    have hK' : ((K : Int) != (K2 : Int)) = true := by simp; omega
    clear hK
    go_enter Try.func46, Try.ntmps46
    go_wp2
    go_ret
    exact ⟨ret_bool HA.out.symm, Below.refl _ _⟩
end Go.Proofs.Ytngmkbbeafefaaa
