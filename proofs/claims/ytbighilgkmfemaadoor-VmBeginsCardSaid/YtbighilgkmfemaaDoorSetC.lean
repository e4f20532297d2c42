/- What the laws of this stage lean on, part 3: MemRefI, MemSame, NumSpec, NumMath, NumStr, MemSameB, MemRefJ, MemShown, MemUndoesA, BytApp, NumRefB, NumRefC, WordApp, LexSpec, StrApp. -/
import Derived.Test.YtbighilgkmfemaaDoorSetB
import Derived.Laws.IdiomStrings
import Derived.Laws.BytesString
import Derived.Test.YtbighilgkmfemaaDoorSetA
import Derived.ProofKit
import Derived.OpenShut
import Derived.ShutString
import Derived.ChangeOld
import Derived.Below
import Derived.Lib.SmallJoins
import Derived.Deep.Slices
import Derived.Deep.Fields
import Derived.Deep.DeepCutAuto
import Derived.Deep.Cut
import Derived.Deep.QuietTactic

/- The document's own Right and May. -/
namespace Go.Proofs.YtbighilgkmfemaaDoor
open Go.RowKit

theorem rtS {w w1 : World} {A P : Option Addr} {L c K d : Nat} (h : Rt w A P L c K d w1) {g o1 o2 : Nat} {x y : Value} (h1 : w1.cell? ⟨g, o1, none⟩ = some x) (h2 : w1.cell? ⟨g, o2, none⟩ = some y) : w1.drew.cell? ⟨w.heap.size, 0, none⟩ = some (.slice A L c) ∧ w1.drew.cell? ⟨w.heap.size, 1, none⟩ = some (.slice P K d) ∧ w1.drew.cell? ⟨g, o1, none⟩ = some x ∧ w1.drew.cell? ⟨g, o2, none⟩ = some y ∧ Rt w A P L c K d w1.drew :=
  ⟨h.box.use.1, h.box.use.2.1, h1, h2, h.drew⟩
theorem rtK {w w1 w2 : World} {A P : Option Addr} {L c K d : Nat} {g o1 o2 : Nat} {x y : Value} (hg : g < w.heap.size) (h : w1.cell? ⟨w.heap.size, 0, none⟩ = some (.slice A L c) ∧ w1.cell? ⟨w.heap.size, 1, none⟩ = some (.slice P K d) ∧ w1.cell? ⟨g, o1, none⟩ = some x ∧ w1.cell? ⟨g, o2, none⟩ = some y ∧ Rt w A P L c K d w1) (b : Below w1.heap.size w1 w2) : w2.cell? ⟨w.heap.size, 0, none⟩ = some (.slice A L c) ∧ w2.cell? ⟨w.heap.size, 1, none⟩ = some (.slice P K d) ∧ w2.cell? ⟨g, o1, none⟩ = some x ∧ w2.cell? ⟨g, o2, none⟩ = some y ∧ Rt w A P L c K d w2 := by
  obtain ⟨_, _, h1, h2, h3⟩ := h
  have h4 := h3.keep b
  have hl := Nat.lt_of_lt_of_le hg h3.bel.size
  exact ⟨h4.box.use.1, h4.box.use.2.1, (b.cell (p := ⟨g, o1, none⟩) hl).trans h1, (b.cell (p := ⟨g, o2, none⟩) hl).trans h2, h4⟩

set_option maxRecDepth 100000 in
set_option maxHeartbeats 4000000 in
theorem rright_at (A P : Option Addr) (L c K d : Nat) (m : PM) (w : World) (HM : Hid (IsMem w (.agg #[.slice A L c, .slice P K d]) m)) :
    Calls Tryd.prog 30 #[.agg #[.slice A L c, .slice P K d]] w fun e w' => e = .returned (.bool (rightB m)) ∧ Below w.heap.size w w' := by
  have hbig := HM.out.big
  unfold maxLen at hbig
  obtain ⟨hL, hK⟩ := hbig
  have H := Lib.hid (rightB_eq m L HM.out.len1)
  obtain ⟨R, hR⟩ : ∃ R, rightB m = R := ⟨_, rfl⟩
  rw [hR] at H ⊢
  clear hR
  go_enter Tryd.func30, Tryd.ntmps30
  go_wp2
  go_loopw [3] (fun i wr => ∃ j : Nat, j ≤ K ∧ i = .int .i64 (j : Int) ∧ Hid ((m.2.take j).all (rightP L) = true) ∧ Rt w A P L c K d wr) (fun i _ => K - (intOf i).toNat)
  case atStart => exact ⟨0, Nat.zero_le _, rfl, by simp [Hid], rt_new _ _ _ _ _ _ _⟩
  case round =>
    obtain ⟨j, hj, rfl, hall, hrt⟩ := hrel
    by_cases hlt : j < K
    · obtain ⟨g, o, B, n, e, p, rfl, hg, hp, hc1, hc2, hby, hn, hKd⟩ := mem_patch HM.out hlt
      have hd1 : wr.cell? ⟨g, o + j * 2, none⟩ = some (.int .i64 p.1) := (hrt.bel.cell (p := ⟨g, o + j * 2, none⟩) hg).trans hc1
      have hd2 : wr.cell? ⟨g, o + j * 2 + 1, none⟩ = some (.slice B n e) := (hrt.bel.cell (p := ⟨g, o + j * 2 + 1, none⟩) hg).trans hc2
      obtain ⟨q0, q1, _, _⟩ := hrt.box.use
      have hlt1 := hrt.box.lt
      have HP := Lib.hid hp
      have HR : Hid (rightP L p = okB L p.1 n) := by unfold rightP; rw [hby.len]; rfl
      obtain ⟨p1, hp1⟩ : ∃ p1, p.1 = p1 := ⟨_, rfl⟩
      rw [hp1] at hd1 HR
      have CT : Hid (∀ w1, Calls Tryd.prog 66 #[.agg #[.slice A L c, .slice (some ⟨g, o, none⟩) K d], .int .i64 p1, .int .i64 (n : Int)] w1 fun e w' => e = .returned (.bool (okB L p1 n)) ∧ Below w1.heap.size w1 w') := fun w1 => rthere_any _ _ _ _ _ _ _ _ _ (by omega) (by unfold maxLen at hn; omega)
      unfold maxLen at hn
      have hji : (j : Int) < (K : Int) := by omega
      clear hp hby hc1 hc2 hp1
      cases ok : okB L p1 n with
      | true =>
        have HA : Hid ((m.2.take (j + 1)).all (rightP L) = true) := by rw [all_take_step HP.out, hall.out, HR.out, ok]; rfl
        rw [ok] at CT
        go_wp2_with fail
        refine wp_region_noPanic ?_
        go_region_held3 (fun w' => w'.cell? ⟨w.heap.size, 0, none⟩ = some (.slice A L c) ∧ w'.cell? ⟨w.heap.size, 1, none⟩ = some (.slice (some ⟨g, o, none⟩) K d) ∧ w'.cell? ⟨g, o + j * 2, none⟩ = some (.int .i64 p1) ∧ w'.cell? ⟨g, o + j * 2 + 1, none⟩ = some (.slice B n e) ∧ Rt w A (some ⟨g, o, none⟩) L c K d w') (first | assumption | exact rtS hrt hd1 hd2)
          (first | (go_at_call 66; ((with_reducible refine (CT.out _).mono ?_); rintro e w2 ⟨rfl, b2⟩; have s2 := rtK hg (by assumption) b2)))
        all_goals (refine NoPanic.normal ?_)
        have HRT2 := Lib.hid s2.2.2.2.2
        clear s2 b2 q0 q1 hd1 hd2 hrt
        go_wp2
        go_roundw
        case rel => exact ⟨j + 1, by omega, by go_num, HA.out, HRT2.out⟩
        case measure => simp [intOf]; omega
      | false =>
        have HA : Hid (m.2.all (rightP L) = false) := all_no HP.out (by rw [HR.out, ok])
        rw [ok] at CT
        go_wp2_with fail
        refine wp_region_noPanic ?_
        go_region_held3 (fun w' => w'.cell? ⟨w.heap.size, 0, none⟩ = some (.slice A L c) ∧ w'.cell? ⟨w.heap.size, 1, none⟩ = some (.slice (some ⟨g, o, none⟩) K d) ∧ w'.cell? ⟨g, o + j * 2, none⟩ = some (.int .i64 p1) ∧ w'.cell? ⟨g, o + j * 2 + 1, none⟩ = some (.slice B n e) ∧ Rt w A (some ⟨g, o, none⟩) L c K d w') (first | assumption | exact rtS hrt hd1 hd2)
          (first | (go_at_call 66; ((with_reducible refine (CT.out _).mono ?_); rintro e w2 ⟨rfl, b2⟩; have s2 := rtK hg (by assumption) b2)))
        all_goals (refine NoPanic.normal ?_)
        have HRT2 := Lib.hid s2.2.2.2.2
        clear s2 b2 q0 q1 hd1 hd2 hrt
        go_wp2
        go_ret
        exact ⟨ret_bool (by rw [H.out, HA.out]; simp), HRT2.out.bel⟩
    · have hjk : j = K := by omega
      subst hjk
      have hl := HM.out.len2
      have HR : Hid (R = (decide (L ≤ 65536) && decide (L % 8 = 0))) := by
        have := hall.out
        rw [List.take_of_length_le (by omega)] at this
        rw [H.out, this, Bool.and_true]
        rfl
      have HRT := Lib.hid hrt
      obtain ⟨q0, q1, _, _⟩ := hrt.box.use
      clear hl hrt
      by_cases h1 : L ≤ 65536
      · have h1' : (L : Int) ≤ 65536 := by omega
        by_cases h2 : L % 8 = 0
        · have h2' : ((L : Int) % 8 == 0) = true := by simp; omega
          have HE : Hid (R = true) := by rw [HR.out, decide_eq_true h1, decide_eq_true h2]; rfl
          clear h1 h2
          go_wp2
          go_ret
          exact ⟨ret_bool HE.out.symm, HRT.out.bel⟩
        · have h2' : ((L : Int) % 8 == 0) = false := by simp; omega
          have HE : Hid (R = false) := by rw [HR.out, decide_eq_false h2]; simp [Hid]
          clear h1 h2
          go_wp2
          go_ret
          exact ⟨ret_bool HE.out.symm, HRT.out.bel⟩
      · have h1' : decide ((L : Int) ≤ 65536) = false := by simp; omega
        have HE : Hid (R = false) := by rw [HR.out, decide_eq_false h1]; rfl
        clear h1
        go_wp2
        go_ret
        exact ⟨ret_bool HE.out.symm, HRT.out.bel⟩

end Go.Proofs.YtbighilgkmfemaaDoor

/- Contracts of bytes.Equal, samePatch, slices.EqualFunc and Same. -/
namespace Go.Proofs.YtbighilgkmfemaaDoor
open Go.RowKit

/-- Bytes as a string. -/
def strB (l : List UInt8) : ByteArray := ⟨l.toArray⟩
theorem strB_inj {a b : List UInt8} (h : strB a = strB b) : a = b := by
  have : a.toArray = b.toArray := congrArg ByteArray.data h
  simpa using this
theorem str_ne {a b : ByteArray} (h : a ≠ b) : (a.toList == b.toList) = false := by
  rw [beq_eq_false_iff_ne]
  intro e
  rw [ByteArray.toList_eq, ByteArray.toList_eq] at e
  apply h
  cases a
  cases b
  congr 1
  exact Array.toList_inj.1 e
theorem Byt.conv {w : World} {A : Option Addr} {n c : Nat} {l : List UInt8} (h : Byt w (.slice A n c) l) : (convert 25 9 (.slice A n c)).run Tryd.prog w = .ok (.string (strB l)) w := by
  have hl := h.len
  subst hl
  rcases h.lies with e | ⟨g, o, rfl, _, hc⟩
  · have : l = [] := by
      have := congrArg List.length e
      rw [u8s_len] at this
      exact List.eq_nil_of_length_eq_zero this
    subst this
    rw [run_convert_bytes_string w 25 9 5 _ _ _ Tryd.underlying25 Tryd.underlying5 Tryd.underlying9]
    cases A <;> simp [Conv.bytesToString, loadCells, strB]
    all_goals rfl
  · refine run_convert_bytes_back w 25 9 5 ⟨g, o, none⟩ c l Tryd.underlying25 Tryd.underlying5 Tryd.underlying9 fun j hj => ?_
    rw [add_at]
    exact hc j _ (u8s_at hj)

set_option maxRecDepth 100000 in
set_option maxHeartbeats 1000000 in
theorem equal_any (A B : Option Addr) (n c k d : Nat) (l1 l2 : List UInt8) (w : World) (h1 : Byt w (.slice A n c) l1) (h2 : Byt w (.slice B k d) l2) :
    Calls Tryd.prog 44 #[.slice A n c, .slice B k d] w fun e w' => e = .returned (.bool (decide (l1 = l2))) ∧ w = w' := by
  have c1 := h1.conv
  have c2 := h2.conv
  have HD : Hid (l1 = l2 ↔ strB l1 = strB l2) := ⟨fun h => by rw [h], strB_inj⟩
  clear h1 h2
  by_cases he : l1 = l2
  · subst he
    have HE : Hid (decide (l1 = l1) = true) := by simp [Hid]
    generalize strB l1 = s at c1 c2
    clear HD
    go_enter Tryd.func44, Tryd.ntmps44
    go_wp2
    go_ret
    exact ⟨ret_bool HE.out.symm, rfl⟩
  · have HE : Hid (decide (l1 = l2) = false) := decide_eq_false he
    have hne : strB l1 ≠ strB l2 := fun h => he (strB_inj h)
    generalize strB l1 = s1 at c1 hne
    generalize strB l2 = s2 at c2 hne
    have hne' := str_ne hne
    clear HD he hne
    go_enter Tryd.func44, Tryd.ntmps44
    go_wp2
    go_ret
    exact ⟨ret_bool HE.out.symm, rfl⟩

set_option maxRecDepth 100000 in
set_option maxHeartbeats 1000000 in
theorem samePatch_any (a b : Int) (A B : Option Addr) (n c k d : Nat) (l1 l2 : List UInt8) (w : World) (h1 : Hid (Byt w (.slice A n c) l1)) (h2 : Hid (Byt w (.slice B k d) l2)) :
    Calls Tryd.prog 72 #[.agg #[.int .i64 a, .slice A n c], .agg #[.int .i64 b, .slice B k d]] w fun e w' => e = .returned (.bool (decide ((a, l1) = (b, l2)))) ∧ Below w.heap.size w w' := by
  by_cases he : a = b
  · subst he
    have HD : Hid (decide ((a, l1) = (a, l2)) = decide (l1 = l2)) := by simp [Hid]
    rw [HD.out]
    obtain ⟨R, hR⟩ : ∃ R, decide (l1 = l2) = R := ⟨_, rfl⟩
    rw [hR]
    have HR := Lib.hid hR
    clear HD hR
    go_enter Tryd.func72, Tryd.ntmps72
    go_wp2_with fail
    have b2 := ((Below.refl w.heap.size w).alloc (Nat.le_refl _) (.cells #[.int .i64 a, .slice A n c] 117)).alloc (by simp) (.cells #[.int .i64 a, .slice B k d] 117)
    refine (equal_any _ _ _ _ _ _ l1 l2 _ (h1.out.keep b2) (h2.out.keep b2)).mono ?_
    rw [HR.out]
    rintro e w1 ⟨rfl, rfl⟩
    have HB := Lib.hid b2
    clear b2
    go_wp2_with fail
    go_ret
    exact ⟨rfl, HB.out⟩
  · have HD : Hid (decide ((a, l1) = (b, l2)) = false) := decide_eq_false (by simp [he])
    have he' : (a == b) = false := by simp [he]
    clear he h1 h2
    go_enter Tryd.func72, Tryd.ntmps72
    go_wp2
    go_ret
    exact ⟨ret_bool HD.out.symm, ((Below.refl _ _).alloc (Nat.le_refl _) _).alloc (by simp) _⟩

theorem take_eq_step {α : Type} {a b : List α} {j : Nat} {p q : α} (h : a.take j = b.take j) (hp : a[j]? = some p) (hq : b[j]? = some q) (e : p = q) : a.take (j + 1) = b.take (j + 1) := by
  have h1 := (List.getElem?_eq_some_iff.1 hp)
  have h2 := (List.getElem?_eq_some_iff.1 hq)
  obtain ⟨i1, e1⟩ := h1
  obtain ⟨i2, e2⟩ := h2
  rw [List.take_succ_eq_append_getElem i1, List.take_succ_eq_append_getElem i2, h, e1, e2, e]
theorem pats_len {w : World} {P : Option Addr} {K d : Nat} {ps : List Pt} (h : Pats w (.slice P K d) ps) : ps.length = K ∧ K ≤ maxLen := by
  obtain ⟨_, _, _, e, h1, h2, _⟩ := h
  injection e with _ e _
  omega

set_option maxRecDepth 100000 in
set_option maxHeartbeats 4000000 in
theorem equalFunc_any (P P2 : Option Addr) (K d K2 d2 : Nat) (ps qs : List Pt) (w : World) (h1 : Hid (Pats w (.slice P K d) ps)) (h2 : Hid (Pats w (.slice P2 K2 d2) qs)) :
    Calls Tryd.prog 71 #[.slice P K d, .slice P2 K2 d2, .func (.func 72) #[] #[]] w fun e w' => e = .returned (.bool (decide (ps = qs))) ∧ Below w.heap.size w w' := by
  have hk1 := (pats_len h1.out).2
  have hk2 := (pats_len h2.out).2
  unfold maxLen at hk1 hk2
  obtain ⟨R, hR⟩ : ∃ R, decide (ps = qs) = R := ⟨_, rfl⟩
  rw [hR]
  have HR := Lib.hid hR
  clear hR
  by_cases hK : K = K2
  · subst hK
    go_enter Tryd.func71, Tryd.ntmps71
    go_wp2
    go_loopw [17] (fun i wr => ∃ j : Nat, j ≤ K ∧ i = .int .i64 (j : Int) ∧ Hid (ps.take j = qs.take j) ∧ Below w.heap.size w wr) (fun i _ => K - (intOf i).toNat)
    case atStart => exact ⟨0, Nat.zero_le _, rfl, by simp [Hid], Below.refl _ _⟩
    case round =>
      obtain ⟨j, hj, rfl, hall, hb⟩ := hrel
      by_cases hlt : j < K
      · obtain ⟨g, o, B, n, e, p, rfl, hg, hp, hc1, hc2, hby, hn, hKd⟩ := mem_patch (mem_mk (m := ([], ps)) (byt_nil w) h1.out) hlt
        obtain ⟨g', o', B', n', e', p', rfl, hg', hp', hc1', hc2', hby', hn', hKd'⟩ := mem_patch (mem_mk (m := ([], qs)) (byt_nil w) h2.out) hlt
        have d1 : wr.cell? ⟨g, o + j * 2, none⟩ = some (.int .i64 p.1) := (hb.cell (p := ⟨g, o + j * 2, none⟩) hg).trans hc1
        have d2 : wr.cell? ⟨g, o + j * 2 + 1, none⟩ = some (.slice B n e) := (hb.cell (p := ⟨g, o + j * 2 + 1, none⟩) hg).trans hc2
        have d3 : wr.cell? ⟨g', o' + j * 2, none⟩ = some (.int .i64 p'.1) := (hb.cell (p := ⟨g', o' + j * 2, none⟩) hg').trans hc1'
        have d4 : wr.cell? ⟨g', o' + j * 2 + 1, none⟩ = some (.slice B' n' e') := (hb.cell (p := ⟨g', o' + j * 2 + 1, none⟩) hg').trans hc2'
        have hl1 := Nat.lt_of_lt_of_le hg hb.size
        have hl2 := Nat.lt_of_lt_of_le hg' hb.size
        have HY := Lib.hid hby
        have HY' := Lib.hid hby'
        have HP := Lib.hid hp
        have HP' := Lib.hid hp'
        have HB := Lib.hid hb
        have hji : (j : Int) < (K : Int) := by omega
        clear hby hby' hp hp' hc1 hc2 hc1' hc2' hb
        go_wp2_with fail
        refine (samePatch_any _ _ _ _ _ _ _ _ p.2 p'.2 _ (HY.out.keep ((HB.out.alloc HB.out.size _).alloc (by have := HB.out.size; simp; omega) _)) (HY'.out.keep ((HB.out.alloc HB.out.size _).alloc (by have := HB.out.size; simp; omega) _))).mono ?_
        by_cases hpp : p = p'
        · rw [decide_eq_true (show (p.1, p.2) = (p'.1, p'.2) from hpp)]
          rintro e w2 ⟨rfl, b2⟩
          have HA : Hid (ps.take (j + 1) = qs.take (j + 1)) := take_eq_step hall.out HP.out HP'.out hpp
          have HB2 := Lib.hid (HB.out.trans ((below_two b2).mono HB.out.size))
          clear b2 d1 d2 d3 d4 hpp
          go_wp2_with fail
          go_roundw
          case rel => exact ⟨j + 1, by omega, by go_num, HA.out, HB2.out⟩
          case measure => simp [intOf]; omega
        · rw [decide_eq_false (show ¬ (p.1, p.2) = (p'.1, p'.2) from hpp)]
          rintro e w2 ⟨rfl, b2⟩
          have HA : Hid (R = false) := by
            rw [← HR.out, decide_eq_false_iff_not]
            intro e
            have x1 : ps[j]? = some p := HP.out
            have x2 : qs[j]? = some p' := HP'.out
            rw [e, x2] at x1
            injection x1 with x1
            exact hpp x1.symm
          have HB2 := Lib.hid (HB.out.trans ((below_two b2).mono HB.out.size))
          clear b2 d1 d2 d3 d4 hpp
          go_wp2_with fail
          go_ret
          exact ⟨ret_bool HA.out.symm, HB2.out⟩
      · have hjk : j = K := by omega
        subst hjk
        have HA : Hid (R = true) := by
          have x1 := (pats_len h1.out).1
          have x2 := (pats_len h2.out).1
          have x3 := hall.out
          rw [List.take_of_length_le (by omega), List.take_of_length_le (by omega)] at x3
          rw [← HR.out, decide_eq_true x3]
          rfl
        have HB := Lib.hid hb
        clear hb
        go_wp2
        go_ret
        exact ⟨ret_bool HA.out.symm, HB.out⟩
  · have HA : Hid (R = false) := by
      rw [← HR.out, decide_eq_false_iff_not]
      intro e
      have x1 := (pats_len h1.out).1
      have x2 := (pats_len h2.out).1
      rw [e] at x1
      omega
    have hK' : ((K : Int) != (K2 : Int)) = true := by simp; omega
    clear hK
    go_enter Tryd.func71, Tryd.ntmps71
    go_wp2
    go_ret
    exact ⟨ret_bool HA.out.symm, Below.refl _ _⟩
end Go.Proofs.YtbighilgkmfemaaDoor

/- What the calls of package num answer, as plain functions, by the document's own words. -/
namespace Go.Proofs.YtbighilgkmfemaaDoor
open Go.RowKit
set_option linter.unusedVariables false
set_option linter.unusedSimpArgs false

/-- A digit's sign. -/
def digN (n : Nat) : Nat := if n ≤ 9 then 48 + n else if n ≤ 35 then 55 + n else 63
def baseB (b : Int) : Bool := decide (2 ≤ b ∧ b ≤ 36)
theorem baseB_iff (b : Int) : baseB b = true ↔ (2 ≤ b ∧ b ≤ 36) := by unfold baseB; simp
/-- A number in digits. -/
def usF (b u : Nat) : List UInt8 :=
  if h : 2 ≤ b ∧ b ≤ u then usF b (u / b) ++ [UInt8.ofNat (digN (u % b))] else [UInt8.ofNat (digN u)]
termination_by u
decreasing_by exact Nat.div_lt_self (by omega) (by omega)
theorem usF_big {b u : Nat} (h2 : 2 ≤ b) (h : b ≤ u) : usF b u = usF b (u / b) ++ [UInt8.ofNat (digN (u % b))] := by
  rw [usF, dif_pos ⟨h2, h⟩]
theorem usF_low {b u : Nat} (h : u < b) : usF b u = [UInt8.ofNat (digN u)] := by
  rw [usF, dif_neg (by omega)]
end Go.Proofs.YtbighilgkmfemaaDoor

/- Plain facts on numbers as texts: what is shown is read. -/
namespace Go.Proofs.YtbighilgkmfemaaDoor
open Go.RowKit
set_option linter.unusedVariables false
set_option linter.unusedSimpArgs false

theorem w64_id {n : Int} (h0 : -9223372036854775808 ≤ n) (h1 : n ≤ 9223372036854775807) : wrap64 n = n := IntWalk.wrap64_in n ⟨h0, h1⟩
theorem us_ne {b u : Nat} : usF b u ≠ [] := by
  rw [usF]
  split <;> simp
end Go.Proofs.YtbighilgkmfemaaDoor

/- Texts as values: their bytes, one by one, and put together. -/
namespace Go.Proofs.YtbighilgkmfemaaDoor
open Go.RowKit
set_option linter.unusedVariables false
set_option linter.unusedSimpArgs false

theorem strB_size (l : List UInt8) : (strB l).size = l.length := rfl
theorem strB_app (a b : List UInt8) : strB a ++ strB b = strB (a ++ b) := by
  apply ByteArray.ext
  simp [strB, ByteArray.data_append]
theorem run_ix (l : List UInt8) (i : Nat) (h : i < l.length) (w : World) :
    (Instr.index 9 (.string (strB l)) (.int .i64 (i : Int))).run Tryd.prog w = .ok (.int .u8 ((l[i]).toNat : Int)) w := by
  have e : (strB l)[i]? = some l[i] := by
    have hs : i < (strB l).size := h
    rw [getElem?_pos (strB l) i hs]
    rfl
  simp [Instr.index, run_underlying Tryd.underlying9, asIntOf, e]
theorem one_newN (w1 : World) (b : Array Value) (t : TypeId) : (w1.alloc (.cells b t)).heap[w1.heap.size]? = some (.cells b t (0, 0)) := by
  show (w1.heap.push _)[w1.heap.size]? = _
  exact Array.getElem?_push_size
theorem conv_one (x : UInt8) (w : World) : (convert 25 9 (.slice (some ⟨w.heap.size, 0, none⟩) 1 1)).run Tryd.prog (w.alloc (.cells #[.int .u8 (x.toNat : Int)] 5)) = .ok (.string (strB [x])) (w.alloc (.cells #[.int .u8 (x.toNat : Int)] 5)) := by
  refine run_convert_bytes_back (w.alloc (.cells #[.int .u8 (x.toNat : Int)] 5)) 25 9 5 ⟨w.heap.size, 0, none⟩ 1 [x] Tryd.underlying25 Tryd.underlying5 Tryd.underlying9 fun j hj => ?_
  have h0 : j = 0 := by simp at hj; omega
  subst h0
  have h := one_newN w #[.int .u8 (x.toNat : Int)] 5
  rw [show (⟨w.heap.size, 0, none⟩ : Addr).add 0 = ⟨w.heap.size, 0, none⟩ from by simp [Addr.add]]
  unfold World.cell?
  rw [h]
  rfl
end Go.Proofs.YtbighilgkmfemaaDoor

/- Contracts of Same, of package mem and of the document. -/
namespace Go.Proofs.YtbighilgkmfemaaDoor
open Go.RowKit

/-- A frame with two memories in two blocks. -/
def R2 (w : World) (A P A' P' : Option Addr) (L c K d L' c' K' d' : Nat) (w' : World) : Prop := Below w.heap.size w w' ∧ Box w' w.heap.size (.slice A L c) (.slice P K d) 28 ∧ Box w' (w.heap.size + 1) (.slice A' L' c') (.slice P' K' d') 28
theorem R2.bel {w w1 : World} {A P A' P' : Option Addr} {L c K d L' c' K' d' : Nat} (h : R2 w A P A' P' L c K d L' c' K' d' w1) : Below w.heap.size w w1 := h.1
theorem R2.one {w w1 : World} {A P A' P' : Option Addr} {L c K d L' c' K' d' : Nat} (h : R2 w A P A' P' L c K d L' c' K' d' w1) : Box w1 w.heap.size (.slice A L c) (.slice P K d) 28 := h.2.1
theorem R2.two {w w1 : World} {A P A' P' : Option Addr} {L c K d L' c' K' d' : Nat} (h : R2 w A P A' P' L c K d L' c' K' d' w1) : Box w1 (w.heap.size + 1) (.slice A' L' c') (.slice P' K' d') 28 := h.2.2
theorem R2.keep {w w1 w2 : World} {A P A' P' : Option Addr} {L c K d L' c' K' d' : Nat} (h : R2 w A P A' P' L c K d L' c' K' d' w1) (b : Below w1.heap.size w1 w2) : R2 w A P A' P' L c K d L' c' K' d' w2 := ⟨below_then h.1 b, h.2.1.keep b, h.2.2.keep b⟩
theorem r2_new (w : World) (A P A' P' : Option Addr) (L c K d L' c' K' d' : Nat) : R2 w A P A' P' L c K d L' c' K' d' ((w.alloc (.cells #[.slice A L c, .slice P K d] 28)).alloc (.cells #[.slice A' L' c', .slice P' K' d'] 28)) :=
  ⟨((Below.refl _ _).alloc (Nat.le_refl _) _).alloc (by simp) _, (box_two w _ _ _ _ _ _).1, (box_two w _ _ _ _ _ _).2⟩

theorem pm_eq (m o : PM) : decide (m = o) = (decide (m.1 = o.1) && decide (m.2 = o.2)) := by
  obtain ⟨a, b⟩ := m
  obtain ⟨c, d⟩ := o
  rw [← Bool.decide_and]
  simp

set_option maxRecDepth 100000 in
set_option maxHeartbeats 2000000 in
theorem same_at (A P A' P' : Option Addr) (L c K d L' c' K' d' : Nat) (m o : PM) (w : World) (HM : Hid (IsMem w (.agg #[.slice A L c, .slice P K d]) m)) (HO : Hid (IsMem w (.agg #[.slice A' L' c', .slice P' K' d']) o)) :
    Calls Tryd.prog 39 #[.agg #[.slice A L c, .slice P K d], .agg #[.slice A' L' c', .slice P' K' d']] w fun e w' => e = .returned (.bool (decide (m = o))) ∧ Below w.heap.size w w' := by
  have R0 := Lib.hid (r2_new w A P A' P' L c K d L' c' K' d')
  cases h1 : decide (m.1 = o.1) with
  | false =>
    have HD : Hid (decide (m = o) = false) := by rw [pm_eq, h1]; rfl
    go_enter Tryd.func39, Tryd.ntmps39
    go_wp2_with fail
    refine (equal_any _ _ _ _ _ _ m.1 o.1 _ (HM.out.keep R0.out.bel).byt (HO.out.keep R0.out.bel).byt).mono ?_
    rw [h1]
    rintro e w1 ⟨rfl, rfl⟩
    go_wp2_with fail
    go_ret
    exact ⟨ret_bool HD.out.symm, R0.out.bel⟩
  | true =>
    obtain ⟨R, hR⟩ : ∃ R, decide (m.2 = o.2) = R := ⟨_, rfl⟩
    have HD : Hid (decide (m = o) = R) := by rw [pm_eq, h1, hR]; rfl
    have HR := Lib.hid hR
    clear hR
    go_enter Tryd.func39, Tryd.ntmps39
    go_wp2_with fail
    refine (equal_any _ _ _ _ _ _ m.1 o.1 _ (HM.out.keep R0.out.bel).byt (HO.out.keep R0.out.bel).byt).mono ?_
    rw [h1]
    rintro e w1 ⟨rfl, rfl⟩
    go_wp2_with fail
    refine (equalFunc_any _ _ _ _ _ _ m.2 o.2 _ (HM.out.keep R0.out.bel).pats (HO.out.keep R0.out.bel).pats).mono ?_
    rw [HR.out]
    rintro e w2 ⟨rfl, b2⟩
    have R1 := Lib.hid (R0.out.keep b2)
    clear b2
    go_wp2_with fail
    go_ret
    exact ⟨ret_bool HD.out.symm, R1.out.bel⟩
end Go.Proofs.YtbighilgkmfemaaDoor

/- The document's own Same. -/
namespace Go.Proofs.YtbighilgkmfemaaDoor
open Go.RowKit

theorem R2.drewN {w w1 : World} {A P A' P' : Option Addr} {L c K d L' c' K' d' : Nat} (h : R2 w A P A' P' L c K d L' c' K' d' w1) (i : Nat) : R2 w A P A' P' L c K d L' c' K' d' (w1.drewN i) := ⟨h.1.trans (Go.Joins.below_draws _ _ _), h.2.1, h.2.2⟩
theorem Byt.drewN {w : World} {v : Value} {l : List UInt8} (h : Byt w v l) (i : Nat) : Byt (w.drewN i) v l := h

end Go.Proofs.YtbighilgkmfemaaDoor

/- The head of all statements of layer 3: the document's examples come out. -/
namespace Go.Proofs.YtbighilgkmfemaaDoor
open Go.RowKit

def sm : PM := newF 16
def sx : PM := storeF sm 8 258
theorem s1 : newC 16 = 0 := by decide +kernel
theorem s2 : sm.1.length = 16 ∧ sm.2.length = 0 ∧ sx.1.length = 16 ∧ sx.2.length = 1 := by decide +kernel
theorem s3 : cellC 16 8 = 0 ∧ cellC 16 9 = -9 ∧ cellC 16 4 = -23 := by decide +kernel
theorem s4 : fetchF sx 8 = 258 := by decide +kernel
theorem s5 : backC sx 0 = 0 ∧ backF sx 0 = sm := by decide +kernel
theorem s6 : codeF (okB 16 8 2) = 0 ∧ textF sx 8 2 = [2, 1] ∧ codeF (okB 16 8 1) = 0 ∧ byteF sx 8 = 2 := by decide +kernel
theorem s7 : rightB sx = true ∧ rightB ([1], []) = false ∧ decide (sm = sm) = true ∧ decide (sx = sm) = false := by decide +kernel

/-- A memory lies in a block of its own. -/
def At (b : Nat) (A P : Option Addr) (L c K d : Nat) (m : PM) (w : World) : Prop := Box w b (.slice A L c) (.slice P K d) 28 ∧ IsMem w (.agg #[.slice A L c, .slice P K d]) m
theorem At.keep {b : Nat} {A P : Option Addr} {L c K d : Nat} {m : PM} {w w' : World} (h : At b A P L c K d m w) (k : Below w.heap.size w w') : At b A P L c K d m w' := ⟨h.1.keep k, h.2.keep k⟩
theorem At.mem {b : Nat} {A P : Option Addr} {L c K d : Nat} {m : PM} {w : World} (h : At b A P L c K d m w) : IsMem w (.agg #[.slice A L c, .slice P K d]) m := h.2
theorem At.use {b : Nat} {A P : Option Addr} {L c K d : Nat} {m : PM} {w : World} (h : At b A P L c K d m w) : w.cell? ⟨b, 0, none⟩ = some (.slice A L c) ∧ w.cell? ⟨b, 1, none⟩ = some (.slice P K d) := ⟨h.1.use.1, h.1.use.2.1⟩
theorem At.lt {b : Nat} {A P : Option Addr} {L c K d : Nat} {m : PM} {w : World} (h : At b A P L c K d m w) : b < w.heap.size := h.1.lt
theorem al_one (w : World) (o : Obj) : Below w.heap.size w (w.alloc o) := (Below.refl _ _).alloc (Nat.le_refl _) o
end Go.Proofs.YtbighilgkmfemaaDoor

/- The walk of MemUndoes. -/
namespace Go.Proofs.YtbighilgkmfemaaDoor
open Go.RowKit

/-- Three memories in three blocks. -/
def Z3 (w : World) (b1 b2 b3 : Nat) (A P A2 P2 A3 P3 : Option Addr) (L c K d L2 c2 K2 d2 L3 c3 K3 d3 : Nat) (m x y : PM) (w' : World) : Prop := Below w.heap.size w w' ∧ At b1 A P L c K d m w' ∧ At b2 A2 P2 L2 c2 K2 d2 x w' ∧ At b3 A3 P3 L3 c3 K3 d3 y w'
section
variable {w w1 w2 : World} {b1 b2 b3 : Nat} {A P A2 P2 A3 P3 : Option Addr} {L c K d L2 c2 K2 d2 L3 c3 K3 d3 : Nat} {m x y : PM}
theorem Z3.keep (h : Z3 w b1 b2 b3 A P A2 P2 A3 P3 L c K d L2 c2 K2 d2 L3 c3 K3 d3 m x y w1) (b : Below w1.heap.size w1 w2) : Z3 w b1 b2 b3 A P A2 P2 A3 P3 L c K d L2 c2 K2 d2 L3 c3 K3 d3 m x y w2 := ⟨below_then h.1 b, h.2.1.keep b, h.2.2.1.keep b, h.2.2.2.keep b⟩
theorem Z3.drew (h : Z3 w b1 b2 b3 A P A2 P2 A3 P3 L c K d L2 c2 K2 d2 L3 c3 K3 d3 m x y w1) : Z3 w b1 b2 b3 A P A2 P2 A3 P3 L c K d L2 c2 K2 d2 L3 c3 K3 d3 m x y w1.drew := ⟨h.1.drew, h.2.1, h.2.2.1, h.2.2.2⟩
theorem Z3.bel (h : Z3 w b1 b2 b3 A P A2 P2 A3 P3 L c K d L2 c2 K2 d2 L3 c3 K3 d3 m x y w1) : Below w.heap.size w w1 := h.1
theorem Z3.one (h : Z3 w b1 b2 b3 A P A2 P2 A3 P3 L c K d L2 c2 K2 d2 L3 c3 K3 d3 m x y w1) : IsMem w1 (.agg #[.slice A L c, .slice P K d]) m := h.2.1.mem
theorem Z3.two (h : Z3 w b1 b2 b3 A P A2 P2 A3 P3 L c K d L2 c2 K2 d2 L3 c3 K3 d3 m x y w1) : IsMem w1 (.agg #[.slice A2 L2 c2, .slice P2 K2 d2]) x := h.2.2.1.mem
theorem Z3.three (h : Z3 w b1 b2 b3 A P A2 P2 A3 P3 L c K d L2 c2 K2 d2 L3 c3 K3 d3 m x y w1) : IsMem w1 (.agg #[.slice A3 L3 c3, .slice P3 K3 d3]) y := h.2.2.2.mem
theorem Z3.free (h : Z3 w b1 b2 b3 A P A2 P2 A3 P3 L c K d L2 c2 K2 d2 L3 c3 K3 d3 m x y w1) : IsMem w1 (.agg #[.slice A L c, .slice none 0 0]) (m.1, []) := mem_mk h.2.1.mem.byt (pats_nil _)
end

end Go.Proofs.YtbighilgkmfemaaDoor

/- append of bytes to a row that the call made, in a list of operations and in a region that draws its order. -/
namespace Go.Proofs.YtbighilgkmfemaaDoor
open Go.RowKit
set_option linter.unusedVariables false
set_option linter.unusedSimpArgs false

/-- A value that owns a row of bytes. -/
abbrev BOwns (w : World) (base : Nat) (v : Value) (n : Nat) (l : List UInt8) : Prop := w.ownsRow base 5 1 v n (u8s l)
theorem BOwns.byt {w : World} {base n : Nat} {v : Value} {l : List UInt8} (h : BOwns w base v n l) : Byt w v l := own_byt h
theorem BOwns.len {w : World} {base n : Nat} {v : Value} {l : List UInt8} (h : BOwns w base v n l) : l.length = n := by
  have hl := h.1
  rw [u8s_len, Nat.mul_one] at hl
  exact hl
theorem BOwns.alloc {w : World} {base n : Nat} {v : Value} {l : List UInt8} (h : BOwns w base v n l) (o : Obj) : BOwns (w.alloc o) base v n l := World.ownsRow.alloc h o
set_option maxRecDepth 100000 in
/-- append of a row of bytes to one that the call owns. -/
theorem run_bapp {w : World} (ty : TypeId) {base n : Nat} {v : Value} {xs : List UInt8} (hown : BOwns w base v n xs) {A : Option Addr} {m c : Nat} {ys : List UInt8} (hr : Byt w (.slice A m c) ys) (h63 : n + m ≤ 1000000) (hbase : base ≤ w.heap.size) :
    ∃ v' w', (Builtin.append_ #[25, 25] ty #[v, .slice A m c]).run Tryd.prog w = .ok v' w' ∧ BOwns w' base v' (n + m) (xs ++ ys) ∧ w.grownBy w' v.ownBlock := by
  obtain ⟨i0, hi, hz0, hz1, hz2⟩ := info_parts info_u8
  have h1 := hr.len
  have h4 := hr.lies
  cases A with
  | some ad =>
    have hsrc : ∀ j u, (u8s ys)[j]? = some u → w.cell? (ad.add j) = some u := by
      intro j u hu
      rcases h4 with h4 | ⟨g, o, e, _, hc⟩
      · rw [h4] at hu; simp at hu
      · injection e with e
        rw [e, add_at]
        exact hc j u hu
    obtain ⟨v', w', ha, hb, hc, _⟩ := run_append_own (P := Tryd.prog) w base 25 ty 5 i0 (.int .u8 0) 1 1 Tryd.underlying25 hi hz0 hz1 hz2 rfl (by decide) v n (u8s xs) hown ad m c (u8s ys) (by rw [u8s_len, h1, Nat.mul_one]) hsrc (u8s_one ys) (by unfold maxLen; omega) (by omega) hbase
    exact ⟨v', w', ha, by have e := u8s_app xs ys; unfold BOwns; rw [e]; exact hb, hc⟩
  | none =>
    have hnil : ys = [] := by
      rcases h4 with h | ⟨_, _, h, _⟩
      · have := congrArg List.length h
        rw [u8s_len] at this
        exact List.eq_nil_of_length_eq_zero this
      · cases h
    subst hnil
    have hm : m = 0 := by rw [← h1]; rfl
    subst hm
    refine ⟨v, w, ?_, by simpa using hown, World.grownBy.refl w _⟩
    rcases hown.2 with ⟨rfl, rfl⟩ | ⟨g, cap, cur, rfl, _, _, hnc, _⟩
    · simp [Builtin.append_, run_underlying Tryd.underlying25, sizeOf, typeInfo, hi, Builtin.lenOf, Builtin.firstCells]
    · simp [Builtin.append_, run_underlying Tryd.underlying25, sizeOf, typeInfo, hi, Builtin.lenOf, Builtin.firstCells, hnc, storeCells]
theorem bapp_below {w0 w w' : World} {base n : Nat} {v : Value} {xs : List UInt8} (hown : BOwns w base v n xs) (hb : Below w0.heap.size w0 w) (hg : w.grownBy w' v.ownBlock) (hB : w0.heap.size ≤ base) : Below w0.heap.size w0 w' :=
  hb.grown hg hb.size (fun k hk => Nat.le_trans hB (own_from hown k hk))

theorem wp_bapp {o : Oper} {a : Act} {K : Act → World → Prop} {Q : Exit → Act → World → Prop} {w : World} (s x : Operand)
    (ho : o.op = .call { callee := .builtin .append, args := #[s, x], argTypes := #[25, 25] })
    (base : Nat) (v : Value) (n : Nat) (xs : List UInt8) (hs : a.eval s = v) (hown : BOwns w base v n xs)
    (A : Option Addr) (m c : Nat) (ys : List UInt8) (hx : a.eval x = .slice A m c) (hr : Byt w (.slice A m c) ys) (h63 : n + m ≤ 1000000) (hbase : base ≤ w.heap.size)
    (w0 : World) (hb : Below w0.heap.size w0 w) (hB : w0.heap.size ≤ base)
    (h : ∀ v' w', BOwns w' base v' (n + m) (xs ++ ys) → Below w0.heap.size w0 w' → w.grownBy w' v.ownBlock → K (a.put o.dst v') w') : o.wp Tryd.prog a w K Q := by
  obtain ⟨v', w', hr, h2, h3⟩ := run_bapp o.type hown hr h63 hbase
  unfold Oper.wp execOp
  simp only [ho, resolve, invoke, builtin, Sem.run_bind, Sem.run_pure, Result.andThen_ok, List.map_toArray, List.map_cons, List.map_nil, hs, hx, hr]
  exact h v' w' h2 (bapp_below hown hb h3 hB) h3
theorem wpList_bapp {ops : Array Oper} {rest : List Oper} {o : Oper} {a : Act} {Q : Exit → Act → World → Prop} {w : World} (hgd : o.guard = none) (s x : Operand)
    (ho : o.op = .call { callee := .builtin .append, args := #[s, x], argTypes := #[25, 25] })
    (base : Nat) (v : Value) (n : Nat) (xs : List UInt8) (hs : a.eval s = v) (hown : BOwns w base v n xs)
    (A : Option Addr) (m c : Nat) (ys : List UInt8) (hx : a.eval x = .slice A m c) (hr : Byt w (.slice A m c) ys) (h63 : n + m ≤ 1000000) (hbase : base ≤ w.heap.size)
    (w0 : World) (hb : Below w0.heap.size w0 w) (hB : w0.heap.size ≤ base)
    (h : ∀ v' w', BOwns w' base v' (n + m) (xs ++ ys) → Below w0.heap.size w0 w' → w.grownBy w' v.ownBlock → wpList Tryd.prog ops Q rest (a.put o.dst v') w') : wpList Tryd.prog ops Q (o :: rest) a w :=
  wpList_plain hgd fun _ hK => wp_bapp s x ho base v n xs hs hown A m c ys hx hr h63 hbase w0 hb hB fun v' w' h2 h3 h4 => hK _ _ (h v' w' h2 h3 h4)
theorem Box.grown {w w' : World} {b : Nat} {x y : Value} {t : TypeId} {row : Option Nat} (h : Box w b x y t) (hg : w.grownBy w' row) (hne : some b ≠ row) : Box w' b x y t := (hg.block b h.lt hne).trans h
end Go.Proofs.YtbighilgkmfemaaDoor

/- Contracts of the document's UShow and Show. -/
namespace Go.Proofs.YtbighilgkmfemaaDoor
open Go.RowKit
set_option linter.unusedVariables false
set_option linter.unusedSimpArgs false

/-- What is there yet of a number's text, and what comes ahead of it. -/
def Rest (b u0 u : Nat) (l : List UInt8) : Prop := (b ≤ u → usF b u0 = usF b (u / b) ++ l) ∧ (u < b → usF b u0 = l)
theorem Rest.step {b u0 u : Nat} {l : List UInt8} (h2 : 2 ≤ b) (h : Rest b u0 u l) (hu : b ≤ u) : Rest b u0 (u / b) (UInt8.ofNat (digN (u / b % b)) :: l) := by
  have e := h.1 hu
  refine ⟨fun h => ?_, fun h => ?_⟩
  · rw [e, usF_big h2 h, List.append_assoc]
    rfl
  · rw [e, usF_low h, Nat.mod_eq_of_lt h]
    rfl
theorem us_le {b : Nat} (h2 : 2 ≤ b) : ∀ j u, u < 2 ^ (j + 1) → (usF b u).length ≤ j + 1 := by
  intro j
  induction j with
  | zero =>
    intro u hu
    rw [usF_low (by omega)]
    simp
  | succ j ih =>
    intro u hu
    by_cases h : b ≤ u
    · rw [usF_big h2 h, List.length_append]
      have hd : u / b < 2 ^ (j + 1) := by
        rw [Nat.div_lt_iff_lt_mul (by omega)]
        have e : 2 ^ (j + 1 + 1) = 2 ^ (j + 1) * 2 := Nat.pow_succ _ _
        have : 2 ^ (j + 1) * 2 ≤ 2 ^ (j + 1) * b := Nat.mul_le_mul_left _ h2
        omega
      have := ih _ hd
      simp
      omega
    · rw [usF_low (by omega)]
      simp
theorem Rest.len {b u0 u : Nat} {l : List UInt8} (h2 : 2 ≤ b) (h : Rest b u0 u l) (h0 : u0 < 18446744073709551616) : l.length ≤ 64 := by
  have hl := us_le h2 63 u0 (by omega)
  by_cases hu : b ≤ u
  · rw [h.1 hu, List.length_append] at hl
    omega
  · rw [h.2 (by omega)] at hl
    exact hl
theorem cat_ok {a b : List UInt8} (h : a.length + b.length ≤ 9223372036854775807) : ¬ (9223372036854775807 < (strB a).size + (strB b).size) := by
  rw [strB_size, strB_size]
  omega
theorem alloc_then {w w1 : World} {o : Obj} (b : Below w.heap.size w w1) : Below w.heap.size w (w1.alloc o) := b.alloc b.size o

end Go.Proofs.YtbighilgkmfemaaDoor

/- A contract of the document's Parse. -/
namespace Go.Proofs.YtbighilgkmfemaaDoor
open Go.RowKit
set_option linter.unusedVariables false
set_option linter.unusedSimpArgs false

theorem ix_at (l : List UInt8) (i : Nat) (c : UInt8) (h : l[i]? = some c) : ∀ w, (Instr.index 9 (.string (strB l)) (.int .i64 (i : Int))).run Tryd.prog w = .ok (.int .u8 (c.toNat : Int)) w := by
  intro w
  have hi := (List.getElem?_eq_some_iff.1 h).1
  have := run_ix l i hi w
  rw [(List.getElem?_eq_some_iff.1 h).2] at this
  exact this
end Go.Proofs.YtbighilgkmfemaaDoor

/- Rows of words (api.Word); append to one that the call made. -/
namespace Go.Proofs.YtbighilgkmfemaaDoor
open Go.RowKit
set_option linter.unusedVariables false
set_option linter.unusedSimpArgs false

theorem drewN_belowW (w : World) (n : Nat) : Below w.heap.size w (w.drewN n) := ⟨rfl, rfl, rfl, Nat.le_refl _, fun _ _ => rfl⟩
theorem info_word : (Tryd.prog.info? 45).map (fun i => (i.zero, i.size, i.bytes)) = some (some (.agg #[.string ⟨#[]⟩, .int .i64 0, .int .i64 0]), 3, 32) := by kernel_rfl
/-- A word: its name, its Xt, its flags. -/
structure Wr where
  nm : List UInt8
  xt : Int
  fl : Int
  deriving DecidableEq
def wcell (q : Wr) : List Value := [.string (strB q.nm), .int .i64 q.xt, .int .i64 q.fl]
def wds (l : List Wr) : List Value := l.flatMap wcell
theorem wds_cons (q : Wr) (l : List Wr) : wds (q :: l) = .string (strB q.nm) :: .int .i64 q.xt :: .int .i64 q.fl :: wds l := rfl
theorem wds_len (l : List Wr) : (wds l).length = l.length * 3 := by
  induction l with
  | nil => rfl
  | cons q l ih => rw [wds_cons]; simp [ih]; omega
theorem wds_one (l : List Wr) : ∀ v ∈ wds l, v.oneCell' = true := by
  intro v hv
  unfold wds at hv
  rw [List.mem_flatMap] at hv
  obtain ⟨q, _, hv⟩ := hv
  unfold wcell at hv
  simp at hv
  rcases hv with rfl | rfl | rfl <;> rfl
theorem wds_app (a b : List Wr) : wds (a ++ b) = wds a ++ wds b := by simp [wds]
theorem wds_at {l : List Wr} : ∀ {j : Nat} (h : j < l.length), (wds l)[3 * j]? = some (.string (strB l[j].nm)) ∧ (wds l)[3 * j + 1]? = some (.int .i64 l[j].xt) ∧ (wds l)[3 * j + 2]? = some (.int .i64 l[j].fl) := by
  induction l with
  | nil => intro j h; simp at h
  | cons q l ih =>
    intro j h
    rw [wds_cons]
    cases j with
    | zero => exact ⟨rfl, rfl, rfl⟩
    | succ j =>
      have := ih (j := j) (by simpa using h)
      rw [show 3 * (j + 1) = 3 * j + 1 + 1 + 1 by omega]
      simpa using this
/-- A slice of words. -/
def Wds (w : World) (v : Value) (l : List Wr) : Prop := ∃ A c, v = .slice A l.length c ∧ l.length ≤ c ∧ c ≤ maxLen ∧ Lies w A (wds l)
theorem Wds.keep {w w' : World} {v : Value} {l : List Wr} (h : Wds w v l) (b : Below w.heap.size w w') : Wds w' v l := by
  obtain ⟨A, c, h1, h2, h3, h4⟩ := h
  exact ⟨A, c, h1, h2, h3, h4.keep b⟩
theorem wds_nil (w : World) : Wds w (.slice none 0 0) [] := ⟨none, 0, rfl, Nat.le_refl _, Nat.zero_le _, .inl rfl⟩
theorem wds_block {w : World} {g : Nat} {l : List Wr} {t : TypeId} (h : w.heap[g]? = some (.cells (wds l).toArray t (0, 0))) (hl : l.length ≤ 65536) : Wds w (.slice (some ⟨g, 0, none⟩) l.length l.length) l :=
  ⟨_, _, rfl, Nat.le_refl _, by unfold maxLen; omega, lies_block h⟩
theorem Wds.len {w : World} {A : Option Addr} {n c : Nat} {l : List Wr} (h : Wds w (.slice A n c) l) : l.length = n := by
  obtain ⟨A', c', e, _⟩ := h
  injection e with _ e _
  exact e.symm
theorem Wds.lies {w : World} {A : Option Addr} {n c : Nat} {l : List Wr} (h : Wds w (.slice A n c) l) : Lies w A (wds l) := by
  obtain ⟨A', c', e, _, _, hl⟩ := h
  injection e with e _ _
  subst e
  exact hl
theorem wds_slice {w : World} {v : Value} {l : List Wr} (h : Wds w v l) : ∃ A n c, v = .slice A n c := by
  obtain ⟨A, c, e, _⟩ := h
  exact ⟨A, _, c, e⟩
theorem wds_cell {w : World} {A : Option Addr} {n c : Nat} {l : List Wr} (h : Wds w (.slice A n c) l) {k : Nat} (hk : k < l.length) : ∃ g o, A = some ⟨g, o, none⟩ ∧ w.cell? ⟨g, o + k * 3, none⟩ = some (.string (strB l[k].nm)) ∧ w.cell? ⟨g, o + k * 3 + 1, none⟩ = some (.int .i64 l[k].xt) ∧ w.cell? ⟨g, o + k * 3 + 2, none⟩ = some (.int .i64 l[k].fl) := by
  rcases h.lies with h | ⟨g, o, e, _, hc⟩
  · have := congrArg List.length h
    rw [wds_len] at this
    have h0 : l.length * 3 = 0 := this
    omega
  · obtain ⟨h1, h2, h3⟩ := wds_at hk
    have e1 : o + k * 3 = o + 3 * k := by omega
    have e2 : o + k * 3 + 1 = o + (3 * k + 1) := by omega
    have e3 : o + k * 3 + 2 = o + (3 * k + 2) := by omega
    exact ⟨g, o, e, by rw [e1]; exact hc _ _ h1, by rw [e2]; exact hc _ _ h2, by rw [e3]; exact hc _ _ h3⟩

/-- A value that owns a row of words. -/
abbrev WOwns (w : World) (base : Nat) (v : Value) (n : Nat) (l : List Wr) : Prop := w.ownsRow base 45 3 v n (wds l)
theorem WOwns.wds {w : World} {base n : Nat} {v : Value} {l : List Wr} (h : WOwns w base v n l) : Wds w v l := by
  have hl := h.1
  rw [wds_len] at hl
  have hl : l.length = n := by omega
  subst hl
  rcases h.2 with ⟨rfl, h0⟩ | ⟨g, cap, cur, rfl, _, hg, hnc, hcm, _, ht⟩
  · have : l = [] := List.eq_nil_of_length_eq_zero h0
    subst this
    exact wds_nil w
  · refine ⟨some ⟨g, 0, none⟩, cap, rfl, hnc, hcm, .inr ⟨g, 0, rfl, (Array.getElem?_eq_some_iff.1 hg).1, fun j x hx => ?_⟩⟩
    rw [← ht, List.getElem?_take] at hx
    split at hx
    · rw [Nat.zero_add]
      simp [World.cell?, hg]
      simpa using hx
    · cases hx
theorem WOwns.alloc {w : World} {base n : Nat} {v : Value} {l : List Wr} (h : WOwns w base v n l) (o : Obj) : WOwns (w.alloc o) base v n l := World.ownsRow.alloc h o
theorem WOwns.keep {w w' : World} {base n : Nat} {v : Value} {l : List Wr} (h : WOwns w base v n l) (b : Below w.heap.size w w') : WOwns w' base v n l := by
  refine ⟨h.1, ?_⟩
  rcases h.2 with h2 | ⟨g, cap, cur, e, hb, hg, h3, h4, h5, h6⟩
  · exact .inl h2
  · exact .inr ⟨g, cap, cur, e, hb, (b.block g (Array.getElem?_eq_some_iff.1 hg).1).trans hg, h3, h4, h5, h6⟩
theorem wowns_none (w : World) (base : Nat) : WOwns w base (.slice none 0 0) 0 [] := ⟨rfl, .inl ⟨rfl, rfl⟩⟩
theorem none_wowns (w : World) : WOwns (w.alloc (.cells #[] 45)) w.heap.size (.slice (some ⟨w.heap.size, 0, none⟩) 0 0) 0 [] := World.ownsRow_lit w #[] 0 (Nat.le_refl _) (by unfold maxLen; omega) rfl
theorem wds_newone (w : World) (q : Wr) : Wds (w.alloc (.cells #[.string (strB q.nm), .int .i64 q.xt, .int .i64 q.fl] 45)) (.slice (some ⟨w.heap.size, 0, none⟩) 1 1) [q] := wds_block (l := [q]) (one_newN w _ _) (by simp)
theorem wown_from {w : World} {base e size n : Nat} {v : Value} {xs : List Value} (h : w.ownsRow base e size v n xs) : ∀ k, v.ownBlock = some k → base ≤ k := fun k hk => (h.lt k hk).1

set_option maxRecDepth 100000 in
theorem run_wapp {w : World} (ty : TypeId) {base n : Nat} {v : Value} {xs : List Wr} (hown : WOwns w base v n xs) {A : Option Addr} {m c : Nat} {ys : List Wr} (hr : Wds w (.slice A m c) ys) (h63 : n + m ≤ 1000000) (hbase : base ≤ w.heap.size) :
    ∃ v' w', (Builtin.append_ #[31, 31] ty #[v, .slice A m c]).run Tryd.prog w = .ok v' w' ∧ WOwns w' base v' (n + m) (xs ++ ys) ∧ w.grownBy w' v.ownBlock := by
  obtain ⟨i0, hi, hz0, hz1, hz2⟩ := info_parts info_word
  have h1 := hr.len
  have h4 := hr.lies
  cases A with
  | some ad =>
    have hsrc : ∀ j u, (wds ys)[j]? = some u → w.cell? (ad.add j) = some u := by
      intro j u hu
      rcases h4 with h4 | ⟨g, o, e, _, hc⟩
      · rw [h4] at hu; simp at hu
      · injection e with e
        rw [e, add_at]
        exact hc j u hu
    obtain ⟨v', w', ha, hb, hc, _⟩ := run_append_own (P := Tryd.prog) w base 31 ty 45 i0 (.agg #[.string ⟨#[]⟩, .int .i64 0, .int .i64 0]) 3 32 Tryd.underlying31 hi hz0 hz1 hz2 rfl (by decide) v n (wds xs) hown ad m c (wds ys) (by rw [wds_len, h1]) hsrc (wds_one ys) (by unfold maxLen; omega) (by omega) hbase
    exact ⟨v', w', ha, by have e := wds_app xs ys; unfold WOwns; rw [e]; exact hb, hc⟩
  | none =>
    have hnil : ys = [] := by
      rcases h4 with h | ⟨_, _, h, _⟩
      · have := congrArg List.length h
        rw [wds_len] at this
        have h0 : ys.length * 3 = 0 := this
        exact List.eq_nil_of_length_eq_zero (by omega)
      · cases h
    subst hnil
    have hm : m = 0 := by rw [← h1]; rfl
    subst hm
    refine ⟨v, w, ?_, by simpa using hown, World.grownBy.refl w _⟩
    rcases hown.2 with ⟨rfl, rfl⟩ | ⟨g, cap, cur, rfl, _, _, hnc, _⟩
    · simp [Builtin.append_, run_underlying Tryd.underlying31, sizeOf, typeInfo, hi, Builtin.lenOf, Builtin.firstCells]
    · simp [Builtin.append_, run_underlying Tryd.underlying31, sizeOf, typeInfo, hi, Builtin.lenOf, Builtin.firstCells, hnc, storeCells]
theorem wapp_below {w0 w w' : World} {base n : Nat} {v : Value} {xs : List Wr} (hown : WOwns w base v n xs) (hb : Below w0.heap.size w0 w) (hg : w.grownBy w' v.ownBlock) (hB : w0.heap.size ≤ base) : Below w0.heap.size w0 w' :=
  hb.grown hg hb.size (fun k hk => Nat.le_trans hB (wown_from hown k hk))
theorem wp_wapp {o : Oper} {a : Act} {K : Act → World → Prop} {Q : Exit → Act → World → Prop} {w : World} (s x : Operand)
    (ho : o.op = .call { callee := .builtin .append, args := #[s, x], argTypes := #[31, 31] })
    (base : Nat) (v : Value) (n : Nat) (xs : List Wr) (hs : a.eval s = v) (hown : WOwns w base v n xs)
    (A : Option Addr) (m c : Nat) (ys : List Wr) (hx : a.eval x = .slice A m c) (hr : Wds w (.slice A m c) ys) (h63 : n + m ≤ 1000000) (hbase : base ≤ w.heap.size)
    (w0 : World) (hb : Below w0.heap.size w0 w) (hB : w0.heap.size ≤ base)
    (h : ∀ v' w', WOwns w' base v' (n + m) (xs ++ ys) → Below w0.heap.size w0 w' → w.grownBy w' v.ownBlock → K (a.put o.dst v') w') : o.wp Tryd.prog a w K Q := by
  obtain ⟨v', w', hr, h2, h3⟩ := run_wapp o.type hown hr h63 hbase
  unfold Oper.wp execOp
  simp only [ho, resolve, invoke, builtin, Sem.run_bind, Sem.run_pure, Result.andThen_ok, List.map_toArray, List.map_cons, List.map_nil, hs, hx, hr]
  exact h v' w' h2 (wapp_below hown hb h3 hB) h3
theorem wpList_wapp {ops : Array Oper} {rest : List Oper} {o : Oper} {a : Act} {Q : Exit → Act → World → Prop} {w : World} (hgd : o.guard = none) (s x : Operand)
    (ho : o.op = .call { callee := .builtin .append, args := #[s, x], argTypes := #[31, 31] })
    (base : Nat) (v : Value) (n : Nat) (xs : List Wr) (hs : a.eval s = v) (hown : WOwns w base v n xs)
    (A : Option Addr) (m c : Nat) (ys : List Wr) (hx : a.eval x = .slice A m c) (hr : Wds w (.slice A m c) ys) (h63 : n + m ≤ 1000000) (hbase : base ≤ w.heap.size)
    (w0 : World) (hb : Below w0.heap.size w0 w) (hB : w0.heap.size ≤ base)
    (h : ∀ v' w', WOwns w' base v' (n + m) (xs ++ ys) → Below w0.heap.size w0 w' → w.grownBy w' v.ownBlock → wpList Tryd.prog ops Q rest (a.put o.dst v') w') : wpList Tryd.prog ops Q (o :: rest) a w :=
  wpList_plain hgd fun _ hK => wp_wapp s x ho base v n xs hs hown A m c ys hx hr h63 hbase w0 hb hB fun v' w' h2 h3 h4 => hK _ _ (h v' w' h2 h3 h4)
end Go.Proofs.YtbighilgkmfemaaDoor

/- What the calls of package lex answer, as plain functions, by the document's own words. -/
namespace Go.Proofs.YtbighilgkmfemaaDoor
open Go.RowKit
set_option linter.unusedVariables false
set_option linter.unusedSimpArgs false

/-- A sign that is no blank. -/
def solid (c : UInt8) : Bool := decide (32 < c.toNat)
theorem solid_yes {c : UInt8} (h : 32 < c.toNat) : solid c = true := by unfold solid; simpa using h
theorem solid_no {c : UInt8} (h : ¬ 32 < c.toNat) : solid c = false := by unfold solid; simpa using h
/-- The place that is asked at. -/
def startN (l : List UInt8) (p : Int) : Nat := if 0 ≤ p ∧ p ≤ (l.length : Int) then p.toNat else l.length
theorem startN_nat {l : List UInt8} {k : Nat} (h1 : k ≤ l.length) : startN l (k : Int) = k := by unfold startN; rw [if_pos (by omega)]; omega
/-- The first word; and what is behind the blank behind it. -/
def wordW : List UInt8 → List UInt8
  | [] => []
  | c :: r => if solid c = true then c :: r.takeWhile solid else wordW r
def wordT : List UInt8 → List UInt8
  | [] => []
  | c :: r => if solid c = true then (r.dropWhile solid).drop 1 else wordT r
def wordAt (l : List UInt8) (p : Int) : List UInt8 := wordW (l.drop (startN l p))
def nextN (l : List UInt8) (p : Int) : Nat := l.length - (wordT (l.drop (startN l p))).length
/-- Up to a sign. -/
def notC (c x : UInt8) : Bool := decide (x ≠ c)
def uptoW (r : List UInt8) (c : UInt8) : List UInt8 := r.takeWhile (notC c)
/-- Great letters. -/
def upC (c : UInt8) : UInt8 := if 97 ≤ c.toNat ∧ c.toNat ≤ 122 then c - 32 else c
def upperF (l : List UInt8) : List UInt8 := l.map upC
def alikeF (a b : List UInt8) : Bool := decide (upperF a = upperF b)

end Go.Proofs.YtbighilgkmfemaaDoor

/- Rows of strings; append to one that the call made. -/
namespace Go.Proofs.YtbighilgkmfemaaDoor
open Go.RowKit
set_option linter.unusedVariables false
set_option linter.unusedSimpArgs false

theorem info_str : (Tryd.prog.info? 9).map (fun i => (i.zero, i.size, i.bytes)) = some (some (.string ⟨#[]⟩), 1, 16) := by kernel_rfl
def sts (l : List (List UInt8)) : List Value := l.map fun b => .string (strB b)
theorem sts_len (l : List (List UInt8)) : (sts l).length = l.length := by simp [sts]
theorem sts_one (l : List (List UInt8)) : ∀ v ∈ sts l, v.oneCell' = true := by
  intro v hv
  unfold sts at hv
  rw [List.mem_map] at hv
  obtain ⟨b, _, rfl⟩ := hv
  rfl
theorem sts_app (a b : List (List UInt8)) : sts (a ++ b) = sts a ++ sts b := by simp [sts]
theorem sts_at {l : List (List UInt8)} {j : Nat} (h : j < l.length) : (sts l)[j]? = some (.string (strB l[j])) := by simp [sts, h]
/-- A slice of strings. -/
def Sts (w : World) (v : Value) (l : List (List UInt8)) : Prop := ∃ A c, v = .slice A l.length c ∧ l.length ≤ c ∧ c ≤ maxLen ∧ Lies w A (sts l)
theorem Sts.keep {w w' : World} {v : Value} {l : List (List UInt8)} (h : Sts w v l) (b : Below w.heap.size w w') : Sts w' v l := by
  obtain ⟨A, c, h1, h2, h3, h4⟩ := h
  exact ⟨A, c, h1, h2, h3, h4.keep b⟩
theorem sts_nil (w : World) : Sts w (.slice none 0 0) [] := ⟨none, 0, rfl, Nat.le_refl _, Nat.zero_le _, .inl rfl⟩
theorem sts_block {w : World} {g : Nat} {l : List (List UInt8)} {t : TypeId} (h : w.heap[g]? = some (.cells (sts l).toArray t (0, 0))) (hl : l.length ≤ 65536) : Sts w (.slice (some ⟨g, 0, none⟩) l.length l.length) l :=
  ⟨_, _, rfl, Nat.le_refl _, by unfold maxLen; omega, lies_block h⟩
theorem Sts.len {w : World} {A : Option Addr} {n c : Nat} {l : List (List UInt8)} (h : Sts w (.slice A n c) l) : l.length = n := by
  obtain ⟨A', c', e, _⟩ := h
  injection e with _ e _
  exact e.symm
theorem Sts.lies {w : World} {A : Option Addr} {n c : Nat} {l : List (List UInt8)} (h : Sts w (.slice A n c) l) : Lies w A (sts l) := by
  obtain ⟨A', c', e, _, _, hl⟩ := h
  injection e with e _ _
  subst e
  exact hl
theorem sts_cell {w : World} {A : Option Addr} {n c : Nat} {l : List (List UInt8)} (h : Sts w (.slice A n c) l) {k : Nat} (hk : k < l.length) : ∃ g o, A = some ⟨g, o, none⟩ ∧ w.cell? ⟨g, o + k, none⟩ = some (.string (strB l[k])) := by
  rcases h.lies with h | ⟨g, o, e, _, hc⟩
  · have := congrArg List.length h
    rw [sts_len] at this
    have h0 : l.length = 0 := this
    omega
  · exact ⟨g, o, e, hc k _ (sts_at hk)⟩

/-- A value that owns a row of strings. -/
abbrev SOwns (w : World) (base : Nat) (v : Value) (n : Nat) (l : List (List UInt8)) : Prop := w.ownsRow base 9 1 v n (sts l)
theorem SOwns.sts {w : World} {base n : Nat} {v : Value} {l : List (List UInt8)} (h : SOwns w base v n l) : Sts w v l := by
  have hl := h.1
  rw [sts_len, Nat.mul_one] at hl
  subst hl
  rcases h.2 with ⟨rfl, h0⟩ | ⟨g, cap, cur, rfl, _, hg, hnc, hcm, _, ht⟩
  · have : l = [] := List.eq_nil_of_length_eq_zero h0
    subst this
    exact sts_nil w
  · refine ⟨some ⟨g, 0, none⟩, cap, rfl, hnc, hcm, .inr ⟨g, 0, rfl, (Array.getElem?_eq_some_iff.1 hg).1, fun j x hx => ?_⟩⟩
    rw [← ht, List.getElem?_take] at hx
    split at hx
    · rw [Nat.zero_add]
      simp [World.cell?, hg]
      simpa using hx
    · cases hx
theorem SOwns.alloc {w : World} {base n : Nat} {v : Value} {l : List (List UInt8)} (h : SOwns w base v n l) (o : Obj) : SOwns (w.alloc o) base v n l := World.ownsRow.alloc h o
theorem SOwns.keep {w w' : World} {base n : Nat} {v : Value} {l : List (List UInt8)} (h : SOwns w base v n l) (b : Below w.heap.size w w') : SOwns w' base v n l := by
  refine ⟨h.1, ?_⟩
  rcases h.2 with h2 | ⟨g, cap, cur, e, hb, hg, h3, h4, h5, h6⟩
  · exact .inl h2
  · exact .inr ⟨g, cap, cur, e, hb, (b.block g (Array.getElem?_eq_some_iff.1 hg).1).trans hg, h3, h4, h5, h6⟩
theorem sown_from {w : World} {base e size n : Nat} {v : Value} {xs : List Value} (h : w.ownsRow base e size v n xs) : ∀ k, v.ownBlock = some k → base ≤ k := fun k hk => (h.lt k hk).1

set_option maxRecDepth 100000 in
theorem run_sapp {w : World} (ty : TypeId) {base n : Nat} {v : Value} {xs : List (List UInt8)} (hown : SOwns w base v n xs) {A : Option Addr} {m c : Nat} {ys : List (List UInt8)} (hr : Sts w (.slice A m c) ys) (h63 : n + m ≤ 1000000) (hbase : base ≤ w.heap.size) :
    ∃ v' w', (Builtin.append_ #[42, 42] ty #[v, .slice A m c]).run Tryd.prog w = .ok v' w' ∧ SOwns w' base v' (n + m) (xs ++ ys) ∧ w.grownBy w' v.ownBlock := by
  obtain ⟨i0, hi, hz0, hz1, hz2⟩ := info_parts info_str
  have h1 := hr.len
  have h4 := hr.lies
  cases A with
  | some ad =>
    have hsrc : ∀ j u, (sts ys)[j]? = some u → w.cell? (ad.add j) = some u := by
      intro j u hu
      rcases h4 with h4 | ⟨g, o, e, _, hc⟩
      · rw [h4] at hu; simp at hu
      · injection e with e
        rw [e, add_at]
        exact hc j u hu
    obtain ⟨v', w', ha, hb, hc, _⟩ := run_append_own (P := Tryd.prog) w base 42 ty 9 i0 (.string ⟨#[]⟩) 1 16 Tryd.underlying42 hi hz0 hz1 hz2 rfl (by decide) v n (sts xs) hown ad m c (sts ys) (by rw [sts_len, h1, Nat.mul_one]) hsrc (sts_one ys) (by unfold maxLen; omega) (by omega) hbase
    exact ⟨v', w', ha, by have e := sts_app xs ys; unfold SOwns; rw [e]; exact hb, hc⟩
  | none =>
    have hnil : ys = [] := by
      rcases h4 with h | ⟨_, _, h, _⟩
      · have := congrArg List.length h
        rw [sts_len] at this
        exact List.eq_nil_of_length_eq_zero this
      · cases h
    subst hnil
    have hm : m = 0 := by rw [← h1]; rfl
    subst hm
    refine ⟨v, w, ?_, by simpa using hown, World.grownBy.refl w _⟩
    rcases hown.2 with ⟨rfl, rfl⟩ | ⟨g, cap, cur, rfl, _, _, hnc, _⟩
    · simp [Builtin.append_, run_underlying Tryd.underlying42, sizeOf, typeInfo, hi, Builtin.lenOf, Builtin.firstCells]
    · simp [Builtin.append_, run_underlying Tryd.underlying42, sizeOf, typeInfo, hi, Builtin.lenOf, Builtin.firstCells, hnc, storeCells]
theorem sapp_below {w0 w w' : World} {base n : Nat} {v : Value} {xs : List (List UInt8)} (hown : SOwns w base v n xs) (hb : Below w0.heap.size w0 w) (hg : w.grownBy w' v.ownBlock) (hB : w0.heap.size ≤ base) : Below w0.heap.size w0 w' :=
  hb.grown hg hb.size (fun k hk => Nat.le_trans hB (sown_from hown k hk))
theorem wp_sapp {o : Oper} {a : Act} {K : Act → World → Prop} {Q : Exit → Act → World → Prop} {w : World} (s x : Operand)
    (ho : o.op = .call { callee := .builtin .append, args := #[s, x], argTypes := #[42, 42] })
    (base : Nat) (v : Value) (n : Nat) (xs : List (List UInt8)) (hs : a.eval s = v) (hown : SOwns w base v n xs)
    (A : Option Addr) (m c : Nat) (ys : List (List UInt8)) (hx : a.eval x = .slice A m c) (hr : Sts w (.slice A m c) ys) (h63 : n + m ≤ 1000000) (hbase : base ≤ w.heap.size)
    (w0 : World) (hb : Below w0.heap.size w0 w) (hB : w0.heap.size ≤ base)
    (h : ∀ v' w', SOwns w' base v' (n + m) (xs ++ ys) → Below w0.heap.size w0 w' → w.grownBy w' v.ownBlock → K (a.put o.dst v') w') : o.wp Tryd.prog a w K Q := by
  obtain ⟨v', w', hr, h2, h3⟩ := run_sapp o.type hown hr h63 hbase
  unfold Oper.wp execOp
  simp only [ho, resolve, invoke, builtin, Sem.run_bind, Sem.run_pure, Result.andThen_ok, List.map_toArray, List.map_cons, List.map_nil, hs, hx, hr]
  exact h v' w' h2 (sapp_below hown hb h3 hB) h3
theorem wpList_sapp {ops : Array Oper} {rest : List Oper} {o : Oper} {a : Act} {Q : Exit → Act → World → Prop} {w : World} (hgd : o.guard = none) (s x : Operand)
    (ho : o.op = .call { callee := .builtin .append, args := #[s, x], argTypes := #[42, 42] })
    (base : Nat) (v : Value) (n : Nat) (xs : List (List UInt8)) (hs : a.eval s = v) (hown : SOwns w base v n xs)
    (A : Option Addr) (m c : Nat) (ys : List (List UInt8)) (hx : a.eval x = .slice A m c) (hr : Sts w (.slice A m c) ys) (h63 : n + m ≤ 1000000) (hbase : base ≤ w.heap.size)
    (w0 : World) (hb : Below w0.heap.size w0 w) (hB : w0.heap.size ≤ base)
    (h : ∀ v' w', SOwns w' base v' (n + m) (xs ++ ys) → Below w0.heap.size w0 w' → w.grownBy w' v.ownBlock → wpList Tryd.prog ops Q rest (a.put o.dst v') w') : wpList Tryd.prog ops Q (o :: rest) a w :=
  wpList_plain hgd fun _ hK => wp_sapp s x ho base v n xs hs hown A m c ys hx hr h63 hbase w0 hb hB fun v' w' h2 h3 h4 => hK _ _ (h v' w' h2 h3 h4)
end Go.Proofs.YtbighilgkmfemaaDoor
