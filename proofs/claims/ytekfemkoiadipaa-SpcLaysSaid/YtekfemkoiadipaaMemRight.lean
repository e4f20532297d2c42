/- Contracts of Right of package mem, and of the document's own Few, Right and May. -/
import Derived.Test.YtekfemkoiadipaaMemWalksF
import Derived.Test.YtekfemkoiadipaaProg
import Derived.Test.YtekfemkoiadipaaMemRefF
namespace Go.Proofs.Ytekfemkoiadipaa
open Go.RowKit

/-- A patch of a memory, as it lies. -/
theorem mem_patch {w : World} {P : Option Addr} {K d : Nat} {x : Value} {m : PM} (h : IsMem w (.agg #[x, .slice P K d]) m) {j : Nat} (hj : j < K) :
    ∃ g o B n e p, P = some ⟨g, o, none⟩ ∧ g < w.heap.size ∧ m.2[j]? = some p ∧ w.cell? ⟨g, o + j * 2, none⟩ = some (.int .i64 p.1) ∧ w.cell? ⟨g, o + j * 2 + 1, none⟩ = some (.slice B n e) ∧ Byt w (.slice B n e) p.2 ∧ n ≤ maxLen ∧ K ≤ d := by
  have hl := h.len2
  have hp : m.2[j]? = some (m.2[j]'(by omega)) := List.getElem?_eq_getElem (by omega)
  obtain ⟨A', c', qs, e, hk, _, hlies, ht⟩ := h.pats
  injection e with e1 _ e3
  subst e1 e3
  obtain ⟨v, hq, hb⟩ := ht.at_ hp
  obtain ⟨B, c, rfl⟩ := hb.form
  have hlen := pc_at qs j _ hq
  rcases hlies with e | ⟨g, o, rfl, hg, hc⟩
  · rw [e] at hlen
    simp at hlen
  · have hm : (m.2[j]'(by omega)).2.length ≤ maxLen := by
      obtain ⟨A2, c2, e2, h2, h3, _⟩ := hb
      omega
    refine ⟨g, o, B, _, c, _, rfl, hg, hp, ?_, ?_, hb, hm, by omega⟩
    · have := hc (2 * j) _ hlen.1
      rw [Nat.mul_comm j 2]
      exact this
    · have := hc (2 * j + 1) _ hlen.2
      rw [Nat.mul_comm j 2, Nat.add_assoc]
      exact this
theorem all_take_step {α : Type} {f : α → Bool} {l : List α} {j : Nat} {p : α} (h : l[j]? = some p) : (l.take (j + 1)).all f = ((l.take j).all f && f p) := by
  have hj : j < l.length := (List.getElem?_eq_some_iff.1 h).1
  have e : l[j] = p := (List.getElem?_eq_some_iff.1 h).2
  rw [List.take_succ_eq_append_getElem hj, List.all_append, e]
  simp
theorem all_no {α : Type} {f : α → Bool} {l : List α} {j : Nat} {p : α} (h : l[j]? = some p) (hf : f p = false) : l.all f = false := by
  rw [List.all_eq_false]
  exact ⟨p, List.mem_of_getElem? h, by simp [hf]⟩
theorem IsMem.big {w : World} {A P : Option Addr} {L c K d : Nat} {m : PM} (h : IsMem w (.agg #[.slice A L c, .slice P K d]) m) : L ≤ maxLen ∧ K ≤ maxLen := by
  have h1 := h.byt
  have h2 := h.pats
  obtain ⟨_, _, e, h3, h4, _⟩ := h1
  obtain ⟨_, _, _, e', h5, h6, _⟩ := h2
  injection e with _ e _
  injection e' with _ e' _
  omega

def few1 (q : Pt) : Bool := decide (q.2.length ≤ 200)
theorem fewB_eq (m : PM) (n : Nat) : fewB m n = (decide (m.1.length ≤ n) && decide (m.2.length ≤ 60) && m.2.all few1) := rfl

set_option maxRecDepth 100000 in
set_option maxHeartbeats 2000000 in
theorem few_at (A P : Option Addr) (L c K d : Nat) (m : PM) (w : World) (HM : Hid (IsMem w (.agg #[.slice A L c, .slice P K d]) m)) :
    Calls Try.prog 21 #[.agg #[.slice A L c, .slice P K d], .int .i64 600] w fun e w' => e = .returned (.bool (fewB m 600)) ∧ Below w.heap.size w w' := by
  have hbig := HM.out.big
  unfold maxLen at hbig
  obtain ⟨hL, hK⟩ := hbig
  have H : Hid (fewB m 600 = (decide (L ≤ 600) && decide (K ≤ 60) && m.2.all few1)) := by show _ = _; rw [fewB_eq, HM.out.len1, HM.out.len2]
  by_cases h1 : 600 < L
  · have H2 : Hid (fewB m 600 = false) := by rw [H.out, decide_eq_false (by omega)]; rfl
    rw [H2.out]
    have h1' : (600 : Int) < (L : Int) := by omega
    go_enter Try.func21, Try.ntmps21
    go_wp2
    go_ret
    exact ⟨rfl, (Below.refl _ _).alloc (Nat.le_refl _) _⟩
  · have h1' : decide ((600 : Int) < (L : Int)) = false := by simp; omega
    by_cases h2 : 60 < K
    · have H2 : Hid (fewB m 600 = false) := by rw [H.out, decide_eq_false (show ¬ K ≤ 60 by omega)]; simp [Hid]
      rw [H2.out]
      have h2' : (60 : Int) < (K : Int) := by omega
      clear h1
      go_enter Try.func21, Try.ntmps21
      go_wp2
      go_ret
      exact ⟨rfl, (Below.refl _ _).alloc (Nat.le_refl _) _⟩
    · have h2' : decide ((60 : Int) < (K : Int)) = false := by simp; omega
      have H2 : Hid (fewB m 600 = m.2.all few1) := by rw [H.out, decide_eq_true (by omega), decide_eq_true (by omega)]; simp [Hid]
      rw [H2.out]
      have hK60 : K ≤ 60 := by omega
      clear h1 h2 H H2
      go_enter Try.func21, Try.ntmps21
      go_wp2
      go_loop [5] (fun i => ∃ j : Nat, j ≤ K ∧ i = .int .i64 (j : Int) ∧ Hid ((m.2.take j).all few1 = true)) (fun i => K - (intOf i).toNat)
      case atStart => exact ⟨0, Nat.zero_le _, rfl, by simp [Hid]⟩
      case round =>
        obtain ⟨j, hj, rfl, hall⟩ := hrel
        by_cases hlt : j < K
        · obtain ⟨g, o, B, n, e, p, rfl, hg, hp, hc1, hc2, hby, hn, hKd⟩ := mem_patch HM.out hlt
          have hc : (w.alloc (.cells #[.slice A L c, .slice (some ⟨g, o, none⟩) K d] 25)).cell? ⟨g, o + j * 2 + 1, none⟩ = some (.slice B n e) := ((((Below.refl _ w).alloc (Nat.le_refl _) _).cell (p := ⟨g, o + j * 2 + 1, none⟩) hg)).trans hc2
          have HP := Lib.hid hp
          have HN : Hid (p.2.length = n) := hby.len
          unfold maxLen at hn
          clear hp hby hc1 hc2
          by_cases hb : 200 < n
          · have hb' : (200 : Int) < (n : Int) := by omega
            have HR : Hid (m.2.all few1 = false) := all_no HP.out (by unfold few1; rw [HN.out]; exact decide_eq_false (by omega))
            go_wp2
            go_ret
            exact ⟨ret_bool HR.out.symm, (Below.refl _ _).alloc (Nat.le_refl _) _⟩
          · have hb' : decide ((200 : Int) < (n : Int)) = false := by simp; omega
            have HR : Hid ((m.2.take (j + 1)).all few1 = true) := by
              rw [all_take_step HP.out, hall.out]
              unfold few1
              rw [HN.out, decide_eq_true (by omega)]
              rfl
            clear hb
            go_wp2
            go_round
            case rel => exact ⟨j + 1, by omega, by go_num, HR.out⟩
            case measure => simp [intOf]; omega
        · have hjk : j = K := by omega
          subst hjk
          have hl := HM.out.len2
          have HR : Hid (m.2.all few1 = true) := by
            have := hall.out
            rw [List.take_of_length_le (by omega)] at this
            exact this
          clear hl
          go_wp2
          go_ret
          exact ⟨ret_bool HR.out.symm, (Below.refl _ _).alloc (Nat.le_refl _) _⟩

theorem rightB_eq (m : PM) (L : Nat) (h : m.1.length = L) : rightB m = (decide (L ≤ 65536) && decide (L % 8 = 0) && m.2.all (rightP L)) := by subst h; rfl

/-- A frame with its memory in one block. -/
def Rt (w : World) (A P : Option Addr) (L c K d : Nat) (w' : World) : Prop := Below w.heap.size w w' ∧ Box w' w.heap.size (.slice A L c) (.slice P K d) 25
theorem Rt.bel {w w1 : World} {A P : Option Addr} {L c K d : Nat} (h : Rt w A P L c K d w1) : Below w.heap.size w w1 := h.1
theorem Rt.box {w w1 : World} {A P : Option Addr} {L c K d : Nat} (h : Rt w A P L c K d w1) : Box w1 w.heap.size (.slice A L c) (.slice P K d) 25 := h.2
theorem Rt.keep {w w1 w2 : World} {A P : Option Addr} {L c K d : Nat} (h : Rt w A P L c K d w1) (b : Below w1.heap.size w1 w2) : Rt w A P L c K d w2 := ⟨below_then h.1 b, h.2.keep b⟩
theorem Rt.drew {w w1 : World} {A P : Option Addr} {L c K d : Nat} (h : Rt w A P L c K d w1) : Rt w A P L c K d w1.drew := ⟨h.1.drew, h.2⟩
theorem rt_new (w : World) (A P : Option Addr) (L c K d : Nat) : Rt w A P L c K d (w.alloc (.cells #[.slice A L c, .slice P K d] 25)) := ⟨(Below.refl _ _).alloc (Nat.le_refl _) _, box_new _ _ _ _⟩

end Go.Proofs.Ytekfemkoiadipaa
