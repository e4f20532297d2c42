/- Plain facts on the way back: whatever is written behind a mark is undone. -/
import Derived.Test.YtngmkbbeafefaaaMemMath
namespace Go.Proofs.Ytngmkbbeafefaaa
open Go.RowKit
set_option linter.unusedVariables false
set_option linter.unusedSimpArgs false

/-- What an act does. -/
abbrev Do := Int × Int × Int × Int × List UInt8
def doneF (m : PM) (a : Do) : PM := if a.1 % 5 = 0 then storeF m a.2.1 a.2.2.2.1 else if a.1 % 5 = 1 then writeF m a.2.1 [lowB a.2.2.2.1] else if a.1 % 5 = 2 then writeF m a.2.1 a.2.2.2.2 else if a.1 % 5 = 3 then fillF m a.2.1 a.2.2.2.1 a.2.2.1 else moveF m a.2.1 a.2.2.1 a.2.2.2.1

/-- A memory that comes of another one by writes, k at most. -/
def Ext (k : Nat) (m x : PM) : Prop := x.1.length = m.1.length ∧ rightB x = true ∧ m.2.length ≤ x.2.length ∧ x.2.length ≤ m.2.length + k ∧ ∃ e, x.2 = m.2 ++ e ∧ undo e x.1 = m.1
theorem ext_refl {m : PM} (h : rightB m = true) : Ext 0 m m := ⟨rfl, h, Nat.le_refl _, Nat.le_refl _, [], by simp, rfl⟩
theorem Ext.more {k : Nat} {m x : PM} (h : Ext k m x) : Ext (k + 1) m x := ⟨h.1, h.2.1, h.2.2.1, by have := h.2.2.2.1; omega, h.2.2.2.2⟩
theorem undo_snoc (e : List Pt) (q : Pt) (row : List UInt8) : undo (e ++ [q]) row = undo e (layF row q.1 q.2) := by simp [undo]
theorem splice_back {α : Type} (l c : List α) (o : Nat) (h : o + c.length ≤ l.length) : splice (splice l o c) o ((l.drop o).take c.length) = l := by
  have hl : ((l.drop o).take c.length).length = c.length := by simp; omega
  apply List.ext_getElem?
  intro i
  rw [splice_get _ _ _ _ (by rw [splice_len h, hl]; exact h), hl]
  by_cases h1 : o ≤ i ∧ i < o + c.length
  · rw [if_pos h1, List.getElem?_take, if_pos (by omega), List.getElem?_drop]
    congr 1
    omega
  · rw [if_neg h1, splice_get _ _ _ _ h, if_neg h1]
theorem lay_back (x : PM) (p : Int) (b : List UInt8) (h : okB x.1.length p b.length = true) (hb : b ≠ []) : layF (layF x.1 p b) p (textF x p b.length) = x.1 := by
  have k := okB_nat h hb
  rw [textF_yes h, Int.toNat_natCast]
  exact splice_back x.1 b p.toNat k.2
theorem right_write (x : PM) (p : Int) (b : List UInt8) (h : rightB x = true) : rightB (writeF x p b) = true := by
  by_cases hw : okB x.1.length p b.length = true ∧ b ≠ []
  · have hl := writeF_len x p b
    have e := writeF_yes hw.1 hw.2
    rw [rightB_eq _ _ hl]
    rw [rightB_eq x _ rfl] at h
    simp only [Bool.and_eq_true, decide_eq_true_eq] at h ⊢
    refine ⟨h.1, ?_⟩
    rw [e]
    show (x.2 ++ [(p, textF x p b.length)]).all _ = true
    rw [List.all_append, h.2]
    have ht : ((textF x p b.length).length : Int) = b.length := by rw [textF_len hw.1, Int.toNat_natCast]
    show (rightP x.1.length (p, textF x p b.length) && true) = true
    rw [Bool.and_true]
    show okB x.1.length p ((textF x p b.length).length : Int) = true
    rw [ht]
    exact hw.1
  · have e : writeF x p b = x := by unfold writeF; rw [if_neg hw]
    rw [e]
    exact h
theorem Ext.write {k : Nat} {m x : PM} (h : Ext k m x) (p : Int) (b : List UInt8) : Ext (k + 1) m (writeF x p b) := by
  by_cases hw : okB x.1.length p b.length = true ∧ b ≠ []
  · obtain ⟨h1, h2, h3, h4, e, h5, h6⟩ := h
    have ew := writeF_yes hw.1 hw.2
    have hl := writeF_len x p b
    have hp := writeF_pats x p b
    refine ⟨by omega, right_write x p b h2, ?_, by omega, e ++ [(p, textF x p b.length)], ?_, ?_⟩
    · rw [ew]
      show _ ≤ (x.2 ++ [(p, textF x p b.length)]).length
      rw [List.length_append]
      omega
    · rw [ew]
      show x.2 ++ _ = _
      rw [h5, List.append_assoc]
    · rw [undo_snoc, ew]
      show undo e (layF (layF x.1 p b) p (textF x p b.length)) = _
      rw [lay_back x p b hw.1 hw.2, h6]
  · have e : writeF x p b = x := by unfold writeF; rw [if_neg hw]
    rw [e]
    exact h.more
theorem Ext.done {k : Nat} {m x : PM} (h : Ext k m x) (a : Do) : Ext (k + 1) m (doneF x a) := by
  unfold doneF
  split
  · unfold storeF
    split
    · exact h.write _ _
    · exact h.more
  · split
    · exact h.write _ _
    · split
      · exact h.write _ _
      · split
        · unfold fillF
          split
          · exact h.write _ _
          · exact h.more
        · unfold moveF
          split
          · exact h.write _ _
          · exact h.more
theorem Ext.back {k : Nat} {m x : PM} (h : Ext k m x) : backF x m.2.length = m ∧ backC x m.2.length = 0 := by
  obtain ⟨h1, h2, h3, h4, e, h5, h6⟩ := h
  have hok : backOk x m.2.length = true := by unfold backOk; rw [decide_eq_true_eq]; omega
  unfold backF backC
  rw [if_pos hok, if_pos hok, Int.toNat_natCast, h5, List.drop_left, List.take_left, h6]
  exact ⟨rfl, rfl⟩
theorem back_none (x : PM) : backF x x.2.length = x ∧ backC x x.2.length = 0 := by
  have hok : backOk x x.2.length = true := by unfold backOk; rw [decide_eq_true_eq]; omega
  unfold backF backC
  rw [if_pos hok, if_pos hok, Int.toNat_natCast, List.drop_length, List.take_length]
  exact ⟨rfl, rfl⟩
end Go.Proofs.Ytngmkbbeafefaaa
