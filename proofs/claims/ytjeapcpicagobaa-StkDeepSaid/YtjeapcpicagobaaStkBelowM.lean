/- Plain facts: what lies below the cells that a word takes. -/
import Derived.Test.YtjeapcpicagobaaStkNames
namespace Go.Proofs.Ytjeapcpicagobaa
open Go.RowKit
set_option linter.unusedVariables false
set_option linter.unusedSimpArgs false

theorem getD_app (b l : List Int) (m : Nat) : (b ++ l).getD (b.length + m) 0 = l.getD m 0 := by
  simp only [List.getD]
  rw [List.getElem?_append_right (by omega), Nat.add_sub_cancel_left]
theorem num_mk {l : List Int} {p y : Nat} (h1 : l.length = p + 1 + y + 1) (h2 : l.getD (p + 1 + y) 0 = (y : Int)) : numOk l = true ∧ placeF l = p := by
  have ht : topF l = (y : Int) := by simp only [topF, h1]; exact h2
  constructor
  · simp only [numOk, ht, h1, decide_eq_true_eq]
    omega
  · simp only [placeF, ht, h1, Int.toNat_natCast]
    omega
theorem leftL_app (b l : List Int) (low : Nat) (idx : List Nat) : leftL (b ++ l) (b.length + low) idx = b ++ leftL l low idx := by
  unfold leftL
  rw [List.take_length_add_append, List.append_assoc]
  congr 2
  refine List.map_congr_left fun i _ => ?_
  rw [Nat.add_assoc, getD_app]

/-- With cells put below, a word does the same. -/
def Lower (s : ByteArray) : Prop := ∀ (b l o : List Int), resF (kindF s.data.toList) l = .out o → resF (kindF s.data.toList) (b ++ l) = .out (b ++ o)
theorem lower_perm {s : ByteArray} {k : Nat} {idx : List Nat} (h : kindF s.data.toList = .perm k idx) : Lower s := by
  intro b l o ho
  rw [h] at ho ⊢
  simp only [resF] at ho ⊢
  by_cases hk : l.length < k
  · rw [if_pos hk] at ho
    cases ho
  · rw [if_neg hk] at ho
    injection ho with ho
    rw [if_neg (by simp; omega), ← ho, ← leftL_app]
    congr 2
    simp
    omega
theorem lower_qdup : Lower ⟨#[63, 68, 85, 80]⟩ := by
  intro b l o ho
  rw [kind_qDUP] at ho ⊢
  simp only [resF] at ho ⊢
  by_cases hk : l.length = 0
  · rw [if_pos hk] at ho
    cases ho
  · rw [if_neg hk] at ho
    injection ho with ho
    have ht : topF (b ++ l) = topF l := by
      have e : (b ++ l).length - 1 = b.length + (l.length - 1) := by simp; omega
      simp only [topF]
      rw [e, getD_app]
    rw [if_neg (by rw [List.length_append]; omega), ht, ← ho]
    split <;> simp
theorem lower_pick : Lower ⟨#[80, 73, 67, 75]⟩ := by
  intro b l o ho
  rw [kind_PICK] at ho ⊢
  rcases num_cases l with ⟨_, hz⟩ | ⟨k, _, _, hz⟩ | ⟨p, y, hk, hy, hz, hp⟩
  · rw [pick_no hz] at ho; cases ho
  · rw [pick_no hz] at ho; cases ho
  · rw [pick_yes hk hz hp] at ho
    injection ho with ho
    have h1 : (b ++ l).length = (b.length + p) + 1 + y + 1 := by simp; omega
    have h2 : (b ++ l).getD ((b.length + p) + 1 + y) 0 = (y : Int) := by rw [show b.length + p + 1 + y = b.length + (p + 1 + y) by omega, getD_app, hy]
    obtain ⟨h3, h4⟩ := num_mk h1 h2
    rw [pick_yes h1 h3 h4, ← ho, show b.length + p + 1 + y = b.length + (p + 1 + y) by omega, List.take_length_add_append, getD_app, List.append_assoc]
theorem lower_roll : Lower ⟨#[82, 79, 76, 76]⟩ := by
  intro b l o ho
  rw [kind_ROLL] at ho ⊢
  rcases num_cases l with ⟨_, hz⟩ | ⟨k, _, _, hz⟩ | ⟨p, y, hk, hy, hz, hp⟩
  · rw [roll_no hz] at ho; cases ho
  · rw [roll_no hz] at ho; cases ho
  · rw [roll_yes hk hz hp] at ho
    injection ho with ho
    have h1 : (b ++ l).length = (b.length + p) + 1 + y + 1 := by simp; omega
    have h2 : (b ++ l).getD ((b.length + p) + 1 + y) 0 = (y : Int) := by rw [show b.length + p + 1 + y = b.length + (p + 1 + y) by omega, getD_app, hy]
    obtain ⟨h3, h4⟩ := num_mk h1 h2
    have e1 : (b ++ l.take (p + 1 + y)).drop (b.length + p + 1) = (l.take (p + 1 + y)).drop (p + 1) := by
      rw [show b.length + p + 1 = b.length + (p + 1) by omega, List.drop_length_add_append]
    rw [roll_yes h1 h3 h4, ← ho, show b.length + p + 1 + y = b.length + (p + 1 + y) by omega, List.take_length_add_append, List.take_length_add_append, e1, getD_app]
    simp [List.append_assoc]
theorem lower_all : ∀ (j : Nat) (s : ByteArray), namesL[j]? = some s → s = ⟨#[68, 69, 80, 84, 72]⟩ ∨ (Lower s ∧ ¬ s.data.toList = [68, 69, 80, 84, 72]) := by
  intro j s h
  have hm : s ∈ namesL := List.mem_of_getElem? h
  simp only [namesL, List.mem_cons, List.not_mem_nil, or_false] at hm
  rcases hm with rfl | rfl | rfl | rfl | rfl | rfl | rfl | rfl | rfl | rfl | rfl | rfl | rfl | rfl | rfl | rfl
  · exact .inr ⟨lower_perm kind_DUP, by decide⟩
  · exact .inr ⟨lower_perm kind_DROP, by decide⟩
  · exact .inr ⟨lower_perm kind_SWAP, by decide⟩
  · exact .inr ⟨lower_perm kind_OVER, by decide⟩
  · exact .inr ⟨lower_perm kind_ROT, by decide⟩
  · exact .inr ⟨lower_perm kind_mROT, by decide⟩
  · exact .inr ⟨lower_perm kind_NIP, by decide⟩
  · exact .inr ⟨lower_perm kind_TUCK, by decide⟩
  · exact .inr ⟨lower_qdup, by decide⟩
  · exact .inr ⟨lower_perm kind_2DUP, by decide⟩
  · exact .inr ⟨lower_perm kind_2DROP, by decide⟩
  · exact .inr ⟨lower_perm kind_2SWAP, by decide⟩
  · exact .inr ⟨lower_perm kind_2OVER, by decide⟩
  · exact .inr ⟨lower_pick, by decide⟩
  · exact .inr ⟨lower_roll, by decide⟩
  · exact .inl rfl
end Go.Proofs.Ytjeapcpicagobaa
