/- The document's row of names, and what holds of each. -/
import Derived.Test.YtjeapcpicagobaaStkN
import Derived.Test.YtjeapcpicagobaaStkMath
namespace Go.Proofs.Ytjeapcpicagobaa
open Go.RowKit
set_option linter.unusedVariables false
set_option linter.unusedSimpArgs false

def namesL : List ByteArray := [⟨#[68, 85, 80]⟩, ⟨#[68, 82, 79, 80]⟩, ⟨#[83, 87, 65, 80]⟩, ⟨#[79, 86, 69, 82]⟩, ⟨#[82, 79, 84]⟩, ⟨#[45, 82, 79, 84]⟩, ⟨#[78, 73, 80]⟩, ⟨#[84, 85, 67, 75]⟩, ⟨#[63, 68, 85, 80]⟩, ⟨#[50, 68, 85, 80]⟩, ⟨#[50, 68, 82, 79, 80]⟩, ⟨#[50, 83, 87, 65, 80]⟩, ⟨#[50, 79, 86, 69, 82]⟩, ⟨#[80, 73, 67, 75]⟩, ⟨#[82, 79, 76, 76]⟩, ⟨#[68, 69, 80, 84, 72]⟩]

set_option maxRecDepth 100000 in
set_option maxHeartbeats 1000000 in
theorem names_lit (w : World) :
    Calls Try.prog 14 #[] w fun e w' => e = .returned (.slice (some ⟨w.heap.size, 0, none⟩) 16 16) ∧ w' = w.alloc (.cells #[.string ⟨#[68, 85, 80]⟩, .string ⟨#[68, 82, 79, 80]⟩, .string ⟨#[83, 87, 65, 80]⟩, .string ⟨#[79, 86, 69, 82]⟩, .string ⟨#[82, 79, 84]⟩, .string ⟨#[45, 82, 79, 84]⟩, .string ⟨#[78, 73, 80]⟩, .string ⟨#[84, 85, 67, 75]⟩, .string ⟨#[63, 68, 85, 80]⟩, .string ⟨#[50, 68, 85, 80]⟩, .string ⟨#[50, 68, 82, 79, 80]⟩, .string ⟨#[50, 83, 87, 65, 80]⟩, .string ⟨#[50, 79, 86, 69, 82]⟩, .string ⟨#[80, 73, 67, 75]⟩, .string ⟨#[82, 79, 76, 76]⟩, .string ⟨#[68, 69, 80, 84, 72]⟩] 9) := by
  go_enter Try.func14, Try.ntmps14
  go_wp2
  go_ret
  exact ⟨rfl, rfl⟩

/-- A block of strings, in a world. -/
def StrRow (g : Nat) (l : List ByteArray) (w : World) : Prop := g < w.heap.size ∧ ∀ (k : Nat) (s : ByteArray), l[k]? = some s → w.cell? ⟨g, k, none⟩ = some (.string s)
theorem StrRow.keep {g : Nat} {l : List ByteArray} {w w' : World} (h : StrRow g l w) (b : Below w.heap.size w w') : StrRow g l w' :=
  ⟨Nat.lt_of_lt_of_le h.1 b.size, fun k s hk => (b.cell (p := ⟨g, k, none⟩) h.1).trans (h.2 k s hk)⟩

theorem names_any (w : World) :
    Calls Try.prog 14 #[] w fun e w' => ∃ g, e = .returned (.slice (some ⟨g, 0, none⟩) 16 16) ∧ StrRow g namesL w' ∧ Below w.heap.size w w' := by
  refine (names_lit w).mono ?_
  rintro e w' ⟨rfl, rfl⟩
  refine ⟨_, rfl, ⟨by simp, fun k s hk => ?_⟩, below_one _ _⟩
  rw [World.cell?_alloc_new]
  have e : (namesL.map Value.string)[k]? = some (.string s) := by rw [List.getElem?_map, hk]; rfl
  rw [← Array.getElem?_toList]
  exact e

/-- What is so of each word: too few cells, or at most two more than ahead. -/
def Word (s : ByteArray) : Prop := ∀ l : List Int, resF (kindF s.data.toList) l = .under ∨ ∃ o, resF (kindF s.data.toList) l = .out o ∧ o.length ≤ l.length + 2
theorem word_perm {s : ByteArray} {k : Nat} {idx : List Nat} (h : kindF s.data.toList = .perm k idx) (hi : idx.length ≤ k + 2) : Word s := by
  intro l
  rw [h]
  by_cases hk : l.length < k
  · exact .inl (if_pos hk)
  · exact .inr ⟨_, if_neg hk, by simp [leftL]; omega⟩
theorem word_all : ∀ (j : Nat) (s : ByteArray), namesL[j]? = some s → Word s := by
  intro j s h
  have hm : s ∈ namesL := List.mem_of_getElem? h
  simp only [namesL, List.mem_cons, List.not_mem_nil, or_false] at hm
  rcases hm with rfl | rfl | rfl | rfl | rfl | rfl | rfl | rfl | rfl | rfl | rfl | rfl | rfl | rfl | rfl | rfl
  · exact word_perm kind_DUP (by decide)
  · exact word_perm kind_DROP (by decide)
  · exact word_perm kind_SWAP (by decide)
  · exact word_perm kind_OVER (by decide)
  · exact word_perm kind_ROT (by decide)
  · exact word_perm kind_mROT (by decide)
  · exact word_perm kind_NIP (by decide)
  · exact word_perm kind_TUCK (by decide)
  · intro l
    rw [kind_qDUP]
    by_cases hk : l.length = 0
    · exact .inl (if_pos hk)
    · exact .inr ⟨_, if_neg hk, by split <;> simp⟩
  · exact word_perm kind_2DUP (by decide)
  · exact word_perm kind_2DROP (by decide)
  · exact word_perm kind_2SWAP (by decide)
  · exact word_perm kind_2OVER (by decide)
  · intro l
    rw [kind_PICK]
    cases hk : numOk l with
    | false => exact .inl (by simp [resF, hk])
    | true => exact .inr ⟨_, by simp only [resF, hk, if_true]; rfl, by simp; omega⟩
  · intro l
    rw [kind_ROLL]
    cases hk : numOk l with
    | false => exact .inl (by simp [resF, hk])
    | true => exact .inr ⟨_, by simp only [resF, hk, if_true]; rfl, by simp; omega⟩
  · intro l
    rw [kind_DEPTH]
    exact .inr ⟨_, rfl, by simp⟩
end Go.Proofs.Ytjeapcpicagobaa
