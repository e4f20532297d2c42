/- Contracts of bytes.Equal, samePatch, slices.EqualFunc and Same. -/
import Derived.Test.YtakeaocmiblbeaaMemWalksF
import Derived.Test.YtakeaocmiblbeaaProg
import Derived.Laws.IdiomStrings
import Derived.Laws.BytesString
namespace Go.Proofs.Ytakeaocmiblbeaa
open Go.RowKit

/-- Bytes as a string. -/
def strB (l : List UInt8) : ByteArray := ⟨l.toArray⟩
theorem strB_inj {a b : List UInt8} (h : strB a = strB b) : a = b := by
  have : a.toArray = b.toArray := congrArg ByteArray.data h
  simpa using this
theorem str_ne {a b : ByteArray} (h : a ≠ b) : (a.toList == b.toList) = false := by
  rw [beq_eq_false_iff_ne]
  intro e
  rw [ByteArray.toList_eq, ByteArray.toList_eq] at e
  apply h
  cases a
  cases b
  congr 1
  exact Array.toList_inj.1 e
theorem Byt.conv {w : World} {A : Option Addr} {n c : Nat} {l : List UInt8} (h : Byt w (.slice A n c) l) : (convert 46 9 (.slice A n c)).run Try.prog w = .ok (.string (strB l)) w := by
  have hl := h.len
  subst hl
  rcases h.lies with e | ⟨g, o, rfl, _, hc⟩
  · have : l = [] := by
      have := congrArg List.length e
      rw [u8s_len] at this
      exact List.eq_nil_of_length_eq_zero this
    subst this
    rw [run_convert_bytes_string w 46 9 5 _ _ _ Try.underlying46 Try.underlying5 Try.underlying9]
    cases A <;> simp [Conv.bytesToString, loadCells, strB]
    all_goals rfl
  · refine run_convert_bytes_back w 46 9 5 ⟨g, o, none⟩ c l Try.underlying46 Try.underlying5 Try.underlying9 fun j hj => ?_
    rw [add_at]
    exact hc j _ (u8s_at hj)

theorem take_eq_step {α : Type} {a b : List α} {j : Nat} {p q : α} (h : a.take j = b.take j) (hp : a[j]? = some p) (hq : b[j]? = some q) (e : p = q) : a.take (j + 1) = b.take (j + 1) := by
  have h1 := (List.getElem?_eq_some_iff.1 hp)
  have h2 := (List.getElem?_eq_some_iff.1 hq)
  obtain ⟨i1, e1⟩ := h1
  obtain ⟨i2, e2⟩ := h2
  rw [List.take_succ_eq_append_getElem i1, List.take_succ_eq_append_getElem i2, h, e1, e2, e]
end Go.Proofs.Ytakeaocmiblbeaa
