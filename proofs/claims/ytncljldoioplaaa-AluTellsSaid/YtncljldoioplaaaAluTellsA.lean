/- The rows of names that the statement AluTells asks of: the document's names, and any one behind them. -/
import Derived.Test.YtncljldoioplaaaAluRefD
import Derived.Laws.OwnMore
import Derived.Deep.AppendLies
namespace Go.Proofs.Ytncljldoioplaaa
open Go.RowKit

def names1 : List ByteArray := [⟨#[78, 69, 71, 65, 84, 69]⟩, ⟨#[65, 66, 83]⟩, ⟨#[73, 78, 86, 69, 82, 84]⟩, ⟨#[49, 43]⟩, ⟨#[49, 45]⟩, ⟨#[50, 42]⟩, ⟨#[50, 47]⟩, ⟨#[48, 61]⟩, ⟨#[48, 60]⟩, ⟨#[48, 60, 62]⟩, ⟨#[48, 62]⟩, ⟨#[67, 69, 76, 76, 83]⟩, ⟨#[67, 69, 76, 76, 43]⟩, ⟨#[65, 76, 73, 71, 78, 69, 68]⟩]
def names2 : List ByteArray := [⟨#[43]⟩, ⟨#[45]⟩, ⟨#[42]⟩, ⟨#[47]⟩, ⟨#[77, 79, 68]⟩, ⟨#[65, 78, 68]⟩, ⟨#[79, 82]⟩, ⟨#[88, 79, 82]⟩, ⟨#[76, 83, 72, 73, 70, 84]⟩, ⟨#[82, 83, 72, 73, 70, 84]⟩, ⟨#[77, 73, 78]⟩, ⟨#[77, 65, 88]⟩, ⟨#[61]⟩, ⟨#[60, 62]⟩, ⟨#[60]⟩, ⟨#[62]⟩, ⟨#[60, 61]⟩, ⟨#[62, 61]⟩, ⟨#[85, 60]⟩, ⟨#[85, 62]⟩]

set_option maxRecDepth 100000 in
set_option maxHeartbeats 1000000 in
theorem names1_any (w : World) :
    Calls Try.prog 12 #[] w fun e w' => e = .returned (.slice (some ⟨w.heap.size, 0, none⟩) 14 14) ∧ w' = w.alloc (.cells #[.string ⟨#[78, 69, 71, 65, 84, 69]⟩, .string ⟨#[65, 66, 83]⟩, .string ⟨#[73, 78, 86, 69, 82, 84]⟩, .string ⟨#[49, 43]⟩, .string ⟨#[49, 45]⟩, .string ⟨#[50, 42]⟩, .string ⟨#[50, 47]⟩, .string ⟨#[48, 61]⟩, .string ⟨#[48, 60]⟩, .string ⟨#[48, 60, 62]⟩, .string ⟨#[48, 62]⟩, .string ⟨#[67, 69, 76, 76, 83]⟩, .string ⟨#[67, 69, 76, 76, 43]⟩, .string ⟨#[65, 76, 73, 71, 78, 69, 68]⟩] 9) := by
  go_enter Try.func12, Try.ntmps12
  go_wp2
  go_ret
  exact ⟨rfl, rfl⟩

set_option maxRecDepth 100000 in
set_option maxHeartbeats 1000000 in
theorem names2_any (w : World) :
    Calls Try.prog 15 #[] w fun e w' => e = .returned (.slice (some ⟨w.heap.size, 0, none⟩) 20 20) ∧ w' = w.alloc (.cells #[.string ⟨#[43]⟩, .string ⟨#[45]⟩, .string ⟨#[42]⟩, .string ⟨#[47]⟩, .string ⟨#[77, 79, 68]⟩, .string ⟨#[65, 78, 68]⟩, .string ⟨#[79, 82]⟩, .string ⟨#[88, 79, 82]⟩, .string ⟨#[76, 83, 72, 73, 70, 84]⟩, .string ⟨#[82, 83, 72, 73, 70, 84]⟩, .string ⟨#[77, 73, 78]⟩, .string ⟨#[77, 65, 88]⟩, .string ⟨#[61]⟩, .string ⟨#[60, 62]⟩, .string ⟨#[60]⟩, .string ⟨#[62]⟩, .string ⟨#[60, 61]⟩, .string ⟨#[62, 61]⟩, .string ⟨#[85, 60]⟩, .string ⟨#[85, 62]⟩] 9) := by
  go_enter Try.func15, Try.ntmps15
  go_wp2
  go_ret
  exact ⟨rfl, rfl⟩

theorem made1 (w : World) : (w.alloc (.cells #[.string ⟨#[78, 69, 71, 65, 84, 69]⟩, .string ⟨#[65, 66, 83]⟩, .string ⟨#[73, 78, 86, 69, 82, 84]⟩, .string ⟨#[49, 43]⟩, .string ⟨#[49, 45]⟩, .string ⟨#[50, 42]⟩, .string ⟨#[50, 47]⟩, .string ⟨#[48, 61]⟩, .string ⟨#[48, 60]⟩, .string ⟨#[48, 60, 62]⟩, .string ⟨#[48, 62]⟩, .string ⟨#[67, 69, 76, 76, 83]⟩, .string ⟨#[67, 69, 76, 76, 43]⟩, .string ⟨#[65, 76, 73, 71, 78, 69, 68]⟩] 9)).ownsRow w.heap.size 9 1 (.slice (some ⟨w.heap.size, 0, none⟩) 14 14) 14 (names1.map Value.string) :=
  World.ownsRow_lit w #[.string ⟨#[78, 69, 71, 65, 84, 69]⟩, .string ⟨#[65, 66, 83]⟩, .string ⟨#[73, 78, 86, 69, 82, 84]⟩, .string ⟨#[49, 43]⟩, .string ⟨#[49, 45]⟩, .string ⟨#[50, 42]⟩, .string ⟨#[50, 47]⟩, .string ⟨#[48, 61]⟩, .string ⟨#[48, 60]⟩, .string ⟨#[48, 60, 62]⟩, .string ⟨#[48, 62]⟩, .string ⟨#[67, 69, 76, 76, 83]⟩, .string ⟨#[67, 69, 76, 76, 43]⟩, .string ⟨#[65, 76, 73, 71, 78, 69, 68]⟩] 14 (Nat.le_refl _) (by unfold maxLen; omega) rfl
theorem made2 (w : World) : (w.alloc (.cells #[.string ⟨#[43]⟩, .string ⟨#[45]⟩, .string ⟨#[42]⟩, .string ⟨#[47]⟩, .string ⟨#[77, 79, 68]⟩, .string ⟨#[65, 78, 68]⟩, .string ⟨#[79, 82]⟩, .string ⟨#[88, 79, 82]⟩, .string ⟨#[76, 83, 72, 73, 70, 84]⟩, .string ⟨#[82, 83, 72, 73, 70, 84]⟩, .string ⟨#[77, 73, 78]⟩, .string ⟨#[77, 65, 88]⟩, .string ⟨#[61]⟩, .string ⟨#[60, 62]⟩, .string ⟨#[60]⟩, .string ⟨#[62]⟩, .string ⟨#[60, 61]⟩, .string ⟨#[62, 61]⟩, .string ⟨#[85, 60]⟩, .string ⟨#[85, 62]⟩] 9)).ownsRow w.heap.size 9 1 (.slice (some ⟨w.heap.size, 0, none⟩) 20 20) 20 (names2.map Value.string) :=
  World.ownsRow_lit w #[.string ⟨#[43]⟩, .string ⟨#[45]⟩, .string ⟨#[42]⟩, .string ⟨#[47]⟩, .string ⟨#[77, 79, 68]⟩, .string ⟨#[65, 78, 68]⟩, .string ⟨#[79, 82]⟩, .string ⟨#[88, 79, 82]⟩, .string ⟨#[76, 83, 72, 73, 70, 84]⟩, .string ⟨#[82, 83, 72, 73, 70, 84]⟩, .string ⟨#[77, 73, 78]⟩, .string ⟨#[77, 65, 88]⟩, .string ⟨#[61]⟩, .string ⟨#[60, 62]⟩, .string ⟨#[60]⟩, .string ⟨#[62]⟩, .string ⟨#[60, 61]⟩, .string ⟨#[62, 61]⟩, .string ⟨#[85, 60]⟩, .string ⟨#[85, 62]⟩] 20 (Nat.le_refl _) (by unfold maxLen; omega) rfl

/-- A block of strings, in a world. -/
def StrRow (g : Nat) (l : List ByteArray) (w : World) : Prop := g < w.heap.size ∧ ∀ (k : Nat) (s : ByteArray), l[k]? = some s → w.cell? ⟨g, k, none⟩ = some (.string s)
theorem StrRow.keep {g : Nat} {l : List ByteArray} {w w' : World} (h : StrRow g l w) (b : Below w.heap.size w w') : StrRow g l w' :=
  ⟨Nat.lt_of_lt_of_le h.1 b.size, fun k s hk => (b.cell (p := ⟨g, k, none⟩) h.1).trans (h.2 k s hk)⟩
theorem StrRow.of {w : World} {base : Nat} {v : Value} {n : Nat} {l : List ByteArray} {s : ByteArray} (h : w.ownsRow base 9 1 v (n + 1) (l.map Value.string ++ [.string s])) (hl : l.length = n) {m : Nat} (hm : n + 1 = m) :
    ∃ g cap, v = .slice (some ⟨g, 0, none⟩) m cap ∧ StrRow g (l ++ [s]) w := by
  subst hm
  obtain ⟨g, cap, rfl, _, hg⟩ := h.form (by omega)
  refine ⟨g, cap, rfl, hg, fun k t hk => ?_⟩
  have hlt : k < n + 1 := by
    have := (List.getElem?_eq_some_iff.1 hk).1
    simp at this
    omega
  rw [h.cellAt k (by omega)]
  have e : l.map Value.string ++ [Value.string s] = (l ++ [s]).map Value.string := by simp
  rw [e, List.getElem?_map, hk]
  rfl
theorem cell_one (w : World) (s : ByteArray) : ∀ j u, [Value.string s][j]? = some u → (w.alloc (.cells #[.string s] 9)).cell? ((⟨w.heap.size, 0, none⟩ : Addr).add j) = some u := by
  intro j u h
  have hj : j = 0 := by
    have := (List.getElem?_eq_some_iff.1 h).1
    simp at this
    omega
  subst hj
  rw [Addr.add_lit, World.cell?_alloc_new]
  simpa using h
theorem grown_below {w w1 w3 : World} {o o' : Obj} (b1 : Below w.heap.size w w1) (g : ((w1.alloc o).alloc o').grownBy w3 (some w1.heap.size)) : Below w.heap.size w w3 :=
  ((b1.alloc b1.size o).alloc (by have := b1.size; simp; omega) o').grown g (by have := b1.size; simp; omega) (fun k hk => by cases hk; exact b1.size)
theorem divC_cell (l : List UInt8) (b : Int) : cellR (divC l b) := by
  unfold divC dc cellR
  split
  · split <;> omega
  · omega
end Go.Proofs.Ytncljldoioplaaa
