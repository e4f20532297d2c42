/- Rows of frames, of what is asked for, of handlers: structs of numbers, a cell each. -/
import Derived.Test.YtbighilgkmfemaaDoorVmBase
namespace Go.Proofs.YtbighilgkmfemaaDoor
open Go.RowKit
set_option linter.unusedVariables false
set_option linter.unusedSimpArgs false

/-- A slice of structs: each lies as its cells, one behind the other. -/
def Rws {α : Type} (enc : α → List Value) (w : World) (v : Value) (l : List α) : Prop := ∃ A c, v = .slice A l.length c ∧ l.length ≤ c ∧ c ≤ maxLen ∧ Lies w A (l.flatMap enc)
theorem Rws.keep {α : Type} {enc : α → List Value} {w w' : World} {v : Value} {l : List α} (h : Rws enc w v l) (b : Below w.heap.size w w') : Rws enc w' v l := by
  obtain ⟨A, c, h1, h2, h3, h4⟩ := h
  exact ⟨A, c, h1, h2, h3, h4.keep b⟩
theorem rws_nil {α : Type} (enc : α → List Value) (w : World) : Rws enc w (.slice none 0 0) [] := ⟨none, 0, rfl, Nat.le_refl _, Nat.zero_le _, .inl rfl⟩
theorem Rws.len {α : Type} {enc : α → List Value} {w : World} {A : Option Addr} {n c : Nat} {l : List α} (h : Rws enc w (.slice A n c) l) : l.length = n := by
  obtain ⟨A', c', e, _⟩ := h
  injection e with _ e _
  exact e.symm
theorem Rws.lies {α : Type} {enc : α → List Value} {w : World} {A : Option Addr} {n c : Nat} {l : List α} (h : Rws enc w (.slice A n c) l) : Lies w A (l.flatMap enc) := by
  obtain ⟨A', c', e, _, _, hl⟩ := h
  injection e with e _ _
  subst e
  exact hl
theorem flat_at {α : Type} {enc : α → List Value} {s : Nat} (hs : ∀ x, (enc x).length = s) : ∀ {l : List α} {k : Nat} (hk : k < l.length) {i : Nat}, i < s → (l.flatMap enc)[k * s + i]? = (enc l[k])[i]?
  | q :: l, 0, _, i, hi => by
    rw [List.flatMap_cons, Nat.zero_mul, Nat.zero_add, List.getElem?_append_left (by rw [hs]; exact hi)]
    rfl
  | q :: l, k + 1, hk, i, hi => by
    have := flat_at hs (l := l) (k := k) (by simpa using hk) hi
    rw [List.flatMap_cons, List.getElem?_append_right (by rw [hs, Nat.add_mul]; omega), hs]
    rw [show (k + 1) * s + i - s = k * s + i by rw [Nat.add_mul]; omega]
    exact this
theorem Rws.cell {α : Type} {enc : α → List Value} {s : Nat} (hs : ∀ x, (enc x).length = s) (h0 : 0 < s) {w : World} {A : Option Addr} {n c : Nat} {l : List α} (h : Rws enc w (.slice A n c) l) {k : Nat} (hk : k < l.length) :
    ∃ g o, A = some ⟨g, o, none⟩ ∧ g < w.heap.size ∧ ∀ i v, i < s → (enc l[k])[i]? = some v → w.cell? ⟨g, o + (k * s + i), none⟩ = some v := by
  rcases h.lies with h | ⟨g, o, e, hg, hc⟩
  · have h1 := flat_at hs hk h0
    rw [h] at h1
    have h2 : (enc l[k])[0]? = some ((enc l[k])[0]'(by rw [hs]; exact h0)) := List.getElem?_eq_getElem _
    rw [h2] at h1
    cases h1
  · exact ⟨g, o, e, hg, fun i v hi hv => hc _ _ (by rw [flat_at hs hk hi]; exact hv)⟩
structure Fm where
  d : Int
  r : Int
  ip : Int
deriving DecidableEq
def fmE (q : Fm) : List Value := [.int .i64 q.d, .int .i64 q.r, .int .i64 q.ip]
abbrev Fms (w : World) (v : Value) (l : List Fm) : Prop := Rws fmE w v l
theorem fm_cells {w : World} {A : Option Addr} {n c : Nat} {l : List Fm} (h : Fms w (.slice A n c) l) {k : Nat} (hk : k < l.length) : ∃ g o, A = some ⟨g, o, none⟩ ∧ w.cell? ⟨g, o + k * 3, none⟩ = some (.int .i64 l[k].d) ∧ w.cell? ⟨g, o + k * 3 + 1, none⟩ = some (.int .i64 l[k].r) ∧ w.cell? ⟨g, o + k * 3 + 2, none⟩ = some (.int .i64 l[k].ip) := by
  obtain ⟨g, o, e, _, hc⟩ := Rws.cell (s := 3) (fun _ => rfl) (by decide) h hk
  exact ⟨g, o, e, hc 0 _ (by decide) rfl, hc 1 _ (by decide) rfl, hc 2 _ (by decide) rfl⟩
def fmSame (a b : List Fm) : Bool := decide (a = b)
theorem fm_self (a : List Fm) : fmSame a a = true := by unfold fmSame; simp
structure Rq where
  kind : Int
  arg : Int
  hand : Int
  rank : Int
  delay : Int
  id : Int
deriving DecidableEq
def rqE (q : Rq) : List Value := [.int .i64 q.kind, .int .i64 q.arg, .int .i64 q.hand, .int .i64 q.rank, .int .i64 q.delay, .int .i64 q.id]
abbrev Rqs (w : World) (v : Value) (l : List Rq) : Prop := Rws rqE w v l
def rqSame (a b : List Rq) : Bool := decide (a = b)
theorem rq_self (a : List Rq) : rqSame a a = true := by unfold rqSame; simp
structure Hn where
  xt : Int
  fuel : Int
  strikes : Int
  out : Bool
deriving DecidableEq
def hnE (q : Hn) : List Value := [.int .i64 q.xt, .int .i64 q.fuel, .int .i64 q.strikes, .bool q.out]
abbrev Hns (w : World) (v : Value) (l : List Hn) : Prop := Rws hnE w v l
theorem hn_cells {w : World} {A : Option Addr} {n c : Nat} {l : List Hn} (h : Hns w (.slice A n c) l) {k : Nat} (hk : k < l.length) : ∃ g o, A = some ⟨g, o, none⟩ ∧ w.cell? ⟨g, o + k * 4, none⟩ = some (.int .i64 l[k].xt) ∧ w.cell? ⟨g, o + k * 4 + 1, none⟩ = some (.int .i64 l[k].fuel) ∧ w.cell? ⟨g, o + k * 4 + 2, none⟩ = some (.int .i64 l[k].strikes) ∧ w.cell? ⟨g, o + k * 4 + 3, none⟩ = some (.bool l[k].out) := by
  obtain ⟨g, o, e, _, hc⟩ := Rws.cell (s := 4) (fun _ => rfl) (by decide) h hk
  exact ⟨g, o, e, hc 0 _ (by decide) rfl, hc 1 _ (by decide) rfl, hc 2 _ (by decide) rfl, hc 3 _ (by decide) rfl⟩
def hnSame (a b : List Hn) : Bool := decide (a = b)
theorem hn_self (a : List Hn) : hnSame a a = true := by unfold hnSame; simp
end Go.Proofs.YtbighilgkmfemaaDoor
