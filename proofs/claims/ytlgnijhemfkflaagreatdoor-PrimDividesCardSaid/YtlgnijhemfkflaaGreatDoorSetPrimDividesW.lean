/- Part 23. -/
import Derived.Test.YtlgnijhemfkflaaGreatDoorSetPrimDividesZero
import Derived.Test.YtlgnijhemfkflaaGreatDoorSetPrimDividesV
import Derived.Test.YtlgnijhemfkflaaGreatDoorSetPrimDividesR
import Derived.Test.YtlgnijhemfkflaaGreatDoorSetPrimDividesD
set_option linter.unusedVariables false
set_option linter.unusedSimpArgs false

namespace Go.Proofs.YtlgnijhemfkflaaGreatDoor
open Go.RowKit
set_option linter.unusedVariables false
set_option linter.unusedSimpArgs false
theorem Row.len {w : World} {A : Option Addr} {n c : Nat} {l : List Int} (h : Row w A n c l) : l.length = n := h.1
theorem same_true (A B : Option Addr) (n c m d : Nat) (l r : List Int) (w : World) (hn : n ≤ 50000) (hm : m ≤ 50000) (HL : Hid (Row w A n c l)) (HR : Hid (Row w B m d r)) (he : Hid (l = r)) :
    Calls Tryz.prog 23 #[.slice A n c, .slice B m d] w fun e w' => e = .returned (.bool true) ∧ Below w.heap.size w w' := by
  have h := same_atS A B n c m d l r w (by omega) (by omega) HL HR;rw [sameB_of he.out] at h;exact h
theorem Row.cast {w : World} {A : Option Addr} {n m c : Nat} {l : List Int} (h : Row w A n c l) (e : n = m) : Row w A m c l := e ▸ h
end Go.Proofs.YtlgnijhemfkflaaGreatDoor

namespace Go.Proofs.YtlgnijhemfkflaaGreatDoor
open Go.RowKit
set_option linter.unusedVariables false
set_option linter.unusedSimpArgs false
def NewA (B : Nat) (A' : Option Addr) (n' : Nat) (A : Option Addr) (n : Nat) : Prop := (A' = A ∧ n' = n) ∨ ∀ q, A' = some q → B ≤ q.block
theorem NewA.refl (B : Nat) (A : Option Addr) (n : Nat) : NewA B A n A n := .inl ⟨rfl, rfl⟩
theorem NewA.le {B B' n' n : Nat} {A' A : Option Addr} (h : NewA B A' n' A n) (hb : B' ≤ B) : NewA B' A' n' A n := h.imp (fun x => x) fun h q e => Nat.le_trans hb (h q e)
theorem NewA.trans {B n'' n' n : Nat} {A'' A' A : Option Addr} (h : NewA B A'' n'' A' n') (g : NewA B A' n' A n) : NewA B A'' n'' A n := by
  rcases h with ⟨rfl, rfl⟩ | h
  · exact g
  · exact .inr h
def MemP (P : Option Addr) (K : Nat) (B : Nat) (w : World) (v : Value) (m : PM) : Prop := IsMem w v m ∧ ∀ b P' K' d', v = .agg #[b, .slice P' K' d'] → NewA B P' K' P K
theorem MemP.le {P : Option Addr} {K B B' : Nat} {w : World} {v : Value} {m : PM} (h : MemP P K B w v m) (hb : B' ≤ B) : MemP P K B' w v m := ⟨h.1, fun b P' K' d' e => (h.2 b P' K' d' e).le hb⟩
theorem MemP.keep {P : Option Addr} {K B : Nat} {w w' : World} {v : Value} {m : PM} (h : MemP P K B w v m) (b : Below w.heap.size w w') : MemP P K B w' v m := ⟨h.1.keep b, h.2⟩
theorem MemP.row2 {P Pb A : Option Addr} {K B B' b n c k d : Nat} {t : TypeId} {w w' : World} {v : Value} {m : PM} (h : MemP P K B w v m) (hb : B' ≤ B) (hx : Box w b (.slice A n c) (.slice Pb k d) t) (rs : RowSet b w w') : MemP P K B' w' v m := ⟨h.1.row hx rs, (h.le hb).2⟩
theorem memP_same {P : Option Addr} {B K d : Nat} {w : World} {x : Value} {m : PM} (h : IsMem w (.agg #[x, .slice P K d]) m) : MemP P K B w (.agg #[x, .slice P K d]) m := ⟨h, fun b P' K' d' e => by
  injection e with e
  simp at e;obtain ⟨_, e, e2, _⟩ := e
  exact .inl ⟨e.symm, e2.symm⟩⟩
theorem memP_new {P : Option Addr} {K0 B g o K d : Nat} {w : World} {x : Value} {m : PM} (h : IsMem w (.agg #[x, .slice (some ⟨g, o, none⟩) K d]) m) (hg : B ≤ g) : MemP P K0 B w (.agg #[x, .slice (some ⟨g, o, none⟩) K d]) m := ⟨h, fun b P' K' d' e => by
  injection e with e
  simp at e;obtain ⟨_, e, _⟩ := e;exact .inr fun q hq => by
    rw [← e] at hq;injection hq with hq
    rw [← hq]
    exact hg⟩
end Go.Proofs.YtlgnijhemfkflaaGreatDoor
