/- The head of all statements of layer 3: the document's examples come out. -/
import Derived.Test.YtekfemkoiadipaaMemRefJ
namespace Go.Proofs.Ytekfemkoiadipaa
open Go.RowKit

def sm : PM := newF 16
def sx : PM := storeF sm 8 258
theorem s2 : sm.1.length = 16 ∧ sm.2.length = 0 ∧ sx.1.length = 16 ∧ sx.2.length = 1 := by decide +kernel
theorem s3 : cellC 16 8 = 0 ∧ cellC 16 9 = -9 ∧ cellC 16 4 = -23 := by decide +kernel
/-- A memory lies in a block of its own. -/
def At (b : Nat) (A P : Option Addr) (L c K d : Nat) (m : PM) (w : World) : Prop := Box w b (.slice A L c) (.slice P K d) 25 ∧ IsMem w (.agg #[.slice A L c, .slice P K d]) m
theorem At.keep {b : Nat} {A P : Option Addr} {L c K d : Nat} {m : PM} {w w' : World} (h : At b A P L c K d m w) (k : Below w.heap.size w w') : At b A P L c K d m w' := ⟨h.1.keep k, h.2.keep k⟩
theorem At.mem {b : Nat} {A P : Option Addr} {L c K d : Nat} {m : PM} {w : World} (h : At b A P L c K d m w) : IsMem w (.agg #[.slice A L c, .slice P K d]) m := h.2
theorem At.use {b : Nat} {A P : Option Addr} {L c K d : Nat} {m : PM} {w : World} (h : At b A P L c K d m w) : w.cell? ⟨b, 0, none⟩ = some (.slice A L c) ∧ w.cell? ⟨b, 1, none⟩ = some (.slice P K d) := ⟨h.1.use.1, h.1.use.2.1⟩
theorem At.lt {b : Nat} {A P : Option Addr} {L c K d : Nat} {m : PM} {w : World} (h : At b A P L c K d m w) : b < w.heap.size := h.1.lt
theorem at_new {A P : Option Addr} {L c K d : Nat} {m : PM} {w : World} (h : IsMem w (.agg #[.slice A L c, .slice P K d]) m) : At w.heap.size A P L c K d m (w.alloc (.cells #[.slice A L c, .slice P K d] 25)) := ⟨box_new _ _ _ _, h.keep ((Below.refl _ _).alloc (Nat.le_refl _) _)⟩
theorem al_one (w : World) (o : Obj) : Below w.heap.size w (w.alloc o) := (Below.refl _ _).alloc (Nat.le_refl _) o
theorem al_then {w1 w2 : World} {o : Obj} (b : Below (w1.alloc o).heap.size (w1.alloc o) w2) : Below w1.heap.size w1 w2 := (al_one w1 o).trans (b.mono (by simp))

end Go.Proofs.Ytekfemkoiadipaa
