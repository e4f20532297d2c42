/- Contracts of Mark, Free, New and Store of package mem. -/
import Derived.Test.YtekfemkoiadipaaMemRefP
import Derived.Deep.RegionHeld3
namespace Go.Proofs.Ytekfemkoiadipaa
open Go.RowKit

/-- A memory's two slices. -/
theorem IsMem.slices {w : World} {x y : Value} {m : PM} (h : IsMem w (.agg #[x, y]) m) : ∃ A n c P k d, x = .slice A n c ∧ y = .slice P k d := by
  obtain ⟨A, c, P, d, e, _, _⟩ := h.parts
  injection e with e
  simp at e
  exact ⟨A, _, c, P, _, d, e.1, e.2⟩

/-- What a call's frame holds while it calls: its memory in one block, its result in the next. -/
def Fr (w : World) (A P : Option Addr) (L c K d : Nat) (w' : World) : Prop := Below w.heap.size w w' ∧ Box w' w.heap.size (.slice A L c) (.slice P K d) 25 ∧ Box w' (w.heap.size + 1) (.slice none 0 0) (.slice none 0 0) 25
theorem Fr.keep {w w1 w2 : World} {A P : Option Addr} {L c K d : Nat} (h : Fr w A P L c K d w1) (b : Below w1.heap.size w1 w2) : Fr w A P L c K d w2 := ⟨below_then h.1 b, h.2.1.keep b, h.2.2.keep b⟩
theorem Fr.bel {w w1 : World} {A P : Option Addr} {L c K d : Nat} (h : Fr w A P L c K d w1) : Below w.heap.size w w1 := h.1
theorem Fr.drew {w w1 : World} {A P : Option Addr} {L c K d : Nat} (h : Fr w A P L c K d w1) : Fr w A P L c K d w1.drew := ⟨h.1.drew, h.2.1, h.2.2⟩
theorem fr_two {w w1 : World} {A P : Option Addr} {L c K d : Nat} (b : Below ((w.alloc (.cells #[.slice A L c, .slice P K d] 25)).alloc (.cells #[.slice none 0 0, .slice none 0 0] 25)).heap.size ((w.alloc (.cells #[.slice A L c, .slice P K d] 25)).alloc (.cells #[.slice none 0 0, .slice none 0 0] 25)) w1) : Fr w A P L c K d w1 :=
  ⟨below_two b, (box_two w _ _ _ _ _ _).1.keep b, (box_two w _ _ _ _ _ _).2.keep b⟩
theorem fr_new (w : World) (A P : Option Addr) (L c K d : Nat) : Fr w A P L c K d ((w.alloc (.cells #[.slice A L c, .slice P K d] 25)).alloc (.cells #[.slice none 0 0, .slice none 0 0] 25)) :=
  fr_two (Below.refl _ _)
theorem Fr.put {w w1 : World} {A P : Option Addr} {L c K d : Nat} (h : Fr w A P L c K d w1) (x y : Value) : Below w.heap.size w ((w1.setCell ⟨w.heap.size + 1, 0, none⟩ x).setCell ⟨w.heap.size + 1, 1, none⟩ y) := (h.1.setCell (by simp) _).setCell (by simp) _
theorem Fr.mem {w w1 : World} {A P : Option Addr} {L c K d : Nat} (h : Fr w A P L c K d w1) {v : Value} {m : PM} (k : IsMem w1 v m) (x y : Value) : IsMem ((w1.setCell ⟨w.heap.size + 1, 0, none⟩ x).setCell ⟨w.heap.size + 1, 1, none⟩ y) v m := k.row h.2.2 (row_put _ _ _ _)

def newF (n : Int) : PM := if newOk n = true then (List.replicate n.toNat 0, []) else ([], [])
theorem made_u8 (n : Nat) : (madeCells (Value.int .u8 0).cells n) = (u8s (List.replicate n 0)).toArray := by
  apply Array.ext
  · simp [madeCells, u8s]
  · intro i h1 h2
    have e : i % 1 = 0 := by omega
    simp [madeCells, u8s, Value.cells, e]
def storeF (m : PM) (p n : Int) : PM := if cellC m.1.length p = 0 then writeF m p (cellBytes n) else m
theorem store_ok {L : Nat} {p : Int} (h : cellC L p = 0) : okB L p 8 = true := by
  cases e : okB L p 8 with
  | true => rfl
  | false => rw [cellC_no e] at h; cases h

/-- Its frame, whatever its result holds. -/
def Fw (w : World) (A P : Option Addr) (L c K d : Nat) (w' : World) : Prop := Below w.heap.size w w' ∧ Box w' w.heap.size (.slice A L c) (.slice P K d) 25 ∧ ∃ A0 n0 c0 P0 k0 d0, Box w' (w.heap.size + 1) (.slice A0 n0 c0) (.slice P0 k0 d0) 25
theorem Fw.bel {w w1 : World} {A P : Option Addr} {L c K d : Nat} (h : Fw w A P L c K d w1) : Below w.heap.size w w1 := h.1
theorem Fw.res {w w1 : World} {A P : Option Addr} {L c K d : Nat} (h : Fw w A P L c K d w1) : ∃ A0 n0 c0 P0 k0 d0, Box w1 (w.heap.size + 1) (.slice A0 n0 c0) (.slice P0 k0 d0) 25 := h.2.2
theorem fwS {w w1 : World} {A P : Option Addr} {L c K d : Nat} (h : Fr w A P L c K d w1) : w1.cell? ⟨w.heap.size, 0, none⟩ = some (.slice A L c) ∧ w1.cell? ⟨w.heap.size, 1, none⟩ = some (.slice P K d) ∧ Fw w A P L c K d w1 :=
  ⟨h.2.1.use.1, h.2.1.use.2.1, h.1, h.2.1, _, _, _, _, _, _, h.2.2⟩
theorem fwK {w w1 w2 : World} {A P : Option Addr} {L c K d : Nat} (h : w1.cell? ⟨w.heap.size, 0, none⟩ = some (.slice A L c) ∧ w1.cell? ⟨w.heap.size, 1, none⟩ = some (.slice P K d) ∧ Fw w A P L c K d w1) (b : Below w1.heap.size w1 w2) : w2.cell? ⟨w.heap.size, 0, none⟩ = some (.slice A L c) ∧ w2.cell? ⟨w.heap.size, 1, none⟩ = some (.slice P K d) ∧ Fw w A P L c K d w2 := by
  obtain ⟨_, _, h1, h2, A0, n0, c0, P0, k0, d0, h3⟩ := h
  have h2' := h2.keep b
  exact ⟨h2'.use.1, h2'.use.2.1, below_then h1 b, h2', _, _, _, _, _, _, h3.keep b⟩
theorem fwP {w w1 : World} {A P : Option Addr} {L c K d : Nat} (h : w1.cell? ⟨w.heap.size, 0, none⟩ = some (.slice A L c) ∧ w1.cell? ⟨w.heap.size, 1, none⟩ = some (.slice P K d) ∧ Fw w A P L c K d w1) (A' P' : Option Addr) (L' c' K' d' : Nat) : ((w1.setCell ⟨w.heap.size + 1, 0, none⟩ (.slice A' L' c')).setCell ⟨w.heap.size + 1, 1, none⟩ (.slice P' K' d')).cell? ⟨w.heap.size, 0, none⟩ = some (.slice A L c) ∧ ((w1.setCell ⟨w.heap.size + 1, 0, none⟩ (.slice A' L' c')).setCell ⟨w.heap.size + 1, 1, none⟩ (.slice P' K' d')).cell? ⟨w.heap.size, 1, none⟩ = some (.slice P K d) ∧ Fw w A P L c K d ((w1.setCell ⟨w.heap.size + 1, 0, none⟩ (.slice A' L' c')).setCell ⟨w.heap.size + 1, 1, none⟩ (.slice P' K' d')) := by
  obtain ⟨_, _, h1, h2, A0, n0, c0, P0, k0, d0, h3⟩ := h
  have h2' := h2.row (row_put w1 (w.heap.size + 1) (.slice A' L' c') (.slice P' K' d')) (by omega)
  exact ⟨h2'.use.1, h2'.use.2.1, (h1.setCell (by simp) _).setCell (by simp) _, h2', _, _, _, _, _, _, h3.put _ _⟩

/-- Write, with its memory's slices told. -/
theorem write_sl (v u : Value) (m : PM) (b : List UInt8) (p : Int) (w : World) (h : IsMem w v m) (hu : Byt w u b) (hL : m.1.length ≤ 65536) (hK : m.2.length < 1000) (hb : b.length ≤ 65536) :
    Calls Try.prog 24 #[v, .int .i64 p, u] w fun e w' => ∃ A L c P K d, e = .returned (.tuple #[.agg #[.slice A L c, .slice P K d], .int .i64 (codeF (okB m.1.length p b.length))]) ∧ IsMem w' (.agg #[.slice A L c, .slice P K d]) (writeF m p b) ∧ Below w.heap.size w w' := by
  refine (write_any v u m b p w h hu hL hK hb).mono fun e w' ⟨x, y, he, hm, hw⟩ => ?_
  obtain ⟨A, n, c, P, k, d, rfl, rfl⟩ := hm.slices
  exact ⟨A, n, c, P, k, d, he, hm, hw⟩

end Go.Proofs.Ytekfemkoiadipaa
