/- A slice of slices of bytes, as it is read; what the walk of SpcLays holds. -/
import Derived.Test.YtekfemkoiadipaaSpcMath
import Derived.Test.YtekfemkoiadipaaMemSep
import Derived.Test.YtekfemkoiadipaaMemIn
namespace Go.Proofs.Ytekfemkoiadipaa
open Go.ChangeShapes Go.WideShapes Go.ChangeAt Go.RowKit Go.Joins Go.Deep
set_option linter.unusedVariables false
set_option linter.unusedSimpArgs false

/-- A slice of slices of bytes. -/
def Bts (w : World) (A : Option Addr) (n c : Nat) (l : List (List UInt8)) : Prop :=
  l.length = n ∧ n ≤ c ∧ c ≤ maxLen ∧ (n = 0 ∨ ∃ g o, A = some ⟨g, o, none⟩ ∧ g < w.heap.size ∧ ∀ (i : Nat) (b : List UInt8), l[i]? = some b → ∃ B k e, w.cell? ⟨g, o + i, none⟩ = some (.slice B k e) ∧ Byt w (.slice B k e) b)
section
variable {H : Type} {enc : TypeId × Value → H} {w : World}
set_option maxRecDepth 100000 in
theorem open_bts {fuel : Nat} {v : Value} {x : DataW H × List MemPlace} (h : DataW.trod enc Try.prog w 0 (fun _ => true) true fuel 46 [v] = some x) : ∃ A n c l, v = .slice A n c ∧ Bts w A n c l := by
  have hC : Try.prog.cellsOf 22 = 1 := by kernel_rfl
  rcases open_slice Try.underlying46 h with ⟨hcs, _⟩ | ⟨a, len, cap, mm, n, D, Pl, hcs, _, hl, hm, hmm, _, hi⟩
  · simp at hcs
    exact ⟨none, 0, 0, [], hcs, rfl, Nat.le_refl _, Nat.zero_le _, .inl rfl⟩
  · simp at hcs hmm
    rw [hC] at hi
    obtain ⟨L, hL, hR⟩ := list_of len (fun i (q : List UInt8) => ∃ B k e, w.cell? (a.add (i * 1)) = some (.slice B k e) ∧ Byt w (.slice B k e) q) (fun i hilt => by
      obtain ⟨cs', hc, ht⟩ := hi i (by omega)
      obtain ⟨_, hlen, hat⟩ := World.cells?_some hc
      match cs', hlen with
      | [c0], _ =>
        obtain ⟨b, hb⟩ := open_byt ht
        obtain ⟨B, k, e, rfl⟩ := hb.slice
        refine ⟨b, B, k, e, ?_, hb⟩
        have := hat 0 (by omega)
        rw [Go.Deep.add_add] at this
        simpa using this)
    refine ⟨some a, len, cap, L, hcs, hL, hl, hm, ?_⟩
    by_cases h0 : len = 0
    · exact .inl h0
    · have hL0 : L[0]? = some (L[0]'(by omega)) := List.getElem?_eq_getElem _
      obtain ⟨B0, k0, e0, hc0, _⟩ := hR 0 _ hL0
      rw [Nat.zero_mul] at hc0
      obtain ⟨b, off, rfl, hb⟩ := plain_of hc0
      refine .inr ⟨b, off, rfl, hb, fun i q hq => ?_⟩
      obtain ⟨B, k, e, hc, hby⟩ := hR i q hq
      rw [add_at, Nat.mul_one] at hc
      exact ⟨B, k, e, hc, hby⟩
end

theorem BOwns.keep {w w' : World} {base n : Nat} {v : Value} {l : List UInt8} (h : BOwns w base v n l) (b : Below w.heap.size w w') : BOwns w' base v n l := by
  refine ⟨h.1, ?_⟩
  rcases h.2 with h2 | ⟨g, cap, cur, e, hb, hg, h3, h4, h5, h6⟩
  · exact .inl h2
  · exact .inr ⟨g, cap, cur, e, hb, (b.block g (Array.getElem?_eq_some_iff.1 hg).1).trans hg, h3, h4, h5, h6⟩
theorem BOwns.row {w w' : World} {base n b : Nat} {v x y : Value} {l : List UInt8} (h : BOwns w base v n l) (hb : Box w b x y 25) (rs : RowSet b w w') : BOwns w' base v n l := by
  have hne := hb.own_ne h
  refine ⟨h.1, ?_⟩
  rcases h.2 with h2 | ⟨g, cap, cur, e, hbg, hg, h3, h4, h5, h6⟩
  · exact .inl h2
  · have hgb : g ≠ b := by
      intro e2
      subst e
      rw [e2] at hne
      exact hne rfl
    exact .inr ⟨g, cap, cur, e, hbg, (rs.other g hgb).trans hg, h3, h4, h5, h6⟩
theorem BOwns.low {w : World} {base n : Nat} {v : Value} {l : List UInt8} (h : BOwns w base v n l) {k : Nat} (hk : w.heap.size ≤ k) : Off v.ownBlock k := by
  intro e
  rcases h.2 with ⟨rfl, _⟩ | ⟨g, cap, cur, rfl, _, hg, _⟩
  · simp [Value.ownBlock] at e
  · simp [Value.ownBlock] at e
    have := (Array.getElem?_eq_some_iff.1 hg).1
    omega

/-- What the loop holds: its memory x in a box, m in another one, and the row that it owns, none of whose blocks x reads. -/
structure St (w : World) (bx bm base : Nat) (A P : Option Addr) (L c K d : Nat) (A1 P1 : Option Addr) (L1 c1 K1 d1 : Nat) (x : PM) (va : Value) (acc : List UInt8) (a : World) : Prop where
  box : Box a bx (.slice A1 L1 c1) (.slice P1 K1 d1) 25
  mem : MemS (Off va.ownBlock) a (.agg #[.slice A1 L1 c1, .slice P1 K1 d1]) x
  own : BOwns a base va acc.length acc
  old : Box a bm (.slice A L c) (.slice P K d) 25
  bel : Below w.heap.size w a
  ne : bx ≠ bm
  lx : w.heap.size ≤ bx
  lb : w.heap.size ≤ base
  la : base ≤ a.heap.size
section
variable {w a b : World} {bx bm base : Nat} {A P : Option Addr} {L c K d : Nat} {A1 P1 : Option Addr} {L1 c1 K1 d1 : Nat} {x : PM} {va : Value} {acc : List UInt8}
theorem St.keep (h : St w bx bm base A P L c K d A1 P1 L1 c1 K1 d1 x va acc a) (k : Below a.heap.size a b) : St w bx bm base A P L c K d A1 P1 L1 c1 K1 d1 x va acc b :=
  ⟨h.box.keep k, h.mem.go (goS_below k fun _ hk _ => hk), h.own.keep k, h.old.keep k, below_then h.bel k, h.ne, h.lx, h.lb, Nat.le_trans h.la k.size⟩
theorem St.app (h : St w bx bm base A P L c K d A1 P1 L1 c1 K1 d1 x va acc a) {vb : Value} {bs : List UInt8} (ho : BOwns b base vb (acc.length + bs.length) (acc ++ bs)) (hg : a.grownBy b va.ownBlock) (hat : vb.ownBlock = va.ownBlock ∨ vb.ownBlock = some a.heap.size) : St w bx bm base A P L c K d A1 P1 L1 c1 K1 d1 x vb (acc ++ bs) b :=
  ⟨h.box.grown hg (h.box.own_ne h.own), h.mem.go (goS_off hg hat), by rw [List.length_append]; exact ho, h.old.grown hg (h.old.own_ne h.own), h.bel.grown hg h.bel.size (fun k hk => Nat.le_trans h.lb (own_from h.own k hk)), h.ne, h.lx, h.lb, Nat.le_trans h.la hg.size⟩
theorem St.put (h : St w bx bm base A P L c K d A1 P1 L1 c1 K1 d1 x va acc a) {A2 P2 : Option Addr} {L2 c2 K2 d2 : Nat} {y : PM} (hy : MemS (Off va.ownBlock) a (.agg #[.slice A2 L2 c2, .slice P2 K2 d2]) y) : St w bx bm base A P L c K d A2 P2 L2 c2 K2 d2 y va acc ((a.setCell ⟨bx, 0, none⟩ (.slice A2 L2 c2)).setCell ⟨bx, 1, none⟩ (.slice P2 K2 d2)) := by
  have rs := row_put a bx (.slice A2 L2 c2) (.slice P2 K2 d2)
  exact ⟨h.box.put _ _, hy.row h.box rs, h.own.row h.box rs, h.old.row rs h.ne.symm, (h.bel.setCell h.lx _).setCell h.lx _, h.ne, h.lx, h.lb, Nat.le_trans h.la (Nat.le_of_eq rs.size.symm)⟩
end
theorem zpackS {S : Nat → Prop} {w W0 : World} {g : Nat} {A P : Option Addr} {L c K d : Nat} {m : PM} (h : Box w g (.slice none 0 0) (.slice none 0 0) 25) (k : MemS S w (.agg #[.slice A L c, .slice P K d]) m) (b : Below W0.heap.size W0 w) (hg : W0.heap.size ≤ g) : ∃ wf, ((w.setCell ⟨g, 0, none⟩ (.slice A L c)).setCell ⟨g, 1, none⟩ (.slice P K d)) = wf ∧ Hid (Box wf g (.slice A L c) (.slice P K d) 25 ∧ MemS S wf (.agg #[.slice A L c, .slice P K d]) m) ∧ Below W0.heap.size W0 wf :=
  ⟨_, rfl, ⟨h.put _ _, k.row h (row_put _ _ _ _)⟩, (b.setCell hg _).setCell hg _⟩
theorem apackS {S : Nat → Prop} {w W0 : World} {A P : Option Addr} {L c K d : Nat} {m : PM} (k : MemS S w (.agg #[.slice A L c, .slice P K d]) m) (b : Below W0.heap.size W0 w) : ∃ wf, w.alloc (.cells #[.slice A L c, .slice P K d] 25) = wf ∧ Hid (Box wf w.heap.size (.slice A L c) (.slice P K d) 25 ∧ MemS S wf (.agg #[.slice A L c, .slice P K d]) m) ∧ Below W0.heap.size W0 wf :=
  ⟨_, rfl, ⟨box_new _ _ _ _, k.go (goS_below (al_one _ _) fun _ hk _ => hk)⟩, since_aa b _⟩

/-- What the loop's memory is. -/
def Inv (j L K pn : Nat) (m x : PM) (acc : List UInt8) : Prop := x.1 = splice m.1 pn acc ∧ pn + acc.length ≤ L ∧ x.1.length = L ∧ x.2.length ≤ K + j ∧ acc.length ≤ 100 * j
theorem inv_zero {L K pn : Nat} {m : PM} (h1 : m.1.length = L) (h2 : m.2.length = K) (hp : pn ≤ L) : Inv 0 L K pn m m [] := ⟨by simp [splice], by simpa using hp, h1, by omega, by simp⟩
theorem Inv.yes {j L K pn : Nat} {m x : PM} {acc b : List UInt8} (h : Inv j L K pn m x acc) (hm : m.1.length = L) (hr : roomB L ((pn : Int) + (acc.length : Int)) b.length = true) (hb : b.length ≤ 100) : Inv (j + 1) L K pn m (layM x ((pn : Int) + (acc.length : Int)) b) (acc ++ b) := by
  obtain ⟨h1, h2, h3, h4, h5⟩ := h
  have r := (roomB_iff _ _ _).1 hr
  refine ⟨?_, by simp; omega, (layM_len _ _ _).trans h3, ?_, by simp; omega⟩
  · rw [layM_row (by rw [h3]; exact (endB_iff _ _).2 (by omega)) (by rw [h3]; exact hr), h1, show ((pn : Int) + (acc.length : Int)).toNat = pn + acc.length by omega]
    exact splice_two _ _ _ _ (by omega)
  · have := layM_pats x ((pn : Int) + (acc.length : Int)) b
    omega
theorem Inv.no {j L K pn : Nat} {m x : PM} {acc : List UInt8} (h : Inv j L K pn m x acc) : Inv (j + 1) L K pn m x acc := by
  obtain ⟨h1, h2, h3, h4, h5⟩ := h
  exact ⟨h1, h2, h3, by omega, by omega⟩

def restAt (A : Option Addr) (k c : Nat) : Option Addr := if c = k then A else A.map (·.add (k * 1))
theorem Byt.part {w : World} {A : Option Addr} {L c : Nat} {l : List UInt8} (h : Byt w (.slice A L c) l) {a n : Nat} (hn : a + n ≤ L) : Byt w (.slice (restAt A a c) n (c - a)) ((l.drop a).take n) := by
  have hl := h.len
  obtain ⟨A', c', e, h1, h2, h3⟩ := h
  injection e with e1 e2 e3
  subst e1 e3
  have hlen : ((l.drop a).take n).length = n := by simp; omega
  refine ⟨_, c - a, by rw [hlen], by rw [hlen]; omega, by omega, ?_⟩
  by_cases hc : c = a
  · left
    have : n = 0 := by omega
    subst this
    simp [u8s]
  · unfold restAt
    rw [if_neg hc]
    rcases h3 with h3 | ⟨g, o, rfl, hg, hcc⟩
    · left
      have := congrArg List.length h3
      rw [u8s_len] at this
      simp at this
      subst this
      simp [u8s]
    · have p := Lies.part (w := w) (g := g) (o := o) (.inr ⟨g, o, rfl, hg, hcc⟩) a n
      simp only [Option.map_some, add_at, Nat.mul_one]
      simpa [u8s, List.map_take, List.map_drop] using p
theorem run_part (A : Option Addr) (L c a k : Nat) (w : World) (h : a + k ≤ c) :
    (Instr.slice 22 (.slice A L c) (some (.int .i64 (a : Int))) (some (.int .i64 ((a : Int) + (k : Int)))) none).run Try.prog w = .ok (.slice (restAt A a c) k (c - a)) w := by
  have hz : (sizeOf 5).run Try.prog w = .ok 1 w := by kernel_rfl
  have e : ((a : Int) + (k : Int)).toNat = a + k := by omega
  have h1 : (0 : Int) ≤ (a : Int) + (k : Int) := by omega
  have h2 : (a : Int) + (k : Int) ≤ (c : Int) := by omega
  have hs : (Instr.sliceBound (.int .i64 (a : Int)) (a + k) .sliceB).run Try.prog w = .ok a w := by
    have := run_sliceBound (P := Try.prog) (w := w) .i64 (a : Int) (a + k) .sliceB (by omega) (by omega)
    rw [Int.toNat_natCast] at this
    exact this
  simp [Instr.slice, run_underlying Try.underlying22, Instr.sliceBounds, run_sliceBound, hz, restAt, e, h1, h2, hs]
theorem run_head (A : Option Addr) (L c a : Nat) (w : World) (h : a ≤ c) :
    (Instr.slice 22 (.slice A L c) none (some (.int .i64 (a : Int))) none).run Try.prog w = .ok (.slice (restAt A 0 c) a c) w := by
  have hz : (sizeOf 5).run Try.prog w = .ok 1 w := by kernel_rfl
  simp [Instr.slice, run_underlying Try.underlying22, Instr.sliceBounds, run_sliceBound, hz, restAt, h]
theorem run_tail (A : Option Addr) (L c a k : Nat) (w : World) (h : a + k ≤ L) :
    (Instr.slice 22 (.slice A L c) (some (.int .i64 ((a : Int) + (k : Int)))) none none).run Try.prog w = .ok (.slice (restAt A (a + k) c) (L - (a + k)) (c - (a + k))) w := by
  have hz : (sizeOf 5).run Try.prog w = .ok 1 w := by kernel_rfl
  have e : ((a : Int) + (k : Int)).toNat = a + k := by omega
  have h1 : (0 : Int) ≤ (a : Int) + (k : Int) := by omega
  have h2 : (a : Int) + (k : Int) ≤ (L : Int) := by omega
  simp [Instr.slice, run_underlying Try.underlying22, Instr.sliceBounds, run_sliceBound, hz, restAt, e, h1, h2]
theorem splice_mid {α : Type} (l c : List α) (o : Nat) (h : o + c.length ≤ l.length) : ((splice l o c).drop o).take c.length = c := by
  apply List.ext_getElem?
  intro i
  by_cases hi : i < c.length
  · rw [List.getElem?_take, if_pos hi, List.getElem?_drop, splice_get _ _ _ _ h, if_pos (by omega)]
    congr 1
    omega
  · rw [List.getElem?_take, if_neg hi, List.getElem?_eq_none (by omega)]
theorem splice_head {α : Type} (l c : List α) (o : Nat) (h : o + c.length ≤ l.length) : ((splice l o c).drop 0).take o = (l.drop 0).take o := by
  apply List.ext_getElem?
  intro i
  rw [List.getElem?_take, List.getElem?_take]
  split
  · rw [List.getElem?_drop, List.getElem?_drop, splice_get _ _ _ _ h, if_neg (by omega)]
  · rfl
theorem splice_tail {α : Type} (l c : List α) (o n : Nat) (h : o + c.length ≤ l.length) : ((splice l o c).drop (o + c.length)).take n = (l.drop (o + c.length)).take n := by
  apply List.ext_getElem?
  intro i
  rw [List.getElem?_take, List.getElem?_take]
  split
  · rw [List.getElem?_drop, List.getElem?_drop, splice_get _ _ _ _ h, if_neg (by omega)]
  · rfl
end Go.Proofs.Ytekfemkoiadipaa
