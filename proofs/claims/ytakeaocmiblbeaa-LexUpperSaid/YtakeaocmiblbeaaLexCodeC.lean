/- Contracts of lex's turner, of the closure that it makes, of Upper and Alike. -/
import Derived.Test.YtakeaocmiblbeaaLexCodeB
import Derived.Laws.IdiomStrings
import Derived.Laws.BytesString
import Derived.Deep.QuietTactic
import Derived.BigQuiet
namespace Go.Proofs.Ytakeaocmiblbeaa
open Go.RowKit
set_option linter.unusedVariables false
set_option linter.unusedSimpArgs false

theorem ret_u8 {a b : Int} (h : a = b) : Ending.returned (.int .u8 a) = .returned (.int .u8 b) := by rw [h]

/-- The boxes that the closure holds. -/
def Tn (w : World) (p q r : Addr) : Prop := w.cell? p = some (.int .u8 97) ∧ w.cell? q = some (.int .u8 122) ∧ w.cell? r = some (.int .u8 65)
/-- .. in blocks of a world. -/
def TnB (w : World) (p q r : Nat) : Prop := Tn w ⟨p, 0, none⟩ ⟨q, 0, none⟩ ⟨r, 0, none⟩ ∧ p < w.heap.size ∧ q < w.heap.size ∧ r < w.heap.size
theorem TnB.keep {w w' : World} {p q r : Nat} (h : TnB w p q r) (b : Below w.heap.size w w') : TnB w' p q r := by
  obtain ⟨⟨h1, h2, h3⟩, h4, h5, h6⟩ := h
  have hz := b.size
  exact ⟨⟨(b.cell (p := ⟨p, 0, none⟩) h4).trans h1, (b.cell (p := ⟨q, 0, none⟩) h5).trans h2, (b.cell (p := ⟨r, 0, none⟩) h6).trans h3⟩, by omega, by omega, by omega⟩

theorem al_new (w : World) (o : Obj) : (w.alloc o).heap[w.heap.size]? = some o := by
  show (w.heap.push o)[w.heap.size]? = _
  simp
theorem three_size (w : World) (a b c : Obj) : (((w.alloc a).alloc b).alloc c).heap.size = w.heap.size + 3 := by
  show (((w.heap.push a).push b).push c).size = _
  simp
theorem three_cell (w : World) (u v x : Value) (t t' t'' : TypeId) (j : Nat) (y : Value) (hj : j < 3) (hy : #[u, v, x][j]? = some y) : (((w.alloc (.cells #[u] t)).alloc (.cells #[v] t')).alloc (.cells #[x] t'')).cell? ⟨w.heap.size + j, 0, none⟩ = some y := by
  have h0 : (w.alloc (.cells #[u] t)).heap[w.heap.size]? = some (.cells #[u] t) := al_new _ _
  have h1 : ((w.alloc (.cells #[u] t)).alloc (.cells #[v] t')).heap[w.heap.size + 1]? = some (.cells #[v] t') := by
    have := al_new (w.alloc (.cells #[u] t)) (.cells #[v] t')
    rw [World.size_alloc] at this; exact this
  have h2 : (((w.alloc (.cells #[u] t)).alloc (.cells #[v] t')).alloc (.cells #[x] t'')).heap[w.heap.size + 2]? = some (.cells #[x] t'') := by
    have := al_new ((w.alloc (.cells #[u] t)).alloc (.cells #[v] t')) (.cells #[x] t'')
    rw [World.size_alloc, World.size_alloc] at this; exact this
  have a1 : w.heap.size < (w.alloc (.cells #[u] t)).heap.size := by rw [World.size_alloc]; omega
  have a2 : w.heap.size < ((w.alloc (.cells #[u] t)).alloc (.cells #[v] t')).heap.size := by rw [World.size_alloc, World.size_alloc]; omega
  have a3 : w.heap.size + 1 < ((w.alloc (.cells #[u] t)).alloc (.cells #[v] t')).heap.size := by rw [World.size_alloc, World.size_alloc]; omega
  have k0 := (Below.heap_alloc _ (.cells #[x] t'') _ a2).trans ((Below.heap_alloc _ (.cells #[v] t') _ a1).trans h0)
  have k1 := (Below.heap_alloc _ (.cells #[x] t'') _ a3).trans h1
  match j, hj with
  | 0, _ => unfold World.cell?; rw [Nat.add_zero, k0]; exact hy
  | 1, _ => unfold World.cell?; rw [k1]; exact hy
  | 2, _ => unfold World.cell?; rw [h2]; exact hy
set_option maxHeartbeats 400000 in
theorem turner_any (w : World) :
    Calls Try.prog 26 #[.int .u8 97, .int .u8 122, .int .u8 65] w fun e w' => ∃ p q r : Nat, e = .returned (.func (.func 30) #[] #[.pointer (some ⟨p, 0, none⟩), .pointer (some ⟨q, 0, none⟩), .pointer (some ⟨r, 0, none⟩)]) ∧ TnB w' p q r ∧ Below w.heap.size w w' := by
  have hmf : ∀ (fn : Fn) (first cap : Array Value) (w : World), (Instr.makeFunc fn first cap).run Try.prog w = .ok (.func fn first cap) w := fun _ _ _ _ => rfl
  go_enter Try.func26, Try.ntmps26
  go_wp2
  go_ret
  refine ⟨_, _, _, rfl, ⟨⟨?_, ?_, ?_⟩, ?_, ?_, ?_⟩, (((Below.refl _ _).alloc (Nat.le_refl _) _).alloc (by simp) _).alloc (by simp; omega) _⟩
  · exact three_cell w _ _ _ _ _ _ 0 (.int .u8 97) (by omega) rfl
  · exact three_cell w _ _ _ _ _ _ 1 (.int .u8 122) (by omega) rfl
  · exact three_cell w _ _ _ _ _ _ 2 (.int .u8 65) (by omega) rfl
  · rw [three_size]; omega
  · rw [three_size]; omega
  · rw [three_size]; omega

set_option maxHeartbeats 1000000 in
theorem turn_any (c : UInt8) (p q r : Addr) (w : World) (h : Tn w p q r) :
    Calls Try.prog 30 #[.int .u8 (c.toNat : Int), .pointer (some p), .pointer (some q), .pointer (some r)] w fun e w' => e = .returned (.int .u8 ((upC c).toNat : Int)) ∧ w = w' := by
  obtain ⟨h1, h2, h3⟩ := h
  have hc := c.toNat_lt
  by_cases h97 : 97 ≤ c.toNat
  · have g97 : decide ((c.toNat : Int) < 97) = false := by simp; omega
    by_cases h122 : c.toNat ≤ 122
    · have g122 : decide ((122 : Int) < (c.toNat : Int)) = false := by simp; omega
      have hx := upC_low h97 h122
      have e1 : IntKind.u8.wrap ((c.toNat : Int) - 97) = (c.toNat : Int) - 97 := by rw [IntKind.wrap_u8]; omega
      have e2 : IntKind.u8.wrap ((c.toNat : Int) - 97 + 65) = (c.toNat : Int) - 97 + 65 := by rw [IntKind.wrap_u8]; omega
      have HX : Hid (((upC c).toNat : Int) = (c.toNat : Int) - 97 + 65) := by show _ = _; omega
      clear hx
      go_enter Try.func30, Try.ntmps30
      go_wp2
      go_ret
      exact ⟨ret_u8 (by rw [HX.out]; try omega), rfl⟩
    · have g122 : (122 : Int) < (c.toNat : Int) := by omega
      have H := Lib.hid (upC_same (c := c) (by omega))
      clear h97 h122
      go_enter Try.func30, Try.ntmps30
      go_wp2
      go_ret
      exact ⟨ret_u8 (by rw [H.out]), rfl⟩
  · have g97 : (c.toNat : Int) < 97 := by omega
    have H := Lib.hid (upC_same (c := c) (by omega))
    clear h97
    go_enter Try.func30, Try.ntmps30
    go_wp2
    go_ret
    exact ⟨ret_u8 (by rw [H.out]), rfl⟩

/-- A row of bytes in block g, with room behind it. -/
def Rw (w : World) (g C : Nat) (l : List UInt8) : Prop := ∃ X : Array Value, w.heap[g]? = some (.cells ((u8s l).toArray ++ X) 5 (C, C + 1)) ∧ l.length ≤ C ∧ C ≤ maxLen
theorem Rw.lt {w : World} {g C : Nat} {l : List UInt8} (h : Rw w g C l) : g < w.heap.size := by
  obtain ⟨X, h1, _⟩ := h
  exact (Array.getElem?_eq_some_iff.1 h1).1
theorem Rw.use {w : World} {g C : Nat} {l : List UInt8} (h : Rw w g C l) {k : Nat} {c : UInt8} (hk : l[k]? = some c) : w.cell? ⟨g, k, none⟩ = some (.int .u8 (c.toNat : Int)) ∧ w.frozen? ⟨g, k, none⟩ = false := by
  obtain ⟨X, h1, h2, h3⟩ := h
  have hkl := (List.getElem?_eq_some_iff.1 hk).1
  have e : ((u8s l).toArray ++ X)[k]? = some (.int .u8 (c.toNat : Int)) := by
    rw [Array.getElem?_append_left (by simpa [u8s] using hkl)]
    simp [u8s, hk]
  refine ⟨by simp [World.cell?, h1, e], ?_⟩
  simp [World.frozen?, h1]
  omega
theorem Rw.keep {w w' : World} {g C : Nat} {l : List UInt8} (h : Rw w g C l) (b : Below w.heap.size w w') : Rw w' g C l := by
  have hl := h.lt
  obtain ⟨X, h1, h2⟩ := h
  exact ⟨X, (b.block g hl).trans h1, h2⟩
theorem Rw.set {w : World} {g C : Nat} {l : List UInt8} (h : Rw w g C l) {k : Nat} (hk : k < l.length) (c : UInt8) : Rw (w.setCell ⟨g, k, none⟩ (.int .u8 (c.toNat : Int))) g C (l.set k c) := by
  obtain ⟨X, h1, h2, h3⟩ := h
  obtain ⟨hlt, hc⟩ := Array.getElem?_eq_some_iff.1 h1
  refine ⟨X, ?_, by rw [List.length_set]; exact h2, h3⟩
  show (w.heap.modify g _)[g]? = _
  rw [Array.getElem?_eq_getElem (by rw [Array.size_modify]; exact hlt), Array.getElem_modify_self, hc]
  simp [u8s, List.set_append_left, hk, List.map_set]
theorem Rw.byt {w : World} {g C : Nat} {l : List UInt8} (h : Rw w g C l) : Byt w (.slice (some ⟨g, 0, none⟩) l.length C) l := by
  have hlt := h.lt
  refine ⟨_, _, rfl, h.choose_spec.2.1, h.choose_spec.2.2, .inr ⟨g, 0, rfl, hlt, fun j v hv => ?_⟩⟩
  unfold u8s at hv
  rw [List.getElem?_map] at hv
  cases hj : l[j]? with
  | none => rw [hj] at hv; simp at hv
  | some c =>
    rw [hj] at hv
    have : v = .int .u8 (c.toNat : Int) := by simpa using hv.symm
    rw [this, Nat.zero_add]
    exact (h.use hj).1

set_option maxRecDepth 100000 in
theorem conv_own (t : List UInt8) (w : World) (ht : t.length ≤ 1000000) : ∃ c w', (convert 9 46 (.string (strB t))).run Try.prog w = .ok (.slice (some ⟨w.heap.size, 0, none⟩) t.length c) w' ∧ Rw w' w.heap.size c t ∧ Below w.heap.size w w' := by
  have hsz : (strB t).size = t.length := rfl
  have h := run_bytes_of_string (P := Try.prog) w 9 46 5 (strB t) Try.underlying9 Try.underlying46 Try.underlying5
  rw [hsz] at h
  have hge := grownCap_ge w t.length 0 5
  refine ⟨_, _, h, ?_, (Below.refl _ w).drew.alloc (Nat.le_refl _) _⟩
  have hz : (bytesRow (strB t) (grownCap w t.length 0 5)).size = grownCap w t.length 0 5 := by
    unfold bytesRow
    rw [Array.size_append, Array.size_map, Array.size_replicate]
    show t.length + _ = _
    rw [hsz]
    omega
  rw [hz]
  refine ⟨Array.replicate (grownCap w t.length 0 5 - (strB t).size) (.int .u8 0), ?_, hge, grownCap_le_maxLen _ _ _ _ (by unfold maxLen; omega)⟩
  show (w.heap.push _)[w.heap.size]? = _
  simp [bytesRow, strB, u8s]
theorem conv_back {w : World} {g n C : Nat} {l : List UInt8} (h : Byt w (.slice (some ⟨g, 0, none⟩) n C) l) : (convert 46 9 (.slice (some ⟨g, 0, none⟩) n C)).run Try.prog w = .ok (.string (strB l)) w := by
  obtain ⟨A, c, e, _, _, hli⟩ := h
  injection e with e1 e2 e3
  subst e1 e2 e3
  refine run_convert_bytes_back w 46 9 5 ⟨g, 0, none⟩ _ l Try.underlying46 Try.underlying5 Try.underlying9 fun j hj => ?_
  rcases hli with h | ⟨g', o, e, _, hc⟩
  · have := congrArg List.length h
    rw [u8s_len] at this
    simp at this
    subst this
    simp at hj
  · injection e with e
    have := hc j (.int .u8 ((l[j]).toNat : Int)) (by unfold u8s; rw [List.getElem?_map, List.getElem?_eq_getElem hj]; rfl)
    rw [e, add_at]
    exact this

set_option maxRecDepth 100000 in
set_option maxHeartbeats 4000000 in
theorem upper_any (l : List UInt8) (w : World) (hl : l.length ≤ 100000) : Calls Try.prog 17 #[.string (strB l)] w fun e w' => e = .returned (.string (strB (upperF l))) ∧ Below w.heap.size w w' := by
  have hsz : (strB l).size = l.length := rfl
  have HL : Hid (l.length ≤ 100000) := hl
  go_enter Try.func17, Try.ntmps17
  go_wp2_with fail
  refine (turner_any w).mono ?_
  rintro e w1 ⟨p, q, r, rfl, ht, b1⟩
  have HT1 := Lib.hid ht
  have HB1 := Lib.hid b1
  obtain ⟨C, w2, hcv, hrw, b2⟩ := conv_own l w1 (by omega)
  have HR := Lib.hid hrw
  have HT2 := Lib.hid (ht.keep b2)
  have HB2 := Lib.hid (below_then b1 b2)
  have HG : Hid (w.heap.size ≤ w1.heap.size) := b1.size
  have HTG : Hid (p < w1.heap.size ∧ q < w1.heap.size ∧ r < w1.heap.size) := ht.2
  obtain ⟨g, eg⟩ : ∃ g, w1.heap.size = g := ⟨_, rfl⟩
  rw [eg] at hcv HR HG HTG
  clear ht b1 hrw b2 HT1 HB1
  go_wp2_with fail
  clear hcv eg
  go_loopw [12] (fun s12 wr => ∃ k : Nat, s12 = .int .i64 (k : Int) ∧ k ≤ l.length ∧ Hid (Rw wr g C (upperF (l.take k) ++ l.drop k)) ∧ Hid (TnB wr p q r) ∧ Hid (Below w.heap.size w wr)) (fun s12 _ => l.length - (intOf s12).toNat)
  case atStart => exact ⟨0, rfl, Nat.zero_le _, HR, HT2, HB2⟩
  case round =>
    clear HR HT2 HB2
    obtain ⟨k, rfl, hk, HR, HT, HB⟩ := hrel
    by_cases hkl : k < l.length
    · have hkl' : (k : Int) < (l.length : Int) := by omega
      obtain ⟨c, hc⟩ : ∃ c, l[k]? = some c := ⟨_, List.getElem?_eq_getElem hkl⟩
      have hlen : (upperF (l.take k)).length = k := by rw [upper_len, List.length_take]; omega
      have hd : l.drop k = c :: l.drop (k + 1) := by rw [List.drop_eq_getElem_cons hkl, (List.getElem?_eq_some_iff.1 hc).2]
      have hat : (upperF (l.take k) ++ l.drop k)[k]? = some c := by rw [List.getElem?_append_right (by omega), hlen, Nat.sub_self, hd]; rfl
      have hset : (upperF (l.take k) ++ l.drop k).set k (upC c) = upperF (l.take (k + 1)) ++ l.drop (k + 1) := by
        rw [List.set_append_right _ _ (by omega), hlen, Nat.sub_self, hd, upper_step hc]
        simp
      obtain ⟨u1, u2⟩ := HR.out.use hat
      have HN := HR.out.set (k := k) (by simp [hlen]; omega) (upC c)
      rw [hset] at HN
      have HN := Lib.hid HN
      have HC := Lib.hid (turn_any c _ _ _ wr HT.out.1)
      have HT2 := Lib.hid (show TnB (wr.setCell ⟨g, k, none⟩ (.int .u8 ((upC c).toNat : Int))) p q r from by
        obtain ⟨⟨h1, h2, h3⟩, h4, h5, h6⟩ := HT.out
        obtain ⟨g1, g2, g3⟩ := HTG.out
        refine ⟨⟨?_, ?_, ?_⟩, by simpa using h4, by simpa using h5, by simpa using h6⟩
        · rw [World.cell?_setCell_other _ _ _ _ (by simp <;> omega)]; exact h1
        · rw [World.cell?_setCell_other _ _ _ _ (by simp <;> omega)]; exact h2
        · rw [World.cell?_setCell_other _ _ _ _ (by simp <;> omega)]; exact h3)
      have HB2 := Lib.hid (HB.out.setCell (p := ⟨g, k, none⟩) HG.out (.int .u8 ((upC c).toNat : Int)))
      clear hc hlen hd hat hset HR HT
      go_wp2_with fail
      refine (HC.out).mono ?_
      rintro e w3 ⟨rfl, rfl⟩
      go_wp2_with fail
      go_roundw
      case rel => exact ⟨k + 1, by simp, by omega, HN, HT2, HB2⟩
      case measure => simp [intOf]; omega
    · obtain rfl : k = l.length := by omega
      have hT : upperF (l.take l.length) ++ l.drop l.length = upperF l := by rw [List.take_length, List.drop_length, List.append_nil]
      rw [hT] at HR
      have hby := HR.out.byt
      rw [upper_len] at hby
      have hcb : (convert 46 9 (.slice (some ⟨g, 0, none⟩) l.length C)).run Try.prog wr = .ok (.string (strB (upperF l))) wr := conv_back hby
      clear hkl hk hT hby
      go_wp2_with fail
      go_ret
      exact ⟨rfl, HB.out⟩
end Go.Proofs.Ytakeaocmiblbeaa
