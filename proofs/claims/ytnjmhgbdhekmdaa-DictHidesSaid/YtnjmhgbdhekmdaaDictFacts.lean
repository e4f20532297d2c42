/- Plain facts on dictionaries: what is added, hidden and shown again is found. -/
import Derived.Test.YtnjmhgbdhekmdaaSetC
namespace Go.Proofs.Ytnjmhgbdhekmdaa
open Go.RowKit
set_option linter.unusedVariables false
set_option linter.unusedSimpArgs false

theorem lastI_ge {p : Wr → Bool} {l : List Wr} {i : Nat} (hi : i < l.length) (h : p l[i] = true) : ∃ m, lastI p l = some m ∧ i ≤ m := by
  induction l generalizing i with
  | nil => exact absurd hi (by simp)
  | cons q r ih =>
    cases i with
    | zero =>
      cases hr : lastI p r with
      | none => exact ⟨0, by rw [lastI_cons_none hr, if_pos (show p q = true from h)], Nat.le_refl _⟩
      | some k => exact ⟨k + 1, by show (match lastI p r with | some i => some (i + 1) | none => _) = _; rw [hr], by omega⟩
    | succ i =>
      obtain ⟨m, hm, hle⟩ := ih (i := i) (by simpa using hi) h
      exact ⟨m + 1, by show (match lastI p r with | some i => some (i + 1) | none => _) = _; rw [hm], by omega⟩
theorem lastI_is {p : Wr → Bool} {l : List Wr} {m : Nat} (h : lastI p l = some m) : ∃ hm : m < l.length, p l[m] = true := by
  induction l generalizing m with
  | nil => cases h
  | cons q r ih =>
    cases hr : lastI p r with
    | none =>
      rw [lastI_cons_none hr] at h
      by_cases hq : p q = true
      · rw [if_pos hq] at h
        injection h with h
        subst h
        exact ⟨by simp, hq⟩
      · rw [if_neg hq] at h; cases h
    | some k =>
      have h' : lastI p (q :: r) = some (k + 1) := by show (match lastI p r with | some i => some (i + 1) | none => _) = _; rw [hr]
      rw [h'] at h
      injection h with h
      subst h
      obtain ⟨hm, hp⟩ := ih hr
      exact ⟨by simpa using hm, hp⟩
theorem alike_refl (a : List UInt8) : alikeF a a = true := alike_yes rfl
theorem upC_nat : ∀ k : Fin 256, upC (upC (UInt8.ofNat k.1)) = upC (UInt8.ofNat k.1) := by decide +kernel
theorem upC_upC (c : UInt8) : upC (upC c) = upC c := by
  have h := upC_nat ⟨c.toNat, c.toNat_lt⟩
  simpa using h
theorem upper_upper (a : List UInt8) : upperF (upperF a) = upperF a := by
  unfold upperF
  rw [List.map_map]
  refine List.map_congr_left fun c _ => ?_
  exact upC_upC c
theorem alike_upper (a b : List UInt8) : alikeF a (upperF b) = alikeF a b := by unfold alikeF; rw [upper_upper]
theorem alike_comm (a b : List UInt8) : alikeF a b = alikeF b a := by
  unfold alikeF
  by_cases h : upperF a = upperF b
  · rw [h]
  · have h' : ¬ upperF b = upperF a := fun e => h e.symm
    simp [h, h']
theorem find_snoc (l : List Wr) (q : Wr) (nm : List UInt8) : findI (l ++ [q]) nm = if seenP nm q = true then some l.length else findI l nm := lastI_snoc _ _ _
theorem find_upper (l : List Wr) (nm : List UInt8) : findI l (upperF nm) = findI l nm := by
  have : seenP (upperF nm) = seenP nm := by
    funext q
    unfold seenP
    rw [alike_upper]
  unfold findI
  rw [this]
theorem add_ok {l : List Wr} {nm : List UInt8} {fl lim : Int} (h : addC l nm fl lim = 0) : namedC nm = 0 ∧ flagB fl = true ∧ roomB l lim = true := by
  have h1 : namedC nm = 0 := by
    by_cases h1 : namedC nm = 0
    · exact h1
    · unfold addC at h; rw [if_pos h1] at h; exact h
  have h2 : flagB fl = true := by
    cases h2 : flagB fl with
    | true => rfl
    | false => unfold addC at h; rw [if_neg (by simp [h1]), if_pos h2] at h; cases h
  refine ⟨h1, h2, ?_⟩
  cases h3 : roomB l lim with
  | true => rfl
  | false => unfold addC at h; rw [if_neg (by simp [h1]), if_neg (by simp [h2]), if_pos h3] at h; cases h
theorem right_snoc {l : List Wr} {nm : List UInt8} {xt fl lim : Int} (hr : dRight l = true) (h : addC l nm fl lim = 0) : dRight (l ++ [⟨nm, xt, fl⟩]) = true := by
  obtain ⟨h1, h2, h3⟩ := add_ok h
  unfold dRight at hr ⊢
  simp at hr ⊢
  refine ⟨⟨hr.1, ?_⟩, ?_⟩
  · unfold wordB; simp [h1, h2]
  · unfold roomB at h3; simp at h3; omega
theorem cut_snoc (l : List Wr) (q : Wr) : cutL (l ++ [q]) (l.length : Int) = l ∧ cutC (l ++ [q]) (l.length : Int) = 0 := by
  have hb : cutB (l ++ [q]) (l.length : Int) = true := by unfold cutB; simp; omega
  refine ⟨?_, ?_⟩
  · unfold cutL; rw [if_pos hb, Int.toNat_natCast, List.take_left']; rfl
  · unfold cutC; rw [if_pos hb]
theorem flg_nat {l : List Wr} {i : Nat} {f : Int} (hi : i < l.length) (h0 : 0 ≤ f) (h7 : f ≤ 7) : flgL l (i : Int) f = l.set i { l[i] with fl := f } ∧ flgC l (i : Int) f = 0 := by
  have hb : flgB l (i : Int) f = true := by unfold flgB flagB; simp; omega
  refine ⟨?_, ?_⟩
  · unfold flgL; rw [if_pos hb, Int.toNat_natCast, List.getD_eq_getElem?_getD, List.getElem?_eq_getElem hi]; rfl
  · unfold flgC; rw [if_pos hb]
theorem lastI_cong {p p' : Wr → Bool} {l : List Wr} (h : ∀ q ∈ l, p q = p' q) : lastI p l = lastI p' l := by
  induction l with
  | nil => rfl
  | cons q r ih =>
    have h1 := ih fun x hx => h x (List.mem_cons_of_mem _ hx)
    have h2 := h q List.mem_cons_self
    show (match lastI p r with | some i => some (i + 1) | none => if p q = true then some 0 else none) = _
    rw [h1, h2]
    rfl
theorem solid_next {nm : List UInt8} {k : Nat} {ch : UInt8} {m m0 : Bool} (hc : nm[k]? = some ch) (h : m = (m0 && (nm.take k).all solid)) : (m && solid ch) = (m0 && (nm.take (k + 1)).all solid) := by
  rw [List.take_add_one, hc, List.all_append, h]
  simp [Bool.and_assoc]
/-- 's[k:]' of a row of words. -/
def wrest (A : Option Addr) (k c : Nat) : Option Addr := if c = k then A else A.map (·.add (k * 3))
theorem Wds.rest {w : World} {A : Option Addr} {n c k : Nat} {l : List Wr} (h : Wds w (.slice A n c) l) (hk : k ≤ n) : Wds w (.slice (wrest A k c) (n - k) (c - k)) (l.drop k) := by
  have hl := h.len
  obtain ⟨A', c', e, h1, h2, h3⟩ := h
  injection e with e1 e2 e3
  subst e1 e3
  refine ⟨_, _, by rw [List.length_drop, hl], by rw [List.length_drop]; omega, by omega, ?_⟩
  unfold wrest
  split
  · have : l.drop k = [] := List.drop_eq_nil_of_le (by omega)
    rw [this]
    exact .inl rfl
  · rcases h3 with h3 | ⟨g, o, rfl, hg, hc⟩
    · refine .inl ?_
      rw [wds_drop, h3]
      simp
    · refine .inr ⟨g, o + k * 3, by simp [add_at], hg, fun j v hv => ?_⟩
      rw [wds_drop, List.getElem?_drop] at hv
      have := hc _ v hv
      rw [show o + k * 3 + j = o + (3 * k + j) by omega]
      exact this
theorem run_wrest {A : Option Addr} {n c i : Nat} (w : World) (hk : i + 1 ≤ n) :
    (Instr.slice 22 (.slice A n c) (some (.int .i64 ((i : Int) + 1))) none none).run Try.prog w = .ok (.slice (wrest A (i + 1) c) (n - (i + 1)) (c - (i + 1))) w := by
  have hz : (sizeOf 30).run Try.prog w = .ok 3 w := by kernel_rfl
  have e : ((i : Int) + 1).toNat = i + 1 := by omega
  have h1 : (0 : Int) ≤ (i : Int) + 1 := by omega
  have h2 : (i : Int) + 1 ≤ (n : Int) := by omega
  simp [Instr.slice, run_underlying Try.underlying22, Instr.sliceBounds, run_sliceBound, hz, wrest, e, h1, h2]
theorem wds_cells {w : World} {g o n c : Nat} {l : List Wr} (h : Wds w (.slice (some ⟨g, o, none⟩) n c) l) {k : Nat} (hk : k < l.length) {q : Wr} (hq : l[k] = q) : w.cell? ⟨g, o + k * 3, none⟩ = some (.string (strB q.nm)) ∧ w.cell? ⟨g, o + k * 3 + 1, none⟩ = some (.int .i64 q.xt) ∧ w.cell? ⟨g, o + k * 3 + 2, none⟩ = some (.int .i64 q.fl) ∧ g < w.heap.size := by
  obtain ⟨g', o', e, h1, h2, h3⟩ := wds_cell h hk
  injection e with e
  injection e with e1 e2
  subst e1 e2 hq
  exact ⟨h1, h2, h3, World.block_lt_of_cell? w ⟨g, o + k * 3, none⟩ h1⟩
theorem since_d9 (w : World) : Below w.heap.size w w.drew := ⟨rfl, rfl, rfl, Nat.le_refl _, fun _ _ => rfl⟩
theorem wds_cap {w : World} {A : Option Addr} {n c : Nat} {l : List Wr} (h : Wds w (.slice A n c) l) : n ≤ c := by
  have hl := h.len
  obtain ⟨A', c', e, h1, _⟩ := h
  injection e with e1 e2 e3
  omega
theorem wds_at0 {w : World} {A : Option Addr} {n c : Nat} {l : List Wr} (h : Wds w (.slice A n c) l) (hk : 0 < l.length) : ∃ g o, A = some ⟨g, o, none⟩ := by
  obtain ⟨g, o, e, _⟩ := wds_cell h hk
  exact ⟨g, o, e⟩
theorem hide_facts {l : List Wr} {i : Nat} {q : Wr} (hi : i < l.length) (hq : l[i] = q) (h0 : 0 ≤ q.fl) (h7 : q.fl ≤ 7) :
    (∀ k, findI (l.set i { q with fl := 2 }) q.nm = some k → k ≠ i) ∧ (∃ m, findI (l.set i { q with fl := 0 }) q.nm = some m ∧ i ≤ m ∧ m < l.length) ∧ (∃ m, ofI (l.set i { q with fl := 2 }) q.xt = some m ∧ i ≤ m ∧ m < l.length) := by
  refine ⟨?_, ?_, ?_⟩
  · rintro k hk rfl
    obtain ⟨_, hp⟩ := lastI_is hk
    rw [List.getElem_set_self] at hp
    unfold seenP at hp
    simp [hidB] at hp
  · have hi' : i < (l.set i { q with fl := 0 }).length := by simpa using hi
    obtain ⟨m, hm, hle⟩ := lastI_ge (p := seenP q.nm) hi' (by rw [List.getElem_set_self]; unfold seenP; rw [alike_refl]; rfl)
    exact ⟨m, hm, hle, by simpa using lastI_lt hm⟩
  · have hi' : i < (l.set i { q with fl := 2 }).length := by simpa using hi
    obtain ⟨m, hm, hle⟩ := lastI_ge (p := fun x => decide (x.xt = q.xt)) hi' (by rw [List.getElem_set_self]; simp)
    exact ⟨m, hm, hle, by simpa using lastI_lt hm⟩
theorem set_take (l : List Wr) (i : Nat) (q : Wr) : (l.set i q).take i = l.take i := by rw [List.take_set_of_le (Nat.le_refl _)]
theorem set_drop (l : List Wr) (i : Nat) (q : Wr) : (l.set i q).drop (i + 1) = l.drop (i + 1) := by rw [List.drop_set_of_lt (by omega)]
theorem set_all {l : List Wr} {i : Nat} {q : Wr} {P : Wr → Prop} (h : ∀ x ∈ l, P x) (hq : P q) : ∀ x ∈ l.set i q, P x := by
  intro x hx
  rcases List.mem_or_eq_of_mem_set hx with h' | rfl
  · exact h x h'
  · exact hq
end Go.Proofs.Ytnjmhgbdhekmdaa
