/- Contracts of there, lay, own (of bytes) of package mem, and of the document's There. -/
import Derived.Test.YtekfemkoiadipaaMemLies
import Derived.Laws.OwnMore
import Derived.OwnWalk
namespace Go.Proofs.Ytekfemkoiadipaa
open Go.RowKit
set_option linter.unusedVariables false

set_option maxRecDepth 100000 in
set_option maxHeartbeats 1000000 in
theorem there_any (A P : Option Addr) (L c k d : Nat) (p n : Int) (w : World) (hL : L ≤ 9223372036854775807) (hn : n ≤ 9223372036854775807) :
    Calls Try.prog 38 #[.agg #[.slice A L c, .slice P k d], .int .i64 p, .int .i64 n] w fun e w' => e = .returned (.bool (okB L p n)) ∧ Below w.heap.size w w' := by
  by_cases h0 : n = 0
  · have H : Hid (okB L p n = true) := (okB_iff _ _ _).2 (.inl h0)
    subst h0
    go_enter Try.func38, Try.ntmps38
    go_wp2
    go_ret
    exact ⟨ret_bool H.out.symm, (Below.refl _ _).alloc (Nat.le_refl _) _⟩
  · have h1 : (n == 0) = false := by simp [h0]
    by_cases h2 : 0 < n ∧ 0 ≤ p ∧ p ≤ (L : Int) - n
    · have H : Hid (okB L p n = true) := (okB_iff _ _ _).2 (.inr h2)
      obtain ⟨h3, h4, h5⟩ := h2
      clear h0
      go_enter Try.func38, Try.ntmps38
      go_wp2
      go_ret
      exact ⟨ret_bool H.out.symm, (Below.refl _ _).alloc (Nat.le_refl _) _⟩
    · have H : Hid (okB L p n = false) := (okB_no _ _ _).2 (by omega)
      by_cases h3 : 0 < n
      · by_cases h4 : 0 ≤ p
        · have h5 : decide (p ≤ (L : Int) - n) = false := by simp; omega
          clear h0 h2
          go_enter Try.func38, Try.ntmps38
          go_wp2
          go_ret
          exact ⟨ret_bool H.out.symm, (Below.refl _ _).alloc (Nat.le_refl _) _⟩
        · have h4 : decide (0 ≤ p) = false := by simp; omega
          clear h0 h2
          go_enter Try.func38, Try.ntmps38
          go_wp2
          go_ret
          exact ⟨ret_bool H.out.symm, (Below.refl _ _).alloc (Nat.le_refl _) _⟩
      · have h3 : decide (0 < n) = false := by simp; omega
        clear h0 h2
        go_enter Try.func38, Try.ntmps38
        go_wp2
        go_ret
        exact ⟨ret_bool H.out.symm, (Below.refl _ _).alloc (Nat.le_refl _) _⟩

theorem info_u8 : (Try.prog.info? 5).map (fun i => (i.zero, i.size, i.bytes)) = some (some (.int .u8 0), 1, 1) := by kernel_rfl

theorem hpos_of {w : World} {A : Option Addr} {xs : List Value} (h : Lies w A xs) {w' : World} (b : Below w.heap.size w w') (hx : 0 < xs.length) : ∃ ad, A = some ad ∧ ∀ j v, xs[j]? = some v → w'.cell? (ad.add j) = some v := by
  rcases h.keep b with rfl | ⟨g, o, rfl, _, hc⟩
  · simp at hx
  · exact ⟨_, rfl, fun j v hv => by rw [add_at]; exact hc j v hv⟩

set_option maxRecDepth 100000 in
set_option maxHeartbeats 1000000 in
theorem own_u8 (A : Option Addr) (n c : Nat) (l : List UInt8) (w : World) (hl : l.length = n) (hn : n ≤ 65536) (h : Lies w A (u8s l)) :
    Calls Try.prog 33 #[.slice A n c] w fun e w' => ∃ g, e = .returned (.slice (some ⟨g, 0, none⟩) n n) ∧ w.heap.size ≤ g ∧ w'.heap[g]? = some (.cells (u8s l).toArray 5 (0, 0)) ∧ Below w.heap.size w w' := by
  obtain ⟨i0, hi, hz0, hz1, hz2⟩ := info_parts info_u8
  obtain ⟨Z, hZ⟩ : ∃ Z, Z = (madeCells (Value.int .u8 0).cells n).toList := ⟨_, rfl⟩
  obtain ⟨X, hX⟩ : ∃ X, X = u8s l := ⟨_, rfl⟩
  have hmk : (Instr.makeSlice 22 (.int .i64 (n : Int)) (.int .i64 (n : Int))).run Try.prog w = .ok (.slice (some ⟨w.heap.size, 0, none⟩) n n) (w.alloc (.cells Z.toArray 5)) := by
    have := run_make (P := Try.prog) w 22 5 i0 (.int .u8 0) Try.underlying22 hi hz0 .i64 .i64 n n (by omega) (Int.le_refl _) (by rw [hz2]; omega) (by omega)
    rw [hz1] at this
    simpa [hZ] using this
  have HZ : Hid (Z.length = n) := by rw [hZ]; show _ = n; simp [size_madeCells]
  have HX : Hid (X.length = n) := by rw [hX, u8s_len]; exact hl
  have HL := Lib.hid h
  have HE := Lib.hid hX
  clear h hX hZ hl hi hz0 hz1 hz2
  go_enter Try.func33, Try.ntmps33
  go_wp2_with (with_reducible refine wpList_copy_splice rfl (.tmp 7) (.tmp 8) 22 22 rfl 5 Try.underlying22 ?c0 (some ⟨w.heap.size, 0, none⟩) A n n n c rfl rfl w.heap.size 0 Z 5 ?c1 X ?c2 (fun hx => ⟨rfl, hpos_of (HE.out ▸ HL.out) ((Below.refl _ _).alloc (Nat.le_refl _) _) hx⟩) ?c3 ?c4 w.heap.size w ?c5 ?c6 ?_)
  case c0 => kernel_rfl
  case c1 => exact one_new _ _ _
  case c2 => rw [HX.out]; simp
  case c3 => rw [HX.out, HZ.out]; omega
  case c4 => rw [HE.out]; exact u8s_one l
  case c5 => exact (Below.refl _ _).alloc (Nat.le_refl _) _
  case c6 => omega
  intro w2 hg hb2
  go_wp2
  go_ret
  refine ⟨w.heap.size, rfl, Nat.le_refl _, ?_, hb2⟩
  have h2 := hg.out
  have e : splice Z 0 X = X := by
    have z := HZ.out
    have x := HX.out
    simp [splice, z, x]
  rw [e, HE.out] at h2
  exact h2

set_option maxRecDepth 100000 in
set_option maxHeartbeats 1000000 in
theorem lay_any (g L n c : Nat) (A : Option Addr) (p : Int) (row b : List UInt8) (w : World) (t : TypeId) (hL : row.length = L) (hn : b.length = n) (hL2 : L ≤ 65536) (ok : okB L p n = true) (hg : w.heap[g]? = some (.cells (u8s row).toArray t (0, 0))) (h : Lies w A (u8s b)) :
    Calls Try.prog 34 #[.slice (some ⟨g, 0, none⟩) L L, .int .i64 p, .slice A n c] w fun e w' => e = .returned (.tuple #[]) ∧ w'.heap[g]? = some (.cells (u8s (layF row p b)).toArray t (0, 0)) ∧ RowSet g w w' := by
  by_cases h0 : n = 0
  · have HG := Lib.hid hg
    have HR : Hid (layF row p b = row) := by
      have : b = [] := List.eq_nil_of_length_eq_zero (by omega)
      subst this
      exact layF_none row p
    clear hg h hL hn ok
    subst h0
    by_cases h1 : p < 0
    · go_enter Try.func34, Try.ntmps34
      go_wp2
      refine bodyPost_ret (results_none rfl _ _ _) rfl ?_
      exact ⟨rfl, by rw [HR.out]; exact HG.out, RowSet.refl _ _⟩
    · have h1' : decide (p < 0) = false := by simp; omega
      by_cases h2 : (L : Int) < p
      · go_enter Try.func34, Try.ntmps34
        go_wp2
        refine bodyPost_ret (results_none rfl _ _ _) rfl ?_
        exact ⟨rfl, by rw [HR.out]; exact HG.out, RowSet.refl _ _⟩
      · have h2' : decide ((L : Int) < p) = false := by simp; omega
        obtain ⟨q, rfl⟩ := Int.eq_ofNat_of_zero_le (by omega : 0 ≤ p)
        have h3 : (q : Int) ≤ (L : Int) := by omega
        clear h1 h2
        go_enter Try.func34, Try.ntmps34
        go_wp2_with (with_reducible refine wpList_copy_nothing rfl (.tmp 16) (.tmp 17) 22 22 rfl 5 Try.underlying22 (by kernel_rfl) _ _ _ _ _ _ rfl rfl (by simp) ?_)
        all_goals
          go_end0
          exact ⟨rfl, by rw [HR.out]; exact HG.out, RowSet.refl _ _⟩
  · rw [okB_iff] at ok
    have h1 : 0 ≤ p := by omega
    obtain ⟨q, rfl⟩ := Int.eq_ofNat_of_zero_le h1
    have h2 : (q : Int) + (n : Int) ≤ (L : Int) := by omega
    have h3 : 0 < n := by omega
    have hq : (L : Nat) ≠ q := by omega
    have HQ : Hid (q + n ≤ L) := by show _ ≤ _; omega
    obtain ⟨X, hX⟩ : ∃ X, X = u8s b := ⟨_, rfl⟩
    obtain ⟨Y, hY⟩ : ∃ Y, Y = u8s row := ⟨_, rfl⟩
    have HX : Hid (X.length = n) := by rw [hX, u8s_len]; exact hn
    have HY : Hid (Y.length = L) := by rw [hY, u8s_len]; exact hL
    have HR : Hid ((u8s (layF row (q : Int) b)) = splice Y q X) := by rw [hX, hY]; exact u8s_lay _ _ _
    obtain ⟨g2, o2, rfl, HC⟩ : ∃ g2 o2, A = some ⟨g2, o2, none⟩ ∧ Hid (∀ j v, X[j]? = some v → w.cell? ⟨g2, o2 + j, none⟩ = some v) := by
      rcases h with h | ⟨g2, o2, e, _, hc⟩
      · rw [← hX] at h
        have hx := HX.out
        rw [h] at hx
        simp at hx
        omega
      · exact ⟨g2, o2, e, by rw [hX]; exact hc⟩
    have H1 : Hid (∀ v ∈ X, v.oneCell' = true) := by rw [hX]; exact u8s_one b
    rw [← hY] at hg
    have HG := Lib.hid hg
    clear hg h hL hn ok hX hY h0 h1
    go_enter Try.func34, Try.ntmps34
    go_wp2_with (with_reducible refine wpList_copy_own rfl (.tmp 16) (.tmp 17) 22 22 rfl 5 Try.underlying22 ?c0 g q (L - q) (L - q) ⟨g2, o2, none⟩ n c rfl rfl Y.toArray t ?c1 X ?c2 ?c3 ?c4 ?c5 ?_)
    case c0 => kernel_rfl
    case c1 => exact HG.out
    case c2 => have := HQ.out; rw [HX.out]; show n = min n (L - q); omega
    case c3 => intro j v hv; rw [add_at]; exact HC.out j v hv
    case c4 => have := HQ.out; rw [HX.out]; simp [HY.out]; omega
    case c5 => exact H1.out
    go_end0
    refine ⟨rfl, ?_, rowSet_setRow _ _ _⟩
    rw [HR.out, setRow_heap w g _ _ t _ HG.out]
    simp [splice]
end Go.Proofs.Ytekfemkoiadipaa
