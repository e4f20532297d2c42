/- The walk of MemUndoes. -/
import Derived.Test.YtngmkbbeafefaaaMemOpen
namespace Go.Proofs.Ytngmkbbeafefaaa
open Go.RowKit

theorem rsame_eq (A P A' P' : Option Addr) (L c K d L' c' K' d' : Nat) (m : PM) (w : World) (HM : IsMem w (.agg #[.slice A L c, .slice P K d]) m) (HO : IsMem w (.agg #[.slice A' L' c', .slice P' K' d']) m) :
    Calls Try.prog 16 #[.agg #[.slice A L c, .slice P K d], .agg #[.slice A' L' c', .slice P' K' d']] w fun e w' => e = .returned (.bool true) ∧ Below w.heap.size w w' := by
  have h := rsame_at A P A' P' L c K d L' c' K' d' m m w HM HO
  rw [decide_eq_true rfl] at h
  exact h

/-- Three memories in three blocks. -/
def Z3 (w : World) (b1 b2 b3 : Nat) (A P A2 P2 A3 P3 : Option Addr) (L c K d L2 c2 K2 d2 L3 c3 K3 d3 : Nat) (m x y : PM) (w' : World) : Prop := Below w.heap.size w w' ∧ At b1 A P L c K d m w' ∧ At b2 A2 P2 L2 c2 K2 d2 x w' ∧ At b3 A3 P3 L3 c3 K3 d3 y w'
section
variable {w w1 w2 : World} {b1 b2 b3 : Nat} {A P A2 P2 A3 P3 : Option Addr} {L c K d L2 c2 K2 d2 L3 c3 K3 d3 : Nat} {m x y : PM}
theorem Z3.keep (h : Z3 w b1 b2 b3 A P A2 P2 A3 P3 L c K d L2 c2 K2 d2 L3 c3 K3 d3 m x y w1) (b : Below w1.heap.size w1 w2) : Z3 w b1 b2 b3 A P A2 P2 A3 P3 L c K d L2 c2 K2 d2 L3 c3 K3 d3 m x y w2 := ⟨below_then h.1 b, h.2.1.keep b, h.2.2.1.keep b, h.2.2.2.keep b⟩
theorem Z3.drew (h : Z3 w b1 b2 b3 A P A2 P2 A3 P3 L c K d L2 c2 K2 d2 L3 c3 K3 d3 m x y w1) : Z3 w b1 b2 b3 A P A2 P2 A3 P3 L c K d L2 c2 K2 d2 L3 c3 K3 d3 m x y w1.drew := ⟨h.1.drew, h.2.1, h.2.2.1, h.2.2.2⟩
theorem Z3.bel (h : Z3 w b1 b2 b3 A P A2 P2 A3 P3 L c K d L2 c2 K2 d2 L3 c3 K3 d3 m x y w1) : Below w.heap.size w w1 := h.1
theorem z3S (h : Z3 w b1 b2 b3 A P A2 P2 A3 P3 L c K d L2 c2 K2 d2 L3 c3 K3 d3 m x y w1) : w1.cell? ⟨b1, 0, none⟩ = some (.slice A L c) ∧ w1.cell? ⟨b1, 1, none⟩ = some (.slice P K d) ∧ w1.cell? ⟨b2, 0, none⟩ = some (.slice A2 L2 c2) ∧ w1.cell? ⟨b2, 1, none⟩ = some (.slice P2 K2 d2) ∧ w1.cell? ⟨b3, 0, none⟩ = some (.slice A3 L3 c3) ∧ w1.cell? ⟨b3, 1, none⟩ = some (.slice P3 K3 d3) ∧ Z3 w b1 b2 b3 A P A2 P2 A3 P3 L c K d L2 c2 K2 d2 L3 c3 K3 d3 m x y w1 :=
  ⟨h.2.1.use.1, h.2.1.use.2, h.2.2.1.use.1, h.2.2.1.use.2, h.2.2.2.use.1, h.2.2.2.use.2, h⟩
theorem z3K (h : w1.cell? ⟨b1, 0, none⟩ = some (.slice A L c) ∧ w1.cell? ⟨b1, 1, none⟩ = some (.slice P K d) ∧ w1.cell? ⟨b2, 0, none⟩ = some (.slice A2 L2 c2) ∧ w1.cell? ⟨b2, 1, none⟩ = some (.slice P2 K2 d2) ∧ w1.cell? ⟨b3, 0, none⟩ = some (.slice A3 L3 c3) ∧ w1.cell? ⟨b3, 1, none⟩ = some (.slice P3 K3 d3) ∧ Z3 w b1 b2 b3 A P A2 P2 A3 P3 L c K d L2 c2 K2 d2 L3 c3 K3 d3 m x y w1) (b : Below w1.heap.size w1 w2) : w2.cell? ⟨b1, 0, none⟩ = some (.slice A L c) ∧ w2.cell? ⟨b1, 1, none⟩ = some (.slice P K d) ∧ w2.cell? ⟨b2, 0, none⟩ = some (.slice A2 L2 c2) ∧ w2.cell? ⟨b2, 1, none⟩ = some (.slice P2 K2 d2) ∧ w2.cell? ⟨b3, 0, none⟩ = some (.slice A3 L3 c3) ∧ w2.cell? ⟨b3, 1, none⟩ = some (.slice P3 K3 d3) ∧ Z3 w b1 b2 b3 A P A2 P2 A3 P3 L c K d L2 c2 K2 d2 L3 c3 K3 d3 m x y w2 :=
  z3S (h.2.2.2.2.2.2.keep b)
theorem Z3.one (h : Z3 w b1 b2 b3 A P A2 P2 A3 P3 L c K d L2 c2 K2 d2 L3 c3 K3 d3 m x y w1) : IsMem w1 (.agg #[.slice A L c, .slice P K d]) m := h.2.1.mem
theorem Z3.two (h : Z3 w b1 b2 b3 A P A2 P2 A3 P3 L c K d L2 c2 K2 d2 L3 c3 K3 d3 m x y w1) : IsMem w1 (.agg #[.slice A2 L2 c2, .slice P2 K2 d2]) x := h.2.2.1.mem
theorem Z3.three (h : Z3 w b1 b2 b3 A P A2 P2 A3 P3 L c K d L2 c2 K2 d2 L3 c3 K3 d3 m x y w1) : IsMem w1 (.agg #[.slice A3 L3 c3, .slice P3 K3 d3]) y := h.2.2.2.mem
theorem Z3.free (h : Z3 w b1 b2 b3 A P A2 P2 A3 P3 L c K d L2 c2 K2 d2 L3 c3 K3 d3 m x y w1) : IsMem w1 (.agg #[.slice A L c, .slice none 0 0]) (m.1, []) := mem_mk h.2.1.mem.byt (pats_nil _)
end

theorem may_parts {m : PM} (h : (fewB m 600 && rightB m) = true) : m.1.length ≤ 600 ∧ m.2.length ≤ 60 ∧ rightB m = true := by
  rw [Bool.and_eq_true] at h
  have := h.1
  unfold fewB at this
  simp only [Bool.and_eq_true, decide_eq_true_eq] at this
  exact ⟨this.1.1, this.1.2, h.2⟩

set_option maxRecDepth 100000 in
set_option maxHeartbeats 8000000 in
theorem undoes_walk (A P : Option Addr) (L c K d : Nat) (m : PM) (k : Int) (w : World) (HM : Hid (IsMem w (.agg #[.slice A L c, .slice P K d]) m)) :
    Calls Try.prog 5 #[.agg #[.slice A L c, .slice P K d], .int .i64 k] w fun e w' => e = .returned (.bool true) ∧ Below w.heap.size w w' := by
  cases hmay : (fewB m 600 && rightB m) with
  | false =>
    go_enter Try.func5, Try.ntmps5
    go_wp2_with fail
    refine (shown_any _).mono ?_
    rintro e w1 ⟨rfl, b1⟩
    have R1 := Lib.hid ((rt_new w A P L c K d).keep b1)
    obtain ⟨q0, q1, _, _⟩ := R1.out.box.use
    clear b1
    go_wp2_with fail
    refine (may_at _ _ _ _ _ _ m _ (HM.out.keep R1.out.bel)).mono ?_
    rw [hmay]
    rintro e w2 ⟨rfl, b2⟩
    have R2 := Lib.hid (R1.out.keep b2)
    clear b2 q0 q1
    go_wp2_with fail
    go_ret
    exact ⟨rfl, R2.out.bel⟩
  | true =>
    obtain ⟨hL, hK, HRi⟩ := may_parts hmay
    rw [HM.out.len1] at hL
    rw [HM.out.len2] at hK
    have HR := Lib.hid HRi
    clear HRi
    obtain ⟨C, hC⟩ : ∃ C, backC m k = C := ⟨_, rfl⟩
    obtain ⟨X, hX⟩ : ∃ X, backF m k = X := ⟨_, rfl⟩
    have HC := Lib.hid hC
    have HX := Lib.hid hX
    clear hC hX
    go_enter Try.func5, Try.ntmps5
    go_wp2_with fail
    refine (shown_any _).mono ?_
    rintro e w1 ⟨rfl, b1⟩
    have R1 := Lib.hid ((rt_new w A P L c K d).keep b1)
    obtain ⟨q0, q1, _, _⟩ := R1.out.box.use
    clear b1
    go_wp2_with fail
    refine (may_at _ _ _ _ _ _ m _ (HM.out.keep R1.out.bel)).mono ?_
    rw [hmay]
    rintro e w2 ⟨rfl, b2⟩
    have R2 := Lib.hid (R1.out.keep b2)
    clear b2 q0 q1
    obtain ⟨q0, q1, _, _⟩ := R2.out.box.use
    go_wp2_with fail
    refine (back_at _ _ _ _ _ _ m _ _ (HM.out.keep R2.out.bel) HR.out (by omega) (by omega)).mono ?_
    rw [HC.out, HX.out]
    rintro e w3 ⟨A2, L2, c2, P2, K2, d2, rfl, hx, b3⟩
    have R3 := Lib.hid ((R2.out.keep b3).keep (al_one _ (.cells #[.slice A2 L2 c2, .slice P2 K2 d2] 25)))
    have X3 := Lib.hid (at_new hx)
    obtain ⟨q2, q3, _, _⟩ := (R2.out.keep b3).box.use
    have l1 := (R2.out.keep b3).box.lt
    clear b3 q0 q1 hx
    go_wp2_with fail
    refine (rback_at _ _ _ _ _ _ m _ _ (HM.out.keep R3.out.bel) HR.out (by omega) (by omega)).mono ?_
    rw [HC.out, HX.out]
    rintro e w4 ⟨A3, L3, c3, P3, K3, d3, rfl, hy, b4⟩
    have R4 := (R3.out.keep b4).keep (al_one _ (.cells #[.slice A3 L3 c3, .slice P3 K3 d3] 25))
    have X4 := (X3.out.keep b4).keep (al_one _ (.cells #[.slice A3 L3 c3, .slice P3 K3 d3] 25))
    have hz : Z3 w w.heap.size w3.heap.size w4.heap.size A P A2 P2 A3 P3 L c K d L2 c2 K2 d2 L3 c3 K3 d3 m X X (w4.alloc (.cells #[.slice A3 L3 c3, .slice P3 K3 d3] 25)) := ⟨R4.bel, ⟨R4.box, HM.out.keep R4.bel⟩, X4, at_new hy⟩
    obtain ⟨W, hW⟩ : ∃ W, w4.alloc (.cells #[.slice A3 L3 c3, .slice P3 K3 d3] 25) = W := ⟨_, rfl⟩
    rw [hW] at hz
    have HW := Lib.hid hW
    clear b4 R4 X4 hy q2 q3 hW
    go_wp2_with fail
    rw [HW.out]
    refine wp_region_noPanic ?_
    go_region_held3 (fun w1 => w1.cell? ⟨w.heap.size, 0, none⟩ = some (.slice A L c) ∧ w1.cell? ⟨w.heap.size, 1, none⟩ = some (.slice P K d) ∧ w1.cell? ⟨w3.heap.size, 0, none⟩ = some (.slice A2 L2 c2) ∧ w1.cell? ⟨w3.heap.size, 1, none⟩ = some (.slice P2 K2 d2) ∧ w1.cell? ⟨w4.heap.size, 0, none⟩ = some (.slice A3 L3 c3) ∧ w1.cell? ⟨w4.heap.size, 1, none⟩ = some (.slice P3 K3 d3) ∧ Z3 w w.heap.size w3.heap.size w4.heap.size A P A2 P2 A3 P3 L c K d L2 c2 K2 d2 L3 c3 K3 d3 m X X w1) (first | assumption | exact z3S hz.drew)
      (first | (go_at_call 38; ((with_reducible refine (mark_at _ _ _ _ _ _ _).mono ?_); rintro e w5 ⟨rfl, b5⟩; have s5 := z3K (by assumption) b5)) | (go_at_call 39; ((with_reducible refine (rmark_at _ _ _ _ _ _ _).mono ?_); rintro e w6 ⟨rfl, b6⟩; have s6 := z3K (by assumption) b6)) | (go_at_call 40; ((with_reducible refine (free_at _ _ _ _ _ _ _).mono ?_); rintro e w7 ⟨rfl, b7⟩; have s7 := z3K (by assumption) b7)) | (go_at_call 41; ((with_reducible refine (rfree_at _ _ _ _ _ _ _).mono ?_); rintro e w8 ⟨rfl, b8⟩; have s8 := z3K (by assumption) b8)) | (go_at_call 16; ((with_reducible first | refine (rsame_eq _ _ _ _ _ _ _ _ _ _ _ _ X _ (Z3.two (And.right (And.right (And.right (And.right (And.right (And.right (by assumption)))))))) (Z3.three (And.right (And.right (And.right (And.right (And.right (And.right (by assumption))))))))).mono ?_ | refine (rsame_eq _ _ _ _ _ _ _ _ _ _ _ _ (m.1, []) _ (Z3.free (And.right (And.right (And.right (And.right (And.right (And.right (by assumption)))))))) (Z3.free (And.right (And.right (And.right (And.right (And.right (And.right (by assumption))))))))).mono ?_); rintro e w9 ⟨rfl, b9⟩; have s9 := z3K (by assumption) b9)))
    all_goals (refine NoPanic.normal ?_)
    all_goals go_wp2
    all_goals go_ret
    all_goals exact ⟨rfl, s9.2.2.2.2.2.2.bel⟩
end Go.Proofs.Ytngmkbbeafefaaa
