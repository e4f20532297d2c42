/- The contract of lex's Words: an iterator's words, collected. -/
import Derived.RangeFuncNested
import Derived.RangeFuncBound
import Derived.RangeFuncCalls
import Derived.RangeFuncLeaves
import Derived.RangeFuncBox
import Derived.Shelf.Abstract
import Derived.Shelf.RegionOpen
import Derived.WalkKit
import Derived.OwnWalkIn
import Derived.TacticsInMore
import Derived.LoopNIn
import Derived.LoopIn
import Derived.Maps.AppendAt
import Derived.Test.YtakeaocmiblbeaaLexCodeA
import Derived.Test.YtakeaocmiblbeaaLexRefB
namespace Go.Proofs.Ytakeaocmiblbeaa
open Go.RowKit Go.Shelf Go.Proofs
set_option linter.unusedVariables false
set_option linter.unusedSimpArgs false
attribute [local go_sem] Oper.semAt_some

theorem word0_any (l : List UInt8) (hl : l.length ≤ 100000) (w : World) : Calls Try.prog 10 #[.string (strB l), .int .i64 0] w fun e w' => e = .returned (.tuple #[.string (strB (wordW l)), .int .i64 ((l.length - (wordT l).length : Nat) : Int)]) ∧ w' = w := by
  have := word_same l 0 w (by omega)
  rw [(word_first l).1, (word_first l).2] at this
  exact this
theorem wordR_any (l R : List UInt8) (h : Rem l R) (hl : l.length ≤ 100000) (w : World) : Calls Try.prog 10 #[.string (strB l), .int .i64 ((l.length - R.length : Nat) : Int)] w fun e w' => e = .returned (.tuple #[.string (strB (wordW R)), .int .i64 ((l.length - (wordT R).length : Nat) : Int)]) ∧ w' = w := by
  have := word_same l ((l.length - R.length : Nat) : Int) w hl
  rw [(word_at h).1, (word_at h).2] at this
  exact this

/-- One block lies as it lay. -/
def Keep1 (g : Nat) (A B : World) : Prop := B.heap[g]? = A.heap[g]?
theorem Keep1.refl (g : Nat) (A : World) : Keep1 g A A := rfl
theorem Keep1.trans {g : Nat} {A B C : World} (h : Keep1 g A B) (k : Keep1 g B C) : Keep1 g A C := Eq.trans k h
theorem Keep1.cell {g : Nat} {A B : World} (h : Keep1 g A B) {o : Nat} : B.cell? ⟨g, o, none⟩ = A.cell? ⟨g, o, none⟩ := World.cell?_of_block h
theorem keep1_b {g : Nat} {w : World} (hg : g < w.heap.size) (W : World) (l : Nat) (o o' : Obj) (hl : w.heap.size ≤ l) (_ : W.heap[l]? = some o) (_ : o.isCells = false) (_ : o.isWalk = false) : Keep1 g W (W.putObj l o') := World.putObj_heap_other (by omega)

set_option maxRecDepth 100000 in
set_option maxHeartbeats 2000000 in
/-- The words, told one by one. -/
theorem onward1_in (n : Nat) (hn : 1 ≤ n) (l Bs : Nat) (s : List UInt8) (hs : s.length ≤ 100000) (J Jx : List (List UInt8) → World → Prop)
    (hY : ∀ pre x W, J pre W → pre.length < (wordsF s).length → YieldAt Fence.wide (n - 1) Try.prog l #[.string (strB x)] W fun e W' =>
      (e = .returned (.bool true) ∧ J (pre ++ [x]) W' ∧ Keep1 Bs W W') ∨ (e = .returned (.bool false) ∧ Jx (pre ++ [x]) W'))
    (W : World) (hBs : W.cell? ⟨Bs, 0, none⟩ = some (.string (strB s))) (h0 : J [] W) :
    CallsIn Fence.wide n Try.prog 29 #[.func (.yield l) #[] #[], .pointer (some ⟨Bs, 0, none⟩)] W fun e W' => (∃ v, e = .returned v) ∧
      ((∃ ys, ys = wordsF s ∧ J ys W') ∨ (∃ pre, pre <+: wordsF s ∧ Jx pre W')) := by
  have HY := Lib.hid hY
  have HW0 := Lib.hid (word0_any s hs)
  have HS := Lib.hid hs
  have HC := Lib.hid hBs
  clear hY hs
  refine callsIn_of_wp Try.func29 rfl trivial ?_ rfl
  simp only [Try.ntmps29, List.size_toArray, List.length_cons, List.length_nil, Nat.reduceAdd, Nat.reduceSub, Array.replicate_succ, Array.replicate_zero, List.push_toArray, List.append_toArray, List.nil_append, List.cons_append]
  gi_wp2_with fail
  refine ⟨trivial, ?_⟩
  refine (callsIn_wide.2 (HW0.out _)).mono ?_
  rintro e w1 ⟨rfl, rfl⟩
  gi_wp2_with fail
  gi_loopw [3, 4] (fun s3 s4 wr => ∃ (pre : List (List UInt8)) (R : List UInt8), s3 = .string (strB (wordW R)) ∧ s4 = .int .i64 ((s.length - (wordT R).length : Nat) : Int) ∧ Hid (Rem s R) ∧ Hid (wordsF s = pre ++ wordsF R) ∧ Hid (J pre wr) ∧ Hid (Keep1 Bs w1 wr)) (fun s3 s4 _ => measW s.length s3 s4)
  case atStart => exact ⟨[], s, rfl, rfl, Lib.hid (Rem.all s), Lib.hid rfl, Lib.hid h0, Lib.hid (Keep1.refl _ _)⟩
  case round =>
    obtain ⟨pre, R, rfl, rfl, HR, HE, HJ, HB⟩ := hrel
    have hcb : wr.cell? ⟨Bs, 0, none⟩ = some (.string (strB s)) := HB.out.cell.trans HC.out
    by_cases hw : wordW R = []
    · have HF : Hid (wordsF s = pre) := by show _ = _; rw [HE.out, wordsF_nil hw, List.append_nil]
      have he : strB [] = ⟨#[]⟩ := rfl
      rw [hw, he]
      clear he hw HE hcb
      gi_wp2_with fail
      all_goals (refine ⟨(fun _ e => (by cases e)), ?_⟩)
      all_goals gi_wp2_with fail
      go_end0
      exact ⟨⟨_, rfl⟩, .inl ⟨pre, HF.out.symm, HJ.out⟩⟩
    · have hne := str_nil hw
      have hne2 := str_emp hw
      have HM := Lib.hid (measW_step HR.out hw)
      have HW := Lib.hid (wordR_any s (wordT R) HR.out.word HS.out)
      have HF : Hid (wordsF s = (pre ++ [wordW R]) ++ wordsF (wordT R)) := by show _ = _; rw [HE.out, wordsF_cons hw]; simp
      have HR2 := Lib.hid HR.out.word
      have hpl : pre.length < (wordsF s).length := by rw [HF.out]; simp
      obtain ⟨fn, tmps, assign, body, hy, hR⟩ := HY.out pre (wordW R) wr HJ.out hpl
      have HYR := Lib.hid hR
      clear hw HE hR hpl
      gi_wp2_with fail
      refine HYR.out.mono ?_
      rintro e W3 (⟨rfl, hJ3, hk3⟩ | ⟨rfl, hJx3⟩)
      · have hc3 : W3.cell? ⟨Bs, 0, none⟩ = some (.string (strB s)) := hk3.cell.trans hcb
        have B3 := Lib.hid (HB.out.trans hk3)
        have J3 := Lib.hid hJ3
        clear hJ3 hk3 hcb
        gi_wp2_with fail
        refine ⟨trivial, ?_⟩
        refine (callsIn_wide.2 (HW.out _)).mono ?_
        rintro e w4 ⟨rfl, rfl⟩
        gi_wp2_with fail
        go_roundw
        case rel => exact ⟨pre ++ [wordW R], wordT R, rfl, rfl, HR2, HF, J3, B3⟩
        case measure => exact HM.out
      · have JX := Lib.hid hJx3
        clear hJx3 hcb
        gi_wp2_with fail
        go_end0
        exact ⟨⟨_, rfl⟩, .inr ⟨_, ⟨_, HF.out.symm⟩, JX.out⟩⟩

set_option maxHeartbeats 1000000 in
/-- The line is boxed; the function value holds the box. -/
theorem onward_in (n : Nat) (s : List UInt8) (w : World) :
    CallsIn Fence.wide n Try.prog 25 #[.string (strB s)] w fun e w' => e = .returned (.func (.func 29) #[] #[.pointer (some ⟨w.heap.size, 0, none⟩)]) ∧ w' = w.alloc (.cells #[.string (strB s)] 9) := by
  refine callsIn_of_wp Try.func25 rfl trivial ?_ rfl
  simp only [Try.ntmps25, List.size_toArray, List.length_cons, List.length_nil, Nat.reduceAdd, Nat.reduceSub, Array.replicate_succ, Array.replicate_zero, List.push_toArray, List.append_toArray, List.nil_append, List.cons_append]
  gi_wp2
  go_ret
  exact ⟨rfl, rfl⟩

theorem onward_stops (n : Nat) (hn : 1 ≤ n) (Bs : Nat) (s : List UInt8) (hs : s.length ≤ 100000) (w : World) (hB : Bs < w.heap.size) (hc : w.cell? ⟨Bs, 0, none⟩ = some (.string (strB s))) :
    SeqStopsK Fence.wide n Try.prog 29 #[.pointer (some ⟨Bs, 0, none⟩)] (fun x : List UInt8 => #[Value.string (strB x)]) (Keep1 Bs) (fun ys => ys = wordsF s) (fun pre => pre <+: wordsF s) (wordsF s).length w := fun l J Jx W hW _ _ hY h0 =>
  onward1_in n hn l Bs s hs J Jx hY W ((hW.cell (p := ⟨Bs, 0, none⟩) hB).trans hc) h0

theorem own_down {w : World} {b b' e size n : Nat} {v : Value} {xs : List Value} (h : w.ownsRow b e size v n xs) (hb : b' ≤ b) : w.ownsRow b' e size v n xs :=
  ⟨h.1, h.2.imp id fun ⟨g, cap, cur, e, h1, r⟩ => ⟨g, cap, cur, e, Nat.le_trans hb h1, r⟩⟩
theorem box_own {β : Type} (B t : Nat) (v : Value) : Own (fun (_ : β) W => Boxed W B t v) := by
  rintro s X Y row h hg hr
  refine h.kept hg fun e => ?_
  obtain ⟨o, ho, hc⟩ := hr B e.symm
  rw [show X.heap[B]? = _ from h] at ho
  cases ho
  cases hc
/-- What was taken so far: the box holds a slice of one's own; the line lies in its own box. -/
def Got (w : World) (l : List UInt8) (pre : List (List UInt8)) (W : World) : Prop := (∃ v, Boxed W w.heap.size 30 v ∧ W.ownsRow (w.heap.size + 2) 9 1 v pre.length (sts pre) ∧ True) ∧ Boxed W (w.heap.size + 1) 9 (.string (strB l)) ∧ Below w.heap.size w W
theorem got_own (w : World) (l : List UInt8) (B : Nat) (hB : w.heap.size ≤ B) : OwnFrom B (fun pre W => Got w l pre W) :=
  OwnFrom.and (Own.from (holdsRow_own (w.heap.size + 2) w.heap.size 30 9 1 (fun pre => pre.length) sts (fun _ _ => True)) _) (OwnFrom.and (Own.from (box_own _ _ _) _) (ownFrom_below (Nat.le_refl _) hB))

set_option maxRecDepth 100000 in
set_option maxHeartbeats 2000000 in
theorem words_any (l : List UInt8) (w : World) (hl : l.length ≤ 100000) : Calls Try.prog 15 #[.string (strB l)] w (RowOut (wordsF l) w) := by
  obtain ⟨i0, hi, hz0, hz1, hz2⟩ := info_parts info_str
  have HLN := Lib.hid (words_len l l.length (Nat.le_refl _))
  have HL := Lib.hid hl
  refine (callsIn_wide (n := 3)).1 ?_
  refine callsIn_of_wp_marks Try.func15 rfl trivial ?_ rfl
  simp only [Try.ntmps15, List.size_toArray, List.length_cons, List.length_nil, Nat.reduceAdd, Nat.reduceSub, Array.replicate_succ, Array.replicate_zero, List.push_toArray, List.append_toArray, List.nil_append, List.cons_append]
  gi_wp2_with fail
  refine ⟨trivial, ?_⟩
  refine (onward_in _ _ _).mono ?_
  rintro e w' ⟨rfl, rfl⟩
  gi_wp2_with fail
  have bO := Boxed.new w 30 (.slice none 0 0)
  have bN := Boxed.new (w.alloc (.cells #[.slice none 0 0] 30)) 9 (.string (strB l))
  rw [World.size_alloc] at bN
  have hB0 : Below w.heap.size w ((w.alloc (.cells #[.slice none 0 0] 30)).alloc (.cells #[.string (strB l)] 9)) := ((Below.refl _ w).alloc (Nat.le_refl _) _).alloc (by simp) _
  have hBox := bO.alloc (.cells #[.string (strB l)] 9)
  have hsz : ((w.alloc (.cells #[.slice none 0 0] 30)).alloc (.cells #[.string (strB l)] 9)).heap.size = w.heap.size + 2 := by simp
  have bC := bN.cell
  obtain ⟨W0, hW0⟩ : ∃ W0, (w.alloc (.cells #[.slice none 0 0] 30)).alloc (.cells #[.string (strB l)] 9) = W0 := ⟨_, rfl⟩
  rw [hW0] at bN hB0 hBox hsz bC ⊢
  refine wpIn_rangeFunc_ownG rfl (by omega) (gf := 29) (lb := #[.pointer (some ⟨w.heap.size + 1, 0, none⟩)]) rfl trivial (enters_of Try.func29 (by kernel_rfl) rfl)
    (onward_stops (3 - 1) (by omega) (w.heap.size + 1) l HL.out W0 (by omega) bC) Keep1.trans (keep1_b (by omega)) (Below.refl _ _) (fun _ => rfl)
    (fun pre W => Got w l pre W)
    (fun _ _ _ => False)
    (got_own w l _ (by omega))
    (fun _ _ _ _ _ hs _ _ => hs)
    ⟨⟨_, hBox, World.ownsRow_nil _ _ _ _, trivial⟩, bN, hB0⟩
    (fun x => { tmps := #[.string (strB l), undef, .slice none 0 0, .pointer (some ⟨w.heap.size, 0, none⟩), .string (strB x), .string (strB l), .func (.func 29) #[] #[.pointer (some ⟨w.heap.size + 1, 0, none⟩)], .string (strB x), undef, undef, undef, undef, undef], defers := [] }) ?assign ?body ?done ?stop
  case assign =>
    intro l2 x W K hK
    gi_wp2
    exact hK
  case body =>
    rintro l2 pre x W ⟨⟨v, hv, hrow, -⟩, hbl, hB⟩ hlt
    have hc := hv.cell
    have hpl := HLN.out
    have hl1 := HL.out
    have hbn := hbl.lt
    have hne : some (w.heap.size + 1) ≠ v.ownBlock := fun e => by have := (hrow.lt _ e.symm).1; omega
    gi_wp2_with (gi_at_builtin; refine wpListIn_append_own _ rfl _ _ 30 rfl (w.heap.size + 2) 9 i0 (.string ⟨#[]⟩) 1 16 Try.underlying30 hi hz0 hz1 hz2 rfl (by decide) _ _ _ rfl (hrow.alloc _) ⟨W.heap.size, 0, none⟩ 1 1 [.string (strB x)] rfl rfl (cell_one_new _ _ _) (by simp [Value.oneCell']) (by unfold maxLen; omega) (by omega) (by simp; omega) ?_; intro v' w1 hown' hgrow _; obtain ⟨g', cap', rfl⟩ := ownsRow_succ hown'; obtain ⟨hv1, hv2, hr2, hk2, hb2⟩ := hv.appended (by decide) (own_down hrow (Nat.le_add_right _ 2)) hB.size (Nat.le_refl _) (own_down hown' (Nat.le_add_right _ 2)) hgrow; have hc1 := hv1.cell; have hf1 := hv1.frozen)
    have hr3 := hown'.kept (grownBy_setCell' w1 w.heap.size (.slice (some ⟨g', 0, none⟩) (pre.length + 1) cap')) (.inr (hv1.not_row (by decide) hown').symm)
    have hbl3 := ((hbl.alloc (.cells #[.string (strB x)] 9)).kept hgrow hne).kept (grownBy_setCell' w1 w.heap.size (.slice (some ⟨g', 0, none⟩) (pre.length + 1) cap')) (by simp)
    refine ⟨hk2.from _, Eq.trans hbl3 (Eq.symm hbl), ⟨_, hv2, ?_, trivial⟩, hbl3, hB.trans hb2⟩
    rw [List.length_append, List.length_singleton, sts_app]
    exact hr3
  case done =>
    rintro D ys W hD rfl ⟨⟨v, hv, hrow, -⟩, hbl, hB⟩ hK
    have hc := hv.cell
    obtain ⟨A, n, c, rfl⟩ := sts_slice (SOwns.sts hrow)
    gi_wp2
    refine ⟨by simp, .inl ⟨_, _, rfl, run_takeDeferred hK, ?_⟩⟩
    exact ⟨_, results_tmp rfl _ _ _, A, n, c, rfl, SOwns.sts (ownsRow_putObj hrow _ hK rfl), hB.trans (belowK_b (w := w) (Nat.le_refl _) W D _ _ (by omega) hK rfl rfl)⟩
  case stop =>
    rintro D c pre W _ _ h _
    exact h.elim
end Go.Proofs.Ytakeaocmiblbeaa
