/- The walk of PicOrder. -/
import Derived.Test.YtphbeghflbkpgaaSetD
namespace Go.Proofs.Ytphbeghflbkpgaa
open Go.RowKit
set_option linter.unusedVariables false
set_option linter.unusedSimpArgs false

set_option maxRecDepth 100000 in
set_option maxHeartbeats 8000000 in
theorem order_no (A Al : Option Addr) (n c nl cl : Nat) (o : Bool) (l : List UInt8) (m : List Int) (w : World) (h : Byt w (.slice A n c) l) (hl : NRow w Al nl cl m) (hr : pRight o l = false) :
    Calls Try.prog 7 #[.agg #[.slice A n c, .bool o], .slice Al nl cl] w fun e w' => e = .returned (.bool true) ∧ Below w.heap.size w w' := by
  have P0 := Lib.hid (pat_new (o := o) h)
  have M0 := Lib.hid (hl.keep (al_one w (.cells #[.slice A n c, .bool o] 24)))
  have B0 : Hid (Below w.heap.size w (w.alloc (.cells #[.slice A n c, .bool o] 24))) := al_one _ _
  clear h hl
  go_enter Try.func7, Try.ntmps7
  go_wp2_with fail
  refine (shown_any7 _).mono ?_
  rintro e w1 ⟨rfl, bb⟩
  have P1 := Lib.hid (P0.out.keep bb)
  have M1 := Lib.hid (M0.out.keep bb)
  have B1 := Lib.hid (below_then B0.out bb)
  clear bb P0 M0 B0
  obtain ⟨cP0, cP1⟩ := P1.out.use
  go_wp2_with fail
  refine (rright_any _ _ _ _ _ _ P1.out.byt).mono ?_
  rw [hr]
  rintro e w2 ⟨rfl, bb⟩
  have P2 := Lib.hid (P1.out.keep bb)
  have M2 := Lib.hid (M1.out.keep bb)
  have B2 := Lib.hid (below_then B1.out bb)
  clear bb cP0 cP1 P1 M1 B1
  go_wp2_with fail
  go_ret
  exact ⟨rfl, B2.out⟩
set_option maxRecDepth 100000 in
set_option maxHeartbeats 8000000 in
theorem order_long (A Al : Option Addr) (n c nl cl : Nat) (o : Bool) (l : List UInt8) (m : List Int) (w : World) (h : Byt w (.slice A n c) l) (hl : NRow w Al nl cl m) (hr : pRight o l = true) (h200 : (200 : Int) < (nl : Int)) :
    Calls Try.prog 7 #[.agg #[.slice A n c, .bool o], .slice Al nl cl] w fun e w' => e = .returned (.bool true) ∧ Below w.heap.size w w' := by
  have P0 := Lib.hid (pat_new (o := o) h)
  have M0 := Lib.hid (hl.keep (al_one w (.cells #[.slice A n c, .bool o] 24)))
  have B0 : Hid (Below w.heap.size w (w.alloc (.cells #[.slice A n c, .bool o] 24))) := al_one _ _
  clear h hl
  go_enter Try.func7, Try.ntmps7
  go_wp2_with fail
  refine (shown_any7 _).mono ?_
  rintro e w1 ⟨rfl, bb⟩
  have P1 := Lib.hid (P0.out.keep bb)
  have M1 := Lib.hid (M0.out.keep bb)
  have B1 := Lib.hid (below_then B0.out bb)
  clear bb P0 M0 B0
  obtain ⟨cP0, cP1⟩ := P1.out.use
  go_wp2_with fail
  refine (rright_any _ _ _ _ _ _ P1.out.byt).mono ?_
  rw [hr]
  rintro e w2 ⟨rfl, bb⟩
  have P2 := Lib.hid (P1.out.keep bb)
  have M2 := Lib.hid (M1.out.keep bb)
  have B2 := Lib.hid (below_then B1.out bb)
  clear bb cP0 cP1 P1 M1 B1
  go_wp2_with fail
  go_ret
  exact ⟨rfl, B2.out⟩
set_option maxRecDepth 100000 in
set_option maxHeartbeats 8000000 in
theorem order_yes (A Al : Option Addr) (n c nl cl : Nat) (o : Bool) (l : List UInt8) (m : List Int) (w : World) (h : Byt w (.slice A n c) l) (hl : NRow w Al nl cl m) (hr : pRight o l = true) (h200 : decide ((200 : Int) < (nl : Int)) = false) :
    Calls Try.prog 7 #[.agg #[.slice A n c, .bool o], .slice Al nl cl] w fun e w' => e = .returned (.bool true) ∧ Below w.heap.size w w' := by
  have P0 := Lib.hid (pat_new (o := o) h)
  have M0 := Lib.hid (hl.keep (al_one w (.cells #[.slice A n c, .bool o] 24)))
  have B0 : Hid (Below w.heap.size w (w.alloc (.cells #[.slice A n c, .bool o] 24))) := al_one _ _
  have hln : l.length = n := h.len
  subst hln
  have hl130 : l.length ≤ 130 := ((pRight_iff _ _).1 hr).1
  have hmn : m.length = nl := hl.1
  have HL := Lib.hid hl
  have HR0 := Lib.hid hr
  have hz200 : (nl : Int) ≤ 200 := by simpa using h200
  have hn200 : nl ≤ 200 := by omega
  clear hz200
  clear h hl
  go_enter Try.func7, Try.ntmps7
  go_wp2_with fail
  refine (shown_any7 _).mono ?_
  rintro e w1 ⟨rfl, bb⟩
  have P1 := Lib.hid (P0.out.keep bb)
  have M1 := Lib.hid (M0.out.keep bb)
  have B1 := Lib.hid (below_then B0.out bb)
  clear bb P0 M0 B0
  obtain ⟨cP0, cP1⟩ := P1.out.use
  go_wp2_with fail
  refine (rright_any _ _ _ _ _ _ P1.out.byt).mono ?_
  rw [hr]
  rintro e w2 ⟨rfl, bb⟩
  have P2 := Lib.hid (P1.out.keep bb)
  have M2 := Lib.hid (M1.out.keep bb)
  have B2 := Lib.hid (below_then B1.out bb)
  clear bb cP0 cP1 P1 M1 B1
  obtain ⟨cP0, cP1⟩ := P2.out.use
  have lP := P2.out.lt
  have X2 := Lib.hid (pat_new (o := o) P2.out.byt)
  have P2b := Lib.hid (P2.out.keep (al_one w2 (.cells #[.slice A l.length c, .bool o] 24)))
  have M2b := Lib.hid (M2.out.keep (al_one w2 (.cells #[.slice A l.length c, .bool o] 24)))
  have B2b := Lib.hid (alloc_then (o := .cells #[.slice A l.length c, .bool o] 24) B2.out)
  have HS2 : Hid (w.heap.size ≤ w2.heap.size) := Lib.hid B2.out.size
  have HLP := Lib.hid lP
  clear P2 M2 B2
  have hw1 : wrap64 ((l.length : Int) - 1) = (l.length : Int) - 1 := w64_id (by omega) (by omega)
  go_wp2_with fail
  try rw [hw1]
  clear hw1 cP0 cP1 lP
  obtain ⟨W, hW⟩ : ∃ W, w2.alloc (.cells #[.slice A l.length c, .bool o] 24) = W := ⟨_, rfl⟩
  obtain ⟨bx, ebx⟩ : ∃ x, w2.heap.size = x := ⟨_, rfl⟩
  rw [hW, ebx] at X2
  rw [hW] at P2b M2b B2b
  rw [ebx] at HS2 HLP
  have HW := Lib.hid hW
  rw [HW.out]
  simp only [ebx]
  clear hW ebx HW
  go_loopw [7, 8] (fun s7 s8 wr => ∃ (k : Nat) (i : Int), s7 = .string (strB (l.drop k).reverse) ∧ s8 = .int .i64 i ∧ i = (k : Int) - 1 ∧ k ≤ l.length ∧ Hid (Below W.heap.size W wr)) (fun _ s8 _ => (intOf s8 + 1).toNat)
  case atStart =>
    refine ⟨l.length, _, ?_, rfl, rfl, Nat.le_refl _, Lib.hid (Below.refl _ _)⟩
    rw [List.drop_length]
    rfl
  case round =>
    obtain ⟨k, i, rfl, rfl, hi, hk, HB⟩ := hrel
    obtain ⟨cP0, cP1⟩ := (P2b.out.keep HB.out).use
    cases k with
    | zero =>
      have hi1 : decide (0 ≤ i) = false := by simp; omega
      clear hi
      rw [List.drop_zero]
      have PB := Lib.hid (P2b.out.keep HB.out).1
      have XB := Lib.hid (X2.out.keep HB.out)
      have BB := Lib.hid (Below.trans B2b.out (HB.out.mono B2b.out.size))
      clear P2b X2 B2b M2b HB cP0 cP1
      go_wp2_with fail
      go_loopw [7, 9] (fun s7 s9 wr => ∃ (j : Nat) (A2 : Option Addr) (n2 c2 : Nat) (l2 : List UInt8), s7 = .string (strB l2.reverse) ∧ s9 = .int .i64 (j : Int) ∧ j ≤ m.length ∧ Hid (PBox wr w.heap.size A l.length c o) ∧ Hid (PAt bx A2 n2 c2 o l2 wr) ∧ Hid (Below w.heap.size w wr) ∧ Hid (pRight o l2 = true)) (fun _ s9 _ => m.length - (intOf s9).toNat)
      case atStart => exact ⟨0, A, l.length, c, l, rfl, rfl, Nat.zero_le _, PB, XB, BB, HR0⟩
      case round =>
        clear PB XB BB
        obtain ⟨j, A2, n2, c2, l2, rfl, rfl, hj, PB, XB, BB, HR2⟩ := hrel
        have hl2 : l2.length ≤ 130 := ((pRight_iff _ _).1 HR2.out).1
        obtain ⟨cP0, cP1, _, _⟩ := Box.use PB.out
        obtain ⟨cX0, cX1⟩ := XB.out.use
        by_cases hjm : j < m.length
        · have hjn : j < nl := by omega
          have hjn' : (j : Int) < (nl : Int) := by omega
          obtain ⟨g, o', hA, hc⟩ := (HL.out.keep BB.out).cell hjm
          obtain ⟨v, hv⟩ : ∃ v, m[j] = v := ⟨_, rfl⟩
          rw [hv] at hc
          have hsz : (strB l2.reverse).size = l2.length := by show l2.reverse.length = _; rw [List.length_reverse]
          cases hk : pOpen o l2 with
          | true =>
            obtain ⟨q1, q2⟩ : holdL o l2 v = l2 ++ [byteI v] ∧ holdC o l2 = 0 := by unfold holdL holdC; rw [if_pos hk, if_pos hk]; exact ⟨rfl, rfl⟩
            obtain ⟨rfl, hlt⟩ := (pOpen_iff _ _).1 hk
            have hrr : pRight true (l2 ++ [byteI v]) = true := (pRight_iff _ _).2 ⟨by simp; omega, .inl rfl⟩
            have hlt' : (l2.length : Int) < 130 := by omega
            have hap : strB [byteI v] ++ strB l2.reverse = strB (l2 ++ [byteI v]).reverse := by rw [strB_app]; simp
            have hcat := cat_ok (a := [byteI v]) (b := l2.reverse) (by simp; omega)
            subst hA
            have hg := World.block_lt_of_cell? wr ⟨g, o' + j, none⟩ hc
            have SB : Hid (∀ a, Below wr.heap.size wr a → (a.cell? ⟨bx, 0, none⟩ = some (.slice A2 n2 c2) ∧ a.cell? ⟨bx, 1, none⟩ = some (.bool true) ∧ a.cell? ⟨g, o' + j, none⟩ = some (.int .i64 v) ∧ Below wr.heap.size wr a)) := Lib.hid fun a h => ⟨(XB.out.keep h).use.1, (XB.out.keep h).use.2, (h.cell (p := ⟨g, o' + j, none⟩) hg).trans hc, h⟩
            have HH : Hid (∀ a, Below wr.heap.size wr a → Calls Try.prog 18 #[.agg #[.slice A2 n2 c2, .bool true], .int .i64 v] a fun e w' => ∃ A' n' c', e = .returned (.tuple #[.agg #[.slice A' n' c', .bool true], .int .i64 0]) ∧ Byt w' (.slice A' n' c') (l2 ++ [byteI v]) ∧ Below a.heap.size a w') := by
              show ∀ _, _
              intro a h
              have := hold_any A2 n2 c2 true l2 v a (XB.out.keep h).byt (by omega)
              rw [q1, q2] at this
              exact this
            go_wp2_with fail
            refine wp_region_noPanic ?_
            go_region_held3 (fun a => a.cell? ⟨bx, 0, none⟩ = some (.slice A2 n2 c2) ∧ a.cell? ⟨bx, 1, none⟩ = some (.bool true) ∧ a.cell? ⟨g, o' + j, none⟩ = some (.int .i64 v) ∧ Below wr.heap.size wr a) (first | assumption | exact SB.out _ (since_d _) | exact SB.out _ (since_ad _ _) | exact SB.out _ (since_aa s4.2.2.2 _) | exact SB.out _ (below_pset s4.2.2.2 (Nat.le_refl _) _ _) | exact SB.out _ (below_pset (since_aa s4.2.2.2 _) s4.2.2.2.size _ _))
              (first
                | (go_at_call 18; ((with_reducible refine (HH.out _ (by assumption : _ ∧ _ ∧ _ ∧ Below wr.heap.size wr _).2.2.2).mono ?_); rintro e4 w4 ⟨A4, n4, c4, rfl, hy4, b4⟩; have s4 := SB.out _ (below_then (by assumption : _ ∧ _ ∧ _ ∧ Below wr.heap.size wr _).2.2.2 b4); have Q3 := Lib.hid (Box.keep_h (pbox_new wr none 0 0 false) b4 rfl); obtain ⟨q3, q4, q5, q6⟩ := Q3.out.use))
                | (go_at_call 18; ((with_reducible refine (HH.out _ (by assumption : _ ∧ _ ∧ _ ∧ Below wr.heap.size wr _).2.2.2).mono ?_); rintro e4 w4 ⟨A4, n4, c4, rfl, hy4, b4⟩; have s4 := SB.out _ (below_then (by assumption : _ ∧ _ ∧ _ ∧ Below wr.heap.size wr _).2.2.2 b4))))
            all_goals (refine NoPanic.normal ?_)
            all_goals (first
              | (obtain ⟨wf, hwf, zf, bf⟩ := ppack (W := wr) (o' := true) Q3.out hy4 s4.2.2.2 (Nat.le_refl _); rw [hwf]; clear hwf)
              | (obtain ⟨wf, hwf, zf, bf⟩ := papack (W := wr) (o := true) hy4 s4.2.2.2; rw [hwf]; clear hwf))
            all_goals (have PF := Lib.hid (Box.keep PB.out bf); have XF := Lib.hid (XB.out.keep bf); have BF := Lib.hid (Below.trans BB.out (bf.mono BB.out.size)); have hcf := (bf.cell (p := ⟨g, o' + j, none⟩) hg).trans hc)
            all_goals (obtain ⟨p0, p1, _, _⟩ := Box.use PF.out; obtain ⟨x0, x1⟩ := XF.out.use; obtain ⟨y0, y1⟩ := zf.out.use; clear cP0 cP1 cX0 cX1 bf)
            all_goals go_wp2_with fail
            all_goals (refine (rright_any _ _ _ true _ _ zf.out.byt).mono ?_)
            all_goals (rw [hrr])
            all_goals (rintro e6 w6 ⟨rfl, b6⟩)
            all_goals (have PK := Lib.hid (Box.keep PF.out b6); have XK := Lib.hid (XF.out.keep b6); have ZK := Lib.hid (zf.out.keep b6); have BK := Lib.hid (Below.trans BF.out (b6.mono BF.out.size)); have hck := (b6.cell (p := ⟨g, o' + j, none⟩) (World.block_lt_of_cell? _ ⟨g, o' + j, none⟩ hcf)).trans hcf; clear PF XF zf BF hcf b6 p0 p1 x0 x1 y0 y1)
            all_goals (obtain ⟨x0, x1, x2, x3⟩ := Box.use XK.out.1; obtain ⟨y0, y1⟩ := ZK.out.use; have lx := XK.out.lt; have ly := ZK.out.lt)
            all_goals (have hcv := conv_low v w6)
            all_goals go_wp2_with fail
            all_goals go_roundw
            all_goals first
              | exact ⟨j + 1, A4, n4, c4, l2 ++ [byteI v], by rw [List.reverse_append]; rfl, by simp, by omega, Lib.hid (Box.keep (pbox_far PK.out (Nat.ne_of_lt HLP.out) _ _) (al_one _ _)), Lib.hid ((pat_set XK.out.1 ZK.out.byt).keep (al_one _ _)), Lib.hid (alloc_then (below_pset BK.out HS2.out _ _)), Lib.hid hrr⟩
              | (simp [intOf]; omega)
          | false =>
            cases o with
            | true =>
              obtain ⟨q1, q2⟩ : holdL true l2 v = l2 ∧ holdC true l2 = -17 := by unfold holdL holdC; rw [if_neg (by simp [hk]), if_neg (by simp [hk])]; exact ⟨rfl, rfl⟩
              have hrr := HR2.out
              subst hA
              have hlt' : decide ((l2.length : Int) < 130) = false := by have := (pOpen_no _ _).1 hk; simp at this; simp; omega
              have hg := World.block_lt_of_cell? wr ⟨g, o' + j, none⟩ hc
              have SB : Hid (∀ a, Below wr.heap.size wr a → (a.cell? ⟨bx, 0, none⟩ = some (.slice A2 n2 c2) ∧ a.cell? ⟨bx, 1, none⟩ = some (.bool true) ∧ a.cell? ⟨g, o' + j, none⟩ = some (.int .i64 v) ∧ Below wr.heap.size wr a)) := Lib.hid fun a h => ⟨(XB.out.keep h).use.1, (XB.out.keep h).use.2, (h.cell (p := ⟨g, o' + j, none⟩) hg).trans hc, h⟩
              have HH : Hid (∀ a, Below wr.heap.size wr a → Calls Try.prog 18 #[.agg #[.slice A2 n2 c2, .bool true], .int .i64 v] a fun e w' => ∃ A' n' c', e = .returned (.tuple #[.agg #[.slice A' n' c', .bool true], .int .i64 (-17)]) ∧ Byt w' (.slice A' n' c') l2 ∧ Below a.heap.size a w') := by
                show ∀ _, _
                intro a h
                have := hold_any A2 n2 c2 true l2 v a (XB.out.keep h).byt (by omega)
                rw [q1, q2] at this
                exact this
              go_wp2_with fail
              refine wp_region_noPanic ?_
              go_region_held3 (fun a => a.cell? ⟨bx, 0, none⟩ = some (.slice A2 n2 c2) ∧ a.cell? ⟨bx, 1, none⟩ = some (.bool true) ∧ a.cell? ⟨g, o' + j, none⟩ = some (.int .i64 v) ∧ Below wr.heap.size wr a) (first | assumption | exact SB.out _ (since_d _) | exact SB.out _ (since_ad _ _) | exact SB.out _ (since_aa s4.2.2.2 _) | exact SB.out _ (below_pset s4.2.2.2 (Nat.le_refl _) _ _) | exact SB.out _ (below_pset (since_aa s4.2.2.2 _) s4.2.2.2.size _ _))
                (first
                  | (go_at_call 18; ((with_reducible refine (HH.out _ (by assumption : _ ∧ _ ∧ _ ∧ Below wr.heap.size wr _).2.2.2).mono ?_); rintro e4 w4 ⟨A4, n4, c4, rfl, hy4, b4⟩; have s4 := SB.out _ (below_then (by assumption : _ ∧ _ ∧ _ ∧ Below wr.heap.size wr _).2.2.2 b4); have Q3 := Lib.hid (Box.keep_h (pbox_new wr none 0 0 false) b4 rfl); obtain ⟨q3, q4, q5, q6⟩ := Q3.out.use))
                  | (go_at_call 18; ((with_reducible refine (HH.out _ (by assumption : _ ∧ _ ∧ _ ∧ Below wr.heap.size wr _).2.2.2).mono ?_); rintro e4 w4 ⟨A4, n4, c4, rfl, hy4, b4⟩; have s4 := SB.out _ (below_then (by assumption : _ ∧ _ ∧ _ ∧ Below wr.heap.size wr _).2.2.2 b4))))
              all_goals (refine NoPanic.normal ?_)
              all_goals (first
                | (obtain ⟨wf, hwf, zf, bf⟩ := ppack (W := wr) (o' := true) Q3.out hy4 s4.2.2.2 (Nat.le_refl _); rw [hwf]; clear hwf)
                | (obtain ⟨wf, hwf, zf, bf⟩ := papack (W := wr) (o := true) hy4 s4.2.2.2; rw [hwf]; clear hwf))
              all_goals (have PF := Lib.hid (Box.keep PB.out bf); have XF := Lib.hid (XB.out.keep bf); have BF := Lib.hid (Below.trans BB.out (bf.mono BB.out.size)); have hcf := (bf.cell (p := ⟨g, o' + j, none⟩) hg).trans hc)
              all_goals (obtain ⟨p0, p1, _, _⟩ := Box.use PF.out; obtain ⟨x0, x1⟩ := XF.out.use; obtain ⟨y0, y1⟩ := zf.out.use; clear cP0 cP1 cX0 cX1 bf)
              all_goals go_wp2_with fail
              all_goals (refine (rsame_any _ _ _ _ _ _ true true l2 l2 _ zf.out.byt XF.out.byt).mono ?_)
              all_goals (rw [psame_refl])
              all_goals (rintro e5 w5 ⟨rfl, b5⟩)
              all_goals (have PG := Lib.hid (Box.keep PF.out b5); have XG := Lib.hid (XF.out.keep b5); have ZG := Lib.hid (zf.out.keep b5); have BG := Lib.hid (Below.trans BF.out (b5.mono BF.out.size)); have hcg := (b5.cell (p := ⟨g, o' + j, none⟩) (World.block_lt_of_cell? _ ⟨g, o' + j, none⟩ hcf)).trans hcf; clear PF XF zf BF hcf b5 p0 p1 x0 x1 y0 y1)
              all_goals (obtain ⟨p0, p1, _, _⟩ := Box.use PG.out; obtain ⟨x0, x1⟩ := XG.out.use; obtain ⟨y0, y1⟩ := ZG.out.use)
              all_goals go_wp2_with fail
              all_goals (refine (rright_any _ _ _ true _ _ ZG.out.byt).mono ?_)
              all_goals (rw [hrr])
              all_goals (rintro e6 w6 ⟨rfl, b6⟩)
              all_goals (have PK := Lib.hid (Box.keep PG.out b6); have XK := Lib.hid (XG.out.keep b6); have ZK := Lib.hid (ZG.out.keep b6); have BK := Lib.hid (Below.trans BG.out (b6.mono BG.out.size)); have hck := (b6.cell (p := ⟨g, o' + j, none⟩) (World.block_lt_of_cell? _ ⟨g, o' + j, none⟩ hcg)).trans hcg; clear PG XG ZG BG hcg b6 p0 p1 x0 x1 y0 y1)
              all_goals (obtain ⟨x0, x1, x2, x3⟩ := Box.use XK.out.1; obtain ⟨y0, y1⟩ := ZK.out.use; have lx := XK.out.lt; have ly := ZK.out.lt)
              all_goals go_wp2_with fail
              all_goals go_roundw
              all_goals first
                | exact ⟨j + 1, A4, n4, c4, l2, rfl, by simp, by omega, Lib.hid (pbox_far PK.out (Nat.ne_of_lt HLP.out) _ _), Lib.hid (pat_set XK.out.1 ZK.out.byt), Lib.hid (below_pset BK.out HS2.out _ _), Lib.hid hrr⟩
                | (simp [intOf]; omega)
            | false =>
              obtain ⟨q1, q2⟩ : holdL false l2 v = l2 ∧ holdC false l2 = -17 := by unfold holdL holdC; rw [if_neg (by simp [hk]), if_neg (by simp [hk])]; exact ⟨rfl, rfl⟩
              have hrr := HR2.out
              subst hA
              have hg := World.block_lt_of_cell? wr ⟨g, o' + j, none⟩ hc
              have SB : Hid (∀ a, Below wr.heap.size wr a → (a.cell? ⟨bx, 0, none⟩ = some (.slice A2 n2 c2) ∧ a.cell? ⟨bx, 1, none⟩ = some (.bool false) ∧ a.cell? ⟨g, o' + j, none⟩ = some (.int .i64 v) ∧ Below wr.heap.size wr a)) := Lib.hid fun a h => ⟨(XB.out.keep h).use.1, (XB.out.keep h).use.2, (h.cell (p := ⟨g, o' + j, none⟩) hg).trans hc, h⟩
              have HH : Hid (∀ a, Below wr.heap.size wr a → Calls Try.prog 18 #[.agg #[.slice A2 n2 c2, .bool false], .int .i64 v] a fun e w' => ∃ A' n' c', e = .returned (.tuple #[.agg #[.slice A' n' c', .bool false], .int .i64 (-17)]) ∧ Byt w' (.slice A' n' c') l2 ∧ Below a.heap.size a w') := by
                show ∀ _, _
                intro a h
                have := hold_any A2 n2 c2 false l2 v a (XB.out.keep h).byt (by omega)
                rw [q1, q2] at this
                exact this
              go_wp2_with fail
              refine wp_region_noPanic ?_
              go_region_held3 (fun a => a.cell? ⟨bx, 0, none⟩ = some (.slice A2 n2 c2) ∧ a.cell? ⟨bx, 1, none⟩ = some (.bool false) ∧ a.cell? ⟨g, o' + j, none⟩ = some (.int .i64 v) ∧ Below wr.heap.size wr a) (first | assumption | exact SB.out _ (since_d _) | exact SB.out _ (since_ad _ _) | exact SB.out _ (since_aa s4.2.2.2 _) | exact SB.out _ (below_pset s4.2.2.2 (Nat.le_refl _) _ _) | exact SB.out _ (below_pset (since_aa s4.2.2.2 _) s4.2.2.2.size _ _))
                (first
                  | (go_at_call 18; ((with_reducible refine (HH.out _ (by assumption : _ ∧ _ ∧ _ ∧ Below wr.heap.size wr _).2.2.2).mono ?_); rintro e4 w4 ⟨A4, n4, c4, rfl, hy4, b4⟩; have s4 := SB.out _ (below_then (by assumption : _ ∧ _ ∧ _ ∧ Below wr.heap.size wr _).2.2.2 b4); have Q3 := Lib.hid (Box.keep_h (pbox_new wr none 0 0 false) b4 rfl); obtain ⟨q3, q4, q5, q6⟩ := Q3.out.use))
                  | (go_at_call 18; ((with_reducible refine (HH.out _ (by assumption : _ ∧ _ ∧ _ ∧ Below wr.heap.size wr _).2.2.2).mono ?_); rintro e4 w4 ⟨A4, n4, c4, rfl, hy4, b4⟩; have s4 := SB.out _ (below_then (by assumption : _ ∧ _ ∧ _ ∧ Below wr.heap.size wr _).2.2.2 b4))))
              all_goals (refine NoPanic.normal ?_)
              all_goals (first
                | (obtain ⟨wf, hwf, zf, bf⟩ := ppack (W := wr) (o' := false) Q3.out hy4 s4.2.2.2 (Nat.le_refl _); rw [hwf]; clear hwf)
                | (obtain ⟨wf, hwf, zf, bf⟩ := papack (W := wr) (o := false) hy4 s4.2.2.2; rw [hwf]; clear hwf))
              all_goals (have PF := Lib.hid (Box.keep PB.out bf); have XF := Lib.hid (XB.out.keep bf); have BF := Lib.hid (Below.trans BB.out (bf.mono BB.out.size)); have hcf := (bf.cell (p := ⟨g, o' + j, none⟩) hg).trans hc)
              all_goals (obtain ⟨p0, p1, _, _⟩ := Box.use PF.out; obtain ⟨x0, x1⟩ := XF.out.use; obtain ⟨y0, y1⟩ := zf.out.use; clear cP0 cP1 cX0 cX1 bf)
              all_goals go_wp2_with fail
              all_goals (refine (rsame_any _ _ _ _ _ _ false false l2 l2 _ zf.out.byt XF.out.byt).mono ?_)
              all_goals (rw [psame_refl])
              all_goals (rintro e5 w5 ⟨rfl, b5⟩)
              all_goals (have PG := Lib.hid (Box.keep PF.out b5); have XG := Lib.hid (XF.out.keep b5); have ZG := Lib.hid (zf.out.keep b5); have BG := Lib.hid (Below.trans BF.out (b5.mono BF.out.size)); have hcg := (b5.cell (p := ⟨g, o' + j, none⟩) (World.block_lt_of_cell? _ ⟨g, o' + j, none⟩ hcf)).trans hcf; clear PF XF zf BF hcf b5 p0 p1 x0 x1 y0 y1)
              all_goals (obtain ⟨p0, p1, _, _⟩ := Box.use PG.out; obtain ⟨x0, x1⟩ := XG.out.use; obtain ⟨y0, y1⟩ := ZG.out.use)
              all_goals go_wp2_with fail
              all_goals (refine (rright_any _ _ _ false _ _ ZG.out.byt).mono ?_)
              all_goals (rw [hrr])
              all_goals (rintro e6 w6 ⟨rfl, b6⟩)
              all_goals (have PK := Lib.hid (Box.keep PG.out b6); have XK := Lib.hid (XG.out.keep b6); have ZK := Lib.hid (ZG.out.keep b6); have BK := Lib.hid (Below.trans BG.out (b6.mono BG.out.size)); have hck := (b6.cell (p := ⟨g, o' + j, none⟩) (World.block_lt_of_cell? _ ⟨g, o' + j, none⟩ hcg)).trans hcg; clear PG XG ZG BG hcg b6 p0 p1 x0 x1 y0 y1)
              all_goals (obtain ⟨x0, x1, x2, x3⟩ := Box.use XK.out.1; obtain ⟨y0, y1⟩ := ZK.out.use; have lx := XK.out.lt; have ly := ZK.out.lt)
              all_goals go_wp2_with fail
              all_goals go_roundw
              all_goals first
                | exact ⟨j + 1, A4, n4, c4, l2, rfl, by simp, by omega, Lib.hid (pbox_far PK.out (Nat.ne_of_lt HLP.out) _ _), Lib.hid (pat_set XK.out.1 ZK.out.byt), Lib.hid (below_pset BK.out HS2.out _ _), Lib.hid hrr⟩
                | (simp [intOf]; omega)
        · have hje : (j : Int) = (nl : Int) := by omega
          have hjn' : decide ((j : Int) < (nl : Int)) = false := by simp; omega
          have HE : Hid (strB (endL o l2) = strB l2.reverse) := by
            show _ = _
            cases o with
            | true => rw [show endL true l2 = l2.reverse from rfl]
            | false =>
              rcases ((pRight_iff _ _).1 HR2.out).2 with h | h
              · cases h
              · rw [h]; rfl
          have HD := Lib.hid (end_any A2 n2 c2 o l2 _ XB.out.byt (by omega))
          have hjn2 : decide (j < nl) = false := by simp; omega
          have hjn3 : nl ≤ j := by omega
          clear hje hjm hj
          cases o with
          | true =>
            go_wp2_with fail
            refine HD.out.mono ?_
            rw [HE.out, show endC true = 0 from rfl]
            rintro e w5 ⟨rfl, b5⟩
            have PG := Lib.hid (Box.keep PB.out b5)
            have BG := Lib.hid (Below.trans BB.out (b5.mono BB.out.size))
            clear cP0 cP1 cX0 cX1 b5
            obtain ⟨p0, p1, _, _⟩ := Box.use PG.out
            go_wp2_with fail
            go_ret
            exact ⟨rfl, BG.out⟩
          | false =>
            go_wp2_with fail
            refine HD.out.mono ?_
            rw [HE.out, show endC false = -17 from rfl]
            rintro e w5 ⟨rfl, b5⟩
            have PG := Lib.hid (Box.keep PB.out b5)
            have BG := Lib.hid (Below.trans BB.out (b5.mono BB.out.size))
            clear cP0 cP1 cX0 cX1 b5
            obtain ⟨p0, p1, _, _⟩ := Box.use PG.out
            go_wp2_with fail
            go_ret
            exact ⟨rfl, BG.out⟩
    | succ k =>
      obtain rfl : i = (k : Int) := by omega
      obtain ⟨g, o', hA, hc⟩ := byt_cell (P2b.out.keep HB.out).byt (by omega : k < l.length)
      have hR := drop_rev (by omega : k < l.length)
      obtain ⟨x, hx⟩ : ∃ x, l[k] = x := ⟨_, rfl⟩
      rw [hx] at hc hR
      have HR := Lib.hid hR
      have hkl : k < l.length := by omega
      have hkl' : (k : Int) < (l.length : Int) := by omega
      have hcv := conv_one x wr
      have hap : strB (l.drop (k + 1)).reverse ++ strB [x] = strB (l.drop k).reverse := by rw [strB_app, ← hR]
      have hcat := cat_ok (a := (l.drop (k + 1)).reverse) (b := [x]) (by simp; omega)
      obtain ⟨z, hz⟩ : ∃ z, (l.drop (k + 1)).reverse = z := ⟨_, rfl⟩
      obtain ⟨z2, hz2⟩ : ∃ z, (l.drop k).reverse = z := ⟨_, rfl⟩
      have HZ2 := Lib.hid hz2
      rw [hz, hz2] at hap
      rw [hz] at hcat ⊢
      subst hA
      clear hx hR hi hk hz hz2 HR
      go_wp2_with fail
      go_roundw
      case rel =>
        refine ⟨k, _, ?_, rfl, ?_, by omega, Lib.hid (alloc_then HB.out)⟩
        · rw [HZ2.out]
        · first | rfl | exact w64_id (by omega) (by omega)
      case measure => first | (simp [intOf]; done) | (simp [intOf]; omega) | (rw [w64_id (by omega) (by omega)]; simp [intOf])
theorem order_any (A Al : Option Addr) (n c nl cl : Nat) (o : Bool) (l : List UInt8) (m : List Int) (w : World) (h : Byt w (.slice A n c) l) (hl : NRow w Al nl cl m) :
    Calls Try.prog 7 #[.agg #[.slice A n c, .bool o], .slice Al nl cl] w fun e w' => e = .returned (.bool true) ∧ Below w.heap.size w w' := by
  cases hr : pRight o l with
  | false => exact order_no A Al n c nl cl o l m w h hl hr
  | true =>
    by_cases h200 : (200 : Int) < (nl : Int)
    · exact order_long A Al n c nl cl o l m w h hl hr h200
    · exact order_yes A Al n c nl cl o l m w h hl hr (by simpa using h200)
end Go.Proofs.Ytphbeghflbkpgaa
