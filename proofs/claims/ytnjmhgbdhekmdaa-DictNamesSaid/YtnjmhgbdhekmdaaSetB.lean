/- What the laws of this stage lean on, part 2: DictRefC, DictRefD, DictRefE, DictRefF, LexCodeC, LexCodeD, DictCodeA, DictCodeB, DictCodeC. -/
import Derived.Test.YtnjmhgbdhekmdaaSetA
import Derived.Lib.Bytealg
import Derived.Laws.IdiomStrings
import Derived.Laws.BytesString
import Derived.Deep.QuietTactic
import Derived.BigQuiet

/- Contracts of the document's Find. -/
namespace Go.Proofs.Ytnjmhgbdhekmdaa
open Go.RowKit
set_option linter.unusedVariables false
set_option linter.unusedSimpArgs false

set_option maxRecDepth 100000 in
set_option maxHeartbeats 4000000 in
theorem rfind_any (A : Option Addr) (n c : Nat) (l : List Wr) (nm : List UInt8) (w : World) (h : Wds w (.slice A n c) l) (hn : n ≤ 1000000) (hfl : ∀ q ∈ l, 0 ≤ q.fl ∧ q.fl ≤ 7) (hnl : ∀ q ∈ l, q.nm.length ≤ 100000) (hm : nm.length ≤ 100000) : Calls Try.prog 16 #[.slice A n c, .string (strB nm)] w (GotOut (gotW l (findI l nm)) (gotI (findI l nm)) (findI l nm).isSome w) := by
  have hl := h.len
  subst hl
  have HA := Lib.hid h
  have HN : Hid (l.length ≤ 1000000) := hn
  have hw1 : wrap64 ((l.length : Int) - 1) = (l.length : Int) - 1 := w64_id (by omega) (by omega)
  have HFL : Hid (∀ q ∈ l, 0 ≤ q.fl ∧ q.fl ≤ 7) := hfl
  have HNL : Hid (∀ q ∈ l, q.nm.length ≤ 100000) := hnl
  clear h hn hfl hnl
  unfold GotOut
  go_enter Try.func16, Try.ntmps16
  go_wp2_with fail
  try rw [hw1]
  clear hw1
  obtain ⟨W, hW⟩ : ∃ W, w.alloc (.cells #[.string ⟨#[]⟩, .int .i64 0, .int .i64 0] 30) = W := ⟨_, rfl⟩
  have hB := al_one w (.cells #[.string ⟨#[]⟩, .int .i64 0, .int .i64 0] 30)
  have hX := wbox_zero w
  rw [hW] at hB hX
  have HX := Lib.hid hX
  have HB := Lib.hid hB
  have HW := Lib.hid hW
  rw [HW.out]
  clear hB hX hW
  go_loopw [7] (fun s7 wr => ∃ (k : Nat) (i : Int), s7 = .int .i64 i ∧ i = (k : Int) - 1 ∧ k ≤ l.length ∧ Hid (lastI (seenP nm) (l.drop k) = none) ∧ Hid (Below W.heap.size W wr)) (fun s7 _ => (intOf s7 + 1).toNat)
  case atStart => exact ⟨l.length, _, rfl, rfl, Nat.le_refl _, Lib.hid (by rw [List.drop_length]; rfl), Lib.hid (Below.refl _ _)⟩
  case round =>
    obtain ⟨k, i, rfl, hi, hk, HL, HB2⟩ := hrel
    have XZ := Lib.hid (HX.out.keep HB2.out)
    have HBB := Lib.hid (below_then HB.out HB2.out)
    obtain ⟨z0, z1, z2, z3, z4, z5⟩ := XZ.out.use
    have lz := XZ.out.lt
    cases k with
    | zero =>
      have hi1 : decide (0 ≤ i) = false := by simp; omega
      have H : Hid (findI l nm = none) := by have := HL.out; rwa [List.drop_zero] at this
      clear hi HL hk
      go_wp2_with fail
      obtain ⟨r0, r1, r2⟩ := XZ.out.put0
      rw [H.out]
      refine bodyPost_ret (v := .tuple #[.agg #[.string ⟨#[]⟩, .int .i64 0, .int .i64 0], .int .i64 0, .bool false]) ?_ rfl ?_
      · first
          | (simp [results, Try.results16, go_sem, r0, r1, r2]; done)
          | (have r0' := r0; have r1' := r1; have r2' := r2; simp only [w0] at r0' r1' r2'; simp [results, Try.results16, go_sem, r0', r1', r2', w0]; done)
      · exact ⟨rfl, below_wset HBB.out (Nat.le_refl _) _ _ _⟩
    | succ k =>
      obtain rfl : i = (k : Int) := by omega
      have hkl : k < l.length := by omega
      obtain ⟨g, o, hA, c1, c2, c3⟩ := wds_cell (HA.out.keep (below_then HB.out HB2.out)) hkl
      have hx : l[k]? = some l[k] := List.getElem?_eq_getElem hkl
      obtain ⟨q, eq⟩ : ∃ q, l[k] = q := ⟨_, rfl⟩
      rw [eq] at c1 c2 c3 hx
      have hkl' : (k : Int) < (l.length : Int) := by omega
      have hln := HN.out
      subst hA
      have hfl := HFL.out q (List.mem_of_getElem? hx)
      have HK := Lib.hid (fun w => ralike_any q.nm nm w (HNL.out q (List.mem_of_getElem? hx)) hm)
      have HH := Lib.hid (fun w => rhidden_any q w hfl.1 hfl.2)
      have HCC : Hid (wr.cell? ⟨g, o + k * 3, none⟩ = some (.string (strB q.nm)) ∧ wr.cell? ⟨g, o + k * 3 + 1, none⟩ = some (.int .i64 q.xt) ∧ wr.cell? ⟨g, o + k * 3 + 2, none⟩ = some (.int .i64 q.fl)) := ⟨c1, c2, c3⟩
      have hg := World.block_lt_of_cell? wr ⟨g, o + k * 3, none⟩ c1
      have HXK := Lib.hid hx
      have HKL := Lib.hid hk
      clear hfl hx eq hi hk
      have HC2 := HCC
      have hg2 := hg
      have XZ2 := XZ
      clear HBB HCC hg
      cases hK : alikeF q.nm nm with
      | false =>
        rw [hK] at HK
        have HN2 := Lib.hid (lastI_step (p := seenP nm) HXK.out (by unfold seenP; rw [hK]; rfl) HL.out)
        clear hK HL
        go_wp2_with fail
        refine (HK.out _).mono ?_
        rintro e1 w5 ⟨rfl, b5⟩
        obtain ⟨d1, d2, d3⟩ := HC2.out
        have HC5 : Hid (w5.cell? ⟨g, o + k * 3, none⟩ = some (.string (strB q.nm)) ∧ w5.cell? ⟨g, o + k * 3 + 1, none⟩ = some (.int .i64 q.xt) ∧ w5.cell? ⟨g, o + k * 3 + 2, none⟩ = some (.int .i64 q.fl)) := ⟨(b5.cell (p := ⟨g, o + k * 3, none⟩) hg2).trans d1, (b5.cell (p := ⟨g, o + k * 3 + 1, none⟩) hg2).trans d2, (b5.cell (p := ⟨g, o + k * 3 + 2, none⟩) hg2).trans d3⟩
        have hg5 : g < w5.heap.size := Nat.lt_of_lt_of_le hg2 b5.size
        have XZ5 := Lib.hid (XZ2.out.keep b5)
        have HB5 := Lib.hid (below_then HB2.out b5)
        clear b5 d1 d2 d3 c1 c2 c3 z0 z1 z2 z3 z4 z5 lz
        obtain ⟨c1, c2, c3⟩ := HC5.out
        obtain ⟨z0, z1, z2, z3, z4, z5⟩ := XZ5.out.use
        have lz := XZ5.out.lt
        go_wp2_with fail
        go_roundw
        case rel => exact ⟨k, _, rfl, (by first | rfl | exact w64_id (by omega) (by omega)), by omega, HN2, HB5⟩
        case measure => first | (simp [intOf]; done) | (simp [intOf]; omega) | (rw [w64_id (by omega) (by omega)]; simp [intOf])
      | true =>
        rw [hK] at HK
        cases hHd : hidB q.fl with
        | true =>
          rw [hHd] at HH
          have HN2 := Lib.hid (lastI_step (p := seenP nm) HXK.out (by unfold seenP; rw [hK, hHd]; rfl) HL.out)
          clear hK hHd HL
          go_wp2_with fail
          refine (HK.out _).mono ?_
          rintro e1 w5 ⟨rfl, b5⟩
          obtain ⟨d1, d2, d3⟩ := HC2.out
          have HC5 : Hid (w5.cell? ⟨g, o + k * 3, none⟩ = some (.string (strB q.nm)) ∧ w5.cell? ⟨g, o + k * 3 + 1, none⟩ = some (.int .i64 q.xt) ∧ w5.cell? ⟨g, o + k * 3 + 2, none⟩ = some (.int .i64 q.fl)) := ⟨(b5.cell (p := ⟨g, o + k * 3, none⟩) hg2).trans d1, (b5.cell (p := ⟨g, o + k * 3 + 1, none⟩) hg2).trans d2, (b5.cell (p := ⟨g, o + k * 3 + 2, none⟩) hg2).trans d3⟩
          have hg5 : g < w5.heap.size := Nat.lt_of_lt_of_le hg2 b5.size
          have XZ5 := Lib.hid (XZ2.out.keep b5)
          have HB5 := Lib.hid (below_then HB2.out b5)
          clear b5 d1 d2 d3 c1 c2 c3 z0 z1 z2 z3 z4 z5 lz
          obtain ⟨c1, c2, c3⟩ := HC5.out
          obtain ⟨z0, z1, z2, z3, z4, z5⟩ := XZ5.out.use
          have lz := XZ5.out.lt
          go_wp2_with fail
          refine (HH.out _).mono ?_
          rintro e2 w6 ⟨rfl, b6⟩
          obtain ⟨d1, d2, d3⟩ := HC5.out
          have HC6 : Hid (w6.cell? ⟨g, o + k * 3, none⟩ = some (.string (strB q.nm)) ∧ w6.cell? ⟨g, o + k * 3 + 1, none⟩ = some (.int .i64 q.xt) ∧ w6.cell? ⟨g, o + k * 3 + 2, none⟩ = some (.int .i64 q.fl)) := ⟨(b6.cell (p := ⟨g, o + k * 3, none⟩) hg5).trans d1, (b6.cell (p := ⟨g, o + k * 3 + 1, none⟩) hg5).trans d2, (b6.cell (p := ⟨g, o + k * 3 + 2, none⟩) hg5).trans d3⟩
          have hg6 : g < w6.heap.size := Nat.lt_of_lt_of_le hg5 b6.size
          have XZ6 := Lib.hid (XZ5.out.keep b6)
          have HB6 := Lib.hid (below_then HB5.out b6)
          clear b6 d1 d2 d3 c1 c2 c3 z0 z1 z2 z3 z4 z5 lz
          obtain ⟨c1, c2, c3⟩ := HC6.out
          obtain ⟨z0, z1, z2, z3, z4, z5⟩ := XZ6.out.use
          have lz := XZ6.out.lt
          go_wp2_with fail
          go_roundw
          case rel => exact ⟨k, _, rfl, (by first | rfl | exact w64_id (by omega) (by omega)), by omega, HN2, HB6⟩
          case measure => first | (simp [intOf]; done) | (simp [intOf]; omega) | (rw [w64_id (by omega) (by omega)]; simp [intOf])
        | false =>
          rw [hHd] at HH
          have H : Hid (findI l nm = some k) := lastI_at HXK.out (by unfold seenP; rw [hK, hHd]; rfl) HL.out
          have HG : Hid (gotW l (some k) = q) := gotW_at HXK.out
          clear hK hHd HL
          go_wp2_with fail
          refine (HK.out _).mono ?_
          rintro e1 w5 ⟨rfl, b5⟩
          obtain ⟨d1, d2, d3⟩ := HC2.out
          have HC5 : Hid (w5.cell? ⟨g, o + k * 3, none⟩ = some (.string (strB q.nm)) ∧ w5.cell? ⟨g, o + k * 3 + 1, none⟩ = some (.int .i64 q.xt) ∧ w5.cell? ⟨g, o + k * 3 + 2, none⟩ = some (.int .i64 q.fl)) := ⟨(b5.cell (p := ⟨g, o + k * 3, none⟩) hg2).trans d1, (b5.cell (p := ⟨g, o + k * 3 + 1, none⟩) hg2).trans d2, (b5.cell (p := ⟨g, o + k * 3 + 2, none⟩) hg2).trans d3⟩
          have hg5 : g < w5.heap.size := Nat.lt_of_lt_of_le hg2 b5.size
          have XZ5 := Lib.hid (XZ2.out.keep b5)
          have HB5 := Lib.hid (below_then HB2.out b5)
          clear b5 d1 d2 d3 c1 c2 c3 z0 z1 z2 z3 z4 z5 lz
          obtain ⟨c1, c2, c3⟩ := HC5.out
          obtain ⟨z0, z1, z2, z3, z4, z5⟩ := XZ5.out.use
          have lz := XZ5.out.lt
          go_wp2_with fail
          refine (HH.out _).mono ?_
          rintro e2 w6 ⟨rfl, b6⟩
          obtain ⟨d1, d2, d3⟩ := HC5.out
          have HC6 : Hid (w6.cell? ⟨g, o + k * 3, none⟩ = some (.string (strB q.nm)) ∧ w6.cell? ⟨g, o + k * 3 + 1, none⟩ = some (.int .i64 q.xt) ∧ w6.cell? ⟨g, o + k * 3 + 2, none⟩ = some (.int .i64 q.fl)) := ⟨(b6.cell (p := ⟨g, o + k * 3, none⟩) hg5).trans d1, (b6.cell (p := ⟨g, o + k * 3 + 1, none⟩) hg5).trans d2, (b6.cell (p := ⟨g, o + k * 3 + 2, none⟩) hg5).trans d3⟩
          have hg6 : g < w6.heap.size := Nat.lt_of_lt_of_le hg5 b6.size
          have XZ6 := Lib.hid (XZ5.out.keep b6)
          have HB6 := Lib.hid (below_then HB5.out b6)
          clear b6 d1 d2 d3 c1 c2 c3 z0 z1 z2 z3 z4 z5 lz
          obtain ⟨c1, c2, c3⟩ := HC6.out
          obtain ⟨z0, z1, z2, z3, z4, z5⟩ := XZ6.out.use
          have lz := XZ6.out.lt
          go_wp2_with fail
          obtain ⟨r0, r1, r2, _, _, _⟩ := (XZ6.out.put q).use
          rw [H.out, HG.out]
          refine bodyPost_ret (v := .tuple #[.agg #[.string (strB q.nm), .int .i64 q.xt, .int .i64 q.fl], .int .i64 (k : Int), .bool true]) ?_ rfl ?_
          · simp [results, Try.results16, go_sem, r0, r1, r2]
          · exact ⟨rfl, below_wset (below_then HB.out HB6.out) (Nat.le_refl _) _ _ _⟩
end Go.Proofs.Ytnjmhgbdhekmdaa

/- Contracts of the document's Right, Same. -/
namespace Go.Proofs.Ytnjmhgbdhekmdaa
open Go.RowKit
set_option linter.unusedVariables false
set_option linter.unusedSimpArgs false

theorem right_no {l : List Wr} {q : Wr} (hq : q ∈ l) (h : wordB q = false) : dRight l = false := by
  unfold dRight
  rw [show l.all wordB = false from by rw [List.all_eq_false]; exact ⟨q, hq, by simp [h]⟩]
  rfl
set_option maxRecDepth 100000 in
set_option maxHeartbeats 4000000 in
theorem rright_any (A : Option Addr) (n c : Nat) (l : List Wr) (w : World) (h : Wds w (.slice A n c) l) (hn : n ≤ 1000000) : Calls Try.prog 11 #[.slice A n c] w fun e w' => e = .returned (.bool (dRight l)) ∧ Below w.heap.size w w' := by
  have hl := h.len
  subst hl
  have HA := Lib.hid h
  clear h
  go_enter Try.func11, Try.ntmps11
  go_wp2_with fail
  go_loopw [3] (fun s5 wr => ∃ (k : Nat), s5 = .int .i64 (k : Int) ∧ k ≤ l.length ∧ Hid ((l.take k).all wordB = true) ∧ Hid (Below w.heap.size w wr)) (fun s5 _ => l.length - (intOf s5).toNat)
  case atStart => exact ⟨0, rfl, Nat.zero_le _, Lib.hid rfl, Lib.hid (Below.refl _ _)⟩
  case round =>
    obtain ⟨k, rfl, hk, HT, HB⟩ := hrel
    by_cases hkl : k < l.length
    · have hkl' : (k : Int) < (l.length : Int) := by omega
      obtain ⟨g, o, hA, c1, c2, c3⟩ := wds_cell (HA.out.keep HB.out) hkl
      have hx : l[k]? = some l[k] := List.getElem?_eq_getElem hkl
      obtain ⟨q, eq⟩ : ∃ q, l[k] = q := ⟨_, rfl⟩
      rw [eq] at c1 c2 c3 hx
      have HQ := Lib.hid (List.mem_of_getElem? hx)
      have HX := Lib.hid hx
      have HN := Lib.hid (fun w => rnamed_any q.nm w)
      obtain ⟨z, ez⟩ : ∃ z, namedC q.nm = z := ⟨_, rfl⟩
      have HZ := Lib.hid ez
      rw [ez] at HN
      subst hA
      clear hx eq ez
      by_cases hz : z = 0
      · subst hz
        by_cases h0 : q.fl < 0
        · have H : Hid (dRight l = false) := right_no HQ.out (by unfold wordB; rw [(flagB_no _).2 (by omega), Bool.and_false])
          clear HT
          go_wp2_with fail
          refine (HN.out _).mono ?_
          rintro e1 w5 ⟨rfl, rfl⟩
          go_wp2_with fail
          go_ret
          exact ⟨by rw [H.out]; rfl, HB.out⟩
        · have h0' : decide (q.fl < 0) = false := by simp; omega
          by_cases h7 : 7 < q.fl
          · have H : Hid (dRight l = false) := right_no HQ.out (by unfold wordB; rw [(flagB_no _).2 (by omega), Bool.and_false])
            clear HT h0
            go_wp2_with fail
            refine (HN.out _).mono ?_
            rintro e1 w5 ⟨rfl, rfl⟩
            go_wp2_with fail
            go_ret
            exact ⟨by rw [H.out]; rfl, HB.out⟩
          · have h7' : decide (7 < q.fl) = false := by simp; omega
            have HW : Hid (wordB q = true) := by show _ = _; unfold wordB; rw [(flagB_iff _).2 (by omega), HZ.out]; rfl
            have HT2 : Hid ((l.take (k + 1)).all wordB = true) := by
              show _ = _
              rw [List.take_add_one, HX.out, List.all_append, HT.out]
              simp [HW.out]
            clear HT h0 h7
            go_wp2_with fail
            refine (HN.out _).mono ?_
            rintro e1 w5 ⟨rfl, rfl⟩
            go_wp2_with fail
            go_roundw
            case rel => exact ⟨k + 1, by simp, by omega, HT2, HB⟩
            case measure => simp [intOf]; omega
      · have H : Hid (dRight l = false) := right_no HQ.out (by unfold wordB; rw [HZ.out]; simp [hz])
        have hz1 : ((z : Int) != 0) = true := by simpa using hz
        have hz2 : ((z : Int) == 0) = false := by simpa using hz
        clear HT
        go_wp2_with fail
        refine (HN.out _).mono ?_
        rintro e1 w5 ⟨rfl, rfl⟩
        go_wp2_with fail
        go_ret
        exact ⟨by rw [H.out]; rfl, HB.out⟩
    · obtain rfl : k = l.length := by omega
      rw [List.take_length] at HT
      have H : Hid (dRight l = decide ((l.length : Int) ≤ 1024)) := by
        show _ = _
        unfold dRight
        rw [HT.out, Bool.true_and, decide_eq_decide]
        omega
      clear hkl hk
      go_wp2_with fail
      go_ret
      exact ⟨by rw [H.out]; rfl, HB.out⟩

theorem dsame_refl (a : List Wr) : dSame a a = true := by unfold dSame; simp
theorem dsame_no {a b : List Wr} {k : Nat} {x y : Wr} (hx : a[k]? = some x) (hy : b[k]? = some y) (hne : x ≠ y) : dSame a b = false := by
  unfold dSame
  rw [decide_eq_false_iff_not]
  intro e
  rw [e, hy] at hx
  injection hx with hx
  exact hne hx.symm
set_option maxRecDepth 100000 in
set_option maxHeartbeats 4000000 in
theorem rsame9_any (A A' : Option Addr) (n c n' c' : Nat) (a b : List Wr) (w : World) (h : Wds w (.slice A n c) a) (h' : Wds w (.slice A' n' c') b) (ha : a.length ≤ 1000000) :
    Calls Try.prog 14 #[.slice A n c, .slice A' n' c'] w fun e w' => e = .returned (.bool (dSame a b)) ∧ Below w.heap.size w w' := by
  have ea := h.len
  have eb := h'.len
  subst ea eb
  by_cases hl : a.length = b.length
  · have hl' : ((a.length : Int) != (b.length : Int)) = false := by simp [hl]
    have hl2 : ((a.length : Int) == (b.length : Int)) = true := by simp [hl]
    have HA := Lib.hid h
    have HB := Lib.hid h'
    have HLN := Lib.hid hl
    clear h h' hl
    go_enter Try.func14, Try.ntmps14
    go_wp2_with fail
    go_loopw [5] (fun s5 wr => ∃ (k : Nat), s5 = .int .i64 (k : Int) ∧ k ≤ a.length ∧ Hid (a.take k = b.take k) ∧ Hid (Below w.heap.size w wr)) (fun s5 _ => a.length - (intOf s5).toNat)
    case atStart => exact ⟨0, rfl, Nat.zero_le _, Lib.hid rfl, Lib.hid (Below.refl _ _)⟩
    case round =>
      obtain ⟨k, rfl, hk, HT, HW⟩ := hrel
      by_cases hka : k < a.length
      · have hkb : k < b.length := by have := HLN.out; omega
        have hka' : (k : Int) < (a.length : Int) := by omega
        have hkb' : (k : Int) < (b.length : Int) := by omega
        obtain ⟨g, o, hA, c1, c2, c3⟩ := wds_cell (HA.out.keep HW.out) hka
        obtain ⟨g', o', hA', d1, d2, d3⟩ := wds_cell (HB.out.keep HW.out) hkb
        have hx := List.getElem?_eq_getElem hka
        have hy := List.getElem?_eq_getElem hkb
        obtain ⟨x, ex⟩ : ∃ x, a[k] = x := ⟨_, rfl⟩
        obtain ⟨y, ey⟩ : ∃ y, b[k] = y := ⟨_, rfl⟩
        rw [ex] at c1 c2 c3 hx
        rw [ey] at d1 d2 d3 hy
        subst hA hA'
        have HWd := Lib.hid fun i => below_then HW.out (drewN_belowW wr i)
        have HX := Lib.hid hx
        have HY := Lib.hid hy
        clear hx hy ex ey
        by_cases hn : x.nm = y.nm
        · rw [← hn] at d1
          by_cases ht : x.xt = y.xt
          · rw [← ht] at d2
            by_cases hf : x.fl = y.fl
            · rw [← hf] at d3
              have HT2 : Hid (a.take (k + 1) = b.take (k + 1)) := by
                show _ = _
                rw [List.take_add_one, List.take_add_one, HT.out, HX.out, HY.out]
                rw [show x = y from by cases x; cases y; simp_all]
              clear HA HB HT hn ht hf
              go_wp2_with fail
              go_quiet (fail)
              go_wp2_with fail
              go_roundw
              case rel => exact ⟨k + 1, by simp, by omega, HT2, Lib.hid (HWd.out _)⟩
              case measure => simp [intOf]; omega
            · have hf1 : ((x.fl : Int) != y.fl) = true := by simpa using hf
              have hf2 : ((x.fl : Int) == y.fl) = false := by simpa using hf
              have H : Hid (dSame a b = false) := dsame_no HX.out HY.out (fun e => hf (by rw [e]))
              clear HT HA HB
              go_wp2_with fail
              go_quiet (fail)
              go_wp2_with fail
              go_ret
              exact ⟨by rw [H.out]; rfl, HWd.out _⟩
          · have ht1 : ((x.xt : Int) != y.xt) = true := by simpa using ht
            have ht2 : ((x.xt : Int) == y.xt) = false := by simpa using ht
            have H : Hid (dSame a b = false) := dsame_no HX.out HY.out (fun e => ht (by rw [e]))
            clear HT HA HB
            go_wp2_with fail
            go_quiet (fail)
            go_wp2_with fail
            go_ret
            exact ⟨by rw [H.out]; rfl, HWd.out _⟩
        · have hne := str_ne (a := strB x.nm) (b := strB y.nm) (fun e => hn (strB_inj e))
          have hne2 := str_neq (a := strB x.nm) (b := strB y.nm) (fun e => hn (strB_inj e))
          have H : Hid (dSame a b = false) := dsame_no HX.out HY.out (fun e => hn (by rw [e]))
          clear HT HA HB
          go_wp2_with fail
          go_quiet (fail)
          go_wp2_with fail
          go_ret
          exact ⟨by rw [H.out]; rfl, HWd.out _⟩
      · obtain rfl : k = a.length := by omega
        have H : Hid (dSame a b = true) := by
          have ht := HT.out
          have hl := HLN.out
          show _ = _
          unfold dSame
          rw [List.take_length, hl, List.take_length] at ht
          simpa using ht
        have hkl : decide ((a.length : Int) < (a.length : Int)) = false := by simp
        clear hka hk HT HA HB
        go_wp2_with fail
        go_ret
        exact ⟨by rw [H.out]; rfl, HW.out⟩
  · have H : Hid (dSame a b = false) := by show _ = _; unfold dSame; simp; intro e; rw [e] at hl; exact hl rfl
    rw [H.out]
    have hl' : ((a.length : Int) != (b.length : Int)) = true := by simp; omega
    have hl2 : ((a.length : Int) == (b.length : Int)) = false := by simp; omega
    have hl3 : ¬ (a.length : Int) = (b.length : Int) := by omega
    clear h h' hl ha
    go_enter Try.func14, Try.ntmps14
    go_wp2_with fail
    go_ret
    exact ⟨rfl, Below.refl _ _⟩
end Go.Proofs.Ytnjmhgbdhekmdaa

/- Contracts of the document's Add, Cut. -/
namespace Go.Proofs.Ytnjmhgbdhekmdaa
open Go.RowKit
set_option linter.unusedVariables false
set_option linter.unusedSimpArgs false

/-- What Add, Flag, Cut answer. -/
abbrev DictOut (l' : List Wr) (k : Int) (w : World) (e : Ending) (w' : World) : Prop := ∃ A' n' c', e = .returned (.tuple #[.slice A' n' c', .int .i64 k]) ∧ Wds w' (.slice A' n' c') l' ∧ Below w.heap.size w w'

theorem wds_high {w : World} {A : Option Addr} {n c k : Nat} {l : List Wr} (h : Wds w (.slice A n c) l) (hk : k ≤ l.length) : Wds w (.slice A k c) (l.take k) := by
  obtain ⟨A', c', e, h1, h2, h3⟩ := h
  injection e with e1 e2 e3
  subst e1 e3
  refine ⟨A, c, by rw [List.length_take, Nat.min_eq_left hk], by rw [List.length_take]; omega, h2, ?_⟩
  rcases h3 with h3 | ⟨g, o, e, hg, hc⟩
  · refine .inl ?_
    rw [wds_take, h3]
    simp
  · refine .inr ⟨g, o, e, hg, fun j v hv => ?_⟩
    rw [wds_take, List.getElem?_take] at hv
    split at hv
    · exact hc j v hv
    · cases hv

set_option maxRecDepth 100000 in
set_option maxHeartbeats 4000000 in
theorem rcut_any (A : Option Addr) (n c : Nat) (l : List Wr) (m : Int) (w : World) (h : Wds w (.slice A n c) l) (hn : n ≤ 100000) : Calls Try.prog 24 #[.slice A n c, .int .i64 m] w (DictOut (cutL l m) (cutC l m) w) := by
  have hl := h.len
  subst hl
  cases hk : cutB l m with
  | false =>
    have H1 : Hid (cutL l m = l) := by show _ = _; unfold cutL; rw [if_neg (by simp [hk])]
    have H2 : Hid (cutC l m = -24) := by show _ = _; unfold cutC; rw [if_neg (by simp [hk])]
    have HA := Lib.hid h
    have hno : ¬ (0 ≤ m ∧ m ≤ (l.length : Int)) := by unfold cutB at hk; simpa using hk
    rw [H1.out, H2.out]
    unfold DictOut
    by_cases h0 : m < 0
    · clear hno hk h
      go_enter Try.func24, Try.ntmps24
      go_wp2_with fail
      go_ret2
      exact ⟨A, l.length, c, rfl, HA.out, Below.refl _ _⟩
    · have h0' : decide (m < 0) = false := by simp; omega
      have h1 : (l.length : Int) < m := by omega
      clear hno hk h h0
      go_enter Try.func24, Try.ntmps24
      go_wp2_with fail
      go_ret2
      exact ⟨A, l.length, c, rfl, HA.out, Below.refl _ _⟩
  | true =>
    have hyes : 0 ≤ m ∧ m ≤ (l.length : Int) := by unfold cutB at hk; simpa using hk
    obtain ⟨k, rfl⟩ := Int.eq_ofNat_of_zero_le hyes.1
    have H1 : Hid (cutL l (k : Int) = l.take k) := by show _ = _; unfold cutL; rw [if_pos hk, Int.toNat_natCast]
    have H2 : Hid (cutC l (k : Int) = 0) := by show _ = _; unfold cutC; rw [if_pos hk]
    have hkl : k ≤ l.length := by omega
    have hcap : l.length ≤ c := by obtain ⟨A', c', e, h1, _⟩ := h; injection e with _ _ e; omega
    have HT := Lib.hid (wds_high h hkl)
    have h1 : decide ((l.length : Int) < (k : Int)) = false := by simp; omega
    have h2 : k ≤ c := by omega
    rw [H1.out, H2.out]
    unfold DictOut
    clear hk hyes h
    go_enter Try.func24, Try.ntmps24
    go_wp2_with (at_builtin; refine wpList_wapp rfl _ _ rfl w.heap.size (.slice (some ⟨w.heap.size, 0, none⟩) 0 0) 0 [] rfl (none_wowns w) A k c (l.take k) rfl (HT.out.keep (al_one _ _)) (by omega) (by simp) w (al_one _ _) (Nat.le_refl _) ?_; intro v2 w4 ho hb2 hgr; obtain ⟨A9, n9, c9, rfl⟩ := wds_slice ho.wds; have O4 := Lib.hid ho.wds; have B4 := Lib.hid hb2; clear ho hb2 hgr)
    go_ret2
    exact ⟨A9, n9, c9, rfl, by simpa using O4.out, B4.out⟩

set_option maxRecDepth 100000 in
set_option maxHeartbeats 4000000 in
theorem radd_any (A : Option Addr) (n c : Nat) (l : List Wr) (nm : List UInt8) (xt fl lim : Int) (w : World) (h : Wds w (.slice A n c) l) (hn : n ≤ 100000) : Calls Try.prog 20 #[.slice A n c, .string (strB nm), .int .i64 xt, .int .i64 fl, .int .i64 lim] w (DictOut (addL l nm xt fl lim) (addC l nm fl lim) w) := by
  have hl := h.len
  subst hl
  have HA := Lib.hid h
  have HN := Lib.hid (fun w => rnamed_any nm w)
  obtain ⟨z, ez⟩ : ∃ z, namedC nm = z := ⟨_, rfl⟩
  rw [ez] at HN
  unfold DictOut
  by_cases hz : z = 0
  · subst hz
    by_cases hf : 0 ≤ fl ∧ fl ≤ 7
    · have hfb := (flagB_iff fl).2 hf
      have f1 : decide (fl < 0) = false := by simp; omega
      have f2 : decide (7 < fl) = false := by simp; omega
      by_cases hr : (l.length : Int) < lim ∧ l.length < 1024
      · have H2 : Hid (addC l nm fl lim = 0) := by show _ = _; unfold addC roomB; rw [ez, hfb]; simp [hr]
        have H1 : Hid (addL l nm xt fl lim = l ++ [⟨nm, xt, fl⟩]) := by show _ = _; unfold addL; rw [if_pos H2.out]
        have r1 : decide (lim ≤ (l.length : Int)) = false := by simp; omega
        have r2 : decide ((1024 : Int) ≤ (l.length : Int)) = false := by simp; omega
        rw [H1.out, H2.out]
        clear h hf hr ez hfb
        go_enter Try.func20, Try.ntmps20
        go_wp2_with fail
        refine (HN.out _).mono ?_
        rintro e1 w1 ⟨rfl, rfl⟩
        go_wp2_with (at_builtin; first
          | (refine wpList_wapp rfl _ _ rfl w.heap.size (.slice (some ⟨w.heap.size, 0, none⟩) 0 0) 0 [] rfl (none_wowns w) A l.length c l rfl (HA.out.keep (al_one _ _)) (by omega) (by simp) w (al_one _ _) (Nat.le_refl _) ?_
             intro v2 w2 ho hb2 hgr
             have O2 := Lib.hid ho
             have B2 := Lib.hid hb2
             clear ho hb2 hgr)
          | (refine wpList_wapp rfl _ _ rfl w.heap.size v2 (0 + l.length) ([] ++ l) rfl (O2.out.alloc _) (some ⟨w2.heap.size, 0, none⟩) 1 1 [⟨nm, xt, fl⟩] rfl (wds_newone w2 ⟨nm, xt, fl⟩) (by omega) (by have := B2.out.size; simp; omega) w (alloc_then B2.out) (Nat.le_refl _) ?_
             intro v3 w3 ho hb3 hgr
             obtain ⟨A9, n9, c9, rfl⟩ := wds_slice ho.wds
             have O3 := Lib.hid ho.wds
             have B3 := Lib.hid hb3
             clear ho hb3 hgr))
        go_ret2
        exact ⟨A9, n9, c9, rfl, by simpa using O3.out, B3.out⟩
      · have H2 : Hid (addC l nm fl lim = -8) := by show _ = _; unfold addC roomB; rw [ez, hfb, show decide ((l.length : Int) < lim ∧ l.length < 1024) = false by simpa using hr]; simp
        have H1 : Hid (addL l nm xt fl lim = l) := by show _ = _; unfold addL; rw [if_neg (by rw [H2.out]; decide)]
        rw [H1.out, H2.out]
        by_cases r1 : lim ≤ (l.length : Int)
        · clear h hf hr ez hfb
          go_enter Try.func20, Try.ntmps20
          go_wp2_with fail
          refine (HN.out _).mono ?_
          rintro e1 w1 ⟨rfl, rfl⟩
          go_wp2_with fail
          go_ret2
          exact ⟨A, l.length, c, rfl, HA.out, Below.refl _ _⟩
        · have r1' : decide (lim ≤ (l.length : Int)) = false := by simp; omega
          have r2 : (1024 : Int) ≤ (l.length : Int) := by omega
          clear h hf hr ez hfb r1
          go_enter Try.func20, Try.ntmps20
          go_wp2_with fail
          refine (HN.out _).mono ?_
          rintro e1 w1 ⟨rfl, rfl⟩
          go_wp2_with fail
          go_ret2
          exact ⟨A, l.length, c, rfl, HA.out, Below.refl _ _⟩
    · have hfb := (flagB_no fl).2 hf
      have H2 : Hid (addC l nm fl lim = -24) := by show _ = _; unfold addC; rw [ez, hfb]; simp
      have H1 : Hid (addL l nm xt fl lim = l) := by show _ = _; unfold addL; rw [if_neg (by rw [H2.out]; decide)]
      rw [H1.out, H2.out]
      by_cases f1 : fl < 0
      · clear h hf ez hfb
        go_enter Try.func20, Try.ntmps20
        go_wp2_with fail
        refine (HN.out _).mono ?_
        rintro e1 w1 ⟨rfl, rfl⟩
        go_wp2_with fail
        go_ret2
        exact ⟨A, l.length, c, rfl, HA.out, Below.refl _ _⟩
      · have f1' : decide (fl < 0) = false := by simp; omega
        have f2 : 7 < fl := by omega
        clear h hf ez hfb f1
        go_enter Try.func20, Try.ntmps20
        go_wp2_with fail
        refine (HN.out _).mono ?_
        rintro e1 w1 ⟨rfl, rfl⟩
        go_wp2_with fail
        go_ret2
        exact ⟨A, l.length, c, rfl, HA.out, Below.refl _ _⟩
  · have H2 : Hid (addC l nm fl lim = z) := by show _ = _; unfold addC; rw [ez, if_pos hz]
    have H1 : Hid (addL l nm xt fl lim = l) := by show _ = _; unfold addL; rw [if_neg (by rw [H2.out]; exact hz)]
    have hz1 : ((z : Int) != 0) = true := by simpa using hz
    have hz2 : ((z : Int) == 0) = false := by simpa using hz
    rw [H1.out, H2.out]
    clear h ez hz
    go_enter Try.func20, Try.ntmps20
    go_wp2_with fail
    refine (HN.out _).mono ?_
    rintro e1 w1 ⟨rfl, rfl⟩
    go_wp2_with fail
    go_ret2
    exact ⟨A, l.length, c, rfl, HA.out, Below.refl _ _⟩
end Go.Proofs.Ytnjmhgbdhekmdaa

/- The contract of the document's Flag. -/
namespace Go.Proofs.Ytnjmhgbdhekmdaa
open Go.RowKit
set_option linter.unusedVariables false
set_option linter.unusedSimpArgs false

theorem wds_set (l : List Wr) : ∀ (k : Nat) (f : Int), wds (l.set k { l.getD k w0 with fl := f }) = (wds l).set (3 * k + 2) (.int .i64 f) := by
  induction l with
  | nil => intro k f; simp [wds]
  | cons q l ih =>
    intro k f
    cases k with
    | zero => simp [wds_cons]
    | succ k =>
      have h := ih k f
      rw [List.set_cons_succ, wds_cons, wds_cons]
      rw [show (q :: l).getD (k + 1) w0 = l.getD k w0 from rfl, h]
      rw [show 3 * (k + 1) + 2 = (3 * k + 2) + 1 + 1 + 1 by omega]
      rfl
/-- Flags that are stored in a row of the call's own. -/
theorem WOwns.setFl {w : World} {base n : Nat} {g cap : Nat} {l : List Wr} (h : WOwns w base (.slice (some ⟨g, 0, none⟩) n cap) n l) {k : Nat} (hk : k < n) (f : Int) : WOwns (w.setCell ⟨g, k * 3 + 2, none⟩ (.int .i64 f)) base (.slice (some ⟨g, 0, none⟩) n cap) n (l.set k { l.getD k w0 with fl := f }) := by
  have hl := h.1
  refine ⟨?_, ?_⟩
  · rw [wds_len, List.length_set]; rw [wds_len] at hl; exact hl
  · rcases h.2 with ⟨h0, _⟩ | ⟨g', cap', cur, e, hb, hg, hnc, hcm, hcs, ht⟩
    · cases h0
    · cases e
      refine .inr ⟨g, cap, cur.setIfInBounds (k * 3 + 2) (.int .i64 f), rfl, hb, ?_, hnc, hcm, ?_, ?_⟩
      · exact Go.Joins.block_setCell (i := k * 3 + 2) hg (.int .i64 f)
      · rw [Array.size_setIfInBounds]; exact hcs
      · rw [wds_set, Array.toList_setIfInBounds, List.take_set, ht, show k * 3 + 2 = 3 * k + 2 by omega]
theorem WOwns.block {w : World} {base n : Nat} {v : Value} {l : List Wr} (h : WOwns w base v n l) (hn : 0 < n) : ∃ g cap, v = .slice (some ⟨g, 0, none⟩) n cap ∧ base ≤ g ∧ g < w.heap.size ∧ ∀ k, k < n → (∃ x, w.cell? ⟨g, k * 3 + 2, none⟩ = some x) ∧ w.frozen? ⟨g, k * 3 + 2, none⟩ = false := by
  rcases h.2 with ⟨_, h0⟩ | ⟨g, cap, cur, e, hb, hg, hnc, hcm, hcs, ht⟩
  · omega
  · refine ⟨g, cap, e, hb, (Array.getElem?_eq_some_iff.1 hg).1, fun k hk => ?_⟩
    have hks : k * 3 + 2 < cur.size := by omega
    refine ⟨⟨cur[k * 3 + 2], by simp [World.cell?, hg, hks]⟩, by simp [World.frozen?, hg]⟩
set_option maxRecDepth 100000 in
set_option maxHeartbeats 4000000 in
theorem rflag_any (A : Option Addr) (n c : Nat) (l : List Wr) (p fl : Int) (w : World) (h : Wds w (.slice A n c) l) (hn : n ≤ 100000) : Calls Try.prog 22 #[.slice A n c, .int .i64 p, .int .i64 fl] w (DictOut (flgL l p fl) (flgC l p fl) w) := by
  have hl := h.len
  subst hl
  have HA := Lib.hid h
  unfold DictOut
  cases hk : flgB l p fl with
  | false =>
    have H1 : Hid (flgL l p fl = l) := by show _ = _; unfold flgL; rw [if_neg (by simp [hk])]
    have H2 : Hid (flgC l p fl = -24) := by show _ = _; unfold flgC; rw [if_neg (by simp [hk])]
    have hno : ¬ ((0 ≤ p ∧ p < (l.length : Int)) ∧ 0 ≤ fl ∧ fl ≤ 7) := by
      intro hh
      unfold flgB at hk
      rw [(flagB_iff fl).2 hh.2, show decide (0 ≤ p ∧ p < (l.length : Int)) = true by simpa using hh.1] at hk
      cases hk
    rw [H1.out, H2.out]
    by_cases h0 : p < 0
    · clear hno hk h
      go_enter Try.func22, Try.ntmps22
      go_wp2_with fail
      go_ret2
      exact ⟨A, l.length, c, rfl, HA.out, Below.refl _ _⟩
    · have h0' : decide (p < 0) = false := by simp; omega
      by_cases h1 : (l.length : Int) ≤ p
      · clear hno hk h h0
        go_enter Try.func22, Try.ntmps22
        go_wp2_with fail
        go_ret2
        exact ⟨A, l.length, c, rfl, HA.out, Below.refl _ _⟩
      · have h1' : decide ((l.length : Int) ≤ p) = false := by simp; omega
        by_cases h2 : fl < 0
        · clear hno hk h h0 h1
          go_enter Try.func22, Try.ntmps22
          go_wp2_with fail
          go_ret2
          exact ⟨A, l.length, c, rfl, HA.out, Below.refl _ _⟩
        · have h2' : decide (fl < 0) = false := by simp; omega
          have h3 : 7 < fl := by omega
          clear hno hk h h0 h1 h2
          go_enter Try.func22, Try.ntmps22
          go_wp2_with fail
          go_ret2
          exact ⟨A, l.length, c, rfl, HA.out, Below.refl _ _⟩
  | true =>
    have hy : (0 ≤ p ∧ p < (l.length : Int)) ∧ 0 ≤ fl ∧ fl ≤ 7 := by
      unfold flgB at hk
      rw [Bool.and_eq_true, flagB_iff, decide_eq_true_eq] at hk
      exact hk
    obtain ⟨k, rfl⟩ := Int.eq_ofNat_of_zero_le hy.1.1
    have H1 : Hid (flgL l (k : Int) fl = l.set k { l.getD k w0 with fl := fl }) := by show _ = _; unfold flgL; rw [if_pos hk, Int.toNat_natCast]
    have H2 : Hid (flgC l (k : Int) fl = 0) := by show _ = _; unfold flgC; rw [if_pos hk]
    have hkl : k < l.length := by omega
    have hkl' : (k : Int) < (l.length : Int) := by omega
    have h1 : decide ((l.length : Int) ≤ (k : Int)) = false := by simp; omega
    have h2 : decide (fl < 0) = false := by simp; omega
    have h3 : decide (7 < fl) = false := by simp; omega
    rw [H1.out, H2.out]
    clear h hk hy
    go_enter Try.func22, Try.ntmps22
    go_wp2_with (at_builtin; refine wpList_wapp rfl _ _ rfl w.heap.size (.slice (some ⟨w.heap.size, 0, none⟩) 0 0) 0 [] rfl (none_wowns w) A l.length c l rfl (HA.out.keep (al_one _ _)) (by omega) (by simp) w (al_one _ _) (Nat.le_refl _) ?_; intro v2 w4 ho hb2 hgr; obtain ⟨g, cap, rfl, hbg, hgw, hcs⟩ := WOwns.block ho (by omega); obtain ⟨⟨x, hx⟩, hfz⟩ := hcs k (by omega); have O4 := Lib.hid ho; have B4 := Lib.hid hb2; have HG := Lib.hid hbg; clear ho hb2 hgr hcs hbg)
    go_ret2
    refine ⟨some ⟨g, 0, none⟩, l.length, cap, rfl, ?_, B4.out.setCell (p := ⟨g, k * 3 + 2, none⟩) HG.out _⟩
    have hh : WOwns w4 w.heap.size (.slice (some ⟨g, 0, none⟩) l.length cap) l.length l := by simpa using O4.out
    have hw := (hh.setFl hkl fl).wds
    simpa [hkl] using hw
end Go.Proofs.Ytnjmhgbdhekmdaa

/- Contracts of lex's turner, of the closure that it makes, of Upper and Alike. -/
namespace Go.Proofs.Ytnjmhgbdhekmdaa
open Go.RowKit
set_option linter.unusedVariables false
set_option linter.unusedSimpArgs false

theorem ret_u8 {a b : Int} (h : a = b) : Ending.returned (.int .u8 a) = .returned (.int .u8 b) := by rw [h]

/-- The boxes that the closure holds. -/
def Tn (w : World) (p q r : Addr) : Prop := w.cell? p = some (.int .u8 97) ∧ w.cell? q = some (.int .u8 122) ∧ w.cell? r = some (.int .u8 65)
/-- .. in blocks of a world. -/
def TnB (w : World) (p q r : Nat) : Prop := Tn w ⟨p, 0, none⟩ ⟨q, 0, none⟩ ⟨r, 0, none⟩ ∧ p < w.heap.size ∧ q < w.heap.size ∧ r < w.heap.size
theorem TnB.keep {w w' : World} {p q r : Nat} (h : TnB w p q r) (b : Below w.heap.size w w') : TnB w' p q r := by
  obtain ⟨⟨h1, h2, h3⟩, h4, h5, h6⟩ := h
  have hz := b.size
  exact ⟨⟨(b.cell (p := ⟨p, 0, none⟩) h4).trans h1, (b.cell (p := ⟨q, 0, none⟩) h5).trans h2, (b.cell (p := ⟨r, 0, none⟩) h6).trans h3⟩, by omega, by omega, by omega⟩

theorem al_new (w : World) (o : Obj) : (w.alloc o).heap[w.heap.size]? = some o := by
  show (w.heap.push o)[w.heap.size]? = _
  simp
theorem three_size (w : World) (a b c : Obj) : (((w.alloc a).alloc b).alloc c).heap.size = w.heap.size + 3 := by
  show (((w.heap.push a).push b).push c).size = _
  simp
theorem three_cell (w : World) (u v x : Value) (t t' t'' : TypeId) (j : Nat) (y : Value) (hj : j < 3) (hy : #[u, v, x][j]? = some y) : (((w.alloc (.cells #[u] t)).alloc (.cells #[v] t')).alloc (.cells #[x] t'')).cell? ⟨w.heap.size + j, 0, none⟩ = some y := by
  have h0 : (w.alloc (.cells #[u] t)).heap[w.heap.size]? = some (.cells #[u] t) := al_new _ _
  have h1 : ((w.alloc (.cells #[u] t)).alloc (.cells #[v] t')).heap[w.heap.size + 1]? = some (.cells #[v] t') := by
    have := al_new (w.alloc (.cells #[u] t)) (.cells #[v] t')
    rw [World.size_alloc] at this; exact this
  have h2 : (((w.alloc (.cells #[u] t)).alloc (.cells #[v] t')).alloc (.cells #[x] t'')).heap[w.heap.size + 2]? = some (.cells #[x] t'') := by
    have := al_new ((w.alloc (.cells #[u] t)).alloc (.cells #[v] t')) (.cells #[x] t'')
    rw [World.size_alloc, World.size_alloc] at this; exact this
  have a1 : w.heap.size < (w.alloc (.cells #[u] t)).heap.size := by rw [World.size_alloc]; omega
  have a2 : w.heap.size < ((w.alloc (.cells #[u] t)).alloc (.cells #[v] t')).heap.size := by rw [World.size_alloc, World.size_alloc]; omega
  have a3 : w.heap.size + 1 < ((w.alloc (.cells #[u] t)).alloc (.cells #[v] t')).heap.size := by rw [World.size_alloc, World.size_alloc]; omega
  have k0 := (Below.heap_alloc _ (.cells #[x] t'') _ a2).trans ((Below.heap_alloc _ (.cells #[v] t') _ a1).trans h0)
  have k1 := (Below.heap_alloc _ (.cells #[x] t'') _ a3).trans h1
  match j, hj with
  | 0, _ => unfold World.cell?; rw [Nat.add_zero, k0]; exact hy
  | 1, _ => unfold World.cell?; rw [k1]; exact hy
  | 2, _ => unfold World.cell?; rw [h2]; exact hy
set_option maxHeartbeats 400000 in
theorem turner_any (w : World) :
    Calls Try.prog 41 #[.int .u8 97, .int .u8 122, .int .u8 65] w fun e w' => ∃ p q r : Nat, e = .returned (.func (.func 44) #[] #[.pointer (some ⟨p, 0, none⟩), .pointer (some ⟨q, 0, none⟩), .pointer (some ⟨r, 0, none⟩)]) ∧ TnB w' p q r ∧ Below w.heap.size w w' := by
  have hmf : ∀ (fn : Fn) (first cap : Array Value) (w : World), (Instr.makeFunc fn first cap).run Try.prog w = .ok (.func fn first cap) w := fun _ _ _ _ => rfl
  go_enter Try.func41, Try.ntmps41
  go_wp2
  go_ret
  refine ⟨_, _, _, rfl, ⟨⟨?_, ?_, ?_⟩, ?_, ?_, ?_⟩, (((Below.refl _ _).alloc (Nat.le_refl _) _).alloc (by simp) _).alloc (by simp; omega) _⟩
  · exact three_cell w _ _ _ _ _ _ 0 (.int .u8 97) (by omega) rfl
  · exact three_cell w _ _ _ _ _ _ 1 (.int .u8 122) (by omega) rfl
  · exact three_cell w _ _ _ _ _ _ 2 (.int .u8 65) (by omega) rfl
  · rw [three_size]; omega
  · rw [three_size]; omega
  · rw [three_size]; omega

set_option maxHeartbeats 1000000 in
theorem turn_any (c : UInt8) (p q r : Addr) (w : World) (h : Tn w p q r) :
    Calls Try.prog 44 #[.int .u8 (c.toNat : Int), .pointer (some p), .pointer (some q), .pointer (some r)] w fun e w' => e = .returned (.int .u8 ((upC c).toNat : Int)) ∧ w = w' := by
  obtain ⟨h1, h2, h3⟩ := h
  have hc := c.toNat_lt
  by_cases h97 : 97 ≤ c.toNat
  · have g97 : decide ((c.toNat : Int) < 97) = false := by simp; omega
    by_cases h122 : c.toNat ≤ 122
    · have g122 : decide ((122 : Int) < (c.toNat : Int)) = false := by simp; omega
      have hx := upC_low h97 h122
      have e1 : IntKind.u8.wrap ((c.toNat : Int) - 97) = (c.toNat : Int) - 97 := by rw [IntKind.wrap_u8]; omega
      have e2 : IntKind.u8.wrap ((c.toNat : Int) - 97 + 65) = (c.toNat : Int) - 97 + 65 := by rw [IntKind.wrap_u8]; omega
      have HX : Hid (((upC c).toNat : Int) = (c.toNat : Int) - 97 + 65) := by show _ = _; omega
      clear hx
      go_enter Try.func44, Try.ntmps44
      go_wp2
      go_ret
      exact ⟨ret_u8 (by rw [HX.out]; try omega), rfl⟩
    · have g122 : (122 : Int) < (c.toNat : Int) := by omega
      have H := Lib.hid (upC_same (c := c) (by omega))
      clear h97 h122
      go_enter Try.func44, Try.ntmps44
      go_wp2
      go_ret
      exact ⟨ret_u8 (by rw [H.out]), rfl⟩
  · have g97 : (c.toNat : Int) < 97 := by omega
    have H := Lib.hid (upC_same (c := c) (by omega))
    clear h97
    go_enter Try.func44, Try.ntmps44
    go_wp2
    go_ret
    exact ⟨ret_u8 (by rw [H.out]), rfl⟩

/-- A row of bytes in block g, with room behind it. -/
def Rw (w : World) (g C : Nat) (l : List UInt8) : Prop := ∃ X : Array Value, w.heap[g]? = some (.cells ((u8s l).toArray ++ X) 5 (C, C + 1)) ∧ l.length ≤ C ∧ C ≤ maxLen
theorem Rw.lt {w : World} {g C : Nat} {l : List UInt8} (h : Rw w g C l) : g < w.heap.size := by
  obtain ⟨X, h1, _⟩ := h
  exact (Array.getElem?_eq_some_iff.1 h1).1
theorem Rw.use {w : World} {g C : Nat} {l : List UInt8} (h : Rw w g C l) {k : Nat} {c : UInt8} (hk : l[k]? = some c) : w.cell? ⟨g, k, none⟩ = some (.int .u8 (c.toNat : Int)) ∧ w.frozen? ⟨g, k, none⟩ = false := by
  obtain ⟨X, h1, h2, h3⟩ := h
  have hkl := (List.getElem?_eq_some_iff.1 hk).1
  have e : ((u8s l).toArray ++ X)[k]? = some (.int .u8 (c.toNat : Int)) := by
    rw [Array.getElem?_append_left (by simpa [u8s] using hkl)]
    simp [u8s, hk]
  refine ⟨by simp [World.cell?, h1, e], ?_⟩
  simp [World.frozen?, h1]
  omega
theorem Rw.keep {w w' : World} {g C : Nat} {l : List UInt8} (h : Rw w g C l) (b : Below w.heap.size w w') : Rw w' g C l := by
  have hl := h.lt
  obtain ⟨X, h1, h2⟩ := h
  exact ⟨X, (b.block g hl).trans h1, h2⟩
theorem Rw.set {w : World} {g C : Nat} {l : List UInt8} (h : Rw w g C l) {k : Nat} (hk : k < l.length) (c : UInt8) : Rw (w.setCell ⟨g, k, none⟩ (.int .u8 (c.toNat : Int))) g C (l.set k c) := by
  obtain ⟨X, h1, h2, h3⟩ := h
  obtain ⟨hlt, hc⟩ := Array.getElem?_eq_some_iff.1 h1
  refine ⟨X, ?_, by rw [List.length_set]; exact h2, h3⟩
  show (w.heap.modify g _)[g]? = _
  rw [Array.getElem?_eq_getElem (by rw [Array.size_modify]; exact hlt), Array.getElem_modify_self, hc]
  simp [u8s, List.set_append_left, hk, List.map_set]
theorem Rw.byt {w : World} {g C : Nat} {l : List UInt8} (h : Rw w g C l) : Byt w (.slice (some ⟨g, 0, none⟩) l.length C) l := by
  have hlt := h.lt
  refine ⟨_, _, rfl, h.choose_spec.2.1, h.choose_spec.2.2, .inr ⟨g, 0, rfl, hlt, fun j v hv => ?_⟩⟩
  unfold u8s at hv
  rw [List.getElem?_map] at hv
  cases hj : l[j]? with
  | none => rw [hj] at hv; simp at hv
  | some c =>
    rw [hj] at hv
    have : v = .int .u8 (c.toNat : Int) := by simpa using hv.symm
    rw [this, Nat.zero_add]
    exact (h.use hj).1

set_option maxRecDepth 100000 in
theorem conv_own (t : List UInt8) (w : World) (ht : t.length ≤ 1000000) : ∃ c w', (convert 9 66 (.string (strB t))).run Try.prog w = .ok (.slice (some ⟨w.heap.size, 0, none⟩) t.length c) w' ∧ Rw w' w.heap.size c t ∧ Below w.heap.size w w' := by
  have hsz : (strB t).size = t.length := rfl
  have h := run_bytes_of_string (P := Try.prog) w 9 66 5 (strB t) Try.underlying9 Try.underlying66 Try.underlying5
  rw [hsz] at h
  have hge := grownCap_ge w t.length 0 5
  refine ⟨_, _, h, ?_, (Below.refl _ w).drew.alloc (Nat.le_refl _) _⟩
  have hz : (bytesRow (strB t) (grownCap w t.length 0 5)).size = grownCap w t.length 0 5 := by
    unfold bytesRow
    rw [Array.size_append, Array.size_map, Array.size_replicate]
    show t.length + _ = _
    rw [hsz]
    omega
  rw [hz]
  refine ⟨Array.replicate (grownCap w t.length 0 5 - (strB t).size) (.int .u8 0), ?_, hge, grownCap_le_maxLen _ _ _ _ (by unfold maxLen; omega)⟩
  show (w.heap.push _)[w.heap.size]? = _
  simp [bytesRow, strB, u8s]
theorem conv_back {w : World} {g n C : Nat} {l : List UInt8} (h : Byt w (.slice (some ⟨g, 0, none⟩) n C) l) : (convert 66 9 (.slice (some ⟨g, 0, none⟩) n C)).run Try.prog w = .ok (.string (strB l)) w := by
  obtain ⟨A, c, e, _, _, hli⟩ := h
  injection e with e1 e2 e3
  subst e1 e2 e3
  refine run_convert_bytes_back w 66 9 5 ⟨g, 0, none⟩ _ l Try.underlying66 Try.underlying5 Try.underlying9 fun j hj => ?_
  rcases hli with h | ⟨g', o, e, _, hc⟩
  · have := congrArg List.length h
    rw [u8s_len] at this
    simp at this
    subst this
    simp at hj
  · injection e with e
    have := hc j (.int .u8 ((l[j]).toNat : Int)) (by unfold u8s; rw [List.getElem?_map, List.getElem?_eq_getElem hj]; rfl)
    rw [e, add_at]
    exact this

end Go.Proofs.Ytnjmhgbdhekmdaa

/- The contract of lex's Alike. -/
namespace Go.Proofs.Ytnjmhgbdhekmdaa
open Go.RowKit
set_option linter.unusedVariables false
set_option linter.unusedSimpArgs false

theorem alike_len {a b : List UInt8} (h : ¬ a.length = b.length) : alikeF a b = false := by
  unfold alikeF
  simp
  intro e
  have := congrArg List.length e
  rw [upper_len, upper_len] at this
  exact h this
theorem alike_at {a b : List UInt8} {k : Nat} {x y : UInt8} (hx : a[k]? = some x) (hy : b[k]? = some y) (h : ¬ upC x = upC y) : alikeF a b = false := by
  unfold alikeF
  simp
  intro e
  have := congrArg (fun l : List UInt8 => l[k]?) e
  simp [upperF, hx, hy] at this
  exact h this
theorem u8_eq {x y : UInt8} (h : ¬ x = y) : ((x.toNat : Int) != (y.toNat : Int)) = true ∧ ((x.toNat : Int) == (y.toNat : Int)) = false ∧ ¬ (x.toNat : Int) = (y.toNat : Int) := by
  have h1 : ¬ (x.toNat : Int) = (y.toNat : Int) := fun e => h (UInt8.toNat_inj.1 (by omega))
  exact ⟨by simp; omega, by simp; omega, h1⟩

set_option maxRecDepth 100000 in
set_option maxHeartbeats 4000000 in
theorem alike_any (a b : List UInt8) (w : World) (ha : a.length ≤ 100000) (hb : b.length ≤ 100000) : Calls Try.prog 34 #[.string (strB a), .string (strB b)] w fun e w' => e = .returned (.bool (alikeF a b)) ∧ Below w.heap.size w w' := by
  have hsa : (strB a).size = a.length := rfl
  have hsb : (strB b).size = b.length := rfl
  by_cases hl : a.length = b.length
  · have hl1 : ((a.length : Int) != (b.length : Int)) = false := by simp [hl]
    have hl2 : ((a.length : Int) == (b.length : Int)) = true := by simp [hl]
    have HL := Lib.hid hl
    clear hl
    go_enter Try.func34, Try.ntmps34
    go_wp2_with fail
    refine (turner_any w).mono ?_
    rintro e w1 ⟨p, q, r, rfl, ht, b1⟩
    have HT1 := Lib.hid ht
    have HB1 := Lib.hid b1
    clear ht b1
    go_wp2_with fail
    go_loopw [15] (fun s15 wr => ∃ k : Nat, s15 = .int .i64 (k : Int) ∧ k ≤ a.length ∧ Hid (upperF (a.take k) = upperF (b.take k)) ∧ Hid (TnB wr p q r) ∧ Hid (Below w.heap.size w wr)) (fun s15 _ => a.length - (intOf s15).toNat)
    case atStart => exact ⟨0, rfl, Nat.zero_le _, Lib.hid rfl, HT1, HB1⟩
    case round =>
      clear HT1 HB1
      obtain ⟨k, rfl, hk, HI, HT, HB⟩ := hrel
      by_cases hkl : k < a.length
      · have hkb : k < b.length := by have := HL.out; omega
        have hkl' : (k : Int) < (a.length : Int) := by omega
        have hkb' : (k : Int) < (b.length : Int) := by omega
        obtain ⟨x, hx⟩ : ∃ c, a[k]? = some c := ⟨_, List.getElem?_eq_getElem hkl⟩
        obtain ⟨y, hy⟩ : ∃ c, b[k]? = some c := ⟨_, List.getElem?_eq_getElem hkb⟩
        have ixa := ix_at a k x hx
        have ixb := ix_at b k y hy
        have HBd := Lib.hid fun n => below_then HB.out (drewN_below wr n)
        have HTd := Lib.hid fun n => HT.out.keep (drewN_below wr n)
        obtain ⟨u, eu⟩ : ∃ u : UInt8 → UInt8, upC = u := ⟨_, rfl⟩
        have HC : Hid (∀ (c : UInt8) (n : Nat), Calls Try.prog 44 #[.int .u8 (c.toNat : Int), .pointer (some ⟨p, 0, none⟩), .pointer (some ⟨q, 0, none⟩), .pointer (some ⟨r, 0, none⟩)] (wr.drewN n) fun e w' => e = .returned (.int .u8 ((u c).toNat : Int)) ∧ w' = wr.drewN n) := by
          show ∀ _, _
          intro c n
          rw [← eu]
          exact (turn_any c ⟨p, 0, none⟩ ⟨q, 0, none⟩ ⟨r, 0, none⟩ (wr.drewN n) HT.out.1).mono fun _ _ h => ⟨h.1, h.2.symm⟩
        by_cases he : upC x = upC y
        · have HN : Hid (upperF (a.take (k + 1)) = upperF (b.take (k + 1))) := by show _ = _; rw [upper_step hx, upper_step hy, HI.out, he]
          rw [eu] at he
          have n1 : (((u x).toNat : Int) != ((u y).toNat : Int)) = false := by rw [he]; simp
          have n2 : (((u x).toNat : Int) == ((u y).toNat : Int)) = true := by rw [he]; simp
          have n3 : ((u x).toNat : Int) = ((u y).toNat : Int) := by rw [he]
          clear hx hy HI HT HB he eu
          go_wp2_with fail
          go_quiet ((go_at_call 44; refine Calls.quiet_of_same (HC.out _ _)))
          go_wp2_with fail
          go_roundw
          case rel => exact ⟨k + 1, by simp, by omega, HN, Lib.hid (HTd.out _), Lib.hid (HBd.out _)⟩
          case measure => simp [intOf]; omega
        · have HN := Lib.hid (alike_at hx hy he)
          rw [eu] at he
          obtain ⟨n1, n2, n3⟩ := u8_eq he
          clear hx hy HI HT HB he eu
          go_wp2_with fail
          go_quiet ((go_at_call 44; refine Calls.quiet_of_same (HC.out _ _)))
          go_wp2_with fail
          go_ret
          exact ⟨by rw [HN.out]; rfl, HBd.out _⟩
      · obtain rfl : k = a.length := by omega
        have HN : Hid (alikeF a b = true) := by
          refine alike_yes ?_
          have h1 := HI.out
          have h2 := HL.out
          rw [List.take_length, h2, List.take_length] at h1
          exact h1
        have hkk : decide ((a.length : Int) < (a.length : Int)) = false := by simp
        clear hkl hk HI
        go_wp2_with fail
        go_ret
        exact ⟨by rw [HN.out]; rfl, HB.out⟩
  · have H := Lib.hid (alike_len hl)
    have hl1 : ((a.length : Int) != (b.length : Int)) = true := by simp; omega
    have hl2 : ((a.length : Int) == (b.length : Int)) = false := by simp; omega
    have hl3 : ¬ (a.length : Int) = (b.length : Int) := by omega
    rw [H.out]
    clear hl
    go_enter Try.func34, Try.ntmps34
    go_wp2_with fail
    go_ret
    exact ⟨rfl, Below.refl _ _⟩
end Go.Proofs.Ytnjmhgbdhekmdaa

/- Contracts of dict's areFlags, hasBlank (with its row function and closure), nameCode. -/
namespace Go.Proofs.Ytnjmhgbdhekmdaa
open Go.RowKit
set_option linter.unusedVariables false
set_option linter.unusedSimpArgs false

set_option maxHeartbeats 1000000 in
theorem areflags_any (f : Int) (w : World) : Calls Try.prog 31 #[.int .i64 f] w fun e w' => e = .returned (.bool (flagB f)) ∧ w = w' := by
  by_cases h0 : 0 ≤ f
  · by_cases h7 : f ≤ 7
    · have H := Lib.hid ((flagB_iff f).2 ⟨h0, h7⟩)
      rw [H.out]
      go_enter Try.func31, Try.ntmps31
      go_wp2
      go_ret
      exact ⟨rfl, rfl⟩
    · have H := Lib.hid ((flagB_no f).2 (fun h => h7 h.2))
      have h7' : decide (f ≤ 7) = false := by simpa using h7
      rw [H.out]
      go_enter Try.func31, Try.ntmps31
      go_wp2
      go_ret
      exact ⟨rfl, rfl⟩
  · have H := Lib.hid ((flagB_no f).2 (fun h => h0 h.1))
    have h0' : decide (0 ≤ f) = false := by simpa using h0
    rw [H.out]
    go_enter Try.func31, Try.ntmps31
    go_wp2
    go_ret
    exact ⟨rfl, rfl⟩

set_option maxHeartbeats 1000000 in
theorem blank_any (c : UInt8) (w : World) : Calls Try.prog 43 #[.int .u8 (c.toNat : Int)] w fun e w' => e = .returned (.bool (!solid c)) ∧ w = w' := by
  have hc := c.toNat_lt
  by_cases h : 32 < c.toNat
  · have H := Lib.hid (solid_yes h)
    have h1 : decide ((c.toNat : Int) ≤ 32) = false := by simp; omega
    rw [H.out]
    go_enter Try.func43, Try.ntmps43
    go_wp2
    go_ret
    exact ⟨rfl, rfl⟩
  · have H := Lib.hid (solid_no h)
    have h1 : (c.toNat : Int) ≤ 32 := by omega
    have h2 : c.toNat ≤ 32 := by omega
    rw [H.out]
    go_enter Try.func43, Try.ntmps43
    go_wp2
    go_ret
    exact ⟨rfl, rfl⟩

theorem all_drop_no {l : List UInt8} {k : Nat} {c : UInt8} (hc : l[k]? = some c) (hs : solid c = false) : l.all solid = false := dall_no hc hs
theorem all_drop_step {l : List UInt8} {k : Nat} {c : UInt8} (hc : l[k]? = some c) (hs : solid c = true) (h : (l.drop (k + 1)).all solid = true) : (l.drop k).all solid = true := by
  have hk := (List.getElem?_eq_some_iff.1 hc).1
  rw [List.drop_eq_getElem_cons hk, (List.getElem?_eq_some_iff.1 hc).2, List.all_cons, hs, h]
  rfl

set_option maxRecDepth 100000 in
set_option maxHeartbeats 4000000 in
theorem lastb_any (A : Option Addr) (n c : Nat) (l : List UInt8) (w : World) (h : Byt w (.slice A n c) l) (hn : n ≤ 100000) : Calls Try.prog 42 #[.slice A n c, .func (.func 43) #[] #[]] w fun e w' => (∃ (x k : Int), e = .returned (.tuple #[.int .u8 x, .int .i64 k, .bool (!l.all solid)])) ∧ Below w.heap.size w w' := by
  have hl := h.len
  subst hl
  have HA := Lib.hid h
  have HN : Hid (l.length ≤ 100000) := hn
  have hw1 : wrap64 ((l.length : Int) - 1) = (l.length : Int) - 1 := w64_id (by omega) (by omega)
  clear h hn
  go_enter Try.func42, Try.ntmps42
  go_wp2_with fail
  try rw [hw1]
  clear hw1
  go_loopw [7] (fun s7 wr => ∃ (k : Nat) (i : Int), s7 = .int .i64 i ∧ i = (k : Int) - 1 ∧ k ≤ l.length ∧ Hid ((l.drop k).all solid = true) ∧ Hid (Below w.heap.size w wr)) (fun s7 _ => (intOf s7 + 1).toNat)
  case atStart => exact ⟨l.length, _, rfl, rfl, Nat.le_refl _, Lib.hid (by rw [List.drop_length]; rfl), Lib.hid (Below.refl _ _)⟩
  case round =>
    obtain ⟨k, i, rfl, hi, hk, HL, HB⟩ := hrel
    cases k with
    | zero =>
      have hi1 : decide (0 ≤ i) = false := by simp; omega
      have H : Hid (l.all solid = true) := by have := HL.out; rwa [List.drop_zero] at this
      clear hi HL hk
      go_wp2_with fail
      rw [H.out]
      refine bodyPost_ret (v := .tuple #[.int .u8 0, .int .i64 0, .bool (!true)]) ?_ rfl ?_
      · simp [results, Try.results42, go_sem]
      · exact ⟨⟨_, _, rfl⟩, HB.out⟩
    | succ k =>
      obtain rfl : i = (k : Int) := by omega
      have hkl : k < l.length := by omega
      have hx : l[k]? = some l[k] := List.getElem?_eq_getElem hkl
      obtain ⟨q, eq⟩ : ∃ q, l[k] = q := ⟨_, rfl⟩
      rw [eq] at hx
      have hkl' : (k : Int) < (l.length : Int) := by omega
      have hln := HN.out
      have HK := Lib.hid (fun w => blank_any q w)
      have HXK := Lib.hid hx
      obtain ⟨g, o, hA, c1⟩ : ∃ g o, A = some ⟨g, o, none⟩ ∧ wr.cell? ⟨g, o + k, none⟩ = some (.int .u8 (q.toNat : Int)) := by
        rcases (HA.out.keep HB.out).lies with h | ⟨g, o, e, _, hc⟩
        · have := congrArg List.length h
          rw [u8s_len] at this
          have h0 : l.length = 0 := this
          omega
        · exact ⟨g, o, e, hc _ _ (by unfold u8s; rw [List.getElem?_map, hx]; rfl)⟩
      subst hA
      clear hx eq hi hk
      cases hs : solid q with
      | false =>
        have H := Lib.hid (all_drop_no HXK.out hs)
        rw [hs] at HK
        clear hs HL
        go_wp2_with fail
        refine (HK.out _).mono ?_
        rintro e1 w5 ⟨rfl, rfl⟩
        go_wp2_with fail
        rw [H.out]
        refine bodyPost_ret (v := .tuple #[.int .u8 (q.toNat : Int), .int .i64 (k : Int), .bool (!false)]) ?_ rfl ?_
        · simp [results, Try.results42, go_sem]
        · exact ⟨⟨_, _, rfl⟩, HB.out⟩
      | true =>
        have HN2 := Lib.hid (all_drop_step HXK.out hs HL.out)
        rw [hs] at HK
        clear hs HL
        go_wp2_with fail
        refine (HK.out _).mono ?_
        rintro e1 w5 ⟨rfl, rfl⟩
        go_wp2_with fail
        go_roundw
        case rel => exact ⟨k, _, rfl, (by first | rfl | exact w64_id (by omega) (by omega)), by omega, HN2, HB⟩
        case measure => first | (simp [intOf]; done) | (simp [intOf]; omega) | (rw [w64_id (by omega) (by omega)]; simp [intOf])

set_option maxRecDepth 100000 in
set_option maxHeartbeats 4000000 in
theorem hasblank_any (l : List UInt8) (w : World) (hl : l.length ≤ 100000) : Calls Try.prog 40 #[.string (strB l)] w fun e w' => e = .returned (.bool (!l.all solid)) ∧ Below w.heap.size w w' := by
  obtain ⟨C, w2, hcv, hrw, b2⟩ := conv_own l w (by omega)
  have HY := Lib.hid hrw.byt
  have HB := Lib.hid b2
  clear hrw b2
  go_enter Try.func40, Try.ntmps40
  go_wp2_with fail
  refine (lastb_any _ _ _ l w2 HY.out hl).mono ?_
  rintro e1 w5 ⟨⟨x, k, rfl⟩, b5⟩
  have HB5 := Lib.hid (below_then HB.out b5)
  clear b5
  go_wp2_with fail
  go_ret
  exact ⟨rfl, HB5.out⟩

set_option maxRecDepth 100000 in
set_option maxHeartbeats 4000000 in
theorem namecode_any (l : List UInt8) (w : World) : Calls Try.prog 30 #[.string (strB l)] w fun e w' => e = .returned (.int .i64 (namedC l)) ∧ Below w.heap.size w w' := by
  have hsz : (strB l).size = l.length := rfl
  by_cases h0 : l = []
  · subst h0
    have H : Hid (namedC [] = -16) := by show _ = _; rfl
    rw [H.out, show strB [] = ⟨#[]⟩ from rfl]
    go_enter Try.func30, Try.ntmps30
    go_wp2_with fail
    go_ret
    exact ⟨rfl, Below.refl _ _⟩
  · have he := str_ne (a := strB l) (b := strB []) (fun e => h0 (strB_inj e))
    have he2 := str_emp h0
    by_cases h31 : 31 < l.length
    · have H : Hid (namedC l = -19) := by show _ = _; unfold namedC; rw [if_neg h0, if_pos h31]
      have h31' : (31 : Int) < (l.length : Int) := by omega
      rw [H.out]
      go_enter Try.func30, Try.ntmps30
      go_wp2_with fail
      go_ret
      exact ⟨rfl, Below.refl _ _⟩
    · have h31' : decide ((31 : Int) < (l.length : Int)) = false := by simp; omega
      have HC := Lib.hid (fun w => hasblank_any l w (by omega))
      have H : Hid (namedC l = if l.all solid = true then 0 else -32) := by show _ = _; unfold namedC; rw [if_neg h0, if_neg h31]
      rw [H.out]
      cases hs : l.all solid with
      | true =>
        rw [hs] at HC
        clear h31 hs
        go_enter Try.func30, Try.ntmps30
        go_wp2_with fail
        refine (HC.out _).mono ?_
        rintro e1 w5 ⟨rfl, b5⟩
        have HB5 := Lib.hid b5
        clear b5
        go_wp2_with fail
        go_ret
        exact ⟨rfl, HB5.out⟩
      | false =>
        rw [hs] at HC
        clear h31 hs
        go_enter Try.func30, Try.ntmps30
        go_wp2_with fail
        refine (HC.out _).mono ?_
        rintro e1 w5 ⟨rfl, b5⟩
        have HB5 := Lib.hid b5
        clear b5
        go_wp2_with fail
        go_ret
        exact ⟨rfl, HB5.out⟩
end Go.Proofs.Ytnjmhgbdhekmdaa

/- Contracts of dict's closures, and of its row function with each of them. -/
namespace Go.Proofs.Ytnjmhgbdhekmdaa
open Go.RowKit
set_option linter.unusedVariables false
set_option linter.unusedSimpArgs false

abbrev wv (q : Wr) : Value := .agg #[.string (strB q.nm), .int .i64 q.xt, .int .i64 q.fl]

set_option maxRecDepth 100000 in
set_option maxHeartbeats 4000000 in
theorem wrong_any (q : Wr) (w : World) : Calls Try.prog 29 #[wv q] w fun e w' => e = .returned (.bool (!wordB q)) ∧ Below w.heap.size w w' := by
  have HN := Lib.hid (fun w => namecode_any q.nm w)
  have HF := Lib.hid (fun w => areflags_any q.fl w)
  obtain ⟨z, ez⟩ : ∃ z, namedC q.nm = z := ⟨_, rfl⟩
  have HZ := Lib.hid ez
  rw [ez] at HN
  obtain ⟨W, hW⟩ : ∃ W, w.alloc (.cells #[.string (strB q.nm), .int .i64 q.xt, .int .i64 q.fl] 30) = W := ⟨_, rfl⟩
  have hB := al_one w (.cells #[.string (strB q.nm), .int .i64 q.xt, .int .i64 q.fl] 30)
  have hX := wbox_new w q
  rw [hW] at hB hX
  have HX := Lib.hid hX
  have HB := Lib.hid hB
  have HW := Lib.hid hW
  clear hB hX hW ez
  by_cases hz : z = 0
  · subst hz
    have H : Hid (wordB q = flagB q.fl) := by show _ = _; unfold wordB; rw [HZ.out]; rfl
    rw [H.out]
    obtain ⟨fb, efb⟩ : ∃ fb, flagB q.fl = fb := ⟨_, rfl⟩
    rw [efb] at HF ⊢
    clear efb
    unfold wv
    go_enter Try.func29, Try.ntmps29
    go_wp2_with fail
    rw [HW.out]
    obtain ⟨z0, z1, z2, z3, z4, z5⟩ := HX.out.use
    have lz := HX.out.lt
    go_wp2_with fail
    refine (HN.out _).mono ?_
    rintro e1 w5 ⟨rfl, b5⟩
    have XZ5 := Lib.hid (HX.out.keep b5)
    have HB5 := Lib.hid (below_then HB.out b5)
    clear b5 z0 z1 z2 z3 z4 z5 lz
    obtain ⟨z0, z1, z2, z3, z4, z5⟩ := XZ5.out.use
    have lz := XZ5.out.lt
    go_wp2_with fail
    refine (HF.out _).mono ?_
    rintro e1 w6 ⟨rfl, rfl⟩
    go_wp2_with fail
    go_ret
    exact ⟨rfl, HB5.out⟩
  · have H : Hid (wordB q = false) := by show _ = _; unfold wordB; rw [HZ.out]; simp [hz]
    have hz1 : ((z : Int) != 0) = true := by simpa using hz
    have hz2 : ((z : Int) == 0) = false := by simpa using hz
    rw [H.out]
    unfold wv
    go_enter Try.func29, Try.ntmps29
    go_wp2_with fail
    rw [HW.out]
    obtain ⟨z0, z1, z2, z3, z4, z5⟩ := HX.out.use
    have lz := HX.out.lt
    go_wp2_with fail
    refine (HN.out _).mono ?_
    rintro e1 w5 ⟨rfl, b5⟩
    have XZ5 := Lib.hid (HX.out.keep b5)
    have HB5 := Lib.hid (below_then HB.out b5)
    clear b5 z0 z1 z2 z3 z4 z5 lz
    obtain ⟨z0, z1, z2, z3, z4, z5⟩ := XZ5.out.use
    have lz := XZ5.out.lt
    go_wp2_with fail
    go_ret
    exact ⟨rfl, HB5.out⟩

set_option maxRecDepth 100000 in
set_option maxHeartbeats 4000000 in
theorem isof_any (q : Wr) (xt : Int) (p : Addr) (w : World) (hp : w.cell? p = some (.int .i64 xt)) (hpl : p.block < w.heap.size) : Calls Try.prog 36 #[wv q, .pointer (some p)] w fun e w' => e = .returned (.bool (decide (q.xt = xt))) ∧ Below w.heap.size w w' := by
  obtain ⟨W, hW⟩ : ∃ W, w.alloc (.cells #[.string (strB q.nm), .int .i64 q.xt, .int .i64 q.fl] 30) = W := ⟨_, rfl⟩
  have hB := al_one w (.cells #[.string (strB q.nm), .int .i64 q.xt, .int .i64 q.fl] 30)
  have hX := wbox_new w q
  rw [hW] at hB hX
  have hp' := (hB.cell (p := p) hpl).trans hp
  have HX := Lib.hid hX
  have HB := Lib.hid hB
  have HW := Lib.hid hW
  clear hB hX hW hp hpl
  obtain ⟨z0, z1, z2, z3, z4, z5⟩ := HX.out.use
  have lz := HX.out.lt
  by_cases hx : q.xt = xt
  · have e1 : ((q.xt : Int) == xt) = true := by simpa using hx
    have H : Hid (decide (q.xt = xt) = true) := by show _ = _; simpa using hx
    rw [H.out]
    unfold wv
    clear H hx
    go_enter Try.func36, Try.ntmps36
    go_upto_region 1 with fail
    rw [HW.out]
    go_wp2_with fail
    go_ret
    exact ⟨rfl, HB.out⟩
  · have e1 : ((q.xt : Int) == xt) = false := by simpa using hx
    have H : Hid (decide (q.xt = xt) = false) := by show _ = _; simpa using hx
    rw [H.out]
    unfold wv
    clear H hx
    go_enter Try.func36, Try.ntmps36
    go_upto_region 1 with fail
    rw [HW.out]
    go_wp2_with fail
    go_ret
    exact ⟨rfl, HB.out⟩

theorem and2 {f : Int} (h0 : 0 ≤ f) (h7 : f ≤ 7) : bits BinOp.and IntKind.i64 f 2 = if hidB f = true then 2 else 0 := by
  have h : f = 0 ∨ f = 1 ∨ f = 2 ∨ f = 3 ∨ f = 4 ∨ f = 5 ∨ f = 6 ∨ f = 7 := by omega
  rcases h with rfl | rfl | rfl | rfl | rfl | rfl | rfl | rfl <;> rfl

set_option maxRecDepth 100000 in
set_option maxHeartbeats 4000000 in
theorem isfind_any (q : Wr) (nm : List UInt8) (p : Addr) (w : World) (hp : w.cell? p = some (.string (strB nm))) (hpl : p.block < w.heap.size) (h0 : 0 ≤ q.fl) (h7 : q.fl ≤ 7) (hq : q.nm.length ≤ 100000) (hm : nm.length ≤ 100000) : Calls Try.prog 33 #[wv q, .pointer (some p)] w fun e w' => e = .returned (.bool (seenP nm q)) ∧ Below w.heap.size w w' := by
  obtain ⟨W, hW⟩ : ∃ W, w.alloc (.cells #[.string (strB q.nm), .int .i64 q.xt, .int .i64 q.fl] 30) = W := ⟨_, rfl⟩
  have hB := al_one w (.cells #[.string (strB q.nm), .int .i64 q.xt, .int .i64 q.fl] 30)
  have hX := wbox_new w q
  rw [hW] at hB hX
  have hp' := (hB.cell (p := p) hpl).trans hp
  have HX := Lib.hid hX
  have HB := Lib.hid hB
  have HW := Lib.hid hW
  clear hB hX hW hp hpl
  obtain ⟨z0, z1, z2, z3, z4, z5⟩ := HX.out.use
  have lz := HX.out.lt
  have hand := and2 h0 h7
  have HC := Lib.hid (fun w => alike_any q.nm nm w hq hm)
  clear h0 h7
  cases hh : hidB q.fl with
  | true =>
    have H : Hid (seenP nm q = false) := by show _ = _; unfold seenP; rw [hh]; simp
    have hand2 : bits BinOp.and IntKind.i64 q.fl 2 = 2 := by rw [hand, hh]; rfl
    rw [H.out]
    unfold wv
    clear H hand hh
    go_enter Try.func33, Try.ntmps33
    go_upto_region 1 with fail
    rw [HW.out]
    go_wp2_with fail
    go_ret
    exact ⟨rfl, HB.out⟩
  | false =>
    have H : Hid (seenP nm q = alikeF q.nm nm) := by show _ = _; unfold seenP; rw [hh]; simp
    have hand2 : bits BinOp.and IntKind.i64 q.fl 2 = 0 := by rw [hand, hh]; rfl
    rw [H.out]
    obtain ⟨r, er⟩ : ∃ r, alikeF q.nm nm = r := ⟨_, rfl⟩
    rw [er] at HC ⊢
    unfold wv
    clear H hand hh er
    go_enter Try.func33, Try.ntmps33
    go_upto_region 1 with fail
    rw [HW.out]
    go_wp2_with fail
    refine (HC.out _).mono ?_
    rintro e1 w5 ⟨rfl, b5⟩
    have HB5 := Lib.hid (below_then HB.out b5)
    clear b5
    go_wp2_with fail
    go_ret
    exact ⟨rfl, HB5.out⟩
end Go.Proofs.Ytnjmhgbdhekmdaa

/- Contracts of dict's row function, with each of three closures. -/
namespace Go.Proofs.Ytnjmhgbdhekmdaa
open Go.RowKit
set_option linter.unusedVariables false
set_option linter.unusedSimpArgs false

set_option maxRecDepth 100000 in
set_option maxHeartbeats 4000000 in
theorem last_wrong (A : Option Addr) (n c : Nat) (l : List Wr) (p : Wr → Bool) (w : World) (h : Wds w (.slice A n c) l) (hn : n ≤ 100000) (hc : ∀ q ∈ l, ∀ w1, Below w.heap.size w w1 → Calls Try.prog 29 #[wv q] w1 fun e w2 => e = .returned (.bool (p q)) ∧ Below w1.heap.size w1 w2) : Calls Try.prog 28 #[.slice A n c, .func (.func 29) #[] #[]] w (GotOut (gotW l (lastI p l)) (gotI (lastI p l)) (lastI p l).isSome w) := by
  have hl := h.len
  subst hl
  have HA := Lib.hid h
  have HN : Hid (l.length ≤ 100000) := hn
  have HC : Hid (∀ q ∈ l, ∀ w1, Below w.heap.size w w1 → Calls Try.prog 29 #[.agg #[.string (strB q.nm), .int .i64 q.xt, .int .i64 q.fl]] w1 fun e w2 => e = .returned (.bool (p q)) ∧ Below w1.heap.size w1 w2) := hc
  have hw1 : wrap64 ((l.length : Int) - 1) = (l.length : Int) - 1 := w64_id (by omega) (by omega)
  clear h hn hc
  unfold GotOut
  go_enter Try.func28, Try.ntmps28
  go_wp2_with fail
  try rw [hw1]
  clear hw1
  obtain ⟨W, hW⟩ : ∃ W, w.alloc (.cells #[.string ⟨#[]⟩, .int .i64 0, .int .i64 0] 30) = W := ⟨_, rfl⟩
  have hB := al_one w (.cells #[.string ⟨#[]⟩, .int .i64 0, .int .i64 0] 30)
  have hX := wbox_zero w
  rw [hW] at hB hX
  have HX := Lib.hid hX
  have HB := Lib.hid hB
  have HW := Lib.hid hW
  rw [HW.out]
  clear hB hX hW
  go_loopw [7] (fun s7 wr => ∃ (k : Nat) (i : Int), s7 = .int .i64 i ∧ i = (k : Int) - 1 ∧ k ≤ l.length ∧ Hid (lastI p (l.drop k) = none) ∧ Hid (Below W.heap.size W wr)) (fun s7 _ => (intOf s7 + 1).toNat)
  case atStart => exact ⟨l.length, _, rfl, rfl, Nat.le_refl _, Lib.hid (by rw [List.drop_length]; rfl), Lib.hid (Below.refl _ _)⟩
  case round =>
    obtain ⟨k, i, rfl, hi, hk, HL, HB2⟩ := hrel
    have XZ := Lib.hid (HX.out.keep HB2.out)
    have HBB := Lib.hid (below_then HB.out HB2.out)
    obtain ⟨z0, z1, z2, z3, z4, z5⟩ := XZ.out.use
    have lz := XZ.out.lt
    cases k with
    | zero =>
      have hi1 : decide (0 ≤ i) = false := by simp; omega
      have H : Hid (lastI p l = none) := by have := HL.out; rwa [List.drop_zero] at this
      clear hi HL hk z0 z1 z2 z3 z4 z5 lz
      obtain ⟨W2, hW2⟩ : ∃ W2, wr.alloc (.cells #[.string ⟨#[]⟩, .int .i64 0, .int .i64 0] 30) = W2 := ⟨_, rfl⟩
      have hB2 := al_one wr (.cells #[.string ⟨#[]⟩, .int .i64 0, .int .i64 0] 30)
      have hX2 := wbox_zero wr
      rw [hW2] at hB2 hX2
      have XZ2 := Lib.hid (XZ.out.keep hB2)
      have HX2 := Lib.hid hX2
      have HB3 := Lib.hid (below_then HBB.out hB2)
      have HW2 := Lib.hid hW2
      clear hB2 hX2 hW2
      obtain ⟨z0, z1, z2, z3, z4, z5⟩ := XZ2.out.use
      have lz := XZ2.out.lt
      obtain ⟨y0, y1, y2, y3, y4, y5⟩ := HX2.out.use
      have ly := HX2.out.lt
      go_upto_region 7 with fail
      rw [HW2.out]
      go_wp2_with fail
      obtain ⟨r0, r1, r2, _, _, _⟩ := (XZ2.out.put w0).use
      rw [H.out]
      refine bodyPost_ret (v := .tuple #[.agg #[.string (strB w0.nm), .int .i64 w0.xt, .int .i64 w0.fl], .int .i64 0, .bool false]) ?_ rfl ?_
      · simp [results, Try.results28, go_sem, r0, r1, r2]
      · exact ⟨rfl, below_wset HB3.out (Nat.le_refl _) _ _ _⟩
    | succ k =>
      obtain rfl : i = (k : Int) := by omega
      have hkl : k < l.length := by omega
      obtain ⟨g, o, hA, c1, c2, c3⟩ := wds_cell (HA.out.keep (below_then HB.out HB2.out)) hkl
      have hx : l[k]? = some l[k] := List.getElem?_eq_getElem hkl
      obtain ⟨q, eq⟩ : ∃ q, l[k] = q := ⟨_, rfl⟩
      rw [eq] at c1 c2 c3 hx
      have hkl' : (k : Int) < (l.length : Int) := by omega
      have hln := HN.out
      subst hA
      have HK := Lib.hid (HC.out q (List.mem_of_getElem? hx) wr HBB.out)
      have HC2 : Hid (wr.cell? ⟨g, o + k * 3, none⟩ = some (.string (strB q.nm)) ∧ wr.cell? ⟨g, o + k * 3 + 1, none⟩ = some (.int .i64 q.xt) ∧ wr.cell? ⟨g, o + k * 3 + 2, none⟩ = some (.int .i64 q.fl)) := ⟨c1, c2, c3⟩
      have hg2 := World.block_lt_of_cell? wr ⟨g, o + k * 3, none⟩ c1
      have HXK := Lib.hid hx
      have XZ2 := XZ
      clear hx eq hi hk HBB HC
      cases hK : p q with
      | false =>
        rw [hK] at HK
        have HN2 := Lib.hid (lastI_step (p := p) HXK.out hK HL.out)
        clear hK HL
        go_wp2_with fail
        refine HK.out.mono ?_
        rintro e1 w5 ⟨rfl, b5⟩
        have HB5 := Lib.hid (below_then HB2.out b5)
        clear b5 c1 c2 c3 z0 z1 z2 z3 z4 z5 lz
        go_wp2_with fail
        go_roundw
        case rel => exact ⟨k, _, rfl, (by first | rfl | exact w64_id (by omega) (by omega)), by omega, HN2, HB5⟩
        case measure => first | (simp [intOf]; done) | (simp [intOf]; omega) | (rw [w64_id (by omega) (by omega)]; simp [intOf])
      | true =>
        rw [hK] at HK
        have H : Hid (lastI p l = some k) := lastI_at HXK.out hK HL.out
        have HG : Hid (gotW l (some k) = q) := gotW_at HXK.out
        clear hK HL
        go_wp2_with fail
        refine HK.out.mono ?_
        rintro e1 w5 ⟨rfl, b5⟩
        obtain ⟨d1, d2, d3⟩ := HC2.out
        have HC5 : Hid (w5.cell? ⟨g, o + k * 3, none⟩ = some (.string (strB q.nm)) ∧ w5.cell? ⟨g, o + k * 3 + 1, none⟩ = some (.int .i64 q.xt) ∧ w5.cell? ⟨g, o + k * 3 + 2, none⟩ = some (.int .i64 q.fl)) := ⟨(b5.cell (p := ⟨g, o + k * 3, none⟩) hg2).trans d1, (b5.cell (p := ⟨g, o + k * 3 + 1, none⟩) hg2).trans d2, (b5.cell (p := ⟨g, o + k * 3 + 2, none⟩) hg2).trans d3⟩
        have hg5 : g < w5.heap.size := Nat.lt_of_lt_of_le hg2 b5.size
        have XZ5 := Lib.hid (XZ2.out.keep b5)
        have HB5 := Lib.hid (below_then HB2.out b5)
        clear b5 d1 d2 d3 c1 c2 c3 z0 z1 z2 z3 z4 z5 lz
        obtain ⟨c1, c2, c3⟩ := HC5.out
        obtain ⟨z0, z1, z2, z3, z4, z5⟩ := XZ5.out.use
        have lz := XZ5.out.lt
        go_wp2_with fail
        obtain ⟨r0, r1, r2, _, _, _⟩ := (XZ5.out.put q).use
        rw [H.out, HG.out]
        refine bodyPost_ret (v := .tuple #[.agg #[.string (strB q.nm), .int .i64 q.xt, .int .i64 q.fl], .int .i64 (k : Int), .bool true]) ?_ rfl ?_
        · simp [results, Try.results28, go_sem, r0, r1, r2]
        · exact ⟨rfl, below_wset (below_then HB.out HB5.out) (Nat.le_refl _) _ _ _⟩

set_option maxRecDepth 100000 in
set_option maxHeartbeats 4000000 in
theorem last_find (A : Option Addr) (n c : Nat) (l : List Wr) (p : Wr → Bool) (b : Addr) (w : World) (h : Wds w (.slice A n c) l) (hn : n ≤ 100000) (hc : ∀ q ∈ l, ∀ w1, Below w.heap.size w w1 → Calls Try.prog 33 #[wv q, .pointer (some b)] w1 fun e w2 => e = .returned (.bool (p q)) ∧ Below w1.heap.size w1 w2) : Calls Try.prog 28 #[.slice A n c, .func (.func 33) #[] #[.pointer (some b)]] w (GotOut (gotW l (lastI p l)) (gotI (lastI p l)) (lastI p l).isSome w) := by
  have hl := h.len
  subst hl
  have HA := Lib.hid h
  have HN : Hid (l.length ≤ 100000) := hn
  have HC : Hid (∀ q ∈ l, ∀ w1, Below w.heap.size w w1 → Calls Try.prog 33 #[.agg #[.string (strB q.nm), .int .i64 q.xt, .int .i64 q.fl], .pointer (some b)] w1 fun e w2 => e = .returned (.bool (p q)) ∧ Below w1.heap.size w1 w2) := hc
  have hw1 : wrap64 ((l.length : Int) - 1) = (l.length : Int) - 1 := w64_id (by omega) (by omega)
  clear h hn hc
  unfold GotOut
  go_enter Try.func28, Try.ntmps28
  go_wp2_with fail
  try rw [hw1]
  clear hw1
  obtain ⟨W, hW⟩ : ∃ W, w.alloc (.cells #[.string ⟨#[]⟩, .int .i64 0, .int .i64 0] 30) = W := ⟨_, rfl⟩
  have hB := al_one w (.cells #[.string ⟨#[]⟩, .int .i64 0, .int .i64 0] 30)
  have hX := wbox_zero w
  rw [hW] at hB hX
  have HX := Lib.hid hX
  have HB := Lib.hid hB
  have HW := Lib.hid hW
  rw [HW.out]
  clear hB hX hW
  go_loopw [7] (fun s7 wr => ∃ (k : Nat) (i : Int), s7 = .int .i64 i ∧ i = (k : Int) - 1 ∧ k ≤ l.length ∧ Hid (lastI p (l.drop k) = none) ∧ Hid (Below W.heap.size W wr)) (fun s7 _ => (intOf s7 + 1).toNat)
  case atStart => exact ⟨l.length, _, rfl, rfl, Nat.le_refl _, Lib.hid (by rw [List.drop_length]; rfl), Lib.hid (Below.refl _ _)⟩
  case round =>
    obtain ⟨k, i, rfl, hi, hk, HL, HB2⟩ := hrel
    have XZ := Lib.hid (HX.out.keep HB2.out)
    have HBB := Lib.hid (below_then HB.out HB2.out)
    obtain ⟨z0, z1, z2, z3, z4, z5⟩ := XZ.out.use
    have lz := XZ.out.lt
    cases k with
    | zero =>
      have hi1 : decide (0 ≤ i) = false := by simp; omega
      have H : Hid (lastI p l = none) := by have := HL.out; rwa [List.drop_zero] at this
      clear hi HL hk z0 z1 z2 z3 z4 z5 lz
      obtain ⟨W2, hW2⟩ : ∃ W2, wr.alloc (.cells #[.string ⟨#[]⟩, .int .i64 0, .int .i64 0] 30) = W2 := ⟨_, rfl⟩
      have hB2 := al_one wr (.cells #[.string ⟨#[]⟩, .int .i64 0, .int .i64 0] 30)
      have hX2 := wbox_zero wr
      rw [hW2] at hB2 hX2
      have XZ2 := Lib.hid (XZ.out.keep hB2)
      have HX2 := Lib.hid hX2
      have HB3 := Lib.hid (below_then HBB.out hB2)
      have HW2 := Lib.hid hW2
      clear hB2 hX2 hW2
      obtain ⟨z0, z1, z2, z3, z4, z5⟩ := XZ2.out.use
      have lz := XZ2.out.lt
      obtain ⟨y0, y1, y2, y3, y4, y5⟩ := HX2.out.use
      have ly := HX2.out.lt
      go_upto_region 7 with fail
      rw [HW2.out]
      go_wp2_with fail
      obtain ⟨r0, r1, r2, _, _, _⟩ := (XZ2.out.put w0).use
      rw [H.out]
      refine bodyPost_ret (v := .tuple #[.agg #[.string (strB w0.nm), .int .i64 w0.xt, .int .i64 w0.fl], .int .i64 0, .bool false]) ?_ rfl ?_
      · simp [results, Try.results28, go_sem, r0, r1, r2]
      · exact ⟨rfl, below_wset HB3.out (Nat.le_refl _) _ _ _⟩
    | succ k =>
      obtain rfl : i = (k : Int) := by omega
      have hkl : k < l.length := by omega
      obtain ⟨g, o, hA, c1, c2, c3⟩ := wds_cell (HA.out.keep (below_then HB.out HB2.out)) hkl
      have hx : l[k]? = some l[k] := List.getElem?_eq_getElem hkl
      obtain ⟨q, eq⟩ : ∃ q, l[k] = q := ⟨_, rfl⟩
      rw [eq] at c1 c2 c3 hx
      have hkl' : (k : Int) < (l.length : Int) := by omega
      have hln := HN.out
      subst hA
      have HK := Lib.hid (HC.out q (List.mem_of_getElem? hx) wr HBB.out)
      have HC2 : Hid (wr.cell? ⟨g, o + k * 3, none⟩ = some (.string (strB q.nm)) ∧ wr.cell? ⟨g, o + k * 3 + 1, none⟩ = some (.int .i64 q.xt) ∧ wr.cell? ⟨g, o + k * 3 + 2, none⟩ = some (.int .i64 q.fl)) := ⟨c1, c2, c3⟩
      have hg2 := World.block_lt_of_cell? wr ⟨g, o + k * 3, none⟩ c1
      have HXK := Lib.hid hx
      have XZ2 := XZ
      clear hx eq hi hk HBB HC
      cases hK : p q with
      | false =>
        rw [hK] at HK
        have HN2 := Lib.hid (lastI_step (p := p) HXK.out hK HL.out)
        clear hK HL
        go_wp2_with fail
        refine HK.out.mono ?_
        rintro e1 w5 ⟨rfl, b5⟩
        have HB5 := Lib.hid (below_then HB2.out b5)
        clear b5 c1 c2 c3 z0 z1 z2 z3 z4 z5 lz
        go_wp2_with fail
        go_roundw
        case rel => exact ⟨k, _, rfl, (by first | rfl | exact w64_id (by omega) (by omega)), by omega, HN2, HB5⟩
        case measure => first | (simp [intOf]; done) | (simp [intOf]; omega) | (rw [w64_id (by omega) (by omega)]; simp [intOf])
      | true =>
        rw [hK] at HK
        have H : Hid (lastI p l = some k) := lastI_at HXK.out hK HL.out
        have HG : Hid (gotW l (some k) = q) := gotW_at HXK.out
        clear hK HL
        go_wp2_with fail
        refine HK.out.mono ?_
        rintro e1 w5 ⟨rfl, b5⟩
        obtain ⟨d1, d2, d3⟩ := HC2.out
        have HC5 : Hid (w5.cell? ⟨g, o + k * 3, none⟩ = some (.string (strB q.nm)) ∧ w5.cell? ⟨g, o + k * 3 + 1, none⟩ = some (.int .i64 q.xt) ∧ w5.cell? ⟨g, o + k * 3 + 2, none⟩ = some (.int .i64 q.fl)) := ⟨(b5.cell (p := ⟨g, o + k * 3, none⟩) hg2).trans d1, (b5.cell (p := ⟨g, o + k * 3 + 1, none⟩) hg2).trans d2, (b5.cell (p := ⟨g, o + k * 3 + 2, none⟩) hg2).trans d3⟩
        have hg5 : g < w5.heap.size := Nat.lt_of_lt_of_le hg2 b5.size
        have XZ5 := Lib.hid (XZ2.out.keep b5)
        have HB5 := Lib.hid (below_then HB2.out b5)
        clear b5 d1 d2 d3 c1 c2 c3 z0 z1 z2 z3 z4 z5 lz
        obtain ⟨c1, c2, c3⟩ := HC5.out
        obtain ⟨z0, z1, z2, z3, z4, z5⟩ := XZ5.out.use
        have lz := XZ5.out.lt
        go_wp2_with fail
        obtain ⟨r0, r1, r2, _, _, _⟩ := (XZ5.out.put q).use
        rw [H.out, HG.out]
        refine bodyPost_ret (v := .tuple #[.agg #[.string (strB q.nm), .int .i64 q.xt, .int .i64 q.fl], .int .i64 (k : Int), .bool true]) ?_ rfl ?_
        · simp [results, Try.results28, go_sem, r0, r1, r2]
        · exact ⟨rfl, below_wset (below_then HB.out HB5.out) (Nat.le_refl _) _ _ _⟩

set_option maxRecDepth 100000 in
set_option maxHeartbeats 4000000 in
theorem last_of (A : Option Addr) (n c : Nat) (l : List Wr) (p : Wr → Bool) (b : Addr) (w : World) (h : Wds w (.slice A n c) l) (hn : n ≤ 100000) (hc : ∀ q ∈ l, ∀ w1, Below w.heap.size w w1 → Calls Try.prog 36 #[wv q, .pointer (some b)] w1 fun e w2 => e = .returned (.bool (p q)) ∧ Below w1.heap.size w1 w2) : Calls Try.prog 28 #[.slice A n c, .func (.func 36) #[] #[.pointer (some b)]] w (GotOut (gotW l (lastI p l)) (gotI (lastI p l)) (lastI p l).isSome w) := by
  have hl := h.len
  subst hl
  have HA := Lib.hid h
  have HN : Hid (l.length ≤ 100000) := hn
  have HC : Hid (∀ q ∈ l, ∀ w1, Below w.heap.size w w1 → Calls Try.prog 36 #[.agg #[.string (strB q.nm), .int .i64 q.xt, .int .i64 q.fl], .pointer (some b)] w1 fun e w2 => e = .returned (.bool (p q)) ∧ Below w1.heap.size w1 w2) := hc
  have hw1 : wrap64 ((l.length : Int) - 1) = (l.length : Int) - 1 := w64_id (by omega) (by omega)
  clear h hn hc
  unfold GotOut
  go_enter Try.func28, Try.ntmps28
  go_wp2_with fail
  try rw [hw1]
  clear hw1
  obtain ⟨W, hW⟩ : ∃ W, w.alloc (.cells #[.string ⟨#[]⟩, .int .i64 0, .int .i64 0] 30) = W := ⟨_, rfl⟩
  have hB := al_one w (.cells #[.string ⟨#[]⟩, .int .i64 0, .int .i64 0] 30)
  have hX := wbox_zero w
  rw [hW] at hB hX
  have HX := Lib.hid hX
  have HB := Lib.hid hB
  have HW := Lib.hid hW
  rw [HW.out]
  clear hB hX hW
  go_loopw [7] (fun s7 wr => ∃ (k : Nat) (i : Int), s7 = .int .i64 i ∧ i = (k : Int) - 1 ∧ k ≤ l.length ∧ Hid (lastI p (l.drop k) = none) ∧ Hid (Below W.heap.size W wr)) (fun s7 _ => (intOf s7 + 1).toNat)
  case atStart => exact ⟨l.length, _, rfl, rfl, Nat.le_refl _, Lib.hid (by rw [List.drop_length]; rfl), Lib.hid (Below.refl _ _)⟩
  case round =>
    obtain ⟨k, i, rfl, hi, hk, HL, HB2⟩ := hrel
    have XZ := Lib.hid (HX.out.keep HB2.out)
    have HBB := Lib.hid (below_then HB.out HB2.out)
    obtain ⟨z0, z1, z2, z3, z4, z5⟩ := XZ.out.use
    have lz := XZ.out.lt
    cases k with
    | zero =>
      have hi1 : decide (0 ≤ i) = false := by simp; omega
      have H : Hid (lastI p l = none) := by have := HL.out; rwa [List.drop_zero] at this
      clear hi HL hk z0 z1 z2 z3 z4 z5 lz
      obtain ⟨W2, hW2⟩ : ∃ W2, wr.alloc (.cells #[.string ⟨#[]⟩, .int .i64 0, .int .i64 0] 30) = W2 := ⟨_, rfl⟩
      have hB2 := al_one wr (.cells #[.string ⟨#[]⟩, .int .i64 0, .int .i64 0] 30)
      have hX2 := wbox_zero wr
      rw [hW2] at hB2 hX2
      have XZ2 := Lib.hid (XZ.out.keep hB2)
      have HX2 := Lib.hid hX2
      have HB3 := Lib.hid (below_then HBB.out hB2)
      have HW2 := Lib.hid hW2
      clear hB2 hX2 hW2
      obtain ⟨z0, z1, z2, z3, z4, z5⟩ := XZ2.out.use
      have lz := XZ2.out.lt
      obtain ⟨y0, y1, y2, y3, y4, y5⟩ := HX2.out.use
      have ly := HX2.out.lt
      go_upto_region 7 with fail
      rw [HW2.out]
      go_wp2_with fail
      obtain ⟨r0, r1, r2, _, _, _⟩ := (XZ2.out.put w0).use
      rw [H.out]
      refine bodyPost_ret (v := .tuple #[.agg #[.string (strB w0.nm), .int .i64 w0.xt, .int .i64 w0.fl], .int .i64 0, .bool false]) ?_ rfl ?_
      · simp [results, Try.results28, go_sem, r0, r1, r2]
      · exact ⟨rfl, below_wset HB3.out (Nat.le_refl _) _ _ _⟩
    | succ k =>
      obtain rfl : i = (k : Int) := by omega
      have hkl : k < l.length := by omega
      obtain ⟨g, o, hA, c1, c2, c3⟩ := wds_cell (HA.out.keep (below_then HB.out HB2.out)) hkl
      have hx : l[k]? = some l[k] := List.getElem?_eq_getElem hkl
      obtain ⟨q, eq⟩ : ∃ q, l[k] = q := ⟨_, rfl⟩
      rw [eq] at c1 c2 c3 hx
      have hkl' : (k : Int) < (l.length : Int) := by omega
      have hln := HN.out
      subst hA
      have HK := Lib.hid (HC.out q (List.mem_of_getElem? hx) wr HBB.out)
      have HC2 : Hid (wr.cell? ⟨g, o + k * 3, none⟩ = some (.string (strB q.nm)) ∧ wr.cell? ⟨g, o + k * 3 + 1, none⟩ = some (.int .i64 q.xt) ∧ wr.cell? ⟨g, o + k * 3 + 2, none⟩ = some (.int .i64 q.fl)) := ⟨c1, c2, c3⟩
      have hg2 := World.block_lt_of_cell? wr ⟨g, o + k * 3, none⟩ c1
      have HXK := Lib.hid hx
      have XZ2 := XZ
      clear hx eq hi hk HBB HC
      cases hK : p q with
      | false =>
        rw [hK] at HK
        have HN2 := Lib.hid (lastI_step (p := p) HXK.out hK HL.out)
        clear hK HL
        go_wp2_with fail
        refine HK.out.mono ?_
        rintro e1 w5 ⟨rfl, b5⟩
        have HB5 := Lib.hid (below_then HB2.out b5)
        clear b5 c1 c2 c3 z0 z1 z2 z3 z4 z5 lz
        go_wp2_with fail
        go_roundw
        case rel => exact ⟨k, _, rfl, (by first | rfl | exact w64_id (by omega) (by omega)), by omega, HN2, HB5⟩
        case measure => first | (simp [intOf]; done) | (simp [intOf]; omega) | (rw [w64_id (by omega) (by omega)]; simp [intOf])
      | true =>
        rw [hK] at HK
        have H : Hid (lastI p l = some k) := lastI_at HXK.out hK HL.out
        have HG : Hid (gotW l (some k) = q) := gotW_at HXK.out
        clear hK HL
        go_wp2_with fail
        refine HK.out.mono ?_
        rintro e1 w5 ⟨rfl, b5⟩
        obtain ⟨d1, d2, d3⟩ := HC2.out
        have HC5 : Hid (w5.cell? ⟨g, o + k * 3, none⟩ = some (.string (strB q.nm)) ∧ w5.cell? ⟨g, o + k * 3 + 1, none⟩ = some (.int .i64 q.xt) ∧ w5.cell? ⟨g, o + k * 3 + 2, none⟩ = some (.int .i64 q.fl)) := ⟨(b5.cell (p := ⟨g, o + k * 3, none⟩) hg2).trans d1, (b5.cell (p := ⟨g, o + k * 3 + 1, none⟩) hg2).trans d2, (b5.cell (p := ⟨g, o + k * 3 + 2, none⟩) hg2).trans d3⟩
        have hg5 : g < w5.heap.size := Nat.lt_of_lt_of_le hg2 b5.size
        have XZ5 := Lib.hid (XZ2.out.keep b5)
        have HB5 := Lib.hid (below_then HB2.out b5)
        clear b5 d1 d2 d3 c1 c2 c3 z0 z1 z2 z3 z4 z5 lz
        obtain ⟨c1, c2, c3⟩ := HC5.out
        obtain ⟨z0, z1, z2, z3, z4, z5⟩ := XZ5.out.use
        have lz := XZ5.out.lt
        go_wp2_with fail
        obtain ⟨r0, r1, r2, _, _, _⟩ := (XZ5.out.put q).use
        rw [H.out, HG.out]
        refine bodyPost_ret (v := .tuple #[.agg #[.string (strB q.nm), .int .i64 q.xt, .int .i64 q.fl], .int .i64 (k : Int), .bool true]) ?_ rfl ?_
        · simp [results, Try.results28, go_sem, r0, r1, r2]
        · exact ⟨rfl, below_wset (below_then HB.out HB5.out) (Nat.le_refl _) _ _ _⟩
end Go.Proofs.Ytnjmhgbdhekmdaa
