/- The head of all statements of layer 5: the document's examples come out. -/
import Derived.Test.YtekfemkoiadipaaSpcD
import Derived.Lib.SlBytesConst
namespace Go.Proofs.Ytekfemkoiadipaa
open Go.RowKit
set_option linter.unusedVariables false
set_option linter.unusedSimpArgs false

def s5m : PM := (List.replicate 24 0, [])
def s5a : PM := layM s5m 3 (upB 3)
def s5b : PM := comM s5a 8 5
def s5c : PM := layM s5b 16 [97, 98, 99]
theorem s5n : s5m.1.length = 24 ∧ s5m.2.length = 0 ∧ s5a.1.length = 24 ∧ s5a.2.length = 1 ∧ s5b.1.length = 24 ∧ s5b.2.length = 2 ∧ s5c.1.length = 24 ∧ s5c.2.length = 3 := by decide +kernel
theorem s5e : endB 24 3 = true ∧ endB 24 8 = true ∧ endB 24 16 = true ∧ endB 24 4 = true ∧ endB 24 10 = true := by decide +kernel
theorem s5p : layP 24 3 (misN 3) = 8 ∧ layC 24 3 (misN 3) = 0 ∧ comP 24 8 = 16 ∧ comC 24 8 = 0 ∧ comP 24 3 = 3 ∧ comC 24 3 = -23 ∧ layP 24 16 3 = 19 ∧ layC 24 16 3 = 0 := by decide +kernel
theorem s5q : comM s5m 3 5 = s5m := by decide +kernel
theorem s5f : fetchF s5c 8 = 5 ∧ cellC 24 8 = 0 := by decide +kernel
theorem s5l : movP 24 4 10 (-6) = 4 ∧ movC 24 4 10 (-6) = 0 ∧ movP 24 4 10 (-7) = 10 ∧ movC 24 4 10 (-7) = -8 := by decide +kernel

theorem byt_abc (W : World) (o : Obj) : Byt ((W.alloc o).alloc (.cells #[.int .u8 97, .int .u8 98, .int .u8 99] 5 (3, 4))) (.slice (some ⟨W.heap.size + 1, 0, none⟩) 3 3) [97, 98, 99] := by
  refine ⟨some ⟨W.heap.size + 1, 0, none⟩, 3, rfl, Nat.le_refl _, by decide, .inr ⟨W.heap.size + 1, 0, rfl, by simp, fun j v hv => ?_⟩⟩
  have h : ((W.alloc o).alloc (.cells #[.int .u8 97, .int .u8 98, .int .u8 99] 5 (3, 4))).heap[W.heap.size + 1]? = some (.cells #[.int .u8 97, .int .u8 98, .int .u8 99] 5 (3, 4)) := by
    show ((W.heap.push o).push _)[W.heap.size + 1]? = _
    rw [show W.heap.size + 1 = (W.heap.push o).size by simp]
    exact Array.getElem?_push_size
  rw [Nat.zero_add]
  have e : (u8s [97, 98, 99]) = [.int .u8 97, .int .u8 98, .int .u8 99] := rfl
  rw [e] at hv
  unfold World.cell?
  rw [h]
  simpa using hv
theorem conv_abc (W : World) (o : Obj) : (convert 22 22 (.slice (some ⟨W.heap.size + 1, 0, none⟩) 3 3)).run Try.prog ((W.alloc o).alloc (.cells #[.int .u8 97, .int .u8 98, .int .u8 99] 5)) = .ok (.slice (some ⟨W.heap.size + 1, 0, none⟩) 3 3) ((W.alloc o).alloc (.cells #[.int .u8 97, .int .u8 98, .int .u8 99] 5 (3, 4))) := by
  have kc := Lib.run_convert_bytes_const (P := Try.prog) (W.alloc o) 22 5 #[.int .u8 97, .int .u8 98, .int .u8 99] 3 3 Try.underlying22 Try.underlying5
  rw [World.size_alloc] at kc
  exact kc

set_option maxRecDepth 100000 in
set_option maxHeartbeats 16000000 in
theorem shown_any (w : World) : Calls Try.prog 8 #[] w fun e w' => e = .returned (.bool true) ∧ Below w.heap.size w w' := by
  obtain ⟨i0, hi, hz0, hz1, hz2⟩ := info_parts info_u8
  obtain ⟨Z, hZ⟩ : ∃ Z, Z = (u8s (List.replicate 24 0)).toArray := ⟨_, rfl⟩
  have hmk : (Instr.makeSlice 22 (.int .i64 24) (.int .i64 24)).run Try.prog w = .ok (.slice (some ⟨w.heap.size, 0, none⟩) 24 24) (w.alloc (.cells Z 5)) := by
    have := run_make (P := Try.prog) w 22 5 i0 (.int .u8 0) Try.underlying22 hi hz0 .i64 .i64 24 24 (by omega) (Int.le_refl _) (by rw [hz2]; omega) (by omega)
    rw [hz1, Nat.mul_one, show (24 : Int).toNat = 24 from rfl, made_u8] at this
    rw [hZ]
    exact this
  have HM : Hid (IsMem (w.alloc (.cells Z 5)) (.agg #[.slice (some ⟨w.heap.size, 0, none⟩) 24 24, .slice none 0 0]) s5m) := by
    have h := byt_block (l := List.replicate 24 0) (t := 5) (w := w.alloc (.cells Z 5)) (g := w.heap.size) (by rw [hZ]; exact one_new _ _ _) (by simp)
    rw [List.length_replicate] at h
    exact mem_mk h (pats_nil _)
  clear hZ hi hz0 hz1 hz2
  go_enter Try.func8, Try.ntmps8
  go_wp2_with fail
  have M1 := Lib.hid (at_new HM.out)
  have B1 : Hid (Below w.heap.size w ((w.alloc (.cells Z 5)).alloc (.cells #[.slice (some ⟨w.heap.size, 0, none⟩) 24 24, .slice none 0 0] 25))) := (al_one w _).alloc (by simp) _
  rw [World.size_alloc] at M1
  obtain ⟨w1, hw1⟩ : ∃ x, ((w.alloc (.cells Z 5)).alloc (.cells #[.slice (some ⟨w.heap.size, 0, none⟩) 24 24, .slice none 0 0] 25)) = x := ⟨_, rfl⟩
  rw [hw1] at M1 B1 ⊢
  clear hw1 HM hmk
  obtain ⟨cM0, cM1⟩ := M1.out.use
  refine (up_at _ _ _ _ _ _ s5m 3 _ M1.out.mem (by omega) (by omega) s5e.1).mono ?_
  rw [s5p.1, s5p.2.1]
  rintro e w2 ⟨A1, L1, c1, P1, K1, d1, rfl, hx1, bb⟩
  have Mp := Lib.hid (M1.out.keep bb)
  have M2 := Lib.hid (Mp.out.keep (al_one _ (.cells #[.slice A1 L1 c1, .slice P1 K1 d1] 25)))
  have B2 := Lib.hid (below_then (below_then B1.out bb) (al_one _ (.cells #[.slice A1 L1 c1, .slice P1 K1 d1] 25)))
  have Xa2 := Lib.hid (at_new hx1)
  clear bb cM0 cM1 M1 B1 hx1
  obtain rfl : L1 = 24 := Xa2.out.mem.len1.symm.trans s5n.2.2.1
  obtain rfl : K1 = 1 := Xa2.out.mem.len2.symm.trans s5n.2.2.2.1
  go_wp2_with fail
  refine (comma_at _ _ _ _ _ _ s5a 8 5 _ Xa2.out.mem (by omega) (by omega) s5e.2.1).mono ?_
  rw [s5p.2.2.1, s5p.2.2.2.1]
  rintro e w3 ⟨A2, L2, c2, P2, K2, d2, rfl, hx2, bb⟩
  clear Mp
  have Mp := Lib.hid (M2.out.keep bb)
  have M3 := Lib.hid (Mp.out.keep (al_one _ (.cells #[.slice A2 L2 c2, .slice P2 K2 d2] 25)))
  have Xap := Lib.hid (Xa2.out.keep bb)
  have Xa3 := Lib.hid (Xap.out.keep (al_one _ (.cells #[.slice A2 L2 c2, .slice P2 K2 d2] 25)))
  have B3 := Lib.hid (below_then (below_then B2.out bb) (al_one _ (.cells #[.slice A2 L2 c2, .slice P2 K2 d2] 25)))
  have Bm3 := Lib.hid (at_new hx2)
  clear bb M2 Xa2 B2 hx2
  obtain rfl : L2 = 24 := Bm3.out.mem.len1.symm.trans s5n.2.2.2.2.1
  obtain rfl : K2 = 2 := Bm3.out.mem.len2.symm.trans s5n.2.2.2.2.2.1
  obtain ⟨cM0, cM1⟩ := Mp.out.use
  have lM := Mp.out.lt
  go_wp2_with fail
  refine (comma_at _ _ _ _ _ _ s5m 3 5 _ M3.out.mem (by omega) (by omega) s5e.1).mono ?_
  rw [s5p.2.2.2.2.1, s5p.2.2.2.2.2.1]
  rintro e w4 ⟨A3, L3, c3, P3, K3, d3, rfl, hx3, bb⟩
  clear Mp Xap
  have Mp := Lib.hid (M3.out.keep bb)
  have M4 := Lib.hid (Mp.out.keep (al_one _ (.cells #[.slice A3 L3 c3, .slice P3 K3 d3] 25)))
  have Xap := Lib.hid (Xa3.out.keep bb)
  have Xa4 := Lib.hid (Xap.out.keep (al_one _ (.cells #[.slice A3 L3 c3, .slice P3 K3 d3] 25)))
  have Bmp := Lib.hid (Bm3.out.keep bb)
  have Bm4 := Lib.hid (Bmp.out.keep (al_one _ (.cells #[.slice A3 L3 c3, .slice P3 K3 d3] 25)))
  have B4 := Lib.hid (below_then (below_then B3.out bb) (al_one _ (.cells #[.slice A3 L3 c3, .slice P3 K3 d3] 25)))
  have Q4 := Lib.hid (at_new hx3)
  clear bb cM0 cM1 lM M3 Xa3 Bm3 B3 hx3
  clear Xa4 Xap
  obtain ⟨cBm0, cBm1⟩ := Bmp.out.use
  have lBm := Bmp.out.lt
  have kc := conv_abc w4
  go_wp2_with fail
  refine (lay_at _ _ _ _ _ _ _ 3 3 s5b [97, 98, 99] 16 _ ((Bm4.out.keep (al_one _ _)).mem) (byt_abc _ _) (by omega) (by omega) s5e.2.2.1 (by omega)).mono ?_
  rw [s5p.2.2.2.2.2.2.1, s5p.2.2.2.2.2.2.2]
  rintro e w5 ⟨A4, L4, c4, P4, K4, d4, rfl, hx4, bb⟩
  replace bb := al_then bb
  clear Mp Bmp
  have Mp := Lib.hid (M4.out.keep bb)
  have M5 := Lib.hid (Mp.out.keep (al_one _ (.cells #[.slice A4 L4 c4, .slice P4 K4 d4] 25)))
  have Bmp := Lib.hid (Bm4.out.keep bb)
  have Bm5 := Lib.hid (Bmp.out.keep (al_one _ (.cells #[.slice A4 L4 c4, .slice P4 K4 d4] 25)))
  have Qp := Lib.hid (Q4.out.keep bb)
  have Q5 := Lib.hid (Qp.out.keep (al_one _ (.cells #[.slice A4 L4 c4, .slice P4 K4 d4] 25)))
  have B5 := Lib.hid (below_then (below_then B4.out bb) (al_one _ (.cells #[.slice A4 L4 c4, .slice P4 K4 d4] 25)))
  have R5 := Lib.hid (at_new hx4)
  clear bb cBm0 cBm1 lBm M4 Bm4 Q4 B4 hx4
  obtain rfl : L4 = 24 := R5.out.mem.len1.symm.trans s5n.2.2.2.2.2.2.1
  obtain rfl : K4 = 3 := R5.out.mem.len2.symm.trans s5n.2.2.2.2.2.2.2
  clear Q5 Qp
  clear Bm5 Bmp
  go_wp2_with fail
  refine (rfetch_at _ _ _ _ _ _ s5c 8 _ R5.out.mem (by omega)).mono ?_
  rw [s5f.1, s5f.2]
  rintro e w6 ⟨rfl, bb⟩
  clear Mp
  have M6 := Lib.hid (M5.out.keep bb)
  have R6 := Lib.hid (R5.out.keep bb)
  have B6 := Lib.hid (below_then B5.out bb)
  clear bb M5 R5 B5
  obtain ⟨cM0, cM1⟩ := M6.out.use
  go_wp2_with fail
  refine (allot_at _ _ _ _ _ _ 4 10 (-6) _ (by omega) s5e.2.2.2.2 s5e.2.2.2.1).mono ?_
  rw [s5l.1, s5l.2.1]
  rintro e w7 ⟨rfl, bb⟩
  have M7 := Lib.hid (M6.out.keep bb)
  have R7 := Lib.hid (R6.out.keep bb)
  have B7 := Lib.hid (below_then B6.out bb)
  clear bb cM0 cM1 M6 R6 B6
  obtain ⟨cM0, cM1⟩ := M7.out.use
  go_wp2_with fail
  refine (allot_at _ _ _ _ _ _ 4 10 (-7) _ (by omega) s5e.2.2.2.2 s5e.2.2.2.1).mono ?_
  rw [s5l.2.2.1, s5l.2.2.2]
  rintro e w8 ⟨rfl, bb⟩
  have M8 := Lib.hid (M7.out.keep bb)
  have R8 := Lib.hid (R7.out.keep bb)
  have B8 := Lib.hid (below_then B7.out bb)
  clear bb cM0 cM1 M7 R7 B7
  go_wp2_with fail
  go_ret
  exact ⟨rfl, B8.out⟩
end Go.Proofs.Ytekfemkoiadipaa
