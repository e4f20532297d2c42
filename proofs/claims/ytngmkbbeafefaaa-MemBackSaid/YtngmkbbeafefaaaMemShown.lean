/- The head of all statements of layer 3: the document's examples come out. -/
import Derived.Test.YtngmkbbeafefaaaMemBackC
namespace Go.Proofs.Ytngmkbbeafefaaa
open Go.RowKit

def sm : PM := newF 16
def sx : PM := storeF sm 8 258
theorem s1 : newC 16 = 0 := by decide +kernel
theorem s2 : sm.1.length = 16 ∧ sm.2.length = 0 ∧ sx.1.length = 16 ∧ sx.2.length = 1 := by decide +kernel
theorem s3 : cellC 16 8 = 0 ∧ cellC 16 9 = -9 ∧ cellC 16 4 = -23 := by decide +kernel
theorem s4 : fetchF sx 8 = 258 := by decide +kernel
theorem s5 : backC sx 0 = 0 ∧ backF sx 0 = sm := by decide +kernel
theorem s6 : codeF (okB 16 8 2) = 0 ∧ textF sx 8 2 = [2, 1] ∧ codeF (okB 16 8 1) = 0 ∧ byteF sx 8 = 2 := by decide +kernel
theorem s7 : rightB sx = true ∧ rightB ([1], []) = false ∧ decide (sm = sm) = true ∧ decide (sx = sm) = false := by decide +kernel

/-- A memory lies in a block of its own. -/
def At (b : Nat) (A P : Option Addr) (L c K d : Nat) (m : PM) (w : World) : Prop := Box w b (.slice A L c) (.slice P K d) 25 ∧ IsMem w (.agg #[.slice A L c, .slice P K d]) m
theorem At.keep {b : Nat} {A P : Option Addr} {L c K d : Nat} {m : PM} {w w' : World} (h : At b A P L c K d m w) (k : Below w.heap.size w w') : At b A P L c K d m w' := ⟨h.1.keep k, h.2.keep k⟩
theorem At.mem {b : Nat} {A P : Option Addr} {L c K d : Nat} {m : PM} {w : World} (h : At b A P L c K d m w) : IsMem w (.agg #[.slice A L c, .slice P K d]) m := h.2
theorem At.use {b : Nat} {A P : Option Addr} {L c K d : Nat} {m : PM} {w : World} (h : At b A P L c K d m w) : w.cell? ⟨b, 0, none⟩ = some (.slice A L c) ∧ w.cell? ⟨b, 1, none⟩ = some (.slice P K d) := ⟨h.1.use.1, h.1.use.2.1⟩
theorem At.lt {b : Nat} {A P : Option Addr} {L c K d : Nat} {m : PM} {w : World} (h : At b A P L c K d m w) : b < w.heap.size := h.1.lt
theorem at_new {A P : Option Addr} {L c K d : Nat} {m : PM} {w : World} (h : IsMem w (.agg #[.slice A L c, .slice P K d]) m) : At w.heap.size A P L c K d m (w.alloc (.cells #[.slice A L c, .slice P K d] 25)) := ⟨box_new _ _ _ _, h.keep ((Below.refl _ _).alloc (Nat.le_refl _) _)⟩
theorem al_one (w : World) (o : Obj) : Below w.heap.size w (w.alloc o) := (Below.refl _ _).alloc (Nat.le_refl _) o
theorem al_then {w1 w2 : World} {o : Obj} (b : Below (w1.alloc o).heap.size (w1.alloc o) w2) : Below w1.heap.size w1 w2 := (al_one w1 o).trans (b.mono (by simp))

set_option maxRecDepth 100000 in
set_option maxHeartbeats 8000000 in
theorem shown_any (w : World) : Calls Try.prog 11 #[] w fun e w' => e = .returned (.bool true) ∧ Below w.heap.size w w' := by
  go_enter Try.func11, Try.ntmps11
  go_wp2_with fail
  refine (new_any 16 _).mono ?_
  rw [s1]
  rintro e w1 ⟨A, L, c, P, K, d, rfl, hm, b1⟩
  obtain rfl : L = 16 := hm.len1.symm.trans s2.1
  obtain rfl : K = 0 := hm.len2.symm.trans s2.2.1
  have M1 := Lib.hid (at_new hm)
  have B1 := Lib.hid b1
  clear hm b1
  go_wp2_with fail
  refine (store_at _ _ _ _ _ _ sm _ _ _ M1.out.mem (by omega) (by omega)).mono ?_
  rw [s3.1]
  rintro e w2 ⟨A2, L2, c2, P2, K2, d2, rfl, hx, b2⟩
  obtain rfl : L2 = 16 := hx.len1.symm.trans s2.2.2.1
  obtain rfl : K2 = 1 := hx.len2.symm.trans s2.2.2.2
  have M2 := Lib.hid ((M1.out.keep b2).keep (al_one _ (.cells #[.slice A2 16 c2, .slice P2 1 d2] 25)))
  have X2 := Lib.hid (at_new hx)
  have B2 := Lib.hid (below_then (below_then B1.out (al_then b2)) (al_one _ (.cells #[.slice A2 16 c2, .slice P2 1 d2] 25)))
  clear hx b2 M1 B1
  obtain ⟨x0, x1⟩ := X2.out.use
  go_wp2_with fail
  refine (fetch_at _ _ _ _ _ _ sx _ _ X2.out.mem (by omega)).mono ?_
  rw [s3.1, s4]
  rintro e w3 ⟨rfl, b3⟩
  have M3 := Lib.hid (M2.out.keep b3)
  have X3 := Lib.hid (X2.out.keep b3)
  have B3 := Lib.hid (below_then B2.out b3)
  clear b3 M2 X2 B2 x0 x1
  obtain ⟨x0, x1⟩ := X3.out.use
  go_wp2_with fail
  refine (back_at _ _ _ _ _ _ sx _ _ X3.out.mem s7.1 (by omega) (by omega)).mono ?_
  rw [s5.1, s5.2]
  rintro e w4 ⟨A3, L3, c3, P3, K3, d3, rfl, hy, b4⟩
  have M4 := Lib.hid ((M3.out.keep b4).keep (al_one _ (.cells #[.slice A3 L3 c3, .slice P3 K3 d3] 25)))
  have X4 := Lib.hid ((X3.out.keep b4).keep (al_one _ (.cells #[.slice A3 L3 c3, .slice P3 K3 d3] 25)))
  have Y4 := Lib.hid (at_new hy)
  have B4 := Lib.hid (below_then (below_then B3.out b4) (al_one _ (.cells #[.slice A3 L3 c3, .slice P3 K3 d3] 25)))
  have l1 := (M3.out.keep b4).lt
  have l2 := (X3.out.keep b4).lt
  obtain ⟨m0, m1⟩ := (M3.out.keep b4).use
  clear hy b4 M3 X3 B3 x0 x1
  go_wp2_with fail
  refine (fetch_at _ _ _ _ _ _ sm _ _ M4.out.mem (by omega)).mono ?_
  rw [s3.2.1]
  rintro e w5 ⟨rfl, b5⟩
  have M5 := Lib.hid (M4.out.keep b5)
  have X5 := Lib.hid (X4.out.keep b5)
  have Y5 := Lib.hid (Y4.out.keep b5)
  have B5 := Lib.hid (below_then B4.out b5)
  clear b5 M4 X4 Y4 B4 m0 m1
  obtain ⟨m0, m1⟩ := M5.out.use
  go_wp2_with fail
  refine (fetch_at _ _ _ _ _ _ sm _ _ M5.out.mem (by omega)).mono ?_
  rw [s3.2.2]
  rintro e w6 ⟨rfl, b6⟩
  have M6 := Lib.hid (M5.out.keep b6)
  have X6 := Lib.hid (X5.out.keep b6)
  have Y6 := Lib.hid (Y5.out.keep b6)
  have B6 := Lib.hid (below_then B5.out b6)
  clear b6 M5 X5 Y5 B5 m0 m1
  obtain ⟨x0, x1⟩ := X6.out.use
  go_wp2_with fail
  refine (text_at _ _ _ _ _ _ sx _ _ _ X6.out.mem (by omega) (by omega)).mono ?_
  rw [s6.1, s6.2.1]
  rintro e w7 ⟨B, k, e', rfl, ht, b7⟩
  have M7 := Lib.hid (M6.out.keep b7)
  have X7 := Lib.hid (X6.out.keep b7)
  have Y7 := Lib.hid (Y6.out.keep b7)
  have B7 := Lib.hid (below_then B6.out b7)
  have T7 := Lib.hid ht
  clear b7 ht M6 X6 Y6 B6 x0 x1
  obtain ⟨x0, x1⟩ := X7.out.use
  go_wp2_with fail
  refine (fetchByte_at _ _ _ _ _ _ sx _ _ X7.out.mem (by omega)).mono ?_
  rw [s6.2.2.1, s6.2.2.2]
  rintro e w8 ⟨rfl, b8⟩
  have M8 := Lib.hid (M7.out.keep b8)
  have X8 := Lib.hid (X7.out.keep b8)
  have Y8 := Lib.hid (Y7.out.keep b8)
  have T8 := Lib.hid (T7.out.keep b8)
  have B8 := Lib.hid (below_then B7.out b8)
  clear b8 M7 X7 Y7 T7 B7 x0 x1
  obtain ⟨y0, y1⟩ := Y8.out.use
  obtain ⟨m0, m1⟩ := M8.out.use
  go_wp2_with fail
  refine (same_at _ _ _ _ _ _ _ _ _ _ _ _ sm sm _ Y8.out.mem M8.out.mem).mono ?_
  rw [s7.2.2.1]
  rintro e w9 ⟨rfl, b9⟩
  have M9 := Lib.hid (M8.out.keep b9)
  have X9 := Lib.hid (X8.out.keep b9)
  have B9 := Lib.hid (below_then B8.out b9)
  have cv := (T8.out.keep b9).conv
  clear b9 M8 X8 Y8 T8 B8 y0 y1 m0 m1
  obtain ⟨x0, x1⟩ := X9.out.use
  rw [show strB [2, 1] = ⟨#[2, 1]⟩ from rfl] at cv
  go_wp2_with fail
  refine (mark_at _ _ _ _ _ _ _).mono ?_
  rintro e w10 ⟨rfl, b10⟩
  have M10 := Lib.hid (M9.out.keep b10)
  have X10 := Lib.hid (X9.out.keep b10)
  have B10 := Lib.hid (below_then B9.out b10)
  clear b10 M9 X9 B9 cv x0 x1
  obtain ⟨x0, x1⟩ := X10.out.use
  go_wp2_with fail
  refine (free_at _ _ _ _ _ _ _).mono ?_
  rintro e w11 ⟨rfl, b11⟩
  have M11 := Lib.hid (M10.out.keep b11)
  have X11 := Lib.hid (X10.out.keep b11)
  have B11 := Lib.hid (below_then B10.out b11)
  clear b11 M10 X10 B10 x0 x1
  go_wp2_with fail
  refine (mark_at _ _ _ _ _ _ _).mono ?_
  rintro e w12 ⟨rfl, b12⟩
  have M12 := Lib.hid (M11.out.keep b12)
  have X12 := Lib.hid (X11.out.keep b12)
  have B12 := Lib.hid (below_then B11.out b12)
  clear b12 M11 X11 B11
  obtain ⟨x0, x1⟩ := X12.out.use
  go_wp2_with fail
  refine (right_at _ _ _ _ _ _ sx _ X12.out.mem).mono ?_
  rw [s7.1]
  rintro e w13 ⟨rfl, b13⟩
  have M13 := Lib.hid (M12.out.keep b13)
  have X13 := Lib.hid (X12.out.keep b13)
  have B13 := Lib.hid (below_then B12.out b13)
  clear b13 M12 X12 B12 x0 x1
  go_wp2_with fail
  have hone : IsMem (w13.alloc (.cells #[.int .u8 1] 5)) (.agg #[.slice (some ⟨w13.heap.size, 0, none⟩) 1 1, .slice none 0 0]) ([1], []) :=
    mem_mk (byt_block (l := [1]) (t := 5) (one_new _ _ _) (by simp)) (pats_nil _)
  refine (right_at _ _ _ _ _ _ ([1], []) _ hone).mono ?_
  rw [s7.2.1]
  rintro e w14 ⟨rfl, b14⟩
  have b15 := al_then b14
  have M14 := Lib.hid (M13.out.keep b15)
  have X14 := Lib.hid (X13.out.keep b15)
  have B14 := Lib.hid (below_then B13.out b15)
  clear b14 b15 M13 X13 B13 hone
  obtain ⟨x0, x1⟩ := X14.out.use
  obtain ⟨m0, m1⟩ := M14.out.use
  go_wp2_with fail
  refine (same_at _ _ _ _ _ _ _ _ _ _ _ _ sx sm _ X14.out.mem M14.out.mem).mono ?_
  rw [s7.2.2.2]
  rintro e w15 ⟨rfl, b15⟩
  have B15 := Lib.hid (below_then B14.out b15)
  clear b15 M14 X14 B14 x0 x1 m0 m1
  go_wp2_with fail
  go_ret
  exact ⟨rfl, B15.out⟩
end Go.Proofs.Ytngmkbbeafefaaa
