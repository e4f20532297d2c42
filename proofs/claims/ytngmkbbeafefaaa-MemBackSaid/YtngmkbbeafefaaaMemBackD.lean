/- The contract of 'done': an act's writing. -/
import Derived.Test.YtngmkbbeafefaaaMemTextsA
import Derived.Test.YtngmkbbeafefaaaMemBackM
namespace Go.Proofs.Ytngmkbbeafefaaa
open Go.ChangeShapes Go.WideShapes Go.ChangeAt Go.RowKit Go.Joins Go.Deep
set_option linter.unusedVariables false
set_option linter.unusedSimpArgs false

theorem al_three (w : World) (o o' o'' : Obj) : Below w.heap.size w (((w.alloc o).alloc o').alloc o'') := below_then (al_one w o) (below_then (al_one _ o') (al_one _ o''))
theorem below_thr {w w1 : World} {o o' o'' : Obj} (b : Below (((w.alloc o).alloc o').alloc o'').heap.size (((w.alloc o).alloc o').alloc o'') w1) : Below w.heap.size w w1 :=
  below_then (al_one w o) (below_then (al_one _ o') (al_then b))
theorem box_three {w w1 : World} {o o' : Obj} {x y : Value} {t : TypeId} (b : Below (((w.alloc o).alloc o').alloc (.cells #[x, y] t)).heap.size (((w.alloc o).alloc o').alloc (.cells #[x, y] t)) w1) : Box w1 (w.heap.size + 1 + 1) x y t := by
  have h := box_new ((w.alloc o).alloc o') x y t
  rw [World.size_alloc, World.size_alloc] at h
  exact h.keep b

set_option maxRecDepth 100000 in
set_option maxHeartbeats 16000000 in
theorem done_0 (A P B : Option Addr) (L c K d nb cb : Nat) (m : PM) (bs : List UInt8) (k : Nat) (p t n : Int) (w : World) (HM : Hid (IsMem w (.agg #[.slice A L c, .slice P K d]) m)) (HU : Hid (Byt w (.slice B nb cb) bs)) (hL : L ≤ 8192) (hK : K < 1000) (hn : n ≤ 9223372036854775807) (hb : bs.length ≤ 65536) (hk : (k : Int) % 5 = 0) :
    Calls Try.prog 42 #[.agg #[.slice A L c, .slice P K d], .agg #[.int .u8 (k : Int), .int .i64 p, .int .i64 t, .int .i64 n, .slice B nb cb]] w fun e w' => ∃ A' L' c' P' K' d', e = .returned (.agg #[.slice A' L' c', .slice P' K' d']) ∧ IsMem w' (.agg #[.slice A' L' c', .slice P' K' d']) (storeF m p n) ∧ Below w.heap.size w w' := by
  obtain ⟨X, hX⟩ : ∃ X, storeF m p n = X := ⟨_, rfl⟩
  have HX := Lib.hid hX
  rw [HX.out]
  clear hX
  go_enter Try.func42, Try.ntmps42
  go_wp2_with fail
  refine (store_at _ _ _ _ _ _ m p n _ (Lib.hid (HM.out.keep (al_three _ _ _ _))) (by omega) (by omega)).mono ?_
  rw [HX.out]
  rintro e w1 ⟨A', L', c', P', K', d', rfl, hm, bb⟩
  have B1 := Lib.hid (below_thr bb)
  have M1 := Lib.hid hm
  have R1 := Lib.hid (box_three bb)
  clear bb hm
  obtain ⟨q2, q3, q4, q5⟩ := R1.out.use
  have lR := R1.out.lt
  go_wp2_with fail
  refine bodyPost_ret (v := .agg #[.slice A' L' c', .slice P' K' d']) ?_ rfl ?_
  · obtain ⟨r0, r1, _, _⟩ := ((R1.out.put (.slice A' L' c') (.slice P' K' d')).keep (al_one _ (.cells #[.slice A' L' c', .slice P' K' d'] 25))).use
    simp [results, Try.results42, go_sem, r0, r1]
  · exact ⟨_, _, _, _, _, _, rfl, (M1.out.row R1.out (row_put _ _ _ _)).keep (al_one _ _), below_then ((B1.out.setCell (by simp; omega) _).setCell (by simp; omega) _) (al_one _ _)⟩
set_option maxRecDepth 100000 in
set_option maxHeartbeats 16000000 in
theorem done_1 (A P B : Option Addr) (L c K d nb cb : Nat) (m : PM) (bs : List UInt8) (k : Nat) (p t n : Int) (w : World) (HM : Hid (IsMem w (.agg #[.slice A L c, .slice P K d]) m)) (HU : Hid (Byt w (.slice B nb cb) bs)) (hL : L ≤ 8192) (hK : K < 1000) (hn : n ≤ 9223372036854775807) (hb : bs.length ≤ 65536) (hk : (k : Int) % 5 = 1) :
    Calls Try.prog 42 #[.agg #[.slice A L c, .slice P K d], .agg #[.int .u8 (k : Int), .int .i64 p, .int .i64 t, .int .i64 n, .slice B nb cb]] w fun e w' => ∃ A' L' c' P' K' d', e = .returned (.agg #[.slice A' L' c', .slice P' K' d']) ∧ IsMem w' (.agg #[.slice A' L' c', .slice P' K' d']) (writeF m p [lowB n]) ∧ Below w.heap.size w w' := by
  obtain ⟨X, hX⟩ : ∃ X, writeF m p [lowB n] = X := ⟨_, rfl⟩
  have HX := Lib.hid hX
  rw [HX.out]
  clear hX
  go_enter Try.func42, Try.ntmps42
  go_wp2_with fail
  refine (storeByte_at _ _ _ _ _ _ m p n _ (Lib.hid (HM.out.keep (al_three _ _ _ _))) (by omega) (by omega)).mono ?_
  rw [HX.out]
  rintro e w1 ⟨A', L', c', P', K', d', rfl, hm, bb⟩
  have B1 := Lib.hid (below_thr bb)
  have M1 := Lib.hid hm
  have R1 := Lib.hid (box_three bb)
  clear bb hm
  obtain ⟨q2, q3, q4, q5⟩ := R1.out.use
  have lR := R1.out.lt
  go_wp2_with fail
  refine bodyPost_ret (v := .agg #[.slice A' L' c', .slice P' K' d']) ?_ rfl ?_
  · obtain ⟨r0, r1, _, _⟩ := ((R1.out.put (.slice A' L' c') (.slice P' K' d')).keep (al_one _ (.cells #[.slice A' L' c', .slice P' K' d'] 25))).use
    simp [results, Try.results42, go_sem, r0, r1]
  · exact ⟨_, _, _, _, _, _, rfl, (M1.out.row R1.out (row_put _ _ _ _)).keep (al_one _ _), below_then ((B1.out.setCell (by simp; omega) _).setCell (by simp; omega) _) (al_one _ _)⟩
set_option maxRecDepth 100000 in
set_option maxHeartbeats 16000000 in
theorem done_2 (A P B : Option Addr) (L c K d nb cb : Nat) (m : PM) (bs : List UInt8) (k : Nat) (p t n : Int) (w : World) (HM : Hid (IsMem w (.agg #[.slice A L c, .slice P K d]) m)) (HU : Hid (Byt w (.slice B nb cb) bs)) (hL : L ≤ 8192) (hK : K < 1000) (hn : n ≤ 9223372036854775807) (hb : bs.length ≤ 65536) (hk : (k : Int) % 5 = 2) :
    Calls Try.prog 42 #[.agg #[.slice A L c, .slice P K d], .agg #[.int .u8 (k : Int), .int .i64 p, .int .i64 t, .int .i64 n, .slice B nb cb]] w fun e w' => ∃ A' L' c' P' K' d', e = .returned (.agg #[.slice A' L' c', .slice P' K' d']) ∧ IsMem w' (.agg #[.slice A' L' c', .slice P' K' d']) (writeF m p bs) ∧ Below w.heap.size w w' := by
  obtain ⟨X, hX⟩ : ∃ X, writeF m p bs = X := ⟨_, rfl⟩
  have HX := Lib.hid hX
  rw [HX.out]
  clear hX
  go_enter Try.func42, Try.ntmps42
  go_wp2_with fail
  refine (write_sl _ _ m bs p _ (HM.out.keep (al_three _ _ _ _)) (HU.out.keep (al_three _ _ _ _)) (by have := HM.out.len1; omega) (by have := HM.out.len2; omega) hb).mono ?_
  rw [HX.out]
  rintro e w1 ⟨A', L', c', P', K', d', rfl, hm, bb⟩
  have B1 := Lib.hid (below_thr bb)
  have M1 := Lib.hid hm
  have R1 := Lib.hid (box_three bb)
  clear bb hm
  obtain ⟨q2, q3, q4, q5⟩ := R1.out.use
  have lR := R1.out.lt
  go_wp2_with fail
  refine bodyPost_ret (v := .agg #[.slice A' L' c', .slice P' K' d']) ?_ rfl ?_
  · obtain ⟨r0, r1, _, _⟩ := ((R1.out.put (.slice A' L' c') (.slice P' K' d')).keep (al_one _ (.cells #[.slice A' L' c', .slice P' K' d'] 25))).use
    simp [results, Try.results42, go_sem, r0, r1]
  · exact ⟨_, _, _, _, _, _, rfl, (M1.out.row R1.out (row_put _ _ _ _)).keep (al_one _ _), below_then ((B1.out.setCell (by simp; omega) _).setCell (by simp; omega) _) (al_one _ _)⟩
set_option maxRecDepth 100000 in
set_option maxHeartbeats 16000000 in
theorem done_3 (A P B : Option Addr) (L c K d nb cb : Nat) (m : PM) (bs : List UInt8) (k : Nat) (p t n : Int) (w : World) (HM : Hid (IsMem w (.agg #[.slice A L c, .slice P K d]) m)) (HU : Hid (Byt w (.slice B nb cb) bs)) (hL : L ≤ 8192) (hK : K < 1000) (hn : n ≤ 9223372036854775807) (hb : bs.length ≤ 65536) (hk : (k : Int) % 5 = 3) :
    Calls Try.prog 42 #[.agg #[.slice A L c, .slice P K d], .agg #[.int .u8 (k : Int), .int .i64 p, .int .i64 t, .int .i64 n, .slice B nb cb]] w fun e w' => ∃ A' L' c' P' K' d', e = .returned (.agg #[.slice A' L' c', .slice P' K' d']) ∧ IsMem w' (.agg #[.slice A' L' c', .slice P' K' d']) (fillF m p n t) ∧ Below w.heap.size w w' := by
  obtain ⟨X, hX⟩ : ∃ X, fillF m p n t = X := ⟨_, rfl⟩
  have HX := Lib.hid hX
  rw [HX.out]
  clear hX
  go_enter Try.func42, Try.ntmps42
  go_wp2_with fail
  refine (fill_at _ _ _ _ _ _ m p n t _ (Lib.hid (HM.out.keep (al_three _ _ _ _))) (by omega) (by omega) hn).mono ?_
  rw [HX.out]
  rintro e w1 ⟨A', L', c', P', K', d', rfl, hm, bb⟩
  have B1 := Lib.hid (below_thr bb)
  have M1 := Lib.hid hm
  have R1 := Lib.hid (box_three bb)
  clear bb hm
  obtain ⟨q2, q3, q4, q5⟩ := R1.out.use
  have lR := R1.out.lt
  go_wp2_with fail
  refine bodyPost_ret (v := .agg #[.slice A' L' c', .slice P' K' d']) ?_ rfl ?_
  · obtain ⟨r0, r1, _, _⟩ := ((R1.out.put (.slice A' L' c') (.slice P' K' d')).keep (al_one _ (.cells #[.slice A' L' c', .slice P' K' d'] 25))).use
    simp [results, Try.results42, go_sem, r0, r1]
  · exact ⟨_, _, _, _, _, _, rfl, (M1.out.row R1.out (row_put _ _ _ _)).keep (al_one _ _), below_then ((B1.out.setCell (by simp; omega) _).setCell (by simp; omega) _) (al_one _ _)⟩
set_option maxRecDepth 100000 in
set_option maxHeartbeats 16000000 in
theorem done_4 (A P B : Option Addr) (L c K d nb cb : Nat) (m : PM) (bs : List UInt8) (k : Nat) (p t n : Int) (w : World) (HM : Hid (IsMem w (.agg #[.slice A L c, .slice P K d]) m)) (HU : Hid (Byt w (.slice B nb cb) bs)) (hL : L ≤ 8192) (hK : K < 1000) (hn : n ≤ 9223372036854775807) (hb : bs.length ≤ 65536) (hk : (k : Int) % 5 = 4) :
    Calls Try.prog 42 #[.agg #[.slice A L c, .slice P K d], .agg #[.int .u8 (k : Int), .int .i64 p, .int .i64 t, .int .i64 n, .slice B nb cb]] w fun e w' => ∃ A' L' c' P' K' d', e = .returned (.agg #[.slice A' L' c', .slice P' K' d']) ∧ IsMem w' (.agg #[.slice A' L' c', .slice P' K' d']) (moveF m p t n) ∧ Below w.heap.size w w' := by
  obtain ⟨X, hX⟩ : ∃ X, moveF m p t n = X := ⟨_, rfl⟩
  have HX := Lib.hid hX
  rw [HX.out]
  clear hX
  go_enter Try.func42, Try.ntmps42
  go_wp2_with fail
  refine (move_at _ _ _ _ _ _ m p t n _ (Lib.hid (HM.out.keep (al_three _ _ _ _))) (by omega) (by omega) hn).mono ?_
  rw [HX.out]
  rintro e w1 ⟨A', L', c', P', K', d', rfl, hm, bb⟩
  have B1 := Lib.hid (below_thr bb)
  have M1 := Lib.hid hm
  have R1 := Lib.hid (box_three bb)
  clear bb hm
  obtain ⟨q2, q3, q4, q5⟩ := R1.out.use
  have lR := R1.out.lt
  go_wp2_with fail
  refine bodyPost_ret (v := .agg #[.slice A' L' c', .slice P' K' d']) ?_ rfl ?_
  · obtain ⟨r0, r1, _, _⟩ := ((R1.out.put (.slice A' L' c') (.slice P' K' d')).keep (al_one _ (.cells #[.slice A' L' c', .slice P' K' d'] 25))).use
    simp [results, Try.results42, go_sem, r0, r1]
  · exact ⟨_, _, _, _, _, _, rfl, (M1.out.row R1.out (row_put _ _ _ _)).keep (al_one _ _), below_then ((B1.out.setCell (by simp; omega) _).setCell (by simp; omega) _) (al_one _ _)⟩
theorem done_at (A P B : Option Addr) (L c K d nb cb : Nat) (m : PM) (bs : List UInt8) (k : Nat) (p t n : Int) (w : World) (HM : Hid (IsMem w (.agg #[.slice A L c, .slice P K d]) m)) (HU : Hid (Byt w (.slice B nb cb) bs)) (hL : L ≤ 8192) (hK : K < 1000) (hn : n ≤ 9223372036854775807) (hb : bs.length ≤ 65536) :
    Calls Try.prog 42 #[.agg #[.slice A L c, .slice P K d], .agg #[.int .u8 (k : Int), .int .i64 p, .int .i64 t, .int .i64 n, .slice B nb cb]] w fun e w' => ∃ A' L' c' P' K' d', e = .returned (.agg #[.slice A' L' c', .slice P' K' d']) ∧ IsMem w' (.agg #[.slice A' L' c', .slice P' K' d']) (doneF m ((k : Int), p, t, n, bs)) ∧ Below w.heap.size w w' := by
  have hc : (k : Int) % 5 = 0 ∨ (k : Int) % 5 = 1 ∨ (k : Int) % 5 = 2 ∨ (k : Int) % 5 = 3 ∨ (k : Int) % 5 = 4 := by omega
  rcases hc with h | h | h | h | h
  · have e : doneF m ((k : Int), p, t, n, bs) = storeF m p n := by unfold doneF; simp [h]
    rw [e]
    exact done_0 A P B L c K d nb cb m bs k p t n w HM HU hL hK hn hb h
  · have e : doneF m ((k : Int), p, t, n, bs) = writeF m p [lowB n] := by unfold doneF; simp [h]
    rw [e]
    exact done_1 A P B L c K d nb cb m bs k p t n w HM HU hL hK hn hb h
  · have e : doneF m ((k : Int), p, t, n, bs) = writeF m p bs := by unfold doneF; simp [h]
    rw [e]
    exact done_2 A P B L c K d nb cb m bs k p t n w HM HU hL hK hn hb h
  · have e : doneF m ((k : Int), p, t, n, bs) = fillF m p n t := by unfold doneF; simp [h]
    rw [e]
    exact done_3 A P B L c K d nb cb m bs k p t n w HM HU hL hK hn hb h
  · have e : doneF m ((k : Int), p, t, n, bs) = moveF m p t n := by unfold doneF; simp [h]
    rw [e]
    exact done_4 A P B L c K d nb cb m bs k p t n w HM HU hL hK hn hb h

theorem At.put {b : Nat} {A P A2 P2 : Option Addr} {L c K d L2 c2 K2 d2 : Nat} {m x : PM} {w : World} (h : At b A P L c K d m w) (hm : IsMem w (.agg #[.slice A2 L2 c2, .slice P2 K2 d2]) x) : At b A2 P2 L2 c2 K2 d2 x ((w.setCell ⟨b, 0, none⟩ (.slice A2 L2 c2)).setCell ⟨b, 1, none⟩ (.slice P2 K2 d2)) :=
  ⟨h.1.put _ _, hm.row h.1 (row_put _ _ _ _)⟩
theorem At.far {b b' : Nat} {A P A2 P2 : Option Addr} {L c K d L2 c2 K2 d2 : Nat} {m : PM} {w : World} {t : TypeId} (h : At b A P L c K d m w) (k : Box w b' (.slice A2 L2 c2) (.slice P2 K2 d2) t) (hb : b ≠ b') (u v : Value) : At b A P L c K d m ((w.setCell ⟨b', 0, none⟩ u).setCell ⟨b', 1, none⟩ v) :=
  ⟨h.1.row (row_put _ _ _ _) hb, h.2.row k (row_put _ _ _ _)⟩
theorem box_drew (w : World) (x y : Value) (t : TypeId) : Box (w.alloc (.cells #[x, y] t)).drew w.heap.size x y t := box_new w x y t
theorem At.all {b : Nat} {A P : Option Addr} {L c K d : Nat} {m : PM} {w : World} (h : At b A P L c K d m w) : w.cell? ⟨b, 0, none⟩ = some (.slice A L c) ∧ w.cell? ⟨b, 1, none⟩ = some (.slice P K d) ∧ w.frozen? ⟨b, 0, none⟩ = false ∧ w.frozen? ⟨b, 1, none⟩ = false := h.1.use
end Go.Proofs.Ytngmkbbeafefaaa
