/- Part 3. -/
import Derived.Test.YtlgnijhemfkflaaGreatDoorSetPrimDividesZero
import Derived.Test.YtlgnijhemfkflaaGreatDoorSetPrimDividesB
import Derived.Maps.AppendAt
import Derived.Deep.AppendLies
import Derived.LoopN
import Derived.Deep.RegionHeld3
import Derived.Shelf.Bits.Mul64
import Derived.Test.YtlgnijhemfkflaaGreatDoorProg
set_option linter.unusedVariables false
set_option linter.unusedSimpArgs false

namespace Go.Proofs.YtlgnijhemfkflaaGreatDoor
open Go.RowKit
set_option linter.unusedVariables false
set_option linter.unusedSimpArgs false
def Box (w : World) (b : Nat) (x y : Value) (t : TypeId) : Prop := w.heap[b]? = some (.cells #[x, y] t (0, 0))
theorem Box.lt {w : World} {b : Nat} {x y : Value} {t : TypeId} (h : Box w b x y t) : b < w.heap.size := (Array.getElem?_eq_some_iff.1 h).1
theorem Box.keep {w w' : World} {b : Nat} {x y : Value} {t : TypeId} (h : Box w b x y t) (k : Below w.heap.size w w') : Box w' b x y t := (k.block b h.lt).trans h
theorem Box.row {w w' : World} {b g : Nat} {x y : Value} {t : TypeId} (h : Box w b x y t) (k : RowSet g w w') (hb : b ≠ g) : Box w' b x y t := (k.other b hb).trans h
theorem Box.use {w : World} {b : Nat} {x y : Value} {t : TypeId} (h : Box w b x y t) : w.cell? ⟨b, 0, none⟩ = some x ∧ w.cell? ⟨b, 1, none⟩ = some y ∧ w.frozen? ⟨b, 0, none⟩ = false ∧ w.frozen? ⟨b, 1, none⟩ = false := by
  unfold Box at h;refine ⟨?_, ?_, ?_, ?_⟩ <;> simp [World.cell?, World.frozen?, h]
theorem box_new (w : World) (x y : Value) (t : TypeId) : Box (w.alloc (.cells #[x, y] t)) w.heap.size x y t := one_new w _ t
theorem box_two (w : World) (x y x' y' : Value) (t t' : TypeId) : Box ((w.alloc (.cells #[x, y] t)).alloc (.cells #[x', y'] t')) w.heap.size x y t ∧ Box ((w.alloc (.cells #[x, y] t)).alloc (.cells #[x', y'] t')) (w.heap.size + 1) x' y' t' :=
  ⟨(two_new w _ _ _ _).2, (two_new w _ _ _ _).1⟩
theorem below_two {w w1 : World} {o o' : Obj} (b : Below ((w.alloc o).alloc o').heap.size ((w.alloc o).alloc o') w1) : Below w.heap.size w w1 :=
  (((Below.refl _ w).alloc (Nat.le_refl _) o).alloc (by simp) o').trans (b.mono (by simp; omega))
theorem Box.put {w : World} {b : Nat} {x y : Value} {t : TypeId} (h : Box w b x y t) (x' y' : Value) : Box ((w.setCell ⟨b, 0, none⟩ x').setCell ⟨b, 1, none⟩ y') b x' y' t := by
  have h1 : (w.setCell ⟨b, 0, none⟩ x').heap[b]? = some (.cells (#[x, y].setIfInBounds 0 x') t (0, 0)) := Go.Joins.block_setCell h x';have h2 := Go.Joins.block_setCell (i := 1) h1 y';simpa [Box] using h2
theorem Box.got {w : World} {b : Nat} {x y : Value} {t : TypeId} (h : Box w b x y t) (x' y' : Value) : (w.setCell ⟨b, 0, none⟩ x').cell? ⟨b, 0, none⟩ = some x' ∧ ((w.setCell ⟨b, 0, none⟩ x').setCell ⟨b, 1, none⟩ y').cell? ⟨b, 1, none⟩ = some y' := by
  constructor
  · have h1 : (w.setCell ⟨b, 0, none⟩ x').heap[b]? = some (.cells (#[x, y].setIfInBounds 0 x') t (0, 0)) := Go.Joins.block_setCell h x'
    simp [World.cell?, h1]
  · exact (h.put x' y').use.2.1
theorem Byt.len {w : World} {A : Option Addr} {n c : Nat} {l : List UInt8} (h : Byt w (.slice A n c) l) : l.length = n := by
  obtain ⟨A', c', e, _⟩ := h;injection e with _ e _
  exact e.symm
theorem Byt.lies {w : World} {A : Option Addr} {n c : Nat} {l : List UInt8} (h : Byt w (.slice A n c) l) : Lies w A (u8s l) := by
  obtain ⟨A', c', e, _, _, hl⟩ := h;injection e with e _ _
  subst e;exact hl
theorem Byt.form {w : World} {u : Value} {l : List UInt8} (h : Byt w u l) : ∃ A c, u = .slice A l.length c := by
  obtain ⟨A, c, e, _⟩ := h;exact ⟨A, c, e⟩
theorem IsMem.byt {w : World} {x y : Value} {m : PM} (h : IsMem w (.agg #[x, y]) m) : Byt w x m.1 := by
  obtain ⟨x', y', e, hb, _⟩ := h;injection e with e
  simp at e;rw [e.1];exact hb
theorem IsMem.pats {w : World} {x y : Value} {m : PM} (h : IsMem w (.agg #[x, y]) m) : Pats w y m.2 := by
  obtain ⟨x', y', e, _, hb⟩ := h;injection e with e
  simp at e;rw [e.2];exact hb
theorem IsMem.len1 {w : World} {A : Option Addr} {L c : Nat} {y : Value} {m : PM} (h : IsMem w (.agg #[.slice A L c, y]) m) : m.1.length = L := h.byt.len
theorem IsMem.len2 {w : World} {P : Option Addr} {K d : Nat} {x : Value} {m : PM} (h : IsMem w (.agg #[x, .slice P K d]) m) : m.2.length = K := by
  obtain ⟨A', c', qs, e, _⟩ := h.pats;injection e with _ e _
  exact e.symm
theorem IsMem.patq {w : World} {P : Option Addr} {K d : Nat} {x : Value} {m : PM} (h : IsMem w (.agg #[x, .slice P K d]) m) : ∃ qs : List Qt, Hid (qs.length = K) ∧ Lies w P (pc qs) ∧ Tells w qs m.2 := by
  have e2 := h.len2;obtain ⟨A', c', qs, e, _, _, hl, ht⟩ := h.pats;injection e with e _ _
  subst e;exact ⟨qs, ht.1.trans e2, hl, ht⟩
theorem mem_mk {w : World} {x y : Value} {m : PM} (h : Byt w x m.1) (k : Pats w y m.2) : IsMem w (.agg #[x, y]) m := ⟨x, y, rfl, h, k⟩
theorem text_at (A P : Option Addr) (L c K d : Nat) (m : PM) (p n : Int) (w : World) (h : IsMem w (.agg #[.slice A L c, .slice P K d]) m) (hL : L ≤ 65536) (hn : n ≤ 9223372036854775807) :
    Calls Tryz.prog 224 #[.agg #[.slice A L c, .slice P K d], .int .i64 p, .int .i64 n] w fun e w' => ∃ B k e', e = .returned (.tuple #[.slice B k e', .int .i64 (codeF (okB L p n))]) ∧ Byt w' (.slice B k e') (textF m p n) ∧ Below w.heap.size w w' := by
  have e1 := h.len1;have c := text_any _ m p n w h (by omega) hn;rw [e1] at c;refine c.mono fun e w' ⟨u, he, hu, hb⟩ => ?_
  obtain ⟨B, k, rfl⟩ := hu.form;exact ⟨B, _, k, he, hu, hb⟩
theorem Box.two {w : World} {b : Nat} {A P : Option Addr} {n c k d : Nat} {t : TypeId} (h : Box w b (.slice A n c) (.slice P k d) t) {o : Nat} {v : Value} (hc : w.cell? ⟨b, o, none⟩ = some v) : ∃ A n c, v = .slice A n c := by
  unfold Box at h;simp [World.cell?, h] at hc
  match o, hc with
  | 0, hc => simp at hc; exact ⟨_, _, _, hc.symm⟩
  | 1, hc => simp at hc; exact ⟨_, _, _, hc.symm⟩
  | o + 2, hc => simp at hc
theorem Lies.row {w w' : World} {b : Nat} {A P A' : Option Addr} {n c k d : Nat} {t : TypeId} {xs : List Value} (h : Lies w A' xs) (hb : Box w b (.slice A n c) (.slice P k d) t) (rs : RowSet b w w') (hi : ∀ v r, xs = v :: r → ∃ q i, v = .int q i) : Lies w' A' xs := by
  rcases h with h | ⟨g, o, e, hg, hc⟩
  · exact .inl h
  · match xs, hi, hc with
    | [], _, _ => exact .inl rfl
    | v :: r, hi, hc =>
      have hne : g ≠ b := by
        intro e;subst e;obtain ⟨q, i, rfl⟩ := hi v r rfl;obtain ⟨_, _, _, hv⟩ := hb.two (hc 0 _ rfl);cases hv
      exact .inr ⟨g, o, e, by rw [rs.size]; exact hg, fun j v hv => (rs.cell hne).trans (hc j v hv)⟩
theorem u8s_head (l : List UInt8) : ∀ v r, u8s l = v :: r → ∃ q i, v = Value.int q i := by
  intro v r h;cases l with
  | nil => simp [u8s] at h
  | cons x l => simp [u8s] at h; exact ⟨_, _, h.1.symm⟩
theorem pc_head (qs : List Qt) : ∀ v r, pc qs = v :: r → ∃ q i, v = Value.int q i := by
  intro v r h;cases qs with
  | nil => simp [pc] at h
  | cons x l => rw [pc_cons] at h; injection h with h _; exact ⟨_, _, h.symm⟩
theorem Byt.row {w w' : World} {b : Nat} {A P : Option Addr} {n c k d : Nat} {t : TypeId} {v : Value} {l : List UInt8} (h : Byt w v l) (hb : Box w b (.slice A n c) (.slice P k d) t) (rs : RowSet b w w') : Byt w' v l := by
  obtain ⟨A', c', h1, h2, h3, h4⟩ := h;exact ⟨A', c', h1, h2, h3, h4.row hb rs (u8s_head l)⟩
theorem Tells.row {w w' : World} {b : Nat} {A P : Option Addr} {n c k d : Nat} {t : TypeId} {qs : List Qt} {ps : List Pt} (h : Tells w qs ps) (hb : Box w b (.slice A n c) (.slice P k d) t) (rs : RowSet b w w') : Tells w' qs ps :=
  ⟨h.1, fun i q p hq hp => ⟨(h.2 i q p hq hp).1, (h.2 i q p hq hp).2.row hb rs⟩⟩
theorem IsMem.row {w w' : World} {b : Nat} {A P : Option Addr} {n c k d : Nat} {t : TypeId} {v : Value} {m : PM} (h : IsMem w v m) (hb : Box w b (.slice A n c) (.slice P k d) t) (rs : RowSet b w w') : IsMem w' v m := by
  obtain ⟨x, y, h1, h2, A', c', qs, e, h3, h4, h5, h6⟩ := h;exact ⟨x, y, h1, h2.row hb rs, A', c', qs, e, h3, h4, h5.row hb rs (pc_head qs), h6.row hb rs⟩
theorem row_put (w : World) (b : Nat) (x y : Value) : RowSet b w ((w.setCell ⟨b, 0, none⟩ x).setCell ⟨b, 1, none⟩ y) :=
  ⟨rfl, rfl, rfl, by simp [World.setCell], fun k hk => (Below.heap_setCell _ _ _ k hk).trans (Below.heap_setCell _ _ _ k hk)⟩
set_option maxRecDepth 100000 in
set_option maxHeartbeats 1000000 in
theorem write_no (A P A2 : Option Addr) (L c K d n c2 : Nat) (m : PM) (p : Int) (w : World) (HM : Hid (IsMem w (.agg #[.slice A L c, .slice P K d]) m)) (hL : L ≤ 65536) (hn : n ≤ 65536) (hno : okB L p n = false ∨ n = 0) :
    Calls Tryz.prog 219 #[.agg #[.slice A L c, .slice P K d], .int .i64 p, .slice A2 n c2] w fun e w' => e = .returned (.tuple #[.agg #[.slice A L c, .slice P K d], .int .i64 (codeF (okB L p n))]) ∧ Below w.heap.size w w' := by
  cases ok : okB L p n with
  | false =>
    clear hno;go_enter Tryz.func219, Tryz.ntmps219;(go_wp2_with fail);refine (text_at _ _ _ _ _ _ m _ _ _ (HM.out.keep (((Below.refl _ w).alloc (Nat.le_refl _) _).alloc (by simp) _)) hL (by omega)).mono ?_;rw [ok, codeF_no];rintro e w1 ⟨B, k, e', rfl, hu1, b1⟩;obtain ⟨k0, k1⟩ := box_two w (.slice A L c) (.slice P K d) (.slice none 0 0) (.slice none 0 0) 27 27;obtain ⟨q0, q1, _, _⟩ := (k0.keep b1).use;obtain ⟨q2, q3, q4, q5⟩ := (k1.keep b1).use;have HG := Lib.hid ((k1.keep b1).got (.slice A L c) (.slice P K d));have HB := Lib.hid (below_two b1);clear k0 k1 b1 hu1;(go_wp2_with fail);refine bodyPost_ret (v := .tuple #[.agg #[.slice A L c, .slice P K d], .int .i64 (-9)]) ?_ rfl ?_
    · obtain ⟨r0, r1⟩ := HG.out
      simp [results, Tryz.results219, go_sem, r0, r1]
    · exact ⟨rfl, (HB.out.setCell (by simp) _).setCell (by simp) _⟩
  | true =>
    have h0 : n = 0 := hno.resolve_left (by simp [ok]);subst h0;clear hno;go_enter Tryz.func219, Tryz.ntmps219;(go_wp2_with fail);refine (text_at _ _ _ _ _ _ m _ _ _ (HM.out.keep (((Below.refl _ w).alloc (Nat.le_refl _) _).alloc (by simp) _)) hL (by omega)).mono ?_;rw [show okB L p 0 = true from ok, codeF_yes];rintro e w1 ⟨B, k, e', rfl, hu1, b1⟩;obtain ⟨k0, k1⟩ := box_two w (.slice A L c) (.slice P K d) (.slice none 0 0) (.slice none 0 0) 27 27;obtain ⟨q0, q1, _, _⟩ := (k0.keep b1).use;obtain ⟨q2, q3, q4, q5⟩ := (k1.keep b1).use;have HG := Lib.hid ((k1.keep b1).got (.slice A L c) (.slice P K d));have HB := Lib.hid (below_two b1);clear k0 k1 b1 hu1;(go_wp2_with fail);refine bodyPost_ret (v := .tuple #[.agg #[.slice A L c, .slice P K d], .int .i64 0]) ?_ rfl ?_
    · obtain ⟨r0, r1⟩ := HG.out
      simp [results, Tryz.results219, go_sem, r0, r1]
    · exact ⟨rfl, (HB.out.setCell (by simp) _).setCell (by simp) _⟩
end Go.Proofs.YtlgnijhemfkflaaGreatDoor

namespace Go.Proofs.YtlgnijhemfkflaaGreatDoor
open Go.RowKit
set_option linter.unusedVariables false
set_option linter.unusedSimpArgs false
theorem cellC_no {L : Nat} {p : Int} (h : okB L p 8 = false) : cellC L p = -9 := by unfold cellC; rw [h]; rfl
theorem cellC_align {L : Nat} {p : Int} (h : okB L p 8 = true) (h8 : p % 8 ≠ 0) : cellC L p = -23 := by unfold cellC; rw [if_pos h, if_neg h8]
theorem cellC_ok {L : Nat} {p : Int} (h : okB L p 8 = true) (h8 : p % 8 = 0) : cellC L p = 0 := by unfold cellC; rw [if_pos h, if_pos h8]
set_option maxRecDepth 100000 in
set_option maxHeartbeats 1000000 in
theorem cellCode_any (A P : Option Addr) (L c K d : Nat) (p : Int) (w : World) (hL : L ≤ 65536) :
    Calls Tryz.prog 216 #[.agg #[.slice A L c, .slice P K d], .int .i64 p] w fun e w' => e = .returned (.int .i64 (cellC L p)) ∧ Below w.heap.size w w' := by
  cases ok : okB L p 8 with
  | false =>
    have H := Lib.hid (cellC_no ok);go_enter Tryz.func216, Tryz.ntmps216;(go_wp2_with (go_at_call 221; (with_reducible refine (there_any _ _ _ _ _ _ _ _ _ (by omega) (by omega)).mono ?_); rintro e w1 ⟨rfl, b1⟩));go_ret;exact ⟨ret_int H.out.symm, box_below b1⟩
  | true =>
    have hok := (okB_iff _ _ _).1 ok;have h0 : 0 ≤ p := by omega
    by_cases h8 : p % 8 = 0
    · have H := Lib.hid (cellC_ok ok h8)
      have h8' : (p % 8 != 0) = false := by simp [h8]
      clear h8 hok;go_enter Tryz.func216, Tryz.ntmps216;(go_wp2_with (go_at_call 221; (with_reducible refine (there_any _ _ _ _ _ _ _ _ _ (by omega) (by omega)).mono ?_); rintro e w1 ⟨rfl, b1⟩));go_ret;exact ⟨ret_int H.out.symm, box_below b1⟩
    · have H := Lib.hid (cellC_align ok h8)
      have h8' : (p % 8 != 0) = true := by simp [h8]
      clear h8 hok;go_enter Tryz.func216, Tryz.ntmps216;(go_wp2_with (go_at_call 221; (with_reducible refine (there_any _ _ _ _ _ _ _ _ _ (by omega) (by omega)).mono ?_); rintro e w1 ⟨rfl, b1⟩));go_ret;exact ⟨ret_int H.out.symm, box_below b1⟩
def byteF (m : PM) (p : Int) : Int := if okB m.1.length p 1 = true then ((m.1.getD p.toNat 0).toNat : Int) else 0
theorem byteF_no {m : PM} {p : Int} (h : okB m.1.length p 1 = false) : byteF m p = 0 := by unfold byteF; rw [h]; rfl
theorem mem_cell {w : World} {A : Option Addr} {L c : Nat} {y : Value} {m : PM} (h : IsMem w (.agg #[.slice A L c, y]) m) {q : Nat} (hq : q < L) : ∃ g o, A = some ⟨g, o, none⟩ ∧ g < w.heap.size ∧ w.cell? ⟨g, o + q, none⟩ = some (.int .u8 ((m.1.getD q 0).toNat : Int)) ∧ L ≤ c := by
  have hl := h.len1;have hb := h.byt;have hlies := hb.lies;have hc : L ≤ c := by
    obtain ⟨A', c', e, h2, _⟩ := hb;injection e with _ _ e
    omega
  rcases hlies with e | ⟨g, o, e, hg, hcell⟩
  · have := congrArg List.length e
    rw [u8s_len, hl] at this;simp at this;omega
  · refine ⟨g, o, e, hg, hcell q _ ?_, hc⟩
    rw [u8s_at (by omega)];simp [List.getD, List.getElem?_eq_getElem (by omega : q < m.1.length)]
set_option maxRecDepth 100000 in
set_option maxHeartbeats 1000000 in
theorem fetchByte_at (A P : Option Addr) (L c K d : Nat) (m : PM) (p : Int) (w : World) (HM : Hid (IsMem w (.agg #[.slice A L c, .slice P K d]) m)) (hL : L ≤ 65536) :
    Calls Tryz.prog 107 #[.agg #[.slice A L c, .slice P K d], .int .i64 p] w fun e w' => e = .returned (.tuple #[.int .i64 (byteF m p), .int .i64 (codeF (okB L p 1))]) ∧ Below w.heap.size w w' := by
  cases ok : okB L p 1 with
  | false =>
    have H : Hid (byteF m p = 0) := byteF_no (by rw [HM.out.len1]; exact ok);rw [H.out, codeF_no];go_enter Tryz.func107, Tryz.ntmps107;(go_wp2_with (go_at_call 221; (with_reducible refine (there_any _ _ _ _ _ _ _ _ _ (by omega) (by omega)).mono ?_); rintro e w1 ⟨rfl, b1⟩));go_ret2;exact ⟨rfl, box_below b1⟩
  | true =>
    have hok := (okB_iff _ _ _).1 ok;obtain ⟨q, rfl⟩ := Int.eq_ofNat_of_zero_le (by omega : 0 ≤ p);have hq : q < L := by omega
    obtain ⟨g, o, rfl, hg, hc, hLc⟩ := mem_cell HM.out hq;obtain ⟨x, hx⟩ : ∃ x : UInt8, x = m.1.getD q 0 := ⟨_, rfl⟩;rw [← hx] at hc;have H : Hid (byteF m q = (x.toNat : Int)) := by unfold byteF; rw [if_pos (by rw [HM.out.len1]; exact ok), hx]; simp [Hid]
    rw [H.out, codeF_yes];have hx2 := x.toNat_lt;clear hx hok;go_enter Tryz.func107, Tryz.ntmps107;(go_wp2_with fail);refine (there_any _ _ _ _ _ _ _ _ _ (by omega) (by omega)).mono ?_;rw [ok];rintro e w1 ⟨rfl, b1⟩;obtain ⟨k0, k1⟩ := box_cells b1;have hb1 := box_below b1;have hc1 : w1.cell? ⟨g, o + q, none⟩ = some (.int .u8 (x.toNat : Int)) := (hb1.cell (p := ⟨g, o + q, none⟩) hg).trans hc;have HB := Lib.hid hb1;clear b1 hb1 hc;(go_wp2_with fail);go_ret2;exact ⟨rfl, HB.out⟩
end Go.Proofs.YtlgnijhemfkflaaGreatDoor

namespace Go.Proofs.YtlgnijhemfkflaaGreatDoor
open Go.RowKit
set_option linter.unusedVariables false
set_option linter.unusedSimpArgs false
theorem own_byt {w : World} {base n : Nat} {v : Value} {l : List UInt8} (h : w.ownsRow base 5 1 v n (u8s l)) : Byt w v l := by
  have hl := h.1;rw [u8s_len, Nat.mul_one] at hl;subst hl
  rcases h.2 with ⟨rfl, h0⟩ | ⟨g, cap, cur, rfl, _, hg, hnc, hcm, _, ht⟩
  · have : l = [] := List.eq_nil_of_length_eq_zero h0
    subst this;exact byt_nil w
  · refine ⟨some ⟨g, 0, none⟩, cap, rfl, hnc, hcm, .inr ⟨g, 0, rfl, (Array.getElem?_eq_some_iff.1 hg).1, fun j x hx => ?_⟩⟩
    rw [← ht, List.getElem?_take] at hx
    split at hx
    · rw [Nat.zero_add]
      simp [World.cell?, hg];simpa using hx
    · cases hx
theorem own_from {w : World} {base e size n : Nat} {v : Value} {xs : List Value} (h : w.ownsRow base e size v n xs) : ∀ k, v.ownBlock = some k → base ≤ k := fun k hk => (h.lt k hk).1
end Go.Proofs.YtlgnijhemfkflaaGreatDoor

namespace Go.Proofs.YtlgnijhemfkflaaGreatDoor
open Go.RowKit
set_option linter.unusedVariables false
set_option linter.unusedSimpArgs false
def bytesTo (U k : Nat) : List Value := (List.range k).map fun i => Value.int .u8 (byteOf U i : Int)
theorem bytesTo_eight (U : Nat) : bytesTo U 8 = [.int .u8 (byteOf U 0 : Int), .int .u8 (byteOf U 1 : Int), .int .u8 (byteOf U 2 : Int), .int .u8 (byteOf U 3 : Int), .int .u8 (byteOf U 4 : Int), .int .u8 (byteOf U 5 : Int), .int .u8 (byteOf U 6 : Int), .int .u8 (byteOf U 7 : Int)] := rfl
def cellBytes (n : Int) : List UInt8 := [UInt8.ofNat (byteOf (un n) 0), UInt8.ofNat (byteOf (un n) 1), UInt8.ofNat (byteOf (un n) 2), UInt8.ofNat (byteOf (un n) 3), UInt8.ofNat (byteOf (un n) 4), UInt8.ofNat (byteOf (un n) 5), UInt8.ofNat (byteOf (un n) 6), UInt8.ofNat (byteOf (un n) 7)]
theorem cellBytes_len (n : Int) : (cellBytes n).length = 8 := rfl
theorem u8_byte (n i : Nat) : (UInt8.ofNat (byteOf n i)).toNat = byteOf n i := by
  rw [UInt8.toNat_ofNat'];exact Nat.mod_eq_of_lt (byteOf_lt _ _)
theorem cellBytes_u8 (n : Int) : u8s (cellBytes n) = bytesTo (un n) 8 := by
  rw [bytesTo_eight];simp only [u8s, cellBytes, List.map_cons, List.map_nil, u8_byte]
theorem put_byt (n : Int) (w : World) : Calls Tryz.prog 220 #[.int .i64 n] w fun e w' => ∃ B k c, e = .returned (.slice B k c) ∧ Byt w' (.slice B k c) (cellBytes n) ∧ Below w.heap.size w w' := by
  refine (put_any n w).mono fun e w' ⟨g, he, _, hh, hb⟩ => ⟨_, _, _, he, ?_, hb⟩
  refine byt_block (l := cellBytes n) (t := 5) ?_ (by rw [cellBytes_len]; omega);rw [cellBytes_u8, bytesTo_eight];exact hh
def bn (m : PM) (k : Nat) : Nat := (m.1.getD k 0).toNat
theorem bn_lt (m : PM) (k : Nat) : bn m k < 256 := UInt8.toNat_lt _
def fetchF (m : PM) (p : Int) : Int := if cellC m.1.length p = 0 then wrap64 (eight (bn m p.toNat) (bn m (p.toNat + 1)) (bn m (p.toNat + 2)) (bn m (p.toNat + 3)) (bn m (p.toNat + 4)) (bn m (p.toNat + 5)) (bn m (p.toNat + 6)) (bn m (p.toNat + 7)) : Int) else 0
theorem mem_cells {w : World} {A : Option Addr} {L c : Nat} {y : Value} {m : PM} (h : IsMem w (.agg #[.slice A L c, y]) m) (hL : 0 < L) : ∃ g o, A = some ⟨g, o, none⟩ ∧ g < w.heap.size ∧ L ≤ c ∧ ∀ q, q < L → w.cell? ⟨g, o + q, none⟩ = some (.int .u8 (bn m q : Int)) := by
  obtain ⟨g, o, rfl, hg, _, hc⟩ := mem_cell h hL;refine ⟨g, o, rfl, hg, hc, fun q hq => ?_⟩;obtain ⟨g', o', e, _, hc', _⟩ := mem_cell h hq;injection e with e
  injection e with e1 e2
  subst e1 e2;exact hc'
set_option maxRecDepth 100000 in
set_option maxHeartbeats 1000000 in
theorem fetch_at (A P : Option Addr) (L c K d : Nat) (m : PM) (p : Int) (w : World) (HM : Hid (IsMem w (.agg #[.slice A L c, .slice P K d]) m)) (hL : L ≤ 65536) :
    Calls Tryz.prog 101 #[.agg #[.slice A L c, .slice P K d], .int .i64 p] w fun e w' => e = .returned (.tuple #[.int .i64 (fetchF m p), .int .i64 (cellC L p)]) ∧ Below w.heap.size w w' := by
  obtain ⟨C, hC⟩ : ∃ C, cellC L p = C := ⟨_, rfl⟩
  by_cases h0 : C = 0
  · subst h0
    have ok : okB L p 8 = true := by
      cases e : okB L p 8 with
      | true => rfl
      | false => rw [cellC_no e] at hC; cases hC
    have hok := (okB_iff _ _ _).1 ok;obtain ⟨q, rfl⟩ := Int.eq_ofNat_of_zero_le (by omega : 0 ≤ p);have hq : q + 8 ≤ L := by omega
    obtain ⟨g, o, rfl, hg, hLc, hcl⟩ := mem_cells HM.out (by omega);have HF : Hid (fetchF m q = wrap64 (eight (bn m q) (bn m (q + 1)) (bn m (q + 2)) (bn m (q + 3)) (bn m (q + 4)) (bn m (q + 5)) (bn m (q + 6)) (bn m (q + 7)) : Int)) := by unfold fetchF; rw [if_pos (by rw [HM.out.len1]; exact hC)]; rfl
    have HC := Lib.hid hC;have hne : c ≠ q := by omega
    have HCL := Lib.hid hcl;clear hC hok ok hcl;go_enter Tryz.func101, Tryz.ntmps101;(go_wp2_with fail);refine (cellCode_any _ _ _ _ _ _ _ _ hL).mono ?_;rw [HC.out];rintro e w1 ⟨rfl, b1⟩;obtain ⟨k0, k1⟩ := box_cells b1;have HB := Lib.hid (box_below b1);clear b1;(go_wp2_with fail);refine (get_yes ⟨g, o + q, none⟩ _ (bn m q) (bn m (q + 1)) (bn m (q + 2)) (bn m (q + 3)) (bn m (q + 4)) (bn m (q + 5)) (bn m (q + 6)) (bn m (q + 7)) _ (Nat.lt_of_lt_of_le hg HB.out.size) (bn_lt _ _) (bn_lt _ _) (bn_lt _ _) (bn_lt _ _) (bn_lt _ _) (bn_lt _ _) (bn_lt _ _) (bn_lt _ _) (Lib.hid ?_)).mono ?_
    · intro j v hv
      rw [add_at, HB.out.cell (p := ⟨g, o + q + j, none⟩) hg]
      match j, hv with
      | 0, hv => simp at hv; rw [← hv]; exact HCL.out q (by omega)
      | 1, hv => simp at hv; rw [← hv]; exact HCL.out (q + 1) (by omega)
      | 2, hv => simp at hv; rw [← hv]; exact HCL.out (q + 2) (by omega)
      | 3, hv => simp at hv; rw [← hv]; exact HCL.out (q + 3) (by omega)
      | 4, hv => simp at hv; rw [← hv]; exact HCL.out (q + 4) (by omega)
      | 5, hv => simp at hv; rw [← hv]; exact HCL.out (q + 5) (by omega)
      | 6, hv => simp at hv; rw [← hv]; exact HCL.out (q + 6) (by omega)
      | 7, hv => simp at hv; rw [← hv]; exact HCL.out (q + 7) (by omega)
      | j + 8, hv => simp at hv
    rw [← HF.out];rintro e w2 ⟨rfl, b2⟩;have HB2 := Lib.hid b2;clear b2;(go_wp2_with fail);go_ret2;exact ⟨by rw [HC.out]; rfl, below_then HB.out HB2.out⟩
  · have hF : fetchF m p = 0 := by unfold fetchF; rw [if_neg (by rw [HM.out.len1, hC]; exact h0)]
    rw [hF, hC];have HC := Lib.hid hC;have h0' : (C != 0) = true := by simp [h0]
    clear hC hF h0;go_enter Tryz.func101, Tryz.ntmps101;(go_wp2_with fail);refine (cellCode_any _ _ _ _ _ _ _ _ hL).mono ?_;rw [HC.out];rintro e w1 ⟨rfl, b1⟩;have HB := Lib.hid (box_below b1);clear b1;(go_wp2_with fail);go_ret2;exact ⟨rfl, HB.out⟩
end Go.Proofs.YtlgnijhemfkflaaGreatDoor

namespace Go.Proofs.YtlgnijhemfkflaaGreatDoor
open Go.RowKit
set_option linter.unusedVariables false
set_option linter.unusedSimpArgs false
theorem IsMem.slices {w : World} {x y : Value} {m : PM} (h : IsMem w (.agg #[x, y]) m) : ∃ A n c P k d, x = .slice A n c ∧ y = .slice P k d := by
  obtain ⟨A, c, P, d, e, _, _⟩ := h.parts;injection e with e
  simp at e;exact ⟨A, _, c, P, _, d, e.1, e.2⟩
def Fr (w : World) (A P : Option Addr) (L c K d : Nat) (w' : World) : Prop := Below w.heap.size w w' ∧ Box w' w.heap.size (.slice A L c) (.slice P K d) 27 ∧ Box w' (w.heap.size + 1) (.slice none 0 0) (.slice none 0 0) 27
theorem Fr.keep {w w1 w2 : World} {A P : Option Addr} {L c K d : Nat} (h : Fr w A P L c K d w1) (b : Below w1.heap.size w1 w2) : Fr w A P L c K d w2 := ⟨below_then h.1 b, h.2.1.keep b, h.2.2.keep b⟩
theorem Fr.bel {w w1 : World} {A P : Option Addr} {L c K d : Nat} (h : Fr w A P L c K d w1) : Below w.heap.size w w1 := h.1
theorem Fr.drew {w w1 : World} {A P : Option Addr} {L c K d : Nat} (h : Fr w A P L c K d w1) : Fr w A P L c K d w1.drew := ⟨h.1.drew, h.2.1, h.2.2⟩
theorem fr_two {w w1 : World} {A P : Option Addr} {L c K d : Nat} (b : Below ((w.alloc (.cells #[.slice A L c, .slice P K d] 27)).alloc (.cells #[.slice none 0 0, .slice none 0 0] 27)).heap.size ((w.alloc (.cells #[.slice A L c, .slice P K d] 27)).alloc (.cells #[.slice none 0 0, .slice none 0 0] 27)) w1) : Fr w A P L c K d w1 :=
  ⟨below_two b, (box_two w _ _ _ _ _ _).1.keep b, (box_two w _ _ _ _ _ _).2.keep b⟩
theorem fr_new (w : World) (A P : Option Addr) (L c K d : Nat) : Fr w A P L c K d ((w.alloc (.cells #[.slice A L c, .slice P K d] 27)).alloc (.cells #[.slice none 0 0, .slice none 0 0] 27)) :=
  fr_two (Below.refl _ _)
theorem Fr.put {w w1 : World} {A P : Option Addr} {L c K d : Nat} (h : Fr w A P L c K d w1) (x y : Value) : Below w.heap.size w ((w1.setCell ⟨w.heap.size + 1, 0, none⟩ x).setCell ⟨w.heap.size + 1, 1, none⟩ y) := (h.1.setCell (by simp) _).setCell (by simp) _
theorem Fr.mem {w w1 : World} {A P : Option Addr} {L c K d : Nat} (h : Fr w A P L c K d w1) {v : Value} {m : PM} (k : IsMem w1 v m) (x y : Value) : IsMem ((w1.setCell ⟨w.heap.size + 1, 0, none⟩ x).setCell ⟨w.heap.size + 1, 1, none⟩ y) v m := k.row h.2.2 (row_put _ _ _ _)
theorem byt_one3 (w : World) (A P : Option Addr) (L c K d : Nat) (x : UInt8) : Byt (((w.alloc (.cells #[.slice A L c, .slice P K d] 27)).alloc (.cells #[.slice none 0 0, .slice none 0 0] 27)).alloc (.cells #[.int .u8 (x.toNat : Int)] 5)) (.slice (some ⟨w.heap.size + 1 + 1, 0, none⟩) 1 1) [x] := by
  have h := one_new ((w.alloc (.cells #[.slice A L c, .slice P K d] 27)).alloc (.cells #[.slice none 0 0, .slice none 0 0] 27)) #[.int .u8 (x.toNat : Int)] 5;rw [World.size_alloc, World.size_alloc] at h;exact byt_block (l := [x]) h (by simp)
def newF (n : Int) : PM := if newOk n = true then (List.replicate n.toNat 0, []) else ([], [])
def newC (n : Int) : Int := if newOk n = true then 0 else -24
theorem made_u8 (n : Nat) : (madeCells (Value.int .u8 0).cells n) = (u8s (List.replicate n 0)).toArray := by
  apply Array.ext
  · simp [madeCells, u8s]
  · intro i h1 h2
    have e : i % 1 = 0 := by omega
    simp [madeCells, u8s, Value.cells, e]
def storeF (m : PM) (p n : Int) : PM := if cellC m.1.length p = 0 then writeF m p (cellBytes n) else m
theorem store_ok {L : Nat} {p : Int} (h : cellC L p = 0) : okB L p 8 = true := by
  cases e : okB L p 8 with
  | true => rfl
  | false => rw [cellC_no e] at h; cases h
def Fw (w : World) (A P : Option Addr) (L c K d : Nat) (w' : World) : Prop := Below w.heap.size w w' ∧ Box w' w.heap.size (.slice A L c) (.slice P K d) 27 ∧ ∃ A0 n0 c0 P0 k0 d0, Box w' (w.heap.size + 1) (.slice A0 n0 c0) (.slice P0 k0 d0) 27
theorem Fw.bel {w w1 : World} {A P : Option Addr} {L c K d : Nat} (h : Fw w A P L c K d w1) : Below w.heap.size w w1 := h.1
theorem Fw.res {w w1 : World} {A P : Option Addr} {L c K d : Nat} (h : Fw w A P L c K d w1) : ∃ A0 n0 c0 P0 k0 d0, Box w1 (w.heap.size + 1) (.slice A0 n0 c0) (.slice P0 k0 d0) 27 := h.2.2
theorem fwS {w w1 : World} {A P : Option Addr} {L c K d : Nat} (h : Fr w A P L c K d w1) : w1.cell? ⟨w.heap.size, 0, none⟩ = some (.slice A L c) ∧ w1.cell? ⟨w.heap.size, 1, none⟩ = some (.slice P K d) ∧ Fw w A P L c K d w1 :=
  ⟨h.2.1.use.1, h.2.1.use.2.1, h.1, h.2.1, _, _, _, _, _, _, h.2.2⟩
theorem fwK {w w1 w2 : World} {A P : Option Addr} {L c K d : Nat} (h : w1.cell? ⟨w.heap.size, 0, none⟩ = some (.slice A L c) ∧ w1.cell? ⟨w.heap.size, 1, none⟩ = some (.slice P K d) ∧ Fw w A P L c K d w1) (b : Below w1.heap.size w1 w2) : w2.cell? ⟨w.heap.size, 0, none⟩ = some (.slice A L c) ∧ w2.cell? ⟨w.heap.size, 1, none⟩ = some (.slice P K d) ∧ Fw w A P L c K d w2 := by
  obtain ⟨_, _, h1, h2, A0, n0, c0, P0, k0, d0, h3⟩ := h;have h2' := h2.keep b;exact ⟨h2'.use.1, h2'.use.2.1, below_then h1 b, h2', _, _, _, _, _, _, h3.keep b⟩
theorem fwP {w w1 : World} {A P : Option Addr} {L c K d : Nat} (h : w1.cell? ⟨w.heap.size, 0, none⟩ = some (.slice A L c) ∧ w1.cell? ⟨w.heap.size, 1, none⟩ = some (.slice P K d) ∧ Fw w A P L c K d w1) (A' P' : Option Addr) (L' c' K' d' : Nat) : ((w1.setCell ⟨w.heap.size + 1, 0, none⟩ (.slice A' L' c')).setCell ⟨w.heap.size + 1, 1, none⟩ (.slice P' K' d')).cell? ⟨w.heap.size, 0, none⟩ = some (.slice A L c) ∧ ((w1.setCell ⟨w.heap.size + 1, 0, none⟩ (.slice A' L' c')).setCell ⟨w.heap.size + 1, 1, none⟩ (.slice P' K' d')).cell? ⟨w.heap.size, 1, none⟩ = some (.slice P K d) ∧ Fw w A P L c K d ((w1.setCell ⟨w.heap.size + 1, 0, none⟩ (.slice A' L' c')).setCell ⟨w.heap.size + 1, 1, none⟩ (.slice P' K' d')) := by
  obtain ⟨_, _, h1, h2, A0, n0, c0, P0, k0, d0, h3⟩ := h;have h2' := h2.row (row_put w1 (w.heap.size + 1) (.slice A' L' c') (.slice P' K' d')) (by omega);exact ⟨h2'.use.1, h2'.use.2.1, (h1.setCell (by simp) _).setCell (by simp) _, h2', _, _, _, _, _, _, h3.put _ _⟩
end Go.Proofs.YtlgnijhemfkflaaGreatDoor

namespace Go.Proofs
open Go.Shelf
def Tryz.lays264m_ren : Go.Shelf.Ren := ⟨fun | 264 => 208 | n => n, fun | 53 => 52 | 46 => 267 | n => n, fun | n => n⟩
theorem Tryz.lays264m : Go.Proofs.Lays.n264 Tryz.prog Tryz.lays264m_ren := {
  mixed := by kernel_rfl
  f264 := Tryz.func208.trans (congrArg some (by kernel_rfl))
  t46 := Tryz.underlying267
  a46 := Tryz.isAgg267
  z46 := Tryz.sizeOf267
  v46 := Tryz.zeroValue267
  t53 := Tryz.underlying52
  a53 := Tryz.isAgg52
  z53 := Tryz.sizeOf52
  v53 := Tryz.zeroValue52 }
open Go.RowKit Go.Lib in
theorem Tryz.bits_Mul64m (x y : Nat) (hx : x < 18446744073709551616) (hy : y < 18446744073709551616) (w : World) :
    Calls Tryz.prog 208 #[.int .u64 x, .int .u64 y] w fun e w' => e = .returned (.tuple #[.int .u64 ((x * y / 18446744073709551616 : Nat) : Int), .int .u64 ((x * y % 18446744073709551616 : Nat) : Int)]) ∧ w' = w := Any.bits_Mul64 Tryz.lays264m x y hx hy w
end Go.Proofs
