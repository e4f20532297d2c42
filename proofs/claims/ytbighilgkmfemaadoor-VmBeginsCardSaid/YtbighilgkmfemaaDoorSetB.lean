/- What the laws of this stage lean on, part 2: MemWalksD, MemWalksE, MemRefA, MemRefP, MemWalksF, MemRight. -/
import Derived.Test.YtbighilgkmfemaaDoorSetA
import Derived.Maps.AppendAt
import Derived.Deep.AppendLies
import Derived.LoopN
import Derived.Deep.RegionHeld3
import Derived.Test.YtbighilgkmfemaaDoorProg

/- The contract of Write of package mem. -/
namespace Go.Proofs.YtbighilgkmfemaaDoor
open Go.RowKit

/-- A block of two cells. -/
def Box (w : World) (b : Nat) (x y : Value) (t : TypeId) : Prop := w.heap[b]? = some (.cells #[x, y] t (0, 0))
theorem Box.lt {w : World} {b : Nat} {x y : Value} {t : TypeId} (h : Box w b x y t) : b < w.heap.size := (Array.getElem?_eq_some_iff.1 h).1
theorem Box.keep {w w' : World} {b : Nat} {x y : Value} {t : TypeId} (h : Box w b x y t) (k : Below w.heap.size w w') : Box w' b x y t := (k.block b h.lt).trans h
theorem Box.row {w w' : World} {b g : Nat} {x y : Value} {t : TypeId} (h : Box w b x y t) (k : RowSet g w w') (hb : b ≠ g) : Box w' b x y t := (k.other b hb).trans h
theorem Box.use {w : World} {b : Nat} {x y : Value} {t : TypeId} (h : Box w b x y t) : w.cell? ⟨b, 0, none⟩ = some x ∧ w.cell? ⟨b, 1, none⟩ = some y ∧ w.frozen? ⟨b, 0, none⟩ = false ∧ w.frozen? ⟨b, 1, none⟩ = false := by
  unfold Box at h
  refine ⟨?_, ?_, ?_, ?_⟩ <;> simp [World.cell?, World.frozen?, h]
theorem box_new (w : World) (x y : Value) (t : TypeId) : Box (w.alloc (.cells #[x, y] t)) w.heap.size x y t := one_new w _ t
theorem box_two (w : World) (x y x' y' : Value) (t t' : TypeId) : Box ((w.alloc (.cells #[x, y] t)).alloc (.cells #[x', y'] t')) w.heap.size x y t ∧ Box ((w.alloc (.cells #[x, y] t)).alloc (.cells #[x', y'] t')) (w.heap.size + 1) x' y' t' :=
  ⟨(two_new w _ _ _ _).2, (two_new w _ _ _ _).1⟩
theorem below_two {w w1 : World} {o o' : Obj} (b : Below ((w.alloc o).alloc o').heap.size ((w.alloc o).alloc o') w1) : Below w.heap.size w w1 :=
  (((Below.refl _ w).alloc (Nat.le_refl _) o).alloc (by simp) o').trans (b.mono (by simp; omega))

theorem Box.put {w : World} {b : Nat} {x y : Value} {t : TypeId} (h : Box w b x y t) (x' y' : Value) : Box ((w.setCell ⟨b, 0, none⟩ x').setCell ⟨b, 1, none⟩ y') b x' y' t := by
  have h1 : (w.setCell ⟨b, 0, none⟩ x').heap[b]? = some (.cells (#[x, y].setIfInBounds 0 x') t (0, 0)) := Go.Joins.block_setCell h x'
  have h2 := Go.Joins.block_setCell (i := 1) h1 y'
  simpa [Box] using h2
theorem Box.got {w : World} {b : Nat} {x y : Value} {t : TypeId} (h : Box w b x y t) (x' y' : Value) : (w.setCell ⟨b, 0, none⟩ x').cell? ⟨b, 0, none⟩ = some x' ∧ ((w.setCell ⟨b, 0, none⟩ x').setCell ⟨b, 1, none⟩ y').cell? ⟨b, 1, none⟩ = some y' := by
  constructor
  · have h1 : (w.setCell ⟨b, 0, none⟩ x').heap[b]? = some (.cells (#[x, y].setIfInBounds 0 x') t (0, 0)) := Go.Joins.block_setCell h x'
    simp [World.cell?, h1]
  · exact (h.put x' y').use.2.1
theorem Byt.len {w : World} {A : Option Addr} {n c : Nat} {l : List UInt8} (h : Byt w (.slice A n c) l) : l.length = n := by
  obtain ⟨A', c', e, _⟩ := h
  injection e with _ e _
  exact e.symm
theorem Byt.lies {w : World} {A : Option Addr} {n c : Nat} {l : List UInt8} (h : Byt w (.slice A n c) l) : Lies w A (u8s l) := by
  obtain ⟨A', c', e, _, _, hl⟩ := h
  injection e with e _ _
  subst e
  exact hl
theorem Byt.form {w : World} {u : Value} {l : List UInt8} (h : Byt w u l) : ∃ A c, u = .slice A l.length c := by
  obtain ⟨A, c, e, _⟩ := h
  exact ⟨A, c, e⟩
theorem IsMem.byt {w : World} {x y : Value} {m : PM} (h : IsMem w (.agg #[x, y]) m) : Byt w x m.1 := by
  obtain ⟨x', y', e, hb, _⟩ := h
  injection e with e
  simp at e
  rw [e.1]
  exact hb
theorem IsMem.pats {w : World} {x y : Value} {m : PM} (h : IsMem w (.agg #[x, y]) m) : Pats w y m.2 := by
  obtain ⟨x', y', e, _, hb⟩ := h
  injection e with e
  simp at e
  rw [e.2]
  exact hb
theorem IsMem.len1 {w : World} {A : Option Addr} {L c : Nat} {y : Value} {m : PM} (h : IsMem w (.agg #[.slice A L c, y]) m) : m.1.length = L := h.byt.len
theorem IsMem.len2 {w : World} {P : Option Addr} {K d : Nat} {x : Value} {m : PM} (h : IsMem w (.agg #[x, .slice P K d]) m) : m.2.length = K := by
  obtain ⟨A', c', qs, e, _⟩ := h.pats
  injection e with _ e _
  exact e.symm
theorem IsMem.patq {w : World} {P : Option Addr} {K d : Nat} {x : Value} {m : PM} (h : IsMem w (.agg #[x, .slice P K d]) m) : ∃ qs : List Qt, Hid (qs.length = K) ∧ Lies w P (pc qs) ∧ Tells w qs m.2 := by
  have e2 := h.len2
  obtain ⟨A', c', qs, e, _, _, hl, ht⟩ := h.pats
  injection e with e _ _
  subst e
  exact ⟨qs, ht.1.trans e2, hl, ht⟩
theorem mem_mk {w : World} {x y : Value} {m : PM} (h : Byt w x m.1) (k : Pats w y m.2) : IsMem w (.agg #[x, y]) m := ⟨x, y, rfl, h, k⟩

theorem text_at (A P : Option Addr) (L c K d : Nat) (m : PM) (p n : Int) (w : World) (h : IsMem w (.agg #[.slice A L c, .slice P K d]) m) (hL : L ≤ 65536) (hn : n ≤ 9223372036854775807) :
    Calls Tryd.prog 53 #[.agg #[.slice A L c, .slice P K d], .int .i64 p, .int .i64 n] w fun e w' => ∃ B k e', e = .returned (.tuple #[.slice B k e', .int .i64 (codeF (okB L p n))]) ∧ Byt w' (.slice B k e') (textF m p n) ∧ Below w.heap.size w w' := by
  have e1 := h.len1
  have c := text_any _ m p n w h (by omega) hn
  rw [e1] at c
  refine c.mono fun e w' ⟨u, he, hu, hb⟩ => ?_
  obtain ⟨B, k, rfl⟩ := hu.form
  exact ⟨B, _, k, he, hu, hb⟩

theorem Box.two {w : World} {b : Nat} {A P : Option Addr} {n c k d : Nat} {t : TypeId} (h : Box w b (.slice A n c) (.slice P k d) t) {o : Nat} {v : Value} (hc : w.cell? ⟨b, o, none⟩ = some v) : ∃ A n c, v = .slice A n c := by
  unfold Box at h
  simp [World.cell?, h] at hc
  match o, hc with
  | 0, hc => simp at hc; exact ⟨_, _, _, hc.symm⟩
  | 1, hc => simp at hc; exact ⟨_, _, _, hc.symm⟩
  | o + 2, hc => simp at hc
/-- A write into a block of two slices touches neither bytes nor patches. -/
theorem Lies.row {w w' : World} {b : Nat} {A P A' : Option Addr} {n c k d : Nat} {t : TypeId} {xs : List Value} (h : Lies w A' xs) (hb : Box w b (.slice A n c) (.slice P k d) t) (rs : RowSet b w w') (hi : ∀ v r, xs = v :: r → ∃ q i, v = .int q i) : Lies w' A' xs := by
  rcases h with h | ⟨g, o, e, hg, hc⟩
  · exact .inl h
  · match xs, hi, hc with
    | [], _, _ => exact .inl rfl
    | v :: r, hi, hc =>
      have hne : g ≠ b := by
        intro e
        subst e
        obtain ⟨q, i, rfl⟩ := hi v r rfl
        obtain ⟨_, _, _, hv⟩ := hb.two (hc 0 _ rfl)
        cases hv
      exact .inr ⟨g, o, e, by rw [rs.size]; exact hg, fun j v hv => (rs.cell hne).trans (hc j v hv)⟩
theorem u8s_head (l : List UInt8) : ∀ v r, u8s l = v :: r → ∃ q i, v = Value.int q i := by
  intro v r h
  cases l with
  | nil => simp [u8s] at h
  | cons x l => simp [u8s] at h; exact ⟨_, _, h.1.symm⟩
theorem pc_head (qs : List Qt) : ∀ v r, pc qs = v :: r → ∃ q i, v = Value.int q i := by
  intro v r h
  cases qs with
  | nil => simp [pc] at h
  | cons x l => rw [pc_cons] at h; injection h with h _; exact ⟨_, _, h.symm⟩
theorem Byt.row {w w' : World} {b : Nat} {A P : Option Addr} {n c k d : Nat} {t : TypeId} {v : Value} {l : List UInt8} (h : Byt w v l) (hb : Box w b (.slice A n c) (.slice P k d) t) (rs : RowSet b w w') : Byt w' v l := by
  obtain ⟨A', c', h1, h2, h3, h4⟩ := h
  exact ⟨A', c', h1, h2, h3, h4.row hb rs (u8s_head l)⟩
theorem Tells.row {w w' : World} {b : Nat} {A P : Option Addr} {n c k d : Nat} {t : TypeId} {qs : List Qt} {ps : List Pt} (h : Tells w qs ps) (hb : Box w b (.slice A n c) (.slice P k d) t) (rs : RowSet b w w') : Tells w' qs ps :=
  ⟨h.1, fun i q p hq hp => ⟨(h.2 i q p hq hp).1, (h.2 i q p hq hp).2.row hb rs⟩⟩
theorem IsMem.row {w w' : World} {b : Nat} {A P : Option Addr} {n c k d : Nat} {t : TypeId} {v : Value} {m : PM} (h : IsMem w v m) (hb : Box w b (.slice A n c) (.slice P k d) t) (rs : RowSet b w w') : IsMem w' v m := by
  obtain ⟨x, y, h1, h2, A', c', qs, e, h3, h4, h5, h6⟩ := h
  exact ⟨x, y, h1, h2.row hb rs, A', c', qs, e, h3, h4, h5.row hb rs (pc_head qs), h6.row hb rs⟩
theorem row_put (w : World) (b : Nat) (x y : Value) : RowSet b w ((w.setCell ⟨b, 0, none⟩ x).setCell ⟨b, 1, none⟩ y) :=
  ⟨rfl, rfl, rfl, by simp [World.setCell], fun k hk => (Below.heap_setCell _ _ _ k hk).trans (Below.heap_setCell _ _ _ k hk)⟩

set_option maxRecDepth 100000 in
set_option maxHeartbeats 1000000 in
theorem write_no (A P A2 : Option Addr) (L c K d n c2 : Nat) (m : PM) (p : Int) (w : World) (HM : Hid (IsMem w (.agg #[.slice A L c, .slice P K d]) m)) (hL : L ≤ 65536) (hn : n ≤ 65536) (hno : okB L p n = false ∨ n = 0) :
    Calls Tryd.prog 55 #[.agg #[.slice A L c, .slice P K d], .int .i64 p, .slice A2 n c2] w fun e w' => e = .returned (.tuple #[.agg #[.slice A L c, .slice P K d], .int .i64 (codeF (okB L p n))]) ∧ Below w.heap.size w w' := by
  cases ok : okB L p n with
  | false =>
    clear hno
    go_enter Tryd.func55, Tryd.ntmps55
    go_wp2_with fail
    refine (text_at _ _ _ _ _ _ m _ _ _ (HM.out.keep (((Below.refl _ w).alloc (Nat.le_refl _) _).alloc (by simp) _)) hL (by omega)).mono ?_
    rw [ok, codeF_no]
    rintro e w1 ⟨B, k, e', rfl, hu1, b1⟩
    obtain ⟨k0, k1⟩ := box_two w (.slice A L c) (.slice P K d) (.slice none 0 0) (.slice none 0 0) 28 28
    obtain ⟨q0, q1, _, _⟩ := (k0.keep b1).use
    obtain ⟨q2, q3, q4, q5⟩ := (k1.keep b1).use
    have HG := Lib.hid ((k1.keep b1).got (.slice A L c) (.slice P K d))
    have HB := Lib.hid (below_two b1)
    clear k0 k1 b1 hu1
    go_wp2_with fail
    refine bodyPost_ret (v := .tuple #[.agg #[.slice A L c, .slice P K d], .int .i64 (-9)]) ?_ rfl ?_
    · obtain ⟨r0, r1⟩ := HG.out
      simp [results, Tryd.results55, go_sem, r0, r1]
    · exact ⟨rfl, (HB.out.setCell (by simp) _).setCell (by simp) _⟩
  | true =>
    have h0 : n = 0 := hno.resolve_left (by simp [ok])
    subst h0
    clear hno
    go_enter Tryd.func55, Tryd.ntmps55
    go_wp2_with fail
    refine (text_at _ _ _ _ _ _ m _ _ _ (HM.out.keep (((Below.refl _ w).alloc (Nat.le_refl _) _).alloc (by simp) _)) hL (by omega)).mono ?_
    rw [show okB L p 0 = true from ok, codeF_yes]
    rintro e w1 ⟨B, k, e', rfl, hu1, b1⟩
    obtain ⟨k0, k1⟩ := box_two w (.slice A L c) (.slice P K d) (.slice none 0 0) (.slice none 0 0) 28 28
    obtain ⟨q0, q1, _, _⟩ := (k0.keep b1).use
    obtain ⟨q2, q3, q4, q5⟩ := (k1.keep b1).use
    have HG := Lib.hid ((k1.keep b1).got (.slice A L c) (.slice P K d))
    have HB := Lib.hid (below_two b1)
    clear k0 k1 b1 hu1
    go_wp2_with fail
    refine bodyPost_ret (v := .tuple #[.agg #[.slice A L c, .slice P K d], .int .i64 0]) ?_ rfl ?_
    · obtain ⟨r0, r1⟩ := HG.out
      simp [results, Tryd.results55, go_sem, r0, r1]
    · exact ⟨rfl, (HB.out.setCell (by simp) _).setCell (by simp) _⟩

set_option maxRecDepth 100000 in
set_option maxHeartbeats 1000000 in
theorem write_yes (A P A2 : Option Addr) (L c K d n c2 : Nat) (m : PM) (b : List UInt8) (p : Int) (w : World) (HM : Hid (IsMem w (.agg #[.slice A L c, .slice P K d]) m)) (HU : Hid (Byt w (.slice A2 n c2) b)) (hL : L ≤ 65536) (hK : K < 1000) (hn : n ≤ 65536) (hn0 : 0 < n) (ok : okB L p n = true) :
    Calls Tryd.prog 55 #[.agg #[.slice A L c, .slice P K d], .int .i64 p, .slice A2 n c2] w fun e w' => ∃ A' c' P' d', e = .returned (.tuple #[.agg #[.slice A' L c', .slice P' (K + 1) d'], .int .i64 0]) ∧ IsMem w' (.agg #[.slice A' L c', .slice P' (K + 1) d']) (writeF m p b) ∧ Below w.heap.size w w' := by
  have hz : ((n : Int) == 0) = false := by simp; omega
  go_enter Tryd.func55, Tryd.ntmps55
  go_wp2_with fail
  refine (text_at _ _ _ _ _ _ m _ _ _ (HM.out.keep (((Below.refl _ w).alloc (Nat.le_refl _) _).alloc (by simp) _)) hL (by omega)).mono ?_
  rw [ok, codeF_yes]
  rintro e w1 ⟨B, k, e', rfl, hu1, b1⟩
  obtain ⟨k0, k1⟩ := box_two w (.slice A L c) (.slice P K d) (.slice none 0 0) (.slice none 0 0) 28 28
  have K0 := Lib.hid (k0.keep b1)
  have K1 := Lib.hid (k1.keep b1)
  obtain ⟨q0, q1, _, _⟩ := (k0.keep b1).use
  have HB := Lib.hid (below_two b1)
  have HT := Lib.hid hu1
  clear k0 k1 b1 hu1
  go_wp2_with fail
  refine (own_u8 _ _ _ m.1 _ HM.out.len1 hL (HM.out.keep HB.out).byt.lies).mono ?_
  rintro e w2 ⟨g, rfl, hg, hh, b2⟩
  clear q0 q1
  have K2 := Lib.hid (K0.out.keep b2)
  have K3 := Lib.hid (K1.out.keep b2)
  have HG := Lib.hid hh
  have HB2 := Lib.hid b2
  have hlt := K1.out.lt
  clear hh b2
  go_wp2_with fail
  refine (lay_any g L n c2 A2 p m.1 b w2 5 HM.out.len1 HU.out.len hL ok HG.out ((HU.out.keep HB.out).keep HB2.out).lies).mono ?_
  rintro e w3 ⟨rfl, hh, rs⟩
  have hne0 : w.heap.size ≠ g := by omega
  have hne1 : w.heap.size + 1 ≠ g := by omega
  have K4 := Lib.hid (K2.out.row rs hne0)
  have K5 := Lib.hid (K3.out.row rs hne1)
  obtain ⟨q0, q1, _, _⟩ := (K2.out.row rs hne0).use
  have HG3 := Lib.hid hh
  have RS := Lib.hid rs
  clear hh rs
  have hB3 : Below w.heap.size w w3 := (below_then HB.out HB2.out).trans (RS.out.below (by omega))
  have HB3 := Lib.hid hB3
  obtain ⟨qs, HQ, hlq, htl⟩ : ∃ qs : List Qt, Hid (qs.length = K) ∧ Lies w P (pc qs) ∧ Tells w qs m.2 := HM.out.patq
  have HLQ := Lib.hid hlq
  have HTQ := Lib.hid htl
  clear hB3 hlq htl
  go_wp2_with fail
  refine (with_any _ K _ qs _ _ _ _ _ HQ.out (by omega) (HLQ.out.keep HB3.out) (pc_one HTQ.out)).mono ?_
  rintro e w4 ⟨g4, rfl, hg4, hh, b4⟩
  obtain ⟨q2, q3, q4, q5⟩ := (K5.out.keep b4).use
  have K6 := Lib.hid (K5.out.keep b4)
  have HH := Lib.hid hh
  have HB4 := Lib.hid b4
  clear hh b4 q0 q1
  go_wp2_with fail
  refine bodyPost_ret (v := .tuple #[.agg #[.slice (some ⟨g, 0, none⟩) L L, .slice (some ⟨g4, 0, none⟩) (K + 1) (K + 1)], .int .i64 0]) ?_ rfl ?_
  · obtain ⟨r0, r1⟩ := K6.out.got (.slice (some ⟨g, 0, none⟩) L L) (.slice (some ⟨g4, 0, none⟩) (K + 1) (K + 1))
    simp [results, Tryd.results55, go_sem, r0, r1]
  · refine ⟨_, _, _, _, rfl, ?_, ((HB3.out.trans (HB4.out.mono HB3.out.size)).setCell (by simp) _).setCell (by simp) _⟩
    refine IsMem.row (w := w4) ?_ K6.out (row_put _ _ _ _)
    have ok' : okB m.1.length p b.length = true := by rw [HM.out.len1, HU.out.len]; exact ok
    have hl : (layF m.1 p b).length = L := (layF_len ok').trans HM.out.len1
    have hb0 : b ≠ [] := by
      intro e
      have := HU.out.len
      rw [e] at this
      simp at this
      omega
    have b24 : Below w1.heap.size w1 w4 := (HB2.out.trans (RS.out.below (by omega))).trans (HB4.out.mono (Nat.le_trans HB2.out.size (Nat.le_of_eq RS.out.size.symm)))
    rw [writeF_yes ok' hb0]
    refine mem_mk ?_ ?_
    · show Byt w4 _ (layF m.1 p b)
      rw [← hl]
      refine byt_block (t := 5) ?_ (by omega)
      rw [HB4.out.block g (by rw [RS.out.size]; exact (Array.getElem?_eq_some_iff.1 HG.out).1)]
      exact HG3.out
    · have e5 : (m.2 ++ [(p, textF m p b.length)]).length = K + 1 := by simp [HM.out.len2]
      refine ⟨some ⟨g4, 0, none⟩, K + 1, qs ++ [(p, .slice B k e')], by rw [e5], by rw [e5]; exact Nat.le_refl _, by unfold maxLen; omega, lies_block HH.out, Tells.snoc (p := (p, textF m p b.length)) (HTQ.out.keep (HB3.out.trans (HB4.out.mono HB3.out.size))) ?_⟩
      have := HT.out.keep b24
      rw [HU.out.len]
      exact this

/-- Write, whatever comes. -/
theorem write_any (v u : Value) (m : PM) (b : List UInt8) (p : Int) (w : World) (h : IsMem w v m) (hu : Byt w u b) (hL : m.1.length ≤ 65536) (hK : m.2.length < 1000) (hb : b.length ≤ 65536) :
    Calls Tryd.prog 55 #[v, .int .i64 p, u] w fun e w' => ∃ x y, e = .returned (.tuple #[.agg #[x, y], .int .i64 (codeF (okB m.1.length p b.length))]) ∧ IsMem w' (.agg #[x, y]) (writeF m p b) ∧ Below w.heap.size w w' := by
  have h' := h
  obtain ⟨A, c, P, d, rfl, _, _⟩ := h.parts
  have hu' := hu
  obtain ⟨A2, c2, rfl⟩ := hu.form
  by_cases hn : okB m.1.length p b.length = false ∨ b.length = 0
  · refine (write_no A P A2 _ c _ d _ c2 m p w h' hL hb hn).mono fun e w' ⟨he, hw⟩ => ⟨_, _, he, ?_, hw⟩
    have e : writeF m p b = m := by
      rcases hn with hn | hn
      · exact writeF_no hn
      · rw [List.eq_nil_of_length_eq_zero hn]; exact writeF_nil
    rw [e]
    exact h'.keep hw
  · have ok : okB m.1.length p b.length = true := by
      cases e : okB m.1.length p b.length with
      | true => rfl
      | false => exact absurd (.inl e) hn
    refine (write_yes A P A2 _ c _ d _ c2 m b p w h' hu' hL hK hb (by omega) ok).mono fun e w' ⟨A', c', P', d', he, hm, hw⟩ => ⟨_, _, ?_, hm, hw⟩
    rw [ok, codeF_yes]
    exact he
end Go.Proofs.YtbighilgkmfemaaDoor

/- Contracts of New, cellCode, Fetch, FetchByte, Mark and Free of package mem, and of the document's own. -/
namespace Go.Proofs.YtbighilgkmfemaaDoor
open Go.RowKit

theorem cellC_no {L : Nat} {p : Int} (h : okB L p 8 = false) : cellC L p = -9 := by unfold cellC; rw [h]; rfl
theorem cellC_align {L : Nat} {p : Int} (h : okB L p 8 = true) (h8 : p % 8 ≠ 0) : cellC L p = -23 := by unfold cellC; rw [if_pos h, if_neg h8]
theorem cellC_ok {L : Nat} {p : Int} (h : okB L p 8 = true) (h8 : p % 8 = 0) : cellC L p = 0 := by unfold cellC; rw [if_pos h, if_pos h8]

set_option maxRecDepth 100000 in
set_option maxHeartbeats 1000000 in
theorem cellCode_any (A P : Option Addr) (L c K d : Nat) (p : Int) (w : World) (hL : L ≤ 65536) :
    Calls Tryd.prog 64 #[.agg #[.slice A L c, .slice P K d], .int .i64 p] w fun e w' => e = .returned (.int .i64 (cellC L p)) ∧ Below w.heap.size w w' := by
  cases ok : okB L p 8 with
  | false =>
    have H := Lib.hid (cellC_no ok)
    go_enter Tryd.func64, Tryd.ntmps64
    go_wp2_with (go_at_call 79; (with_reducible refine (there_any _ _ _ _ _ _ _ _ _ (by omega) (by omega)).mono ?_); rintro e w1 ⟨rfl, b1⟩)
    go_ret
    exact ⟨ret_int H.out.symm, box_below b1⟩
  | true =>
    have hok := (okB_iff _ _ _).1 ok
    have h0 : 0 ≤ p := by omega
    by_cases h8 : p % 8 = 0
    · have H := Lib.hid (cellC_ok ok h8)
      have h8' : (p % 8 != 0) = false := by simp [h8]
      clear h8 hok
      go_enter Tryd.func64, Tryd.ntmps64
      go_wp2_with (go_at_call 79; (with_reducible refine (there_any _ _ _ _ _ _ _ _ _ (by omega) (by omega)).mono ?_); rintro e w1 ⟨rfl, b1⟩)
      go_ret
      exact ⟨ret_int H.out.symm, box_below b1⟩
    · have H := Lib.hid (cellC_align ok h8)
      have h8' : (p % 8 != 0) = true := by simp [h8]
      clear h8 hok
      go_enter Tryd.func64, Tryd.ntmps64
      go_wp2_with (go_at_call 79; (with_reducible refine (there_any _ _ _ _ _ _ _ _ _ (by omega) (by omega)).mono ?_); rintro e w1 ⟨rfl, b1⟩)
      go_ret
      exact ⟨ret_int H.out.symm, box_below b1⟩

set_option maxRecDepth 100000 in
set_option maxHeartbeats 1000000 in
theorem rcellAt_any (A P : Option Addr) (L c K d : Nat) (p : Int) (w : World) (hL : L ≤ 65536) :
    Calls Tryd.prog 33 #[.agg #[.slice A L c, .slice P K d], .int .i64 p] w fun e w' => e = .returned (.int .i64 (cellC L p)) ∧ Below w.heap.size w w' := by
  cases ok : okB L p 8 with
  | false =>
    have H := Lib.hid (cellC_no ok)
    go_enter Tryd.func33, Tryd.ntmps33
    go_wp2_with (go_at_call 66; (with_reducible refine (rthere_any _ _ _ _ _ _ _ _ _ (by omega) (by omega)).mono ?_); rintro e w1 ⟨rfl, b1⟩)
    go_ret
    exact ⟨ret_int H.out.symm, box_below b1⟩
  | true =>
    have hok := (okB_iff _ _ _).1 ok
    have h0 : 0 ≤ p := by omega
    by_cases h8 : p % 8 = 0
    · have H := Lib.hid (cellC_ok ok h8)
      have h8' : (p % 8 != 0) = false := by simp [h8]
      clear h8 hok
      go_enter Tryd.func33, Tryd.ntmps33
      go_wp2_with (go_at_call 66; (with_reducible refine (rthere_any _ _ _ _ _ _ _ _ _ (by omega) (by omega)).mono ?_); rintro e w1 ⟨rfl, b1⟩)
      go_ret
      exact ⟨ret_int H.out.symm, box_below b1⟩
    · have H := Lib.hid (cellC_align ok h8)
      have h8' : (p % 8 != 0) = true := by simp [h8]
      clear h8 hok
      go_enter Tryd.func33, Tryd.ntmps33
      go_wp2_with (go_at_call 66; (with_reducible refine (rthere_any _ _ _ _ _ _ _ _ _ (by omega) (by omega)).mono ?_); rintro e w1 ⟨rfl, b1⟩)
      go_ret
      exact ⟨ret_int H.out.symm, box_below b1⟩

/-- The byte at a place. -/
def byteF (m : PM) (p : Int) : Int := if okB m.1.length p 1 = true then ((m.1.getD p.toNat 0).toNat : Int) else 0
theorem mem_cell {w : World} {A : Option Addr} {L c : Nat} {y : Value} {m : PM} (h : IsMem w (.agg #[.slice A L c, y]) m) {q : Nat} (hq : q < L) : ∃ g o, A = some ⟨g, o, none⟩ ∧ g < w.heap.size ∧ w.cell? ⟨g, o + q, none⟩ = some (.int .u8 ((m.1.getD q 0).toNat : Int)) ∧ L ≤ c := by
  have hl := h.len1
  have hb := h.byt
  have hlies := hb.lies
  have hc : L ≤ c := by
    obtain ⟨A', c', e, h2, _⟩ := hb
    injection e with _ _ e
    omega
  rcases hlies with e | ⟨g, o, e, hg, hcell⟩
  · have := congrArg List.length e
    rw [u8s_len, hl] at this
    simp at this
    omega
  · refine ⟨g, o, e, hg, hcell q _ ?_, hc⟩
    rw [u8s_at (by omega)]
    simp [List.getD, List.getElem?_eq_getElem (by omega : q < m.1.length)]

end Go.Proofs.YtbighilgkmfemaaDoor

/- The document's own Text: bytes that are appended one by one. -/
namespace Go.Proofs.YtbighilgkmfemaaDoor
open Go.RowKit

theorem own_byt {w : World} {base n : Nat} {v : Value} {l : List UInt8} (h : w.ownsRow base 5 1 v n (u8s l)) : Byt w v l := by
  have hl := h.1
  rw [u8s_len, Nat.mul_one] at hl
  subst hl
  rcases h.2 with ⟨rfl, h0⟩ | ⟨g, cap, cur, rfl, _, hg, hnc, hcm, _, ht⟩
  · have : l = [] := List.eq_nil_of_length_eq_zero h0
    subst this
    exact byt_nil w
  · refine ⟨some ⟨g, 0, none⟩, cap, rfl, hnc, hcm, .inr ⟨g, 0, rfl, (Array.getElem?_eq_some_iff.1 hg).1, fun j x hx => ?_⟩⟩
    rw [← ht, List.getElem?_take] at hx
    split at hx
    · rw [Nat.zero_add]
      simp [World.cell?, hg]
      simpa using hx
    · cases hx
theorem own_from {w : World} {base e size n : Nat} {v : Value} {xs : List Value} (h : w.ownsRow base e size v n xs) : ∀ k, v.ownBlock = some k → base ≤ k := fun k hk => (h.lt k hk).1

end Go.Proofs.YtbighilgkmfemaaDoor

/- Contracts of the document's own Put and Get for layer 1; cells as bytes. -/
namespace Go.Proofs.YtbighilgkmfemaaDoor
open Go.RowKit

def bytesTo (U k : Nat) : List Value := (List.range k).map fun i => Value.int .u8 (byteOf U i : Int)
theorem bytesTo_eight (U : Nat) : bytesTo U 8 = [.int .u8 (byteOf U 0 : Int), .int .u8 (byteOf U 1 : Int), .int .u8 (byteOf U 2 : Int), .int .u8 (byteOf U 3 : Int), .int .u8 (byteOf U 4 : Int), .int .u8 (byteOf U 5 : Int), .int .u8 (byteOf U 6 : Int), .int .u8 (byteOf U 7 : Int)] := rfl

set_option maxRecDepth 100000 in
set_option maxHeartbeats 1000000 in
theorem rget_yes (b off cap : Nat) (x0 x1 x2 x3 x4 x5 x6 x7 : Nat) (w : World) (h0 : x0 < 256) (h1 : x1 < 256) (h2 : x2 < 256) (h3 : x3 < 256) (h4 : x4 < 256) (h5 : x5 < 256) (h6 : x6 < 256) (h7 : x7 < 256) (k0 : w.cell? ⟨b, off, none⟩ = some (.int .u8 (x0 : Int))) (k1 : w.cell? ⟨b, off + 1, none⟩ = some (.int .u8 (x1 : Int))) (k2 : w.cell? ⟨b, off + 2, none⟩ = some (.int .u8 (x2 : Int))) (k3 : w.cell? ⟨b, off + 3, none⟩ = some (.int .u8 (x3 : Int))) (k4 : w.cell? ⟨b, off + 4, none⟩ = some (.int .u8 (x4 : Int))) (k5 : w.cell? ⟨b, off + 5, none⟩ = some (.int .u8 (x5 : Int))) (k6 : w.cell? ⟨b, off + 6, none⟩ = some (.int .u8 (x6 : Int))) (k7 : w.cell? ⟨b, off + 7, none⟩ = some (.int .u8 (x7 : Int))) :
    Calls Tryd.prog 34 #[.slice (some ⟨b, off, none⟩) 8 cap] w fun e w' => e = .returned (.tuple #[.int .i64 (wrap64 (eight x0 x1 x2 x3 x4 x5 x6 x7 : Int)), .int .i64 0]) ∧ w = w' := by
  go_enter Tryd.func34, Tryd.ntmps34
  go_wp2
  refine wp_loop_rounds 9 ?_
  iterate 9 (rw [rounds_succ]; go_wp2)
  go_ret2
  exact ⟨ret_two (congrArg wrap64 (by unfold eight; omega)) rfl, rfl⟩

/-- A cell's bytes. -/
def cellBytes (n : Int) : List UInt8 := [UInt8.ofNat (byteOf (un n) 0), UInt8.ofNat (byteOf (un n) 1), UInt8.ofNat (byteOf (un n) 2), UInt8.ofNat (byteOf (un n) 3), UInt8.ofNat (byteOf (un n) 4), UInt8.ofNat (byteOf (un n) 5), UInt8.ofNat (byteOf (un n) 6), UInt8.ofNat (byteOf (un n) 7)]
theorem cellBytes_len (n : Int) : (cellBytes n).length = 8 := rfl
theorem u8_byte (n i : Nat) : (UInt8.ofNat (byteOf n i)).toNat = byteOf n i := by
  rw [UInt8.toNat_ofNat']
  exact Nat.mod_eq_of_lt (byteOf_lt _ _)
theorem cellBytes_u8 (n : Int) : u8s (cellBytes n) = bytesTo (un n) 8 := by
  rw [bytesTo_eight]
  simp only [u8s, cellBytes, List.map_cons, List.map_nil, u8_byte]

theorem put_byt (n : Int) (w : World) : Calls Tryd.prog 93 #[.int .i64 n] w fun e w' => ∃ B k c, e = .returned (.slice B k c) ∧ Byt w' (.slice B k c) (cellBytes n) ∧ Below w.heap.size w w' := by
  refine (put_any n w).mono fun e w' ⟨g, he, _, hh, hb⟩ => ⟨_, _, _, he, ?_, hb⟩
  refine byt_block (l := cellBytes n) (t := 5) ?_ (by rw [cellBytes_len]; omega)
  rw [cellBytes_u8, bytesTo_eight]
  exact hh
/-- The byte at a place, as a number; the cell at a place. -/
def bn (m : PM) (k : Nat) : Nat := (m.1.getD k 0).toNat
theorem bn_lt (m : PM) (k : Nat) : bn m k < 256 := UInt8.toNat_lt _
def fetchF (m : PM) (p : Int) : Int := if cellC m.1.length p = 0 then wrap64 (eight (bn m p.toNat) (bn m (p.toNat + 1)) (bn m (p.toNat + 2)) (bn m (p.toNat + 3)) (bn m (p.toNat + 4)) (bn m (p.toNat + 5)) (bn m (p.toNat + 6)) (bn m (p.toNat + 7)) : Int) else 0

theorem mem_cells {w : World} {A : Option Addr} {L c : Nat} {y : Value} {m : PM} (h : IsMem w (.agg #[.slice A L c, y]) m) (hL : 0 < L) : ∃ g o, A = some ⟨g, o, none⟩ ∧ g < w.heap.size ∧ L ≤ c ∧ ∀ q, q < L → w.cell? ⟨g, o + q, none⟩ = some (.int .u8 (bn m q : Int)) := by
  obtain ⟨g, o, rfl, hg, _, hc⟩ := mem_cell h hL
  refine ⟨g, o, rfl, hg, hc, fun q hq => ?_⟩
  obtain ⟨g', o', e, _, hc', _⟩ := mem_cell h hq
  injection e with e
  injection e with e1 e2
  subst e1 e2
  exact hc'

set_option maxRecDepth 100000 in
set_option maxHeartbeats 1000000 in
theorem fetch_at (A P : Option Addr) (L c K d : Nat) (m : PM) (p : Int) (w : World) (HM : Hid (IsMem w (.agg #[.slice A L c, .slice P K d]) m)) (hL : L ≤ 65536) :
    Calls Tryd.prog 27 #[.agg #[.slice A L c, .slice P K d], .int .i64 p] w fun e w' => e = .returned (.tuple #[.int .i64 (fetchF m p), .int .i64 (cellC L p)]) ∧ Below w.heap.size w w' := by
  obtain ⟨C, hC⟩ : ∃ C, cellC L p = C := ⟨_, rfl⟩
  by_cases h0 : C = 0
  · subst h0
    have ok : okB L p 8 = true := by
      cases e : okB L p 8 with
      | true => rfl
      | false => rw [cellC_no e] at hC; cases hC
    have hok := (okB_iff _ _ _).1 ok
    obtain ⟨q, rfl⟩ := Int.eq_ofNat_of_zero_le (by omega : 0 ≤ p)
    have hq : q + 8 ≤ L := by omega
    obtain ⟨g, o, rfl, hg, hLc, hcl⟩ := mem_cells HM.out (by omega)
    have HF : Hid (fetchF m q = wrap64 (eight (bn m q) (bn m (q + 1)) (bn m (q + 2)) (bn m (q + 3)) (bn m (q + 4)) (bn m (q + 5)) (bn m (q + 6)) (bn m (q + 7)) : Int)) := by unfold fetchF; rw [if_pos (by rw [HM.out.len1]; exact hC)]; rfl
    have HC := Lib.hid hC
    have hne : c ≠ q := by omega
    have HCL := Lib.hid hcl
    clear hC hok ok hcl
    go_enter Tryd.func27, Tryd.ntmps27
    go_wp2_with fail
    refine (cellCode_any _ _ _ _ _ _ _ _ hL).mono ?_
    rw [HC.out]
    rintro e w1 ⟨rfl, b1⟩
    obtain ⟨k0, k1⟩ := box_cells b1
    have HB := Lib.hid (box_below b1)
    clear b1
    go_wp2_with fail
    refine (get_yes ⟨g, o + q, none⟩ _ (bn m q) (bn m (q + 1)) (bn m (q + 2)) (bn m (q + 3)) (bn m (q + 4)) (bn m (q + 5)) (bn m (q + 6)) (bn m (q + 7)) _ (Nat.lt_of_lt_of_le hg HB.out.size) (bn_lt _ _) (bn_lt _ _) (bn_lt _ _) (bn_lt _ _) (bn_lt _ _) (bn_lt _ _) (bn_lt _ _) (bn_lt _ _) (Lib.hid ?_)).mono ?_
    · intro j v hv
      rw [add_at, HB.out.cell (p := ⟨g, o + q + j, none⟩) hg]
      match j, hv with
      | 0, hv => simp at hv; rw [← hv]; exact HCL.out q (by omega)
      | 1, hv => simp at hv; rw [← hv]; exact HCL.out (q + 1) (by omega)
      | 2, hv => simp at hv; rw [← hv]; exact HCL.out (q + 2) (by omega)
      | 3, hv => simp at hv; rw [← hv]; exact HCL.out (q + 3) (by omega)
      | 4, hv => simp at hv; rw [← hv]; exact HCL.out (q + 4) (by omega)
      | 5, hv => simp at hv; rw [← hv]; exact HCL.out (q + 5) (by omega)
      | 6, hv => simp at hv; rw [← hv]; exact HCL.out (q + 6) (by omega)
      | 7, hv => simp at hv; rw [← hv]; exact HCL.out (q + 7) (by omega)
      | j + 8, hv => simp at hv
    rw [← HF.out]
    rintro e w2 ⟨rfl, b2⟩
    have HB2 := Lib.hid b2
    clear b2
    go_wp2_with fail
    go_ret2
    exact ⟨by rw [HC.out]; rfl, below_then HB.out HB2.out⟩
  · have hF : fetchF m p = 0 := by unfold fetchF; rw [if_neg (by rw [HM.out.len1, hC]; exact h0)]
    rw [hF, hC]
    have HC := Lib.hid hC
    have h0' : (C != 0) = true := by simp [h0]
    clear hC hF h0
    go_enter Tryd.func27, Tryd.ntmps27
    go_wp2_with fail
    refine (cellCode_any _ _ _ _ _ _ _ _ hL).mono ?_
    rw [HC.out]
    rintro e w1 ⟨rfl, b1⟩
    have HB := Lib.hid (box_below b1)
    clear b1
    go_wp2_with fail
    go_ret2
    exact ⟨rfl, HB.out⟩

set_option maxRecDepth 100000 in
set_option maxHeartbeats 1000000 in
theorem rfetch_at (A P : Option Addr) (L c K d : Nat) (m : PM) (p : Int) (w : World) (HM : Hid (IsMem w (.agg #[.slice A L c, .slice P K d]) m)) (hL : L ≤ 65536) :
    Calls Tryd.prog 14 #[.agg #[.slice A L c, .slice P K d], .int .i64 p] w fun e w' => e = .returned (.tuple #[.int .i64 (fetchF m p), .int .i64 (cellC L p)]) ∧ Below w.heap.size w w' := by
  obtain ⟨C, hC⟩ : ∃ C, cellC L p = C := ⟨_, rfl⟩
  by_cases h0 : C = 0
  · subst h0
    have ok : okB L p 8 = true := by
      cases e : okB L p 8 with
      | true => rfl
      | false => rw [cellC_no e] at hC; cases hC
    have hok := (okB_iff _ _ _).1 ok
    obtain ⟨q, rfl⟩ := Int.eq_ofNat_of_zero_le (by omega : 0 ≤ p)
    have hq : q + 8 ≤ L := by omega
    obtain ⟨g, o, rfl, hg, hLc, hcl⟩ := mem_cells HM.out (by omega)
    have HF : Hid (fetchF m q = wrap64 (eight (bn m q) (bn m (q + 1)) (bn m (q + 2)) (bn m (q + 3)) (bn m (q + 4)) (bn m (q + 5)) (bn m (q + 6)) (bn m (q + 7)) : Int)) := by unfold fetchF; rw [if_pos (by rw [HM.out.len1]; exact hC)]; rfl
    have HC := Lib.hid hC
    have hne : c ≠ q := by omega
    have HCL := Lib.hid hcl
    clear hC hok ok hcl
    go_enter Tryd.func14, Tryd.ntmps14
    go_wp2_with fail
    refine (rcellAt_any _ _ _ _ _ _ _ _ hL).mono ?_
    rw [HC.out]
    rintro e w1 ⟨rfl, b1⟩
    obtain ⟨k0, k1⟩ := box_cells b1
    have HB := Lib.hid (box_below b1)
    clear b1
    go_wp2_with fail
    have hcl : ∀ j, j < 8 → w1.cell? ⟨g, o + q + j, none⟩ = some (.int .u8 (bn m (q + j) : Int)) := fun j hj => by
      rw [HB.out.cell (p := ⟨g, o + q + j, none⟩) hg, Nat.add_assoc]
      exact HCL.out (q + j) (by omega)
    refine (rget_yes g (o + q) _ (bn m q) (bn m (q + 1)) (bn m (q + 2)) (bn m (q + 3)) (bn m (q + 4)) (bn m (q + 5)) (bn m (q + 6)) (bn m (q + 7)) _ (bn_lt _ _) (bn_lt _ _) (bn_lt _ _) (bn_lt _ _) (bn_lt _ _) (bn_lt _ _) (bn_lt _ _) (bn_lt _ _) (hcl 0 (by omega)) (hcl 1 (by omega)) (hcl 2 (by omega)) (hcl 3 (by omega)) (hcl 4 (by omega)) (hcl 5 (by omega)) (hcl 6 (by omega)) (hcl 7 (by omega))).mono ?_
    clear hcl
    rw [← HF.out]
    rintro e w2 ⟨rfl, rfl⟩
    go_wp2_with fail
    go_ret2
    exact ⟨by rw [HC.out]; rfl, HB.out⟩
  · have hF : fetchF m p = 0 := by unfold fetchF; rw [if_neg (by rw [HM.out.len1, hC]; exact h0)]
    rw [hF, hC]
    have HC := Lib.hid hC
    have h0' : (C != 0) = true := by simp [h0]
    clear hC hF h0
    go_enter Tryd.func14, Tryd.ntmps14
    go_wp2_with fail
    refine (rcellAt_any _ _ _ _ _ _ _ _ hL).mono ?_
    rw [HC.out]
    rintro e w1 ⟨rfl, b1⟩
    have HB := Lib.hid (box_below b1)
    clear b1
    go_wp2_with fail
    go_ret2
    exact ⟨rfl, HB.out⟩

end Go.Proofs.YtbighilgkmfemaaDoor

/- Contracts of Mark, Free, New and Store of package mem. -/
namespace Go.Proofs.YtbighilgkmfemaaDoor
open Go.RowKit

/-- A memory's two slices. -/
theorem IsMem.slices {w : World} {x y : Value} {m : PM} (h : IsMem w (.agg #[x, y]) m) : ∃ A n c P k d, x = .slice A n c ∧ y = .slice P k d := by
  obtain ⟨A, c, P, d, e, _, _⟩ := h.parts
  injection e with e
  simp at e
  exact ⟨A, _, c, P, _, d, e.1, e.2⟩

/-- What a call's frame holds while it calls: its memory in one block, its result in the next. -/
def Fr (w : World) (A P : Option Addr) (L c K d : Nat) (w' : World) : Prop := Below w.heap.size w w' ∧ Box w' w.heap.size (.slice A L c) (.slice P K d) 28 ∧ Box w' (w.heap.size + 1) (.slice none 0 0) (.slice none 0 0) 28
theorem Fr.keep {w w1 w2 : World} {A P : Option Addr} {L c K d : Nat} (h : Fr w A P L c K d w1) (b : Below w1.heap.size w1 w2) : Fr w A P L c K d w2 := ⟨below_then h.1 b, h.2.1.keep b, h.2.2.keep b⟩
theorem Fr.bel {w w1 : World} {A P : Option Addr} {L c K d : Nat} (h : Fr w A P L c K d w1) : Below w.heap.size w w1 := h.1
theorem Fr.drew {w w1 : World} {A P : Option Addr} {L c K d : Nat} (h : Fr w A P L c K d w1) : Fr w A P L c K d w1.drew := ⟨h.1.drew, h.2.1, h.2.2⟩
theorem fr_two {w w1 : World} {A P : Option Addr} {L c K d : Nat} (b : Below ((w.alloc (.cells #[.slice A L c, .slice P K d] 28)).alloc (.cells #[.slice none 0 0, .slice none 0 0] 28)).heap.size ((w.alloc (.cells #[.slice A L c, .slice P K d] 28)).alloc (.cells #[.slice none 0 0, .slice none 0 0] 28)) w1) : Fr w A P L c K d w1 :=
  ⟨below_two b, (box_two w _ _ _ _ _ _).1.keep b, (box_two w _ _ _ _ _ _).2.keep b⟩
theorem Fr.put {w w1 : World} {A P : Option Addr} {L c K d : Nat} (h : Fr w A P L c K d w1) (x y : Value) : Below w.heap.size w ((w1.setCell ⟨w.heap.size + 1, 0, none⟩ x).setCell ⟨w.heap.size + 1, 1, none⟩ y) := (h.1.setCell (by simp) _).setCell (by simp) _
theorem Fr.mem {w w1 : World} {A P : Option Addr} {L c K d : Nat} (h : Fr w A P L c K d w1) {v : Value} {m : PM} (k : IsMem w1 v m) (x y : Value) : IsMem ((w1.setCell ⟨w.heap.size + 1, 0, none⟩ x).setCell ⟨w.heap.size + 1, 1, none⟩ y) v m := k.row h.2.2 (row_put _ _ _ _)

def newF (n : Int) : PM := if newOk n = true then (List.replicate n.toNat 0, []) else ([], [])
def newC (n : Int) : Int := if newOk n = true then 0 else -24
theorem made_u8 (n : Nat) : (madeCells (Value.int .u8 0).cells n) = (u8s (List.replicate n 0)).toArray := by
  apply Array.ext
  · simp [madeCells, u8s]
  · intro i h1 h2
    have e : i % 1 = 0 := by omega
    simp [madeCells, u8s, Value.cells, e]
def storeF (m : PM) (p n : Int) : PM := if cellC m.1.length p = 0 then writeF m p (cellBytes n) else m
theorem store_ok {L : Nat} {p : Int} (h : cellC L p = 0) : okB L p 8 = true := by
  cases e : okB L p 8 with
  | true => rfl
  | false => rw [cellC_no e] at h; cases h

/-- Its frame, whatever its result holds. -/
def Fw (w : World) (A P : Option Addr) (L c K d : Nat) (w' : World) : Prop := Below w.heap.size w w' ∧ Box w' w.heap.size (.slice A L c) (.slice P K d) 28 ∧ ∃ A0 n0 c0 P0 k0 d0, Box w' (w.heap.size + 1) (.slice A0 n0 c0) (.slice P0 k0 d0) 28
theorem Fw.bel {w w1 : World} {A P : Option Addr} {L c K d : Nat} (h : Fw w A P L c K d w1) : Below w.heap.size w w1 := h.1
theorem Fw.res {w w1 : World} {A P : Option Addr} {L c K d : Nat} (h : Fw w A P L c K d w1) : ∃ A0 n0 c0 P0 k0 d0, Box w1 (w.heap.size + 1) (.slice A0 n0 c0) (.slice P0 k0 d0) 28 := h.2.2
theorem fwS {w w1 : World} {A P : Option Addr} {L c K d : Nat} (h : Fr w A P L c K d w1) : w1.cell? ⟨w.heap.size, 0, none⟩ = some (.slice A L c) ∧ w1.cell? ⟨w.heap.size, 1, none⟩ = some (.slice P K d) ∧ Fw w A P L c K d w1 :=
  ⟨h.2.1.use.1, h.2.1.use.2.1, h.1, h.2.1, _, _, _, _, _, _, h.2.2⟩
theorem fwK {w w1 w2 : World} {A P : Option Addr} {L c K d : Nat} (h : w1.cell? ⟨w.heap.size, 0, none⟩ = some (.slice A L c) ∧ w1.cell? ⟨w.heap.size, 1, none⟩ = some (.slice P K d) ∧ Fw w A P L c K d w1) (b : Below w1.heap.size w1 w2) : w2.cell? ⟨w.heap.size, 0, none⟩ = some (.slice A L c) ∧ w2.cell? ⟨w.heap.size, 1, none⟩ = some (.slice P K d) ∧ Fw w A P L c K d w2 := by
  obtain ⟨_, _, h1, h2, A0, n0, c0, P0, k0, d0, h3⟩ := h
  have h2' := h2.keep b
  exact ⟨h2'.use.1, h2'.use.2.1, below_then h1 b, h2', _, _, _, _, _, _, h3.keep b⟩
theorem fwP {w w1 : World} {A P : Option Addr} {L c K d : Nat} (h : w1.cell? ⟨w.heap.size, 0, none⟩ = some (.slice A L c) ∧ w1.cell? ⟨w.heap.size, 1, none⟩ = some (.slice P K d) ∧ Fw w A P L c K d w1) (A' P' : Option Addr) (L' c' K' d' : Nat) : ((w1.setCell ⟨w.heap.size + 1, 0, none⟩ (.slice A' L' c')).setCell ⟨w.heap.size + 1, 1, none⟩ (.slice P' K' d')).cell? ⟨w.heap.size, 0, none⟩ = some (.slice A L c) ∧ ((w1.setCell ⟨w.heap.size + 1, 0, none⟩ (.slice A' L' c')).setCell ⟨w.heap.size + 1, 1, none⟩ (.slice P' K' d')).cell? ⟨w.heap.size, 1, none⟩ = some (.slice P K d) ∧ Fw w A P L c K d ((w1.setCell ⟨w.heap.size + 1, 0, none⟩ (.slice A' L' c')).setCell ⟨w.heap.size + 1, 1, none⟩ (.slice P' K' d')) := by
  obtain ⟨_, _, h1, h2, A0, n0, c0, P0, k0, d0, h3⟩ := h
  have h2' := h2.row (row_put w1 (w.heap.size + 1) (.slice A' L' c') (.slice P' K' d')) (by omega)
  exact ⟨h2'.use.1, h2'.use.2.1, (h1.setCell (by simp) _).setCell (by simp) _, h2', _, _, _, _, _, _, h3.put _ _⟩

set_option maxRecDepth 100000 in
set_option maxHeartbeats 2000000 in
theorem free_at (A P : Option Addr) (L c K d : Nat) (w : World) :
    Calls Tryd.prog 56 #[.agg #[.slice A L c, .slice P K d]] w fun e w' => e = .returned (.agg #[.slice A L c, .slice none 0 0]) ∧ Below w.heap.size w w' := by
  go_enter Tryd.func56, Tryd.ntmps56
  go_wp2
  refine bodyPost_ret (v := .agg #[.slice A L c, .slice none 0 0]) ?_ rfl ?_
  · simp [results, Tryd.results56, go_sem]
  · exact ⟨rfl, ((Below.refl _ _).alloc (Nat.le_refl _) _).alloc (by simp) _⟩

set_option maxRecDepth 100000 in
set_option maxHeartbeats 2000000 in
theorem new_any (n : Int) (w : World) :
    Calls Tryd.prog 52 #[.int .i64 n] w fun e w' => ∃ A L c P K d, e = .returned (.tuple #[.agg #[.slice A L c, .slice P K d], .int .i64 (newC n)]) ∧ IsMem w' (.agg #[.slice A L c, .slice P K d]) (newF n) ∧ Below w.heap.size w w' := by
  by_cases h : newOk n = true
  · have HC : Hid (newC n = 0) := if_pos h
    have HF : Hid (newF n = (List.replicate n.toNat 0, [])) := if_pos h
    have h' := h
    unfold newOk at h'
    rw [decide_eq_true_eq] at h'
    obtain ⟨h1, h2, h3⟩ := h'
    obtain ⟨k, rfl⟩ := Int.eq_ofNat_of_zero_le (by omega : 0 ≤ n)
    have h4 : decide ((k : Int) < 8) = false := by simp; omega
    have h5 : decide ((65536 : Int) < (k : Int)) = false := by simp; omega
    have h6 : ((k : Int) % 8 != 0) = false := by simp [h3]
    obtain ⟨i0, hi, hz0, hz1, hz2⟩ := info_parts info_u8
    obtain ⟨Z, hZ⟩ : ∃ Z, Z = (u8s (List.replicate k 0)).toArray := ⟨_, rfl⟩
    have hmk : ∀ w : World, (Instr.makeSlice 25 (.int .i64 (k : Int)) (.int .i64 (k : Int))).run Tryd.prog w = .ok (.slice (some ⟨w.heap.size, 0, none⟩) k k) (w.alloc (.cells Z 5)) := by
      intro w
      have := run_make (P := Tryd.prog) w 25 5 i0 (.int .u8 0) Tryd.underlying25 hi hz0 .i64 .i64 k k (by omega) (Int.le_refl _) (by rw [hz2]; omega) (by omega)
      rw [hz1, Nat.mul_one, Int.toNat_natCast, made_u8] at this
      rw [hZ]
      exact this
    have HZ := Lib.hid hZ
    rw [HC.out]
    clear hZ h h3 hi hz0 hz1 hz2
    go_enter Tryd.func52, Tryd.ntmps52
    go_wp2
    refine bodyPost_ret (v := .tuple #[.agg #[.slice (some ⟨w.heap.size + 1, 0, none⟩) k k, .slice none 0 0], .int .i64 0]) ?_ rfl ?_
    · simp [results, Tryd.results52, go_sem]
    · refine ⟨_, _, _, _, _, _, rfl, ?_, ((Below.refl _ _).alloc (Nat.le_refl _) _).alloc (by simp) _⟩
      rw [HF.out, HZ.out]
      refine mem_mk ?_ (pats_nil _)
      have e : (List.replicate k (0 : UInt8)).length = k := by simp
      have := byt_block (w := (w.alloc (.cells #[.slice (some ⟨w.heap.size + 1, 0, none⟩) k k, .slice none 0 0] 28)).alloc (.cells (u8s (List.replicate k 0)).toArray 5)) (g := w.heap.size + 1) (l := List.replicate k 0) (t := 5) (two_new _ _ _ _ _).1 (by rw [e]; omega)
      rw [e] at this
      simpa using this
  · have hn : newOk n = false := by simpa using h
    have HC : Hid (newC n = -24) := if_neg h
    have HF : Hid (newF n = ([], [])) := if_neg h
    rw [HC.out]
    have HN : Hid (¬ (8 ≤ n ∧ n ≤ 65536 ∧ n % 8 = 0)) := by unfold newOk at hn; exact of_decide_eq_false hn
    have hfin : ∀ w' : World, IsMem w' (.agg #[.slice none 0 0, .slice none 0 0]) (newF n) := fun w' => by rw [HF.out]; exact mem_mk (byt_nil _) (pats_nil _)
    have HFIN := Lib.hid hfin
    clear hn h hfin
    by_cases h1 : n < 8
    · go_enter Tryd.func52, Tryd.ntmps52
      go_wp2
      refine bodyPost_ret (v := .tuple #[.agg #[.slice none 0 0, .slice none 0 0], .int .i64 (-24)]) ?_ rfl ?_
      · simp [results, Tryd.results52, go_sem]
      · exact ⟨_, _, _, _, _, _, rfl, HFIN.out _, (Below.refl _ _).alloc (Nat.le_refl _) _⟩
    · have h1' : decide (n < 8) = false := by simp; omega
      by_cases h2 : 65536 < n
      · go_enter Tryd.func52, Tryd.ntmps52
        go_wp2
        refine bodyPost_ret (v := .tuple #[.agg #[.slice none 0 0, .slice none 0 0], .int .i64 (-24)]) ?_ rfl ?_
        · simp [results, Tryd.results52, go_sem]
        · exact ⟨_, _, _, _, _, _, rfl, HFIN.out _, (Below.refl _ _).alloc (Nat.le_refl _) _⟩
      · have h2' : decide ((65536 : Int) < n) = false := by simp; omega
        have h3 : n % 8 ≠ 0 := by have := HN.out; omega
        have h3' : (n % 8 != 0) = true := by simp [h3]
        have h0 : 0 ≤ n := by omega
        clear h3 h1 h2
        go_enter Tryd.func52, Tryd.ntmps52
        go_wp2
        refine bodyPost_ret (v := .tuple #[.agg #[.slice none 0 0, .slice none 0 0], .int .i64 (-24)]) ?_ rfl ?_
        · simp [results, Tryd.results52, go_sem]
        · exact ⟨_, _, _, _, _, _, rfl, HFIN.out _, (Below.refl _ _).alloc (Nat.le_refl _) _⟩

/-- Write, with its memory's slices told. -/
theorem write_sl (v u : Value) (m : PM) (b : List UInt8) (p : Int) (w : World) (h : IsMem w v m) (hu : Byt w u b) (hL : m.1.length ≤ 65536) (hK : m.2.length < 1000) (hb : b.length ≤ 65536) :
    Calls Tryd.prog 55 #[v, .int .i64 p, u] w fun e w' => ∃ A L c P K d, e = .returned (.tuple #[.agg #[.slice A L c, .slice P K d], .int .i64 (codeF (okB m.1.length p b.length))]) ∧ IsMem w' (.agg #[.slice A L c, .slice P K d]) (writeF m p b) ∧ Below w.heap.size w w' := by
  refine (write_any v u m b p w h hu hL hK hb).mono fun e w' ⟨x, y, he, hm, hw⟩ => ?_
  obtain ⟨A, n, c, P, k, d, rfl, rfl⟩ := hm.slices
  exact ⟨A, n, c, P, k, d, he, hm, hw⟩

set_option maxRecDepth 100000 in
set_option maxHeartbeats 2000000 in
theorem store_at (A P : Option Addr) (L c K d : Nat) (m : PM) (p n : Int) (w : World) (HM : Hid (IsMem w (.agg #[.slice A L c, .slice P K d]) m)) (hL : L ≤ 65536) (hK : K < 1000) :
    Calls Tryd.prog 81 #[.agg #[.slice A L c, .slice P K d], .int .i64 p, .int .i64 n] w fun e w' => ∃ A' L' c' P' K' d', e = .returned (.tuple #[.agg #[.slice A' L' c', .slice P' K' d'], .int .i64 (cellC L p)]) ∧ IsMem w' (.agg #[.slice A' L' c', .slice P' K' d']) (storeF m p n) ∧ Below w.heap.size w w' := by
  obtain ⟨C, hC⟩ : ∃ C, cellC L p = C := ⟨_, rfl⟩
  by_cases h0 : C = 0
  · subst h0
    have HF : Hid (storeF m p n = writeF m p (cellBytes n)) := by unfold storeF; rw [if_pos (by rw [HM.out.len1]; exact hC)]; rfl
    have ok : okB m.1.length p (cellBytes n).length = true := by rw [HM.out.len1, cellBytes_len]; exact store_ok hC
    have CW : Hid (∀ (w1 : World) (B : Option Addr) (k e : Nat), IsMem w1 (.agg #[.slice A L c, .slice P K d]) m → Byt w1 (.slice B k e) (cellBytes n) → Calls Tryd.prog 55 #[.agg #[.slice A L c, .slice P K d], .int .i64 p, .slice B k e] w1 fun e w' => ∃ A' L' c' P' K' d', e = .returned (.tuple #[.agg #[.slice A' L' c', .slice P' K' d'], .int .i64 0]) ∧ IsMem w' (.agg #[.slice A' L' c', .slice P' K' d']) (writeF m p (cellBytes n)) ∧ Below w1.heap.size w1 w') := by
      intro w1 B k e hm hb
      have := write_sl _ _ m (cellBytes n) p w1 hm hb (by rw [HM.out.len1]; exact hL) (by rw [HM.out.len2]; exact hK) (by rw [cellBytes_len]; omega)
      rw [ok, codeF_yes] at this
      exact this
    rw [HF.out, hC]
    have HC := Lib.hid hC
    clear hC ok
    go_enter Tryd.func81, Tryd.ntmps81
    go_wp2_with fail
    refine (cellCode_any _ _ _ _ _ _ _ _ hL).mono ?_
    rw [HC.out]
    rintro e w1 ⟨rfl, b1⟩
    have F1 := fr_two b1
    clear b1
    go_wp2_with fail
    refine wp_region_noPanic ?_
    go_region_held (fun w' => w'.cell? ⟨w.heap.size, 0, none⟩ = some (.slice A L c) ∧ w'.cell? ⟨w.heap.size, 1, none⟩ = some (.slice P K d) ∧ Fw w A P L c K d w') (first | assumption | exact fwS F1.drew | exact fwP (by assumption) _ _ _ _ _ _)
      (first | (go_at_call 93; ((with_reducible refine (put_byt _ _).mono ?_); rintro e w2 ⟨B, k, e', rfl, hu2, b2⟩; have s2 := fwK (by assumption) b2)) | (go_at_call 55; ((with_reducible refine (CW.out _ _ _ _ (HM.out.keep s2.2.2.bel) hu2).mono ?_); rintro e w3 ⟨A', L', c', P', K', d', rfl, hm3, b3⟩; have s3 := fwK (by assumption) b3; obtain ⟨A0, n0, c0, P0, k0, d0, hres⟩ := s3.2.2.res; obtain ⟨q2, q3, q4, q5⟩ := hres.use)))
    all_goals (refine NoPanic.normal ?_)
    all_goals go_wp2
    all_goals refine bodyPost_ret (v := .tuple #[.agg #[.slice A' L' c', .slice P' K' d'], .int .i64 0]) ?_ rfl ?_
    · obtain ⟨r0, r1⟩ := hres.got (.slice A' L' c') (.slice P' K' d')
      simp [results, Tryd.results81, go_sem, r0, r1]
    · exact ⟨_, _, _, _, _, _, rfl, hm3.row hres (row_put _ _ _ _), (s3.2.2.bel.setCell (by simp) _).setCell (by simp) _⟩
  · have hF : storeF m p n = m := by unfold storeF; rw [if_neg (by rw [HM.out.len1, hC]; exact h0)]
    rw [hF, hC]
    have HC := Lib.hid hC
    have h0' : (C != 0) = true := by simp [h0]
    clear hC hF h0
    go_enter Tryd.func81, Tryd.ntmps81
    go_wp2_with fail
    refine (cellCode_any _ _ _ _ _ _ _ _ hL).mono ?_
    rw [HC.out]
    rintro e w1 ⟨rfl, b1⟩
    have F1 := Lib.hid (fr_two b1)
    obtain ⟨q0, q1, _, _⟩ := (fr_two b1).2.1.use
    obtain ⟨q2, q3, q4, q5⟩ := (fr_two b1).2.2.use
    clear b1
    go_wp2_with fail
    refine bodyPost_ret (v := .tuple #[.agg #[.slice A L c, .slice P K d], .int .i64 C]) ?_ rfl ?_
    · obtain ⟨r0, r1⟩ := F1.out.2.2.got (.slice A L c) (.slice P K d)
      simp [results, Tryd.results81, go_sem, r0, r1]
    · exact ⟨_, _, _, _, _, _, rfl, F1.out.mem (HM.out.keep F1.out.1) _ _, F1.out.put _ _⟩

end Go.Proofs.YtbighilgkmfemaaDoor

/- Contracts of Right of package mem, and of the document's own Few, Right and May. -/
namespace Go.Proofs.YtbighilgkmfemaaDoor
open Go.RowKit

/-- A patch of a memory, as it lies. -/
theorem mem_patch {w : World} {P : Option Addr} {K d : Nat} {x : Value} {m : PM} (h : IsMem w (.agg #[x, .slice P K d]) m) {j : Nat} (hj : j < K) :
    ∃ g o B n e p, P = some ⟨g, o, none⟩ ∧ g < w.heap.size ∧ m.2[j]? = some p ∧ w.cell? ⟨g, o + j * 2, none⟩ = some (.int .i64 p.1) ∧ w.cell? ⟨g, o + j * 2 + 1, none⟩ = some (.slice B n e) ∧ Byt w (.slice B n e) p.2 ∧ n ≤ maxLen ∧ K ≤ d := by
  have hl := h.len2
  have hp : m.2[j]? = some (m.2[j]'(by omega)) := List.getElem?_eq_getElem (by omega)
  obtain ⟨A', c', qs, e, hk, _, hlies, ht⟩ := h.pats
  injection e with e1 _ e3
  subst e1 e3
  obtain ⟨v, hq, hb⟩ := ht.at_ hp
  obtain ⟨B, c, rfl⟩ := hb.form
  have hlen := pc_at qs j _ hq
  rcases hlies with e | ⟨g, o, rfl, hg, hc⟩
  · rw [e] at hlen
    simp at hlen
  · have hm : (m.2[j]'(by omega)).2.length ≤ maxLen := by
      obtain ⟨A2, c2, e2, h2, h3, _⟩ := hb
      omega
    refine ⟨g, o, B, _, c, _, rfl, hg, hp, ?_, ?_, hb, hm, by omega⟩
    · have := hc (2 * j) _ hlen.1
      rw [Nat.mul_comm j 2]
      exact this
    · have := hc (2 * j + 1) _ hlen.2
      rw [Nat.mul_comm j 2, Nat.add_assoc]
      exact this
theorem all_take_step {α : Type} {f : α → Bool} {l : List α} {j : Nat} {p : α} (h : l[j]? = some p) : (l.take (j + 1)).all f = ((l.take j).all f && f p) := by
  have hj : j < l.length := (List.getElem?_eq_some_iff.1 h).1
  have e : l[j] = p := (List.getElem?_eq_some_iff.1 h).2
  rw [List.take_succ_eq_append_getElem hj, List.all_append, e]
  simp
theorem all_no {α : Type} {f : α → Bool} {l : List α} {j : Nat} {p : α} (h : l[j]? = some p) (hf : f p = false) : l.all f = false := by
  rw [List.all_eq_false]
  exact ⟨p, List.mem_of_getElem? h, by simp [hf]⟩
theorem IsMem.big {w : World} {A P : Option Addr} {L c K d : Nat} {m : PM} (h : IsMem w (.agg #[.slice A L c, .slice P K d]) m) : L ≤ maxLen ∧ K ≤ maxLen := by
  have h1 := h.byt
  have h2 := h.pats
  obtain ⟨_, _, e, h3, h4, _⟩ := h1
  obtain ⟨_, _, _, e', h5, h6, _⟩ := h2
  injection e with _ e _
  injection e' with _ e' _
  omega

theorem rightB_eq (m : PM) (L : Nat) (h : m.1.length = L) : rightB m = (decide (L ≤ 65536) && decide (L % 8 = 0) && m.2.all (rightP L)) := by subst h; rfl

/-- A frame with its memory in one block. -/
def Rt (w : World) (A P : Option Addr) (L c K d : Nat) (w' : World) : Prop := Below w.heap.size w w' ∧ Box w' w.heap.size (.slice A L c) (.slice P K d) 28
theorem Rt.bel {w w1 : World} {A P : Option Addr} {L c K d : Nat} (h : Rt w A P L c K d w1) : Below w.heap.size w w1 := h.1
theorem Rt.box {w w1 : World} {A P : Option Addr} {L c K d : Nat} (h : Rt w A P L c K d w1) : Box w1 w.heap.size (.slice A L c) (.slice P K d) 28 := h.2
theorem Rt.keep {w w1 w2 : World} {A P : Option Addr} {L c K d : Nat} (h : Rt w A P L c K d w1) (b : Below w1.heap.size w1 w2) : Rt w A P L c K d w2 := ⟨below_then h.1 b, h.2.keep b⟩
theorem Rt.drew {w w1 : World} {A P : Option Addr} {L c K d : Nat} (h : Rt w A P L c K d w1) : Rt w A P L c K d w1.drew := ⟨h.1.drew, h.2⟩
theorem rt_new (w : World) (A P : Option Addr) (L c K d : Nat) : Rt w A P L c K d (w.alloc (.cells #[.slice A L c, .slice P K d] 28)) := ⟨(Below.refl _ _).alloc (Nat.le_refl _) _, box_new _ _ _ _⟩

set_option maxRecDepth 100000 in
set_option maxHeartbeats 2000000 in
theorem right_at (A P : Option Addr) (L c K d : Nat) (m : PM) (w : World) (HM : Hid (IsMem w (.agg #[.slice A L c, .slice P K d]) m)) :
    Calls Tryd.prog 74 #[.agg #[.slice A L c, .slice P K d]] w fun e w' => e = .returned (.bool (rightB m)) ∧ Below w.heap.size w w' := by
  have hbig := HM.out.big
  unfold maxLen at hbig
  obtain ⟨hL, hK⟩ := hbig
  have H := Lib.hid (rightB_eq m L HM.out.len1)
  by_cases h1 : 65536 < L
  · have H2 : Hid (rightB m = false) := by rw [H.out, decide_eq_false (by omega)]; rfl
    rw [H2.out]
    have h1' : (65536 : Int) < (L : Int) := by omega
    go_enter Tryd.func74, Tryd.ntmps74
    go_wp2
    go_ret
    exact ⟨rfl, (Below.refl _ _).alloc (Nat.le_refl _) _⟩
  · have h1' : decide ((65536 : Int) < (L : Int)) = false := by simp; omega
    by_cases h2 : L % 8 = 0
    · have h2' : ((L : Int) % 8 != 0) = false := by simp; omega
      have H2 : Hid (rightB m = m.2.all (rightP L)) := by rw [H.out, decide_eq_true (by omega), decide_eq_true h2]; simp [Hid]
      rw [H2.out]
      clear h1 h2 H H2
      go_enter Tryd.func74, Tryd.ntmps74
      go_wp2
      go_loopw [19] (fun i wr => ∃ j : Nat, j ≤ K ∧ i = .int .i64 (j : Int) ∧ Hid ((m.2.take j).all (rightP L) = true) ∧ Rt w A P L c K d wr) (fun i _ => K - (intOf i).toNat)
      case atStart => exact ⟨0, Nat.zero_le _, rfl, by simp [Hid], rt_new _ _ _ _ _ _ _⟩
      case round =>
        obtain ⟨j, hj, rfl, hall, hrt⟩ := hrel
        by_cases hlt : j < K
        · obtain ⟨g, o, B, n, e, p, rfl, hg, hp, hc1, hc2, hby, hn, hKd⟩ := mem_patch HM.out hlt
          have hd1 : wr.cell? ⟨g, o + j * 2, none⟩ = some (.int .i64 p.1) := (hrt.bel.cell (p := ⟨g, o + j * 2, none⟩) hg).trans hc1
          have hd2 : wr.cell? ⟨g, o + j * 2 + 1, none⟩ = some (.slice B n e) := (hrt.bel.cell (p := ⟨g, o + j * 2 + 1, none⟩) hg).trans hc2
          obtain ⟨q0, q1, _, _⟩ := hrt.box.use
          have hlt1 := hrt.box.lt
          have HP := Lib.hid hp
          have HR : Hid (rightP L p = okB L p.1 n) := by unfold rightP; rw [hby.len]; rfl
          have HRT := Lib.hid hrt
          obtain ⟨p1, hp1⟩ : ∃ p1, p.1 = p1 := ⟨_, rfl⟩
          rw [hp1] at hd1 HR
          unfold maxLen at hn
          clear hp hby hc1 hc2 hrt hp1
          cases ok : okB L p1 n with
          | true =>
            have HA : Hid ((m.2.take (j + 1)).all (rightP L) = true) := by rw [all_take_step HP.out, hall.out, HR.out, ok]; rfl
            go_wp2_with fail
            refine (there_any _ _ _ _ _ _ _ _ _ (by omega) (by omega)).mono ?_
            rw [ok]
            rintro e w2 ⟨rfl, b2⟩
            have HRT2 := Lib.hid (HRT.out.keep (box_below b2))
            clear b2 q0 q1 hd1 hd2
            go_wp2_with fail
            go_roundw
            case rel => exact ⟨j + 1, by omega, by go_num, HA.out, HRT2.out⟩
            case measure => simp [intOf]; omega
          | false =>
            have HA : Hid (m.2.all (rightP L) = false) := all_no HP.out (by rw [HR.out, ok])
            go_wp2_with fail
            refine (there_any _ _ _ _ _ _ _ _ _ (by omega) (by omega)).mono ?_
            rw [ok]
            rintro e w2 ⟨rfl, b2⟩
            have HRT2 := Lib.hid (HRT.out.keep (box_below b2))
            clear b2 q0 q1 hd1 hd2
            go_wp2_with fail
            go_ret
            exact ⟨ret_bool HA.out.symm, HRT2.out.bel⟩
        · have hjk : j = K := by omega
          subst hjk
          have hl := HM.out.len2
          have HR : Hid (m.2.all (rightP L) = true) := by
            have := hall.out
            rw [List.take_of_length_le (by omega)] at this
            exact this
          have HRT := Lib.hid hrt
          clear hl hrt
          go_wp2
          go_ret
          exact ⟨ret_bool HR.out.symm, HRT.out.bel⟩
    · have h2' : ((L : Int) % 8 != 0) = true := by simp; omega
      have H2 : Hid (rightB m = false) := by rw [H.out, decide_eq_false h2]; simp [Hid]
      rw [H2.out]
      clear h1 h2 H H2
      go_enter Tryd.func74, Tryd.ntmps74
      go_wp2
      go_ret
      exact ⟨rfl, (Below.refl _ _).alloc (Nat.le_refl _) _⟩
end Go.Proofs.YtbighilgkmfemaaDoor
