/- The contract of Write of package mem. -/
import Derived.Test.YtekfemkoiadipaaMemWalksC
namespace Go.Proofs.Ytekfemkoiadipaa
open Go.RowKit

/-- A block of two cells. -/
def Box (w : World) (b : Nat) (x y : Value) (t : TypeId) : Prop := w.heap[b]? = some (.cells #[x, y] t (0, 0))
theorem Box.lt {w : World} {b : Nat} {x y : Value} {t : TypeId} (h : Box w b x y t) : b < w.heap.size := (Array.getElem?_eq_some_iff.1 h).1
theorem Box.keep {w w' : World} {b : Nat} {x y : Value} {t : TypeId} (h : Box w b x y t) (k : Below w.heap.size w w') : Box w' b x y t := (k.block b h.lt).trans h
theorem Box.row {w w' : World} {b g : Nat} {x y : Value} {t : TypeId} (h : Box w b x y t) (k : RowSet g w w') (hb : b ≠ g) : Box w' b x y t := (k.other b hb).trans h
theorem Box.use {w : World} {b : Nat} {x y : Value} {t : TypeId} (h : Box w b x y t) : w.cell? ⟨b, 0, none⟩ = some x ∧ w.cell? ⟨b, 1, none⟩ = some y ∧ w.frozen? ⟨b, 0, none⟩ = false ∧ w.frozen? ⟨b, 1, none⟩ = false := by
  unfold Box at h
  refine ⟨?_, ?_, ?_, ?_⟩ <;> simp [World.cell?, World.frozen?, h]
theorem box_new (w : World) (x y : Value) (t : TypeId) : Box (w.alloc (.cells #[x, y] t)) w.heap.size x y t := one_new w _ t
theorem box_two (w : World) (x y x' y' : Value) (t t' : TypeId) : Box ((w.alloc (.cells #[x, y] t)).alloc (.cells #[x', y'] t')) w.heap.size x y t ∧ Box ((w.alloc (.cells #[x, y] t)).alloc (.cells #[x', y'] t')) (w.heap.size + 1) x' y' t' :=
  ⟨(two_new w _ _ _ _).2, (two_new w _ _ _ _).1⟩
theorem below_two {w w1 : World} {o o' : Obj} (b : Below ((w.alloc o).alloc o').heap.size ((w.alloc o).alloc o') w1) : Below w.heap.size w w1 :=
  (((Below.refl _ w).alloc (Nat.le_refl _) o).alloc (by simp) o').trans (b.mono (by simp; omega))

theorem Box.put {w : World} {b : Nat} {x y : Value} {t : TypeId} (h : Box w b x y t) (x' y' : Value) : Box ((w.setCell ⟨b, 0, none⟩ x').setCell ⟨b, 1, none⟩ y') b x' y' t := by
  have h1 : (w.setCell ⟨b, 0, none⟩ x').heap[b]? = some (.cells (#[x, y].setIfInBounds 0 x') t (0, 0)) := Go.Joins.block_setCell h x'
  have h2 := Go.Joins.block_setCell (i := 1) h1 y'
  simpa [Box] using h2
theorem Box.got {w : World} {b : Nat} {x y : Value} {t : TypeId} (h : Box w b x y t) (x' y' : Value) : (w.setCell ⟨b, 0, none⟩ x').cell? ⟨b, 0, none⟩ = some x' ∧ ((w.setCell ⟨b, 0, none⟩ x').setCell ⟨b, 1, none⟩ y').cell? ⟨b, 1, none⟩ = some y' := by
  constructor
  · have h1 : (w.setCell ⟨b, 0, none⟩ x').heap[b]? = some (.cells (#[x, y].setIfInBounds 0 x') t (0, 0)) := Go.Joins.block_setCell h x'
    simp [World.cell?, h1]
  · exact (h.put x' y').use.2.1
theorem Byt.len {w : World} {A : Option Addr} {n c : Nat} {l : List UInt8} (h : Byt w (.slice A n c) l) : l.length = n := by
  obtain ⟨A', c', e, _⟩ := h
  injection e with _ e _
  exact e.symm
theorem Byt.lies {w : World} {A : Option Addr} {n c : Nat} {l : List UInt8} (h : Byt w (.slice A n c) l) : Lies w A (u8s l) := by
  obtain ⟨A', c', e, _, _, hl⟩ := h
  injection e with e _ _
  subst e
  exact hl
theorem Byt.form {w : World} {u : Value} {l : List UInt8} (h : Byt w u l) : ∃ A c, u = .slice A l.length c := by
  obtain ⟨A, c, e, _⟩ := h
  exact ⟨A, c, e⟩
theorem IsMem.byt {w : World} {x y : Value} {m : PM} (h : IsMem w (.agg #[x, y]) m) : Byt w x m.1 := by
  obtain ⟨x', y', e, hb, _⟩ := h
  injection e with e
  simp at e
  rw [e.1]
  exact hb
theorem IsMem.pats {w : World} {x y : Value} {m : PM} (h : IsMem w (.agg #[x, y]) m) : Pats w y m.2 := by
  obtain ⟨x', y', e, _, hb⟩ := h
  injection e with e
  simp at e
  rw [e.2]
  exact hb
theorem IsMem.len1 {w : World} {A : Option Addr} {L c : Nat} {y : Value} {m : PM} (h : IsMem w (.agg #[.slice A L c, y]) m) : m.1.length = L := h.byt.len
theorem IsMem.len2 {w : World} {P : Option Addr} {K d : Nat} {x : Value} {m : PM} (h : IsMem w (.agg #[x, .slice P K d]) m) : m.2.length = K := by
  obtain ⟨A', c', qs, e, _⟩ := h.pats
  injection e with _ e _
  exact e.symm
theorem IsMem.patq {w : World} {P : Option Addr} {K d : Nat} {x : Value} {m : PM} (h : IsMem w (.agg #[x, .slice P K d]) m) : ∃ qs : List Qt, Hid (qs.length = K) ∧ Lies w P (pc qs) ∧ Tells w qs m.2 := by
  have e2 := h.len2
  obtain ⟨A', c', qs, e, _, _, hl, ht⟩ := h.pats
  injection e with e _ _
  subst e
  exact ⟨qs, ht.1.trans e2, hl, ht⟩
theorem mem_mk {w : World} {x y : Value} {m : PM} (h : Byt w x m.1) (k : Pats w y m.2) : IsMem w (.agg #[x, y]) m := ⟨x, y, rfl, h, k⟩

theorem text_at (A P : Option Addr) (L c K d : Nat) (m : PM) (p n : Int) (w : World) (h : IsMem w (.agg #[.slice A L c, .slice P K d]) m) (hL : L ≤ 65536) (hn : n ≤ 9223372036854775807) :
    Calls Try.prog 32 #[.agg #[.slice A L c, .slice P K d], .int .i64 p, .int .i64 n] w fun e w' => ∃ B k e', e = .returned (.tuple #[.slice B k e', .int .i64 (codeF (okB L p n))]) ∧ Byt w' (.slice B k e') (textF m p n) ∧ Below w.heap.size w w' := by
  have e1 := h.len1
  have c := text_any _ m p n w h (by omega) hn
  rw [e1] at c
  refine c.mono fun e w' ⟨u, he, hu, hb⟩ => ?_
  obtain ⟨B, k, rfl⟩ := hu.form
  exact ⟨B, _, k, he, hu, hb⟩

theorem Box.two {w : World} {b : Nat} {A P : Option Addr} {n c k d : Nat} {t : TypeId} (h : Box w b (.slice A n c) (.slice P k d) t) {o : Nat} {v : Value} (hc : w.cell? ⟨b, o, none⟩ = some v) : ∃ A n c, v = .slice A n c := by
  unfold Box at h
  simp [World.cell?, h] at hc
  match o, hc with
  | 0, hc => simp at hc; exact ⟨_, _, _, hc.symm⟩
  | 1, hc => simp at hc; exact ⟨_, _, _, hc.symm⟩
  | o + 2, hc => simp at hc
/-- A write into a block of two slices touches neither bytes nor patches. -/
theorem Lies.row {w w' : World} {b : Nat} {A P A' : Option Addr} {n c k d : Nat} {t : TypeId} {xs : List Value} (h : Lies w A' xs) (hb : Box w b (.slice A n c) (.slice P k d) t) (rs : RowSet b w w') (hi : ∀ v r, xs = v :: r → ∃ q i, v = .int q i) : Lies w' A' xs := by
  rcases h with h | ⟨g, o, e, hg, hc⟩
  · exact .inl h
  · match xs, hi, hc with
    | [], _, _ => exact .inl rfl
    | v :: r, hi, hc =>
      have hne : g ≠ b := by
        intro e
        subst e
        obtain ⟨q, i, rfl⟩ := hi v r rfl
        obtain ⟨_, _, _, hv⟩ := hb.two (hc 0 _ rfl)
        cases hv
      exact .inr ⟨g, o, e, by rw [rs.size]; exact hg, fun j v hv => (rs.cell hne).trans (hc j v hv)⟩
theorem u8s_head (l : List UInt8) : ∀ v r, u8s l = v :: r → ∃ q i, v = Value.int q i := by
  intro v r h
  cases l with
  | nil => simp [u8s] at h
  | cons x l => simp [u8s] at h; exact ⟨_, _, h.1.symm⟩
theorem pc_head (qs : List Qt) : ∀ v r, pc qs = v :: r → ∃ q i, v = Value.int q i := by
  intro v r h
  cases qs with
  | nil => simp [pc] at h
  | cons x l => rw [pc_cons] at h; injection h with h _; exact ⟨_, _, h.symm⟩
theorem Byt.row {w w' : World} {b : Nat} {A P : Option Addr} {n c k d : Nat} {t : TypeId} {v : Value} {l : List UInt8} (h : Byt w v l) (hb : Box w b (.slice A n c) (.slice P k d) t) (rs : RowSet b w w') : Byt w' v l := by
  obtain ⟨A', c', h1, h2, h3, h4⟩ := h
  exact ⟨A', c', h1, h2, h3, h4.row hb rs (u8s_head l)⟩
theorem Tells.row {w w' : World} {b : Nat} {A P : Option Addr} {n c k d : Nat} {t : TypeId} {qs : List Qt} {ps : List Pt} (h : Tells w qs ps) (hb : Box w b (.slice A n c) (.slice P k d) t) (rs : RowSet b w w') : Tells w' qs ps :=
  ⟨h.1, fun i q p hq hp => ⟨(h.2 i q p hq hp).1, (h.2 i q p hq hp).2.row hb rs⟩⟩
theorem IsMem.row {w w' : World} {b : Nat} {A P : Option Addr} {n c k d : Nat} {t : TypeId} {v : Value} {m : PM} (h : IsMem w v m) (hb : Box w b (.slice A n c) (.slice P k d) t) (rs : RowSet b w w') : IsMem w' v m := by
  obtain ⟨x, y, h1, h2, A', c', qs, e, h3, h4, h5, h6⟩ := h
  exact ⟨x, y, h1, h2.row hb rs, A', c', qs, e, h3, h4, h5.row hb rs (pc_head qs), h6.row hb rs⟩
theorem row_put (w : World) (b : Nat) (x y : Value) : RowSet b w ((w.setCell ⟨b, 0, none⟩ x).setCell ⟨b, 1, none⟩ y) :=
  ⟨rfl, rfl, rfl, by simp [World.setCell], fun k hk => (Below.heap_setCell _ _ _ k hk).trans (Below.heap_setCell _ _ _ k hk)⟩

set_option maxRecDepth 100000 in
set_option maxHeartbeats 1000000 in
theorem write_no (A P A2 : Option Addr) (L c K d n c2 : Nat) (m : PM) (p : Int) (w : World) (HM : Hid (IsMem w (.agg #[.slice A L c, .slice P K d]) m)) (hL : L ≤ 65536) (hn : n ≤ 65536) (hno : okB L p n = false ∨ n = 0) :
    Calls Try.prog 24 #[.agg #[.slice A L c, .slice P K d], .int .i64 p, .slice A2 n c2] w fun e w' => e = .returned (.tuple #[.agg #[.slice A L c, .slice P K d], .int .i64 (codeF (okB L p n))]) ∧ Below w.heap.size w w' := by
  cases ok : okB L p n with
  | false =>
    clear hno
    go_enter Try.func24, Try.ntmps24
    go_wp2_with fail
    refine (text_at _ _ _ _ _ _ m _ _ _ (HM.out.keep (((Below.refl _ w).alloc (Nat.le_refl _) _).alloc (by simp) _)) hL (by omega)).mono ?_
    rw [ok, codeF_no]
    rintro e w1 ⟨B, k, e', rfl, hu1, b1⟩
    obtain ⟨k0, k1⟩ := box_two w (.slice A L c) (.slice P K d) (.slice none 0 0) (.slice none 0 0) 25 25
    obtain ⟨q0, q1, _, _⟩ := (k0.keep b1).use
    obtain ⟨q2, q3, q4, q5⟩ := (k1.keep b1).use
    have HG := Lib.hid ((k1.keep b1).got (.slice A L c) (.slice P K d))
    have HB := Lib.hid (below_two b1)
    clear k0 k1 b1 hu1
    go_wp2_with fail
    refine bodyPost_ret (v := .tuple #[.agg #[.slice A L c, .slice P K d], .int .i64 (-9)]) ?_ rfl ?_
    · obtain ⟨r0, r1⟩ := HG.out
      simp [results, Try.results24, go_sem, r0, r1]
    · exact ⟨rfl, (HB.out.setCell (by simp) _).setCell (by simp) _⟩
  | true =>
    have h0 : n = 0 := hno.resolve_left (by simp [ok])
    subst h0
    clear hno
    go_enter Try.func24, Try.ntmps24
    go_wp2_with fail
    refine (text_at _ _ _ _ _ _ m _ _ _ (HM.out.keep (((Below.refl _ w).alloc (Nat.le_refl _) _).alloc (by simp) _)) hL (by omega)).mono ?_
    rw [show okB L p 0 = true from ok, codeF_yes]
    rintro e w1 ⟨B, k, e', rfl, hu1, b1⟩
    obtain ⟨k0, k1⟩ := box_two w (.slice A L c) (.slice P K d) (.slice none 0 0) (.slice none 0 0) 25 25
    obtain ⟨q0, q1, _, _⟩ := (k0.keep b1).use
    obtain ⟨q2, q3, q4, q5⟩ := (k1.keep b1).use
    have HG := Lib.hid ((k1.keep b1).got (.slice A L c) (.slice P K d))
    have HB := Lib.hid (below_two b1)
    clear k0 k1 b1 hu1
    go_wp2_with fail
    refine bodyPost_ret (v := .tuple #[.agg #[.slice A L c, .slice P K d], .int .i64 0]) ?_ rfl ?_
    · obtain ⟨r0, r1⟩ := HG.out
      simp [results, Try.results24, go_sem, r0, r1]
    · exact ⟨rfl, (HB.out.setCell (by simp) _).setCell (by simp) _⟩

set_option maxRecDepth 100000 in
set_option maxHeartbeats 1000000 in
theorem write_yes (A P A2 : Option Addr) (L c K d n c2 : Nat) (m : PM) (b : List UInt8) (p : Int) (w : World) (HM : Hid (IsMem w (.agg #[.slice A L c, .slice P K d]) m)) (HU : Hid (Byt w (.slice A2 n c2) b)) (hL : L ≤ 65536) (hK : K < 1000) (hn : n ≤ 65536) (hn0 : 0 < n) (ok : okB L p n = true) :
    Calls Try.prog 24 #[.agg #[.slice A L c, .slice P K d], .int .i64 p, .slice A2 n c2] w fun e w' => ∃ A' c' P' d', e = .returned (.tuple #[.agg #[.slice A' L c', .slice P' (K + 1) d'], .int .i64 0]) ∧ IsMem w' (.agg #[.slice A' L c', .slice P' (K + 1) d']) (writeF m p b) ∧ Below w.heap.size w w' := by
  have hz : ((n : Int) == 0) = false := by simp; omega
  go_enter Try.func24, Try.ntmps24
  go_wp2_with fail
  refine (text_at _ _ _ _ _ _ m _ _ _ (HM.out.keep (((Below.refl _ w).alloc (Nat.le_refl _) _).alloc (by simp) _)) hL (by omega)).mono ?_
  rw [ok, codeF_yes]
  rintro e w1 ⟨B, k, e', rfl, hu1, b1⟩
  obtain ⟨k0, k1⟩ := box_two w (.slice A L c) (.slice P K d) (.slice none 0 0) (.slice none 0 0) 25 25
  have K0 := Lib.hid (k0.keep b1)
  have K1 := Lib.hid (k1.keep b1)
  obtain ⟨q0, q1, _, _⟩ := (k0.keep b1).use
  have HB := Lib.hid (below_two b1)
  have HT := Lib.hid hu1
  clear k0 k1 b1 hu1
  go_wp2_with fail
  refine (own_u8 _ _ _ m.1 _ HM.out.len1 hL (HM.out.keep HB.out).byt.lies).mono ?_
  rintro e w2 ⟨g, rfl, hg, hh, b2⟩
  clear q0 q1
  have K2 := Lib.hid (K0.out.keep b2)
  have K3 := Lib.hid (K1.out.keep b2)
  have HG := Lib.hid hh
  have HB2 := Lib.hid b2
  have hlt := K1.out.lt
  clear hh b2
  go_wp2_with fail
  refine (lay_any g L n c2 A2 p m.1 b w2 5 HM.out.len1 HU.out.len hL ok HG.out ((HU.out.keep HB.out).keep HB2.out).lies).mono ?_
  rintro e w3 ⟨rfl, hh, rs⟩
  have hne0 : w.heap.size ≠ g := by omega
  have hne1 : w.heap.size + 1 ≠ g := by omega
  have K4 := Lib.hid (K2.out.row rs hne0)
  have K5 := Lib.hid (K3.out.row rs hne1)
  obtain ⟨q0, q1, _, _⟩ := (K2.out.row rs hne0).use
  have HG3 := Lib.hid hh
  have RS := Lib.hid rs
  clear hh rs
  have hB3 : Below w.heap.size w w3 := (below_then HB.out HB2.out).trans (RS.out.below (by omega))
  have HB3 := Lib.hid hB3
  obtain ⟨qs, HQ, hlq, htl⟩ : ∃ qs : List Qt, Hid (qs.length = K) ∧ Lies w P (pc qs) ∧ Tells w qs m.2 := HM.out.patq
  have HLQ := Lib.hid hlq
  have HTQ := Lib.hid htl
  clear hB3 hlq htl
  go_wp2_with fail
  refine (with_any _ K _ qs _ _ _ _ _ HQ.out (by omega) (HLQ.out.keep HB3.out) (pc_one HTQ.out)).mono ?_
  rintro e w4 ⟨g4, rfl, hg4, hh, b4⟩
  obtain ⟨q2, q3, q4, q5⟩ := (K5.out.keep b4).use
  have K6 := Lib.hid (K5.out.keep b4)
  have HH := Lib.hid hh
  have HB4 := Lib.hid b4
  clear hh b4 q0 q1
  go_wp2_with fail
  refine bodyPost_ret (v := .tuple #[.agg #[.slice (some ⟨g, 0, none⟩) L L, .slice (some ⟨g4, 0, none⟩) (K + 1) (K + 1)], .int .i64 0]) ?_ rfl ?_
  · obtain ⟨r0, r1⟩ := K6.out.got (.slice (some ⟨g, 0, none⟩) L L) (.slice (some ⟨g4, 0, none⟩) (K + 1) (K + 1))
    simp [results, Try.results24, go_sem, r0, r1]
  · refine ⟨_, _, _, _, rfl, ?_, ((HB3.out.trans (HB4.out.mono HB3.out.size)).setCell (by simp) _).setCell (by simp) _⟩
    refine IsMem.row (w := w4) ?_ K6.out (row_put _ _ _ _)
    have ok' : okB m.1.length p b.length = true := by rw [HM.out.len1, HU.out.len]; exact ok
    have hl : (layF m.1 p b).length = L := (layF_len ok').trans HM.out.len1
    have hb0 : b ≠ [] := by
      intro e
      have := HU.out.len
      rw [e] at this
      simp at this
      omega
    have b24 : Below w1.heap.size w1 w4 := (HB2.out.trans (RS.out.below (by omega))).trans (HB4.out.mono (Nat.le_trans HB2.out.size (Nat.le_of_eq RS.out.size.symm)))
    rw [writeF_yes ok' hb0]
    refine mem_mk ?_ ?_
    · show Byt w4 _ (layF m.1 p b)
      rw [← hl]
      refine byt_block (t := 5) ?_ (by omega)
      rw [HB4.out.block g (by rw [RS.out.size]; exact (Array.getElem?_eq_some_iff.1 HG.out).1)]
      exact HG3.out
    · have e5 : (m.2 ++ [(p, textF m p b.length)]).length = K + 1 := by simp [HM.out.len2]
      refine ⟨some ⟨g4, 0, none⟩, K + 1, qs ++ [(p, .slice B k e')], by rw [e5], by rw [e5]; exact Nat.le_refl _, by unfold maxLen; omega, lies_block HH.out, Tells.snoc (p := (p, textF m p b.length)) (HTQ.out.keep (HB3.out.trans (HB4.out.mono HB3.out.size))) ?_⟩
      have := HT.out.keep b24
      rw [HU.out.len]
      exact this

/-- Write, whatever comes. -/
theorem write_any (v u : Value) (m : PM) (b : List UInt8) (p : Int) (w : World) (h : IsMem w v m) (hu : Byt w u b) (hL : m.1.length ≤ 65536) (hK : m.2.length < 1000) (hb : b.length ≤ 65536) :
    Calls Try.prog 24 #[v, .int .i64 p, u] w fun e w' => ∃ x y, e = .returned (.tuple #[.agg #[x, y], .int .i64 (codeF (okB m.1.length p b.length))]) ∧ IsMem w' (.agg #[x, y]) (writeF m p b) ∧ Below w.heap.size w w' := by
  have h' := h
  obtain ⟨A, c, P, d, rfl, _, _⟩ := h.parts
  have hu' := hu
  obtain ⟨A2, c2, rfl⟩ := hu.form
  by_cases hn : okB m.1.length p b.length = false ∨ b.length = 0
  · refine (write_no A P A2 _ c _ d _ c2 m p w h' hL hb hn).mono fun e w' ⟨he, hw⟩ => ⟨_, _, he, ?_, hw⟩
    have e : writeF m p b = m := by
      rcases hn with hn | hn
      · exact writeF_no hn
      · rw [List.eq_nil_of_length_eq_zero hn]; exact writeF_nil
    rw [e]
    exact h'.keep hw
  · have ok : okB m.1.length p b.length = true := by
      cases e : okB m.1.length p b.length with
      | true => rfl
      | false => exact absurd (.inl e) hn
    refine (write_yes A P A2 _ c _ d _ c2 m b p w h' hu' hL hK hb (by omega) ok).mono fun e w' ⟨A', c', P', d', he, hm, hw⟩ => ⟨_, _, ?_, hm, hw⟩
    rw [ok, codeF_yes]
    exact he
end Go.Proofs.Ytekfemkoiadipaa
