/- Memories whose blocks are told; where a memory that is written lies. -/
import Derived.Test.YtekfemkoiadipaaBytApp
import Derived.Test.YtekfemkoiadipaaSpcB
import Derived.Maps.AppendAt
namespace Go.Proofs.Ytekfemkoiadipaa
open Go.RowKit
set_option linter.unusedVariables false
set_option linter.unusedSimpArgs false

/-- From world to world: blocks of S stay, and are in S'. -/
structure GoS (S S' : Nat → Prop) (w w' : World) : Prop where
  size : w.heap.size ≤ w'.heap.size
  block : ∀ k, S k → k < w.heap.size → w'.heap[k]? = w.heap[k]?
  into : ∀ k, S k → k < w.heap.size → S' k
theorem goS_below {S S' : Nat → Prop} {w w' : World} (b : Below w.heap.size w w') (h : ∀ k, S k → k < w.heap.size → S' k) : GoS S S' w w' := ⟨b.size, fun k _ hk => b.block k hk, h⟩
def LiesS (S : Nat → Prop) (w : World) (A : Option Addr) (xs : List Value) : Prop :=
  xs = [] ∨ ∃ g o, A = some ⟨g, o, none⟩ ∧ S g ∧ g < w.heap.size ∧ ∀ j v, xs[j]? = some v → w.cell? ⟨g, o + j, none⟩ = some v
theorem LiesS.lies {S : Nat → Prop} {w : World} {A : Option Addr} {xs : List Value} (h : LiesS S w A xs) : Lies w A xs := by
  rcases h with h | ⟨g, o, hA, _, hg, hc⟩
  · exact .inl h
  · exact .inr ⟨g, o, hA, hg, hc⟩
theorem LiesS.go {S S' : Nat → Prop} {w w' : World} {A : Option Addr} {xs : List Value} (h : LiesS S w A xs) (k : GoS S S' w w') : LiesS S' w' A xs := by
  rcases h with h | ⟨g, o, hA, hs, hg, hc⟩
  · exact .inl h
  · exact .inr ⟨g, o, hA, k.into g hs hg, Nat.lt_of_lt_of_le hg k.size, fun j v hv => (World.cell?_of_block (k.block g hs hg)).trans (hc j v hv)⟩
theorem lies_S {S : Nat → Prop} {w : World} {A : Option Addr} {xs : List Value} (h : Lies w A xs) (hs : ∀ k, k < w.heap.size → S k) : LiesS S w A xs := by
  rcases h with h | ⟨g, o, hA, hg, hc⟩
  · exact .inl h
  · exact .inr ⟨g, o, hA, hs g hg, hg, hc⟩
theorem liesS_block {S : Nat → Prop} {w : World} {g : Nat} {xs : List Value} {t : TypeId} (h : w.heap[g]? = some (.cells xs.toArray t (0, 0))) (hs : S g) : LiesS S w (some ⟨g, 0, none⟩) xs := by
  rcases lies_block h with h | ⟨g', o, hA, hg, hc⟩
  · exact .inl h
  · injection hA with hA
    injection hA with e1 e2
    subst e1 e2
    exact .inr ⟨g, 0, rfl, hs, hg, hc⟩
theorem LiesS.row {S : Nat → Prop} {w w' : World} {b : Nat} {A P A' : Option Addr} {n c k d : Nat} {t : TypeId} {xs : List Value} (h : LiesS S w A' xs) (hb : Box w b (.slice A n c) (.slice P k d) t) (rs : RowSet b w w') (hi : ∀ v r, xs = v :: r → ∃ q i, v = .int q i) : LiesS S w' A' xs := by
  have h2 := h
  rcases h with h | ⟨g, o, e, hs, hg, hc⟩
  · exact .inl h
  · have h3 := h2.lies.row hb rs hi
    rcases h3 with h3 | ⟨g', o', e', hg', hc'⟩
    · exact .inl h3
    · rw [e] at e'
      injection e' with e'
      injection e' with e1 e2
      subst e1 e2
      exact .inr ⟨g, o, e, hs, hg', hc'⟩
def BytS (S : Nat → Prop) (w : World) (v : Value) (l : List UInt8) : Prop := ∃ A c, v = .slice A l.length c ∧ l.length ≤ c ∧ c ≤ maxLen ∧ LiesS S w A (u8s l)
theorem BytS.byt {S : Nat → Prop} {w : World} {v : Value} {l : List UInt8} (h : BytS S w v l) : Byt w v l := by
  obtain ⟨A, c, h1, h2, h3, h4⟩ := h
  exact ⟨A, c, h1, h2, h3, h4.lies⟩
theorem BytS.go {S S' : Nat → Prop} {w w' : World} {v : Value} {l : List UInt8} (h : BytS S w v l) (k : GoS S S' w w') : BytS S' w' v l := by
  obtain ⟨A, c, h1, h2, h3, h4⟩ := h
  exact ⟨A, c, h1, h2, h3, h4.go k⟩
theorem byt_S {S : Nat → Prop} {w : World} {v : Value} {l : List UInt8} (h : Byt w v l) (hs : ∀ k, k < w.heap.size → S k) : BytS S w v l := by
  obtain ⟨A, c, h1, h2, h3, h4⟩ := h
  exact ⟨A, c, h1, h2, h3, lies_S h4 hs⟩
theorem bytS_nil (S : Nat → Prop) (w : World) : BytS S w (.slice none 0 0) [] := ⟨none, 0, rfl, Nat.le_refl _, Nat.zero_le _, .inl rfl⟩
theorem bytS_block {S : Nat → Prop} {w : World} {g : Nat} {l : List UInt8} {t : TypeId} (h : w.heap[g]? = some (.cells (u8s l).toArray t (0, 0))) (hl : l.length ≤ 65536) (hs : S g) : BytS S w (.slice (some ⟨g, 0, none⟩) l.length l.length) l :=
  ⟨_, _, rfl, Nat.le_refl _, by unfold maxLen; omega, liesS_block h hs⟩
theorem BytS.row {S : Nat → Prop} {w w' : World} {b : Nat} {A P : Option Addr} {n c k d : Nat} {t : TypeId} {v : Value} {l : List UInt8} (h : BytS S w v l) (hb : Box w b (.slice A n c) (.slice P k d) t) (rs : RowSet b w w') : BytS S w' v l := by
  obtain ⟨A', c', h1, h2, h3, h4⟩ := h
  exact ⟨A', c', h1, h2, h3, h4.row hb rs (u8s_head l)⟩
def TellsS (S : Nat → Prop) (w : World) (qs : List Qt) (ps : List Pt) : Prop := qs.length = ps.length ∧ ∀ (i : Nat) (q : Qt) (p : Pt), qs[i]? = some q → ps[i]? = some p → q.1 = p.1 ∧ BytS S w q.2 p.2
theorem TellsS.tells {S : Nat → Prop} {w : World} {qs : List Qt} {ps : List Pt} (h : TellsS S w qs ps) : Tells w qs ps := ⟨h.1, fun i q p hq hp => ⟨(h.2 i q p hq hp).1, (h.2 i q p hq hp).2.byt⟩⟩
theorem TellsS.go {S S' : Nat → Prop} {w w' : World} {qs : List Qt} {ps : List Pt} (h : TellsS S w qs ps) (k : GoS S S' w w') : TellsS S' w' qs ps := ⟨h.1, fun i q p hq hp => ⟨(h.2 i q p hq hp).1, (h.2 i q p hq hp).2.go k⟩⟩
theorem TellsS.row {S : Nat → Prop} {w w' : World} {b : Nat} {A P : Option Addr} {n c k d : Nat} {t : TypeId} {qs : List Qt} {ps : List Pt} (h : TellsS S w qs ps) (hb : Box w b (.slice A n c) (.slice P k d) t) (rs : RowSet b w w') : TellsS S w' qs ps := ⟨h.1, fun i q p hq hp => ⟨(h.2 i q p hq hp).1, (h.2 i q p hq hp).2.row hb rs⟩⟩
theorem tells_S {S : Nat → Prop} {w : World} {qs : List Qt} {ps : List Pt} (h : Tells w qs ps) (hs : ∀ k, k < w.heap.size → S k) : TellsS S w qs ps := ⟨h.1, fun i q p hq hp => ⟨(h.2 i q p hq hp).1, byt_S (h.2 i q p hq hp).2 hs⟩⟩
theorem TellsS.snoc {S : Nat → Prop} {w : World} {qs : List Qt} {ps : List Pt} (h : TellsS S w qs ps) {p : Pt} {v : Value} (hv : BytS S w v p.2) : TellsS S w (qs ++ [(p.1, v)]) (ps ++ [p]) := by
  refine ⟨by simp [h.1], fun i q r hq hr => ?_⟩
  by_cases hi : i < qs.length
  · rw [List.getElem?_append_left hi] at hq
    rw [List.getElem?_append_left (by rw [← h.1]; exact hi)] at hr
    exact h.2 i q r hq hr
  · have hi' : i = qs.length := by have := (List.getElem?_eq_some_iff.1 hq).1; simp at this; omega
    subst hi'
    rw [List.getElem?_append_right (Nat.le_refl _)] at hq
    rw [h.1, List.getElem?_append_right (Nat.le_refl _)] at hr
    simp at hq hr
    subst hq hr
    exact ⟨rfl, hv⟩
def PatsS (S : Nat → Prop) (w : World) (v : Value) (ps : List Pt) : Prop := ∃ A c qs, v = .slice A ps.length c ∧ ps.length ≤ c ∧ c ≤ maxLen ∧ LiesS S w A (pc qs) ∧ TellsS S w qs ps
/-- A memory all of whose blocks are in S. -/
def MemS (S : Nat → Prop) (w : World) (v : Value) (m : PM) : Prop := ∃ b o, v = .agg #[b, o] ∧ BytS S w b m.1 ∧ PatsS S w o m.2
theorem MemS.mem {S : Nat → Prop} {w : World} {v : Value} {m : PM} (h : MemS S w v m) : IsMem w v m := by
  obtain ⟨b, o, e, hb, A, c, qs, h1, h2, h3, h4, h5⟩ := h
  exact ⟨b, o, e, hb.byt, A, c, qs, h1, h2, h3, h4.lies, h5.tells⟩
theorem MemS.go {S S' : Nat → Prop} {w w' : World} {v : Value} {m : PM} (h : MemS S w v m) (k : GoS S S' w w') : MemS S' w' v m := by
  obtain ⟨b, o, e, hb, A, c, qs, h1, h2, h3, h4, h5⟩ := h
  exact ⟨b, o, e, hb.go k, A, c, qs, h1, h2, h3, h4.go k, h5.go k⟩
theorem mem_S {S : Nat → Prop} {w : World} {v : Value} {m : PM} (h : IsMem w v m) (hs : ∀ k, k < w.heap.size → S k) : MemS S w v m := by
  obtain ⟨b, o, e, hb, A, c, qs, h1, h2, h3, h4, h5⟩ := h
  exact ⟨b, o, e, byt_S hb hs, A, c, qs, h1, h2, h3, lies_S h4 hs, tells_S h5 hs⟩
theorem MemS.row {S : Nat → Prop} {w w' : World} {b : Nat} {A P : Option Addr} {n c k d : Nat} {t : TypeId} {v : Value} {m : PM} (h : MemS S w v m) (hb : Box w b (.slice A n c) (.slice P k d) t) (rs : RowSet b w w') : MemS S w' v m := by
  obtain ⟨x, y, h1, h2, A', c', qs, e, h3, h4, h5, h6⟩ := h
  exact ⟨x, y, h1, h2.row hb rs, A', c', qs, e, h3, h4, h5.row hb rs (pc_head qs), h6.row hb rs⟩
theorem MemS.patq {S : Nat → Prop} {w : World} {P : Option Addr} {K d : Nat} {x : Value} {m : PM} (h : MemS S w (.agg #[x, .slice P K d]) m) : ∃ qs : List Qt, Hid (qs.length = K) ∧ LiesS S w P (pc qs) ∧ TellsS S w qs m.2 := by
  have e2 := h.mem.len2
  obtain ⟨b, o, e, hb, A', c', qs, e', _, _, hl, ht⟩ := h
  injection e with e
  simp at e
  obtain ⟨_, rfl⟩ := e
  injection e' with e' _ _
  subst e'
  exact ⟨qs, ht.1.trans e2, hl, ht⟩
theorem memS_mk {S : Nat → Prop} {w : World} {x y : Value} {m : PM} (h : BytS S w x m.1) (k : PatsS S w y m.2) : MemS S w (.agg #[x, y]) m := ⟨x, y, rfl, h, k⟩

set_option maxRecDepth 100000 in
set_option maxHeartbeats 1000000 in
theorem text_anyS (v : Value) (m : PM) (p n : Int) (w : World) (h : IsMem w v m) (hL : m.1.length ≤ 65536) (hn : n ≤ 9223372036854775807) :
    Calls Try.prog 32 #[v, .int .i64 p, .int .i64 n] w fun e w' => ∃ u, e = .returned (.tuple #[u, .int .i64 (codeF (okB m.1.length p n))]) ∧ BytS (fun j => w.heap.size ≤ j) w' u (textF m p n) ∧ Below w.heap.size w w' := by
  obtain ⟨A, c, P, d, rfl, hb, hp⟩ := h.parts
  obtain ⟨A', c', e', hc, hm, hA⟩ := hb
  injection e' with e1 _ e2
  subst e1 e2
  have HT := Lib.hid (textF_no (m := m) (p := p) (n := n))
  have HY := Lib.hid (textF_yes (m := m) (p := p) (n := n))
  obtain ⟨L, hLe⟩ : ∃ L, L = m.1.length := ⟨_, rfl⟩
  rw [← hLe] at hL hc ⊢
  have HE := Lib.hid hLe
  clear hLe
  cases ok : okB L p n with
  | false =>
    clear h hp
    go_enter Try.func32, Try.ntmps32
    go_wp2_with (go_at_call 38; (with_reducible refine (there_any _ _ _ _ _ _ _ _ _ (by omega) hn).mono ?_); rintro e w1 ⟨rfl, b1⟩)
    go_ret2
    exact ⟨_, rfl, by rw [HT.out (by rw [← HE.out]; exact ok)]; exact bytS_nil _ _, box_below b1⟩
  | true =>
    have hok := (okB_iff _ _ _).1 ok
    by_cases h0 : n = 0
    · subst h0
      clear h hp
      go_enter Try.func32, Try.ntmps32
      go_wp2_with (go_at_call 38; (with_reducible refine (there_any _ _ _ _ _ _ _ _ _ (by omega) hn).mono ?_); rintro e w1 ⟨rfl, b1⟩)
      go_ret2
      exact ⟨_, rfl, by rw [HY.out (by rw [← HE.out]; exact ok)]; simpa using bytS_nil _ _, box_below b1⟩
    · have h0' : (n == 0) = false := by simp [h0]
      obtain ⟨h1, h2, h3⟩ := hok.resolve_left h0
      obtain ⟨q, rfl⟩ := Int.eq_ofNat_of_zero_le h2
      obtain ⟨k, rfl⟩ := Int.eq_ofNat_of_zero_le (Int.le_of_lt h1)
      have h4 : q + k ≤ L := by omega
      have h5 : 0 < k := by omega
      have hne : c ≠ q := by omega
      obtain ⟨g, o, rfl, hg, hcell⟩ : ∃ g o, A = some ⟨g, o, none⟩ ∧ g < w.heap.size ∧ Lies w (some ⟨g, o, none⟩) (u8s m.1) := by
        have hA' := hA
        rcases hA with e | ⟨g, o, rfl, hg, _⟩
        · have := congrArg List.length e
          rw [u8s_len, ← HE.out] at this
          simp at this
          omega
        · exact ⟨g, o, rfl, hg, hA'⟩
      have HX : Hid (Lies w (some ⟨g, o + q, none⟩) (u8s (textF m q k))) := by
        show Lies w _ _
        rw [HY.out (by rw [← HE.out]; exact ok)]
        have := hcell.part q k
        simpa [u8s, List.map_take, List.map_drop] using this
      have HK : Hid ((textF m q k).length = k) := by rw [HY.out (by rw [← HE.out]; exact ok)]; show _ = _; have := HE.out; simp; omega
      clear h hp hcell hA hok h0 h1 h2 h3
      go_enter Try.func32, Try.ntmps32
      go_wp2_with fail
      refine (there_any _ _ _ _ _ _ _ _ _ (by omega) hn).mono ?_
      rintro e w1 ⟨rfl, b1⟩
      obtain ⟨k0, k1⟩ := box_cells b1
      have B1 := Lib.hid (box_below b1)
      clear b1
      go_wp2_with fail
      refine (own_u8 _ k _ (textF m q k) _ HK.out (by omega) (HX.out.keep B1.out)).mono ?_
      rintro e w2 ⟨g2, rfl, hg2, hh, b2⟩
      have HH := Lib.hid hh
      clear hh
      go_wp2_with fail
      go_ret2
      exact ⟨_, rfl, by have := bytS_block (S := fun j => w.heap.size ≤ j) HH.out (by rw [HK.out]; omega) (Nat.le_trans B1.out.size hg2); rwa [HK.out] at this, below_then B1.out b2⟩

theorem text_atS (A P : Option Addr) (L c K d : Nat) (m : PM) (p n : Int) (w : World) (h : IsMem w (.agg #[.slice A L c, .slice P K d]) m) (hL : L ≤ 65536) (hn : n ≤ 9223372036854775807) :
    Calls Try.prog 32 #[.agg #[.slice A L c, .slice P K d], .int .i64 p, .int .i64 n] w fun e w' => ∃ B k e', e = .returned (.tuple #[.slice B k e', .int .i64 (codeF (okB L p n))]) ∧ BytS (fun j => w.heap.size ≤ j) w' (.slice B k e') (textF m p n) ∧ Below w.heap.size w w' := by
  have e1 := h.len1
  have c := text_anyS _ m p n w h (by omega) hn
  rw [e1] at c
  refine c.mono fun e w' ⟨u, he, hu, hb⟩ => ?_
  obtain ⟨B, k, rfl⟩ := hu.byt.form
  exact ⟨B, _, k, he, hu, hb⟩

set_option maxRecDepth 100000 in
set_option maxHeartbeats 1000000 in
theorem write_yesS (S : Nat → Prop) (A P A2 : Option Addr) (L c K d n c2 : Nat) (m : PM) (b : List UInt8) (p : Int) (w : World) (HS : Hid (MemS S w (.agg #[.slice A L c, .slice P K d]) m)) (HU : Hid (Byt w (.slice A2 n c2) b)) (hL : L ≤ 65536) (hK : K < 1000) (hn : n ≤ 65536) (hn0 : 0 < n) (ok : okB L p n = true) :
    Calls Try.prog 24 #[.agg #[.slice A L c, .slice P K d], .int .i64 p, .slice A2 n c2] w fun e w' => ∃ A' c' P' d', e = .returned (.tuple #[.agg #[.slice A' L c', .slice P' (K + 1) d'], .int .i64 0]) ∧ MemS (fun j => S j ∨ w.heap.size ≤ j) w' (.agg #[.slice A' L c', .slice P' (K + 1) d']) (writeF m p b) ∧ Below w.heap.size w w' := by
  have HM : Hid (IsMem w (.agg #[.slice A L c, .slice P K d]) m) := HS.out.mem
  have hz : ((n : Int) == 0) = false := by simp; omega
  go_enter Try.func24, Try.ntmps24
  go_wp2_with fail
  refine (text_atS _ _ _ _ _ _ m _ _ _ (HM.out.keep (((Below.refl _ w).alloc (Nat.le_refl _) _).alloc (by simp) _)) hL (by omega)).mono ?_
  rw [ok, codeF_yes]
  rintro e w1 ⟨B, k, e', rfl, hu1, b1⟩
  obtain ⟨k0, k1⟩ := box_two w (.slice A L c) (.slice P K d) (.slice none 0 0) (.slice none 0 0) 25 25
  have K0 := Lib.hid (k0.keep b1)
  have K1 := Lib.hid (k1.keep b1)
  obtain ⟨q0, q1, _, _⟩ := (k0.keep b1).use
  have HB := Lib.hid (below_two b1)
  have HT := Lib.hid hu1
  clear k0 k1 b1 hu1
  go_wp2_with fail
  refine (own_u8 _ _ _ m.1 _ HM.out.len1 hL (HM.out.keep HB.out).byt.lies).mono ?_
  rintro e w2 ⟨g, rfl, hg, hh, b2⟩
  clear q0 q1
  have K2 := Lib.hid (K0.out.keep b2)
  have K3 := Lib.hid (K1.out.keep b2)
  have HG := Lib.hid hh
  have HB2 := Lib.hid b2
  have hlt := K1.out.lt
  clear hh b2
  go_wp2_with fail
  refine (lay_any g L n c2 A2 p m.1 b w2 5 HM.out.len1 HU.out.len hL ok HG.out ((HU.out.keep HB.out).keep HB2.out).lies).mono ?_
  rintro e w3 ⟨rfl, hh, rs⟩
  have hne0 : w.heap.size ≠ g := by omega
  have hne1 : w.heap.size + 1 ≠ g := by omega
  have K4 := Lib.hid (K2.out.row rs hne0)
  have K5 := Lib.hid (K3.out.row rs hne1)
  obtain ⟨q0, q1, _, _⟩ := (K2.out.row rs hne0).use
  have HG3 := Lib.hid hh
  have RS := Lib.hid rs
  clear hh rs
  have hB3 : Below w.heap.size w w3 := (below_then HB.out HB2.out).trans (RS.out.below (by omega))
  have HB3 := Lib.hid hB3
  obtain ⟨qs, HQ, hlq, htl⟩ : ∃ qs : List Qt, Hid (qs.length = K) ∧ LiesS S w P (pc qs) ∧ TellsS S w qs m.2 := HS.out.patq
  have HLQ := Lib.hid hlq.lies
  have HTQ := Lib.hid htl.tells
  have HTS := Lib.hid htl
  clear hB3 hlq htl
  go_wp2_with fail
  refine (with_any _ K _ qs _ _ _ _ _ HQ.out (by omega) (HLQ.out.keep HB3.out) (pc_one HTQ.out)).mono ?_
  rintro e w4 ⟨g4, rfl, hg4, hh, b4⟩
  obtain ⟨q2, q3, q4, q5⟩ := (K5.out.keep b4).use
  have K6 := Lib.hid (K5.out.keep b4)
  have HH := Lib.hid hh
  have HB4 := Lib.hid b4
  clear hh b4 q0 q1
  go_wp2_with fail
  refine bodyPost_ret (v := .tuple #[.agg #[.slice (some ⟨g, 0, none⟩) L L, .slice (some ⟨g4, 0, none⟩) (K + 1) (K + 1)], .int .i64 0]) ?_ rfl ?_
  · obtain ⟨r0, r1⟩ := K6.out.got (.slice (some ⟨g, 0, none⟩) L L) (.slice (some ⟨g4, 0, none⟩) (K + 1) (K + 1))
    simp [results, Try.results24, go_sem, r0, r1]
  · refine ⟨_, _, _, _, rfl, ?_, ((HB3.out.trans (HB4.out.mono HB3.out.size)).setCell (by simp) _).setCell (by simp) _⟩
    refine MemS.row (w := w4) ?_ K6.out (row_put _ _ _ _)
    have ok' : okB m.1.length p b.length = true := by rw [HM.out.len1, HU.out.len]; exact ok
    have hl : (layF m.1 p b).length = L := (layF_len ok').trans HM.out.len1
    have hb0 : b ≠ [] := by
      intro e
      have := HU.out.len
      rw [e] at this
      simp at this
      omega
    have b24 : Below w1.heap.size w1 w4 := (HB2.out.trans (RS.out.below (by omega))).trans (HB4.out.mono (Nat.le_trans HB2.out.size (Nat.le_of_eq RS.out.size.symm)))
    rw [writeF_yes ok' hb0]
    have bw4 : Below w.heap.size w w4 := HB3.out.trans (HB4.out.mono HB3.out.size)
    have hgw : w.heap.size ≤ g := Nat.le_trans HB.out.size hg
    have hgw4 : w.heap.size ≤ g4 := Nat.le_trans HB3.out.size hg4
    refine memS_mk ?_ ?_
    · show BytS _ w4 _ (layF m.1 p b)
      rw [← hl]
      refine bytS_block (t := 5) ?_ (by omega) (.inr hgw)
      rw [HB4.out.block g (by rw [RS.out.size]; exact (Array.getElem?_eq_some_iff.1 HG.out).1)]
      exact HG3.out
    · have e5 : (m.2 ++ [(p, textF m p b.length)]).length = K + 1 := by simp [HM.out.len2]
      refine ⟨some ⟨g4, 0, none⟩, K + 1, qs ++ [(p, .slice B k e')], by rw [e5], by rw [e5]; exact Nat.le_refl _, by unfold maxLen; omega, liesS_block HH.out (.inr hgw4), TellsS.snoc (p := (p, textF m p b.length)) (HTS.out.go (goS_below bw4 fun k hk _ => .inl hk)) ?_⟩
      have := HT.out.go (S' := fun j => S j ∨ w.heap.size ≤ j) (goS_below b24 fun k hk _ => .inr (Nat.le_trans (by simp; omega) hk))
      rw [HU.out.len]
      exact this

theorem write_anyS (S : Nat → Prop) (v u : Value) (m : PM) (b : List UInt8) (p : Int) (w : World) (hS : MemS S w v m) (hu : Byt w u b) (hL : m.1.length ≤ 65536) (hK : m.2.length < 1000) (hb : b.length ≤ 65536) :
    Calls Try.prog 24 #[v, .int .i64 p, u] w fun e w' => ∃ x y, e = .returned (.tuple #[.agg #[x, y], .int .i64 (codeF (okB m.1.length p b.length))]) ∧ MemS (fun j => S j ∨ w.heap.size ≤ j) w' (.agg #[x, y]) (writeF m p b) ∧ Below w.heap.size w w' := by
  have h := hS.mem
  have h' := h
  obtain ⟨A, c, P, d, rfl, _, _⟩ := h.parts
  have hu' := hu
  obtain ⟨A2, c2, rfl⟩ := hu.form
  by_cases hn : okB m.1.length p b.length = false ∨ b.length = 0
  · refine (write_no A P A2 _ c _ d _ c2 m p w h' hL hb hn).mono fun e w' ⟨he, hw⟩ => ⟨_, _, he, ?_, hw⟩
    have e : writeF m p b = m := by
      rcases hn with hn | hn
      · exact writeF_no hn
      · rw [List.eq_nil_of_length_eq_zero hn]; exact writeF_nil
    rw [e]
    exact hS.go (goS_below hw fun k hk _ => .inl hk)
  · have ok : okB m.1.length p b.length = true := by
      cases e : okB m.1.length p b.length with
      | true => rfl
      | false => exact absurd (.inl e) hn
    refine (write_yesS S A P A2 _ c _ d _ c2 m b p w hS hu' hL hK hb (by omega) ok).mono fun e w' ⟨A', c', P', d', he, hm, hw⟩ => ⟨_, _, ?_, hm, hw⟩
    rw [ok, codeF_yes]
    exact he

theorem MemS.slices {S : Nat → Prop} {w : World} {x y : Value} {m : PM} (h : MemS S w (.agg #[x, y]) m) : ∃ A n c P k d, x = .slice A n c ∧ y = .slice P k d := h.mem.slices
theorem write_slS (S : Nat → Prop) (v u : Value) (m : PM) (b : List UInt8) (p : Int) (w : World) (h : MemS S w v m) (hu : Byt w u b) (hL : m.1.length ≤ 65536) (hK : m.2.length < 1000) (hb : b.length ≤ 65536) :
    Calls Try.prog 24 #[v, .int .i64 p, u] w fun e w' => ∃ A L c P K d, e = .returned (.tuple #[.agg #[.slice A L c, .slice P K d], .int .i64 (codeF (okB m.1.length p b.length))]) ∧ MemS (fun j => S j ∨ w.heap.size ≤ j) w' (.agg #[.slice A L c, .slice P K d]) (writeF m p b) ∧ Below w.heap.size w w' := by
  refine (write_anyS S v u m b p w h hu hL hK hb).mono fun e w' ⟨x, y, he, hm, hw⟩ => ?_
  obtain ⟨A, n, c, P, k, d, rfl, rfl⟩ := hm.slices
  exact ⟨A, n, c, P, k, d, he, hm, hw⟩

set_option maxRecDepth 100000 in
set_option maxHeartbeats 1000000 in
theorem lay_yesS (S : Nat → Prop) (A P A2 : Option Addr) (L c K d n c2 : Nat) (m : PM) (b : List UInt8) (p : Int) (w : World) (HS : Hid (MemS S w (.agg #[.slice A L c, .slice P K d]) m)) (HU : Hid (Byt w (.slice A2 n c2) b)) (hL : L ≤ 65536) (hK : K < 1000) (hp : endB L p = true) (hr : roomB L p n = true) :
    Calls Try.prog 13 #[.agg #[.slice A L c, .slice P K d], .int .i64 p, .slice A2 n c2] w fun e w' => ∃ A' L' c' P' K' d', e = .returned (.tuple #[.agg #[.slice A' L' c', .slice P' K' d'], .int .i64 (p + (n : Int)), .int .i64 0]) ∧ MemS (fun j => S j ∨ w.heap.size ≤ j) w' (.agg #[.slice A' L' c', .slice P' K' d']) (writeF m p b) ∧ Below w.heap.size w w' := by
  have HM : Hid (IsMem w (.agg #[.slice A L c, .slice P K d]) m) := HS.out.mem
  have hmf : ∀ (fn : Fn) (first cap : Array Value) (w : World), (Instr.makeFunc fn first cap).run Try.prog w = .ok (.func fn first cap) w := fun _ _ _ _ => rfl
  obtain ⟨p0, p1⟩ := (endB_iff _ _).1 hp
  have h1 := (roomB_iff _ _ _).1 hr
  have h1' : decide ((L : Int) - p < (n : Int)) = false := by simp; omega
  have hn : n ≤ 65536 := by omega
  have h2 : p + (n : Int) ≤ 65536 := by omega
  have CW : Hid (∀ w1 : World, MemS S w1 (.agg #[.slice A L c, .slice P K d]) m → Byt w1 (.slice A2 n c2) b → Calls Try.prog 24 #[.agg #[.slice A L c, .slice P K d], .int .i64 p, .slice A2 n c2] w1 fun e w' => ∃ A' L' c' P' K' d', e = .returned (.tuple #[.agg #[.slice A' L' c', .slice P' K' d'], .int .i64 0]) ∧ MemS (fun j => S j ∨ w1.heap.size ≤ j) w' (.agg #[.slice A' L' c', .slice P' K' d']) (writeF m p b) ∧ Below w1.heap.size w1 w') := by
    intro w1 hm hb
    have := write_slS S _ _ m b p w1 hm hb (by rw [HM.out.len1]; exact hL) (by rw [HM.out.len2]; exact hK) (by rw [HU.out.len]; exact hn)
    rw [HM.out.len1, HU.out.len, room_ok hp hr, codeF_yes] at this
    exact this
  clear hp hr h1
  go_enter Try.func13, Try.ntmps13
  go_wp2_with fail
  refine (left_any _ _ _ _ _ _ _ _ hL p0 p1).mono ?_
  rintro e w1 ⟨rfl, b1⟩
  have F1 := Lib.hid (fr_two b1)
  obtain ⟨q0, q1, _, _⟩ := (fr_two b1).2.1.use
  clear b1
  go_wp2_with fail
  refine (CW.out _ (HS.out.go (goS_below F1.out.bel fun k hk _ => hk)) (HU.out.keep F1.out.bel)).mono ?_
  rintro e w2 ⟨A', L', c', P', K', d', rfl, hm2, b2⟩
  have F2 := Lib.hid ((F1.out.keep b2).keep (al_one _ (.cells #[.slice A' L' c', .slice P' K' d'] 25)))
  have X2 := Lib.hid (at_new hm2.mem)
  obtain ⟨q2, q3, q4, q5⟩ := F2.out.2.2.use
  obtain ⟨x0, x1⟩ := X2.out.use
  have M2 : Hid (MemS (fun j => S j ∨ w.heap.size ≤ j) (w2.alloc (.cells #[.slice A' L' c', .slice P' K' d'] 25)) (.agg #[.slice A' L' c', .slice P' K' d']) (writeF m p b)) := Lib.hid (hm2.go (goS_below (al_one _ _) fun k hk _ => hk.imp (fun x => x) fun x => Nat.le_trans F1.out.bel.size x))
  clear b2 hm2 F1 q0 q1
  go_wp2_with fail
  refine bodyPost_ret (v := .tuple #[.agg #[.slice A' L' c', .slice P' K' d'], .int .i64 (p + (n : Int)), .int .i64 0]) ?_ rfl ?_
  · obtain ⟨r0, r1⟩ := F2.out.2.2.got (.slice A' L' c') (.slice P' K' d')
    simp [results, Try.results13, go_sem, r0, r1]
  · exact ⟨_, _, _, _, _, _, rfl, M2.out.row F2.out.2.2 (row_put _ _ _ _), F2.out.put _ _⟩

theorem lay_atS (S : Nat → Prop) (A P A2 : Option Addr) (L c K d n c2 : Nat) (m : PM) (b : List UInt8) (p : Int) (w : World) (HS : Hid (MemS S w (.agg #[.slice A L c, .slice P K d]) m)) (HU : Hid (Byt w (.slice A2 n c2) b)) (hL : L ≤ 65536) (hK : K < 1000) (hp : endB L p = true) (hn : n ≤ 9223372036854775807) :
    Calls Try.prog 13 #[.agg #[.slice A L c, .slice P K d], .int .i64 p, .slice A2 n c2] w fun e w' => ∃ A' L' c' P' K' d', e = .returned (.tuple #[.agg #[.slice A' L' c', .slice P' K' d'], .int .i64 (layP L p n), .int .i64 (layC L p n)]) ∧ MemS (fun j => S j ∨ w.heap.size ≤ j) w' (.agg #[.slice A' L' c', .slice P' K' d']) (layM m p b) ∧ Below w.heap.size w w' := by
  have HM : Hid (IsMem w (.agg #[.slice A L c, .slice P K d]) m) := HS.out.mem
  cases hr : roomB L p n with
  | false =>
    rw [layP_no hr, layC_no hr, layM_no (by rw [HM.out.len1, HU.out.len]; exact hr)]
    exact (lay_no A P A2 L c K d n c2 p w hL hp hn hr).mono fun e w' ⟨he, hb⟩ => ⟨_, _, _, _, _, _, he, HS.out.go (goS_below hb fun k hk _ => .inl hk), hb⟩
  | true =>
    rw [layP_yes hr, layC_yes hr, layM_yes (by rw [HM.out.len1, HU.out.len]; exact hr)]
    exact lay_yesS S A P A2 L c K d n c2 m b p w HS HU hL hK hp hr

/-- append of a row of bytes, and where the new row lies. -/
theorem run_bapp_at {w : World} (ty : TypeId) {base n : Nat} {v : Value} {xs : List UInt8} (hown : BOwns w base v n xs) {A : Option Addr} {m c : Nat} {ys : List UInt8} (hr : Byt w (.slice A m c) ys) (h63 : n + m ≤ 1000000) (hbase : base ≤ w.heap.size) :
    ∃ v' w', (Builtin.append_ #[22, 22] ty #[v, .slice A m c]).run Try.prog w = .ok v' w' ∧ BOwns w' base v' (n + m) (xs ++ ys) ∧ w.grownBy w' v.ownBlock ∧ (v'.ownBlock = v.ownBlock ∨ v'.ownBlock = some w.heap.size) := by
  obtain ⟨i0, hi, hz0, hz1, hz2⟩ := info_parts info_u8
  have h1 := hr.len
  have h4 := hr.lies
  cases A with
  | some ad =>
    have hsrc : ∀ j u, (u8s ys)[j]? = some u → w.cell? (ad.add j) = some u := by
      intro j u hu
      rcases h4 with h4 | ⟨g, o, e, _, hc⟩
      · rw [h4] at hu; simp at hu
      · injection e with e
        rw [e, add_at]
        exact hc j u hu
    obtain ⟨v', w', ha, hb, hc, _, hd⟩ := run_append_own_at (P := Try.prog) w base 22 ty 5 i0 (.int .u8 0) 1 1 Try.underlying22 hi hz0 hz1 hz2 rfl (by decide) v n (u8s xs) hown ad m c (u8s ys) (by rw [u8s_len, h1, Nat.mul_one]) hsrc (u8s_one ys) (by unfold maxLen; omega) (by omega) hbase
    exact ⟨v', w', ha, by have e := u8s_app xs ys; unfold BOwns; rw [e]; exact hb, hc, hd⟩
  | none =>
    have hnil : ys = [] := by
      rcases h4 with h | ⟨_, _, h, _⟩
      · have := congrArg List.length h
        rw [u8s_len] at this
        exact List.eq_nil_of_length_eq_zero this
      · cases h
    subst hnil
    have hm : m = 0 := by rw [← h1]; rfl
    subst hm
    refine ⟨v, w, ?_, by simpa using hown, World.grownBy.refl w _, .inl rfl⟩
    rcases hown.2 with ⟨rfl, rfl⟩ | ⟨g, cap, cur, rfl, _, _, hnc, _⟩
    · simp [Builtin.append_, run_underlying Try.underlying22, sizeOf, typeInfo, hi, Builtin.lenOf, Builtin.firstCells]
    · simp [Builtin.append_, run_underlying Try.underlying22, sizeOf, typeInfo, hi, Builtin.lenOf, Builtin.firstCells, hnc, storeCells]
theorem wpList_bapp_at {ops : Array Oper} {rest : List Oper} {o : Oper} {a : Act} {Q : Exit → Act → World → Prop} {w : World} (hgd : o.guard = none) (s x : Operand)
    (ho : o.op = .call { callee := .builtin .append, args := #[s, x], argTypes := #[22, 22] })
    (base : Nat) (v : Value) (n : Nat) (xs : List UInt8) (hs : a.eval s = v) (hown : BOwns w base v n xs)
    (A : Option Addr) (m c : Nat) (ys : List UInt8) (hx : a.eval x = .slice A m c) (hr : Byt w (.slice A m c) ys) (h63 : n + m ≤ 1000000) (hbase : base ≤ w.heap.size)
    (h : ∀ v' w', BOwns w' base v' (n + m) (xs ++ ys) → w.grownBy w' v.ownBlock → (v'.ownBlock = v.ownBlock ∨ v'.ownBlock = some w.heap.size) → wpList Try.prog ops Q rest (a.put o.dst v') w') : wpList Try.prog ops Q (o :: rest) a w :=
  wpList_plain hgd fun K hK => by
    obtain ⟨v', w', hr, h2, h3, h4⟩ := run_bapp_at o.type hown hr h63 hbase
    unfold Oper.wp execOp
    simp only [ho, resolve, invoke, builtin, Sem.run_bind, Sem.run_pure, Result.andThen_ok, List.map_toArray, List.map_cons, List.map_nil, hs, hx, hr]
    exact hK _ _ (h v' w' h2 h3 h4)
/-- Blocks but one row's. -/
def Off (row : Option Nat) (k : Nat) : Prop := some k ≠ row
theorem goS_off {w w' : World} {row row' : Option Nat} (hg : w.grownBy w' row) (h : row' = row ∨ row' = some w.heap.size) : GoS (Off row) (Off row') w w' :=
  ⟨hg.size, fun k hk hl => hg.block k hl hk, fun k hk hl => by
    rcases h with h | h
    · rw [h]; exact hk
    · intro e
      rw [h] at e
      injection e with e
      omega⟩
end Go.Proofs.Ytekfemkoiadipaa
