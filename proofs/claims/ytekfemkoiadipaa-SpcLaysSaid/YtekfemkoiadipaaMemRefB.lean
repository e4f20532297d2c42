/- The document's own Write. -/
import Derived.Test.YtekfemkoiadipaaMemRefA
import Derived.Deep.AppendLies
namespace Go.Proofs.Ytekfemkoiadipaa
open Go.RowKit

theorem own_pats {w : World} {base n : Nat} {v : Value} {qs : List Qt} {ps : List Pt} (h : w.ownsRow base 68 2 v n (pc qs)) (ht : Tells w qs ps) : Pats w v ps := by
  have hl := h.1
  rw [pc_len] at hl
  have hq := ht.1
  obtain rfl : n = ps.length := by omega
  rcases h.2 with ⟨rfl, h0⟩ | ⟨g, cap, cur, rfl, _, hg, hnc, hcm, _, htk⟩
  · have : ps = [] := List.eq_nil_of_length_eq_zero h0
    subst this
    have : qs = [] := List.eq_nil_of_length_eq_zero hq
    subst this
    exact pats_nil w
  · refine ⟨some ⟨g, 0, none⟩, cap, qs, rfl, hnc, hcm, .inr ⟨g, 0, rfl, (Array.getElem?_eq_some_iff.1 hg).1, fun j x hx => ?_⟩, ht⟩
    rw [← htk, List.getElem?_take] at hx
    split at hx
    · rw [Nat.zero_add]
      simp [World.cell?, hg]
      simpa using hx
    · cases hx

theorem splice_step {α : Type} (l c : List α) (q j : Nat) (hj : j < c.length) (hq : q + c.length ≤ l.length) : (splice l q (c.take j)).set (q + j) c[j] = splice l q (c.take (j + 1)) := by
  have l1 : (c.take j).length = j := by simp; omega
  have l2 : (c.take (j + 1)).length = j + 1 := by simp; omega
  unfold splice
  rw [l1, l2, List.take_succ_eq_append_getElem hj]
  rw [List.set_append, if_neg (by simp; omega)]
  rw [show q + j - (l.take q).length = j by simp; omega]
  rw [List.set_append, if_neg (by omega), l1, Nat.sub_self, List.drop_eq_getElem_cons (by omega : q + j < l.length), List.append_assoc]
  rfl
theorem lay_step (row b : List UInt8) (q j : Nat) (x : UInt8) (hj : j < b.length) (hq : q + b.length ≤ row.length) (hx : b.getD j 0 = x) : (u8s (splice row q (b.take j))).set (q + j) (.int .u8 (x.toNat : Int)) = u8s (splice row q (b.take (j + 1))) := by
  have e : b[j] = x := by rw [← hx]; simp [List.getD, List.getElem?_eq_getElem hj]
  rw [← splice_step row b q j hj hq, e]
  unfold u8s
  rw [List.map_set]

set_option maxRecDepth 100000 in
set_option maxHeartbeats 1000000 in
theorem rwrite_no (A P A2 : Option Addr) (L c K d n c2 : Nat) (p : Int) (w : World) (hL : L ≤ 65536) (hn : n ≤ 65536) (hno : okB L p n = false ∨ n = 0) :
    Calls Try.prog 25 #[.agg #[.slice A L c, .slice P K d], .int .i64 p, .slice A2 n c2] w fun e w' => e = .returned (.tuple #[.agg #[.slice A L c, .slice P K d], .int .i64 (codeF (okB L p n))]) ∧ Below w.heap.size w w' := by
  cases ok : okB L p n with
  | false =>
    clear hno
    rw [codeF_no]
    go_enter Try.func25, Try.ntmps25
    go_wp2_with fail
    refine (rthere_any _ _ _ _ _ _ _ _ _ (by omega) (by omega)).mono ?_
    rw [ok]
    rintro e w1 ⟨rfl, b1⟩
    obtain ⟨k0, k1⟩ := box_two w (.slice A L c) (.slice P K d) (.slice none 0 0) (.slice none 0 0) 25 25
    obtain ⟨q0, q1, _, _⟩ := (k0.keep b1).use
    obtain ⟨q2, q3, q4, q5⟩ := (k1.keep b1).use
    have HG := Lib.hid ((k1.keep b1).got (.slice A L c) (.slice P K d))
    have HB := Lib.hid (below_two b1)
    clear k0 k1 b1
    go_wp2_with fail
    refine bodyPost_ret (v := .tuple #[.agg #[.slice A L c, .slice P K d], .int .i64 (-9)]) ?_ rfl ?_
    · obtain ⟨r0, r1⟩ := HG.out
      simp [results, Try.results25, go_sem, r0, r1]
    · exact ⟨rfl, (HB.out.setCell (by simp) _).setCell (by simp) _⟩
  | true =>
    have h0 : n = 0 := hno.resolve_left (by simp [ok])
    subst h0
    clear hno
    rw [codeF_yes]
    go_enter Try.func25, Try.ntmps25
    go_wp2_with fail
    refine (rthere_any _ _ _ _ _ _ _ _ _ (by omega) (by omega)).mono ?_
    rw [show okB L p 0 = true from ok]
    rintro e w1 ⟨rfl, b1⟩
    obtain ⟨k0, k1⟩ := box_two w (.slice A L c) (.slice P K d) (.slice none 0 0) (.slice none 0 0) 25 25
    obtain ⟨q0, q1, _, _⟩ := (k0.keep b1).use
    obtain ⟨q2, q3, q4, q5⟩ := (k1.keep b1).use
    have HG := Lib.hid ((k1.keep b1).got (.slice A L c) (.slice P K d))
    have HB := Lib.hid (below_two b1)
    clear k0 k1 b1
    go_wp2_with fail
    refine bodyPost_ret (v := .tuple #[.agg #[.slice A L c, .slice P K d], .int .i64 0]) ?_ rfl ?_
    · obtain ⟨r0, r1⟩ := HG.out
      simp [results, Try.results25, go_sem, r0, r1]
    · exact ⟨rfl, (HB.out.setCell (by simp) _).setCell (by simp) _⟩

set_option maxRecDepth 100000 in
set_option maxHeartbeats 4000000 in
theorem rwrite_yes (A P A2 : Option Addr) (L c K d n c2 q : Nat) (m : PM) (b : List UInt8) (w : World) (HM : Hid (IsMem w (.agg #[.slice A L c, .slice P K d]) m)) (HU : Hid (Byt w (.slice A2 n c2) b)) (hL : L ≤ 65536) (hK : K < 1000) (hn0 : 0 < n) (hq : q + n ≤ L) (ok : okB L q n = true) :
    Calls Try.prog 25 #[.agg #[.slice A L c, .slice P K d], .int .i64 (q : Int), .slice A2 n c2] w fun e w' => ∃ x y, e = .returned (.tuple #[.agg #[x, y], .int .i64 0]) ∧ IsMem w' (.agg #[x, y]) (writeF m q b) ∧ Below w.heap.size w w' := by
  have hz : ((n : Int) == 0) = false := by simp; omega
  obtain ⟨i0, hi, hz0, hz1, hz2⟩ := info_parts info_u8
  obtain ⟨j0, hj, hy0, hy1, hy2⟩ := info_parts info_patch
  have hlb : Hid (b.length = n) := HU.out.len
  go_enter Try.func25, Try.ntmps25
  go_wp2_with fail
  refine (rthere_any _ _ _ _ _ _ _ _ _ (by omega) (by omega)).mono ?_
  rw [ok]
  rintro e w1 ⟨rfl, b1⟩
  obtain ⟨k0, k1⟩ := box_two w (.slice A L c) (.slice P K d) (.slice none 0 0) (.slice none 0 0) 25 25
  have K0 := Lib.hid (k0.keep b1)
  have K1 := Lib.hid (k1.keep b1)
  obtain ⟨q0, q1, _, _⟩ := (k0.keep b1).use
  have HB := Lib.hid (below_two b1)
  clear k0 k1 b1
  go_wp2_with fail
  refine (rtext_at _ _ _ _ _ _ m _ _ _ (HM.out.keep HB.out) hL (by omega)).mono ?_
  rw [ok, codeF_yes]
  rintro e w2 ⟨B, k, e', rfl, hu2, b2⟩
  have K2 := Lib.hid (K0.out.keep b2)
  have K3 := Lib.hid (K1.out.keep b2)
  have HT := Lib.hid hu2
  have HB2 := Lib.hid (below_then HB.out b2)
  have HL2 := Lib.hid (HM.out.keep HB2.out).byt.lies
  clear q0 q1 hu2 b2
  obtain ⟨q0, q1, _, _⟩ := K2.out.use
  have hlt0 := K2.out.lt
  have hlt1 := K3.out.lt
  obtain ⟨X, hX⟩ : ∃ X, X = u8s m.1 := ⟨_, rfl⟩
  have HX : Hid (X.length = L) := by rw [hX, u8s_len]; exact HM.out.len1
  have H1 : Hid (∀ v ∈ X, v.oneCell' = true) := by rw [hX]; exact u8s_one m.1
  rw [← hX] at HL2
  have HE := Lib.hid hX
  clear hX
  go_wp2_with (at_builtin; refine wpList_append_lies rfl _ _ 22 rfl w2.heap.size 5 i0 (.int .u8 0) 1 1 Try.underlying22 hi hz0 hz1 hz2 rfl (by decide) _ _ _ rfl (World.ownsRow_lit w2 #[] 0 (Nat.le_refl _) (by unfold maxLen; omega) rfl) A L c X rfl ?c1 ?c2 ?c3 ?c4 ?c5 ?c6 ?_)
  case c1 => rw [HX.out]; omega
  case c2 => exact HL2.out.keep ((Below.refl _ _).alloc (Nat.le_refl _) _)
  case c3 => exact H1.out
  case c4 => unfold maxLen; omega
  case c5 => omega
  case c6 => simp
  intro v3 w3 hown hgrow
  have hB3 : Below w2.heap.size w2 w3 := ((Below.refl w2.heap.size w2).alloc (Nat.le_refl _) _).grown hgrow (by simp) (fun k hk => by cases hk; exact Nat.le_refl _)
  have hown' : w3.ownsRow w2.heap.size 5 1 v3 L X := by simpa using hown
  obtain ⟨g, cap, rfl, hg2, hg3⟩ := hown'.form (by omega)
  have HO := Lib.hid hown'
  have HB3 := Lib.hid hB3
  clear hown hgrow hB3 hown' q0 q1
  go_wp2_with fail
  go_loopw [12] (fun i wr => ∃ j : Nat, j ≤ n ∧ i = .int .i64 (j : Int) ∧ wr.ownsRow w2.heap.size 5 1 (.slice (some ⟨g, 0, none⟩) L cap) L (u8s (splice m.1 q (b.take j))) ∧ Below w2.heap.size w2 wr) (fun i _ => n - (intOf i).toNat)
  case atStart => exact ⟨0, Nat.zero_le _, rfl, by simpa [splice, ← HE.out] using HO.out, HB3.out⟩
  case round =>
    obtain ⟨j, hj', rfl, hown, hb⟩ := hrel
    by_cases hlt : j < n
    · obtain ⟨g5, o5, rfl, hg5, hc5⟩ : ∃ g5 o5, A2 = some ⟨g5, o5, none⟩ ∧ g5 < w.heap.size ∧ w.cell? ⟨g5, o5 + j, none⟩ = some (.int .u8 ((b.getD j 0).toNat : Int)) := by
        have hl := hlb.out
        rcases HU.out.lies with e | ⟨g5, o5, e, hg, hc⟩
        · have := congrArg List.length e
          rw [u8s_len, hl] at this
          simp at this
          omega
        · refine ⟨g5, o5, e, hg, hc j _ ?_⟩
          rw [u8s_at (by omega)]
          simp [List.getD, List.getElem?_eq_getElem (by omega : j < b.length)]
      obtain ⟨x, hx⟩ : ∃ x : UInt8, b.getD j 0 = x := ⟨_, rfl⟩
      rw [hx] at hc5
      have HX5 := Lib.hid hx
      have hc6 : wr.cell? ⟨g5, o5 + j, none⟩ = some (.int .u8 (x.toNat : Int)) := (((HB2.out.trans (hb.mono HB2.out.size)).cell (p := ⟨g5, o5 + j, none⟩) hg5)).trans hc5
      have hcl := hown.cellAt (q + j) (by omega)
      obtain ⟨y, hy⟩ : ∃ y, (u8s (splice m.1 q (b.take j)))[q + j]? = some y := by
        refine ⟨_, u8s_at ?_⟩
        have := hlb.out
        have := HM.out.len1
        rw [length_splice _ _ _ (by simp; omega)]
        omega
      have hc7 : wr.cell? ⟨g, q + j, none⟩ = some y := hcl.trans hy
      have hf7 : wr.frozen? ⟨g, q + j, none⟩ = false := hown.frozenAt (q + j)
      obtain ⟨hst, hgr⟩ := hown.stored (q + j) (.int .u8 (x.toNat : Int))
      have hlc : L ≤ cap := by
        rcases hown.2 with ⟨h, _⟩ | ⟨g', cap', cur, e, _, _, h, _⟩
        · cases h
        · injection e with _ _ e
          omega
      rw [lay_step m.1 b q j x (by rw [hlb.out]; exact hlt) (by rw [hlb.out, HM.out.len1]; exact hq) hx] at hst
      have HST := Lib.hid hst
      have HBS : Hid (Below w2.heap.size w2 (wr.setCell ⟨g, q + j, none⟩ (.int .u8 (x.toNat : Int)))) := hb.setCell hg2 _
      clear hst hgr hy hcl hx hc5 hown hb
      go_wp2
      go_roundw
      case rel => exact ⟨j + 1, by omega, by go_num, HST.out, HBS.out⟩
      case measure => simp [intOf]; omega
    · have hjn : j = n := by omega
      subst hjn
      have hl := hlb.out
      rw [List.take_of_length_le (by omega)] at hown
      have HBy := Lib.hid (own_byt hown)
      have K4 := Lib.hid (K2.out.keep hb)
      have K5 := Lib.hid (K3.out.keep hb)
      have HBr := Lib.hid hb
      have HBw := Lib.hid (HB2.out.trans (hb.mono HB2.out.size))
      obtain ⟨q0, q1, _, _⟩ := K4.out.use
      obtain ⟨q2, q3, _, _⟩ := K5.out.use
      have hlt3 := K4.out.lt
      have hlt4 := K5.out.lt
      obtain ⟨qs, HQ, hlq, htl⟩ : ∃ qs : List Qt, Hid (qs.length = K) ∧ Lies w P (pc qs) ∧ Tells w qs m.2 := HM.out.patq
      have HQL : Hid ((pc qs).length = K * 2) := by have := HQ.out; show _ = _; rw [pc_len]; omega
      have HLQ := Lib.hid (hlq.keep HBw.out)
      have HTQ := Lib.hid htl
      clear hown hb hl hlq htl
      go_wp2_with (first | (at_builtin; refine wpList_append_lies rfl (.tmp 53) (.tmp 55) 23 rfl wr.heap.size 68 j0 (.agg #[.int .i64 0, .slice none 0 0]) 2 32 Try.underlying23 hj hy0 hy1 hy2 rfl (by decide) _ _ _ rfl (World.ownsRow_lit wr #[] 0 (Nat.le_refl _) (by unfold maxLen; omega) rfl) P K d (pc qs) rfl ?c1 ?c2 ?c3 ?c4 ?c5 ?c6 ?_))
      case c1 => exact HQL.out
      case c2 => exact HLQ.out.keep ((Below.refl _ _).alloc (Nat.le_refl _) _)
      case c3 => exact pc_one HTQ.out
      case c4 => unfold maxLen; omega
      case c5 => omega
      case c6 => simp
      intro v5 w5 hown5 hgrow5
      have hB5 : Below wr.heap.size wr w5 := ((Below.refl wr.heap.size wr).alloc (Nat.le_refl _) _).grown hgrow5 (by simp) (fun k hk => by cases hk; exact Nat.le_refl _)
      have hown5' : w5.ownsRow wr.heap.size 68 2 v5 K (pc qs) := by simpa using hown5
      have HB5 := Lib.hid hB5
      have K6 := Lib.hid (K5.out.keep hB5)
      have hlt5 := K6.out.lt
      have hlt6 := hB5.size
      clear hown5 hgrow5 hB5 q0 q1 q2 q3
      go_wp2_with (first | (at_builtin; refine wpList_append_lies rfl (.tmp 56) (.tmp 60) 23 rfl wr.heap.size 68 j0 (.agg #[.int .i64 0, .slice none 0 0]) 2 32 Try.underlying23 hj hy0 hy1 hy2 rfl (by decide) _ _ _ rfl (hown5'.alloc _) (some ⟨w5.heap.size, 0, none⟩) 1 1 (pc [((q : Int), .slice B k e')]) rfl ?c1 ?c2 ?c3 ?c4 ?c5 ?c6 ?_))
      case c1 => rfl
      case c2 => exact lies_block (t := 68) (one_new _ _ _)
      case c3 => intro u hu; simp [pc] at hu; rcases hu with rfl | rfl <;> rfl
      case c4 => unfold maxLen; omega
      case c5 => omega
      case c6 => simp; omega
      intro v6 w6 hown6 hgrow6
      have hB6 : Below wr.heap.size wr w6 := (HB5.out.alloc HB5.out.size _).grown hgrow6 (by simp; omega) (own_from hown5')
      have HB6 := Lib.hid hB6
      have K7 := Lib.hid (K5.out.keep hB6)
      obtain ⟨q2, q3, q4, q5⟩ := (K5.out.keep hB6).use
      have HO6 := Lib.hid hown6
      obtain ⟨g6, cap6, rfl, _, _⟩ := hown6.form (by omega)
      clear hown6 hgrow6 hB6 hown5'
      go_wp2
      refine bodyPost_ret (v := .tuple #[.agg #[.slice (some ⟨g, 0, none⟩) L cap, .slice (some ⟨g6, 0, none⟩) (K + 1) cap6], .int .i64 0]) ?_ rfl ?_
      · obtain ⟨r0, r1⟩ := K7.out.got (.slice (some ⟨g, 0, none⟩) L cap) (.slice (some ⟨g6, 0, none⟩) (K + 1) cap6)
        simp [results, Try.results25, go_sem, r0, r1]
      · have hb0 : b ≠ [] := by
          intro e
          have := hlb.out
          rw [e] at this
          simp at this
          omega
        have ok' : okB m.1.length (q : Int) b.length = true := by rw [HM.out.len1, hlb.out]; exact ok
        have b6 : Below w.heap.size w w6 := HBw.out.trans (HB6.out.mono HBw.out.size)
        refine ⟨_, _, rfl, IsMem.row (w := w6) ?_ K7.out (row_put _ _ _ _), (b6.setCell (by simp) _).setCell (by simp) _⟩
        rw [writeF_yes ok' hb0]
        refine mem_mk (HBy.out.keep HB6.out) ?_
        refine own_pats (qs := qs ++ [((q : Int), .slice B k e')]) (by rw [pc_app]; exact HO6.out) (Tells.snoc (p := ((q : Int), textF m q b.length)) (HTQ.out.keep b6) ?_)
        rw [hlb.out]
        exact HT.out.keep (HBr.out.trans (HB6.out.mono HBr.out.size))

/-- The document's Write, whatever comes. -/
theorem rwrite_any (v u : Value) (m : PM) (b : List UInt8) (p : Int) (w : World) (h : IsMem w v m) (hu : Byt w u b) (hL : m.1.length ≤ 65536) (hK : m.2.length < 1000) (hb : b.length ≤ 65536) :
    Calls Try.prog 25 #[v, .int .i64 p, u] w fun e w' => ∃ x y, e = .returned (.tuple #[.agg #[x, y], .int .i64 (codeF (okB m.1.length p b.length))]) ∧ IsMem w' (.agg #[x, y]) (writeF m p b) ∧ Below w.heap.size w w' := by
  have h' := h
  obtain ⟨A, c, P, d, rfl, _, _⟩ := h.parts
  have hu' := hu
  obtain ⟨A2, c2, rfl⟩ := hu.form
  by_cases hn : okB m.1.length p b.length = false ∨ b.length = 0
  · refine (rwrite_no A P A2 _ c _ d _ c2 p w hL hb hn).mono fun e w' ⟨he, hw⟩ => ⟨_, _, he, ?_, hw⟩
    have e : writeF m p b = m := by
      rcases hn with hn | hn
      · exact writeF_no hn
      · rw [List.eq_nil_of_length_eq_zero hn]; exact writeF_nil
    rw [e]
    exact h'.keep hw
  · have ok : okB m.1.length p b.length = true := by
      cases e : okB m.1.length p b.length with
      | true => rfl
      | false => exact absurd (.inl e) hn
    have hok := (okB_iff _ _ _).1 ok
    obtain ⟨q, rfl⟩ := Int.eq_ofNat_of_zero_le (by omega : 0 ≤ p)
    rw [ok, codeF_yes]
    exact rwrite_yes A P A2 _ c _ d _ c2 q m b w h' hu' hL hK (by omega) (by omega) ok
end Go.Proofs.Ytekfemkoiadipaa
