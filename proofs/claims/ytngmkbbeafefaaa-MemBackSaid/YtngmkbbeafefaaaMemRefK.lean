/- The document's own Back. -/
import Derived.Test.YtngmkbbeafefaaaMemRefJ
namespace Go.Proofs.Ytngmkbbeafefaaa
open Go.RowKit

theorem undo_len (L : Nat) (row : List UInt8) (hr : row.length = L) : ∀ ps : List Pt, (∀ p ∈ ps, rightP L p = true) → (undo ps row).length = L
  | [], _ => hr
  | p :: ps, h => by
    have ih := undo_len L row hr ps fun q hq => h q (List.mem_cons_of_mem _ hq)
    have hp := h p List.mem_cons_self
    show (layF (undo ps row) p.1 p.2).length = L
    rw [layF_len (by rw [ih]; exact hp), ih]
theorem undo_step {ps : List Pt} {i : Nat} {p : Pt} (row : List UInt8) (h : ps[i]? = some p) : undo (ps.drop i) row = layF (undo (ps.drop (i + 1)) row) p.1 p.2 := by
  have hi := (List.getElem?_eq_some_iff.1 h)
  obtain ⟨h1, h2⟩ := hi
  rw [List.drop_eq_getElem_cons h1, h2]
  rfl
theorem right_mem {m : PM} (h : rightB m = true) : ∀ p ∈ m.2, rightP m.1.length p = true := by
  unfold rightB at h
  simp only [Bool.and_eq_true, List.all_eq_true] at h
  exact h.2

theorem fr_set {w w1 : World} {A P : Option Addr} {L c K d : Nat} (h : Fr w A P L c K d w1) {g j : Nat} (hg : w.heap.size + 2 ≤ g) (u : Value) : Fr w A P L c K d (w1.setCell ⟨g, j, none⟩ u) :=
  ⟨h.1.setCell (by simp; omega) u, (Below.heap_setCell w1 ⟨g, j, none⟩ u _ (by simp; omega)).trans h.2.1, (Below.heap_setCell w1 ⟨g, j, none⟩ u _ (by simp; omega)).trans h.2.2⟩

theorem back_no {m : PM} {k : Int} (h : backOk m k = false) : backF m k = m ∧ backC m k = -24 := by unfold backF backC; rw [h]; exact ⟨rfl, rfl⟩
theorem back_yes {m : PM} {k : Int} (h : backOk m k = true) : backF m k = (undo (m.2.drop k.toNat) m.1, m.2.take k.toNat) ∧ backC m k = 0 := by unfold backF backC; rw [h]; exact ⟨rfl, rfl⟩
theorem backOk_iff (m : PM) (k : Int) : backOk m k = true ↔ (0 ≤ k ∧ k ≤ (m.2.length : Int)) := by unfold backOk; simp

set_option maxRecDepth 100000 in
set_option maxHeartbeats 2000000 in
theorem rback_no (A P : Option Addr) (L c K d : Nat) (m : PM) (k : Int) (w : World) (HM : Hid (IsMem w (.agg #[.slice A L c, .slice P K d]) m)) (hno : Hid (backOk m k = false)) :
    Calls Try.prog 37 #[.agg #[.slice A L c, .slice P K d], .int .i64 k] w fun e w' => ∃ A' L' c' P' K' d', e = .returned (.tuple #[.agg #[.slice A' L' c', .slice P' K' d'], .int .i64 (backC m k)]) ∧ IsMem w' (.agg #[.slice A' L' c', .slice P' K' d']) (backF m k) ∧ Below w.heap.size w w' := by
  rw [(back_no hno.out).1, (back_no hno.out).2]
  have F1 := Lib.hid (fr_new w A P L c K d)
  have HN : Hid (¬ (0 ≤ k ∧ k ≤ (K : Int))) := by
    intro h
    have := (backOk_iff m k).2 (by rw [HM.out.len2]; exact h)
    rw [hno.out] at this
    cases this
  by_cases h1 : k < 0
  · go_enter Try.func37, Try.ntmps37
    go_wp2
    refine bodyPost_ret (v := .tuple #[.agg #[.slice A L c, .slice P K d], .int .i64 (-24)]) ?_ rfl ?_
    · simp [results, Try.results37, go_sem]
    · exact ⟨_, _, _, _, _, _, rfl, HM.out.keep (((Below.refl _ _).alloc (Nat.le_refl _) _).alloc (by simp) _), ((Below.refl _ _).alloc (Nat.le_refl _) _).alloc (by simp) _⟩
  · have h1' : decide (k < 0) = false := by simp; omega
    have h2 : (K : Int) < k := by have := HN.out; omega
    clear h1
    go_enter Try.func37, Try.ntmps37
    go_wp2
    refine bodyPost_ret (v := .tuple #[.agg #[.slice A L c, .slice P K d], .int .i64 (-24)]) ?_ rfl ?_
    · simp [results, Try.results37, go_sem]
    · exact ⟨_, _, _, _, _, _, rfl, HM.out.keep (((Below.refl _ _).alloc (Nat.le_refl _) _).alloc (by simp) _), ((Below.refl _ _).alloc (Nat.le_refl _) _).alloc (by simp) _⟩

set_option maxRecDepth 100000 in
set_option maxHeartbeats 4000000 in
theorem rback_yes (A P : Option Addr) (L c K d mk : Nat) (m : PM) (w : World) (HM : Hid (IsMem w (.agg #[.slice A L c, .slice P K d]) m)) (HR : Hid (rightB m = true)) (hL : L ≤ 65536) (hK : K ≤ 1000) (hmk : mk ≤ K) :
    Calls Try.prog 37 #[.agg #[.slice A L c, .slice P K d], .int .i64 (mk : Int)] w fun e w' => ∃ A' L' c' P' K' d', e = .returned (.tuple #[.agg #[.slice A' L' c', .slice P' K' d'], .int .i64 0]) ∧ IsMem w' (.agg #[.slice A' L' c', .slice P' K' d']) (undo (m.2.drop mk) m.1, m.2.take mk) ∧ Below w.heap.size w w' := by
  have h1 : decide ((mk : Int) < 0) = false := by simp
  have h2 : decide ((K : Int) < (mk : Int)) = false := by simp; omega
  have F1 := Lib.hid (fr_new w A P L c K d)
  obtain ⟨i0, hi, hz0, hz1, hz2⟩ := info_parts info_u8
  obtain ⟨j0, hj, hy0, hy1, hy2⟩ := info_parts info_patch
  obtain ⟨X, hX⟩ : ∃ X, X = u8s m.1 := ⟨_, rfl⟩
  have HX : Hid (X.length = L) := by rw [hX, u8s_len]; exact HM.out.len1
  have H1 : Hid (∀ v ∈ X, v.oneCell' = true) := by rw [hX]; exact u8s_one m.1
  have HL2 : Hid (Lies w A X) := by rw [hX]; exact HM.out.byt.lies
  have HE := Lib.hid hX
  have HLIT : Hid ((((w.alloc (.cells #[.slice A L c, .slice P K d] 25)).alloc (.cells #[.slice none 0 0, .slice none 0 0] 25)).alloc (.cells #[] 5)).ownsRow (w.heap.size + 2) 5 1 (.slice (some ⟨w.heap.size + 1 + 1, 0, none⟩) 0 0) 0 []) := by
    have h := World.ownsRow_lit (base := w.heap.size + 2) (e := 5) (size := 1) ((w.alloc (.cells #[.slice A L c, .slice P K d] 25)).alloc (.cells #[.slice none 0 0, .slice none 0 0] 25)) #[] 0 (by simp) (by unfold maxLen; omega) rfl
    rw [World.size_alloc, World.size_alloc] at h
    exact h
  clear hX
  go_enter Try.func37, Try.ntmps37
  go_wp2_with (at_builtin; refine wpList_append_lies rfl _ _ 22 rfl (w.heap.size + 2) 5 i0 (.int .u8 0) 1 1 Try.underlying22 hi hz0 hz1 hz2 rfl (by decide) _ _ _ rfl HLIT.out A L c X rfl ?c1 ?c2 ?c3 ?c4 ?c5 ?c6 ?_)
  case c1 => rw [HX.out]; omega
  case c2 => exact HL2.out.keep ((((Below.refl _ _).alloc (Nat.le_refl _) _).alloc (by simp) _).alloc (by simp; omega) _)
  case c3 => exact H1.out
  case c4 => unfold maxLen; omega
  case c5 => omega
  case c6 => simp
  intro v3 w3 hown hgrow
  have F3 : Fr w A P L c K d w3 := F1.out.keep (((Below.refl _ _).alloc (Nat.le_refl _) _).grown hgrow (by simp) (fun k hk => by cases hk; simp))
  have hown' : w3.ownsRow (w.heap.size + 2) 5 1 v3 L X := by simpa using hown
  have hby := own_byt (HE.out ▸ hown')
  obtain ⟨A3, cap, rfl⟩ := hby.form
  rw [HM.out.len1] at *
  have HO := Lib.hid hown'
  have HF3 := Lib.hid F3
  obtain ⟨q0, q1, _, _⟩ := F3.2.1.use
  have HR2 : Hid (∀ p ∈ m.2, rightP L p = true) := by have := right_mem HR.out; rw [HM.out.len1] at this; exact this
  clear hown hgrow hown' hby F3
  go_wp2_with fail
  go_loopw [7] (fun i wr => ∃ t : Nat, mk + t ≤ K ∧ i = .int .i64 (((mk + t : Nat) : Int) - 1) ∧ Hid (wr.ownsRow (w.heap.size + 2) 5 1 (.slice A3 L cap) L (u8s (undo (m.2.drop (mk + t)) m.1))) ∧ Hid (Fr w A P L c K d wr)) (fun i _ => (intOf i + 1).toNat)
  case atStart =>
    refine ⟨K - mk, by omega, by rw [show mk + (K - mk) = K by omega], ?_, HF3.out⟩
    show World.ownsRow _ _ _ _ _ _ _
    rw [show mk + (K - mk) = K by omega, List.drop_eq_nil_of_le (by rw [HM.out.len2]; exact Nat.le_refl _)]
    show World.ownsRow _ _ _ _ _ _ (u8s m.1)
    rw [← HE.out]
    exact HO.out
  case round =>
    obtain ⟨t, ht, rfl, hown, hf⟩ := hrel
    obtain ⟨q2, q3, _, _⟩ := hf.out.2.1.use
    clear q0 q1
    by_cases ht0 : t = 0
    · subst ht0
      rw [show ((mk + 0 : Nat) : Int) - 1 = (mk : Int) - 1 by omega]
      rw [Nat.add_zero] at hown
      have HBy := Lib.hid (own_byt hown.out)
      obtain ⟨qs, HQ, hlq, htl⟩ : ∃ qs : List Qt, Hid (qs.length = K) ∧ Lies w P (pc qs) ∧ Tells w qs m.2 := HM.out.patq
      have HQL : Hid ((pc (qs.take mk)).length = mk * 2) := by have := HQ.out; show _ = _; rw [pc_len, List.length_take]; omega
      have HLQ : Hid (Lies wr P (pc (qs.take mk))) := by
        show Lies _ _ _
        rcases hlq with e | ⟨g, o, rfl, hg, hc⟩
        · rw [pc_take, e]; exact .inl (by simp)
        · have h4 := (Lies.part (.inr ⟨g, o, rfl, hg, hc⟩ : Lies w (some ⟨g, o, none⟩) (pc qs)) 0 (2 * mk)).keep hf.out.bel
          rw [pc_take]
          simpa using h4
      have HTQ := Lib.hid (htl.take mk)
      have hKd : (K : Int) ≤ (d : Int) := by
        obtain ⟨_, _, _, e, h4, _⟩ := HM.out.pats
        injection e with _ _ e
        have := HM.out.len2
        omega
      have hmd : (mk : Int) ≤ (d : Int) := by omega
      have hlt3 := hf.out.2.1.lt
      have hlt4 := hf.out.2.2.lt
      clear hlq htl
      go_wp2_with (at_builtin; refine wpList_append_lies rfl (.tmp 57) (.tmp 61) 23 rfl wr.heap.size 76 j0 (.agg #[.int .i64 0, .slice none 0 0]) 2 32 Try.underlying23 hj hy0 hy1 hy2 rfl (by decide) _ _ _ rfl (World.ownsRow_lit wr #[] 0 (Nat.le_refl _) (by unfold maxLen; omega) rfl) P mk d (pc (qs.take mk)) rfl ?c1 ?c2 ?c3 ?c4 ?c5 ?c6 ?_)
      case c1 => exact HQL.out
      case c2 => exact HLQ.out.keep ((Below.refl _ _).alloc (Nat.le_refl _) _)
      case c3 => exact pc_one HTQ.out
      case c4 => unfold maxLen; omega
      case c5 => omega
      case c6 => simp
      intro v5 w5 hown5 hgrow5
      have hB5 : Below wr.heap.size wr w5 := ((Below.refl wr.heap.size wr).alloc (Nat.le_refl _) _).grown hgrow5 (by simp) (fun k hk => by cases hk; exact Nat.le_refl _)
      have hown5' : w5.ownsRow wr.heap.size 76 2 v5 mk (pc (qs.take mk)) := by simpa using hown5
      have HPA := Lib.hid (own_pats hown5' (HTQ.out.keep (hf.out.bel.trans (hB5.mono hf.out.bel.size))))
      have HBy5 := Lib.hid (HBy.out.keep hB5)
      have F5 := Lib.hid (hf.out.keep hB5)
      obtain ⟨q4, q5, q6, q7⟩ := F5.out.2.2.use
      obtain ⟨P5, d5, _, e5, _⟩ := own_pats hown5' (HTQ.out.keep (hf.out.bel.trans (hB5.mono hf.out.bel.size)))
      have e6 : (m.2.take mk).length = mk := by rw [List.length_take, HM.out.len2]; omega
      rw [e6] at e5
      subst e5
      clear hown5 hgrow5 hB5 hown5' q2 q3 e6
      go_wp2
      refine bodyPost_ret (v := .tuple #[.agg #[.slice A3 L cap, .slice P5 mk d5], .int .i64 0]) ?_ rfl ?_
      · obtain ⟨r0, r1⟩ := F5.out.2.2.got (.slice A3 L cap) (.slice P5 mk d5)
        simp [results, Try.results37, go_sem, r0, r1]
      · exact ⟨_, _, _, _, _, _, rfl, F5.out.mem (mem_mk HBy5.out HPA.out) _ _, F5.out.put _ _⟩
    · obtain ⟨s, rfl⟩ : ∃ s, t = s + 1 := ⟨t - 1, by omega⟩
      have hlt : mk + s < K := by omega
      rw [show ((mk + (s + 1) : Nat) : Int) - 1 = ((mk + s : Nat) : Int) by omega]
      obtain ⟨i, hi2⟩ : ∃ i, mk + s = i := ⟨_, rfl⟩
      rw [show mk + (s + 1) = i + 1 by omega] at hown
      rw [hi2] at hlt ⊢
      have hmi : mk ≤ i := by omega
      obtain ⟨g, o, B, n, e, p, rfl, hg, hp, hc1, hc2, hby, hn, hKd⟩ := mem_patch HM.out hlt
      obtain ⟨row, hrow⟩ : ∃ row, undo (m.2.drop (i + 1)) m.1 = row := ⟨_, rfl⟩
      have HU : Hid (undo (m.2.drop i) m.1 = layF row p.1 p.2) := by rw [undo_step m.1 hp, hrow]; rfl
      have HRL : Hid (row.length = L) := by rw [← hrow]; exact undo_len L m.1 HM.out.len1 _ fun q hq => HR2.out q (List.mem_of_mem_drop hq)
      have hok : okB L p.1 n = true := by have := HR2.out p (List.mem_of_getElem? hp); unfold rightP at this; rwa [hby.len] at this
      rw [hrow] at hown
      have d1 : wr.cell? ⟨g, o + i * 2, none⟩ = some (.int .i64 p.1) := (hf.out.bel.cell (p := ⟨g, o + i * 2, none⟩) hg).trans hc1
      have d2 : wr.cell? ⟨g, o + i * 2 + 1, none⟩ = some (.slice B n e) := (hf.out.bel.cell (p := ⟨g, o + i * 2 + 1, none⟩) hg).trans hc2
      have HBY := Lib.hid hby
      obtain ⟨p1, hp1⟩ : ∃ p1, p.1 = p1 := ⟨_, rfl⟩
      obtain ⟨p2, hp2⟩ : ∃ p2, p.2 = p2 := ⟨_, rfl⟩
      rw [hp1] at d1 HU hok
      rw [hp2] at HBY HU
      have HOK := Lib.hid hok
      have hlt8 := hf.out.2.2.lt
      have hni : (n : Int) ≤ 65536 := by have := (okB_iff _ _ _).1 hok; omega
      have hil : (i : Int) < (K : Int) := by omega
      have HI := Lib.hid hi2
      obtain ⟨wo, hwo⟩ : ∃ wo : World, wo = wr := ⟨_, rfl⟩
      subst hwo
      clear hc1 hc2 hby hp hp1 hp2 hrow hok hi2 ht
      go_wp2_with fail
      go_loopw [9] (fun k wr => ∃ j : Nat, j ≤ n ∧ k = .int .i64 (j : Int) ∧ Hid (wr.ownsRow (w.heap.size + 2) 5 1 (.slice A3 L cap) L (u8s (splice row p1.toNat (p2.take j)))) ∧ Hid (Fr w A (some ⟨g, o, none⟩) L c K d wr) ∧ Hid (Box wr wo.heap.size (.int .i64 p1) (.slice B n e) 76)) (fun k _ => n - (intOf k).toNat)
      case atStart => exact ⟨0, Nat.zero_le _, rfl, by simpa [splice, Hid] using hown.out.alloc _, hf.out.keep ((Below.refl _ _).alloc (Nat.le_refl _) _), box_new _ _ _ _⟩
      case round =>
        obtain ⟨j, hj', rfl, hown2, hf2, hbx⟩ := hrel
        obtain ⟨r0, r1, _, _⟩ := hbx.out.use
        by_cases hjn : j < n
        · have hok2 := (okB_iff _ _ _).1 HOK.out
          obtain ⟨q, rfl⟩ := Int.eq_ofNat_of_zero_le (by omega : 0 ≤ p1)
          have hqn : q + n ≤ L := by omega
          obtain ⟨gA, capA, e1, hA1, _⟩ := hown2.out.form (by omega)
          obtain ⟨gA', capA', e2, hA1', hA2⟩ := hown.out.form (by omega)
          injection e1 with e3 _ e4
          injection e2 with e5 _ e6
          subst e3 e4
          injection e5 with e5
          injection e5 with e5 _
          subst e5
          have hLp := HBY.out.len
          obtain ⟨gb, ob, rfl, hgb, hcb⟩ : ∃ gb ob, B = some ⟨gb, ob, none⟩ ∧ gb < w.heap.size ∧ w.cell? ⟨gb, ob + j, none⟩ = some (.int .u8 ((p2.getD j 0).toNat : Int)) := by
            rcases HBY.out.lies with e | ⟨gb, ob, e, hg, hc⟩
            · have := congrArg List.length e
              rw [u8s_len, hLp] at this
              simp at this
              omega
            · refine ⟨gb, ob, e, hg, hc j _ ?_⟩
              rw [u8s_at (by omega)]
              simp [List.getD, List.getElem?_eq_getElem (by omega : j < p2.length)]
          obtain ⟨x, hx⟩ : ∃ x : UInt8, p2.getD j 0 = x := ⟨_, rfl⟩
          rw [hx] at hcb
          have hcb2 : wr.cell? ⟨gb, ob + j, none⟩ = some (.int .u8 (x.toNat : Int)) := (hf2.out.bel.cell (p := ⟨gb, ob + j, none⟩) hgb).trans hcb
          obtain ⟨y, hy⟩ : ∃ y, (u8s (splice row (q : Int).toNat (p2.take j)))[q + j]? = some y := by
            refine ⟨_, u8s_at ?_⟩
            have := HRL.out
            rw [length_splice _ _ _ (by simp; omega)]
            omega
          have hc7 : wr.cell? ⟨gA, q + j, none⟩ = some y := (hown2.out.cellAt (q + j) (by omega)).trans hy
          have hf7 : wr.frozen? ⟨gA, q + j, none⟩ = false := hown2.out.frozenAt (q + j)
          obtain ⟨hst, _⟩ := hown2.out.stored (q + j) (.int .u8 (x.toNat : Int))
          rw [Int.toNat_natCast, lay_step row p2 q j x (by omega) (by rw [HRL.out]; omega) hx] at hst
          have hlc : L ≤ cap := by
            rcases hown2.out.2 with ⟨h, _⟩ | ⟨g', cap', cur, e, _, _, h, _⟩
            · cases h
            · injection e with _ _ e
              omega
          have HST := Lib.hid hst
          have HFS := Lib.hid (fr_set hf2.out (j := q + j) hA1 (.int .u8 (x.toNat : Int)))
          have HBS : Hid (Box (wr.setCell ⟨gA, q + j, none⟩ (.int .u8 (x.toNat : Int))) wo.heap.size (.int .i64 (q : Int)) (.slice (some ⟨gb, ob, none⟩) n e) 76) := (Below.heap_setCell wr ⟨gA, q + j, none⟩ _ _ (by simp; omega)).trans hbx.out
          have hne1 : gA ≠ wo.heap.size := by omega
          have hne2 : gA ≠ gb := by omega
          have hji : (j : Int) < (n : Int) := by omega
          have hqj : (q : Int) + (j : Int) < (L : Int) := by omega
          have hw0 : (0 : Int) ≤ (q : Int) + (j : Int) := by omega
          have hw2 : ((q : Int) + (j : Int)).toNat = q + j := by omega
          have hw1 : IntKind.i64.wrap ((q : Int) + (j : Int)) = (q : Int) + (j : Int) := by rw [IntKind.wrap_i64]; omega
          clear hst hy hx hcb hok2 hA2 hLp e6
          go_wp2_with fail
          go_region_held3 (fun w' => w'.cell? ⟨wo.heap.size, 0, none⟩ = some (.int .i64 (q : Int)) ∧ w'.cell? ⟨wo.heap.size, 1, none⟩ = some (.slice (some ⟨gb, ob, none⟩) n e) ∧ w'.cell? ⟨gb, ob + j, none⟩ = some (.int .u8 (x.toNat : Int))) (first | exact ⟨r0, r1, hcb2⟩ | exact ⟨HBS.out.use.1, HBS.out.use.2.1, (World.cell?_setCell_other _ _ _ _ (by first | (simp; done) | (simp; omega))).trans hcb2⟩) (fail)
          clear hw1 hw2 hw0 r0 r1 hcb2 hc7 hf7
          go_wp2
          go_roundw
          case rel => exact ⟨j + 1, by omega, by go_num, HST.out, HFS.out.drew, HBS.out⟩
          case measure => simp [intOf]; omega
        · have hjn2 : j = n := by omega
          subst hjn2
          have HO5 : Hid (wr.ownsRow (w.heap.size + 2) 5 1 (.slice A3 L cap) L (u8s (undo (m.2.drop i) m.1))) := by
            have h3 := hown2.out
            rw [List.take_of_length_le (by rw [HBY.out.len]; exact Nat.le_refl _)] at h3
            rw [HU.out]
            exact h3
          have HF5 := Lib.hid hf2.out
          have hmi2 : mk ≤ i := hmi
          clear hown2 hf2 hbx hown hf q2 q3 d1 d2
          go_wp2
          go_roundw
          case rel =>
            obtain rfl := HI.out
            exact ⟨s, by omega, by simp, HO5.out, HF5.out⟩
          case measure => simp [intOf]
end Go.Proofs.Ytngmkbbeafefaaa
