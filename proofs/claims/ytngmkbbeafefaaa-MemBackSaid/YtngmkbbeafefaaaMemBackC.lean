/- Back of package mem, and the document's own, whatever comes. -/
import Derived.Test.YtngmkbbeafefaaaMemBackB
namespace Go.Proofs.Ytngmkbbeafefaaa
open Go.RowKit Go.Shelf Go.Proofs

theorem goods {w : World} {L : Nat} : ∀ (ps : List Pt) (qs : List Qt), Tells w qs ps → (∀ p ∈ ps, rightP L p = true) → ∃ zs : List (Good w L), zs.length = ps.length ∧ zs.map (fun x => (x.1.1, x.1.2.2)) = ps ∧ ∀ (j : Nat) (x : Good w L), zs[j]? = some x → ∃ q : Qt, qs[j]? = some q ∧ q.1 = x.1.1 ∧ q.2 = gv x
  | [], _, _, _ => ⟨[], rfl, rfl, fun j x h => by simp at h⟩
  | p :: ps, [], ht, _ => by have := ht.1; simp at this
  | p :: ps, q :: qs, ht, hr => by
    have ht' : Tells w qs ps := ⟨by have := ht.1; simpa using this, fun i q' p' hq hp => ht.2 (i + 1) q' p' (by simpa using hq) (by simpa using hp)⟩
    obtain ⟨zs, h1, h2, h3⟩ := goods ps qs ht' fun x hx => hr x (List.mem_cons_of_mem _ hx)
    obtain ⟨e1, hb⟩ := ht.2 0 q p rfl rfl
    obtain ⟨B, c, e2⟩ := hb.form
    have hok := hr p List.mem_cons_self
    unfold rightP at hok
    rw [e2] at hb
    refine ⟨⟨(p.1, (B, p.2.length, c), p.2), hb, hok⟩ :: zs, by simp [h1], by simp [h2], fun j x hx => ?_⟩
    cases j with
    | zero =>
      simp at hx
      subst hx
      exact ⟨q, rfl, e1, e2⟩
    | succ j =>
      simp at hx
      obtain ⟨q', k1, k2, k3⟩ := h3 j x hx
      exact ⟨q', by simpa using k1, k2, k3⟩

theorem slice_from (P : Option Addr) (K d mk : Nat) (h : mk ≤ K) (w : World) : (Instr.slice 23 (.slice P K d) (some (.int .i64 (mk : Int))) none none).run Try.prog w = .ok (.slice (if d = mk then P else P.map (·.add (mk * 2))) (K - mk) (d - mk)) w := by
  have hs : (Try.prog.elem 23) = 76 := by kernel_rfl
  rw [run_slice_l (P := Try.prog) w 23 P K d (by rw [hs]; exact Try.underlying23) .i64 mk (by omega) (by omega), hs]
  simp [sliced, Try.sizeOf76, Result.andThen]

theorem mback_yes (A P : Option Addr) (L c K d mk : Nat) (m : PM) (w : World) (HM : Hid (IsMem w (.agg #[.slice A L c, .slice P K d]) m)) (HR : Hid (rightB m = true)) (hL : L ≤ 65536) (hK : K ≤ 1000) (hmk : mk ≤ K) :
    Calls Try.prog 36 #[.agg #[.slice A L c, .slice P K d], .int .i64 (mk : Int)] w fun e w' => ∃ A' L' c' P' K' d', e = .returned (.tuple #[.agg #[.slice A' L' c', .slice P' K' d'], .int .i64 0]) ∧ IsMem w' (.agg #[.slice A' L' c', .slice P' K' d']) (undo (m.2.drop mk) m.1, m.2.take mk) ∧ Below w.heap.size w w' := by
  obtain ⟨qs, HQ, hlq, htl⟩ := HM.out.patq
  have hr := right_mem HR.out
  rw [HM.out.len1] at hr
  obtain ⟨zs, h1, h2, h3⟩ := goods (w := w) (L := L) (m.2.drop mk) (qs.drop mk) (htl.drop mk) fun p hp => hr p (List.mem_of_mem_drop hp)
  have hl2 := HM.out.len2
  have hq := HQ.out
  have hKd : K ≤ d := by
    obtain ⟨_, _, _, e, h4, _⟩ := HM.out.pats
    injection e with _ _ e
    omega
  refine mback_core A P _ L c K d mk (d - mk) m w zs (by show _ = _; rw [h1, List.length_drop, hl2]) ?_ h2 (by omega) (slice_from P K d mk hmk) HM HR hL hK hmk
  intro j x hx
  obtain ⟨q, k1, k2, k3⟩ := h3 j x hx
  have hj : j < K - mk := by
    have := (List.getElem?_eq_some_iff.1 k1).1
    rw [List.length_drop, hq] at this
    exact this
  rw [List.getElem?_drop] at k1
  obtain ⟨c1, c2⟩ := pc_at qs _ _ k1
  rcases hlq with e | ⟨g, o, rfl, hg, hc⟩
  · rw [e] at c1
    simp at c1
  · refine ⟨g, o + mk * 2, by rw [if_neg (by omega)]; simp [add_at], hg, ?_, ?_⟩
    · have := hc _ _ c1
      rw [k2] at this
      rw [show o + mk * 2 + j * 2 = o + 2 * (mk + j) by omega]
      exact this
    · have := hc _ _ c2
      rw [k3] at this
      rw [show o + mk * 2 + j * 2 + 1 = o + (2 * (mk + j) + 1) by omega]
      exact this

theorem back_at (A P : Option Addr) (L c K d : Nat) (m : PM) (k : Int) (w : World) (HM : Hid (IsMem w (.agg #[.slice A L c, .slice P K d]) m)) (HR : Hid (rightB m = true)) (hL : L ≤ 65536) (hK : K ≤ 1000) :
    Calls Try.prog 36 #[.agg #[.slice A L c, .slice P K d], .int .i64 k] w fun e w' => ∃ A' L' c' P' K' d', e = .returned (.tuple #[.agg #[.slice A' L' c', .slice P' K' d'], .int .i64 (backC m k)]) ∧ IsMem w' (.agg #[.slice A' L' c', .slice P' K' d']) (backF m k) ∧ Below w.heap.size w w' := by
  cases h : backOk m k with
  | false => exact mback_no A P L c K d m k w HM h
  | true =>
    have hk := (backOk_iff m k).1 h
    rw [HM.out.len2] at hk
    obtain ⟨mk, rfl⟩ := Int.eq_ofNat_of_zero_le hk.1
    rw [(back_yes h).1, (back_yes h).2, Int.toNat_natCast]
    exact mback_yes A P L c K d mk m w HM HR hL hK (by omega)
theorem rback_at (A P : Option Addr) (L c K d : Nat) (m : PM) (k : Int) (w : World) (HM : Hid (IsMem w (.agg #[.slice A L c, .slice P K d]) m)) (HR : Hid (rightB m = true)) (hL : L ≤ 65536) (hK : K ≤ 1000) :
    Calls Try.prog 37 #[.agg #[.slice A L c, .slice P K d], .int .i64 k] w fun e w' => ∃ A' L' c' P' K' d', e = .returned (.tuple #[.agg #[.slice A' L' c', .slice P' K' d'], .int .i64 (backC m k)]) ∧ IsMem w' (.agg #[.slice A' L' c', .slice P' K' d']) (backF m k) ∧ Below w.heap.size w w' := by
  cases h : backOk m k with
  | false => exact rback_no A P L c K d m k w HM h
  | true =>
    have hk := (backOk_iff m k).1 h
    rw [HM.out.len2] at hk
    obtain ⟨mk, rfl⟩ := Int.eq_ofNat_of_zero_le hk.1
    rw [(back_yes h).1, (back_yes h).2, Int.toNat_natCast]
    exact rback_yes A P L c K d mk m w HM HR hL hK (by omega)
end Go.Proofs.Ytngmkbbeafefaaa
