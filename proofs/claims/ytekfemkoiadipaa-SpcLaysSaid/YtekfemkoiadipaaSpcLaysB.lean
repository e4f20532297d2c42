/- The walk of SpcLays: the loop. -/
import Derived.Test.YtekfemkoiadipaaSpcLaysA
import Derived.Deep.RegionHeld3
namespace Go.Proofs.Ytekfemkoiadipaa
open Go.RowKit
set_option linter.unusedVariables false
set_option linter.unusedSimpArgs false

theorem ownK {w : World} {base n k : Nat} {v : Value} {l : List UInt8} (h : BOwns w base v n l) (hk : n = k) : BOwns w base v k l := hk ▸ h
theorem ownK2 {w : World} {base n k : Nat} {v : Value} {l b : List UInt8} (h : BOwns w base v (n + k) (l ++ b)) (hk : l.length = n) (hb : b.length = k) : BOwns w base v (l.length + b.length) (l ++ b) := by rw [hk, hb]; exact h
theorem boxK {w w2 : World} {i b base n : Nat} {x y v : Value} {l : List UInt8} (h : Box w b x y 25) (ho : BOwns (w.drewN i) base v n l) (hg : (w.drewN i).grownBy w2 v.ownBlock) : Box w2 b x y 25 :=
  (h.keep (drew_below w i)).grown hg ((h.keep (drew_below w i)).own_ne ho)
theorem goS_drew {w w' : World} {i : Nat} {row row' : Option Nat} (hg : (w.drewN i).grownBy w' row) (h : row' = row ∨ row' = some (w.drewN i).heap.size) : GoS (Off row) (Off row') w w' := by
  have k := goS_off hg h
  have d := drew_below w i
  exact ⟨Nat.le_trans d.size k.size, fun j hj hl => (k.block j hj (Nat.lt_of_lt_of_le hl d.size)).trans (d.block j hl), fun j hj hl => k.into j hj (Nat.lt_of_lt_of_le hl d.size)⟩
theorem byt_room {w : World} {A : Option Addr} {n c : Nat} {l : List UInt8} (h : Byt w (.slice A n c) l) : n ≤ c := by
  obtain ⟨A', c', e, h1, _, _⟩ := h
  injection e with _ e1 e2
  omega
theorem st_zero {w a : World} {A P : Option Addr} {L c K d : Nat} {m : PM} (h : At w.heap.size A P L c K d m a) (b : Below w.heap.size w a) (hm : IsMem a (.agg #[.slice A L c, .slice P K d]) m) : St w a.heap.size w.heap.size (a.heap.size + 1) A P L c K d A P L c K d m (.slice (some ⟨a.heap.size + 1, 0, none⟩) 0 0) [] ((a.alloc (.cells #[.slice A L c, .slice P K d] 25)).alloc (.cells #[] 5)) := by
  have b2 : Below a.heap.size a ((a.alloc (.cells #[.slice A L c, .slice P K d] 25)).alloc (.cells #[] 5)) := (al_one a _).alloc (by simp) _
  have hlt := h.lt
  refine ⟨?_, ?_, ?_, h.1.keep b2, below_then b b2, by omega, by omega, by have := b.size; omega, by simp⟩
  · have := (box_new a (.slice A L c) (.slice P K d) 25).keep (al_one _ (.cells #[] 5))
    exact this
  · refine (mem_S (S := fun j => j < a.heap.size) hm fun k hk => hk).go ⟨b2.size, fun k _ hk => b2.block k hk, fun k hk _ => ?_⟩
    intro e
    simp [Value.ownBlock] at e
    omega
  · have := World.ownsRow_lit (base := a.heap.size + 1) (e := 5) (size := 1) (a.alloc (.cells #[.slice A L c, .slice P K d] 25)) #[] 0 (by simp) (by unfold maxLen; omega) rfl
    rw [World.size_alloc] at this
    exact this
set_option maxRecDepth 100000 in
set_option maxHeartbeats 16000000 in
theorem lays_loop (A P Al : Option Addr) (L c K d nl cl : Nat) (m : PM) (l : List (List UInt8)) (pn : Nat) (w : World) (HM : Hid (IsMem w (.agg #[.slice A L c, .slice P K d]) m)) (HR : Hid (Bts w Al nl cl l)) (hcl : cl ≤ 9223372036854775807) (hlc : nl ≤ cl) (hmay : (fewB m 600 && rightB m) = true) (hp : endB L (pn : Int) = true) (hL : L ≤ 600) (hK : K ≤ 60) (h10 : nl ≤ 10) (hpn : pn ≤ L) :
    Calls Try.prog 4 #[.agg #[.slice A L c, .slice P K d], .int .i64 (pn : Int), .slice Al nl cl] w fun e w' => e = .returned (.bool true) ∧ Below w.heap.size w w' := by
  have h10' : decide ((10 : Int) < (nl : Int)) = false := by simp; omega
  obtain ⟨hll, _, _, hrows⟩ := HR.out
  have HLL := Lib.hid hll
  have HRW := Lib.hid hrows
  clear hll hrows HR
  go_enter Try.func4, Try.ntmps4
  go_wp2_with fail
  refine (shown_any _).mono ?_
  rintro e w1 ⟨rfl, bb⟩
  have M1 := Lib.hid ((at_new HM.out).keep bb)
  have B1 := Lib.hid (al_then bb)
  clear bb
  obtain ⟨cM0, cM1⟩ := M1.out.use
  go_wp2_with fail
  refine (may_at _ _ _ _ _ _ m _ M1.out.mem).mono ?_
  rw [hmay]
  rintro e w2 ⟨rfl, bb⟩
  have M2 := Lib.hid (M1.out.keep bb)
  have B2 := Lib.hid (below_then B1.out bb)
  clear bb cM0 cM1 M1 B1
  obtain ⟨cM0, cM1⟩ := M2.out.use
  go_wp2_with fail
  refine (is_at _ _ _ _ _ _ (pn : Int) _).mono ?_
  rw [hp]
  rintro e w3 ⟨rfl, bb⟩
  have M3 := Lib.hid (M2.out.keep bb)
  have B3 := Lib.hid (below_then B2.out bb)
  clear bb cM0 cM1 M2 B2
  obtain ⟨cM0, cM1⟩ := M3.out.use
  have lM := M3.out.lt
  go_wp2_with fail
  clear cM0 cM1
  have S0 : Hid (St w w3.heap.size w.heap.size (w3.heap.size + 1) A P L c K d A P L c K d m (.slice (some ⟨w3.heap.size + 1, 0, none⟩) 0 0) [] ((w3.alloc (.cells #[.slice A L c, .slice P K d] 25)).alloc (.cells #[] 5))) := Lib.hid (st_zero M3.out B3.out (HM.out.keep B3.out))
  have I0 : Hid (Inv 0 L K pn m m []) := Lib.hid (inv_zero HM.out.len1 HM.out.len2 hpn)
  clear M3 B3
  go_loopw [9, 10, 11] (fun at_ al i wr => ∃ (j : Nat) (A1 P1 : Option Addr) (L1 c1 K1 d1 : Nat) (x : PM) (va : Value) (acc : List UInt8), j ≤ nl ∧ i = .int .i64 (j : Int) ∧ at_ = .int .i64 ((pn : Int) + (acc.length : Int)) ∧ va = al ∧ Hid (St w w3.heap.size w.heap.size (w3.heap.size + 1) A P L c K d A1 P1 L1 c1 K1 d1 x va acc wr) ∧ Hid (Inv j L K pn m x acc)) (fun _ _ i _ => nl - (intOf i).toNat)
  case atStart => exact ⟨0, A, P, L, c, K, d, m, _, [], Nat.zero_le _, rfl, by simp, rfl, S0.out, I0.out⟩
  case round =>
    clear S0 I0
    obtain ⟨j, A1, P1, L1, c1, K1, d1, x, va, acc, hj, rfl, rfl, rfl, S, I⟩ := hrel
    have hl : L = L1 := I.out.2.2.1.symm.trans S.out.mem.mem.len1
    subst hl
    have hK1 : K1 ≤ 80 := by
      have h1 := I.out.2.2.2.1
      have h2 := S.out.mem.mem.len2
      omega
    have hac : acc.length ≤ 1000 := by have := I.out.2.2.2.2; omega
    have haL : pn + acc.length ≤ L := I.out.2.1
    obtain ⟨k, hk⟩ : ∃ k, acc.length = k := ⟨_, rfl⟩
    rw [hk] at hac haL ⊢
    have HK := Lib.hid hk
    clear hk
    by_cases hjl : j < nl
    · obtain ⟨g, q, rfl, hg, hall⟩ := HRW.out.resolve_left (by omega)
      obtain ⟨b, hb⟩ : ∃ b, l[j]? = some b := ⟨_, List.getElem?_eq_getElem (by rw [HLL.out]; exact hjl)⟩
      obtain ⟨Bb, nb, cb, d0, hby⟩ := hall _ _ hb
      have e0 : wr.cell? ⟨g, q + j, none⟩ = some (.slice Bb nb cb) := (S.out.bel.cell (p := ⟨g, q + j, none⟩) hg).trans d0
      have HB := Lib.hid hby
      have hnb : b.length = nb := hby.len
      have hjl' : (j : Int) < (nl : Int) := by omega
      have hncap := hby.cap
      clear d0 hby hall hb
      by_cases h100 : 100 < nb
      · have h100' : (100 : Int) < (nb : Int) := by omega
        go_wp2
        go_ret
        exact ⟨rfl, S.out.bel⟩
      · have h100' : decide ((100 : Int) < (nb : Int)) = false := by simp; omega
        have n100 : nb ≤ 100 := by omega
        clear h100
        have he : endB L ((pn : Int) + (k : Int)) = true := (endB_iff _ _).2 (by omega)
        obtain ⟨y, hy⟩ : ∃ y, layM x ((pn : Int) + (k : Int)) b = y := ⟨_, rfl⟩
        have SB : Hid (∀ a, Below wr.heap.size wr a → (a.cell? ⟨w3.heap.size, 0, none⟩ = some (.slice A1 L c1) ∧ a.cell? ⟨w3.heap.size, 1, none⟩ = some (.slice P1 K1 d1) ∧ a.cell? ⟨g, q + j, none⟩ = some (.slice Bb nb cb) ∧ Below wr.heap.size wr a)) := Lib.hid fun a h => ⟨(S.out.box.keep h).use.1, (S.out.box.keep h).use.2.1, (h.cell (p := ⟨g, q + j, none⟩) (Nat.lt_of_lt_of_le hg S.out.bel.size)).trans e0, h⟩
        cases hr : roomB L ((pn : Int) + (k : Int)) nb with
        | true =>
          have CL : Hid (∀ wx, Below wr.heap.size wr wx → Calls Try.prog 13 #[.agg #[.slice A1 L c1, .slice P1 K1 d1], .int .i64 ((pn : Int) + (k : Int)), .slice Bb nb cb] wx fun e w' => ∃ A' L' c' P' K' d', e = .returned (.tuple #[.agg #[.slice A' L' c', .slice P' K' d'], .int .i64 ((pn : Int) + (k : Int) + (nb : Int)), .int .i64 (0)]) ∧ MemS (Off va.ownBlock) w' (.agg #[.slice A' L' c', .slice P' K' d']) y ∧ Below wx.heap.size wx w') := by
            intro wx hb
            have sx := S.out.keep hb
            have := lay_atS (Off va.ownBlock) A1 P1 Bb L c1 K1 d1 nb cb x b _ wx sx.mem ((HB.out.keep S.out.bel).keep hb) (by omega) (by omega) he hncap
            rw [layP_yes hr, layC_yes hr, hy] at this
            exact this.mono fun e w' ⟨A', L', c', P', K', d', h1, h2, h3⟩ => ⟨A', L', c', P', K', d', h1, h2.go ⟨Nat.le_refl _, fun _ _ _ => rfl, fun j hj _ => hj.elim (fun x => x) fun x => sx.own.low x⟩, h3⟩
          have hroom := (roomB_iff _ _ _).1 hr
          have I2 : Hid (Inv (j + 1) L K pn m y (acc ++ b)) := by
            have h := I.out.yes HM.out.len1 (b := b) (by rw [HK.out, hnb]; exact hr) (by omega)
            rw [HK.out, hy] at h
            exact h
          clear hr
          obtain ⟨z0, z1, _, _⟩ := S.out.box.use
          go_wp2_with fail
          clear z0 z1
          refine wp_region_noPanic ?_
          go_region_held3 (fun a => a.cell? ⟨w3.heap.size, 0, none⟩ = some (.slice A1 L c1) ∧ a.cell? ⟨w3.heap.size, 1, none⟩ = some (.slice P1 K1 d1) ∧ a.cell? ⟨g, q + j, none⟩ = some (.slice Bb nb cb) ∧ Below wr.heap.size wr a) (first | assumption | exact SB.out _ (since_d _) | exact SB.out _ (since_ad _ _) | exact SB.out _ (since_aa s7.2.2.2 _) | exact SB.out _ (((s7.2.2.2).setCell (Nat.le_refl _) _).setCell (Nat.le_refl _) _))
            (first | (go_at_call 13; ((with_reducible refine (CL.out _ (since_d _)).mono ?_); rintro ec uc ⟨A9, L9, c9, P9, K9, d9, rfl, hx9, b9⟩; have s7 := SB.out _ (below_then (since_d _) b9); skip)) | (go_at_call 13; ((with_reducible refine (CL.out _ (since_ad wr _)).mono ?_); rintro ec uc ⟨A9, L9, c9, P9, K9, d9, rfl, hx9, b9⟩; have s7 := SB.out _ (below_then (since_ad wr _) b9); have Q3 := Lib.hid ((zbox wr).keep_h b9 rfl); obtain ⟨q2, q3, q4, q5⟩ := Q3.out.use)))
          all_goals (refine NoPanic.normal ?_)
          all_goals (first
            | (obtain ⟨wf, hwf, zf, bf⟩ := zpackS Q3.out hx9 s7.2.2.2 (Nat.le_refl _); rw [hwf]; clear hwf)
            | (obtain ⟨wf, hwf, zf, bf⟩ := apackS hx9 s7.2.2.2; rw [hwf]; clear hwf))
          all_goals (have ST := Lib.hid (S.out.keep bf); have e0f : wf.cell? ⟨g, q + j, none⟩ = some (.slice Bb nb cb) := (SB.out _ bf).2.2.1; obtain ⟨m0, m1, _, _⟩ := ST.out.old.use; obtain ⟨y0, y1, _, _⟩ := zf.out.1.use; obtain ⟨x0, x1, x2, x3⟩ := ST.out.box.use)
          all_goals (have HO := Lib.hid fun i => ownK (ST.out.keep (drew_below wf i)).own HK.out)
          all_goals (have HBf := Lib.hid fun i => (HB.out.keep ST.out.bel).keep (drew_below wf i))
          all_goals (clear e0 bf SB CL S I)
          all_goals go_wp2_with fail
          all_goals go_quiet (fail)
          all_goals go_wp2_with (at_builtin; refine wpList_bapp_at rfl _ _ rfl (w3.heap.size + 1) va k acc rfl (HO.out _) Bb nb cb b rfl (HBf.out _) (by omega) (ST.out.keep (drew_below wf _)).la ?_; intro vb wb ho hgw hat; have SB2 := Lib.hid ((ST.out.keep (drew_below wf _)).app (ownK2 ho HK.out hnb) hgw hat); have YB := Lib.hid (boxK zf.out.1 (HO.out _) hgw); have YM := Lib.hid (zf.out.2.go (goS_drew hgw hat)); obtain ⟨y0', y1', _, _⟩ := YB.out.use; obtain ⟨x0', x1', x2', x3'⟩ := SB2.out.box.use; clear ho hgw hat)
          all_goals go_roundw
          all_goals (first
            | (case rel => exact ⟨j + 1, A9, P9, L9, c9, K9, d9, y, vb, acc ++ b, by omega, by go_num, by rw [List.length_append, HK.out, hnb]; go_num, rfl, SB2.out.put YM.out, I2.out⟩)
            | (case measure => simp [intOf]; omega))
    
        | false =>
          have CL : Hid (∀ wx, Below wr.heap.size wr wx → Calls Try.prog 13 #[.agg #[.slice A1 L c1, .slice P1 K1 d1], .int .i64 ((pn : Int) + (k : Int)), .slice Bb nb cb] wx fun e w' => ∃ A' L' c' P' K' d', e = .returned (.tuple #[.agg #[.slice A' L' c', .slice P' K' d'], .int .i64 ((pn : Int) + (k : Int)), .int .i64 (-8)]) ∧ MemS (Off va.ownBlock) w' (.agg #[.slice A' L' c', .slice P' K' d']) y ∧ Below wx.heap.size wx w') := by
            intro wx hb
            have sx := S.out.keep hb
            have := lay_atS (Off va.ownBlock) A1 P1 Bb L c1 K1 d1 nb cb x b _ wx sx.mem ((HB.out.keep S.out.bel).keep hb) (by omega) (by omega) he hncap
            rw [layP_no hr, layC_no hr, hy] at this
            exact this.mono fun e w' ⟨A', L', c', P', K', d', h1, h2, h3⟩ => ⟨A', L', c', P', K', d', h1, h2.go ⟨Nat.le_refl _, fun _ _ _ => rfl, fun j hj _ => hj.elim (fun x => x) fun x => sx.own.low x⟩, h3⟩
          have hroom : decide ((nb : Int) ≤ (L : Int) - ((pn : Int) + (k : Int))) = false := by have := (roomB_no _ _ _).1 hr; simp; omega
          have hyx : y = x := by rw [← hy]; exact layM_no (by rw [S.out.mem.mem.len1, hnb]; exact hr)
          have I2 : Hid (Inv (j + 1) L K pn m y acc) := by rw [hyx]; exact I.out.no
          clear hr
          obtain ⟨z0, z1, _, _⟩ := S.out.box.use
          go_wp2_with fail
          clear z0 z1
          refine wp_region_noPanic ?_
          go_region_held3 (fun a => a.cell? ⟨w3.heap.size, 0, none⟩ = some (.slice A1 L c1) ∧ a.cell? ⟨w3.heap.size, 1, none⟩ = some (.slice P1 K1 d1) ∧ a.cell? ⟨g, q + j, none⟩ = some (.slice Bb nb cb) ∧ Below wr.heap.size wr a) (first | assumption | exact SB.out _ (since_d _) | exact SB.out _ (since_ad _ _) | exact SB.out _ (since_aa s7.2.2.2 _) | exact SB.out _ (((s7.2.2.2).setCell (Nat.le_refl _) _).setCell (Nat.le_refl _) _))
            (first | (go_at_call 13; ((with_reducible refine (CL.out _ (since_d _)).mono ?_); rintro ec uc ⟨A9, L9, c9, P9, K9, d9, rfl, hx9, b9⟩; have s7 := SB.out _ (below_then (since_d _) b9); skip)) | (go_at_call 13; ((with_reducible refine (CL.out _ (since_ad wr _)).mono ?_); rintro ec uc ⟨A9, L9, c9, P9, K9, d9, rfl, hx9, b9⟩; have s7 := SB.out _ (below_then (since_ad wr _) b9); have Q3 := Lib.hid ((zbox wr).keep_h b9 rfl); obtain ⟨q2, q3, q4, q5⟩ := Q3.out.use)))
          all_goals (refine NoPanic.normal ?_)
          all_goals (first
            | (obtain ⟨wf, hwf, zf, bf⟩ := zpackS Q3.out hx9 s7.2.2.2 (Nat.le_refl _); rw [hwf]; clear hwf)
            | (obtain ⟨wf, hwf, zf, bf⟩ := apackS hx9 s7.2.2.2; rw [hwf]; clear hwf))
          all_goals (have ST := Lib.hid (S.out.keep bf); have e0f : wf.cell? ⟨g, q + j, none⟩ = some (.slice Bb nb cb) := (SB.out _ bf).2.2.1; obtain ⟨m0, m1, _, _⟩ := ST.out.old.use; obtain ⟨y0, y1, _, _⟩ := zf.out.1.use; obtain ⟨x0, x1, x2, x3⟩ := ST.out.box.use)
          all_goals (subst hyx)
          all_goals (first
            | (have zz : Hid (Box wf wr.heap.size (.slice A9 L9 c9) (.slice P9 K9 d9) 25) := Lib.hid zf.out.1; have SB2 : Hid (∀ a, Below wf.heap.size wf a → (a.cell? ⟨wr.heap.size, 0, none⟩ = some (.slice A9 L9 c9) ∧ a.cell? ⟨wr.heap.size, 1, none⟩ = some (.slice P9 K9 d9) ∧ a.cell? ⟨w3.heap.size, 0, none⟩ = some (.slice A1 L c1) ∧ a.cell? ⟨w3.heap.size, 1, none⟩ = some (.slice P1 K1 d1) ∧ a.cell? ⟨g, q + j, none⟩ = some (.slice Bb nb cb) ∧ a.cell? ⟨w.heap.size, 0, none⟩ = some (.slice A L c) ∧ Below wf.heap.size wf a)) := Lib.hid fun a h => ⟨(zz.out.keep h).use.1, (zz.out.keep h).use.2.1, (ST.out.box.keep h).use.1, (ST.out.box.keep h).use.2.1, (h.cell (p := ⟨g, q + j, none⟩) (Nat.lt_of_lt_of_le hg ST.out.bel.size)).trans e0f, (ST.out.old.keep h).use.1, h⟩; have hwrap : IntKind.i64.wrap ((L : Int) - ((pn : Int) + (k : Int))) = (L : Int) - ((pn : Int) + (k : Int)) := IntWalk.i64_in _ (by omega); clear e0 bf SB CL S I; go_wp2_with fail; refine wp_region_noPanic ?_; go_region_held3 (fun a => a.cell? ⟨wr.heap.size, 0, none⟩ = some (.slice A9 L9 c9) ∧ a.cell? ⟨wr.heap.size, 1, none⟩ = some (.slice P9 K9 d9) ∧ a.cell? ⟨w3.heap.size, 0, none⟩ = some (.slice A1 L c1) ∧ a.cell? ⟨w3.heap.size, 1, none⟩ = some (.slice P1 K1 d1) ∧ a.cell? ⟨g, q + j, none⟩ = some (.slice Bb nb cb) ∧ a.cell? ⟨w.heap.size, 0, none⟩ = some (.slice A L c) ∧ Below wf.heap.size wf a) (first | assumption | exact SB2.out _ (since_d _)) (first | (go_at_call 19; ((with_reducible refine (rsame_eq _ _ _ _ _ _ _ _ _ _ _ _ _ _ (zf.out.2.go (goS_below (since_d wf) fun _ hk _ => hk)).mem (ST.out.keep (since_d wf)).mem.mem).mono ?_); rintro ec ud ⟨rfl, b10⟩; have s8 := SB2.out _ (below_then (since_d wf) b10)))); refine NoPanic.normal ?_; have bu := s8.2.2.2.2.2.2; have STU := Lib.hid (ST.out.keep bu); have YM := Lib.hid (zf.out.2.go (goS_below bu fun _ hk _ => hk)); obtain ⟨y0u, y1u, _, _⟩ := (zz.out.keep bu).use; obtain ⟨x0u, x1u, x2u, x3u⟩ := STU.out.box.use; clear s8 bu y0 y1 x0 x1 x2 x3 m0 m1 e0f; go_wp2; go_roundw)
            | (have zz : Hid (Box wf uc.heap.size (.slice A9 L9 c9) (.slice P9 K9 d9) 25) := Lib.hid zf.out.1; have SB2 : Hid (∀ a, Below wf.heap.size wf a → (a.cell? ⟨uc.heap.size, 0, none⟩ = some (.slice A9 L9 c9) ∧ a.cell? ⟨uc.heap.size, 1, none⟩ = some (.slice P9 K9 d9) ∧ a.cell? ⟨w3.heap.size, 0, none⟩ = some (.slice A1 L c1) ∧ a.cell? ⟨w3.heap.size, 1, none⟩ = some (.slice P1 K1 d1) ∧ a.cell? ⟨g, q + j, none⟩ = some (.slice Bb nb cb) ∧ a.cell? ⟨w.heap.size, 0, none⟩ = some (.slice A L c) ∧ Below wf.heap.size wf a)) := Lib.hid fun a h => ⟨(zz.out.keep h).use.1, (zz.out.keep h).use.2.1, (ST.out.box.keep h).use.1, (ST.out.box.keep h).use.2.1, (h.cell (p := ⟨g, q + j, none⟩) (Nat.lt_of_lt_of_le hg ST.out.bel.size)).trans e0f, (ST.out.old.keep h).use.1, h⟩; have hwrap : IntKind.i64.wrap ((L : Int) - ((pn : Int) + (k : Int))) = (L : Int) - ((pn : Int) + (k : Int)) := IntWalk.i64_in _ (by omega); clear e0 bf SB CL S I; go_wp2_with fail; refine wp_region_noPanic ?_; go_region_held3 (fun a => a.cell? ⟨uc.heap.size, 0, none⟩ = some (.slice A9 L9 c9) ∧ a.cell? ⟨uc.heap.size, 1, none⟩ = some (.slice P9 K9 d9) ∧ a.cell? ⟨w3.heap.size, 0, none⟩ = some (.slice A1 L c1) ∧ a.cell? ⟨w3.heap.size, 1, none⟩ = some (.slice P1 K1 d1) ∧ a.cell? ⟨g, q + j, none⟩ = some (.slice Bb nb cb) ∧ a.cell? ⟨w.heap.size, 0, none⟩ = some (.slice A L c) ∧ Below wf.heap.size wf a) (first | assumption | exact SB2.out _ (since_d _)) (first | (go_at_call 19; ((with_reducible refine (rsame_eq _ _ _ _ _ _ _ _ _ _ _ _ _ _ (zf.out.2.go (goS_below (since_d wf) fun _ hk _ => hk)).mem (ST.out.keep (since_d wf)).mem.mem).mono ?_); rintro ec ud ⟨rfl, b10⟩; have s8 := SB2.out _ (below_then (since_d wf) b10)))); refine NoPanic.normal ?_; have bu := s8.2.2.2.2.2.2; have STU := Lib.hid (ST.out.keep bu); have YM := Lib.hid (zf.out.2.go (goS_below bu fun _ hk _ => hk)); obtain ⟨y0u, y1u, _, _⟩ := (zz.out.keep bu).use; obtain ⟨x0u, x1u, x2u, x3u⟩ := STU.out.box.use; clear s8 bu y0 y1 x0 x1 x2 x3 m0 m1 e0f; go_wp2; go_roundw))
          all_goals (first
            | (case rel => exact ⟨j + 1, A9, P9, L9, c9, K9, d9, _, va, acc, by omega, by go_num, by rw [HK.out], rfl, STU.out.put YM.out, I2.out⟩)
            | (case measure => simp [intOf]; omega))
    · have hjk : j = nl := by omega
      subst hjk
      obtain ⟨Ba, ca, rfl⟩ := S.out.own.byt.form_len HK.out
      obtain ⟨x0, x1, _, _⟩ := S.out.box.use
      obtain ⟨m0, m1, _, _⟩ := S.out.old.use
      have BX := S.out.mem.mem.byt
      have BM := (HM.out.keep S.out.bel).byt
      have BA := S.out.own.byt
      have lc1 : L ≤ c1 := byt_room BX
      have lc : L ≤ c := byt_room BM
      have hs1 := fun W => run_part A1 L c1 pn k W (by omega)
      have hs2 := fun W => run_head A1 L c1 pn W (by omega)
      have hs3 := fun W => run_head A L c pn W (by omega)
      have hs4 := fun W => run_tail A1 L c1 pn k W (by omega)
      have hs5 := fun W => run_tail A L c pn k W (by omega)
      have ix := I.out.1
      have hl2 := HM.out.len1
      have v1 := fun i => ((BX.part (a := pn) (n := k) (by omega)).drewN i).conv
      have v2 := fun i => (BA.drewN i).conv
      have v3 := fun i => ((BX.part (a := 0) (n := pn) (by omega)).drewN i).conv
      have v4 := fun i => ((BM.part (a := 0) (n := pn) (by omega)).drewN i).conv
      rw [Nat.sub_zero] at v3 v4
      have v5 := fun i => ((BX.part (a := pn + k) (n := L - (pn + k)) (by omega)).drewN i).conv
      have v6 := fun i => ((BM.part (a := pn + k) (n := L - (pn + k)) (by omega)).drewN i).conv
      have hsp : pn + acc.length ≤ m.1.length := by rw [hl2, HK.out]; omega
      have t1 := splice_mid m.1 acc pn hsp
      have t3 := splice_head m.1 acc pn hsp
      have t5 := splice_tail m.1 acc pn (L - (pn + k)) hsp
      rw [HK.out, ← ix] at t1 t5
      rw [← ix] at t3
      rw [t1] at v1
      rw [t3] at v3
      rw [t5] at v5
      generalize strB acc = st1 at v1 v2
      generalize strB (List.take pn (List.drop 0 m.1)) = st2 at v3 v4
      generalize strB (List.take (L - (pn + k)) (List.drop (pn + k) m.1)) = st3 at v5 v6
      have BF := Lib.hid fun i => (S.out.keep (drew_below wr i)).bel
      clear t1 t3 t5 ix hl2 hsp BX BM BA S I
      go_wp2_with fail
      go_quiet (fail)
      go_wp2
      go_ret
      exact ⟨rfl, BF.out _⟩
end Go.Proofs.Ytekfemkoiadipaa
