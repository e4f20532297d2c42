/- The contract of Back of package mem. -/
import Derived.Test.YtngmkbbeafefaaaMemBackA
namespace Go.Proofs.Ytngmkbbeafefaaa
open Go.RowKit Go.Shelf Go.Proofs
set_option linter.unusedVariables false
attribute [local go_sem] Oper.semAt_some

set_option maxRecDepth 100000 in
set_option maxHeartbeats 2000000 in
theorem mback_no (A P : Option Addr) (L c K d : Nat) (m : PM) (k : Int) (w : World) (HM : Hid (IsMem w (.agg #[.slice A L c, .slice P K d]) m)) (hno : Hid (backOk m k = false)) :
    Calls Try.prog 36 #[.agg #[.slice A L c, .slice P K d], .int .i64 k] w fun e w' => ∃ A' L' c' P' K' d', e = .returned (.tuple #[.agg #[.slice A' L' c', .slice P' K' d'], .int .i64 (backC m k)]) ∧ IsMem w' (.agg #[.slice A' L' c', .slice P' K' d']) (backF m k) ∧ Below w.heap.size w w' := by
  rw [(back_no hno.out).1, (back_no hno.out).2]
  have HN : Hid (¬ (0 ≤ k ∧ k ≤ (K : Int))) := by
    intro h
    have := (backOk_iff m k).2 (by rw [HM.out.len2]; exact h)
    rw [hno.out] at this
    cases this
  by_cases h1 : k < 0
  · go_enter Try.func36, Try.ntmps36
    go_wp2
    refine bodyPost_ret (v := .tuple #[.agg #[.slice A L c, .slice P K d], .int .i64 (-24)]) ?_ rfl ?_
    · simp [results, Try.results36, go_sem]
    · exact ⟨_, _, _, _, _, _, rfl, HM.out.keep (((Below.refl _ _).alloc (Nat.le_refl _) _).alloc (by simp) _), ((Below.refl _ _).alloc (Nat.le_refl _) _).alloc (by simp) _⟩
  · have h1' : decide (k < 0) = false := by simp; omega
    have h2 : (K : Int) < k := by have := HN.out; omega
    clear h1
    go_enter Try.func36, Try.ntmps36
    go_wp2_with fail
    refine (mark_at _ _ _ _ _ _ _).mono ?_
    rintro e w1 ⟨rfl, b1⟩
    have F1 := Lib.hid (fr_two b1)
    obtain ⟨q0, q1, _, _⟩ := F1.out.2.1.use
    obtain ⟨q2, q3, q4, q5⟩ := F1.out.2.2.use
    clear b1
    go_wp2_with fail
    refine bodyPost_ret (v := .tuple #[.agg #[.slice A L c, .slice P K d], .int .i64 (-24)]) ?_ rfl ?_
    · obtain ⟨r0, r1⟩ := F1.out.2.2.got (.slice A L c) (.slice P K d)
      simp [results, Try.results36, go_sem, r0, r1]
    · exact ⟨_, _, _, _, _, _, rfl, F1.out.mem (HM.out.keep F1.out.bel) _ _, F1.out.put _ _⟩

theorem blk_own {W W' : World} {k : Nat} {cs : Array Value} {t : TypeId} {row : Option Nat} (h : W.heap[k]? = some (.cells cs t (0, 0))) (hg : W.grownBy W' row) (hr : ∀ r, row = some r → ∃ o : Obj, W.heap[r]? = some o ∧ o.isCells = false) : W'.heap[k]? = some (.cells cs t (0, 0)) := by
  rw [hg.block k (Array.getElem?_eq_some_iff.1 h).1 ?_]
  · exact h
  · intro e
    obtain ⟨o, ho, hc⟩ := hr k e.symm
    rw [h] at ho
    injection ho with ho
    subst ho
    simp [Obj.isCells] at hc

theorem wpIn_noPanic {F : Fence} {n : Nat} {P : Program} {id : Nat} {ops : Array Oper} {b : Bool} {Q : Exit → Act → World → Prop} {a : Act} {w : World} (h : (Code.region id ops b).wpIn F n P (NoPanic Q) a w) : (Code.region id ops b).wpIn F n P Q a w := wpIn_mono h NoPanic.imp

theorem rowSet_putObj (D : Nat) (W : World) (o : Obj) : RowSet D W (W.putObj D o) := ⟨rfl, rfl, rfl, by simp [World.putObj], fun k hk => World.putObj_heap_other hk⟩
theorem Lies.put {w : World} {A : Option Addr} {xs : List Value} {D : Nat} {ds : Option (List Deferred)} (h : Lies w A xs) (hD : w.heap[D]? = some (.deferred ds)) (o : Obj) : Lies (w.putObj D o) A xs := by
  rcases h with h | ⟨g, i, e, hg, hc⟩
  · exact .inl h
  · match xs, hc with
    | [], _ => exact .inl rfl
    | v :: r, hc =>
      have hne : g ≠ D := by
        intro e
        subst e
        have := hc 0 v rfl
        simp [World.cell?, hD] at this
      exact .inr ⟨g, i, e, by rw [(rowSet_putObj D w o).size]; exact hg, fun j v hv => ((rowSet_putObj D w o).cell hne).trans (hc j v hv)⟩
theorem Byt.put {w : World} {v : Value} {l : List UInt8} {D : Nat} {ds : Option (List Deferred)} (h : Byt w v l) (hD : w.heap[D]? = some (.deferred ds)) (o : Obj) : Byt (w.putObj D o) v l := by
  obtain ⟨A, c, h1, h2, h3, h4⟩ := h
  exact ⟨A, c, h1, h2, h3, h4.put hD o⟩
theorem IsMem.put {w : World} {v : Value} {m : PM} {D : Nat} {ds : Option (List Deferred)} (h : IsMem w v m) (hD : w.heap[D]? = some (.deferred ds)) (o : Obj) : IsMem (w.putObj D o) v m := by
  obtain ⟨x, y, h1, h2, A, c, qs, e, h3, h4, h5, h6⟩ := h
  exact ⟨x, y, h1, h2.put hD o, A, c, qs, e, h3, h4, h5.put hD o, h6.1, fun i q p hq hp => ⟨(h6.2 i q p hq hp).1, (h6.2 i q p hq hp).2.put hD o⟩⟩

/-- Patches that came, laid into a row, one by one. -/
def layAll {w : World} {L : Nat} (pre : List (Good w L)) (row : List UInt8) : List UInt8 := pre.foldl (fun r x => layF r x.1.1 x.1.2.2) row
theorem layAll_snoc {w : World} {L : Nat} (pre : List (Good w L)) (x : Good w L) (row : List UInt8) : layAll (pre ++ [x]) row = layF (layAll pre row) x.1.1 x.1.2.2 := by simp [layAll]
theorem layAll_undo {w : World} {L : Nat} (zs : List (Good w L)) (row : List UInt8) : layAll zs.reverse row = undo (zs.map fun x => (x.1.1, x.1.2.2)) row := by
  unfold layAll undo
  rw [List.foldl_reverse, List.foldr_map]
theorem layAll_len {w : World} {L : Nat} (pre : List (Good w L)) : ∀ row : List UInt8, row.length = L → (layAll pre row).length = L := by
  induction pre with
  | nil => exact fun row hr => hr
  | cons x pre ih =>
    intro row hr
    show (layAll pre (layF row x.1.1 x.1.2.2)).length = L
    apply ih
    rw [layF_len, hr]
    rw [hr, x.2.1.len]
    exact x.2.2

/-- What the loop over the patches holds: the row so far, and the frame. -/
def BInv (w : World) (B0 b6 g : Nat) (A P : Option Addr) (L c K d : Nat) (row : List UInt8) (W : World) : Prop := W.heap[g]? = some (.cells (u8s row).toArray 5 (0, 0)) ∧ W.heap[b6]? = some (.cells #[.slice (some ⟨g, 0, none⟩) L L] 22 (0, 0)) ∧ Fr w A P L c K d W ∧ B0 ≤ W.heap.size
theorem binv_own {β : Type} {w : World} {B0 b6 g : Nat} {A P : Option Addr} {L c K d B : Nat} {f : β → List UInt8} (hB : w.heap.size ≤ B) : OwnFrom B (fun pre W => BInv w B0 b6 g A P L c K d (f pre) W) := by
  intro s X Y row h hg hr
  have hr' : ∀ r, row = some r → ∃ o : Obj, X.heap[r]? = some o ∧ o.isCells = false := fun r e => (hr r e).2
  exact ⟨blk_own h.1 hg hr', blk_own h.2.1 hg hr', ⟨h.2.2.1.1.grown hg h.2.2.1.1.size (fun k e => by have := (hr k e).1; omega), blk_own h.2.2.1.2.1 hg hr', blk_own h.2.2.1.2.2 hg hr'⟩, Nat.le_trans h.2.2.2 hg.size⟩

set_option maxRecDepth 100000 in
set_option maxHeartbeats 4000000 in
theorem mback_core (A P S : Option Addr) (L c K d mk cap : Nat) (m : PM) (w : World) (zs : List (Good w L)) (HZ1 : Hid (zs.length = K - mk)) (HZ2 : Hid (∀ j x, zs[j]? = some x → ∃ b off, S = some ⟨b, off, none⟩ ∧ b < w.heap.size ∧ w.cell? ⟨b, off + j * 2, none⟩ = some (.int .i64 x.1.1) ∧ w.cell? ⟨b, off + j * 2 + 1, none⟩ = some (gv x))) (HZ3 : Hid (zs.map (fun x => (x.1.1, x.1.2.2)) = m.2.drop mk)) (hcap : K - mk ≤ cap) (hsl : ∀ w : World, (Instr.slice 23 (.slice P K d) (some (.int .i64 (mk : Int))) none none).run Try.prog w = .ok (.slice S (K - mk) cap) w) (HM : Hid (IsMem w (.agg #[.slice A L c, .slice P K d]) m)) (HR : Hid (rightB m = true)) (hL : L ≤ 65536) (hK : K ≤ 1000) (hmk : mk ≤ K) :
    Calls Try.prog 36 #[.agg #[.slice A L c, .slice P K d], .int .i64 (mk : Int)] w fun e w' => ∃ A' L' c' P' K' d', e = .returned (.tuple #[.agg #[.slice A' L' c', .slice P' K' d'], .int .i64 0]) ∧ IsMem w' (.agg #[.slice A' L' c', .slice P' K' d']) (undo (m.2.drop mk) m.1, m.2.take mk) ∧ Below w.heap.size w w' := by
  have h1 : decide ((mk : Int) < 0) = false := by simp
  have h2 : decide ((K : Int) < (mk : Int)) = false := by simp; omega
  have hmki : (mk : Int) ≤ (K : Int) := by omega
  refine (callsIn_wide (n := 3)).1 ?_
  refine callsIn_of_wp_marks Try.func36 rfl trivial ?_ rfl
  simp only [Try.ntmps36, List.size_toArray, List.length_cons, List.length_nil, Nat.reduceAdd, Nat.reduceSub, Array.replicate_succ, Array.replicate_zero, List.push_toArray, List.append_toArray, List.nil_append, List.cons_append]
  gi_wp2_with fail
  refine ⟨trivial, ?_⟩
  refine (callsIn_wide.2 (mark_at _ _ _ _ _ _ _)).mono ?_
  rintro e w1 ⟨rfl, b1⟩
  have F1 := Lib.hid (fr_two b1)
  obtain ⟨q0, q1, _, _⟩ := F1.out.2.1.use
  clear b1
  gi_wp2_with fail
  refine ⟨trivial, ?_⟩
  refine (callsIn_wide.2 (own_u8 _ _ _ m.1 _ HM.out.len1 hL (HM.out.keep F1.out.bel).byt.lies)).mono ?_
  rintro e w2 ⟨g, rfl, hg, hh, b2⟩
  have F2 := Lib.hid (F1.out.keep b2)
  have HG := Lib.hid hh
  have hgl := (Array.getElem?_eq_some_iff.1 hh).1
  have hlt1 := F1.out.2.2.lt
  obtain ⟨q2, q3, _, _⟩ := F2.out.2.1.use
  have hlt2 := F2.out.2.1.lt
  have hKd : (K : Int) ≤ (d : Int) := by
    obtain ⟨_, _, _, e, h4, _⟩ := HM.out.pats
    injection e with _ _ e
    have := HM.out.len2
    omega
  clear b2 q0 q1 hh
  gi_wp2_with fail
  refine ⟨trivial, ?_⟩
  refine (latest_in Fence.wide _ trivial rfl _ _ _ _).mono ?_
  rintro e w3 ⟨rfl, rfl⟩
  gi_wp2_with fail
  have hnb : g < w2.heap.size := hgl
  have B6 : Hid (((w2.alloc (.cells #[.slice (some ⟨g, 0, none⟩) L L] 22)).alloc (.cells #[.slice S (K - mk) cap] 23)).heap[w2.heap.size]? = some (.cells #[.slice (some ⟨g, 0, none⟩) L L] 22 (0, 0))) := (two_new w2 _ _ _ _).2
  have B7 : Hid (((w2.alloc (.cells #[.slice (some ⟨g, 0, none⟩) L L] 22)).alloc (.cells #[.slice S (K - mk) cap] 23)).heap[w2.heap.size + 1]? = some (.cells #[.slice S (K - mk) cap] 23 (0, 0))) := (two_new w2 _ _ _ _).1
  have b20 : Below w2.heap.size w2 ((w2.alloc (.cells #[.slice (some ⟨g, 0, none⟩) L L] 22)).alloc (.cells #[.slice S (K - mk) cap] 23)) := ((Below.refl _ _).alloc (Nat.le_refl _) _).alloc (by simp) _
  have HG0 : Hid (((w2.alloc (.cells #[.slice (some ⟨g, 0, none⟩) L L] 22)).alloc (.cells #[.slice S (K - mk) cap] 23)).heap[g]? = some (.cells (u8s m.1).toArray 5 (0, 0))) := (b20.block g hnb).trans HG.out
  have F3 := Lib.hid (F2.out.keep b20)
  have hsz : ((w2.alloc (.cells #[.slice (some ⟨g, 0, none⟩) L L] 22)).alloc (.cells #[.slice S (K - mk) cap] 23)).heap.size = w2.heap.size + 2 := by simp
  obtain ⟨W0, hW0⟩ : ∃ W0, (w2.alloc (.cells #[.slice (some ⟨g, 0, none⟩) L L] 22)).alloc (.cells #[.slice S (K - mk) cap] 23) = W0 := ⟨_, rfl⟩
  rw [hW0] at B6 B7 b20 HG0 F3 hsz ⊢
  have hgw : w.heap.size ≤ g := by have := F1.out.bel.size; omega
  have hgw2 : w.heap.size + 2 ≤ w1.heap.size := by omega
  clear hW0 q2 q3 b20
  have hws := F2.out.bel.size
  refine wpIn_rangeFunc_ownH rfl (by omega) (gf := 64) (lb := #[.pointer (some ⟨w2.heap.size + 1, 0, none⟩)]) rfl trivial (enters_of Try.func64 (by kernel_rfl) rfl)
    (latest_stops Fence.wide (3 - 1) trivial rfl (by omega) (w2.heap.size + 1) g (K - mk) cap L w S zs HZ1.out (by omega) hcap W0 (by omega) (by omega) (by simp [World.cell?, B7.out])
      (fun j x hx => by
        obtain ⟨b, off, e, h1, h2, h3⟩ := HZ2.out j x hx
        exact ⟨b, off, e, by omega, by omega, (F3.out.bel.cell (p := ⟨b, off + j * 2, none⟩) h1).trans h2, (F3.out.bel.cell (p := ⟨b, off + j * 2 + 1, none⟩) h1).trans h3⟩)) KpG.trans (kpG_b (Nat.le_refl _)) (Below.refl _ _) (fun _ => rfl)
    (fun pre W => BInv w W0.heap.size w2.heap.size g A P L c K d (layAll pre m.1) W)
    (fun _ _ _ => False)
    (binv_own (by omega))
    (fun _ _ _ _ _ hs _ _ => hs)
    ⟨HG0.out, B6.out, F3.out, Nat.le_refl _⟩
    (fun x a' W => ∃ Bx, W0.heap.size ≤ Bx ∧ Box W Bx (.int .i64 x.1.1) (gv x) 76 ∧ a' = { tmps := #[.agg #[.slice A L c, .slice P K d], .int .i64 (mk : Int), .pointer (some ⟨w.heap.size, 0, none⟩), undef, .pointer (some ⟨w.heap.size + 1, 0, none⟩), .int .i64 0, .pointer (some ⟨w2.heap.size, 0, none⟩), .pointer (some ⟨Bx, 0, none⟩), .int .i64 (mk : Int), .bool false, .bool false, .int .i64 (mk : Int), .agg #[.slice A L c, .slice P K d], .int .i64 (K : Int), .bool false, .bool false, undef, .pointer (some ⟨w.heap.size, 0, none⟩), .slice A L c, .slice (some ⟨g, 0, none⟩) L L, .pointer (some ⟨w.heap.size, 1, none⟩), .slice P K d, .int .i64 (mk : Int), .slice S (K - mk) cap, .func (.func 64) #[] #[.pointer (some ⟨w2.heap.size + 1, 0, none⟩)], .agg #[.int .i64 x.1.1, gv x], undef, undef, undef, undef, undef, undef, undef, undef, undef, undef, undef, undef, undef], defers := [] })
    (fun x a' _ X Y row hs hg hr => by obtain ⟨Bx, h1, h2, h3⟩ := hs; exact ⟨Bx, h1, blk_own h2 hg (fun r e => (hr r e).2), h3⟩)
    ?assign ?body ?done ?stop
  case assign =>
    rintro l pre x W K' hinv hK'
    obtain ⟨i1, i2, i3, i4⟩ := hinv
    obtain ⟨B, n', e', hgv⟩ : ∃ B n' e', gv x = .slice B n' e' := ⟨_, _, _, rfl⟩
    have bA : Below W.heap.size W (W.alloc (.cells #[.int .i64 x.1.1, gv x] 76)) := (Below.refl _ _).alloc (Nat.le_refl _) _
    have HK := Lib.hid (hK' { tmps := #[.agg #[.slice A L c, .slice P K d], .int .i64 (mk : Int), .pointer (some ⟨w.heap.size, 0, none⟩), undef, .pointer (some ⟨w.heap.size + 1, 0, none⟩), .int .i64 0, .pointer (some ⟨w2.heap.size, 0, none⟩), .pointer (some ⟨W.heap.size, 0, none⟩), .int .i64 (mk : Int), .bool false, .bool false, .int .i64 (mk : Int), .agg #[.slice A L c, .slice P K d], .int .i64 (K : Int), .bool false, .bool false, undef, .pointer (some ⟨w.heap.size, 0, none⟩), .slice A L c, .slice (some ⟨g, 0, none⟩) L L, .pointer (some ⟨w.heap.size, 1, none⟩), .slice P K d, .int .i64 (mk : Int), .slice S (K - mk) cap, .func (.func 64) #[] #[.pointer (some ⟨w2.heap.size + 1, 0, none⟩)], .agg #[.int .i64 x.1.1, gv x], undef, undef, undef, undef, undef, undef, undef, undef, undef, undef, undef, undef, undef], defers := [] } (W.alloc (.cells #[.int .i64 x.1.1, gv x] 76)) ((KeepsOthers.alloc _ _).from _) ⟨bA.size, fun k hk _ => bA.block k (by omega)⟩ ⟨(bA.block g (by omega)).trans i1, (bA.block _ (by omega)).trans i2, i3.keep bA, Nat.le_trans i4 bA.size⟩ ⟨W.heap.size, i4, box_new _ _ _ _, rfl⟩)
    clear hK' bA i1 i2 i3 i4
    rw [hgv] at HK
    generalize x.1.1 = a1 at HK
    gi_wp2
    exact HK.out
  case body =>
    rintro l pre x a' W hl ⟨r, hr⟩ hinv ⟨Bx, hBx, bX, rfl⟩ hlt
    obtain ⟨i1, i2, i3, i4⟩ := hinv
    have c6 : W.cell? ⟨w2.heap.size, 0, none⟩ = some (.slice (some ⟨g, 0, none⟩) L L) := by simp [World.cell?, i2]
    obtain ⟨x0, x1, _, _⟩ := bX.use
    have hbx := bX.lt
    obtain ⟨row, hrow⟩ : ∃ row, layAll pre m.1 = row := ⟨_, rfl⟩
    have HL := Lib.hid (layAll_len pre m.1 HM.out.len1)
    have HS := Lib.hid (layAll_snoc pre x m.1)
    rw [hrow] at i1 HL HS
    have HX1 := Lib.hid x.2.1
    have HX2 := Lib.hid x.2.2
    obtain ⟨a1, ha1⟩ : ∃ a1, x.1.1 = a1 := ⟨_, rfl⟩
    obtain ⟨B, hB⟩ : ∃ B, x.1.2.1.1 = B := ⟨_, rfl⟩
    obtain ⟨n', hn'⟩ : ∃ n', x.1.2.1.2.1 = n' := ⟨_, rfl⟩
    obtain ⟨e', he'⟩ : ∃ e', x.1.2.1.2.2 = e' := ⟨_, rfl⟩
    have hgv : gv x = .slice B n' e' := by unfold gv; rw [hB, hn', he']
    rw [hB, hn', he'] at HX1
    rw [ha1, hn'] at HX2
    rw [ha1] at HS x0
    rw [hgv] at x1
    rw [ha1, hgv]
    have I1 := Lib.hid i1
    have I2 := Lib.hid i2
    have I3 := Lib.hid i3
    clear hrow ha1 hB hn' he' i1 i2 i3
    gi_wp2_with fail
    refine ⟨trivial, ?_⟩
    refine (CallsIn.inRound l (callsIn_wide.2 (lay_any g L n' e' B a1 row x.1.2.2 W 5 HL.out HX1.out.len hL HX2.out I1.out (HX1.out.keep I3.out.bel).lies))).mono ?_
    rintro e w' ⟨rfl, hh, rs⟩
    have HH := Lib.hid hh
    have RS := Lib.hid rs
    clear hh rs c6 x0 x1
    gi_wp2
    refine ⟨⟨by rw [RS.out.size]; exact Nat.le_refl _, fun k o hk ho hc => ?_⟩, ⟨by rw [RS.out.size]; exact Nat.le_refl _, fun k hk hg => RS.out.other k hg⟩, ?_⟩
    · rw [RS.out.other k ?_]
      · exact ho
      · intro e
        subst e
        rw [I1.out] at ho
        injection ho with ho
        subst ho
        simp [Obj.isCells] at hc
    · refine ⟨?_, (RS.out.other _ (by omega)).trans I2.out, ⟨I3.out.bel.trans (RS.out.below hgw), I3.out.2.1.row RS.out (by omega), I3.out.2.2.row RS.out (by omega)⟩, by rw [RS.out.size]; exact i4⟩
      rw [HS.out]
      exact HH.out
  case done =>
    rintro D ys W hD rfl hinv hK2
    obtain ⟨i1, i2, i3, i4⟩ := hinv
    have HU : Hid (layAll zs.reverse m.1 = undo (m.2.drop mk) m.1) := by rw [layAll_undo, HZ3.out]; rfl
    have HUL := Lib.hid (layAll_len zs.reverse m.1 HM.out.len1)
    rw [HU.out] at i1 HUL
    have HBy : Hid (Byt W (.slice (some ⟨g, 0, none⟩) L L) (undo (m.2.drop mk) m.1)) := by
      have := byt_block i1 (by rw [HUL.out]; exact hL)
      rw [HUL.out] at this
      exact this
    have c6 : W.cell? ⟨w2.heap.size, 0, none⟩ = some (.slice (some ⟨g, 0, none⟩) L L) := by simp [World.cell?, i2]
    obtain ⟨x0, x1, _, _⟩ := i3.2.1.use
    obtain ⟨x2, x3, x4, x5⟩ := i3.2.2.use
    obtain ⟨qs, HQ, hlq, htl⟩ : ∃ qs : List Qt, Hid (qs.length = K) ∧ Lies w P (pc qs) ∧ Tells w qs m.2 := HM.out.patq
    have HQL : Hid ((qs.take mk).length = mk) := by have := HQ.out; show _ = _; rw [List.length_take]; omega
    have HLQ : Hid (Lies w P (pc (qs.take mk))) := by
      show Lies _ _ _
      rcases hlq with e | ⟨g', o, rfl, hg, hc⟩
      · rw [pc_take, e]; exact .inl (by simp)
      · have h4 := Lies.part (.inr ⟨g', o, rfl, hg, hc⟩ : Lies w (some ⟨g', o, none⟩) (pc qs)) 0 (2 * mk)
        rw [pc_take]
        simpa using h4
    have HTQ := Lib.hid (htl.take mk)
    have hmd : (mk : Int) ≤ (d : Int) := by omega
    have I3 := Lib.hid i3
    have HK2 := Lib.hid hK2
    have CO : Hid (∀ w1, Below w.heap.size w w1 → Calls Try.prog 59 #[.slice P mk d] w1 fun e w' => ∃ g, e = .returned (.slice (some ⟨g, 0, none⟩) mk mk) ∧ w1.heap.size ≤ g ∧ w'.heap[g]? = some (.cells (pc (qs.take mk)).toArray 76 (0, 0)) ∧ Below w1.heap.size w1 w') := fun w1 hb => own_pt P mk d (qs.take mk) w1 HQL.out (by omega) (HLQ.out.keep hb) (pc_one HTQ.out)
    have hlt6 : w2.heap.size < W.heap.size := (Array.getElem?_eq_some_iff.1 i2).1
    have hmx : Try.prog.follows .mixedOrders = true := by kernel_rfl
    clear hlq htl i1 i2 i3 hK2
    gi_wp2
    refine wpIn_noPanic ?_
    gi_region_with_o (refine ⟨trivial, ?_⟩; gi_at_call 59; refine (callsIn_wide.2 (CO.out _ (by first | exact I3.out.bel.drew | exact I3.out.bel))).mono ?_; rintro e w4 ⟨g4, rfl, hg4, hh, b4⟩; have y6 : w4.cell? ⟨w2.heap.size, 0, none⟩ = some (.slice (some ⟨g, 0, none⟩) L L) := (b4.cell (p := ⟨w2.heap.size, 0, none⟩) hlt6).trans c6; have F4 := I3.out.drew.keep b4; obtain ⟨y2, y3, y4, y5⟩ := F4.2.2.use)
    all_goals (refine NoPanic.normal ?_)
    all_goals gi_wp2
    all_goals
      have HD2 : Hid (((w4.setCell ⟨w.heap.size + 1, 0, none⟩ (.slice (some ⟨g, 0, none⟩) L L)).setCell ⟨w.heap.size + 1, 1, none⟩ (.slice (some ⟨g4, 0, none⟩) mk mk)).heap[D]? = some (.deferred (some []))) := by
        have hDW : D < W.heap.size := (Array.getElem?_eq_some_iff.1 HK2.out).1
        have h5 : w4.heap[D]? = some (.deferred (some [])) := (b4.block D hDW).trans HK2.out
        exact ((row_put w4 (w.heap.size + 1) _ _).other D (by omega)).trans h5
      refine ⟨by simp, .inl ⟨_, _, rfl, run_takeDeferred HD2.out, ?_⟩⟩
      have hM4 : IsMem w4 (.agg #[.slice (some ⟨g, 0, none⟩) L L, .slice (some ⟨g4, 0, none⟩) mk mk]) (undo (m.2.drop mk) m.1, m.2.take mk) := by
        have hb4 : Below W.heap.size W w4 := (Below.refl W.heap.size W).drew.trans b4
        refine mem_mk (HBy.out.keep hb4) ?_
        have e5 : (m.2.take mk).length = mk := by rw [List.length_take, HM.out.len2]; omega
        exact ⟨some ⟨g4, 0, none⟩, mk, qs.take mk, by rw [e5], by rw [e5]; exact Nat.le_refl _, by unfold maxLen; omega, lies_block hh, HTQ.out.keep (I3.out.bel.trans (hb4.mono I3.out.bel.size))⟩
      have hM5 := F4.mem hM4 (.slice (some ⟨g, 0, none⟩) L L) (.slice (some ⟨g4, 0, none⟩) mk mk)
      have hM6 := hM5.put HD2.out (.deferred none)
      obtain ⟨r0, r1, _, _⟩ := ((F4.2.2.put (.slice (some ⟨g, 0, none⟩) L L) (.slice (some ⟨g4, 0, none⟩) mk mk)).row (rowSet_putObj D _ (.deferred none)) (by omega)).use
      refine ⟨.tuple #[.agg #[.slice (some ⟨g, 0, none⟩) L L, .slice (some ⟨g4, 0, none⟩) mk mk], .int .i64 0], ?_, _, _, _, _, _, _, rfl, hM6, (F4.put _ _).trans ((rowSet_putObj D _ (.deferred none)).below (by omega))⟩
      simp [results, Try.results36, go_sem, r0, r1]
  case stop =>
    rintro D c' pre W _ _ h _
    exact h.elim
end Go.Proofs.Ytngmkbbeafefaaa
